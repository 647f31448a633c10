import PyProof.Rows.All
import Wide.All
import OpenK.AllK
import Wide.FinOn
import Lean
import PyProof.EqAt
import PyProof.EqKinds
import PyProof.TupleCall
import PyProof.NeKinds
import PyProof.ListRange
import KE.KDictSum
import Wide.Seal
import PyProof.EnumIter
import PyProof.EnumFor
import PyProof.EnumMake
import PyProof.EnumStmt
import PyProof.ConsumeWalk
import KE.KPairComp
import PyProof.DictItemsLoops
import KE.KEqDict
import PyProof.AttrMissSeq
import PyProof.CollectWalk
import OpenK.KTop
import PyProof.TupleOps
import PyProof.ListMulRoad
import PyProof.FactsAll.tuple_2
import PyProof.ZipIter
import PyProof.TupleIter
import PyProof.WalksMore
import KE.KTurns
import PyProof.StationsW
import PyProof.Rows.OwnQ
import OpenK.KOwn
import KE.KTryMore
import PyProof.NsDelKeeps
import PyProof.ExcArgsOwn
import PyProof.ExcAttrAll.ValueError
import PyProof.InstStoreFacts
import PyProof.ExcBaseAll.ValueError
import PyProof.Rows.FStr
import OpenK.KCls
import PyProof.StrBlock2
import PyProof.Rows.SortWalk
import KE.KFind
import PyProof.Rows.TupAdd
import PyProof.FactsAll.subtypes_4
import PySem.Challenge.RW_widenrows_k41_what_is_no_wish
set_option Elab.async false
set_option linter.all false
set_option maxRecDepth 100000
/-! THE HAND LAYER, for ints, bools, texts, own classes, LISTS and tuples (index, slices, in, append, pop ..), calls, loops. Paste it whole ahead of your own text; what your proof does not reach may be deleted. -/
namespace L2
open PySem PySem.Spec PyProof.Rows

/-- a key: an int or a str -/
abbrev Key := Sum Int Str
def keyIs : Key → Value → Bool
  | .inl k, v => Value.isInt k v
  | .inr x, v => Value.isStrOf x v
def keyH (w : World) : Key → Int
  | .inl k => hashInt k
  | .inr x => hashStr w x
theorem keyIs_shape : ∀ {k : Key} {v : Value}, keyIs k v = true → (∃ i t, k = Sum.inl i ∧ v = Value.int i t) ∨ (∃ x t, k = Sum.inr x ∧ v = Value.str x t)
  | .inl i, v, h => by
    obtain ⟨t, e⟩ := Value.isInt_shape (k := i) (v := v) h
    exact .inl ⟨i, t, rfl, e⟩
  | .inr x, v, h => by
    obtain ⟨t, e⟩ := Value.isStrOf_shape (x := x) (v := v) h
    exact .inr ⟨x, t, rfl, e⟩
theorem key_ll (a b : Int) : decide ((Sum.inl a : Key) = Sum.inl b) = (a == b) := by
  by_cases e : a = b
  · subst e; simp
  · have h : ¬ (Sum.inl a : Key) = Sum.inl b := fun q => e (Sum.inl.inj q)
    rw [decide_eq_false h]
    exact (beq_eq_false_iff_ne.mpr e).symm
theorem key_rr (a b : Str) : decide ((Sum.inr a : Key) = Sum.inr b) = decide (a = b) := by
  by_cases e : a = b
  · subst e; simp
  · have h : ¬ (Sum.inr a : Key) = Sum.inr b := fun q => e (Sum.inr.inj q)
    rw [decide_eq_false h, decide_eq_false e]
theorem key_lr (a : Int) (b : Str) : decide ((Sum.inl a : Key) = Sum.inr b) = false := decide_eq_false (fun q => nomatch q)
theorem key_rl (a : Str) (b : Int) : decide ((Sum.inr a : Key) = Sum.inl b) = false := decide_eq_false (fun q => nomatch q)

def mixKind (prog : Program) (w : World) : PySem.KeyKind prog w Key where
  is := keyIs
  hash := keyH w
  inj := fun v a b ha hb => by
    rcases keyIs_shape ha with ⟨i, t, rfl, rfl⟩ | ⟨x, t, rfl, rfl⟩
    · rcases keyIs_shape hb with ⟨j, u, rfl, e⟩ | ⟨y, u, rfl, e⟩
      · injection e with e1 _; rw [e1]
      · exact nomatch e
    · rcases keyIs_shape hb with ⟨j, u, rfl, e⟩ | ⟨y, u, rfl, e⟩
      · exact nomatch e
      · injection e with e1 _; rw [e1]
  byValue := fun k v h => by
    rcases keyIs_shape h with ⟨i, t, rfl, rfl⟩ | ⟨x, t, rfl, rfl⟩ <;> rfl
  pyHash := fun hv h => by
    rcases keyIs_shape hv with ⟨i, t, rfl, rfl⟩ | ⟨x, t, rfl, rfl⟩
    · exact wpAny_pyHash_int h
    · exact wpAny_pyHash_str h
  eqBool := fun hu hv h => by
    rcases keyIs_shape hu with ⟨i, t, rfl, rfl⟩ | ⟨x, t, rfl, rfl⟩
    · rcases keyIs_shape hv with ⟨j, u, rfl, rfl⟩ | ⟨y, u, rfl, rfl⟩
      · rw [key_ll] at h; exact wpAny_eqBool_int h
      · rw [key_lr] at h; exact SeqAt.EqAt.int_str i t y u _ _ _ _ h
    · rcases keyIs_shape hv with ⟨j, u, rfl, rfl⟩ | ⟨y, u, rfl, rfl⟩
      · rw [key_rl] at h; exact SeqAt.EqAt.str_int x t j u _ _ _ _ h
      · rw [key_rr] at h; exact wpAny_eqBool_str h
  «strs» := fun k x t v h => by
    rcases keyIs_shape h with ⟨i, u, rfl, e⟩ | ⟨y, u, rfl, e⟩
    · exact nomatch e
    · injection e with e1 _
      subst e1
      cases v <;> rfl

end L2

namespace L2
open PySem PySem.Spec PyProof.Rows

/-- a value, without the heap -/
inductive V where
  | non | bl (b : Bool) | int (i : Int) | str (x : Str) | byt (b : Array UInt8) | flt (b : UInt64) | ref (a : Addr) | ty (n : String)
  deriving DecidableEq

def RelV : V → Value → Prop
  | .non, u => u = Value.none
  | .bl b, u => u = Value.bool b
  | .int i, u => ∃ t, u = Value.int i t
  | .str x, u => ∃ t, u = Value.str x t
  | .byt b, u => ∃ t, u = Value.bytes b t
  | .flt b, u => ∃ t, u = Value.float b t
  | .ref a, u => u = Value.ref a
  | .ty n, u => u = Value.type n

abbrev Vals : List V → List Value → Prop := Paired RelV
theorem Vals.length {xs : List V} {us : List Value} (r : Vals xs us) : xs.length = us.length := Paired.length r
theorem Vals.get : ∀ {xs : List V} {us : List Value} {i : Nat} {x : V}, Vals xs us → xs[i]? = some x → ∃ u, us[i]? = some u ∧ RelV x u
  | _, _, _, _, .nil, e => by simp at e
  | _, _, 0, _, .cons r _, e => by simp at e; subst e; exact ⟨_, rfl, r⟩
  | _, _, i + 1, x, .cons _ t, e => by
    obtain ⟨u, h1, h2⟩ := Vals.get (i := i) (x := x) t (by simpa using e)
    exact ⟨u, by simpa using h1, h2⟩
theorem Vals.set {x : V} {u : Value} (r : RelV x u) : ∀ {xs : List V} {us : List Value} (i : Nat), Vals xs us → Vals (xs.set i x) (us.set i u)
  | _, _, _, .nil => .nil
  | _, _, 0, .cons _ t => .cons r t
  | _, _, i + 1, .cons q t => .cons q (Vals.set r i t)
theorem Vals.append : ∀ {xs ys : List V} {us ws : List Value}, Vals xs us → Vals ys ws → Vals (xs ++ ys) (us ++ ws)
  | _, _, _, _, .nil, s => s
  | _, _, _, _, .cons r t, s => .cons r (Vals.append t s)
theorem Vals.take : ∀ {xs : List V} {us : List Value} (n : Nat), Vals xs us → Vals (xs.take n) (us.take n)
  | _, _, 0, _ => .nil
  | _, _, _ + 1, .nil => .nil
  | _, _, n + 1, .cons r t => .cons r (Vals.take n t)
theorem Vals.drop : ∀ {xs : List V} {us : List Value} (n : Nat), Vals xs us → Vals (xs.drop n) (us.drop n)
  | _, _, 0, r => r
  | _, _, _ + 1, .nil => .nil
  | _, _, n + 1, .cons _ t => Vals.drop n t

def RelO : Option V → Option Value → Prop
  | some v, some u => RelV v u
  | none, none => True
  | _, _ => False
def KV {κ : Type} : List (κ × V) → List (κ × Value) → Prop := Paired fun (p : κ × V) (q : κ × Value) => p.1 = q.1 ∧ RelV p.2 q.2

/-- a key of a dict (00_mix): an int or a text -/
def kV : Key → V
  | .inl i => .int i
  | .inr x => .str x

/-- what stands at a tracked address -/
inductive HO where
  /-- a list -/
  | lst (xs : List V)
  /-- a tuple (never changes) -/
  | tup (xs : List V)
  /-- a dict whose keys are ints and texts; one whose keys are tuples of ints and texts (the empty one is both) -/
  | dK (kvs : List (Key × V)) | dT (kvs : List (List Key × V))
  /-- a set of ints: its members, its size -/
  | set (S : Int → Bool) (n : Nat)
  /-- an instance of the class at C, its dict at dx, its attributes -/
  | ins (C dx : Addr) (fs : List (Str × V))
  /-- the dict of the instance at x -/
  | own (x : Addr)
  /-- the dict of an exception -/
  | xd (fs : List (Str × V))
  /-- a bound method, f of x -/
  | met (f x : Addr)
  /-- a range object lo, lo + 1, .. below hi -/
  | rng (lo hi : Int)
  /-- a thing that is known to the object (the script; a dict while a loop walks it): read, never written while it is so -/
  | frz (o : Obj) (u : HO)
  /-- a code object's table -/
  | tbl (ps : Array Value)
  /-- any other thing, by what is true of its one object (a def of one's own: SetO a S n := HO.ext fun h => ..) -/
  | ext (φ : Heap → Prop)

abbrev Hp := Addr → Option HO
def upd (H : Hp) (a : Addr) (o : HO) : Hp := fun b => if b = a then some o else H b
theorem upd_same {H : Hp} {a : Addr} {o : HO} : upd H a o a = some o := by unfold upd; rw [if_pos rfl]
theorem upd_ne {H : Hp} {a b : Addr} {o : HO} (h : b ≠ a) : upd H a o b = H b := by unfold upd; rw [if_neg h]
theorem ne_of_none {H : Hp} {a b : Addr} {o : HO} (h : H a = some o) (h' : H b = none) : a ≠ b := by
  intro e; subst e; rw [h] at h'; cases h'

section
variable (P : Program) (w : World)
def ObjOk (H : Hp) (h : Heap) (a : Addr) : HO → Prop
  | .lst xs => xs.length ≤ sizeLine ∧ ∃ (its : List Value) (n : Nat), Vals xs its ∧ h.get? a = some { cls := .type "list", data := .seq its.toArray n }
  | .tup xs => xs.length ≤ sizeLine ∧ ∃ its : List Value, Vals xs its ∧ IsTup h a its.toArray
  | .dK kvs => kvs.length ≤ sizeLine ∧ (a == sysModules) = false ∧ ∃ vs, KV kvs vs ∧ h.DictOf (mixKind P w) a vs
  | .dT kvs => kvs.length ≤ sizeLine ∧ (a == sysModules) = false ∧ ∃ xs : List (List Key × Addr × Value),
      Paired (fun (p : List Key × V) (q : List Key × Addr × Value) => p.1 = q.1 ∧ H q.2.1 = some (.tup (p.1.map kV)) ∧ RelV p.2 q.2.2) kvs xs ∧
      ∃ o es ep, h.get? a = some o ∧ o.ExactDict ∧ o.data = .dict es ep ∧ es.toList = xs.map (entryOfKey (tupleKind (mixKind P w))) ∧ (xs.map (·.1)).Nodup
  | .set S n => h.SetOf (intKind P w) a S n
  | .ins C dx fs => H dx = some (.own a) ∧ fs.length ≤ 1000 ∧ dx ≠ a ∧ h.get? a = some (PySem.W.instObj C dx) ∧
      ∃ mA, h.Ns1 dx mA ∧ (∀ f, RelO (fs.lookup f) (mA f)) ∧ PySem.Within mA (fs.map (·.1))
  | .own _ => ∃ o, h.get? a = some o
  | .xd fs => ∃ mA, h.Ns1 a mA ∧ ∀ f, RelO (fs.lookup f) (mA f)
  | .rng lo hi => ∃ t u v, h.get? a = some { cls := .type "range", data := .fields #[.int lo t, .int hi u, .int 1 v] }
  | .frz o u => h.get? a = some o ∧ ObjOk H h a u
  | .tbl ps => h.get? a = some { cls := .none, data := .fields ps }
  | .met f x => h.get? a = some (PySem.W.methodObj (.ref f) (.ref x))
  | .ext φ => φ h ∧ (∃ o, h.get? a = some o) ∧ ∀ h1 h2 : Heap, φ h1 → (∀ o, h1.get? a = some o → h2.get? a = some o) → φ h2
/-- the abstract heap is held -/
def HOk (H : Hp) (h : Heap) : Prop := ∀ a o, H a = some o → ObjOk P w H h a o
end

section
variable {P : Program} {w : World} {H H' : Hp} {h h' : Heap} {a : Addr} {o : HO}
theorem ObjOk.lt (x : ObjOk P w H h a o) : a < h.objs.size := by
  cases o with
  | lst xs => obtain ⟨_, _, _, _, e⟩ := x; exact Heap.lt_size e
  | tup xs => obtain ⟨_, _, _, p⟩ := x; exact p.lt
  | dK kvs => obtain ⟨_, _, _, _, o, _, _, e, _⟩ := x; exact Heap.lt_size e
  | dT kvs => obtain ⟨_, _, _, _, o, _, _, e, _⟩ := x; exact Heap.lt_size e
  | set S n => obtain ⟨o, _, _, _, e, _⟩ := x; exact Heap.lt_size e
  | ins C dx fs => obtain ⟨_, _, _, e, _⟩ := x; exact Heap.lt_size e
  | own y => obtain ⟨_, e⟩ := x; exact Heap.lt_size e
  | xd fs => obtain ⟨_, ⟨_, _, _, e, _⟩, _⟩ := x; exact Heap.lt_size e
  | rng lo hi => obtain ⟨_, _, _, e⟩ := x; exact Heap.lt_size e
  | frz ob u => obtain ⟨e, _⟩ := x; exact Heap.lt_size e
  | tbl ps => exact Heap.lt_size (show h.get? a = some _ from x)
  | met f y => exact Heap.lt_size (show h.get? a = some _ from x)
  | ext φ => obtain ⟨_, ⟨_, e⟩, _⟩ := x; exact Heap.lt_size e
theorem Paired.mapP {α β : Type} {F G : α → β → Prop} : ∀ {l₁ : List α} {l₂ : List β}, Paired F l₁ l₂ → (∀ a b, F a b → G a b) → Paired G l₁ l₂
  | _, _, .nil, _ => .nil
  | _, _, .cons r t, f => .cons (f _ _ r) (Paired.mapP t f)
/-- what an object's description leans on: its own object, its own dict, the tuples -/
theorem ObjOk.stay (x : ObjOk P w H h a o) (k : ∀ b u, (b = a ∨ H b = some (.own a)) → h.get? b = some u → h'.get? b = some u)
    (ho : ∀ b, H b = some (.own a) → H' b = some (.own a)) (ht : ∀ b xs, H b = some (.tup xs) → H' b = some (.tup xs)) : ObjOk P w H' h' a o := by
  induction o with
  | lst xs => obtain ⟨z, its, n, r, e⟩ := x; exact ⟨z, its, n, r, k _ _ (.inl rfl) e⟩
  | tup xs => obtain ⟨z, its, r, ob, e, c⟩ := x; exact ⟨z, its, r, ob, k _ _ (.inl rfl) e, c⟩
  | dK kvs => obtain ⟨z, y, vs, r, ob, es, ep, e, c⟩ := x; exact ⟨z, y, vs, r, ob, es, ep, k _ _ (.inl rfl) e, c⟩
  | dT kvs =>
    obtain ⟨z, y, xs, r, ob, es, ep, e, c⟩ := x
    exact ⟨z, y, xs, Paired.mapP r fun p q z => ⟨z.1, ht _ _ z.2.1, z.2.2⟩, ob, es, ep, k _ _ (.inl rfl) e, c⟩
  | set S n => obtain ⟨ob, es, ep, t, e, c⟩ := x; exact ⟨ob, es, ep, t, k _ _ (.inl rfl) e, c⟩
  | ins C dx fs =>
    obtain ⟨d, z, ne, e, mA, ⟨od, es, ep, e2, c⟩, r⟩ := x
    exact ⟨ho _ d, z, ne, k _ _ (.inl rfl) e, mA, ⟨od, es, ep, k _ _ (.inr d) e2, c⟩, r⟩
  | own y => obtain ⟨ob, e⟩ := x; exact ⟨ob, k _ _ (.inl rfl) e⟩
  | xd fs => obtain ⟨mA, ⟨od, es, ep, e, c⟩, r⟩ := x; exact ⟨mA, ⟨od, es, ep, k _ _ (.inl rfl) e, c⟩, r⟩
  | rng lo hi => obtain ⟨t, u, v, e⟩ := x; exact ⟨t, u, v, k _ _ (.inl rfl) e⟩
  | frz ob u ih => obtain ⟨e, q⟩ := x; exact ⟨k _ _ (.inl rfl) e, ih q⟩
  | tbl ps =>
    have e : h.get? a = some { cls := .none, data := .fields ps } := x
    show h'.get? a = some { cls := .none, data := .fields ps }
    exact k a _ (.inl rfl) e
  | met f y =>
    have e : h.get? a = some (PySem.W.methodObj (.ref f) (.ref y)) := x
    show h'.get? a = some (PySem.W.methodObj (.ref f) (.ref y))
    exact k a _ (.inl rfl) e
  | ext φ => obtain ⟨p, ⟨o, e⟩, st⟩ := x; exact ⟨st _ _ p fun o q => k _ _ (.inl rfl) q, ⟨o, k _ _ (.inl rfl) e⟩, st⟩
theorem HOk.lt (x : HOk P w H h) (e : H a = some o) : a < h.objs.size := (x a o e).lt
theorem HOk.fresh (x : HOk P w H h) (e : h.objs.size ≤ a) : H a = none := by
  cases q : H a with
  | none => rfl
  | some u => exact absurd (Nat.lt_of_lt_of_le (x.lt q) e) (Nat.lt_irrefl _)
/-- every object of the heap is kept -/
theorem HOk.kept (x : HOk P w H h) (k : ∀ b u, h.get? b = some u → h'.get? b = some u) : HOk P w H h' := fun a o e =>
  (x a o e).stay (fun b u _ q => k b u q) (fun _ q => q) fun _ _ q => q
/-- a new object is laid and tracked -/
theorem HOk.laid (x : HOk P w H h) (k : ∀ b u, h.get? b = some u → h'.get? b = some u) (hp : h.objs.size ≤ a) (new : ObjOk P w (upd H a o) h' a o) : HOk P w (upd H a o) h' := fun b u e => by
  have hn := x.fresh hp
  by_cases hb : b = a
  · subst hb; rw [upd_same] at e; cases e; exact new
  · rw [upd_ne hb] at e
    exact (x b u e).stay (fun c v _ q => k c v q) (fun c q => by rw [upd_ne (ne_of_none q hn)]; exact q) fun c xs q => by rw [upd_ne (ne_of_none q hn)]; exact q
end

/-- what may be read as u: it is u, or a known u -/
def Rd (H : Hp) (a : Addr) (u : HO) : Prop := H a = some u ∨ ∃ o, H a = some (.frz o u)
theorem Rd.ok {P : Program} {w : World} {H : Hp} {h : Heap} {a : Addr} {u : HO} (r : Rd H a u) (x : HOk P w H h) : ObjOk P w H h a u := by
  rcases r with r | ⟨o, r⟩
  · exact x a u r
  · obtain ⟨_, q⟩ := x a _ r
    exact q
/-- what may be written -/
def Mut : Option HO → Prop
  | some (.lst _) => True
  | some (.dK _) => True
  | some (.dT _) => True
  | some (.set _ _) => True
  | some (.ins _ _ _) => True
  | some (.ext _) => True
  | _ => False
section
variable {P : Program} {w : World} {H : Hp} {h h' : Heap} {x e : Addr} {o' : HO}
/-- the object at e is changed: x itself, or the dict of the instance x -/
theorem HOk.write (ok : HOk P w H h) (mu : Mut (H x)) (he : e = x ∨ H e = some (.own x)) (k : ∀ b u, b ≠ e → h.get? b = some u → h'.get? b = some u) (heo : ∃ u, h'.get? e = some u)
    (new : ObjOk P w (upd H x o') h' x o') : HOk P w (upd H x o') h' := fun b u q => by
  have nown : ∀ c y, H c = some (.own y) → c ≠ x := fun c y r z => by subst z; rw [r] at mu; exact mu
  have ntup : ∀ c xs, H c = some (.tup xs) → c ≠ x := fun c xs r z => by subst z; rw [r] at mu; exact mu
  by_cases hb : b = x
  · subst hb; rw [upd_same] at q; cases q; exact new
  · rw [upd_ne hb] at q
    by_cases hbe : b = e
    · have q' : H b = some (.own x) := by
        rcases he with z | z
        · exact absurd (hbe.trans z) hb
        · rw [hbe]; exact z
      rw [q] at q'; cases q'
      obtain ⟨v, hv⟩ := heo
      exact ⟨v, by rw [hbe]; exact hv⟩
    · refine (ok b u q).stay (fun c v hc r => k c v ?_ r) (fun c r => by rw [upd_ne (nown c b r)]; exact r) fun c xs r => by rw [upd_ne (ntup c xs r)]; exact r
      rcases hc with rfl | hc
      · exact hbe
      · rintro rfl
        rcases he with z | z
        · exact nown c b hc z
        · rw [hc] at z; cases z; exact hb rfl
end

/-! ### kept unless tracked; of the frames at fs (the callers') the slots may change (an exception that passes writes there); of the records at ex (iterators) nothing is said -/
structure Un (fs ex : List Addr) (H H' : Hp) (h h' : Heap) : Prop where
  keep : ∀ b o, h.get? b = some o → H b = none → b ∉ fs → b ∉ ex → h'.get? b = some o
  slot : ∀ b o, h.get? b = some o → H b = none → b ∈ fs → b ∉ ex → ∃ sl, h'.get? b = some { o with slots := sl }
  free : ∀ b o, h.get? b = some o → H b = none → b ∉ ex → H' b = none
  there : ∀ b o, h.get? b = some o → b ∉ ex → ∃ o', h'.get? b = some o'
  tups : ∀ b xs, H b = some (.tup xs) → H' b = some (.tup xs)
  frzs : ∀ b o u, H b = some (.frz o u) → H' b = some (.frz o u)
  tbls : ∀ b ps, H b = some (.tbl ps) → ∃ more, H' b = some (.tbl (ps ++ more))
section
variable {fs fs' ex ex' : List Addr} {H H1 H2 : Hp} {h h1 h2 h' : Heap} {a x e : Addr} {o : HO}
theorem Un.any (u : Un fs ex H H1 h h1) {b : Addr} {ob : Obj} (q : h.get? b = some ob) (n : H b = none) (hx : b ∉ ex) : ∃ sl, h1.get? b = some { ob with slots := sl } := by
  by_cases hb : b ∈ fs
  · exact u.slot b ob q n hb hx
  · exact ⟨ob.slots, u.keep b ob q n hb hx⟩
theorem Un.kept (k : ∀ b u, h.get? b = some u → h'.get? b = some u) : Un fs ex H H h h' :=
  ⟨fun b ob q _ _ _ => k b ob q, fun b ob q _ _ _ => ⟨ob.slots, k b ob q⟩, fun _ _ _ n _ => n, fun b ob q _ => ⟨ob, k b ob q⟩, fun _ _ q => q, fun _ _ _ q => q, fun _ ps q => ⟨#[], by rw [q]; simp⟩⟩
theorem Un.refl : Un fs ex H H h h := Un.kept fun _ _ q => q
theorem Un.laid (k : ∀ b u, h.get? b = some u → h'.get? b = some u) (hp : h.objs.size ≤ a) (hn : H a = none) : Un fs ex H (upd H a o) h h' where
  keep := fun b u q _ _ _ => k b u q
  slot := fun b u q _ _ _ => ⟨u.slots, k b u q⟩
  free := fun b u q n _ => by rw [upd_ne (Nat.ne_of_lt (Nat.lt_of_lt_of_le (Heap.lt_size q) hp))]; exact n
  there := fun b u q _ => ⟨u, k b u q⟩
  tups := fun b xs q => by rw [upd_ne (ne_of_none q hn)]; exact q
  frzs := fun b u xs q => by rw [upd_ne (ne_of_none q hn)]; exact q
  tbls := fun b ps q => ⟨#[], by rw [upd_ne (ne_of_none q hn), q]; simp⟩
theorem Un.write (mu : Mut (H x)) (he : e = x ∨ H e = some (.own x)) (k : ∀ b u, b ≠ e → h.get? b = some u → h'.get? b = some u) (heo : ∃ u, h'.get? e = some u) : Un fs ex H (upd H x o) h h' := by
  have hx : ∀ b, H b = none → b ≠ x := fun b n z => by subst z; rw [n] at mu; exact mu
  have hb : ∀ b, H b = none → b ≠ e := fun b n z => by
    subst z
    rcases he with r | r
    · exact hx b n r
    · rw [n] at r; cases r
  have hm : ∀ b u, H b = some u → ¬ Mut (some u) → b ≠ x := fun b u q nm z => by subst z; rw [q] at mu; exact nm mu
  refine ⟨fun b u q n _ _ => k b u (hb b n) q, fun b u q n _ _ => ⟨u.slots, k b u (hb b n) q⟩, fun b u q n _ => by rw [upd_ne (hx b n)]; exact n, fun b u q _ => ?_,
    fun b xs q => by rw [upd_ne (hm b _ q fun z => z)]; exact q, fun b u xs q => by rw [upd_ne (hm b _ q fun z => z)]; exact q, fun b ps q => ⟨#[], by rw [upd_ne (hm b _ q fun z => z), q]; simp⟩⟩
  by_cases hbe : b = e
  · subst hbe; exact heo
  · exact ⟨u, k b u hbe q⟩
end

/-! ### the heap without what is tracked -/
def trk (h : Heap) (H : Hp) : List Addr := (List.range h.objs.size).filter fun a => (H a).isSome
def hidT (h : Heap) (H : Hp) : Heap := PySem.W.hideAll h (trk h H)
theorem hidT_size (h : Heap) (H : Hp) : (hidT h H).objs.size = h.objs.size := PySem.W.hideAll_size _ _
theorem hidT_get {h : Heap} {H : Hp} {b : Addr} {o : Obj} (e : h.get? b = some o) (n : H b = none) : (hidT h H).get? b = some o :=
  PySem.W.hideAll_get _ e fun hm => by
    have q : (H b).isSome = true := (List.mem_filter.mp hm).2
    rw [n] at q; simp at q
theorem of_hidT {h : Heap} {H : Hp} {b : Addr} {o : Obj} (e : (hidT h H).get? b = some o) : h.get? b = some o ∧ H b = none := by
  have e' : h.get? b = some o := PySem.W.of_hideAll (trk h H) e
  refine ⟨e', ?_⟩
  cases q : H b with
  | none => rfl
  | some x =>
    have hm : b ∈ trk h H := List.mem_filter.mpr ⟨List.mem_range.mpr (Heap.lt_size e'), by simp [q]⟩
    have z : (hidT h H).get? b = none := PySem.W.hideAll_none (trk h H) hm
    rw [z] at e; cases e

/-! ### OpenK's ledger, filled with every new object but one -/
end L2

namespace L2
open PySem PySem.Spec PyProof.Rows

/-- the module's facts, over the base: the heap at the law's entry without what is tracked there -/
structure Mod (K : PySem.W.Frag) (mg : Str → Option Value) (base : Heap) : Prop where
  kin : K.In base
  glob : base.Ns mainGlobals mg
  blt : ∃ mb, base.Ns builtinsNs mb ∧ ∀ x : Str, x ≠ "__name__" → mb x = bootBuiltins x
  nolimit : base.NoLimit

/-- the context: a def's body (or a comprehension's block) running. base: fixed through the whole law; s₀, H₀: the entry; outer: the frames whose slots others may change (a def's callers); stack: all frames that run;
   ex: iterators that were made ahead of the entry and are walked here (a comprehension's); fn: the names whose cells were made at the entry (a def: all; a comprehension's block: its own); calm: not within an except suite; pn: pins that every state bears; xe: what is wanted of an exception that leaves the code -/
structure Cx where
  prog : Program
  w : World
  K : PySem.W.Frag
  mg : Str → Option Value
  base : Heap
  A : Around
  N : List Str
  s₀ : Shared
  H₀ : Hp
  env : Env
  outer : List Env
  stack : List Env
  ex : List Addr
  fn : Str → Bool
  calm : Bool
  pn : List (Addr × Obj)
  xe : Value → Shared → Prop
/-- the callers' frames -/
def frs (l : List Env) : List Addr := l.filterMap (·.frame)
abbrev Cx.fs (X : Cx) : List Addr := frs X.outer

def Vis (sc : Scope) (x : Str) : Prop := sc.names.lookup x = some .local ∨ sc.names.lookup x = some .cell ∨ sc.names.lookup x = some .free
def Loc (sc : Scope) (x : Str) : Prop := sc.names.lookup x = some .local ∨ sc.names.lookup x = some .cell
def Look (env : Env) (h : Heap) (m : Str → Option Value) (x : Str) (u : Value) : Prop :=
  (env.kindOf x = some .local ∧ m x = some u) ∨ ((env.kindOf x = some .cell ∨ env.kindOf x = some .free) ∧ ∃ c, env.cells.lookup x = some c ∧ h.IsCell c (some u))

structure Cx.Ok (X : Cx) : Prop where
  mod : Mod X.K X.mg X.base
  kind : X.env.scope.kind = .function
  glob : X.env.globals = mainGlobals
  blt : X.env.builtins = builtinsNs
  above : X.s₀.heap.objs.size ≤ X.env.locals
  inj : ∀ x y c, X.env.cells.lookup x = some c → X.env.cells.lookup y = some c → x = y
  has : ∀ x, (X.env.kindOf x = some .cell ∨ X.env.kindOf x = some .free) → ∃ c, X.env.cells.lookup x = some c
  cab : ∀ x c, X.fn x = true → X.env.cells.lookup x = some c → X.s₀.heap.objs.size ≤ c
  hd : X.calm = true → X.A.handled = none
  frames : X.A.frames = some X.stack
  stk : X.stack = X.outer ∨ (X.stack = X.env :: X.outer ∧ X.env.frame = some X.env.locals)
  exf : ∀ b ∈ X.ex, b ≠ X.env.locals ∧ ∀ x c, X.env.cells.lookup x = some c → c ≠ b
  bs : ∀ b o, X.base.get? b = some o → X.s₀.heap.get? b = some o ∧ X.H₀ b = none
  bsz : X.base.objs.size ≤ X.s₀.heap.objs.size
  noex : ∀ b o, X.base.get? b = some o → b ∉ X.ex
  exfs : ∀ b ∈ X.ex, b ∉ X.fs
  funs : X.s₀.heap.FunFrames X.base X.outer
  frf : ∀ b ∈ X.fs, X.H₀ b = none

structure Inv (X : Cx) (pins : List (Addr × Obj)) (σ : List (Option V)) (H : Hp) (s : Shared) : Prop where
  ok : X.Ok
  os : s.os = X.s₀.os
  bare : AllBare s.gens
  base : Un X.fs X.ex X.H₀ H X.s₀.heap s.heap
  loc : ∃ m, s.heap.Ns X.env.locals m ∧ ∀ (i : Nat) (x : Str) (v : V), X.N[i]? = some x → σ[i]? = some (some v) → Vis X.env.scope x → ∃ u, RelV v u ∧ Look X.env s.heap m x u
  cell : ∀ x c, X.env.cells.lookup x = some c → ∃ v, s.heap.IsCell c v
  free : H X.env.locals = none
  freeC : ∀ x c, X.env.cells.lookup x = some c → H c = none
  pin : ∀ p ∈ X.pn ++ pins, s.heap.get? p.1 = some p.2 ∧ H p.1 = none ∧ p.1 ≠ X.env.locals ∧ p.1 ∉ X.fs ∧ ∀ v, p.2.data ≠ .cell v
  hok : HOk X.prog X.w H s.heap
  len : σ.length = X.N.length

section
variable {X : Cx} {pins : List (Addr × Obj)} {σ : List (Option V)} {H H' : Hp} {s : Shared} {h' : Heap}

theorem Cx.Ok.nofr (ok : X.Ok) {b : Addr} {o : Obj} (e : X.base.get? b = some o) : b ∉ X.fs := fun hb => by
  have := (ok.funs.mem hb).1
  rw [e] at this; cases this
theorem Inv.bs (I : Inv X pins σ H s) : ∀ b o, X.base.get? b = some o → s.heap.get? b = some o ∧ H b = none := fun b o e =>
  ⟨I.base.keep b o (I.ok.bs b o e).1 (I.ok.bs b o e).2 (I.ok.nofr e) (I.ok.noex b o e), I.base.free b o (I.ok.bs b o e).1 (I.ok.bs b o e).2 (I.ok.noex b o e)⟩
theorem Inv.bk (I : Inv X pins σ H s) : ∀ b o, X.base.get? b = some o → s.heap.get? b = some o := fun b o e => (I.bs b o e).1
theorem Inv.mod (I : Inv X pins σ H s) : Mod X.K X.mg X.base := I.ok.mod
theorem Inv.kIn (I : Inv X pins σ H s) : X.K.In s.heap := I.ok.mod.kin.keeps I.bk
theorem Inv.lt (I : Inv X pins σ H s) : X.env.locals < s.heap.objs.size := let ⟨_, hn, _⟩ := I.loc; hn.lt
theorem Inv.sz (I : Inv X pins σ H s) : X.s₀.heap.objs.size ≤ s.heap.objs.size := Nat.le_trans I.ok.above (Nat.le_of_lt I.lt)
theorem Inv.nofs (I : Inv X pins σ H s) {a : Addr} (h : s.heap.objs.size ≤ a) : a ∉ X.fs := fun hb => by
  obtain ⟨_, o, ho, _⟩ := I.ok.funs.mem hb
  exact absurd (Nat.lt_of_lt_of_le (Heap.lt_size ho) (Nat.le_trans I.sz h)) (Nat.lt_irrefl _)
theorem Inv.cne (I : Inv X pins σ H s) : ∀ x c, X.env.cells.lookup x = some c → c ≠ X.env.locals := fun x c e z => by
  obtain ⟨v, o, ho, hd⟩ := I.cell x c e
  obtain ⟨m, ⟨o', es, ep, ho', hd', _⟩, _⟩ := I.loc
  rw [z, ho'] at ho; cases ho; rw [hd'] at hd; cases hd
theorem Inv.funs (I : Inv X pins σ H s) : s.heap.FunFrames X.base X.outer := by
  have all : ∀ (l : List Env), (∀ b ∈ frs l, b ∈ X.fs) → X.s₀.heap.FunFrames X.base l → s.heap.FunFrames X.base l := by
    intro l
    induction l with
    | nil => intro _ _; trivial
    | cons env r ih =>
      intro hs hl
      obtain ⟨hk, ⟨L, o, hf, hn, ho, hd⟩, hr⟩ := hl
      have hL : L ∈ X.fs := hs L (by unfold frs; rw [List.filterMap_cons, hf]; exact List.mem_cons_self)
      obtain ⟨sl, e⟩ := I.base.slot L o ho (I.ok.frf L hL) hL fun z => I.ok.exfs L z hL
      exact ⟨hk, ⟨L, _, hf, hn, e, hd⟩, ih (fun b hb => hs b (by unfold frs; rw [List.filterMap_cons, hf]; exact List.mem_cons_of_mem _ hb)) hr⟩
  exact all X.outer (fun _ hb => hb) I.ok.funs

/-- the frames that run, for a call -/
theorem Inv.stack (I : Inv X pins σ H s) : s.heap.FunFrames X.base X.stack := by
  rcases I.ok.stk with e | ⟨e, hf⟩
  · rw [e]; exact I.funs
  · rw [e]
    obtain ⟨m, hn, _⟩ := I.loc
    refine .cons (by rw [I.ok.kind]; decide) hf hn ?_ I.funs
    exact Heap.get?_none_of_le (Nat.le_trans I.ok.bsz I.ok.above)
theorem Inv.stkSub (I : Inv X pins σ H s) : ∀ b ∈ frs X.stack, b ∈ X.env.locals :: X.fs := fun b hb => by
  rcases I.ok.stk with e | ⟨e, hf⟩
  · rw [e] at hb; exact List.mem_cons_of_mem _ hb
  · rw [e] at hb
    unfold frs at hb
    rw [List.filterMap_cons, hf] at hb
    exact hb
theorem Inv.stkFree (I : Inv X pins σ H s) : ∀ b ∈ frs X.stack, H b = none := fun b hb => by
  rcases List.mem_cons.mp (I.stkSub b hb) with e | hb
  · rw [e]; exact I.free
  · obtain ⟨_, o, ho, _⟩ := I.ok.funs.mem hb
    exact I.base.free b o ho (I.ok.frf b hb) fun z => I.ok.exfs b z hb

/-- THE STEP: the untracked objects but the frame and the records at ch are kept (the callers' frames up to slots), the frame's map is kept, the new abstract heap is held -/
theorem Inv.step {g' : Array GenState} {t' : Nat} {d' : Drawn} {ch : List Addr} (I : Inv X pins σ H s)
    (hch : ∀ b ∈ ch, (b ∈ X.ex ∨ X.s₀.heap.objs.size ≤ b) ∧ b ≠ X.env.locals ∧ (∀ x c, X.env.cells.lookup x = some c → c ≠ b) ∧ ∀ p ∈ X.pn ++ pins, p.1 ≠ b)
    (keep : ∀ b o, b ≠ X.env.locals → b ∉ X.fs → b ∉ ch → s.heap.get? b = some o → H b = none → h'.get? b = some o)
    (slot : ∀ b o, b ≠ X.env.locals → b ∈ X.fs → b ∉ ch → s.heap.get? b = some o → H b = none → ∃ sl, h'.get? b = some { o with slots := sl }) (free : ∀ b o, b ∉ ch → s.heap.get? b = some o → H b = none → H' b = none)
    (there : ∀ b o, b ∉ ch → s.heap.get? b = some o → ∃ o', h'.get? b = some o')
    (tups : ∀ b xs, H b = some (.tup xs) → H' b = some (.tup xs)) (frzs : ∀ b o u, H b = some (.frz o u) → H' b = some (.frz o u)) (tbls : ∀ b ps, H b = some (.tbl ps) → ∃ more, H' b = some (.tbl (ps ++ more)))
    (ns : ∀ m, s.heap.Ns X.env.locals m → h'.Ns X.env.locals m) (hok : HOk X.prog X.w H' h') (hg : AllBare g') :
    Inv X pins σ H' { s with heap := h', gens := g', drawn := d', toks := t' } := by
  have neL : ∀ b o, X.s₀.heap.get? b = some o → b ≠ X.env.locals := fun b o e => Nat.ne_of_lt (Nat.lt_of_lt_of_le (Heap.lt_size e) I.ok.above)
  have neC : ∀ b o, X.s₀.heap.get? b = some o → b ∉ X.ex → b ∉ ch := fun b o e hx hb => by
    rcases (hch b hb).1 with z | z
    · exact hx z
    · exact absurd (Nat.lt_of_lt_of_le (Heap.lt_size e) z) (Nat.lt_irrefl _)
  have cellK : ∀ x c, X.env.cells.lookup x = some c → ∀ v, s.heap.IsCell c v → h'.IsCell c v := fun x c e v ⟨o, ho, hd⟩ => by
    have nch : c ∉ ch := fun z => (hch c z).2.2.1 x c e rfl
    by_cases hc : c ∈ X.fs
    · obtain ⟨sl, q⟩ := slot c o (I.cne x c e) hc nch ho (I.freeC x c e)
      exact ⟨_, q, hd⟩
    · exact ⟨o, keep c o (I.cne x c e) hc nch ho (I.freeC x c e), hd⟩
  refine ⟨I.ok, I.os, hg, ⟨fun b o e n hb hx => ?_, fun b o e n hb hx => ?_, fun b o e n hx => ?_, fun b o e hx => ?_, fun b xs e => tups b xs (I.base.tups b xs e), fun b o xs e => frzs b o xs (I.base.frzs b o xs e), fun b ps e => ?_⟩, ?_, fun x c e => ?_, ?_, fun x c e => ?_, fun p hp => ?_, hok, I.len⟩
  · exact keep b o (neL b o e) hb (neC b o e hx) (I.base.keep b o e n hb hx) (I.base.free b o e n hx)
  · obtain ⟨sl, e1⟩ := I.base.slot b o e n hb hx
    obtain ⟨sl', e2⟩ := slot b _ (neL b o e) hb (neC b o e hx) e1 (I.base.free b o e n hx)
    exact ⟨sl', e2⟩
  · obtain ⟨o', e1⟩ := I.base.there b o e hx
    exact free b o' (neC b o e hx) e1 (I.base.free b o e n hx)
  · obtain ⟨o', e1⟩ := I.base.there b o e hx
    exact there b o' (neC b o e hx) e1
  · obtain ⟨m1, e1⟩ := I.base.tbls b ps e
    obtain ⟨m2, e2⟩ := tbls b _ e1
    exact ⟨m1 ++ m2, by rw [e2, Array.append_assoc]⟩
  · obtain ⟨m, hn, hl⟩ := I.loc
    refine ⟨m, ns m hn, fun i x v e1 e2 e3 => ?_⟩
    obtain ⟨u, r, l⟩ := hl i x v e1 e2 e3
    refine ⟨u, r, ?_⟩
    rcases l with l | ⟨k, c, e, z⟩
    · exact .inl l
    · exact .inr ⟨k, c, e, cellK x c e _ z⟩
  · obtain ⟨v, z⟩ := I.cell x c e
    exact ⟨v, cellK x c e v z⟩
  · obtain ⟨m, ⟨o, _, _, ho, _⟩, _⟩ := I.loc
    exact free _ o (fun z => (hch _ z).2.1 rfl) ho I.free
  · obtain ⟨v, o, ho, hd⟩ := I.cell x c e
    exact free c o (fun z => (hch c z).2.2.1 x c e rfl) ho (I.freeC x c e)
  · obtain ⟨e, n, ne, nf, d⟩ := I.pin p hp
    have nch : p.1 ∉ ch := fun z => (hch p.1 z).2.2.2 p hp rfl
    exact ⟨keep p.1 p.2 ne nf nch e n, free p.1 p.2 nch e n, ne, nf, d⟩
/-- .. where the frame's own object is kept too -/
theorem Inv.un {t' : Nat} (I : Inv X pins σ H s) (u : Un X.fs [] H H' s.heap h') (hok : HOk X.prog X.w H' h') : Inv X pins σ H' { s with heap := h', toks := t' } := by
  obtain ⟨m, ⟨o, es, ep, ho, r⟩, _⟩ := id I.loc
  obtain ⟨sl, hL⟩ := u.any ho I.free (by simp)
  exact I.step (g' := s.gens) (d' := s.drawn) (ch := []) (fun _ z => nomatch z) (fun b o _ hb _ e n => u.keep b o e n hb (by simp)) (fun b o _ hb _ e n => u.slot b o e n hb (by simp)) (fun b o _ e n => u.free b o e n (by simp)) (fun b o _ e => u.there b o e (by simp)) u.tups u.frzs u.tbls (fun m' hm => by
    obtain ⟨o', es', ep', ho', r'⟩ := hm
    rw [ho] at ho'; cases ho'
    exact ⟨_, es', ep', hL, r'⟩) hok I.bare
/-- behind a call (or a comprehension's block): the slots of this frame may have changed too, the records at ch may have turned -/
theorem Inv.call {g' : Array GenState} {t' : Nat} {d' : Drawn} {ch : List Addr} (I : Inv X pins σ H s) (u : Un (frs X.stack) ch H H' s.heap h') (hok : HOk X.prog X.w H' h') (hg : AllBare g')
    (hch : ∀ b ∈ ch, (b ∈ X.ex ∨ X.s₀.heap.objs.size ≤ b) ∧ b ≠ X.env.locals ∧ (∀ x c, X.env.cells.lookup x = some c → c ≠ b) ∧ ∀ p ∈ X.pn ++ pins, p.1 ≠ b) :
    Inv X pins σ H' { s with heap := h', gens := g', drawn := d', toks := t' } := by
  obtain ⟨m, ⟨o, es, ep, ho, r⟩, _⟩ := id I.loc
  obtain ⟨sl, hL⟩ := u.any ho I.free fun z => (hch _ z).2.1 rfl
  exact I.step (ch := ch) hch (fun b o hL hb hc e n => u.keep b o e n (fun z => (List.mem_cons.mp (I.stkSub b z)).elim hL hb) hc) (fun b o _ _ hc e n => u.any e n hc) (fun b o hc e n => u.free b o e n hc) (fun b o hc e => u.there b o e hc) u.tups u.frzs u.tbls (fun m' hm => by
    obtain ⟨o', es', ep', ho', r'⟩ := hm
    rw [ho] at ho'; cases ho'
    exact ⟨_, es', ep', hL, r'⟩) hok hg
/-- an untracked record of ours (an iterator) has turned -/
theorem Inv.turned {t' : Nat} {it : Addr} (I : Inv X pins σ H s) (k : ∀ b o, b ≠ it → s.heap.get? b = some o → h'.get? b = some o) (hn : H it = none) (hL : it ≠ X.env.locals)
    (h1 : it ∈ X.ex ∨ X.s₀.heap.objs.size ≤ it) (h2 : ∀ x c, X.env.cells.lookup x = some c → c ≠ it) (h3 : ∀ p ∈ X.pn ++ pins, p.1 ≠ it) : Inv X pins σ H { s with heap := h', toks := t' } := by
  have nit : ∀ b u, H b = some u → b ≠ it := fun b u e z => by rw [z, hn] at e; cases e
  refine I.step (g' := s.gens) (d' := s.drawn) (ch := [it]) (fun b hb => ?_) (fun b o _ _ hc e _ => k b o (fun z => hc (by simp [z])) e) (fun b o _ _ hc e _ => ⟨o.slots, k b o (fun z => hc (by simp [z])) e⟩) (fun _ _ _ _ n => n)
    (fun b o hc e => ⟨o, k b o (fun z => hc (by simp [z])) e⟩) (fun _ _ e => e) (fun _ _ _ e => e) (fun b ps e => ⟨#[], by rw [e]; simp⟩) (fun m hm => ?_) (fun b u e => ?_) I.bare
  · have e : b = it := by simpa using hb
    subst e
    exact ⟨h1, hL, h2, h3⟩
  · obtain ⟨o, es, ep, ho, r⟩ := hm
    exact ⟨o, es, ep, k _ o (Ne.symm hL) ho, r⟩
  · refine (I.hok b u e).stay (fun c v hc q => k c v ?_ q) (fun _ q => q) fun _ _ q => q
    rcases hc with z | z
    · rw [z]; exact nit b u e
    · exact nit c _ z
theorem Inv.tok (I : Inv X pins σ H s) (t : Nat) : Inv X pins σ H { s with toks := t } := I.un (h' := s.heap) (t' := t) Un.refl I.hok
/-- all objects kept -/
theorem Inv.kept {t' : Nat} (I : Inv X pins σ H s) (k : ∀ b u, s.heap.get? b = some u → h'.get? b = some u) : Inv X pins σ H { s with heap := h', toks := t' } := I.un (Un.kept k) (I.hok.kept k)
/-- a new object laid and tracked -/
theorem Inv.laid {a : Addr} {o : HO} {t' : Nat} (I : Inv X pins σ H s) (k : ∀ b u, s.heap.get? b = some u → h'.get? b = some u) (hp : s.heap.objs.size ≤ a) (new : ObjOk X.prog X.w (upd H a o) h' a o) :
    Inv X pins σ (upd H a o) { s with heap := h', toks := t' } := I.un (Un.laid k hp (I.hok.fresh hp)) (I.hok.laid k hp new)
/-- an object written -/
theorem Inv.write {x e : Addr} {o : HO} {t' : Nat} (I : Inv X pins σ H s) (mu : Mut (H x)) (he : e = x ∨ H e = some (.own x)) (k : ∀ b u, b ≠ e → s.heap.get? b = some u → h'.get? b = some u) (heo : ∃ u, h'.get? e = some u)
    (new : ObjOk X.prog X.w (upd H x o) h' x o) : Inv X pins σ (upd H x o) { s with heap := h', toks := t' } := I.un (Un.write mu he k heo) (I.hok.write mu he k heo new)
theorem Inv.pins_of {pins' : List (Addr × Obj)} (I : Inv X pins σ H s) (h : ∀ p ∈ pins', s.heap.get? p.1 = some p.2 ∧ H p.1 = none ∧ p.1 ≠ X.env.locals ∧ p.1 ∉ X.fs ∧ ∀ v, p.2.data ≠ .cell v) : Inv X pins' σ H s :=
  ⟨I.ok, I.os, I.bare, I.base, I.loc, I.cell, I.free, I.freeC, fun p hp => (List.mem_append.mp hp).elim (fun z => I.pin p (List.mem_append_left _ z)) (h p), I.hok, I.len⟩

theorem nodup_ix {N : List Str} (hN : N.Nodup) {i j : Nat} {x : Str} (a : N[i]? = some x) (b : N[j]? = some x) : i = j := by
  obtain ⟨h1, e1⟩ := List.getElem?_eq_some_iff.mp a
  obtain ⟨h2, e2⟩ := List.getElem?_eq_some_iff.mp b
  exact (List.getElem_inj hN).mp (e1.trans e2.symm)

/-- a name is stored; what changed -/
theorem store_ok2 {M : Model} {A : Around} {E : Value → Shared → Prop} {i : Nat} {x : Str} {v : V} {u : Value} {Q : Unit → Shared → Prop} (I : Inv X pins σ H s) (hN : X.N.Nodup) (hi : X.N[i]? = some x) (hx : Loc X.env.scope x) (r : RelV v u)
    (h : ∀ s', Inv X pins (σ.set i (some v)) H s' → (∃ a, Heap.SameBut a s.heap s'.heap ∧ (a = X.env.locals ∨ X.env.cells.lookup x = some a)) → Q () s') (hf : X.fn x = true ∨ X.env.scope.names.lookup x = some .local := by first | exact .inl rfl | exact .inr rfl | assumption) : wpAny M A (storeName X.env x u) Q E s := by
  obtain ⟨m, hn, hl⟩ := id I.loc
  have hcls : (X.env.scope.kind == .class || (X.env.scope.kind == .module && X.env.locals != X.env.globals)) = false := by rw [I.ok.kind]; rfl
  have hiσ : i < σ.length := by rw [I.len]; exact (List.getElem?_eq_some_iff.mp hi).1
  have cne := I.cne
  have tracked : ∀ {a : Addr} {h' : Heap}, (∃ o, s.heap.get? a = some o ∧ H a = none) → Heap.SameBut a s.heap h' → HOk X.prog X.w H h' := fun {a h'} ha hs b ob e => by
    obtain ⟨_, _, hfree⟩ := ha
    refine (I.hok b ob e).stay (fun c w' hc q => (hs.2 c ?_).trans q) (fun _ q => q) fun _ _ q => q
    rintro rfl
    rcases hc with rfl | hc
    · rw [hfree] at e; cases e
    · rw [hfree] at hc; cases hc
  rcases hx with hk | hk
  · refine wpAny_storeName_local hk hn (fun h' hn' hs => ?_) hcls
    obtain ⟨oL, _, _, hoL, _⟩ := id hn
    refine h _ ⟨I.ok, I.os, I.bare, ⟨fun b o e n hb hx => ?_, fun b o e n hb hx => ?_, I.base.free, fun b o e hx => ?_, I.base.tups, I.base.frzs, I.base.tbls⟩, ⟨_, hn', fun j y v' e1 e2 e3 => ?_⟩, fun y c e => ?_, I.free, I.freeC, fun p hp => ?_, tracked ⟨oL, hoL, I.free⟩ hs, by simpa using I.len⟩ ⟨_, hs, .inl rfl⟩
    · exact (hs.2 b (Nat.ne_of_lt (Nat.lt_of_lt_of_le (Heap.lt_size e) I.ok.above))).trans (I.base.keep b o e n hb hx)
    · obtain ⟨sl, e1⟩ := I.base.slot b o e n hb hx
      exact ⟨sl, (hs.2 b (Nat.ne_of_lt (Nat.lt_of_lt_of_le (Heap.lt_size e) I.ok.above))).trans e1⟩
    · obtain ⟨o', e1⟩ := I.base.there b o e hx
      exact ⟨o', (hs.2 b (Nat.ne_of_lt (Nat.lt_of_lt_of_le (Heap.lt_size e) I.ok.above))).trans e1⟩
    · by_cases hj : j = i
      · subst hj
        rw [hi] at e1; cases e1
        rw [List.getElem?_set_self hiσ] at e2
        cases e2
        exact ⟨u, r, .inl ⟨hk, by simp⟩⟩
      · rw [List.getElem?_set_ne (Ne.symm hj)] at e2
        obtain ⟨u', r', q⟩ := hl j y v' e1 e2 e3
        refine ⟨u', r', ?_⟩
        rcases q with ⟨k, e⟩ | ⟨k, c, e, z⟩
        · refine .inl ⟨k, ?_⟩
          have : y ≠ x := fun e => hj (nodup_ix hN e1 (e ▸ hi))
          simp [this, e]
        · exact .inr ⟨k, c, e, z.sameBut hs (cne y c e)⟩
    · obtain ⟨w', z⟩ := I.cell y c e
      exact ⟨w', z.sameBut hs (cne y c e)⟩
    · obtain ⟨e, n, ne, nf, d⟩ := I.pin p hp
      exact ⟨(hs.2 p.1 ne).trans e, n, ne, nf, d⟩
  · have hfn : X.fn x = true := by
      rcases hf with z | z
      · exact z
      · rw [z] at hk; cases hk
    obtain ⟨c, hc⟩ := I.ok.has x (.inl hk)
    obtain ⟨w', z⟩ := I.cell x c hc
    refine wpAny_storeName_cell I.ok.kind hk hc z (fun h' hc' hs => ?_)
    obtain ⟨oc, hoc, hocd⟩ := id z
    refine h { s with heap := h' } ⟨I.ok, I.os, I.bare, ⟨fun b o e n hb hx => ?_, fun b o e n hb hx => ?_, I.base.free, fun b o e hx => ?_, I.base.tups, I.base.frzs, I.base.tbls⟩, ⟨m, hn.sameBut hs (Ne.symm (cne x c hc)), fun j y v' e1 e2 e3 => ?_⟩, fun y c' e => ?_, I.free, I.freeC, fun p hp => ?_, tracked ⟨oc, hoc, I.freeC x c hc⟩ hs, by simpa using I.len⟩ ⟨c, hs, .inr hc⟩
    · exact (hs.2 b (Nat.ne_of_lt (Nat.lt_of_lt_of_le (Heap.lt_size e) (I.ok.cab x c hfn hc)))).trans (I.base.keep b o e n hb hx)
    · obtain ⟨sl, e1⟩ := I.base.slot b o e n hb hx
      exact ⟨sl, (hs.2 b (Nat.ne_of_lt (Nat.lt_of_lt_of_le (Heap.lt_size e) (I.ok.cab x c hfn hc)))).trans e1⟩
    · obtain ⟨o', e1⟩ := I.base.there b o e hx
      exact ⟨o', (hs.2 b (Nat.ne_of_lt (Nat.lt_of_lt_of_le (Heap.lt_size e) (I.ok.cab x c hfn hc)))).trans e1⟩
    · by_cases hj : j = i
      · subst hj
        rw [hi] at e1; cases e1
        rw [List.getElem?_set_self hiσ] at e2
        cases e2
        exact ⟨u, r, .inr ⟨.inl hk, c, hc, hc'⟩⟩
      · rw [List.getElem?_set_ne (Ne.symm hj)] at e2
        obtain ⟨u', r', q⟩ := hl j y v' e1 e2 e3
        refine ⟨u', r', ?_⟩
        rcases q with q | ⟨k, c', e, z'⟩
        · exact .inl q
        · refine .inr ⟨k, c', e, z'.sameBut hs ?_⟩
          rintro rfl
          exact hj (nodup_ix hN e1 (I.ok.inj _ _ _ e hc ▸ hi))
    · by_cases hcc : c' = c
      · subst hcc; exact ⟨_, hc'⟩
      · obtain ⟨w2, z2⟩ := I.cell y c' e
        exact ⟨w2, z2.sameBut hs hcc⟩
    · obtain ⟨e, n, ne, nf, d⟩ := I.pin p hp
      refine ⟨(hs.2 p.1 ?_).trans e, n, ne, nf, d⟩
      intro q
      rw [q, hoc] at e
      have q' : oc = p.2 := Option.some.inj e
      exact d w' (by rw [← q']; exact hocd)
theorem store_ok {M : Model} {A : Around} {E : Value → Shared → Prop} {i : Nat} {x : Str} {v : V} {u : Value} {Q : Unit → Shared → Prop} (I : Inv X pins σ H s) (hN : X.N.Nodup) (hi : X.N[i]? = some x) (hx : Loc X.env.scope x) (r : RelV v u)
    (h : ∀ s', Inv X pins (σ.set i (some v)) H s' → Q () s') (hf : X.fn x = true ∨ X.env.scope.names.lookup x = some .local := by first | exact .inl rfl | exact .inr rfl | assumption) : wpAny M A (storeName X.env x u) Q E s :=
  store_ok2 I hN hi hx r (fun s' I' _ => h s' I') hf
/-- behind a call or a block, the state as it is -/
theorem Inv.call' {s' : Shared} {ch : List Addr} (I : Inv X pins σ H s) (ho : s'.os = s.os) (u : Un (frs X.stack) ch H H' s.heap s'.heap) (hok : HOk X.prog X.w H' s'.heap) (hg : AllBare s'.gens)
    (hch : ∀ b ∈ ch, (b ∈ X.ex ∨ X.s₀.heap.objs.size ≤ b) ∧ b ≠ X.env.locals ∧ (∀ x c, X.env.cells.lookup x = some c → c ≠ b) ∧ ∀ p ∈ X.pn ++ pins, p.1 ≠ b) : Inv X pins σ H' s' := by
  obtain ⟨h', g', d', t', o'⟩ := s'
  have e : o' = s.os := ho
  subst e
  exact I.call (g' := g') (t' := t') (d' := d') u hok hg hch
end

/-! ### the judgements -/
/-- an exception: its class, its own dict's address (where it has one), the abstract heap behind it -/
abbrev XK := Value → Option Addr → Hp → Prop
abbrev St := List (Option V)
abbrev VK := V → Hp → Prop
/-- an expression's reading; a test's; an argument list's -/
abbrev TE := St → Hp → VK → Prop
abbrev TT := St → Hp → (Bool → Hp → Prop) → Prop
abbrev TA := St → Hp → (List V → Hp → Prop) → Prop
/-- what is wanted behind a statement -/
structure Ends where
  nx : St → Hp → Prop
  rt : VK
  bk : St → Hp → Prop := fun _ _ => False
  ct : St → Hp → Prop := fun _ _ => False
abbrev TS := Ends → St → Hp → Prop

def EP (X : Cx) (pins : List (Addr × Obj)) (σ : St) (Q : VK) (u : Value) (s' : Shared) : Prop := ∃ v H', Inv X pins σ H' s' ∧ RelV v u ∧ Q v H'
def TP (X : Cx) (pins : List (Addr × Obj)) (σ : St) (Q : Bool → Hp → Prop) (b : Bool) (s' : Shared) : Prop := ∃ H', Inv X pins σ H' s' ∧ Q b H'
def AP (X : Cx) (pins : List (Addr × Obj)) (σ : St) (Q : List V → Hp → Prop) (us : List Value) (s' : Shared) : Prop := ∃ vs H', Inv X pins σ H' s' ∧ Vals vs us ∧ Q vs H'
def SP (X : Cx) (pins : List (Addr × Obj)) (D : Ends) (f : Flow) (s' : Shared) : Prop :=
  match f with
  | .next => ∃ σ' H', Inv X pins σ' H' s' ∧ D.nx σ' H'
  | .brk => ∃ σ' H', Inv X pins σ' H' s' ∧ D.bk σ' H'
  | .cont => ∃ σ' H', Inv X pins σ' H' s' ∧ D.ct σ' H'
  | .ret u => ∃ v σ' H', Inv X pins σ' H' s' ∧ RelV v u ∧ D.rt v H'

def PE (X : Cx) (e : Expr) (t : TE) : Prop :=
  ∀ (pins : List (Addr × Obj)) (s : Shared) (σ : St) (H : Hp) (Q : VK), Inv X pins σ H s → t σ H Q → wpAny (model X.prog X.w) X.A (eval e X.env) (EP X pins σ Q) X.xe s
def PT (X : Cx) (e : Expr) (t : TT) : Prop :=
  ∀ (pins : List (Addr × Obj)) (s : Shared) (σ : St) (H : Hp) (Q : Bool → Hp → Prop), Inv X pins σ H s → t σ H Q → wpAny (model X.prog X.w) X.A (isTrue e X.env (eval e X.env)) (TP X pins σ Q) X.xe s
/-- a test whatever its 'whole' is (and, or) -/
def PW (X : Cx) (e : Expr) (t : TT) : Prop :=
  ∀ (whole : Sem Value) (pins : List (Addr × Obj)) (s : Shared) (σ : St) (H : Hp) (Q : Bool → Hp → Prop), Inv X pins σ H s → t σ H Q → wpAny (model X.prog X.w) X.A (isTrue e X.env whole) (TP X pins σ Q) X.xe s
theorem PW.pt {X : Cx} {e : Expr} {t : TT} (h : PW X e t) : PT X e t := h _
/-- an argument list (no star), from the left -/
def PA (X : Cx) (es : List Expr) (t : TA) : Prop :=
  ∀ (pos : Pos) (pins : List (Addr × Obj)) (s : Shared) (σ : St) (H : Hp) (Q : List V → Hp → Prop), Inv X pins σ H s → t σ H Q → wpAny (model X.prog X.w) X.A (spliced (backTo pos (starEach es X.env))) (AP X pins σ Q) X.xe s
def PS (X : Cx) (st : Stmt) (t : TS) : Prop :=
  ∀ (pins : List (Addr × Obj)) (s : Shared) (σ : St) (H : Hp) (D : Ends), Inv X pins σ H s → t D σ H → wpAny (model X.prog X.w) X.A (exec st X.env) (SP X pins D) X.xe s
def PSs (X : Cx) (st : List Stmt) (t : TS) : Prop :=
  ∀ (pins : List (Addr × Obj)) (s : Shared) (σ : St) (H : Hp) (D : Ends), Inv X pins σ H s → t D σ H → wpAny (model X.prog X.w) X.A (execs st X.env) (SP X pins D) X.xe s
/-- weaken the end -/
theorem thn {α : Type} {t : Sem α} {Q Q' : α → Shared → Prop} {M : Model} {A : Around} {E : Value → Shared → Prop} {s : Shared} (h : wpAny M A t Q E s) (hQ : ∀ a s, Q a s → Q' a s) : wpAny M A t Q' E s := wpAny_mono h hQ fun _ _ x => x
end L2

namespace L2
open PySem PySem.Spec PyProof.Rows
section
variable {X : Cx}


/-! ### names and constants -/
def tVar (i : Nat) : TE := fun σ H Q => ∃ v, σ[i]? = some (some v) ∧ Q v H
def tC (v : V) : TE := fun _ H Q => Q v H
theorem pe_var {i : Nat} {x : Str} {pos : Pos} (hN : X.N[i]? = some x) (hv : Vis X.env.scope x) (hd : (x == ("__debug__" : Str)) = false := by decide) (hcd : (x == ("__classdict__" : Str)) = false := by decide) : PE X (.Name x pos) (tVar i) := by
  intro pins s σ H Q I h
  obtain ⟨v, e, h⟩ := h
  obtain ⟨m, hn, hl⟩ := I.loc
  obtain ⟨u, r, l⟩ := hl i x v hN e hv
  have fin : EP X pins σ Q u s := ⟨v, H, I, r, h⟩
  rcases l with ⟨hk, hm⟩ | ⟨hk, c, hc, hcell⟩
  · exact wpAny_Name (wpAny_loadName_local I.ok.kind hk hn hm fin) hd
  · rcases hk with hk | hk
    · exact wpAny_Name (wpAny_loadName_cell I.ok.kind hk hc hcell fin) hd
    · exact wpAny_Name (wpAny_loadName_free I.ok.kind hk hc hcell fin hcd) hd
theorem pe_int {i j pos} : PE X (.Constant (.int i) j pos) (tC (.int i)) := fun _ _ _ H _ I h => wpAny_Constant_int ⟨.int i, H, I.tok _, ⟨_, rfl⟩, h⟩
theorem pe_bl {b j pos} : PE X (.Constant (.bool b) j pos) (tC (.bl b)) := fun _ _ _ H _ I h => Constant_bool ⟨.bl b, H, I, rfl, h⟩
theorem pe_non {j pos} : PE X (.Constant .none j pos) (tC .non) := fun _ _ _ H _ I h => Constant_none ⟨.non, H, I, rfl, h⟩
theorem pe_str {x j pos} : PE X (.Constant (.str x) j pos) (tC (.str x)) := fun _ _ _ H _ I h => Calls.Constant_str ⟨.str x, H, I.tok _, ⟨_, rfl⟩, h⟩

/-- a global name of the def -/
def Gl (X : Cx) (x : Str) : Prop := X.env.kindOf x = some .globalImplicit
theorem ld_glob {E : Value → Shared → Prop} {pins : List (Addr × Obj)} {s : Shared} {σ : St} {H : Hp} {x : Str} {u : Value} {pos : Pos} {Q : Value → Shared → Prop} (I : Inv X pins σ H s) (hg : Gl X x) (hm : X.mg x = some u) (h : Q u s)
    (hd : (x == ("__debug__" : Str)) = false := by decide) : wpAny (model X.prog X.w) X.A (eval (.Name x pos) X.env) Q E s :=
  Calls.Name_function_global I.ok.kind hg (Calls.loadGlobal_global (by rw [I.ok.glob]; exact I.mod.glob.keeps I.bk) hm h) hd
theorem ld_blt {E : Value → Shared → Prop} {pins : List (Addr × Obj)} {s : Shared} {σ : St} {H : Hp} {x : Str} {u : Value} {pos : Pos} {Q : Value → Shared → Prop} (I : Inv X pins σ H s) (hg : Gl X x) (hm : X.mg x = none) (hv : bootBuiltins x = some u) (h : Q u s)
    (hn : x ≠ "__name__" := by decide) (hd : (x == ("__debug__" : Str)) = false := by decide) : wpAny (model X.prog X.w) X.A (eval (.Name x pos) X.env) Q E s := by
  obtain ⟨mb, h1, h2⟩ := I.mod.blt
  exact Calls.Name_function_global I.ok.kind hg (Calls.loadGlobal_builtin (by rw [I.ok.glob]; exact I.mod.glob.keeps I.bk) hm (by rw [I.ok.blt]; exact h1.keeps I.bk) ((h2 x hn).trans hv) h) hd
/-- a module's constant, a class, a function, as a value -/
theorem pe_glob {x : Str} {v : V} {u : Value} {pos : Pos} (hg : Gl X x) (hm : X.mg x = some u) (r : RelV v u) (hd : (x == ("__debug__" : Str)) = false := by decide) : PE X (.Name x pos) (tC v) :=
  fun _ _ _ H _ I h => ld_glob I hg hm ⟨v, H, I, r, h⟩ hd
theorem pe_bltn {x : Str} {v : V} {u : Value} {pos : Pos} (hg : Gl X x) (hm : X.mg x = none) (hv : bootBuiltins x = some u) (r : RelV v u) (hn : x ≠ "__name__" := by decide) (hd : (x == ("__debug__" : Str)) = false := by decide) : PE X (.Name x pos) (tC v) :=
  fun _ _ _ H _ I h => ld_blt I hg hm hv ⟨v, H, I, r, h⟩ hn hd

/-! ### arithmetic -/
variable {a b : Expr} {ta tb : TE} {pos : Pos}

/-! ### comparisons -/
def PC (X : Cx) (op : CmpOp) (a b : Expr) (t : TE) : Prop :=
  ∀ (pins : List (Addr × Obj)) (s : Shared) (σ : St) (H : Hp) (Q : VK), Inv X pins σ H s → t σ H Q →
    wpAny (model X.prog X.w) X.A (eval a X.env) (fun v s₁ => wpAny (model X.prog X.w) X.A (eval b X.env) (fun u s₂ => wpAny (model X.prog X.w) X.A (compareOp op v u) (EP X pins σ Q) X.xe s₂) X.xe s₁) X.xe s
/-- a comparison as a value, as a test -/
def tB (t : TE) : TT := fun σ H Q => t σ H fun x H1 => ∃ c, x = .bl c ∧ Q c H1
theorem pe_cmp {op : CmpOp} {t : TE} (h : PC X op a b t) (h1 : behindInMarks op b = false := by first | exact nobehind _ (by decide) (by decide) | rfl) : PE X (.Compare a [op] [b] pos) t := fun pins s σ H Q I hw => wpAny_Compare1 (h pins s σ H Q I hw) h1
theorem pt_cmp {op : CmpOp} {t : TE} (h : PC X op a b t) (h1 : behindInMarks op b = false := by first | exact nobehind _ (by decide) (by decide) | rfl) : PT X (.Compare a [op] [b] pos) (tB t) := by
  intro pins s σ H Q I hw
  refine wpAny_isTrue_Compare1 (thn (h pins s σ H _ I hw) fun v s1 h1 => thn h1 fun u s2 h2 => thn h2 fun c s3 ⟨x, H1, I1, r1, q1⟩ => ?_) h1
  obtain ⟨d, rfl, q⟩ := q1
  cases r1
  exact wpAny_truthy_bool ⟨H1, I1, q⟩
/-- an expression whose value is a bool, as a test -/
theorem pt_val {e : Expr} {t : TE} (h : PE X e t) (he : ∀ whole, isTrue e X.env whole = (do let v ← whole; standAt e.pos; holding [v] (truthy v)) := by intro _; rfl) : PT X e (tB t) := by
  intro pins s σ H Q I hw
  refine isTrue_plain (thn (h pins s σ H _ I hw) fun v s1 ⟨x, H1, I1, r1, q1⟩ => ?_) (he _)
  obtain ⟨d, rfl, q⟩ := q1
  cases r1
  exact wpAny_truthy_bool ⟨H1, I1, q⟩

/-! ### and, or, not -/
variable {tA tB' : TT} {rest : List Expr}
def tAnd (t u : TT) : TT := fun σ H Q => t σ H fun c H1 => if c = true then u σ H1 Q else Q false H1
def tOr (t u : TT) : TT := fun σ H Q => t σ H fun c H1 => if c = true then Q true H1 else u σ H1 Q
def tNot (t : TT) : TT := fun σ H Q => t σ H fun c H1 => Q (!c) H1
theorem pw_and1 (ha : PT X a tA) : PW X (.BoolOp .And [a] pos) tA := by
  intro wh pins s σ H Q I h
  refine isTrue_and (thn (ha pins s σ H Q I h) fun c s1 e => ?_)
  cases c with
  | true => exact isTrue_and_nil e
  | false => exact e
theorem pw_or1 (ha : PT X a tA) : PW X (.BoolOp .Or [a] pos) tA := by
  intro wh pins s σ H Q I h
  refine isTrue_or (thn (ha pins s σ H Q I h) fun c s1 e => ?_)
  cases c with
  | false => exact isTrue_or_nil e
  | true => exact e
theorem pw_and (ha : PT X a tA) (hb : PW X (.BoolOp .And (b :: rest) pos) tB') : PW X (.BoolOp .And (a :: b :: rest) pos) (tAnd tA tB') := by
  intro wh pins s σ H Q I h
  refine isTrue_and (thn (ha pins s σ H _ I h) fun c s1 ⟨H1, I1, q1⟩ => ?_)
  cases c with
  | true => exact hb wh pins s1 σ H1 Q I1 q1
  | false => exact ⟨H1, I1, q1⟩
theorem pw_or (ha : PT X a tA) (hb : PW X (.BoolOp .Or (b :: rest) pos) tB') : PW X (.BoolOp .Or (a :: b :: rest) pos) (tOr tA tB') := by
  intro wh pins s σ H Q I h
  refine isTrue_or (thn (ha pins s σ H _ I h) fun c s1 ⟨H1, I1, q1⟩ => ?_)
  cases c with
  | true => exact ⟨H1, I1, q1⟩
  | false => exact hb wh pins s1 σ H1 Q I1 q1
theorem pt_not (ha : PT X a tA) : PT X (.UnaryOp .Not a pos) (tNot tA) := by
  intro pins s σ H Q I h
  exact isTrue_not (ha pins s σ H (fun c H1 => Q (!c) H1) I h)
/-- .. as values (bools) -/
def tAndV (ta tb : TE) : TE := fun σ H Q => ta σ H fun x H1 => ∃ c, x = .bl c ∧ if c = true then tb σ H1 Q else Q (.bl false) H1
def tOrV (ta tb : TE) : TE := fun σ H Q => ta σ H fun x H1 => ∃ c, x = .bl c ∧ if c = true then Q (.bl true) H1 else tb σ H1 Q
def tNotV (ta : TE) : TE := fun σ H Q => ta σ H fun x H1 => ∃ c, x = .bl c ∧ Q (.bl (!c)) H1
theorem pe_one {op} {t : TE} (h : PE X a t) : PE X (.BoolOp op [a] pos) t := fun pins s σ H Q I hw => BoolOp_one (h pins s σ H Q I hw)
theorem pe_and (ha : PE X a ta) (hb : PE X (.BoolOp .And (b :: rest) pos) tb) : PE X (.BoolOp .And (a :: b :: rest) pos) (tAndV ta tb) := by
  intro pins s σ H Q I h
  refine BoolOp_and (thn (ha pins s σ H _ I h) fun v s1 ⟨x, H1, I1, r1, q1⟩ => ?_)
  obtain ⟨c, rfl, q1⟩ := q1
  cases r1
  refine wpAny_truthy_bool ?_
  cases c with
  | true => exact hb pins s1 σ H1 Q I1 q1
  | false => exact ⟨.bl false, H1, I1, rfl, q1⟩
theorem pe_or (ha : PE X a ta) (hb : PE X (.BoolOp .Or (b :: rest) pos) tb) : PE X (.BoolOp .Or (a :: b :: rest) pos) (tOrV ta tb) := by
  intro pins s σ H Q I h
  refine BoolOp_or (thn (ha pins s σ H _ I h) fun v s1 ⟨x, H1, I1, r1, q1⟩ => ?_)
  obtain ⟨c, rfl, q1⟩ := q1
  cases r1
  refine wpAny_truthy_bool ?_
  cases c with
  | false => exact hb pins s1 σ H1 Q I1 q1
  | true => exact ⟨.bl true, H1, I1, rfl, q1⟩
theorem pe_not (ha : PE X a ta) : PE X (.UnaryOp .Not a pos) (tNotV ta) := by
  intro pins s σ H Q I h
  refine UnaryOp_ (thn (ha pins s σ H _ I h) fun v s1 ⟨x, H1, I1, r1, q1⟩ => ?_)
  obtain ⟨c, rfl, q1⟩ := q1
  cases r1
  exact not_of (wpAny_truthy_bool ⟨.bl (!c), H1, I1, rfl, q1⟩)
end
end L2

namespace L2
open PySem PySem.Spec PyProof.Rows

/-! ### a list, a tuple that is read: tracked, frozen, or an object of the module -/
def SqL (K : PySem.W.Frag) (H : Hp) (a : Addr) (xs : List V) : Prop :=
  Rd H a (.lst xs) ∨
    ∃ (o : Obj) (its : Array Value) (n : Nat), K.lookup a = some o ∧ o.cls = .type "list" ∧ o.dict = none ∧ o.data = .seq its n ∧ its.size ≤ sizeLine ∧ Vals xs its.toList
def SqT (K : PySem.W.Frag) (H : Hp) (a : Addr) (xs : List V) : Prop :=
  Rd H a (.tup xs) ∨
    ∃ (o : Obj) (its : Array Value) (n : Nat), K.lookup a = some o ∧ o.cls = .type "tuple" ∧ o.data = .seq its n ∧ its.size ≤ sizeLine ∧ Vals xs its.toList
def absV : Value → Option V
  | .none => some .non
  | .bool b => some (.bl b)
  | .int i _ => some (.int i)
  | .str x _ => some (.str x)
  | .bytes b _ => some (.byt b)
  | .float b _ => some (.flt b)
  | .ref a => some (.ref a)
  | .type n => some (.ty n)
  | _ => none
theorem RelV.abs {x : V} {u : Value} (r : RelV x u) : absV u = some x := by
  cases x with
  | non => cases r; rfl
  | bl _ => cases r; rfl
  | int _ => obtain ⟨t, rfl⟩ := r; rfl
  | str _ => obtain ⟨t, rfl⟩ := r; rfl
  | byt _ => obtain ⟨t, rfl⟩ := r; rfl
  | flt _ => obtain ⟨t, rfl⟩ := r; rfl
  | ref _ => cases r; rfl
  | ty _ => cases r; rfl
theorem RelV.inj {x y : V} {u : Value} (r : RelV x u) (q : RelV y u) : x = y := Option.some.inj (r.abs.symm.trans q.abs)
theorem Vals.inj : ∀ {xs ys : List V} {us : List Value}, Vals xs us → Vals ys us → xs = ys
  | _, _, _, .nil, .nil => rfl
  | _, _, _, .cons r t, .cons r' t' => by rw [r.inj r', Vals.inj t t']
section
variable {X : Cx} {pins : List (Addr × Obj)} {σ : St} {H : Hp} {s : Shared} {a : Addr} {xs ys : List V}
theorem SqL.of {K : PySem.W.Frag} (h : H a = some (.lst xs)) : SqL K H a xs := .inl (.inl h)
theorem SqT.of {K : PySem.W.Frag} (h : H a = some (.tup xs)) : SqT K H a xs := .inl (.inl h)
theorem Inv.list (I : Inv X pins σ H s) (h : SqL X.K H a xs) : ∃ its : List Value, Vals xs its ∧ PlainL s.heap a its.toArray ∧ xs.length ≤ sizeLine := by
  rcases h with h | ⟨o, its, n, hk, hc, hd, hs, hz, r⟩
  · obtain ⟨z, its, n, r, e⟩ := h.ok I.hok
    exact ⟨its, r, ⟨_, n, e, rfl, rfl, rfl⟩, z⟩
  · refine ⟨its.toList, r, ⟨o, n, I.kIn a o hk, hc, hd, by simpa using hs⟩, ?_⟩
    have e := r.length
    simp only [Array.length_toList] at e
    omega
theorem Inv.tuple (I : Inv X pins σ H s) (h : SqT X.K H a xs) : ∃ its : List Value, Vals xs its ∧ IsTup s.heap a its.toArray ∧ xs.length ≤ sizeLine := by
  rcases h with h | ⟨o, its, n, hk, hc, hs, hz, r⟩
  · obtain ⟨z, its, r, p⟩ := h.ok I.hok
    exact ⟨its, r, p, z⟩
  · refine ⟨its.toList, r, ⟨o, I.kIn a o hk, hc, n, by simpa using hs⟩, ?_⟩
    have e := r.length
    simp only [Array.length_toList] at e
    omega
theorem Inv.list_inj (I : Inv X pins σ H s) (h : SqL X.K H a xs) (h' : SqL X.K H a ys) : xs = ys := by
  obtain ⟨its, r, ⟨o, n, e, _, _, d⟩, _⟩ := I.list h
  obtain ⟨its', r', ⟨o', n', e', _, _, d'⟩, _⟩ := I.list h'
  rw [e] at e'; cases e'
  rw [d] at d'
  injection d' with d1 _
  have : its = its' := by simpa using congrArg Array.toList d1
  subst this
  exact r.inj r'
theorem Inv.tuple_inj (I : Inv X pins σ H s) (h : SqT X.K H a xs) (h' : SqT X.K H a ys) : xs = ys := by
  obtain ⟨its, r, ⟨o, e, _, n, d⟩, _⟩ := I.tuple h
  obtain ⟨its', r', ⟨o', e', _, n', d'⟩, _⟩ := I.tuple h'
  rw [e] at e'; cases e'
  rw [d] at d'
  injection d' with d1 _
  have : its = its' := by simpa using congrArg Array.toList d1
  subst this
  exact r.inj r'
end

/-! ### another wish about exceptions -/
abbrev Cx.wish (X : Cx) (E : Value → Shared → Prop) : Cx := { X with xe := E }
/-- no exception leaves -/
abbrev Cx.nox (X : Cx) : Cx := X.wish fun _ _ => False
theorem Cx.Ok.wish {X : Cx} (ok : X.Ok) (E : Value → Shared → Prop) : (X.wish E).Ok :=
  ⟨ok.mod, ok.kind, ok.glob, ok.blt, ok.above, ok.inj, ok.has, ok.cab, ok.hd, ok.frames, ok.stk, ok.exf, ok.bs, ok.bsz, ok.noex, ok.exfs, ok.funs, ok.frf⟩
theorem Cx.Ok.unwish {X : Cx} {E : Value → Shared → Prop} (ok : (X.wish E).Ok) : X.Ok :=
  ⟨ok.mod, ok.kind, ok.glob, ok.blt, ok.above, ok.inj, ok.has, ok.cab, ok.hd, ok.frames, ok.stk, ok.exf, ok.bs, ok.bsz, ok.noex, ok.exfs, ok.funs, ok.frf⟩
section
variable {X : Cx} {pins : List (Addr × Obj)} {σ : St} {H : Hp} {s : Shared} {E : Value → Shared → Prop}
theorem Inv.wish (I : Inv X pins σ H s) (E : Value → Shared → Prop) : Inv (X.wish E) pins σ H s := ⟨I.ok.wish E, I.os, I.bare, I.base, I.loc, I.cell, I.free, I.freeC, I.pin, I.hok, I.len⟩
theorem Inv.unwish (I : Inv (X.wish E) pins σ H s) : Inv X pins σ H s := ⟨I.ok.unwish, I.os, I.bare, I.base, I.loc, I.cell, I.free, I.freeC, I.pin, I.hok, I.len⟩
theorem SP.unwish {D : Ends} {f : Flow} {s' : Shared} (h : SP (X.wish E) pins D f s') : SP X pins D f s' := by
  cases f with
  | next => obtain ⟨σ', H', I, q⟩ := h; exact ⟨σ', H', I.unwish, q⟩
  | brk => obtain ⟨σ', H', I, q⟩ := h; exact ⟨σ', H', I.unwish, q⟩
  | cont => obtain ⟨σ', H', I, q⟩ := h; exact ⟨σ', H', I.unwish, q⟩
  | ret u => obtain ⟨v, σ', H', I, r, q⟩ := h; exact ⟨v, σ', H', I.unwish, r, q⟩
theorem PSs.nox {st : List Stmt} {t : TS} (h : PSs X.nox st t) : PSs X st t := fun pins s σ H D I hw =>
  wpAny_mono (h pins s σ H D (I.wish _) hw) (fun _ _ q => q.unwish) fun _ _ z => False.elim z
end

/-! ### blocks and small statements -/
section
variable {X : Cx} {st : Stmt} {rest : List Stmt} {t u : TS} {e : Expr} {te : TE} {pos : Pos}
def tNext : TS := fun D σ H => D.nx σ H
def tSeq (t u : TS) : TS := fun D σ H => t { D with nx := u D } σ H
theorem pss_nil : PSs X [] tNext := fun _ _ σ H _ I h => wpAny_execs_nil ⟨σ, H, I, h⟩
theorem pss_cons (h1 : PS X st t) (h2 : PSs X rest u) : PSs X (st :: rest) (tSeq t u) := by
  intro pins s σ H D I h
  refine wpAny_execs_cons (thn (h1 pins s σ H { D with nx := u D } I h) fun f s1 q => ?_)
  cases f with
  | next =>
    obtain ⟨σ', H', I', q⟩ := q
    exact h2 pins s1 σ' H' D I' q
  | ret v => exact q
  | brk => exact q
  | cont => exact q
theorem pss_one (h1 : PS X st t) : PSs X [st] t := by
  intro pins s σ H D I h
  refine wpAny_execs_cons (thn (h1 pins s σ H D I h) fun f s1 q => ?_)
  cases f with
  | next => exact wpAny_execs_nil q
  | ret v => exact q
  | brk => exact q
  | cont => exact q
/-- in a def's body nothing is shown -/
theorem Inv.quiet {pins : List (Addr × Obj)} {σ : St} {H : Hp} {s : Shared} (I : Inv X pins σ H s) : interactive X.env = false := by simp [interactive, I.ok.kind]
/-- an expression whose value is dropped -/
def tDrop (te : TE) : TS := fun D σ H => te σ H fun _ H1 => D.nx σ H1
theorem ps_expr (he : PE X e te) (hs : swapsWith e none pos.line X.env = pure false := by rfl) : PS X (.Expr e pos) (tDrop te) := by
  intro pins s σ H D I h
  exact wpAny_Expr_any (thn (he pins s σ H _ I h) fun v s1 ⟨x, H1, I1, r1, q1⟩ => ⟨σ, H1, I1, q1⟩) I.quiet hs
def tRet (te : TE) : TS := fun D σ H => te σ H D.rt
theorem ps_ret (he : PE X e te) : PS X (.Return (some e) pos) (tRet te) := by
  intro pins s σ H D I h
  exact wpAny_Return_some (thn (he pins s σ H _ I h) fun v s1 ⟨x, H1, I1, r1, q1⟩ => ⟨x, σ, H1, I1, r1, q1⟩)
def tIfS (c : TT) (t u : TS) : TS := fun D σ H => c σ H fun b H1 => if b = true then t D σ H1 else u D σ H1
theorem ps_if {c : Expr} {a b : List Stmt} {tc : TT} (hc : PT X c tc) (ha : PSs X a t) (hb : PSs X b u) : PS X (.If c a b pos) (tIfS tc t u) := by
  intro pins s σ H D I h
  refine wpAny_If (thn (hc pins s σ H _ I h) fun d s1 ⟨H1, I1, q1⟩ => ?_)
  cases d with
  | true => exact ha pins s1 σ H1 D I1 q1
  | false => exact hb pins s1 σ H1 D I1 q1
/-- code that the proof never comes to -/
def tNever : TS := fun _ _ _ => False
theorem ps_never : PS X st tNever := fun _ _ _ _ _ _ h => h.elim
theorem pss_never {sts : List Stmt} : PSs X sts tNever := fun _ _ _ _ _ _ h => h.elim
end

/-! ### targets -/
abbrev TG := V → St → Hp → (St → Hp → Prop) → Prop
abbrev TGs := List V → St → Hp → (St → Hp → Prop) → Prop
def PG (X : Cx) (target : Expr) (t : TG) : Prop :=
  ∀ (pins : List (Addr × Obj)) (s : Shared) (σ : St) (H : Hp) (v : V) (u : Value) (Q : St → Hp → Prop), Inv X pins σ H s → RelV v u → t v σ H Q →
    wpAny (model X.prog X.w) X.A (assign target X.env u) (fun _ s' => ∃ σ' H', Inv X pins σ' H' s' ∧ Q σ' H') X.xe s
/-- several targets, one after another -/
def PGs (X : Cx) (ts : List Expr) (t : TGs) : Prop :=
  ∀ (pins : List (Addr × Obj)) (s : Shared) (σ : St) (H : Hp) (vs : List V) (us : List Value) (Q : St → Hp → Prop), Inv X pins σ H s → Vals vs us → t vs σ H Q →
    wpAny (model X.prog X.w) X.A (assignInOrder ((assignEach ts X.env).map (·.2)) us) (fun _ s' => ∃ σ' H', Inv X pins σ' H' s' ∧ Q σ' H') X.xe s
/-- o[i] = v, by values -/
abbrev TSet := V → V → V → Hp → (Hp → Prop) → Prop
def PSet (X : Cx) (t : TSet) : Prop :=
  ∀ (pins : List (Addr × Obj)) (s : Shared) (σ : St) (H : Hp) (o i v : V) (ov iv u : Value) (Q : Hp → Prop), Inv X pins σ H s → RelV o ov → RelV i iv → RelV v u → t o i v H Q →
    wpAny (model X.prog X.w) X.A (setItem ov iv u) (fun _ s' => ∃ H', Inv X pins σ H' s' ∧ Q H') X.xe s
section
variable {X : Cx} {pos : Pos}
def gName (i : Nat) : TG := fun v σ H Q => Q (σ.set i (some v)) H
theorem pg_name {i : Nat} {x : Str} (hN : X.N.Nodup) (hi : X.N[i]? = some x) (hx : Loc X.env.scope x) (hf : X.fn x = true ∨ X.env.scope.names.lookup x = some .local := by first | exact .inl rfl | exact .inr rfl | assumption) : PG X (.Name x pos) (gName i) := by
  intro pins s σ H v u Q I r h
  exact wpAny_assign_Name (store_ok I hN hi hx r (fun s' I' => ⟨_, H, I', h⟩) hf)
def gNil : TGs := fun vs σ H Q => vs = [] ∧ Q σ H
def gCons (t : TG) (u : TGs) : TGs := fun vs σ H Q => ∃ v r, vs = v :: r ∧ t v σ H fun σ' H' => u r σ' H' Q
theorem pgs_nil : PGs X [] gNil := by
  intro pins s σ H vs us Q I r h
  obtain ⟨e, h⟩ := h
  subst e
  cases r
  exact assignInOrder_nil ⟨σ, H, I, h⟩
theorem pgs_cons {e : Expr} {es : List Expr} {t : TG} {u : TGs} (h1 : PG X e t) (h2 : PGs X es u)
    (hs : (assignEach (e :: es) X.env).map (·.2) = assign e X.env :: (assignEach es X.env).map (·.2) := by rfl) : PGs X (e :: es) (gCons t u) := by
  intro pins s σ H vs us Q I r h
  obtain ⟨v, vr, e1, h⟩ := h
  subst e1
  cases r with
  | cons r rr =>
    rw [hs]
    refine assignInOrder_cons (thn (h1 pins s σ H _ _ _ I r h) fun _ s1 ⟨σ1, H1, I1, q1⟩ => ?_)
    exact h2 pins s1 σ1 H1 _ _ Q I1 rr q1
/-- (a, b, ..) = a tuple of that length -/
def gTup (K : PySem.W.Frag) (n : Nat) (t : TGs) : TG := fun v σ H Q => ∃ a xs, v = .ref a ∧ SqT K H a xs ∧ xs.length = n ∧ t xs σ H Q
theorem pg_tup {es : List Expr} {k : Nat} {t : TGs} {n : Nat} (hc : X.calm = true) (h : PGs X es t)
    (hn : (assignEach es X.env).length = n := by rfl) (hst : (assignEach es X.env).findIdx? (·.1) = none := by rfl) : PG X (.Tuple es k pos) (gTup X.K n t) := by
  intro pins s σ H v u Q I r hw
  obtain ⟨a, xs, e1, hq, hl, hw⟩ := hw
  subst e1
  cases r
  obtain ⟨its, rv, ht, hz⟩ := I.tuple hq
  refine assign_Tuple_tuple (I.ok.hd hc) ht (by simp [hn, ← hl, rv.length]) hst fun h' hx => ?_
  have I1 : Inv X pins σ H { s with heap := h' } := I.kept (t' := s.toks) fun b o e => hx b o (Nat.ne_of_lt (Heap.lt_size e)) e
  exact h pins _ σ H xs _ Q I1 (by simpa using rv) hw
/-- o[i] = .. -/
def gSub (to ti : TE) (t : TSet) : TG := fun v σ H Q => to σ H fun o H1 => ti σ H1 fun i H2 => t o i v H2 fun H3 => Q σ H3
theorem pg_sub {o i : Expr} {to ti : TE} {t : TSet} (ho : PE X o to) (hi : PE X i ti) (hs : PSet X t)
    (ha : ∀ v, assign (.Subscript o i pos) X.env v = (do
      let ov ← holding [v] (eval o X.env)
      let iv ← holding [v, ov] (eval i X.env)
      standAt pos
      holding [v, ov, iv] (setItem ov iv v)
      release [v, ov, iv] []) := by intro _; rfl) : PG X (.Subscript o i pos) (gSub to ti t) := by
  intro pins s σ H v u Q I r h
  rw [ha]
  refine wpAny_bind (wpAny_holding (thn (ho pins s σ H _ I h) fun ov s1 ⟨x, H1, I1, r1, q1⟩ => ?_))
  refine wpAny_bind (wpAny_holding (thn (hi pins s1 σ H1 _ I1 q1) fun iv s2 ⟨y, H2, I2, r2, q2⟩ => ?_))
  refine wpAny_bind (wpAny_standAt (wpAny_bind (wpAny_holding (thn (hs pins s2 σ H2 x y v ov iv u _ I2 r1 r2 r q2) fun _ s3 ⟨H3, I3, q3⟩ => ?_))))
  exact wpAny_release ⟨σ, H3, I3, q3⟩
/-- target = value -/
def tAsg (te : TE) (g : TG) : TS := fun D σ H => te σ H fun x H1 => g x σ H1 D.nx
theorem ps_asg {tg e : Expr} {te : TE} {g : TG} (he : PE X e te) (hg : PG X tg g) (hs : swapsWithSole [tg] e pos.line X.env = pure false := by rfl) (hw : swappedStores [tg] e X.env = pure none := by rfl)
    (h1 : (assignEach [tg] X.env).map (·.2) = [assign tg X.env] := by rfl) : PS X (.Assign [tg] e pos) (tAsg te g) := by
  intro pins s σ H D I h
  refine wpAny_Assign_stores (thn (he pins s σ H _ I h) fun v s1 ⟨x, H1, I1, r1, q1⟩ => ?_) hs hw
  rw [h1]
  exact thn (hg pins s1 σ H1 x v _ I1 r1 q1) fun _ s2 q => q
/-- name = value -/
theorem ps_set {i : Nat} {x : Str} {e : Expr} {te : TE} {pos' : Pos} (hN : X.N.Nodup) (hi : X.N[i]? = some x) (hx : Loc X.env.scope x) (he : PE X e te) (hs : swapsWith e (some (.Name x pos')) pos.line X.env = pure false := by rfl) (hf : X.fn x = true ∨ X.env.scope.names.lookup x = some .local := by first | exact .inl rfl | exact .inr rfl | assumption) :
    PS X (.Assign [.Name x pos'] e pos) (tAsg te (gName i)) := by
  intro pins s σ H D I h
  refine wpAny_Assign_Name (thn (he pins s σ H _ I h) fun v s1 ⟨y, H1, I1, r1, q1⟩ => ?_) hs
  exact store_ok I1 hN hi hx r1 (fun s2 I2 => ⟨_, H1, I2, q1⟩) hf
end

/-! ### while -/
section
variable {X : Cx} {pos : Pos}
end

/-! ### what a loop or a comprehension walks -/
/-- at turn i: it yields x (the heap may grow), or it stops -/
structure It where
  go : Nat → Hp → Prop
  yld : Nat → Hp → V → Hp → Prop
  stop : Nat → Hp → Prop
/-- the iterator's own objects may turn: they are not the frame's, not pinned, younger than the entry (or a comprehension's own) -/
def FpOk (X : Cx) (pins : List (Addr × Obj)) (H : Hp) (b : Addr) : Prop :=
  H b = none ∧ b ≠ X.env.locals ∧ b ∉ X.fs ∧ (b ∈ X.ex ∨ X.s₀.heap.objs.size ≤ b) ∧ (∀ x c, X.env.cells.lookup x = some c → c ≠ b) ∧ ∀ p ∈ X.pn ++ pins, p.1 ≠ b
theorem Inv.fpOk {X : Cx} {pins : List (Addr × Obj)} {σ : St} {H H' : Hp} {s : Shared} {b : Addr} (I : Inv X pins σ H s) (hb : s.heap.objs.size ≤ b) (hn : H' b = none) : FpOk X pins H' b := by
  refine ⟨hn, Nat.ne_of_gt (Nat.lt_of_lt_of_le I.lt hb), I.nofs hb, .inr (Nat.le_trans I.sz hb), fun x c e z => ?_, fun p hp z => ?_⟩
  · obtain ⟨v, q⟩ := I.cell x c e
    exact absurd (Nat.lt_of_lt_of_le q.lt (by rw [z]; exact hb)) (Nat.lt_irrefl _)
  · exact absurd (Nat.lt_of_lt_of_le (Heap.lt_size (I.pin p hp).1) (by rw [z]; exact hb)) (Nat.lt_irrefl _)
structure Turn (P : Program) (w : World) (K : PySem.W.Frag) (tg : Expr) (J : It) (fp : List Addr) (it : Addr) (tn : Nat → Heap → Prop) : Prop where
  mem : it ∈ fp
  obj : ∀ i h, tn i h → ∀ b ∈ fp, ∃ o, h.get? b = some o ∧ ∀ v, o.data ≠ .cell v
  keep : ∀ i h h', tn i h → (∀ b ∈ fp, ∀ o, h.get? b = some o → h'.get? b = some o) → tn i h'
  item : ∀ (X : Cx), X.prog = P → X.w = w → X.K = K → X.calm = true → ∀ (i : Nat) (pins : List (Addr × Obj)) (s : Shared) (σ : St) (H : Hp) (E : Value → Shared → Prop), Inv X pins σ H s → (∀ b ∈ fp, FpOk X pins H b) → tn i s.heap → J.go i H →
    wpAny (model P w) X.A (pyNext (.ref it)) (fun r s1 => ∃ u, r = some u ∧
      wpAny (model P w) X.A (letOwnedTupleGo tg (.ref it) u) (fun _ s2 => ∃ x H', Inv X pins σ H' s2 ∧ RelV x u ∧ J.yld i H x H' ∧ tn (i + 1) s2.heap ∧ ∀ b ∈ fp, H' b = none) E s1) E s
  done : ∀ (X : Cx), X.prog = P → X.w = w → X.K = K → X.calm = true → ∀ (i : Nat) (pins : List (Addr × Obj)) (s : Shared) (σ : St) (H : Hp) (E : Value → Shared → Prop), Inv X pins σ H s → (∀ b ∈ fp, FpOk X pins H b) → tn i s.heap → J.stop i H →
    wpAny (model P w) X.A (pyNext (.ref it)) (fun r s1 => r = none ∧ Inv X pins σ H s1) E s
  self : ∀ (A : Around) (i : Nat) (s : Shared) (Q : Value → Shared → Prop) (E : Value → Shared → Prop), tn i s.heap → Q (.ref it) s → wpAny (model P w) A (pyIter (.ref it)) Q E s
abbrev TI := St → Hp → (It → Hp → Prop) → Prop
/-- an iterator has come -/
def PIE (X : Cx) (pins : List (Addr × Obj)) (σ : St) (tg : Expr) (R : It → Hp → Prop) (itv : Value) (s2 : Shared) : Prop :=
  ∃ (it : Addr) (fp : List Addr) (tn : Nat → Heap → Prop) (J : It) (H' : Hp), itv = .ref it ∧ Inv X pins σ H' s2 ∧ Turn X.prog X.w X.K tg J fp it tn ∧ tn 0 s2.heap ∧ (∀ b ∈ fp, FpOk X pins H' b) ∧ R J H'
def PI (X : Cx) (tg iter : Expr) (wi : TI) : Prop :=
  ∀ (pins : List (Addr × Obj)) (s : Shared) (σ : St) (H : Hp) (R : It → Hp → Prop), Inv X pins σ H s → wi σ H R →
    wpAny (model X.prog X.w) X.A (eval iter X.env) (fun v s1 => wpAny (model X.prog X.w) X.A (pyIter v) (PIE X pins σ tg R) X.xe s1) X.xe s

/-- the step ahead of the store is nothing for an iterator that keeps no tuple -/
theorem go_of {M : Model} {A : Around} {E : Value → Shared → Prop} {s : Shared} {tg : Expr} {it : Addr} {u : Value} {o : Obj} {n : String} {vs : Array Value} {Q : Unit → Shared → Prop} (ho : s.heap.get? it = some o) (hc : o.cls = .type n) (hd : o.data = .fields vs)
    (hn : ["enumerate", "zip", "dict_itemiterator", "dict_reverseitemiterator", "odict_iterator", "itertools.zip_longest", "itertools.pairwise"].contains n = false) (hQ : Q () s) : wpAny M A (letOwnedTupleGo tg (.ref it) u) Q E s := by
  unfold letOwnedTupleGo
  cases tg <;> first
    | exact wpAny_pure hQ
    | (cases u <;> first
        | exact wpAny_pure hQ
        | (refine wpAny_bind (wpAny_load ho ?_)
           rw [hc, hd]
           show wpAny M A (if (["enumerate", "zip", "dict_itemiterator", "dict_reverseitemiterator", "odict_iterator", "itertools.zip_longest", "itertools.pairwise"].contains n && vs[0]? == some (rawInt _)) = true then _ else _) Q E s
           rw [if_neg (by intro h; rw [hn, Bool.false_and] at h; cases h)]
           exact wpAny_pure hQ))

/-- the list at a, as it stands at each turn (a loop may append to it) -/
def Itl (K : PySem.W.Frag) (a : Addr) : It :=
  ⟨fun i H => ∃ xs x, SqL K H a xs ∧ xs[i]? = some x, fun i H x H' => H' = H ∧ ∀ xs, SqL K H a xs → xs[i]? = some x, fun i H => ∃ xs, SqL K H a xs ∧ xs.length ≤ i⟩
def Itt (K : PySem.W.Frag) (a : Addr) : It :=
  ⟨fun i H => ∃ xs x, SqT K H a xs ∧ xs[i]? = some x, fun i H x H' => H' = H ∧ ∀ xs, SqT K H a xs → xs[i]? = some x, fun i H => ∃ xs, SqT K H a xs ∧ xs.length ≤ i⟩
/-- lo, lo + 1, .. (n of them) -/
def Itr (lo : Int) (n : Nat) : It := ⟨fun i _ => i < n, fun i H x H' => H' = H ∧ x = .int (lo + i), fun i _ => n ≤ i⟩
theorem turn_list {P : Program} {w : World} {K : PySem.W.Frag} {tg : Expr} (a it : Addr) : Turn P w K tg (Itl K a) [it] it (fun i h => h.IsListIter it a i) where
  mem := by simp
  obj := fun i h st b hb => by
    have e : b = it := by simpa using hb
    subst e
    obtain ⟨o, e, c, d⟩ := st
    exact ⟨o, e, fun v z => by rw [d] at z; cases z⟩
  keep := fun i h h' st k => st.at fun o e => k it (by simp) o e
  item := by
    intro X hP hw hK hc i pins s σ H E I hf st hg
    subst hP hw hK
    obtain ⟨xs, x, hq, hx⟩ := hg
    obtain ⟨its, rv, p, hz⟩ := I.list hq
    obtain ⟨u, hu, ru⟩ := rv.get hx
    obtain ⟨f0, f1, f2, f3, f4, f5⟩ := hf it (by simp)
    refine wpAny_pyNext_list_item st p.isList (x := u) (by simpa using hu) fun h' st' sb => ?_
    have I1 : Inv X pins σ H { s with heap := h' } := I.turned (t' := s.toks) (fun b o hb e => (sb.2 b hb).trans e) f0 f1 f3 f4 f5
    obtain ⟨o, e, c, d⟩ := id st'
    exact ⟨u, rfl, go_of (s := { s with heap := h' }) e c d (by decide) ⟨x, H, I1, ru, ⟨rfl, fun ys hy => by rw [I.list_inj hy hq]; exact hx⟩, st', fun b hb => (hf b hb).1⟩⟩
  done := by
    intro X hP hw hK hc i pins s σ H E I hf st hg
    subst hP hw hK
    obtain ⟨xs, hq, hx⟩ := hg
    obtain ⟨its, rv, p, hz⟩ := I.list hq
    obtain ⟨f0, f1, f2, f3, f4, f5⟩ := hf it (by simp)
    have hl := rv.length
    exact wpAny_pyNext_list_end (I.ok.hd hc) st p.isList (by simp; omega) fun h' eb => ⟨rfl, I.turned (t' := s.toks) (fun b o hb e => eb b o hb e) f0 f1 f3 f4 f5⟩
  self := fun _ _ _ _ _ st h => wpAny_pyIter_listiter st h
theorem turn_tuple {P : Program} {w : World} {K : PySem.W.Frag} {tg : Expr} (a it : Addr) : Turn P w K tg (Itt K a) [it] it (fun i h => h.IsTupleIter it a i) where
  mem := by simp
  obj := fun i h st b hb => by
    have e : b = it := by simpa using hb
    subst e
    obtain ⟨o, e, c, d⟩ := st
    exact ⟨o, e, fun v z => by rw [d] at z; cases z⟩
  keep := fun i h h' st k => st.at fun o e => k it (by simp) o e
  item := by
    intro X hP hw hK hc i pins s σ H E I hf st hg
    subst hP hw hK
    obtain ⟨xs, x, hq, hx⟩ := hg
    obtain ⟨its, rv, p, hz⟩ := I.tuple hq
    obtain ⟨u, hu, ru⟩ := rv.get hx
    obtain ⟨f0, f1, f2, f3, f4, f5⟩ := hf it (by simp)
    refine wpAny_pyNext_tuple_item st (show s.heap.IsTuple a its.toArray from p) (x := u) (by simpa using hu) fun h' st' sb => ?_
    have I1 : Inv X pins σ H { s with heap := h' } := I.turned (t' := s.toks) (fun b o hb e => (sb.2 b hb).trans e) f0 f1 f3 f4 f5
    obtain ⟨o, e, c, d⟩ := id st'
    exact ⟨u, rfl, go_of (s := { s with heap := h' }) e c d (by decide) ⟨x, H, I1, ru, ⟨rfl, fun ys hy => by rw [I.tuple_inj hy hq]; exact hx⟩, st', fun b hb => (hf b hb).1⟩⟩
  done := by
    intro X hP hw hK hc i pins s σ H E I hf st hg
    subst hP hw hK
    obtain ⟨xs, hq, hx⟩ := hg
    obtain ⟨its, rv, p, hz⟩ := I.tuple hq
    obtain ⟨f0, f1, f2, f3, f4, f5⟩ := hf it (by simp)
    have hl := rv.length
    exact wpAny_pyNext_tuple_end (I.ok.hd hc) st (show s.heap.IsTuple a its.toArray from p) (by simp; omega) fun h' eb => ⟨rfl, I.turned (t' := s.toks) (fun b o hb e => eb b o hb e) f0 f1 f3 f4 f5⟩
  self := fun _ _ _ _ _ st h => wpAny_pyIter_tupleiter st h
theorem turn_range {P : Program} {w : World} {K : PySem.W.Frag} {tg : Expr} (it : Addr) (lo : Int) (n : Nat) : Turn P w K tg (Itr lo n) [it] it (fun i h => IsRangeIter h it (lo + (i : Nat) * 1) ((n : Int) - (i : Nat)) 1) where
  mem := by simp
  obj := fun i h st b hb => by
    have e : b = it := by simpa using hb
    subst e
    exact ⟨_, st, fun v z => by
      have z' : Data.fields _ = Data.cell v := z
      cases z'⟩
  keep := fun i h h' st k => k it (by simp) _ st
  item := by
    intro X hP hw hK hc i pins s σ H E I hf st hg
    subst hP hw hK
    obtain ⟨f0, f1, f2, f3, f4, f5⟩ := hf it (by simp)
    have W := Walks.range (prog := X.prog) (w := X.w) (I.ok.hd hc) it lo 1 n
    refine W.item i s _ _ hg st fun v h' tk hv st' kk => ?_
    obtain ⟨t, rfl⟩ := hv
    have I1 : Inv X pins σ H { s with heap := h', toks := tk } := I.turned (fun b o hb e => kk b o (by simpa using hb) e) f0 f1 f3 f4 f5
    refine ⟨_, rfl, go_of (s := { s with heap := h', toks := tk }) (n := "range_iterator") st' rfl rfl (by decide) ⟨.int (lo + i), H, I1, ⟨t, ?_⟩, ⟨rfl, rfl⟩, st', fun b hb => (hf b hb).1⟩⟩
    rw [Int.mul_one]
  done := by
    intro X hP hw hK hc i pins s σ H E I hf st hg
    subst hP hw hK
    obtain ⟨f0, f1, f2, f3, f4, f5⟩ := hf it (by simp)
    exact wpAny_pyNext_range_end (I.ok.hd hc) st (by have : n ≤ i := hg; omega) fun h' eb => ⟨rfl, I.turned (t' := s.toks) (fun b o hb e => eb b o hb e) f0 f1 f3 f4 f5⟩
  self := fun _ _ _ _ _ st h => wpAny_pyIter_rangeiter st h
end L2

namespace L2
open PySem PySem.Spec PyProof.Rows
section
variable {X : Cx} {tg : Expr}
def iList (K : PySem.W.Frag) (tl : TE) : TI := fun σ H R => tl σ H fun x H1 => ∃ a, x = .ref a ∧ (∃ xs, SqL K H1 a xs) ∧ R (Itl K a) H1
def iTup (K : PySem.W.Frag) (tl : TE) : TI := fun σ H R => tl σ H fun x H1 => ∃ a, x = .ref a ∧ (∃ xs, SqT K H1 a xs) ∧ R (Itt K a) H1
theorem pi_list {l : Expr} {tl : TE} (hl : PE X l tl) : PI X tg l (iList X.K tl) := by
  intro pins s σ H R I h
  refine thn (hl pins s σ H _ I h) fun v s1 ⟨x, H1, I1, r1, q1⟩ => ?_
  obtain ⟨a, e, ⟨xs, hq⟩, q⟩ := q1
  subst e
  cases r1
  obtain ⟨its, rv, p, hz⟩ := I1.list hq
  refine wpAny_pyIter_list p.isList ?_
  refine ⟨s1.heap.objs.size, [s1.heap.objs.size], _, _, H1, rfl, I1.kept (t' := s1.toks) fun b o e => Heap.get?_push_of_some _ e, turn_list a _, ⟨_, Heap.get?_push_size _ rfl, rfl, rfl⟩, fun b hb => ?_, q⟩
  have e : b = s1.heap.objs.size := by simpa using hb
  subst e
  exact I1.fpOk (Nat.le_refl _) (I1.hok.fresh (Nat.le_refl _))
theorem pi_tup {l : Expr} {tl : TE} (hl : PE X l tl) : PI X tg l (iTup X.K tl) := by
  intro pins s σ H R I h
  refine thn (hl pins s σ H _ I h) fun v s1 ⟨x, H1, I1, r1, q1⟩ => ?_
  obtain ⟨a, e, ⟨xs, hq⟩, q⟩ := q1
  subst e
  cases r1
  obtain ⟨its, rv, p, hz⟩ := I1.tuple hq
  refine wpAny_pyIter_tuple (show s1.heap.IsTuple a its.toArray from p) ?_
  refine ⟨s1.heap.objs.size, [s1.heap.objs.size], _, _, H1, rfl, I1.kept (t' := s1.toks) fun b o e => Heap.get?_push_of_some _ e, turn_tuple a _, ⟨_, Heap.get?_push_size _ rfl, rfl, rfl⟩, fun b hb => ?_, q⟩
  have e : b = s1.heap.objs.size := by simpa using hb
  subst e
  exact I1.fpOk (Nat.le_refl _) (I1.hok.fresh (Nat.le_refl _))
/-- a range object just made, walked -/
theorem range_it {pins : List (Addr × Obj)} {σ : St} {H : Hp} {s : Shared} {R : It → Hp → Prop} {E : Value → Shared → Prop} {lo hi : Int} {t u v : Tok} {tk : Nat} (I : Inv X pins σ H s) (h1 : -(2 ^ 62) ≤ lo) (h2 : lo < 2 ^ 62) (h3 : -(2 ^ 62) ≤ hi) (h4 : hi < 2 ^ 62)
    (q : R (Itr lo (hi - lo).toNat) H) : wpAny (model X.prog X.w) X.A (pyIter (.ref s.heap.objs.size)) (PIE X pins σ tg R) E { s with heap := s.heap.push { cls := .type "range", data := .fields #[.int lo t, .int hi u, .int 1 v] }, toks := tk } := by
  refine wpAny_pyIter_range (IsRange.new ..) (small_one h1 h2 h3 h4) ?_
  have I1 : Inv X pins σ H { s with heap := s.heap.push { cls := .type "range", data := .fields #[.int lo t, .int hi u, .int 1 v] }, toks := tk } := I.kept fun b o e => Heap.get?_push_of_some _ e
  refine ⟨(s.heap.push { cls := .type "range", data := .fields #[.int lo t, .int hi u, .int 1 v] }).objs.size, [(s.heap.push { cls := .type "range", data := .fields #[.int lo t, .int hi u, .int 1 v] }).objs.size], _, _, H, rfl,
    I1.kept (t' := tk) fun b o e => Heap.get?_push_of_some _ e, turn_range _ lo (hi - lo).toNat, ?_, fun b hb => ?_, q⟩
  · have e1 : lo + ((0 : Nat) : Int) * 1 = lo := by simp
    have e2 : (((hi - lo).toNat : Nat) : Int) - ((0 : Nat) : Int) = Builtin.Range.rangeSize lo hi 1 := by rw [rangeSize_one]; split <;> omega
    show IsRangeIter _ _ (lo + ((0 : Nat) : Int) * 1) ((((hi - lo).toNat : Nat) : Int) - ((0 : Nat) : Int)) 1
    rw [e1, e2]
    exact Heap.get?_push_size _ rfl
  · have e : b = (s.heap.push { cls := .type "range", data := .fields #[.int lo t, .int hi u, .int 1 v] }).objs.size := by simpa using hb
    subst e
    exact I1.fpOk (Nat.le_refl _) (I1.hok.fresh (Nat.le_refl _))
def iRng1 (ta : TA) : TI := fun σ H R => ta σ H fun vs H1 => ∃ j : Int, vs = [.int j] ∧ -(2 ^ 62) ≤ j ∧ j < 2 ^ 62 ∧ R (Itr 0 j.toNat) H1
theorem pi_range1 {a : Expr} {ta : TA} {p pos : Pos} (hg : Gl X "range") (hm : X.mg "range" = none) (ha : PA X [a] ta) (hs : starEach [a] X.env = [(false, eval a X.env)] := by rfl) : PI X tg (.Call (.Name "range" p) [a] [] pos) (iRng1 ta) := by
  intro pins s σ H R I h
  refine Call_ (ld_blt I hg hm boot_range (PyProof.Rows.callWith_type1 (thn (ha pos pins s σ H _ I h) fun us s1 ⟨vs, H1, I1, r1, q1⟩ => ?_) hs rfl))
  obtain ⟨j, e, q1, q2, q⟩ := q1
  subst e
  cases r1 with
  | cons r rr =>
    cases rr
    obtain ⟨t, rfl⟩ := r
    exact call_range_1 (range_it I1 (by omega) (by omega) q1 q2 (by simpa using q))

/-! ### for -/
/-- W: the invariant by the turn and a measure; N: what the body is to reach -/
def tFor (wi : TI) (g : TG) (tb : TS) : TS := fun D σ H => wi σ H fun J H1 => ∃ W : Nat → Nat → St → Hp → Prop, (∃ m, W 0 m σ H1) ∧ ∀ i m σ H, W i m σ H →
  (J.stop i H ∧ D.nx σ H) ∨ (J.go i H ∧ ∃ N : St → Hp → Prop, (∀ σ' H', N σ' H' → ∃ m', m' < m ∧ W (i + 1) m' σ' H') ∧ ∀ x H', J.yld i H x H' → g x σ H' fun σ2 H2 => tb { D with nx := N, ct := N, bk := D.nx } σ2 H2)
/-- the records at fp as they stand -/
def pinsAt (fp : List Addr) (h : Heap) : List (Addr × Obj) := fp.filterMap fun b => (h.get? b).map fun o => (b, o)
theorem mem_pinsAt {fp : List Addr} {h : Heap} {b : Addr} {o : Obj} (hb : b ∈ fp) (e : h.get? b = some o) : (b, o) ∈ pinsAt fp h := List.mem_filterMap.mpr ⟨b, hb, by rw [e]; rfl⟩
theorem of_pinsAt {fp : List Addr} {h : Heap} {p : Addr × Obj} (hp : p ∈ pinsAt fp h) : p.1 ∈ fp ∧ h.get? p.1 = some p.2 := by
  obtain ⟨b, hb, e⟩ := List.mem_filterMap.mp hp
  cases q : h.get? b with
  | none => rw [q] at e; cases e
  | some o =>
    rw [q] at e
    have e' : (b, o) = p := Option.some.inj e
    subst e'
    exact ⟨hb, q⟩
theorem Inv.pinned {pins : List (Addr × Obj)} {σ : St} {H : Hp} {s : Shared} {fp : List Addr} (I : Inv X pins σ H s) (hf : ∀ b ∈ fp, FpOk X pins H b) (ho : ∀ b ∈ fp, ∃ o, s.heap.get? b = some o ∧ ∀ v, o.data ≠ .cell v) : Inv X (pins ++ pinsAt fp s.heap) σ H s :=
  I.pins_of fun p hp => (List.mem_append.mp hp).elim (fun z => I.pin p (List.mem_append_right _ z)) fun z => by
    obtain ⟨hb, e⟩ := of_pinsAt z
    obtain ⟨f0, f1, f2, _⟩ := hf p.1 hb
    obtain ⟨o, e', d⟩ := ho p.1 hb
    rw [e] at e'; cases e'
    exact ⟨e, f0, f1, f2, d⟩
theorem Inv.unpinned {pins pl : List (Addr × Obj)} {σ : St} {H : Hp} {s : Shared} (I : Inv X (pins ++ pl) σ H s) : Inv X pins σ H s := I.pins_of fun p hp => I.pin p (List.mem_append_right _ (List.mem_append_left _ hp))
theorem ps_for {iter : Expr} {body : List Stmt} {wi : TI} {g : TG} {tb : TS} {pos : Pos} (hp : PassesOwn (model X.prog X.w) X.A X.env X.xe) (hc : X.calm = true) (hi : PI X tg iter wi) (hg : PG X tg g) (hb : PSs X body tb)
    (hs : ∀ x, foldedSetIterable iter X.env x = pure x := by intro _; rfl) : PS X (.For tg iter body [] pos) (tFor wi g tb) := by
  intro pins s σ H D I h
  refine wpAny_For (thn (hi pins s σ H _ I h) fun v s1 h1 => thn h1 fun itv s2 h2 => ?_) hs
  obtain ⟨it, fp, tn, J, H2, e, I2, T, st2, f2, W, ⟨m0, w0⟩, turn⟩ := h2
  subst e
  -- what stays true of the iterator's objects through the loop
  have stat : ∀ {H' : Hp}, (∀ b ∈ fp, H' b = none) → ∀ b ∈ fp, FpOk X pins H' b := fun hn b hb => ⟨hn b hb, (f2 b hb).2⟩
  refine codeAny_forLoop_any (fun n s' => ∃ i σ' H', Inv X pins σ' H' s' ∧ tn i s'.heap ∧ (∀ b ∈ fp, H' b = none) ∧ W i n σ' H') ?_ m0 ⟨0, σ, H2, I2, st2, fun b hb => (f2 b hb).1, w0⟩
  rintro n s3 ⟨i, σ3, H3, I3, st3, fr3, w3⟩
  rcases turn i n σ3 H3 w3 with ⟨stop, qn⟩ | ⟨go, N, hN, step⟩
  · refine wpAny_passesOwn hp (thn (T.done X rfl rfl rfl hc i pins s3 σ3 H3 X.xe I3 (stat fr3) st3 stop) fun r s4 ⟨hr, I4⟩ => ?_)
    subst hr
    exact wpAny_execs_nil ⟨σ3, H3, I4, qn⟩
  · refine wpAny_passesOwn hp (thn (T.item X rfl rfl rfl hc i pins s3 σ3 H3 X.xe I3 (stat fr3) st3 go) fun r s4 ⟨u, hr, h4⟩ => ?_)
    subst hr
    refine wpAny_passesOwn hp (thn h4 fun _ s5 ⟨x, H5, I5, r5, y5, st5, fr5⟩ => ?_)
    have I5' := I5.pinned (stat fr5) (T.obj _ _ st5)
    refine wpAny_passesOwn hp (thn (hg _ s5 σ3 H5 x u _ I5' r5 (step x H5 y5)) fun _ s6 ⟨σ6, H6, I6, q6⟩ => ?_)
    refine wpAny_passesOwn hp (thn (hb _ s6 σ6 H6 _ I6 q6) fun f s7 q7 => ?_)
    have again : ∀ {σ7 : St} {H7 : Hp}, Inv X (pins ++ pinsAt fp s5.heap) σ7 H7 s7 → N σ7 H7 → ∃ m, m < n ∧ ∃ i σ' H', Inv X pins σ' H' s7 ∧ tn i s7.heap ∧ (∀ b ∈ fp, H' b = none) ∧ W i m σ' H' := fun {σ7 H7} I7 n7 => by
      obtain ⟨m', hm, w7⟩ := hN σ7 H7 n7
      refine ⟨m', hm, i + 1, σ7, H7, I7.unpinned, T.keep _ _ _ st5 fun b hb o e => (I7.pin (b, o) (List.mem_append_right _ (List.mem_append_right _ (mem_pinsAt hb e)))).1, fun b hb => ?_, w7⟩
      obtain ⟨o, e, d⟩ := T.obj _ _ st5 b hb
      exact (I7.pin (b, o) (List.mem_append_right _ (List.mem_append_right _ (mem_pinsAt hb e)))).2.1
    cases f with
    | next => obtain ⟨σ7, H7, I7, n7⟩ := q7; exact again I7 n7
    | cont => obtain ⟨σ7, H7, I7, n7⟩ := q7; exact again I7 n7
    | brk => obtain ⟨σ7, H7, I7, q7⟩ := q7; exact ⟨σ7, H7, I7.unpinned, q7⟩
    | ret v => obtain ⟨x7, σ7, H7, I7, r7, q7⟩ := q7; exact ⟨x7, σ7, H7, I7.unpinned, r7, q7⟩
end

/-! ### the forms one uses -/
/-- over a list that the body leaves as it is -/
theorem for_list {K : PySem.W.Frag} {a : Addr} {xs : List V} {g : TG} {tb : TS} {D : Ends} {σ : St} {H : Hp} (Pv : Nat → St → Hp → Prop) (h0 : Pv 0 σ H) (hl : ∀ i σ H, i ≤ xs.length → Pv i σ H → SqL K H a xs)
    (hs : ∀ i x σ H, xs[i]? = some x → Pv i σ H → g x σ H fun σ2 H2 => tb { D with nx := Pv (i + 1), ct := Pv (i + 1), bk := D.nx } σ2 H2) (hd : ∀ σ H, Pv xs.length σ H → D.nx σ H) :
    ∃ W : Nat → Nat → St → Hp → Prop, (∃ m, W 0 m σ H) ∧ ∀ i m σ H, W i m σ H →
      ((Itl K a).stop i H ∧ D.nx σ H) ∨ ((Itl K a).go i H ∧ ∃ N : St → Hp → Prop, (∀ σ' H', N σ' H' → ∃ m', m' < m ∧ W (i + 1) m' σ' H') ∧ ∀ x H', (Itl K a).yld i H x H' → g x σ H' fun σ2 H2 => tb { D with nx := N, ct := N, bk := D.nx } σ2 H2) := by
  refine ⟨fun i m σ H => m = xs.length - i ∧ i ≤ xs.length ∧ Pv i σ H, ⟨xs.length, by simp, Nat.zero_le _, h0⟩, ?_⟩
  rintro i m σ H ⟨rfl, hi, p⟩
  have q := hl i σ H hi p
  by_cases hlt : i < xs.length
  · refine .inr ⟨⟨xs, xs[i], q, by simp [hlt]⟩, Pv (i + 1), fun σ' H' p' => ⟨xs.length - (i + 1), by omega, rfl, hlt, p'⟩, fun x H' y => ?_⟩
    obtain ⟨e, y⟩ := y
    subst e
    exact hs i x σ _ (y xs q) p
  · have e : i = xs.length := by omega
    subst e
    exact .inl ⟨⟨xs, q, Nat.le_refl _⟩, hd σ H p⟩
theorem for_range {lo : Int} {n : Nat} {g : TG} {tb : TS} {D : Ends} {σ : St} {H : Hp} (Pv : Nat → St → Hp → Prop) (h0 : Pv 0 σ H)
    (hs : ∀ i σ H, i < n → Pv i σ H → g (.int (lo + i)) σ H fun σ2 H2 => tb { D with nx := Pv (i + 1), ct := Pv (i + 1), bk := D.nx } σ2 H2) (hd : ∀ σ H, Pv n σ H → D.nx σ H) :
    ∃ W : Nat → Nat → St → Hp → Prop, (∃ m, W 0 m σ H) ∧ ∀ i m σ H, W i m σ H →
      ((Itr lo n).stop i H ∧ D.nx σ H) ∨ ((Itr lo n).go i H ∧ ∃ N : St → Hp → Prop, (∀ σ' H', N σ' H' → ∃ m', m' < m ∧ W (i + 1) m' σ' H') ∧ ∀ x H', (Itr lo n).yld i H x H' → g x σ H' fun σ2 H2 => tb { D with nx := N, ct := N, bk := D.nx } σ2 H2) := by
  refine ⟨fun i m σ H => m = n - i ∧ i ≤ n ∧ Pv i σ H, ⟨n, by simp, Nat.zero_le _, h0⟩, ?_⟩
  rintro i m σ H ⟨rfl, hi, p⟩
  by_cases hlt : i < n
  · refine .inr ⟨hlt, Pv (i + 1), fun σ' H' p' => ⟨n - (i + 1), by omega, rfl, hlt, p'⟩, fun x H' y => ?_⟩
    obtain ⟨e, y⟩ := y
    subst e y
    exact hs i σ _ hlt p
  · have e : i = n := by omega
    subst e
    exact .inl ⟨Nat.le_refl _, hd σ H p⟩
end L2

namespace L2
open PySem PySem.Spec PyProof.Rows

abbrev R2 := V → V → Hp → VK → Prop
/-- a two-place operation on values: f is binaryOp op, inplaceOp op or compareOp op -/
def OpR (X : Cx) (f : Value → Value → Sem Value) (r : R2) : Prop :=
  ∀ (pins : List (Addr × Obj)) (s : Shared) (σ : St) (H : Hp) (x y : V) (v u : Value) (Q : VK), Inv X pins σ H s → RelV x v → RelV y u → r x y H Q →
    wpAny (model X.prog X.w) X.A (f v u) (EP X pins σ Q) X.xe s
/-- a one-place operation -/
def UnR (X : Cx) (f : Value → Sem Value) (r : V → Hp → VK → Prop) : Prop :=
  ∀ (pins : List (Addr × Obj)) (s : Shared) (σ : St) (H : Hp) (x : V) (v : Value) (Q : VK), Inv X pins σ H s → RelV x v → r x H Q →
    wpAny (model X.prog X.w) X.A (f v) (EP X pins σ Q) X.xe s
/-- a call of a value that is known (a builtin, a type) with values -/
def CallR (X : Cx) (f : Value) (r : List V → Hp → VK → Prop) : Prop :=
  ∀ (pins : List (Addr × Obj)) (s : Shared) (σ : St) (H : Hp) (xs : List V) (us : List Value) (Q : VK), Inv X pins σ H s → Vals xs us → r xs H Q →
    wpAny (model X.prog X.w) X.A (call f us) (EP X pins σ Q) X.xe s

def tOp (r : R2) (ta tb : TE) : TE := fun σ H Q => ta σ H fun x H1 => tb σ H1 fun y H2 => r x y H2 Q
def tUn (r : V → Hp → VK → Prop) (ta : TE) : TE := fun σ H Q => ta σ H fun x H1 => r x H1 Q
/-- ints in, under C, and a value out -/
def rI (C : Int → Int → Prop) (g : Int → Int → V) : R2 := fun x y H Q => ∃ i j, x = .int i ∧ y = .int j ∧ C i j ∧ Q (g i j) H
def rI0 (g : Int → Int → V) : R2 := fun x y H Q => ∃ i j, x = .int i ∧ y = .int j ∧ Q (g i j) H
def rU (g : Int → V) : V → Hp → VK → Prop := fun x H Q => ∃ i, x = .int i ∧ Q (g i) H

section
variable {X : Cx} {a b c : Expr} {ta tb tc : TE} {pos : Pos}

theorem binT (ha : PE X a ta) (hb : PE X b tb) {pins : List (Addr × Obj)} {s : Shared} {σ : St} {H : Hp} {R : V → V → Hp → Prop} (I : Inv X pins σ H s)
    (h : ta σ H fun x H1 => tb σ H1 fun y H2 => R x y H2) {Q : Value → Shared → Prop} {f : Value → Value → Sem Value}
    (hf : ∀ v u s2 x y H2, Inv X pins σ H2 s2 → RelV x v → RelV y u → R x y H2 → wpAny (model X.prog X.w) X.A (f v u) Q X.xe s2) :
    wpAny (model X.prog X.w) X.A (eval a X.env) (fun v s₁ => wpAny (model X.prog X.w) X.A (eval b X.env) (fun u s₂ => wpAny (model X.prog X.w) X.A (f v u) Q X.xe s₂) X.xe s₁) X.xe s := by
  refine thn (ha pins s σ H _ I h) fun v s1 ⟨x, H1, I1, r1, q1⟩ => ?_
  refine thn (hb pins s1 σ H1 _ I1 q1) fun u s2 ⟨y, H2, I2, r2, q2⟩ => ?_
  exact hf v u s2 x y H2 I2 r1 r2 q2

theorem pe_op {op : Operator} {r : R2} (ho : OpR X (binaryOp op) r) (ha : PE X a ta) (hb : PE X b tb) : PE X (.BinOp a op b pos) (tOp r ta tb) := by
  intro pins s σ H Q I h
  exact wpAny_BinOp (binT ha hb I h fun v u s2 x y H2 I2 rx ry q => ho pins s2 σ H2 x y v u Q I2 rx ry q)
theorem pe_un {op : UnaryOp} {r : V → Hp → VK → Prop} (ho : UnR X (unaryOp op) r) (ha : PE X a ta) : PE X (.UnaryOp op a pos) (tUn r ta) := by
  intro pins s σ H Q I h
  exact UnaryOp_ (thn (ha pins s σ H _ I h) fun v s1 ⟨x, H1, I1, r1, q1⟩ => ho pins s1 σ H1 x v Q I1 r1 q1)

/-! ### ints -/
theorem opI {f : Value → Value → Sem Value} {C : Int → Int → Prop} {g : Int → Int → Int}
    (rule : ∀ (i j : Int) (t u : Tok) (s : Shared) (Q : Value → Shared → Prop) (E : Value → Shared → Prop), C i j → Q (.int (g i j) s.toks) { s with toks := s.toks + 1 } → wpAny (model X.prog X.w) X.A (f (.int i t) (.int j u)) Q E s) :
    OpR X f (rI C fun i j => .int (g i j)) := by
  intro pins s σ H x y v u Q I rx ry h
  obtain ⟨i, j, rfl, rfl, hc, q⟩ := h
  obtain ⟨t, rfl⟩ := rx
  obtain ⟨t', rfl⟩ := ry
  exact rule i j t t' s _ _ hc ⟨.int (g i j), H, I.tok _, ⟨_, rfl⟩, q⟩
theorem opI0 {f : Value → Value → Sem Value} {g : Int → Int → Int}
    (rule : ∀ (i j : Int) (t u : Tok) (s : Shared) (Q : Value → Shared → Prop) (E : Value → Shared → Prop), Q (.int (g i j) s.toks) { s with toks := s.toks + 1 } → wpAny (model X.prog X.w) X.A (f (.int i t) (.int j u)) Q E s) :
    OpR X f (rI0 fun i j => .int (g i j)) := by
  intro pins s σ H x y v u Q I rx ry h
  obtain ⟨i, j, rfl, rfl, q⟩ := h
  obtain ⟨t, rfl⟩ := rx
  obtain ⟨t', rfl⟩ := ry
  exact rule i j t t' s _ _ ⟨.int (g i j), H, I.tok _, ⟨_, rfl⟩, q⟩
theorem opB0 {f : Value → Value → Sem Value} {g : Int → Int → Bool}
    (rule : ∀ (i j : Int) (t u : Tok) (s : Shared) (Q : Value → Shared → Prop) (E : Value → Shared → Prop), Q (.bool (g i j)) s → wpAny (model X.prog X.w) X.A (f (.int i t) (.int j u)) Q E s) :
    OpR X f (rI0 fun i j => .bl (g i j)) := by
  intro pins s σ H x y v u Q I rx ry h
  obtain ⟨i, j, rfl, rfl, q⟩ := h
  obtain ⟨t, rfl⟩ := rx
  obtain ⟨t', rfl⟩ := ry
  exact rule i j t t' s _ _ ⟨.bl (g i j), H, I, rfl, q⟩

def CPow (i j : Int) : Prop := 0 ≤ j ∧ j ≤ 1000000 ∧ i.natAbs < 2 ^ 64
def CMul (i j : Int) : Prop := (-(2 ^ 64) < i ∧ i < 2 ^ 64) ∨ (-(2 ^ 64) < j ∧ j < 2 ^ 64)
theorem CMul.ok {i j : Int} (h : CMul i j) : IntMulOk i j := by
  rcases h with ⟨h1, h2⟩ | ⟨h1, h2⟩
  · exact .of_left (intBits_le_64 h1 h2)
  · exact .of_right (intBits_le_64 h1 h2)

theorem op_add : OpR X (binaryOp .Add) (rI0 fun i j => .int (i + j)) := opI0 fun _ _ _ _ _ _ _ q => add_int q
theorem op_sub : OpR X (binaryOp .Sub) (rI0 fun i j => .int (i - j)) := opI0 fun _ _ _ _ _ _ _ q => sub_int q
theorem op_mul : OpR X (binaryOp .Mult) (rI CMul fun i j => .int (i * j)) := opI fun _ _ _ _ _ _ _ hc q => mul_int q hc.ok
/-- % by a positive divisor of any size -/
theorem op_mod : OpR X (binaryOp .Mod) (rI (fun _ j => 0 < j) fun i j => .int (i % j)) := opI fun i j _ _ _ _ _ hc q => by
  have h1 : (0 : Int) < j := hc
  exact mod_int' (by omega) (by rw [Int.fmod_eq_emod_of_nonneg i (by omega)]; exact q)
theorem op_pow : OpR X (binaryOp .Pow) (rI CPow fun i j => .int (i ^ j.toNat)) := opI fun _ _ _ _ _ _ _ hc q => pow_int_small hc.1 hc.2.1 hc.2.2 q


theorem unI {f : Value → Sem Value} {g : Int → Int}
    (rule : ∀ (i : Int) (t : Tok) (s : Shared) (Q : Value → Shared → Prop) (E : Value → Shared → Prop), Q (.int (g i) s.toks) { s with toks := s.toks + 1 } → wpAny (model X.prog X.w) X.A (f (.int i t)) Q E s) :
    UnR X f (rU fun i => .int (g i)) := by
  intro pins s σ H x v Q I rx h
  obtain ⟨i, rfl, q⟩ := h
  obtain ⟨t, rfl⟩ := rx
  exact rule i t s _ _ ⟨.int (g i), H, I.tok _, ⟨_, rfl⟩, q⟩
theorem un_neg : UnR X (unaryOp .USub) (rU fun i => .int (-i)) := unI fun _ _ _ _ _ q => neg_int q

/-! ### bools among ints: n += (a < b) -/
end

/-! ### comparisons -/
/-- the scalars that == tells apart as data does -/
def scal : V → V → Bool
  | .non, .non => true | .non, .int _ => true | .int _, .non => true | .non, .bl _ => true | .bl _, .non => true | .non, .str _ => true | .str _, .non => true
  | .int _, .int _ => true | .bl _, .bl _ => true | .str _, .str _ => true | .byt _, .byt _ => true
  | .int _, .str _ => true | .str _, .int _ => true | .bl _, .str _ => true | .str _, .bl _ => true
  | _, _ => false
def rEq : R2 := fun x y H Q => scal x y = true ∧ Q (.bl (decide (x = y))) H
def rNe : R2 := fun x y H Q => scal x y = true ∧ Q (.bl (!decide (x = y))) H

theorem dec_int {i j : Int} : decide (V.int i = V.int j) = (i == j) := by
  rw [Bool.eq_iff_iff]
  simp
theorem dec_bl {i j : Bool} : decide (V.bl i = V.bl j) = (i == j) := by
  rw [Bool.eq_iff_iff]
  simp
theorem dec_str {i j : Str} : decide (V.str i = V.str j) = (i == j) := by
  rw [Bool.eq_iff_iff]
  simp
theorem dec_byt {i j : Array UInt8} : decide (V.byt i = V.byt j) = (i.toList == j.toList) := by
  rw [Bool.eq_iff_iff]
  cases i
  cases j
  simp

section
variable {X : Cx} {a b c : Expr} {ta tb tc : TE} {pos : Pos}
theorem fin_bl {pins : List (Addr × Obj)} {σ : St} {H : Hp} {s : Shared} {Q : VK} {k k' : Bool} (I : Inv X pins σ H s) (q : Q (.bl k) H) (e : k = k') : EP X pins σ Q (.bool k') s := by
  subst e
  exact ⟨.bl k, H, I, rfl, q⟩
theorem op_eq : OpR X (compareOp .Eq) rEq := by
  intro pins s σ H x y v u Q I rx ry h
  obtain ⟨hs, q⟩ := h
  cases x with
  | non =>
    cases rx
    cases y with
    | non => cases ry; exact PySem.EqNone.eq_none_none (fin_bl I q (by simp))
    | bl j => cases ry; exact PySem.EqNone.eq_none_bool (fin_bl I q (by simp))
    | int j => obtain ⟨t', rfl⟩ := ry; exact PySem.EqNone.eq_none_int (fin_bl I q (by simp))
    | str j => obtain ⟨t', rfl⟩ := ry; exact PySem.EqNone.eq_none_str (fin_bl I q (by simp))
    | _ => exact absurd (show false = true from hs) Bool.false_ne_true
  | bl i =>
    cases rx
    cases y with
    | non => cases ry; exact PySem.EqNone.eq_bool_none (fin_bl I q (by simp))
    | bl j => cases ry; exact eq_bool (fin_bl I q dec_bl)
    | str j => obtain ⟨t', rfl⟩ := ry; exact PySem.EqMixed.eq_bool_str (fin_bl I q (by simp))
    | _ => exact absurd (show false = true from hs) Bool.false_ne_true
  | int i =>
    obtain ⟨t, rfl⟩ := rx
    cases y with
    | non => cases ry; exact PySem.EqNone.eq_int_none (fin_bl I q (by simp))
    | int j => obtain ⟨t', rfl⟩ := ry; exact eq_int (fin_bl I q dec_int)
    | str j => obtain ⟨t', rfl⟩ := ry; exact PySem.EqMixed.eq_int_str (fin_bl I q (by simp))
    | _ => exact absurd (show false = true from hs) Bool.false_ne_true
  | str i =>
    obtain ⟨t, rfl⟩ := rx
    cases y with
    | non => cases ry; exact PySem.EqNone.eq_str_none (fin_bl I q (by simp))
    | bl j => cases ry; exact PySem.EqMixed.eq_str_bool (fin_bl I q (by simp))
    | int j => obtain ⟨t', rfl⟩ := ry; exact PySem.EqMixed.eq_str_int (fin_bl I q (by simp))
    | str j => obtain ⟨t', rfl⟩ := ry; exact eq_str (fin_bl I q dec_str)
    | _ => exact absurd (show false = true from hs) Bool.false_ne_true
  | byt i =>
    obtain ⟨t, rfl⟩ := rx
    cases y with
    | byt j => obtain ⟨t', rfl⟩ := ry; exact PySem.W.eq_bytes (fin_bl I q dec_byt)
    | _ => exact absurd (show false = true from hs) Bool.false_ne_true
  | _ => cases y <;> exact absurd (show false = true from hs) Bool.false_ne_true
theorem op_ne : OpR X (compareOp .NotEq) rNe := by
  intro pins s σ H x y v u Q I rx ry h
  obtain ⟨hs, q⟩ := h
  cases x with
  | non =>
    cases rx
    cases y with
    | non => cases ry; exact PySem.EqNone.ne_none_none (fin_bl I q (by simp))
    | bl j => cases ry; exact PySem.EqNone.ne_none_bool (fin_bl I q (by simp))
    | int j => obtain ⟨t', rfl⟩ := ry; exact PySem.EqNone.ne_none_int (fin_bl I q (by simp))
    | str j => obtain ⟨t', rfl⟩ := ry; exact PySem.EqNone.ne_none_str (fin_bl I q (by simp))
    | _ => exact absurd (show false = true from hs) Bool.false_ne_true
  | bl i =>
    cases rx
    cases y with
    | non => cases ry; exact PySem.EqNone.ne_bool_none (fin_bl I q (by simp))
    | bl j => cases ry; exact ne_bool (fin_bl I q (congrArg not dec_bl))
    | str j => obtain ⟨t', rfl⟩ := ry; exact PySem.EqMixed.ne_bool_str (fin_bl I q (by simp))
    | _ => exact absurd (show false = true from hs) Bool.false_ne_true
  | int i =>
    obtain ⟨t, rfl⟩ := rx
    cases y with
    | non => cases ry; exact PySem.EqNone.ne_int_none (fin_bl I q (by simp))
    | int j => obtain ⟨t', rfl⟩ := ry; exact ne_int (fin_bl I q (congrArg not dec_int))
    | str j => obtain ⟨t', rfl⟩ := ry; exact PySem.EqMixed.ne_int_str (fin_bl I q (by simp))
    | _ => exact absurd (show false = true from hs) Bool.false_ne_true
  | str i =>
    obtain ⟨t, rfl⟩ := rx
    cases y with
    | non => cases ry; exact PySem.EqNone.ne_str_none (fin_bl I q (by simp))
    | bl j => cases ry; exact PySem.EqMixed.ne_str_bool (fin_bl I q (by simp))
    | int j => obtain ⟨t', rfl⟩ := ry; exact PySem.EqMixed.ne_str_int (fin_bl I q (by simp))
    | str j => obtain ⟨t', rfl⟩ := ry; exact ne_str (fin_bl I q (congrArg not dec_str))
    | _ => exact absurd (show false = true from hs) Bool.false_ne_true
  | byt i =>
    obtain ⟨t, rfl⟩ := rx
    cases y with
    | byt j => obtain ⟨t', rfl⟩ := ry; exact PySem.W.ne_bytes (fin_bl I q (congrArg not dec_byt))
    | _ => exact absurd (show false = true from hs) Bool.false_ne_true
  | _ => cases y <;> exact absurd (show false = true from hs) Bool.false_ne_true

theorem op_lt : OpR X (compareOp .Lt) (rI0 fun i j => .bl (decide (i < j))) := opB0 fun _ _ _ _ _ _ _ q => lt_int q
theorem op_le : OpR X (compareOp .LtE) (rI0 fun i j => .bl (decide (i ≤ j))) := opB0 fun _ _ _ _ _ _ _ q => le_int q
theorem op_gt : OpR X (compareOp .Gt) (rI0 fun i j => .bl (decide (j < i))) := opB0 fun _ _ _ _ _ _ _ q => gt_int q
theorem op_ge : OpR X (compareOp .GtE) (rI0 fun i j => .bl (decide (j ≤ i))) := opB0 fun _ _ _ _ _ _ _ q => ge_int q

/-- is None, is not None: the right side a value none -/
theorem op_isN : OpR X (compareOp .Is) (fun x y H Q => y = .non ∧ Q (.bl (decide (x = .non))) H) := by
  intro pins s σ H x y v u Q I rx ry h
  obtain ⟨rfl, q⟩ := h
  cases ry
  refine is_none_gen (fin_bl I q ?_)
  cases x <;> first
    | (cases rx; rfl)
    | (obtain ⟨t, rfl⟩ := rx; rfl)
theorem op_notN : OpR X (compareOp .IsNot) (fun x y H Q => y = .non ∧ Q (.bl (!decide (x = .non))) H) := by
  intro pins s σ H x y v u Q I rx ry h
  obtain ⟨rfl, q⟩ := h
  cases ry
  refine isnot_none_gen (fin_bl I q ?_)
  cases x <;> first
    | (cases rx; rfl)
    | (obtain ⟨t, rfl⟩ := rx; rfl)



theorem nomark (b : Expr) {op : CmpOp} (h : op ≠ .In := by decide) (h2 : op ≠ .NotIn := by decide) : behindInMarks op b = false := by
  have e1 : (op == CmpOp.In) = false := by cases op <;> first | rfl | exact absurd rfl h
  have e2 : (op == CmpOp.NotIn) = false := by cases op <;> first | rfl | exact absurd rfl h2
  cases b <;> simp [behindInMarks, e1, e2]
/-- a comparison as a value; hm: nomark b, or (for in, not in) by with_unfolding_all rfl -/
theorem pe_cmpR {op : CmpOp} {r : R2} (ho : OpR X (compareOp op) r) (ha : PE X a ta) (hb : PE X b tb) (hm : behindInMarks op b = false) : PE X (.Compare a [op] [b] pos) (tOp r ta tb) := by
  intro pins s σ H Q I h
  exact wpAny_Compare1 (binT ha hb I h fun v u s2 x y H2 I2 rx ry q => ho pins s2 σ H2 x y v u Q I2 rx ry q) hm
/-- a reading of a value as a test -/
def tTest (t : TE) : TT := fun σ H Q => t σ H fun x H' => ∃ k, x = .bl k ∧ Q k H'
theorem pt_cmpR {op : CmpOp} {r : R2} (ho : OpR X (compareOp op) r) (ha : PE X a ta) (hb : PE X b tb) (hm : behindInMarks op b = false) : PT X (.Compare a [op] [b] pos) (tTest (tOp r ta tb)) := by
  intro pins s σ H Q I h
  refine wpAny_isTrue_Compare1 (thn (ha pins s σ H _ I h) fun v s1 ⟨x, H1, I1, r1, q1⟩ => thn (hb pins s1 σ H1 _ I1 q1) fun u s2 ⟨y, H2, I2, r2, q2⟩ =>
    thn (ho pins s2 σ H2 x y v u _ I2 r1 r2 q2) fun c s3 ⟨z, H3, I3, r3, k, e, q3⟩ => ?_) hm
  subst e
  cases r3
  exact wpAny_truthy_bool ⟨H3, I3, q3⟩
/-- a op1 b op2 c -/
def tChain (r r' : R2) (ta tb tc : TE) : TE := fun σ H Q => ta σ H fun x H1 => tb σ H1 fun y H2 => r x y H2 fun z H3 => ∃ k, z = .bl k ∧
  (if k = true then tc σ H3 fun w' H4 => r' y w' H4 Q else Q (.bl false) H3)
theorem pe_chain {op op' : CmpOp} {r r' : R2} (ho : OpR X (compareOp op) r) (ho' : OpR X (compareOp op') r') (ha : PE X a ta) (hb : PE X b tb) (hc : PE X c tc)
    (hm : lastMarks [op, op'] [b, c] = false := by with_unfolding_all rfl) : PE X (.Compare a [op, op'] [b, c] pos) (tChain r r' ta tb tc) := by
  intro pins s σ H Q I h
  refine Compare_chain (thn (ha pins s σ H _ I h) fun v s1 ⟨x, H1, I1, r1, q1⟩ => chain_link (thn (hb pins s1 σ H1 _ I1 q1) fun u s2 ⟨y, H2, I2, r2, q2⟩ =>
    thn (ho pins s2 σ H2 x y v u _ I2 r1 r2 q2) fun d s3 ⟨z, H3, I3, r3, k, e, q3⟩ => ?_)) hm
  subst e
  cases r3
  refine wpAny_truthy_bool ?_
  cases k with
  | false => exact ite_ff ⟨.bl false, H3, I3, rfl, q3⟩
  | true => exact ite_tt (chain_last (thn (hc pins s3 σ H3 _ I3 q3) fun w' s4 ⟨z', H4, I4, r4, q4⟩ => ho' pins s4 σ H4 y z' u w' Q I4 r2 r4 q4))
theorem pt_chain {op op' : CmpOp} {r r' : R2} (ho : OpR X (compareOp op) r) (ho' : OpR X (compareOp op') r') (ha : PE X a ta) (hb : PE X b tb) (hc : PE X c tc)
    (hm : lastMarks [op, op'] [b, c] = false := by with_unfolding_all rfl) : PT X (.Compare a [op, op'] [b, c] pos) (tTest (tChain r r' ta tb tc)) := by
  intro pins s σ H Q I h
  refine isTrue_chain (thn (ha pins s σ H _ I h) fun v s1 ⟨x, H1, I1, r1, q1⟩ => test_link (thn (hb pins s1 σ H1 _ I1 q1) fun u s2 ⟨y, H2, I2, r2, q2⟩ =>
    thn (ho pins s2 σ H2 x y v u _ I2 r1 r2 q2) fun d s3 ⟨z, H3, I3, r3, k, e, q3⟩ => ?_)) hm
  subst e
  cases r3
  refine wpAny_truthy_bool ?_
  cases k with
  | false =>
    obtain ⟨k', e', q'⟩ := q3
    cases e'
    exact ite_ff ⟨H3, I3, q'⟩
  | true =>
    refine ite_tt (test_last (thn (hc pins s3 σ H3 _ I3 q3) fun w' s4 ⟨z', H4, I4, r4, q4⟩ => thn (ho' pins s4 σ H4 y z' u w' _ I4 r2 r4 q4) fun d' s5 ⟨z2, H5, I5, r5, k2, e2, q5⟩ => ?_))
    subst e2
    cases r5
    exact wpAny_truthy_bool ⟨H5, I5, q5⟩

/-! ### truth -/
theorem line63 : (sizeLine : Nat) < 2 ^ 63 := by rw [sizeLine_eq]; decide

/-! ### strs and bytes -/


/-! ### scalar builtins, by CallR -/
theorem vals1 {x : V} {us : List Value} (r : Vals [x] us) : ∃ u, us = [u] ∧ RelV x u := by
  cases r with
  | cons r1 r2 => cases r2; exact ⟨_, rfl, r1⟩
theorem vals2 {x y : V} {us : List Value} (r : Vals [x, y] us) : ∃ u w', us = [u, w'] ∧ RelV x u ∧ RelV y w' := by
  cases r with
  | cons r1 r2 =>
    cases r2 with
    | cons r3 r4 => cases r4; exact ⟨_, _, rfl, r1, r3⟩
theorem call_abs : CallR X (.builtin "abs") (fun xs H Q => ∃ i, xs = [.int i] ∧ Q (.int (if i < 0 then -i else i)) H) := by
  intro pins s σ H xs us Q I r h
  obtain ⟨i, rfl, q⟩ := h
  obtain ⟨u, rfl, t, rfl⟩ := vals1 r
  exact call_abs_int fun u tk => ⟨.int (if i < 0 then -i else i), H, I.tok _, ⟨_, rfl⟩, q⟩
end
end L2

namespace L2
open PySem PySem.Spec PyProof.Rows

/-! ### an instance, its attributes a map -/
structure ObjM (h : Heap) (x dx C : Addr) (mA : Str → Option Value) : Prop where
  obj : h.get? x = some (PySem.W.instObj C dx)
  ns : h.Ns1 dx mA
  ne : dx ≠ x

theorem lookIn_ns {h : Heap} {dx : Addr} {mA : Str → Option Value} (n : h.Ns1 dx mA) : ∃ od, h.get? dx = some od ∧ ∀ name, PySem.W.lookIn name od = some (mA name) := by
  obtain ⟨o, es, ep, ho, hd, hk, _, hm⟩ := n
  refine ⟨o, ho, fun name => ?_⟩
  have e := hm name
  unfold nsFind findBy at e
  rw [← Array.find?_toList] at e
  unfold PySem.W.lookIn
  rw [hd]
  dsimp only
  split
  · rename_i y q
    rw [q] at e
    exact congrArg some e
  · rename_i q
    rw [q] at e
    have a : es.toList.any (·.refKey) = false := by
      rw [List.any_eq_false]
      intro y hy
      obtain ⟨z, t, hkey⟩ := hk y (Array.mem_toList_iff.mp hy)
      simp [DictEntry.refKey, hkey]
    have a' : ¬ es.toList.any (·.refKey) = true := by rw [a]; exact Bool.false_ne_true
    rw [if_neg a']
    exact congrArg some e

theorem ObjM.look {h : Heap} {x dx C : Addr} {mA : Str → Option Value} (I : ObjM h x dx C mA) : ∃ od, PySem.W.InstAt h x (PySem.W.instObj C dx) C (some od) ∧ ∀ name, PySem.W.lookIn name od = some (mA name) :=
  let ⟨od, ho, hl⟩ := lookIn_ns I.ns
  ⟨od, ⟨I.obj, rfl, rfl, ho⟩, hl⟩

section
variable {prog : Program} {w : World} {A : Around} {E : Value → Shared → Prop} {s : Shared} {K : PySem.W.Frag} {x dx C f : Addr} {mA : Str → Option Value} {name : Str} {v : Value}





end

/-! ### the attributes as a list of pairs -/

theorem RelO.some_of {v : V} {o : Option Value} (r : RelO (some v) o) : ∃ u, o = some u ∧ RelV v u := by
  cases o with
  | none => exact (show False from r).elim
  | some u => exact ⟨u, rfl, r⟩

section
variable {P : Program} {w : World} {H H' : Hp} {h h' : Heap} {a C dx : Addr} {fs fs' : List (Str × V)}
theorem ins_get (hok : HOk P w H h) (e : H a = some (.ins C dx fs)) : ∃ mA, ObjM h a dx C mA ∧ (∀ f, RelO (fs.lookup f) (mA f)) ∧ PySem.Within mA (fs.map (·.1)) ∧ fs.length ≤ 1000 ∧ H dx = some (.own a) := by
  obtain ⟨d, z, ne, ob, mA, n, r, q⟩ := (show ObjOk P w H h a (.ins C dx fs) from hok a _ e)
  exact ⟨mA, ⟨ob, n, ne⟩, r, q, z, d⟩
end

/-! ### what of the text a class must have -/
structure Cls (K : PySem.W.Frag) (C : Addr) : Prop where
  pg : PySem.W.plainGet K C Str.empty = true
  hd : PySem.W.hasDictIn K C = true
  po : PySem.W.plainOver K C = true
  sa : PySem.W.findIn K (.ref C) "__setattr__" = some (some (.builtin "object.__setattr__"))
theorem Cls.get {K : PySem.W.Frag} {C : Addr} (c : Cls K C) (f : Str) : PySem.W.plainGet K C f = true := c.pg

section
variable {X : Cx} {pins : List (Addr × Obj)} {σ : St} {H : Hp} {s : Shared} {a C dx : Addr} {fs : List (Str × V)} {f : Str} {v : V} {A : Around} {E : Value → Shared → Prop}






/-- e.f where nothing but the object is asked: through attributeBase (super) and the last hold -/
theorem attr_of {prog : Program} {w : World} {env : Env} {e : Expr} {f : Str} {pos : Pos} {s : Shared} {Q : Value → Shared → Prop} (hb : attributeBase e f env (eval e env) = eval e env)
    (h : wpAny (model prog w) A (eval e env) (fun o s₁ => wpAny (model prog w) A (getAttr o f true) Q E s₁) E s) : wpAny (model prog w) A (eval (.Attribute e f pos) env) Q E s :=
  Attribute_any_ h (by rw [arm_eval_Attribute, hb])
end

/-! ### readings and rules -/

section
variable {X : Cx} {o e value : Expr} {f : Str} {pos pos' tpos : Pos} {ta tv : TE}

end

/-! ### isinstance -/
section
variable {X : Cx} {pins : List (Addr × Obj)} {σ : St} {H : Hp} {s : Shared} {A : Around} {E : Value → Shared → Prop} {Q : Value → Shared → Prop} {c : Value} {b : Bool}
/-- the type of a value, as the fragment's deciders take it; for an instance its class -/
inductive TyOf (K : PySem.W.Frag) (H : Hp) : V → Value → Prop where
  | non : TyOf K H .non (.type "NoneType")
  | bl (x : Bool) : TyOf K H (.bl x) (.type "bool")
  | int (i : Int) : TyOf K H (.int i) (.type "int")
  | str (x : Str) : TyOf K H (.str x) (.type "str")
  | flt (x : UInt64) : TyOf K H (.flt x) (.type "float")
  | lst {a : Addr} {xs : List V} (e : H a = some (.lst xs)) : TyOf K H (.ref a) (.type "list")
  | frz {a : Addr} {o : Obj} {xs : List V} (e : H a = some (.frz o (.lst xs))) : TyOf K H (.ref a) (.type "list")
  | tup {a : Addr} {xs : List V} (e : H a = some (.tup xs)) : TyOf K H (.ref a) (.type "tuple")
  | dK {a : Addr} {kvs : List (Key × V)} (e : H a = some (.dK kvs)) : TyOf K H (.ref a) (.type "dict")
  | dT {a : Addr} {kvs : List (List Key × V)} (e : H a = some (.dT kvs)) : TyOf K H (.ref a) (.type "dict")
  | ins {a C dx : Addr} {fs : List (Str × V)} (e : H a = some (.ins C dx fs)) (cl : Cls K C) (ha : PySem.W.findIn K (.ref C) "__class__" = some (some (.builtin "object.__class__")))
      (hn : PySem.W.specialIn K (.builtin "object.__class__") "__get__" = some (some (.builtin "getset_descriptor.__get__"))) (htk : PySem.W.takesIn K (.builtin "object.__class__") = some true)
      (hm : PySem.W.mroIn K C (.type "object") = some true) : TyOf K H (.ref a) (.ref C)
/-- isinstance(x, c) for one class c, a built-in or an own one: kitOne's answer -/
theorem isinst_ok {x : V} {u t : Value} (I : Inv X pins σ H s) (rx : RelV x u) (ty : TyOf X.K H x t) (e : PySem.W.kitOne X.K t c = some b) (h : ∀ tk, Q (.bool b) { s with toks := tk }) :
    wpAny (model X.prog X.w) A (call (.builtin "isinstance") [u, c]) Q E s := by
  cases ty with
  | non => cases (show u = Value.none from rx); exact PySem.W.kia_one PySem.W.kitx_none I.kIn True.intro e (fun z => nomatch z) h
  | bl y => cases (show u = Value.bool y from rx); exact PySem.W.kia_one PySem.W.kitx_bool I.kIn True.intro e (fun z => nomatch z) h
  | int i => obtain ⟨t, q⟩ := (show ∃ t, u = Value.int i t from rx); cases q; exact PySem.W.kia_one PySem.W.kitx_int I.kIn True.intro e (fun z => nomatch z) h
  | str y => obtain ⟨t, q⟩ := (show ∃ t, u = Value.str y t from rx); cases q; exact PySem.W.kia_one PySem.W.kitx_str I.kIn True.intro e (fun z => nomatch z) h
  | flt y => obtain ⟨t, q⟩ := (show ∃ t, u = Value.float y t from rx); cases q; exact PySem.W.kia_one PySem.W.kitx_float I.kIn True.intro e (fun z => nomatch z) h
  | @lst a xs ea =>
    cases (show u = Value.ref a from rx)
    obtain ⟨_, _, n, _, h1⟩ := (show ObjOk X.prog X.w H s.heap a (.lst xs) from I.hok a _ ea)
    exact PySem.W.kia_one PySem.W.kitx_list I.kIn ⟨_, h1, rfl⟩ e (fun z => nomatch z) h
  | @frz a ob xs ea =>
    cases (show u = Value.ref a from rx)
    obtain ⟨_, _, _, n, _, h1⟩ := (show ObjOk X.prog X.w H s.heap a (.frz ob (.lst xs)) from I.hok a _ ea)
    exact PySem.W.kia_one PySem.W.kitx_list I.kIn ⟨_, h1, rfl⟩ e (fun z => nomatch z) h
  | @tup a xs ea =>
    cases (show u = Value.ref a from rx)
    obtain ⟨_, _, _, p⟩ := (show ObjOk X.prog X.w H s.heap a (.tup xs) from I.hok a _ ea)
    obtain ⟨o, h1, h2, _⟩ := p
    exact PySem.W.kia_one PySem.W.kitx_tuple I.kIn ⟨o, h1, h2⟩ e (fun z => nomatch z) h
  | @dK a kvs ea =>
    cases (show u = Value.ref a from rx)
    obtain ⟨_, _, vs, _, p⟩ := (show ObjOk X.prog X.w H s.heap a (.dK kvs) from I.hok a _ ea)
    obtain ⟨o, es, ep, h1, h2, _⟩ := p
    exact PySem.W.kia_one PySem.W.kitx_dict I.kIn ⟨o, h1, h2.1⟩ e (fun z => nomatch z) h
  | @dT a kvs ea =>
    cases (show u = Value.ref a from rx)
    obtain ⟨_, _, xs, _, o, es, ep, h1, h2, _⟩ := (show ObjOk X.prog X.w H s.heap a (.dT kvs) from I.hok a _ ea)
    exact PySem.W.kia_one PySem.W.kitx_dict I.kIn ⟨o, h1, h2.1⟩ e (fun z => nomatch z) h
  | @ins a C dx fs ea cl ha hn htk hm =>
    cases (show u = Value.ref a from rx)
    obtain ⟨mA, O, _⟩ := ins_get I.hok ea
    obtain ⟨od, J, _⟩ := O.look
    exact PySem.W.kia_one (PySem.W.kitx_own (cl.get _) cl.hd ha hn htk hm) I.kIn J e (fun z => nomatch z) h
end
end L2

namespace L2
open PySem PySem.Spec PyProof.Rows

/-! ### room -/
structure Room (k : Nat) (A : Around) : Prop where
  hd : A.handled = none
  dp : A.depth + 3 * k + 5 < recursionLimit
  un : A.units + 16 * k + 200 < cLine
theorem Room.mono {j k : Nat} {A : Around} (r : Room k A) (h : j ≤ k) : Room j A := ⟨r.hd, by have := r.dp; omega, by have := r.un; omega⟩
theorem Room.deeper {k : Nat} {A : Around} (r : Room (k + 1) A) (env : Env) : Room k (A.deeper env) :=
  ⟨r.hd, by have := r.dp; show A.depth + 1 + 3 * k + 5 < _; omega, by have := r.un; show A.units + 3 + 16 * k + 200 < _; omega⟩
theorem make_depth {A : Around} {C : Addr} {us : List Value} {kw : List (Str × Value)} : (A.under (.builtin "type.__call__" ⟨.ref C :: us, kw⟩)).depth = A.depth + 1 := by
  first | rfl | simp [Around.under, Code.weight, Code.isCreation, Code.isGuard, Code.isCaller, Code.frames, Code.isFrame, guardIds]
theorem make_units {A : Around} {C : Addr} {us : List Value} {kw : List (Str × Value)} : (A.under (.builtin "type.__call__" ⟨.ref C :: us, kw⟩)).units = A.units + 1 := by
  first | rfl | simp [Around.under, Code.cUnits, Code.frames, Code.isFrame]
theorem Room.make {k : Nat} {A : Around} (r : Room (k + 1) A) (C : Addr) (us : List Value) (kw : List (Str × Value)) : Room k (A.under (.builtin "type.__call__" ⟨.ref C :: us, kw⟩)) :=
  ⟨r.hd, by have := r.dp; rw [make_depth]; omega, by have := r.un; rw [make_units]; omega⟩
theorem Room.depth {k : Nat} {A : Around} (r : Room k A) : A.depth < recursionLimit := by have := r.dp; omega
theorem Room.units {k : Nat} {A : Around} (r : Room k A) : A.units + 64 < cLine := by have := r.un; omega

/-! ### argument lists and displays -/
def tNil : TA := fun _ H Q => Q [] H
def tCons (ta : TE) (tr : TA) : TA := fun σ H Q => ta σ H fun x H1 => tr σ H1 fun xs H2 => Q (x :: xs) H2
section
variable {X : Cx} {e : Expr} {es : List Expr} {te : TE} {t : TA} {pos : Pos}
theorem pa_nil : PA X [] tNil := fun _ _ _ _ H Q I h => Calls.spliced_nil ⟨[], H, I, .nil, h⟩
theorem pa_cons (ha : PE X e te) (hr : PA X es t) (hs : starEach (e :: es) X.env = (false, eval e X.env) :: starEach es X.env := by rfl) : PA X (e :: es) (tCons te t) := by
  intro pos pins s σ H Q I h
  rw [hs]
  show wpAny _ _ (spliced ((false, eval e X.env) :: backTo pos (starEach es X.env))) _ _ s
  refine Calls.spliced_cons (thn (ha pins s σ H _ I h) fun u s1 ⟨x, H1, I1, r1, q1⟩ => ?_)
  exact thn (hr pos pins s1 σ H1 _ I1 q1) fun us s2 ⟨xs, H2, I2, r2, q2⟩ => ⟨x :: xs, H2, I2, .cons r1 r2, q2⟩

/-- a tuple, a list of written items -/
def tTup (t : TA) : TE := fun σ H Q => t σ H fun xs H1 => xs.length ≤ sizeLine ∧ ∀ p, H1 p = none → Q (.ref p) (upd H1 p (.tup xs))
def tLst (t : TA) : TE := fun σ H Q => t σ H fun xs H1 => xs.length ≤ sizeLine ∧ ∀ p, H1 p = none → Q (.ref p) (upd H1 p (.lst xs))
theorem pe_tup {x1} (h : PA X es t) : PE X (.Tuple es x1 pos) (tTup t) := by
  intro pins s σ H Q I hq
  refine wpAny_Tuple_spliced (thn (h pos pins s σ H _ I hq) fun us s1 ⟨xs, H1, I1, r, z, q⟩ => ⟨by rw [← r.length]; exact z, ?_⟩)
  have hf : H1 s1.heap.objs.size = none := I1.hok.fresh (Nat.le_refl _)
  refine ⟨.ref s1.heap.objs.size, upd H1 s1.heap.objs.size (.tup xs), I1.laid (t' := s1.toks) (fun b u e => Heap.get?_push_of_some _ e) (Nat.le_refl _) ?_, rfl, q _ hf⟩
  exact ⟨z, us, r, ⟨_, Heap.get?_push_size _ rfl, rfl, _, rfl⟩⟩
theorem pe_lst (h : PA X es t) : PE X (.List es pos) (tLst t) := by
  intro pins s σ H Q I hq
  refine wpAny_List_spliced (thn (h pos pins s σ H _ I hq) fun us s1 ⟨xs, H1, I1, r, z, q⟩ => ⟨by rw [← r.length]; exact z, ?_⟩)
  have hf : H1 s1.heap.objs.size = none := I1.hok.fresh (Nat.le_refl _)
  refine ⟨.ref s1.heap.objs.size, upd H1 s1.heap.objs.size (.lst xs), I1.laid (t' := s1.toks) (fun b u e => Heap.get?_push_of_some _ e) (Nat.le_refl _) ?_, rfl, q _ hf⟩
  exact ⟨z, us, 0, r, Heap.get?_push_size _ rfl⟩
end

/-! ### what a def promises -/
/-- a def's promise: the bound arguments in the parameters' order, the heap, the wanted end, the wanted exception -/
abbrev Sp := List V → Hp → VK → XK → Prop
/-- how an exception lies behind a call (file 08 gives it): the callers' frames, abstract heap and state ahead of the call, the wish, the exception, the state -/
abbrev CXT := List Env → Hp → Shared → XK → Value → Shared → Prop

/-- the state at a call -/
structure Env0 (P : Program) (w : World) (K : PySem.W.Frag) (mg : Str → Option Value) (base : Heap) (A : Around) (outer : List Env) (s : Shared) (H : Hp) : Prop where
  frames : A.frames = some outer
  mod : Mod K mg base
  bs : ∀ b o, base.get? b = some o → s.heap.get? b = some o ∧ H b = none
  bsz : base.objs.size ≤ s.heap.objs.size
  funs : s.heap.FunFrames base outer
  frf : ∀ b ∈ frs outer, H b = none
  hok : HOk P w H s.heap
  bare : AllBare s.gens
/-- a call's end -/
def CE (outer : List Env) (P : Program) (w : World) (H : Hp) (s : Shared) (Q : VK) (u : Value) (s' : Shared) : Prop :=
  ∃ v H', s'.os = s.os ∧ AllBare s'.gens ∧ Un (frs outer) [] H H' s.heap s'.heap ∧ HOk P w H' s'.heap ∧ RelV v u ∧ Q v H'
def CR (CX : CXT) (outer : List Env) (P : Program) (w : World) (H : Hp) (s : Shared) (Q : VK) (E : XK) (r : Result) (s' : Shared) : Prop :=
  match r with
  | .ok (.ret u) => CE outer P w H s Q u s'
  | .ok _ => False
  | .error e => CX outer H s E e s'
structure FnOk (P : Program) (w : World) (K : PySem.W.Frag) (mg : Str → Option Value) (base : Heap) (CX : CXT) (k : Nat) (f : Addr) (fd : FuncData) (ps : List Str) (sp : Sp) : Prop where
  len : ∀ vs H Q E, sp vs H Q E → vs.length = ps.length
  run : ∀ (A : Around) (outer : List Env) (s : Shared) (H : Hp) (args : Args) (us : List Value) (vs : List V) (Q : VK) (E : XK), Room k A → Env0 P w K mg base A outer s H → BindsTo s fd args (ps.zip us) → Vals vs us → sp vs H Q E →
    codeAny (model P w) A (.call (.ref f) args) (CR CX outer P w H s Q E) s

theorem Env0.make {P : Program} {w : World} {K : PySem.W.Frag} {mg : Str → Option Value} {base : Heap} {A : Around} {outer : List Env} {s : Shared} {H : Hp} (e : Env0 P w K mg base A outer s H) (C : Addr) (us : List Value) (kw : List (Str × Value)) :
    Env0 P w K mg base (A.under (.builtin "type.__call__" ⟨.ref C :: us, kw⟩)) outer s H := ⟨by first | exact e.frames | (simpa [Around.under, Code.envs, Code.isFrame, pushEnvs] using e.frames), e.mod, e.bs, e.bsz, e.funs, e.frf, e.hok, e.bare⟩

section
variable {X : Cx} {pins : List (Addr × Obj)} {σ : St} {H : Hp} {s s' : Shared}
/-- from a body: what a callee wants -/
theorem Inv.env0 (I : Inv X pins σ H s) : Env0 X.prog X.w X.K X.mg X.base X.A X.stack s H :=
  ⟨I.ok.frames, I.ok.mod, I.bs, Nat.le_trans I.ok.bsz I.sz, I.stack, I.stkFree, I.hok, I.bare⟩
/-- behind a call -/
theorem Inv.after {Q : VK} {u : Value} (I : Inv X pins σ H s) (h : CE X.stack X.prog X.w H s Q u s') : EP X pins σ Q u s' := by
  obtain ⟨v, H', os, bare, un, hok, r, q⟩ := h
  obtain ⟨hh, g, d, t, os'⟩ := s'
  obtain rfl : os' = s.os := os
  exact ⟨v, H', I.call (h' := hh) (g' := g) (d' := d) (t' := t) (ch := []) un hok bare (fun b z => absurd z (by simp)), r, q⟩
end

/-! ### calls -/
/-- f(..): the written arguments, then the defaults dvs; E: what is wanted of an exception -/
def tCall (sp : Sp) (dvs : List V) (E : XK) (t : TA) : TE := fun σ H Q => t σ H fun vs H1 => sp (vs ++ dvs) H1 Q E

/-- how the parameters are bound: us the positional arguments, kw the keywords' values by name, ds the defaults that fill up -/
def Binds (K : PySem.W.Frag) (fd : FuncData) (ps : List Str) (ds : List Value) : Prop :=
  ∀ (s : Shared) (us : List Value), K.In s.heap → (us ++ ds).length = ps.length → BindsTo s fd ⟨us, []⟩ (ps.zip (us ++ ds))
/-- every parameter is given -/
theorem Binds.all {K : PySem.W.Frag} {fd : FuncData} {ps : List Str} (h : ∀ us : List Value, us.length = ps.length → bindArgs fd ⟨us, []⟩ = pure (ps.zip us)) : Binds K fd ps [] := fun s us _ hl => by
  rw [List.append_nil] at hl ⊢
  exact .of_eq (h us hl)

/-- an exception of a callee reaches what this body wants of exceptions -/
def Passes (CX : CXT) (X : Cx) (E : XK) : Prop := ∀ (pins : List (Addr × Obj)) (σ : St) (H : Hp) (s : Shared) (e : Value) (s' : Shared), Inv X pins σ H s → CX X.stack H s E e s' → X.xe e s'

section
variable {X : Cx} {CX : CXT} {k : Nat} {f C : Addr} {fd : FuncData} {ps : List Str} {sp : Sp} {dvs : List V} {ds : List Value} {E : XK} {x m : Str} {p pos apos : Pos} {e o : Expr} {es : List Expr} {ta : TE} {t : TA}

/-- the callee runs -/
theorem run_fn {pins : List (Addr × Obj)} {σ : St} {H : Hp} {s : Shared} {Q : VK} {us : List Value} {vs : List V} (F : FnOk X.prog X.w X.K X.mg X.base CX k f fd ps sp) (hr : Room k X.A) (hb : Binds X.K fd ps ds) (hd : Vals dvs ds) (hx : Passes CX X E)
    (I : Inv X pins σ H s) (r : Vals vs us) (h : sp (vs ++ dvs) H Q E) : wpAny (model X.prog X.w) X.A (call (.ref f) us) (EP X pins σ Q) X.xe s := by
  have r2 : Vals (vs ++ dvs) (us ++ ds) := r.append hd
  have hl : (us ++ ds).length = ps.length := by rw [← r2.length]; exact F.len _ _ _ _ h
  refine wpAny_call (codeAny_mono (F.run X.A X.stack s H ⟨us, []⟩ (us ++ ds) (vs ++ dvs) Q E hr I.env0 (hb s us I.kIn hl) r2 h) fun r s' hq => ?_)
  cases r with
  | error e => exact hx pins σ H s e s' I hq
  | ok fl =>
    cases fl with
    | ret u => exact I.after hq
    | next => exact False.elim hq
    | brk => exact False.elim hq
    | cont => exact False.elim hq

theorem pe_call (F : FnOk X.prog X.w X.K X.mg X.base CX k f fd ps sp) (hr : Room k X.A) (hg : Gl X x) (hm : X.mg x = some (.ref f)) (hk : PySem.W.keepIn X.K (.ref f) = true) (hb : Binds X.K fd ps ds) (hd : Vals dvs ds) (hx : Passes CX X E)
    (ha : PA X (e :: es) t) (hdb : (x == ("__debug__" : Str)) = false := by decide) (he : starEach (e :: es) X.env = (false, eval e X.env) :: starEach es X.env := by rfl) (hpl : (backTo pos (starEach es X.env)).any (·.1) = false := by rfl) :
    PE X (.Call (.Name x p) (e :: es) [] pos) (tCall sp dvs E t) := by
  intro pins s σ H Q I h
  refine wpAny_Call_Name_kw (ld_glob I hg hm ?_ hdb)
  refine PySem.W.callWith_K (h₀ := X.base) I.ok.mod.kin hk (thn (ha pos pins s σ H _ I h) fun us s1 ⟨vs, H1, I1, r, q⟩ => ⟨I1.kIn, ?_⟩) he hpl
  exact run_fn F hr hb hd hx I1 r q



end

/-! ### keywords -/
section
variable {X : Cx} {CX : CXT} {k : Nat} {f C : Addr} {fd : FuncData} {ps ks : List Str} {sp : Sp} {E : XK} {x m : Str} {p pos apos kpos : Pos} {e o : Expr} {es : List Expr} {kws : List Keyword} {te ta : TE} {t tk : TA} {nm : Option Str}

variable {g : List Value → List Value → List Value} {gV : List V → List V → List V}
end

/-! ### a def's body keeps its promise -/
/-- names: the parameters first -/
structure FnScope (N P : List Str) (sc : Scope) : Prop where
  kind : sc.kind = .function
  co : sc.isCoroutine = false
  gen : sc.isGenerator = false
  nd : N.Nodup
  pre : N.take P.length = P
  par : ∀ x ∈ P, sc.names.lookup x = some .local ∨ sc.names.lookup x = some .cell
  nofree : ∀ y ∈ sc.names, y.2 ≠ .free

theorem bindL_out {kindOf : Str → Option NameKind} {x : Str} : ∀ {binds : List (Str × Value)} {m : Str → Option Value}, (∀ v, (x, v) ∉ binds) → bindL kindOf binds m x = m x
  | [], _, _ => rfl
  | (n, v) :: r, m, h => by
    unfold bindL
    rw [bindL_out fun w hw => h w (List.mem_cons_of_mem _ hw)]
    split
    · have : x ≠ n := by rintro rfl; exact h v List.mem_cons_self
      simp [this]
    · rfl
theorem bindC_out {kindOf : Str → Option NameKind} {x : Str} : ∀ {binds : List (Str × Value)} {m : Str → Option Value}, (∀ v, (x, v) ∉ binds) → bindC kindOf binds m x = m x
  | [], _, _ => rfl
  | (n, v) :: r, m, h => by
    unfold bindC
    rw [bindC_out fun w hw => h w (List.mem_cons_of_mem _ hw)]
    split
    · rfl
    · have : x ≠ n := by rintro rfl; exact h v List.mem_cons_self
      simp [this]
theorem bindL_get {kindOf : Str → Option NameKind} {x : Str} {v : Value} : ∀ {P : List Str} {vs : List Value} {i : Nat} {m : Str → Option Value}, P.Nodup → P[i]? = some x → vs[i]? = some v → kindOf x = some .local →
    bindL kindOf (P.zip vs) m x = some v
  | [], _, _, _, _, h, _, _ => by simp at h
  | _ :: _, [], _, _, _, _, h, _ => by simp at h
  | p :: P, w :: vs, 0, m, nd, h1, h2, hk => by
    simp at h1 h2; subst h1; subst h2
    show bindL kindOf ((p, w) :: P.zip vs) m p = _
    unfold bindL
    rw [bindL_out fun v hv => (List.nodup_cons.mp nd).1 (List.of_mem_zip hv).1, if_pos hk]
    simp
  | p :: P, w :: vs, i + 1, m, nd, h1, h2, hk => by
    show bindL kindOf ((p, w) :: P.zip vs) m x = _
    unfold bindL
    exact bindL_get (i := i) (List.nodup_cons.mp nd).2 (by simpa using h1) (by simpa using h2) hk
theorem bindC_get {kindOf : Str → Option NameKind} {x : Str} {v : Value} : ∀ {P : List Str} {vs : List Value} {i : Nat} {m : Str → Option Value}, P.Nodup → P[i]? = some x → vs[i]? = some v → kindOf x ≠ some .local →
    bindC kindOf (P.zip vs) m x = some v
  | [], _, _, _, _, h, _, _ => by simp at h
  | _ :: _, [], _, _, _, _, h, _ => by simp at h
  | p :: P, w :: vs, 0, m, nd, h1, h2, hk => by
    simp at h1 h2; subst h1; subst h2
    show bindC kindOf ((p, w) :: P.zip vs) m p = _
    unfold bindC
    rw [bindC_out fun v hv => (List.nodup_cons.mp nd).1 (List.of_mem_zip hv).1, if_neg hk]
    simp
  | p :: P, w :: vs, i + 1, m, nd, h1, h2, hk => by
    show bindC kindOf ((p, w) :: P.zip vs) m x = _
    unfold bindC
    exact bindC_get (i := i) (List.nodup_cons.mp nd).2 (by simpa using h1) (by simpa using h2) hk

/-- the names' values at the entry -/
def start (N : List Str) (vs : List V) : St := vs.map some ++ List.replicate (N.length - vs.length) none

/-- the context of a def's body, at its entry; an exception leaves the frame, then lies as CX says -/
def cxOf (CX : CXT) (P : Program) (w : World) (K : PySem.W.Frag) (mg : Str → Option Value) (base : Heap) (N : List Str) (qual : Str) (scope : Scope) (f : Addr) (cd : Value) (A : Around) (outer : List Env) (s : Shared) (H : Hp) (E : XK) : Cx where
  prog := P
  w := w
  K := K
  mg := mg
  base := base
  A := A.deeper (envOfC qual scope s.heap.objs.size f cd)
  N := N
  s₀ := s
  H₀ := H
  env := envOfC qual scope s.heap.objs.size f cd
  outer := outer
  stack := envOfC qual scope s.heap.objs.size f cd :: outer
  ex := []
  calm := true
  fn := fun _ => true
  pn := []
  xe := fun e s' => wpAny (model P w) (A.deeper (envOfC qual scope s.heap.objs.size f cd)) (leaving (envOfC qual scope s.heap.objs.size f cd) e) (fun _ s'' => CX outer H s E e s'') (fun e' s'' => CX outer H s E e' s'') s'

theorem cell_has {sc : Scope} {n : Nat} {x : Str} (h : sc.names.lookup x = some .cell) : ∃ c, (cellsFrom n sc.names []).lookup x = some c := by
  have q := PySem.W.cellsFrom_some sc.names n [] (.inl h)
  exact Option.isSome_iff_exists.mp q

theorem inv_start {CX : CXT} {P : Program} {w : World} {K : PySem.W.Frag} {mg : Str → Option Value} {base : Heap} {N ps : List Str} {qual : Str} {scope : Scope} {f : Addr} {cd : Value} {A : Around} {outer : List Env} {s s1 : Shared} {H : Hp} {E : XK} {us : List Value} {vs : List V}
    (S : FnScope N ps scope) (hd : A.handled = none) (e0 : Env0 P w K mg base A outer s H) (hl : vs.length = ps.length) (r : Vals vs us)
    (x : InCallC s s.heap.objs.size (bindL (envOfC qual scope s.heap.objs.size f cd).kindOf (ps.zip us) fun _ => none) (cellsFrom (s.heap.objs.size + 1) scope.names []) (bindC (envOfC qual scope s.heap.objs.size f cd).kindOf (ps.zip us) fun _ => none) s1) :
    Inv (cxOf CX P w K mg base N qual scope f cd A outer s H E) [] (start N vs) H s1 := by
  have hpl : ps.length ≤ N.length := by have := congrArg List.length S.pre; rw [List.length_take] at this; omega
  obtain ⟨h1, tk, rfl, hk⟩ := x.done
  have noA : ∀ b : Addr, b ∉ (cxOf CX P w K mg base N qual scope f cd A outer s H E).ex := fun b z => absurd (show b ∈ ([] : List Addr) from z) (by simp)
  refine ⟨⟨e0.mod, S.kind, rfl, rfl, Nat.le_refl _, fun y z c h1 h2 => ?_, fun y hy => ?_, fun y c _ h => ?_, fun _ => hd, Around.frames_deeper e0.frames, .inr ⟨rfl, rfl⟩, fun b z => absurd z (noA b), e0.bs, e0.bsz, fun b _ _ => noA b, fun b z => absurd z (noA b), e0.funs, e0.frf⟩,
    rfl, e0.bare, Un.kept hk, ⟨_, x.toInCall.ns, fun i y v h1 h2 h3 => ?_⟩, fun y c h => ⟨_, x.cell y c h⟩, e0.hok.fresh (Nat.le_refl _), fun y c h => ?_, fun p hp => absurd (show p ∈ ([] : List (Addr × Obj)) from hp) (by simp), e0.hok.kept hk, ?_⟩
  · exact name_of_addr x.apart (PySem.mem_of_lookup h1) (PySem.mem_of_lookup h2)
  · have hy : scope.names.lookup y = some .cell ∨ scope.names.lookup y = some .free := hy
    rcases hy with hy | hy
    · exact cell_has hy
    · exact absurd rfl (S.nofree _ (PySem.mem_of_lookup hy))
  · exact Nat.le_of_lt (x.above y c (PySem.mem_of_lookup h))
  · have hi : i < vs.length := by
      unfold start at h2
      by_cases hi : i < vs.length
      · exact hi
      · rw [List.getElem?_append_right (by simpa using hi)] at h2
        rw [List.getElem?_replicate] at h2
        split at h2 <;> cases h2
    have ha : vs[i]? = some v := by
      unfold start at h2
      rw [List.getElem?_append_left (by simpa using hi), List.getElem?_map] at h2
      cases e : vs[i]? with
      | none => rw [e] at h2; cases h2
      | some a => rw [e] at h2; cases h2; rfl
    obtain ⟨u, hu, rv⟩ := r.get ha
    have hp : ps[i]? = some y := by
      rw [← S.pre, List.getElem?_take_of_lt (by omega)]; exact h1
    have ndP : ps.Nodup := by rw [← S.pre]; exact S.nd.sublist (List.take_sublist _ _)
    refine ⟨u, rv, ?_⟩
    rcases S.par y (List.mem_of_getElem? hp) with k | k
    · exact .inl ⟨k, bindL_get ndP hp hu k⟩
    · obtain ⟨c, e⟩ := cell_has (n := s.heap.objs.size + 1) k
      refine .inr ⟨.inl k, c, e, ?_⟩
      have q := x.cell y c e
      rw [bindC_get ndP hp hu (by show scope.names.lookup y ≠ _; rw [k]; decide)] at q
      exact q
  · exact e0.hok.fresh (Nat.le_of_lt (x.above y c (PySem.mem_of_lookup h)))
  · unfold start
    show _ = N.length
    rw [List.length_append, List.length_map, List.length_replicate]
    omega

/-- THE RULE: a def (or a method) of the text, by its body. The body's reading t is chosen for each entry; it is run at the parameters' values -/
theorem fn_of {CX : CXT} {P : Program} {w : World} {K : PySem.W.Frag} {mg : Str → Option Value} {base : Heap} {k : Nat} {f : Addr} {name qual : Str} {params : Arguments} {body : List Stmt} {scope : Scope} {dV kV doc pm cdv ct oc : Value} {an od : Option Addr}
    {osl : Array (Option Value)} {N ps : List Str} {sp : Sp} (lk : K.lookup f = some ⟨oc, od, .func (PySem.W.fnOf name qual params body scope dV kV doc pm an cdv ct), osl⟩) (hcd : PySem.W.codeIn K cdv qual = true) (S : FnScope N ps scope)
    (len : ∀ vs H Q E, sp vs H Q E → vs.length = ps.length)
    (hbody : ∀ (A : Around) (outer : List Env) (s : Shared) (H : Hp) (vs : List V) (Q : VK) (E : XK), Room k (A.deeper (envOfC qual scope s.heap.objs.size f cdv)) → sp vs H Q E →
      ∃ t, PSs (cxOf CX P w K mg base N qual scope f cdv A outer s H E) body t ∧ t { nx := fun _ H' => Q .non H', rt := Q } (start N vs) H) :
    FnOk P w K mg base CX (k + 1) f (PySem.W.fnOf name qual params body scope dV kV doc pm an cdv ct) ps sp := by
  refine ⟨len, fun A outer s H args us vs Q E hr e0 hb r hsp => ?_⟩
  have hl := len _ _ _ _ hsp
  have KX : K.In s.heap := e0.mod.kin.keeps fun b o e => (e0.bs b o e).1
  have lim : s.heap.NoLimit := e0.mod.nolimit.keeps fun b o e => (e0.bs b o e).1
  have hkind : ∀ y ∈ ps.zip us, scope.names.lookup y.1 = some .local ∨ (scope.names.lookup y.1 = some .cell ∧ ((cellsFrom (s.heap.objs.size + 1) scope.names []).lookup y.1).isSome = true) := fun ⟨n, v⟩ hy => by
    rcases S.par n (List.of_mem_zip hy).1 with q | q
    · exact .inl q
    · exact .inr ⟨q, PySem.W.cellsFrom_some _ _ _ (.inl q)⟩
  refine codeAny_call_function hr.depth (KX _ _ lk) rfl S.co S.gen rfl (PySem.W.codeRec_of KX hcd) (hb _ _ _ _ ?_)
  refine wpAny_newFunctionEnv_cells S.kind hkind fun env he s1 x => ?_
  subst he
  refine ⟨lim.keeps x.toInCall.keep, codeAny_func ?_⟩
  obtain ⟨t, ht, hq⟩ := hbody A outer s H vs Q E (hr.deeper _) hsp
  have I : Inv (cxOf CX P w K mg base N qual scope f cdv A outer s H E) [] (start N vs) H s1 := inv_start S hr.hd e0 hl r x
  refine wpAny_mono (ht [] s1 (start N vs) H _ I hq) (fun fl s' hs => ?_) fun e s' hs => hs
  have fin : ∀ {σ' : St} {H' : Hp} {v : V} {u : Value}, Inv (cxOf CX P w K mg base N qual scope f cdv A outer s H E) [] σ' H' s' → RelV v u → Q v H' → CE outer P w H s Q u s' :=
    fun {σ' H' v u} J rv q => ⟨v, H', J.os, J.bare, J.base, J.hok, rv, q⟩
  cases fl with
  | ret u =>
    obtain ⟨v, σ', H', J, rv, q⟩ := hs
    exact fin J rv q
  | next =>
    obtain ⟨σ', H', J, q⟩ := hs
    exact fin (v := V.non) (u := Value.none) J rfl q
  | brk =>
    obtain ⟨_, _, _, q⟩ := hs
    exact False.elim q
  | cont =>
    obtain ⟨_, _, _, q⟩ := hs
    exact False.elim q
end L2

namespace L2
open PySem PySem.Spec PyProof.Rows
section
variable {X : Cx} {x : Str} {p pos : Pos} {e : Expr} {es : List Expr} {t : TA} {id T : String} {r : List V → Hp → VK → Prop}

def tCB (r : List V → Hp → VK → Prop) (t : TA) : TE := fun σ H Q => t σ H fun vs H1 => r vs H1 Q
/-- f(e, ..), f a built-in function -/
theorem pe_callB (hc : CallR X (.builtin id) r) (hg : Gl X x) (hm : X.mg x = none) (hv : bootBuiltins x = some (.builtin id)) (ha : PA X (e :: es) t) (hn : x ≠ "__name__" := by decide) (hdb : (x == ("__debug__" : Str)) = false := by decide)
    (he : starEach (e :: es) X.env = (false, eval e X.env) :: starEach es X.env := by rfl) (hpl : (backTo pos (starEach es X.env)).any (·.1) = false := by rfl) : PE X (.Call (.Name x p) (e :: es) [] pos) (tCB r t) := by
  intro pins s σ H Q I h
  refine wpAny_Call_Name_kw (ld_blt I hg hm hv ?_ hn hdb)
  exact PyProof.Rows.callWith_builtin1 (thn (ha pos pins s σ H _ I h) fun us s1 ⟨vs, H1, I1, r1, q1⟩ => hc pins s1 σ H1 vs us Q I1 r1 q1) he hpl
/-- T(e, ..), T a built-in type -/
theorem pe_callTy (hc : CallR X (.type T) r) (hg : Gl X x) (hm : X.mg x = none) (hv : bootBuiltins x = some (.type T)) (ha : PA X (e :: es) t) (hn : x ≠ "__name__" := by decide) (hdb : (x == ("__debug__" : Str)) = false := by decide)
    (he : starEach (e :: es) X.env = (false, eval e X.env) :: starEach es X.env := by rfl) (hpl : (backTo pos (starEach es X.env)).any (·.1) = false := by rfl) : PE X (.Call (.Name x p) (e :: es) [] pos) (tCB r t) := by
  intro pins s σ H Q I h
  refine wpAny_Call_Name_kw (ld_blt I hg hm hv ?_ hn hdb)
  exact PyProof.Rows.callWith_type1 (thn (ha pos pins s σ H _ I h) fun us s1 ⟨vs, H1, I1, r1, q1⟩ => hc pins s1 σ H1 vs us Q I1 r1 q1) he hpl
end
end L2

namespace HT
open PySem PyProof.Rows



section
open PySem.SeqAt
open PySem.AutoSeq1 (wpAny_loadPart')
open PySem.MeetsSeq PySem.MeetsSeq2 PySem.MeetsSeq3

end

section
variable {prog : Program} {w : World} {A : Around} {E : Value → Shared → Prop} {s : Shared}


/-- t + u, t not empty -/
theorem cat_tup {t b : Addr} {vs ws : List Value} {Q : Value → Shared → Prop} (ht : IsTup s.heap t vs.toArray) (hb : IsTup s.heap b ws.toArray) (hv : vs ≠ [])
    (h1 : ws = [] → Q (.ref t) s) (h2 : ws ≠ [] → Q (.ref s.heap.objs.size) { s with heap := s.heap.push { cls := .type "tuple", data := .seq (vs ++ ws).toArray } })
    (hsz : vs.length + ws.length ≤ sizeLine) : wpAny (model prog w) A (binaryOp .Add (.ref t) (.ref b)) Q E s := by
  obtain ⟨⟨cls, dd, data, sl⟩, ho, hc, n, hd⟩ := id ht
  obtain ⟨⟨cls2, dd2, data2, sl2⟩, ho2, hc2, n2, hd2⟩ := id hb
  simp only at hc hd hc2 hd2
  subst hc hd hc2 hd2
  have e : vs.toArray ++ ws.toArray = (vs ++ ws).toArray := by simp
  by_cases hw : ws = []
  · exact concat_meets ⟨_, ho, rfl⟩ ⟨_, ho2, rfl⟩ noFill_tuple_add seq_tuple_add PySem.F.slot_tuple_add PySem.F.entry_tuple_add (PySem.F.args_tuple_add_2 _ _)
      (tuple_addW1 t b vs.toArray ws.toArray n n2 dd dd2 sl sl2 (by simpa using hv) (by simp [hw])) ⟨ho, ho2, h1 hw⟩
  · refine concat_meets ⟨_, ho, rfl⟩ ⟨_, ho2, rfl⟩ noFill_tuple_add seq_tuple_add PySem.F.slot_tuple_add PySem.F.entry_tuple_add (PySem.F.args_tuple_add_2 _ _)
      (tuple_addW2 t b vs.toArray ws.toArray n n2 dd dd2 sl sl2 (by simpa using hv) (by simpa using hw) (by rw [List.size_toArray, List.size_toArray]; exact hsz)) ⟨ho, ho2, ?_⟩
    rw [e]
    exact h2 hw

/-! ### t[a:b], not the whole -/
/-- a slice's bound as a place among n (d where it is left out) -/
def sIx (n d : Nat) : Option Int → Nat
  | none => d
  | some v => if v < 0 then (v + (n : Int)).toNat else min v.toNat n
theorem sIx_nat (n d k : Nat) : sIx n d (some (k : Int)) = min k n := by
  show (if (k : Int) < 0 then ((k : Int) + (n : Int)).toNat else min (k : Int).toNat n) = min k n
  rw [if_neg (by omega), Int.toNat_natCast]
theorem sIx_le (n d : Nat) (hd : d ≤ n) (o : Option Int) : sIx n d o ≤ n := by
  cases o with
  | none => exact hd
  | some v =>
    show (if v < 0 then (v + (n : Int)).toNat else min v.toNat n) ≤ n
    by_cases hv : v < 0
    · rw [if_pos hv]; omega
    · rw [if_neg hv]; exact Nat.min_le_right _ _
theorem clip_eq (v : Int) (n d : Nat) : (if v < 0 then max (v + (n : Int)) 0 else min v (n : Int)) = ((sIx n d (some v) : Nat) : Int) := by
  show (if v < 0 then max (v + (n : Int)) 0 else min v (n : Int)) = (((if v < 0 then (v + (n : Int)).toNat else min v.toNat n) : Nat) : Int)
  by_cases hv : v < 0
  · simp only [if_pos hv]; omega
  · simp only [if_neg hv]; omega
theorem adjust_gen (lo hi : Option Int) (n : Nat) : Builtin.Slice.sliceAdjust lo hi 1 (n : Int) = (((sIx n 0 lo : Nat) : Int), ((sIx n n hi : Nat) : Int)) := by
  have h1 : ¬ ((1 : Int) < 0) := by omega
  unfold Builtin.Slice.sliceAdjust
  simp only [h1, if_false]
  refine Prod.ext ?_ ?_
  · cases lo with
    | none => rfl
    | some v => exact clip_eq v n 0
  · cases hi with
    | none => rfl
    | some v => exact clip_eq v n n
theorem places_gen (i j : Nat) : Builtin.Slice.slicePlaces (i : Int) (j : Int) 1 = j - i := by
  unfold Builtin.Slice.slicePlaces
  have h1 : (1 : Int) > 0 := by omega
  simp only [h1, if_true, Int.ediv_one]
  split <;> omega
theorem slicePart_ {v : Value} {o : Option Int} {Q : Option Int → Shared → Prop} (p : IsPart v o) (h : Q o s) : wpAny (model prog w) A (Builtin.Slice.slicePartIndex v) Q E s := by
  cases p with
  | none => exact slicePart_none h
  | int i t => exact slicePart_int h
theorem sliceApplied_gen {sl : Addr} {vl vu : Value} {lo hi : Option Int} {n : Nat} {Q : Int × Int × Nat → Shared → Prop} (hs : s.heap.IsSliceOf sl vl vu .none) (pl : IsPart vl lo) (pu : IsPart vu hi)
    (h : Q (((sIx n 0 lo : Nat) : Int), 1, sIx n n hi - sIx n 0 lo) s) : wpAny (model prog w) A (Builtin.Slice.sliceApplied (.ref sl) (pure (n : Int))) Q E s := by
  obtain ⟨os, hos, hcs, hds⟩ := id hs
  unfold Builtin.Slice.sliceApplied Builtin.Slice.sliceFields
  refine wpAny_bind (wpAny_bind (wpAny_field hos hds (x := vl) rfl (wpAny_bind (wpAny_field hos hds (x := vu) rfl (wpAny_bind (wpAny_field hos hds (x := .none) rfl (wpAny_pure ?_)))))))
  refine wpAny_bind (slicePart_none ?_)
  show wpAny _ _ (if ((1 : Int) == 0) = true then _ else _) _ _ s
  rw [if_neg (by decide)]
  refine wpAny_bind (slicePart_ pl (wpAny_bind (slicePart_ pu (wpAny_bind (wpAny_pure ?_)))))
  show wpAny _ _ (match Builtin.Slice.sliceAdjust lo hi 1 (n : Int) with | (lo, hi) => pure (lo, (1 : Int), Builtin.Slice.slicePlaces lo hi 1)) _ _ s
  rw [adjust_gen lo hi n]
  show wpAny _ _ (pure (((sIx n 0 lo : Nat) : Int), (1 : Int), Builtin.Slice.slicePlaces ((sIx n 0 lo : Nat) : Int) ((sIx n n hi : Nat) : Int) 1)) _ _ s
  rw [places_gen]
  exact wpAny_pure h
theorem pick_gen (xs : Array Value) (i k : Nat) : ((List.range k).filterMap fun (m : Nat) => xs[((i : Int) + (m : Int) * 1).toNat]?).toArray = ((xs.toList.drop i).take k).toArray := by
  have e : (fun (m : Nat) => xs[((i : Int) + (m : Int) * 1).toNat]?) = fun m => xs[i + m]? := by
    funext m
    have : ((i : Int) + (m : Int) * 1).toNat = i + m := by omega
    rw [this]
  rw [e]
  have := pick_run xs i k
  rw [List.filterMap_map] at this
  have e2 : ((fun x => xs[x]?) ∘ fun x => i + x) = fun m => xs[i + m]? := rfl
  rw [e2] at this
  rw [this]

theorem getItem_tuple_cut {t sl : Addr} {items : Array Value} {vl vu : Value} {lo hi : Option Int} {Q : Value → Shared → Prop} (ht : IsTup s.heap t items) (hs : s.heap.IsSliceOf sl vl vu .none) (pl : IsPart vl lo) (pu : IsPart vu hi)
    (hw : ¬ (sIx items.size 0 lo = 0 ∧ sIx items.size items.size hi = items.size))
    (h : Q (.ref s.heap.objs.size) { s with heap := s.heap.push { cls := .type "tuple", data := .seq ((items.toList.drop (sIx items.size 0 lo)).take (sIx items.size items.size hi - sIx items.size 0 lo)).toArray } })
    (hsz : items.size ≤ sizeLine) : wpAny (model prog w) A (getItem (.ref t) (.ref sl)) Q E s := by
  have htake : sizeOk (.seq ((items.toList.drop (sIx items.size 0 lo)).take (sIx items.size items.size hi - sIx items.size 0 lo)).toArray) := by
    show ((items.toList.drop (sIx items.size 0 lo)).take (sIx items.size items.size hi - sIx items.size 0 lo)).toArray.size ≤ sizeLine
    rw [List.size_toArray, List.length_take, List.length_drop, Array.length_toList]
    omega
  have hj : sIx items.size items.size hi ≤ items.size := sIx_le _ _ (Nat.le_refl _) hi
  obtain ⟨os, hos, hcs, hds⟩ := id hs
  have hTs : s.TypeIs (.ref sl) "slice" := ⟨os, hos, hcs⟩
  unfold getItem
  try with_reducible refine wpAny_holding ?_
  first | refine wpAny_bind (wpAny_pure ?_) | skip
  refine wpAny_bind (wpAny_sequenceKey ht.typeIs (by decide) ?_)
  refine wpAny_bind (wpAny_callSpecial?_slot (name := Str.ofString "__getitem__") ht.typeIs PyProof.Rows.slot_tuple_getitem
    (wpAny_call_entry PyProof.Rows.slot_tuple_getitem ht.typeIs entry_tuple_getitem ?_ (args_tuple_getitem _ _)))
  show wpAny _ _ (Builtin.Tuple.tupleItemsOf (.ref t) >>= _) _ _ s
  refine wpAny_bind (tupleItemsOf_ ht ?_)
  refine wpAny_bind (wpAny_typeOf hTs ?_)
  rw [if_pos (by decide)]
  refine wpAny_bind (sliceApplied_gen hs pl pu ?_)
  have hno : ¬ ((((sIx items.size 0 lo : Nat) : Int) == 0 && (1 : Int) == 1 && (sIx items.size items.size hi - sIx items.size 0 lo) == items.size) = true) := by
    intro q
    rw [Bool.and_eq_true, Bool.and_eq_true] at q
    have q1 : ((sIx items.size 0 lo : Nat) : Int) = 0 := eq_of_beq q.1.1
    have q2 : sIx items.size items.size hi - sIx items.size 0 lo = items.size := eq_of_beq q.2
    exact hw ⟨by omega, by omega⟩
  show wpAny _ _ (if (((sIx items.size 0 lo : Nat) : Int) == 0 && (1 : Int) == 1 && (sIx items.size items.size hi - sIx items.size 0 lo) == items.size) = true then _ else _) _ _ s
  rw [if_neg hno, pick_gen]
  first
    | exact wpAny_bind (m := Builtin.Tuple.tupleExact _) (wpAny_newObj_type (wpAny_pure ⟨_, rfl, wpAny_pure h⟩) htake)
    | exact wpAny_bind (m := Builtin.Tuple.tupleExact _) (wpAny_newObj_type (wpAny_bind (wpAny_pure (wpAny_pure ⟨_, rfl, wpAny_pure h⟩))) htake)
    | exact wpAny_bind (wpAny_bind (m := Builtin.Tuple.tupleExact _) (wpAny_newObj_type (wpAny_pure (wpAny_pure ⟨_, rfl, wpAny_pure h⟩)) htake))
    | exact wpAny_bind (wpAny_bind (m := Builtin.Tuple.tupleExact _) (wpAny_newObj_type (wpAny_pure ⟨_, rfl, wpAny_pure h⟩) htake))
end
end HT

namespace L2
open PySem PySem.Spec PyProof.Rows

/-! ### the parts of a slice -/
abbrev TO := St → Hp → (Option Int → Hp → Prop) → Prop
/-- a slice's part (left out, or an int) -/
def PO (X : Cx) (e : Option Expr) (t : TO) : Prop :=
  ∀ (pins : List (Addr × Obj)) (s : Shared) (σ : St) (H : Hp) (Q : Option Int → Hp → Prop), Inv X pins σ H s → t σ H Q →
    wpAny (model X.prog X.w) X.A (evalPart e X.env) (fun u s' => ∃ o H', Inv X pins σ H' s' ∧ IsPart u o ∧ Q o H') X.xe s
def tNoPart : TO := fun _ H Q => Q none H
def tPart (t : TE) : TO := fun σ H Q => t σ H fun x H1 => ∃ i, x = .int i ∧ Q (some i) H1

theorem intsAre_of {ns : List Int} : ∀ {us : List Value}, Vals (ns.map V.int) us → IntsAre us ns := by
  induction ns with
  | nil => intro us r; rw [List.map_nil] at r; cases r; exact .nil
  | cons n ns ih =>
    intro us r
    rw [List.map_cons] at r
    cases r with
    | cons r1 r2 =>
      obtain ⟨t, e⟩ := r1
      subst e
      exact .cons n t (ih r2)

section
variable {X : Cx} {e : Expr} {te : TE} {lo hi : Option Expr} {tl th : TO} {pos p2 : Pos}

theorem po_none : PO X none tNoPart := by
  intro pins s σ H Q I h
  rw [evalPart_none]
  exact wpAny_pure ⟨none, H, I, .none, h⟩
theorem po_some (h : PE X e te) : PO X (some e) (tPart te) := by
  intro pins s σ H Q I hw
  rw [evalPart_some]
  refine thn (h pins s σ H _ I hw) fun u s1 ⟨x, H1, I1, r1, q1⟩ => ?_
  obtain ⟨i, rfl, q⟩ := q1
  obtain ⟨t, rfl⟩ := r1
  exact ⟨some i, H1, I1, .int i t, q⟩

/-- what a slice of a value is, by values: the slice object stands at sl -/
def SlR (X : Cx) (r : V → Option Int → Option Int → Hp → VK → Prop) : Prop :=
  ∀ (pins : List (Addr × Obj)) (s : Shared) (σ : St) (H : Hp) (x : V) (v vl vu : Value) (lo hi : Option Int) (sl : Addr) (Q : VK), Inv X pins σ H s → RelV x v → s.heap.IsSliceOf sl vl vu .none → IsPart vl lo → IsPart vu hi → r x lo hi H Q →
    ∃ T id, typeLookup (.type T) "__getitem__" = pure (some (.builtin id)) ∧ s.TypeIs v T ∧ wpAny (model X.prog X.w) X.A (getItem v (.ref sl)) (EP X pins σ Q) X.xe s
def tSl (r : V → Option Int → Option Int → Hp → VK → Prop) (te : TE) (tl th : TO) : TE := fun σ H Q => te σ H fun x H1 => tl σ H1 fun l H2 => th σ H2 fun u H3 => r x l u H3 Q
/-- a[lo:hi], any a -/
theorem pe_slice {r : V → Option Int → Option Int → Hp → VK → Prop} (hr : SlR X r) (he : PE X e te) (hl : PO X lo tl) (hu : PO X hi th) : PE X (.Subscript e (.Slice lo hi none p2) pos) (tSl r te tl th) := by
  intro pins s σ H Q I h
  refine Subscript_ (thn (he pins s σ H _ I h) fun v s1 ⟨x, H1, I1, r1, q1⟩ => ?_)
  refine wpAny_Slice (thn (hl pins s1 σ H1 _ I1 q1) fun vl s2 ⟨l, H2, I2, pl, q2⟩ => thn (hu pins s2 σ H2 _ I2 q2) fun vu s3 ⟨u, H3, I3, pu, q3⟩ => ?_)
  rw [evalPart_none]
  refine wpAny_pure ?_
  have I4 : Inv X pins σ H3 { s3 with heap := s3.heap.push { cls := .type "slice", data := .fields #[vl, vu, .none] } } := I3.kept (t' := s3.toks) fun b ob q => Heap.get?_push_of_some _ q
  obtain ⟨T, id, hT, ht, hg⟩ := hr pins { s3 with heap := s3.heap.push { cls := .type "slice", data := .fields #[vl, vu, .none] } } σ H3 x v vl vu l u s3.heap.objs.size Q I4 r1 (Heap.IsSliceOf.new ..) pl pu q3
  show wpAny (model X.prog X.w) X.A (subscriptTail e (.Slice lo hi none p2) v (.ref s3.heap.objs.size)) (EP X pins σ Q) X.xe { s3 with heap := s3.heap.push { cls := .type "slice", data := .fields #[vl, vu, .none] } }
  exact tail_any (ops := [.ref s3.heap.objs.size, v]) ht hT hg (by with_unfolding_all rfl)

/-- the items of xs[lo:hi] -/
def cutV (xs : List V) (lo hi : Option Int) : List V := (xs.drop (HT.sIx xs.length 0 lo)).take (HT.sIx xs.length xs.length hi - HT.sIx xs.length 0 lo)
theorem cutV_length (xs : List V) (lo hi : Option Int) : (cutV xs lo hi).length ≤ xs.length := by
  unfold cutV
  rw [List.length_take, List.length_drop]
  omega
/-- t[lo:hi], not the whole of it (the whole would be t itself) -/
def rSlT (K : PySem.W.Frag) : V → Option Int → Option Int → Hp → VK → Prop := fun x lo hi H Q => ∃ a xs, x = .ref a ∧ SqT K H a xs ∧
  ¬ (HT.sIx xs.length 0 lo = 0 ∧ HT.sIx xs.length xs.length hi = xs.length) ∧ ∀ p, H p = none → Q (.ref p) (upd H p (.tup (cutV xs lo hi)))
theorem sl_tup : SlR X (rSlT X.K) := by
  intro pins s σ H x v vl vu lo hi sl Q I rx hs pl pu h
  obtain ⟨a, xs, rfl, hx, hw, q⟩ := h
  cases rx
  obtain ⟨its, r, ht, hz⟩ := I.tuple hx
  have hlen : its.toArray.size = xs.length := by rw [List.size_toArray]; exact r.length.symm
  refine ⟨"tuple", _, PyProof.Rows.slot_tuple_getitem.lookup, ht.typeIs, ?_⟩
  refine HT.getItem_tuple_cut ht hs pl pu (by rw [hlen]; exact hw) ?_ (by rw [hlen]; exact hz)
  rw [hlen]
  refine ⟨.ref s.heap.objs.size, _, I.laid (t' := s.toks) (o := .tup (cutV xs lo hi)) (fun b ob q => Heap.get?_push_of_some _ q) (Nat.le_refl _) ?_, rfl, q _ (I.hok.fresh (Nat.le_refl _))⟩
  exact ⟨Nat.le_trans (cutV_length xs lo hi) hz, _, (r.drop (HT.sIx xs.length 0 lo)).take (HT.sIx xs.length xs.length hi - HT.sIx xs.length 0 lo), IsTup.new _ _⟩

/-! ### t < u, t + u -/
/-- t + u, t not empty: u empty gives t itself -/
def rCatT (K : PySem.W.Frag) : R2 := fun x y H Q => ∃ a b xs ys, x = .ref a ∧ y = .ref b ∧ SqT K H a xs ∧ SqT K H b ys ∧ xs ≠ [] ∧ xs.length + ys.length ≤ sizeLine ∧
  (ys = [] → Q (.ref a) H) ∧ (ys ≠ [] → ∀ p, H p = none → Q (.ref p) (upd H p (.tup (xs ++ ys))))
theorem Vals.nil_iff {xs : List V} {us : List Value} (r : Vals xs us) : us = [] ↔ xs = [] := by
  cases r with
  | nil => simp
  | cons _ _ => simp
theorem op_catT : OpR X (binaryOp .Add) (rCatT X.K) := by
  intro pins s σ H x y v u Q I rx ry h
  obtain ⟨a, b, xs, ys, rfl, rfl, ha, hb, hx, hz, q1, q2⟩ := h
  cases rx
  cases ry
  obtain ⟨its, r1, p1, _⟩ := I.tuple ha
  obtain ⟨its2, r2, p2, _⟩ := I.tuple hb
  refine HT.cat_tup p1 p2 (fun z => hx (r1.nil_iff.mp z)) (fun z => ⟨.ref a, H, I, rfl, q1 (r2.nil_iff.mp z)⟩) (fun z => ?_) (by rw [← r1.length, ← r2.length]; exact hz)
  refine ⟨.ref s.heap.objs.size, _, I.laid (t' := s.toks) (o := .tup (xs ++ ys)) (fun b ob q => Heap.get?_push_of_some _ q) (Nat.le_refl _) ?_, rfl, q2 (fun w => z (r2.nil_iff.mpr w)) _ (I.hok.fresh (Nat.le_refl _))⟩
  exact ⟨by rw [List.length_append]; exact hz, _, r1.append r2, IsTup.new _ _⟩
end
end L2

namespace L2
open PySem PySem.Spec PyProof.Rows

/-! ### places -/
/-- the place that an index of any sign means -/
def ixN (n : Nat) (i : Int) : Option Nat := if 0 ≤ i then (if i < n then some i.toNat else none) else if -(n : Int) ≤ i then some (i + n).toNat else none
def atI {α : Type} (xs : List α) (i : Int) : Option α := (ixN xs.length i).bind fun j => xs[j]?
theorem ixN_seq {n : Nat} {i : Int} {j : Nat} (h : ixN n i = some j) : seqIndex? i n = some j ∧ j < n ∧ -(n : Int) ≤ i ∧ i < n := by
  unfold ixN at h
  by_cases h0 : 0 ≤ i
  · rw [if_pos h0] at h
    by_cases h1 : i < n
    · rw [if_pos h1] at h
      have e : i.toNat = j := Option.some.inj h
      exact ⟨by rw [seqIndex_of h0 h1, e], by omega, by omega, h1⟩
    · rw [if_neg h1] at h; cases h
  · rw [if_neg h0] at h
    by_cases h1 : -(n : Int) ≤ i
    · rw [if_pos h1] at h
      have e : (i + n).toNat = j := Option.some.inj h
      exact ⟨by rw [seqIndex_neg (by omega) h1, e], by omega, h1, by omega⟩
    · rw [if_neg h1] at h; cases h
theorem atI_get {α : Type} {xs : List α} {i : Int} {v : α} (h : atI xs i = some v) : ∃ j, seqIndex? i xs.length = some j ∧ xs[j]? = some v ∧ j < xs.length ∧ -(xs.length : Int) ≤ i ∧ i < xs.length := by
  unfold atI at h
  cases e : ixN xs.length i with
  | none => rw [e] at h; cases h
  | some j =>
    rw [e] at h
    obtain ⟨h1, h2, h3, h4⟩ := ixN_seq e
    exact ⟨j, h1, h, h2, h3, h4⟩
theorem atI_nat {α : Type} {xs : List α} {j : Nat} {v : α} (h : xs[j]? = some v) : atI xs (j : Int) = some v := by
  have hj : j < xs.length := (List.getElem?_eq_some_iff.mp h).1
  have e : ixN xs.length (j : Int) = some j := by
    unfold ixN
    rw [if_pos (by omega), if_pos (by omega)]; simp
  unfold atI; rw [e]; exact h

/-! ### what may be subscripted -/
/-- what stands as an index of a plain subscript -/
def PlainIx (b : Expr) : Prop := ∀ o i, subscripted b false o i = operate [o, i] (getItem o i)
/-- a subscript by values -/
def IxR (X : Cx) (r : R2) : Prop :=
  ∀ (value slice : Expr) (pins : List (Addr × Obj)) (s : Shared) (σ : St) (H : Hp) (x y : V) (v u : Value) (Q : VK), Inv X pins σ H s → RelV x v → RelV y u → r x y H Q →
    subscripted slice false v u = operate [v, u] (getItem v u) → wpAny (model X.prog X.w) X.A (subscriptTail value slice v u) (EP X pins σ Q) X.xe s
/-- a call of a builtin's method by values: the receiver, the arguments -/
def MtR (X : Cx) (id : String) (r : V → List V → Hp → VK → Prop) : Prop :=
  ∀ (pins : List (Addr × Obj)) (s : Shared) (σ : St) (H : Hp) (x : V) (xs : List V) (v : Value) (us : List Value) (Q : VK), Inv X pins σ H s → RelV x v → Vals xs us → r x xs H Q →
    wpAny (model X.prog X.w) X.A (call (.builtin id) (v :: us)) (EP X pins σ Q) X.xe s
section
variable {X : Cx} {a b : Expr} {ta tb : TE} {pos : Pos}
/-- a[b] -/
theorem pe_ix {r : R2} (hr : IxR X r) (ha : PE X a ta) (hb : PE X b tb) (hs : PlainIx b) : PE X (.Subscript a b pos) (tOp r ta tb) := by
  intro pins s σ H Q I h
  exact Subscript_ (binT ha hb I h fun v u s2 x y H2 I2 rx ry q => hr a b pins s2 σ H2 x y v u Q I2 rx ry q (hs _ _))

def rIxL (K : PySem.W.Frag) : R2 := fun x y H Q => ∃ p xs i v, x = .ref p ∧ y = .int i ∧ SqL K H p xs ∧ atI xs i = some v ∧ Q v H
def rIxT (K : PySem.W.Frag) : R2 := fun x y H Q => ∃ p xs i v, x = .ref p ∧ y = .int i ∧ SqT K H p xs ∧ atI xs i = some v ∧ Q v H
theorem ix_list : IxR X (rIxL X.K) := by
  intro value slice pins s σ H x y v u Q I rx ry h hs
  obtain ⟨p, xs, i, z, rfl, rfl, hq, he, q⟩ := h
  cases rx
  obtain ⟨t, rfl⟩ := ry
  obtain ⟨its, r, pl, hz⟩ := I.list hq
  obtain ⟨j, h1, h2, h3, h4, h5⟩ := atI_get he
  obtain ⟨w, ew, rw'⟩ := r.get h2
  have hl := r.length
  have hn := line63
  have fin : EP X pins σ Q w s := ⟨z, H, I, rw', q⟩
  by_cases h0 : 0 ≤ i
  · have hj : i.toNat = j := by
      rw [seqIndex_of h0 h5] at h1
      exact Option.some.inj h1
    exact item_listR pl.isList h0 (by omega) (by rw [hj]; simpa using ew) fin hs
  · have hj : (i + (its.toArray.size : Int)).toNat = j := by
      rw [seqIndex_neg (by omega) h4] at h1
      rw [List.size_toArray, ← hl]
      exact Option.some.inj h1
    exact subscriptTail_builtinR (x := w) pl.isList.typeIs slot_list_getitem.lookup
      (wpAny_getItem_list_neg (Q := fun r s' => r = w ∧ EP X pins σ Q r s') pl.isList (by omega) (by rw [List.size_toArray] <;> omega) (by omega) (by rw [hj]; simpa using ew) ⟨rfl, fin⟩) hs
theorem ix_tup : IxR X (rIxT X.K) := by
  intro value slice pins s σ H x y v u Q I rx ry h hs
  obtain ⟨p, xs, i, z, rfl, rfl, hq, he, q⟩ := h
  cases rx
  obtain ⟨t, rfl⟩ := ry
  obtain ⟨its, r, pl, hz⟩ := I.tuple hq
  obtain ⟨j, h1, h2, h3, h4, h5⟩ := atI_get he
  obtain ⟨w, ew, rw'⟩ := r.get h2
  have hl := r.length
  have hn := line63
  have fin : EP X pins σ Q w s := ⟨z, H, I, rw', q⟩
  exact subscriptTail_builtinR (x := w) pl.typeIs slot_tuple_getitem.lookup
    (getItem_tuple (j := j) (Q := fun r s' => r = w ∧ EP X pins σ Q r s') pl (by omega) (by omega) (by rw [List.size_toArray, ← hl]; exact h1) (by simpa using ew) ⟨rfl, fin⟩) hs

/-! ### xs[i] = v, any sign -/
/-- the list's object behind a store -/
theorem mapSeq_set (its : List Value) (n j : Nat) (u : Value) : Obj.mapSeq (·.setIfInBounds j u) { cls := .type "list", data := .seq its.toArray n } = { cls := .type "list", data := .seq (its.set j u).toArray n } := by
  simp [Obj.mapSeq]
theorem Inv.lst {pins : List (Addr × Obj)} {σ : St} {H : Hp} {s : Shared} {p : Addr} {xs : List V} (I : Inv X pins σ H s) (h : H p = some (.lst xs)) :
    ∃ (its : List Value) (n : Nat), Vals xs its ∧ s.heap.get? p = some { cls := .type "list", data := .seq its.toArray n } ∧ xs.length ≤ sizeLine := by
  obtain ⟨z, its, n, r, e⟩ := I.hok p _ h
  exact ⟨its, n, r, e, z⟩
/-- the list at p is written by an update of its object -/
theorem Inv.lstUpd {pins : List (Addr × Obj)} {σ : St} {H : Hp} {s : Shared} {p : Addr} {xs ys : List V} {its its' : List Value} {n n' : Nat} {f : Obj → Obj} (I : Inv X pins σ H s) (h : H p = some (.lst xs))
    (ho : s.heap.get? p = some { cls := .type "list", data := .seq its.toArray n }) (hf : f { cls := .type "list", data := .seq its.toArray n } = { cls := .type "list", data := .seq its'.toArray n' }) (r : Vals ys its') (hz : ys.length ≤ sizeLine) (t : Nat) :
    Inv X pins σ (upd H p (.lst ys)) { s with heap := s.heap.update p f, toks := t } := by
  have e : (s.heap.update p f).get? p = some { cls := .type "list", data := .seq its'.toArray n' } := by
    rw [Heap.get?_update_self f ho (by rw [hf] <;> rfl), hf]
  refine I.write (x := p) (e := p) (by rw [h]; trivial) (.inl rfl) (fun b u hb q => (Heap.get?_update_other _ _ (Ne.symm hb)).trans q) ⟨_, e⟩ ?_
  exact ⟨hz, its', n', r, e⟩
def rSetL : V → V → V → Hp → (Hp → Prop) → Prop := fun o i v H Q => ∃ p xs k j, o = .ref p ∧ i = .int k ∧ H p = some (.lst xs) ∧ ixN xs.length k = some j ∧ Q (upd H p (.lst (xs.set j v)))
theorem set_list : PSet X rSetL := by
  intro pins s σ H o i v ov iv u Q I ro ri rv h
  obtain ⟨p, xs, k, j, rfl, rfl, hp, hj, q⟩ := h
  cases ro
  obtain ⟨t, rfl⟩ := ri
  obtain ⟨its, n, r, ho, hz⟩ := I.lst hp
  obtain ⟨h1, h2, h3, h4⟩ := ixN_seq hj
  have hl := r.length
  have hn := line63
  have I' : Inv X pins σ (upd H p (.lst (xs.set j v))) { s with heap := s.heap.update p (Obj.mapSeq (·.setIfInBounds j u)) } :=
    I.lstUpd hp ho (mapSeq_set its n j u) (r.set rv j) (by rw [List.length_set]; exact hz) s.toks
  by_cases h0 : 0 ≤ k
  · have hk : k.toNat = j := by
      rw [seqIndex_of h0 h4] at h1
      exact Option.some.inj h1
    exact PySem.W.ki_setAt ho h0 (by omega) (by rw [List.size_toArray, ← hl]; exact h4) (by rw [hk]; exact ⟨_, I', q⟩)
  · have hk : (k + (its.toArray.size : Int)).toNat = j := by
      rw [seqIndex_neg (by omega) h3] at h1
      rw [List.size_toArray, ← hl]
      exact Option.some.inj h1
    exact PySem.W.ki_setBack ho (by omega) (by rw [List.size_toArray, ← hl]; exact h3) (by omega) (by rw [hk]; exact ⟨_, I', q⟩)

/-! ### slices -/
theorem slice_bounds (lo hi : Option Int) (n : Nat) : (sliceBounds lo hi none n).1 = ((HT.sIx n 0 lo : Nat) : Int) ∧ (sliceBounds lo hi none n).2.1 = ((HT.sIx n n hi : Nat) : Int) ∧ (sliceBounds lo hi none n).2.2 = 1 := by
  refine ⟨?_, ?_, rfl⟩
  · cases lo with
    | none => simp [sliceBounds, HT.sIx]
    | some i =>
      simp only [sliceBounds, HT.sIx, Option.getD_none, show (1 : Int) > 0 by decide, if_true]
      by_cases h : i < 0
      · simp only [h, if_true] <;> omega
      · simp only [h, if_false] <;> omega
  · cases hi with
    | none => simp [sliceBounds, HT.sIx]
    | some i =>
      simp only [sliceBounds, HT.sIx, Option.getD_none, show (1 : Int) > 0 by decide, if_true]
      by_cases h : i < 0
      · simp only [h, if_true] <;> omega
      · simp only [h, if_false] <;> omega
theorem slicePick_cut (its : List Value) (lo hi : Option Int) : slicePick its.toArray lo hi none = ((its.drop (HT.sIx its.length 0 lo)).take (HT.sIx its.length its.length hi - HT.sIx its.length 0 lo)).toArray := by
  obtain ⟨h1, h2, h3⟩ := slice_bounds lo hi its.toArray.size
  unfold slicePick
  rw [h1, h2, h3]
  simp only [sliceRange_one, pick_run, List.size_toArray] <;> rfl
/-- xs[lo:hi] of a list: a new list -/
def rSlL (K : PySem.W.Frag) : V → Option Int → Option Int → Hp → VK → Prop := fun x lo hi H Q => ∃ a xs, x = .ref a ∧ SqL K H a xs ∧ ∀ p, H p = none → Q (.ref p) (upd H p (.lst (cutV xs lo hi)))
theorem sl_list : SlR X (rSlL X.K) := by
  intro pins s σ H x v vl vu lo hi sl Q I rx hs pl pu h
  obtain ⟨a, xs, rfl, hx, q⟩ := h
  cases rx
  obtain ⟨its, r, ht, hz⟩ := I.list hx
  have hlen := r.length
  refine ⟨"list", _, slot_list_getitem.lookup, ht.isList.typeIs, ?_⟩
  refine wpAny_getItem_list_slice ht.isList hs pl pu .none (by simp) ?_ (by rw [List.size_toArray] <;> omega)
  rw [slicePick_cut, ← hlen]
  refine ⟨.ref s.heap.objs.size, _, I.laid (t' := s.toks) (o := .lst (cutV xs lo hi)) (fun b ob q => Heap.get?_push_of_some _ q) (Nat.le_refl _) ?_, rfl, q _ (I.hok.fresh (Nat.le_refl _))⟩
  exact ⟨Nat.le_trans (cutV_length xs lo hi) hz, _, 0, (r.drop (HT.sIx xs.length 0 lo)).take (HT.sIx xs.length xs.length hi - HT.sIx xs.length 0 lo), Heap.get?_push_size _ rfl⟩

/-! ### in, not in: flat items -/
def flatV : V → Bool
  | .non => true
  | .bl _ => true
  | .int _ => true
  | .str _ => true
  | _ => false
/-- == of flat values -/
def eqV : V → V → Bool
  | .non, .non => true
  | .bl a, .bl b => a == b
  | .bl a, .int b => (if a then 1 else 0) == b
  | .int a, .bl b => a == (if b then 1 else 0)
  | .int a, .int b => a == b
  | .str a, .str b => a == b
  | _, _ => false
theorem eqAt_V {A : Around} {s : Shared} {y x : V} {u v : Value} (ry : RelV y u) (rx : RelV x v) (fy : flatV y = true) (fx : flatV x = true) : SeqAt.EqAt A s u v (eqV y x) := by
  cases y with
  | non =>
    cases ry
    cases x with
    | non => cases rx; exact SeqAt.EqAt.same _
    | bl b => cases rx; exact SeqAt.EqAt.none_bool b
    | int b => obtain ⟨t, rfl⟩ := rx; exact SeqAt.EqAt.none_int b t
    | str b => obtain ⟨t, rfl⟩ := rx; exact SeqAt.EqAt.none_str b t
    | _ => exact absurd (show false = true from fx) Bool.false_ne_true
  | bl a =>
    cases ry
    cases x with
    | non => cases rx; exact SeqAt.EqAt.bool_none a
    | bl b => cases rx; exact SeqAt.EqAt.bool_bool a b
    | int b => obtain ⟨t, rfl⟩ := rx; exact SeqAt.EqAt.bool_int a b t
    | str b => obtain ⟨t, rfl⟩ := rx; exact SeqAt.EqAt.bool_str a b t
    | _ => exact absurd (show false = true from fx) Bool.false_ne_true
  | int a =>
    obtain ⟨t', rfl⟩ := ry
    cases x with
    | non => cases rx; exact SeqAt.EqAt.int_none a t'
    | bl b => cases rx; exact SeqAt.EqAt.int_bool a t' b
    | int b => obtain ⟨t, rfl⟩ := rx; exact SeqAt.EqAt.int_int a t' b t
    | str b => obtain ⟨t, rfl⟩ := rx; exact SeqAt.EqAt.int_str a t' b t
    | _ => exact absurd (show false = true from fx) Bool.false_ne_true
  | str a =>
    obtain ⟨t', rfl⟩ := ry
    cases x with
    | non => cases rx; exact SeqAt.EqAt.str_none a t'
    | bl b => cases rx; exact SeqAt.EqAt.str_bool a t' b
    | int b => obtain ⟨t, rfl⟩ := rx; exact SeqAt.EqAt.str_int a t' b t
    | str b => obtain ⟨t, rfl⟩ := rx; exact SeqAt.EqAt.str_str a t' b t
    | _ => exact absurd (show false = true from fx) Bool.false_ne_true
  | _ => exact absurd (show false = true from fy) Bool.false_ne_true
/-- the items' answers, read off the values (a value's own answer does not lean on its token) -/
def eqU (x : V) (u : Value) : Bool := match u with
  | .none => eqV .non x
  | .bool b => eqV (.bl b) x
  | .int i _ => eqV (.int i) x
  | .str z _ => eqV (.str z) x
  | _ => false
theorem eqU_of {x y : V} {u : Value} (r : RelV y u) (f : flatV y = true) : eqU x u = eqV y x := by
  cases y with
  | non => cases r; rfl
  | bl b => cases r; rfl
  | int i => obtain ⟨t, rfl⟩ := r; rfl
  | str z => obtain ⟨t, rfl⟩ := r; rfl
  | _ => exact absurd (show false = true from f) Bool.false_ne_true
theorem any_eqU {x : V} : ∀ {xs : List V} {us : List Value}, Vals xs us → xs.all flatV = true → us.any (eqU x) = xs.any fun y => eqV y x
  | _, _, .nil, _ => rfl
  | y :: xs, u :: us, .cons r t, f => by
    rw [List.all_cons, Bool.and_eq_true] at f
    rw [List.any_cons, List.any_cons, eqU_of r f.1, any_eqU t f.2]
theorem mem_eqAt {A : Around} {s : Shared} {x : V} {v : Value} (rx : RelV x v) (fx : flatV x = true) : ∀ {xs : List V} {us : List Value}, Vals xs us → xs.all flatV = true → ∀ u ∈ us, SeqAt.EqAt A s u v (eqU x u)
  | _, _, .nil, _ => fun u hu => by cases hu
  | y :: xs, u :: us, .cons r t, f => fun u' hu => by
    rw [List.all_cons, Bool.and_eq_true] at f
    rcases List.mem_cons.mp hu with rfl | hu
    · rw [eqU_of r f.1]; exact eqAt_V r rx f.1 fx
    · exact mem_eqAt rx fx t f.2 u' hu
def inV (x : V) (xs : List V) : Bool := xs.any fun y => eqV y x
/-- x in a list or tuple of flat items -/
def rIn (K : PySem.W.Frag) (neg : Bool) : R2 := fun x y H Q => ∃ p xs, y = .ref p ∧ (SqL K H p xs ∨ SqT K H p xs) ∧ flatV x = true ∧ xs.all flatV = true ∧ Q (.bl (if neg then !inV x xs else inV x xs)) H
theorem op_in_seq : OpR X (compareOp .In) (rIn X.K false) := by
  intro pins s σ H x y v u Q I rx ry h
  obtain ⟨p, xs, rfl, hq, fx, fs, q⟩ := h
  cases ry
  rcases hq with hq | hq
  · obtain ⟨its, r, pl, hz⟩ := I.list hq
    refine SeqAt.in_listAt (eqU x) pl.isList (fun w hw => mem_eqAt rx fx r fs w (by simpa using hw)) ⟨.bl _, H, I, rfl, ?_⟩
    rw [show its.toArray.any (eqU x) = its.any (eqU x) by simp, any_eqU r fs]
    exact q
  · obtain ⟨its, r, pl, hz⟩ := I.tuple hq
    refine SeqAt.in_tupleAt (eqU x) pl (fun w hw => mem_eqAt rx fx r fs w (by simpa using hw)) ⟨.bl _, H, I, rfl, ?_⟩
    rw [show its.toArray.any (eqU x) = its.any (eqU x) by simp, any_eqU r fs]
    exact q
theorem op_notIn_seq : OpR X (compareOp .NotIn) (rIn X.K true) := by
  intro pins s σ H x y v u Q I rx ry h
  obtain ⟨p, xs, rfl, hq, fx, fs, q⟩ := h
  cases ry
  rcases hq with hq | hq
  · obtain ⟨its, r, pl, hz⟩ := I.list hq
    refine SeqAt.notIn_listAt (eqU x) pl.isList (fun w hw => mem_eqAt rx fx r fs w (by simpa using hw)) ⟨.bl _, H, I, rfl, ?_⟩
    rw [show its.toArray.any (eqU x) = its.any (eqU x) by simp, any_eqU r fs]
    exact q
  · obtain ⟨its, r, pl, hz⟩ := I.tuple hq
    refine SeqAt.notIn_tupleAt (eqU x) pl (fun w hw => mem_eqAt rx fx r fs w (by simpa using hw)) ⟨.bl _, H, I, rfl, ?_⟩
    rw [show its.toArray.any (eqU x) = its.any (eqU x) by simp, any_eqU r fs]
    exact q

/-! ### len, list(x), tuple(x) of any list or tuple that is read -/
theorem call_len_seq : CallR X (.builtin "len") (fun xs H Q => ∃ p ys, xs = [.ref p] ∧ (SqL X.K H p ys ∨ SqT X.K H p ys) ∧ Q (.int ys.length) H) := by
  intro pins s σ H xs us Q I r h
  obtain ⟨p, ys, rfl, hq, q⟩ := h
  obtain ⟨u, rfl, rx⟩ := vals1 r
  cases rx
  have hn := line63
  rcases hq with hq | hq
  · obtain ⟨its, r', pl, hz⟩ := I.list hq
    have hlen := r'.length
    exact Calls.call_len_list pl.isList (by simp only [List.size_toArray] <;> omega) ⟨.int ys.length, H, I.tok _, ⟨s.toks + 1, by rw [List.size_toArray, hlen]⟩, q⟩
  · obtain ⟨its, r', pl, hz⟩ := I.tuple hq
    have hlen := r'.length
    exact len_tuple pl (by simp only [List.size_toArray] <;> omega) ⟨.int ys.length, H, I.tok _, ⟨s.toks + 1, by rw [List.size_toArray, hlen]⟩, q⟩
theorem call_list_of : CallR X (.type "list") (fun xs H Q => ∃ p ys, xs = [.ref p] ∧ (SqL X.K H p ys ∨ SqT X.K H p ys) ∧ ∀ l, H l = none → Q (.ref l) (upd H l (.lst ys))) := by
  intro pins s σ H xs us Q I r h
  obtain ⟨p, ys, rfl, hq, q⟩ := h
  obtain ⟨u, rfl, rx⟩ := vals1 r
  cases rx
  have fin : ∀ (its : List Value), Vals ys its → ys.length ≤ sizeLine → ∀ (h' : Heap) (c' : Nat), (∀ b o', s.heap.get? b = some o' → h'.get? b = some o') →
      h'.get? s.heap.objs.size = some { cls := .type "list", dict := none, data := .seq its.toArray c', slots := #[] } → EP X pins σ Q (.ref s.heap.objs.size) { s with heap := h' } := fun its r' hz h' c' kp e =>
    ⟨.ref s.heap.objs.size, _, I.laid (t' := s.toks) kp (Nat.le_refl _) (show ObjOk X.prog X.w _ h' _ (.lst ys) from ⟨hz, its, c', r', e⟩), rfl, q _ (I.hok.fresh (Nat.le_refl _))⟩
  rcases hq with hq | hq
  · obtain ⟨its, r', pl, hz⟩ := I.list hq
    have hlen := r'.length
    obtain ⟨o, ho, hc, n, hd⟩ := pl.isList
    exact call_list_seq p (.inl rfl) ho hc hd (fun h' c' kp e => fin its r' hz h' c' kp e) (by simp only [List.size_toArray] <;> omega)
  · obtain ⟨its, r', pl, hz⟩ := I.tuple hq
    have hlen := r'.length
    obtain ⟨o, ho, hc, n, hd⟩ := pl
    exact call_list_seq p (.inr rfl) ho hc hd (fun h' c' kp e => fin its r' hz h' c' kp e) (by simp only [List.size_toArray] <;> omega)
theorem call_tuple_of : CallR X (.type "tuple") (fun xs H Q => ∃ p ys, xs = [.ref p] ∧ ((SqL X.K H p ys ∧ ∀ l, H l = none → Q (.ref l) (upd H l (.tup ys))) ∨ (SqT X.K H p ys ∧ Q (.ref p) H))) := by
  intro pins s σ H xs us Q I r h
  obtain ⟨p, ys, rfl, h⟩ := h
  obtain ⟨u, rfl, rx⟩ := vals1 r
  cases rx
  rcases h with ⟨hq, q⟩ | ⟨hq, q⟩
  · obtain ⟨its, r', pl, hz⟩ := I.list hq
    have hlen := r'.length
    refine call_tuple_list pl.isList (fun h' kp => ?_) (by simp only [List.size_toArray] <;> omega)
    have I1 : Inv X pins σ H { s with heap := h' } := I.kept (t' := s.toks) kp
    have I2 : Inv X pins σ (upd H h'.objs.size (.tup ys)) { s with heap := h'.push { cls := .type "tuple", data := .seq its.toArray } } :=
      I1.laid (t' := s.toks) (fun b o e => Heap.get?_push_of_some _ e) (Nat.le_refl _) (show ObjOk X.prog X.w _ _ _ (.tup ys) from ⟨hz, its, r', IsTup.new _ _⟩)
    exact ⟨.ref h'.objs.size, _, I2, rfl, q _ (I1.hok.fresh (Nat.le_refl _))⟩
  · obtain ⟨its, r', pl, hz⟩ := I.tuple hq
    exact call_tuple_same pl ⟨.ref p, H, I, rfl, q⟩

/-! ### the call of a builtin's method: o.m(..) -/
/-- the value is of that builtin type -/
def tyV (K : PySem.W.Frag) (T : String) (x : V) (H : Hp) : Prop := match x with
  | .str _ => T = "str"
  | .int _ => T = "int"
  | .ref p => (T = "list" ∧ ∃ xs, SqL K H p xs) ∨ (T = "tuple" ∧ ∃ o, K.lookup p = some o ∧ o.cls = .type "tuple" ∧ o.dict = none) ∨
      (T = "dict" ∧ ((∃ kvs, H p = some (.dK kvs)) ∨ ∃ kvs, H p = some (.dT kvs))) ∨ (T = "set" ∧ ∃ S n, H p = some (.set S n))
  | _ => False
theorem tyV_is {pins : List (Addr × Obj)} {σ : St} {H : Hp} {s : Shared} {T : String} {x : V} {v : Value} (I : Inv X pins σ H s) (r : RelV x v) (ty : tyV X.K T x H) :
    s.TypeIs v T ∧ ∀ a, v = .ref a → ∃ ob, s.heap.get? a = some ob ∧ ob.dict = none := by
  cases x with
  | str z =>
    obtain ⟨t, rfl⟩ := r
    cases (show T = "str" from ty)
    exact ⟨typeIs_str s z t, fun _ e => nomatch e⟩
  | int i =>
    obtain ⟨t, rfl⟩ := r
    cases (show T = "int" from ty)
    exact ⟨typeIs_int s i t, fun _ e => nomatch e⟩
  | ref p =>
    cases r
    rcases ty with ⟨rfl, xs, hq⟩ | ⟨rfl, o, hk, hc, hd⟩ | ⟨rfl, hk⟩ | ⟨rfl, S, n, hk⟩
    · obtain ⟨its, _, pl, _⟩ := I.list hq
      refine ⟨pl.isList.typeIs, fun a e => ?_⟩
      cases e
      obtain ⟨o, n, e, c, hd, _⟩ := pl
      exact ⟨o, e, hd⟩
    · refine ⟨⟨o, I.kIn p o hk, hc⟩, fun a e => ?_⟩
      cases e
      exact ⟨o, I.kIn _ o hk, hd⟩
    · have z : ∃ o, s.heap.get? p = some o ∧ o.ExactDict := by
        rcases hk with ⟨kvs, hk⟩ | ⟨kvs, hk⟩
        · obtain ⟨_, _, _, _, o, _, _, e, ex, _⟩ := I.hok p _ hk
          exact ⟨o, e, ex⟩
        · obtain ⟨_, _, _, _, o, _, _, e, ex, _⟩ := I.hok p _ hk
          exact ⟨o, e, ex⟩
      obtain ⟨o, e, ex⟩ := z
      refine ⟨⟨o, e, ex.1⟩, fun a e2 => ?_⟩
      cases e2
      exact ⟨o, e, ex.2.1⟩
    · obtain ⟨o, _, _, _, e, ex, _⟩ := I.hok p _ hk
      refine ⟨⟨o, e, ex.1⟩, fun a e2 => ?_⟩
      cases e2
      exact ⟨o, e, ex.2.1⟩
  | _ => exact False.elim ty
def tBM0 (K : PySem.W.Frag) (T : String) (r : V → List V → Hp → VK → Prop) (to : TE) : TE := fun σ H Q => to σ H fun x H1 => tyV K T x H1 ∧ r x [] H1 Q
def tBM (K : PySem.W.Frag) (T : String) (r : V → List V → Hp → VK → Prop) (to : TE) (t : TA) : TE := fun σ H Q => to σ H fun x H1 => tyV K T x H1 ∧ t σ H1 fun xs H2 => r x xs H2 Q
variable {o e : Expr} {es : List Expr} {to : TE} {t : TA} {name : Str} {apos cpos : Pos} {T id : String} {r : V → List V → Hp → VK → Prop}
theorem pe_bm0 (pa : PlainAttrs T) (slot : Slot T name id) (hty : typeOf (.builtin id) = pure (.type "method_descriptor")) (hm : MtR X id r) (ho : PE X o to)
    (hbase : attributeBase o name X.env (eval o X.env) = eval o X.env := by rfl) (hline : (apos.endLine == cpos.line) = true := by rfl) : PE X (.Call (.Attribute o name apos) [] [] cpos) (tBM0 X.K T r to) := by
  intro pins s σ H Q I h
  refine wpAny_Call_method0_late hbase hline (thn (ho pins s σ H _ I h) fun v s1 ⟨x, H1, I1, r1, ty, q1⟩ => ?_)
  obtain ⟨h1, h2⟩ := tyV_is I1 r1 ty
  exact ⟨T, id, pa, slot, hty, h1, h2, Calls.callWith_builtin rfl (PySem.evalArgs_none (hm pins s1 σ H1 x [] v [] Q I1 r1 .nil q1))⟩
theorem pe_bm (pa : PlainAttrs T) (slot : Slot T name id) (hty : typeOf (.builtin id) = pure (.type "method_descriptor")) (hm : MtR X id r) (ho : PE X o to) (ha : PA X (e :: es) t)
    (hbase : attributeBase o name X.env (eval o X.env) = eval o X.env := by rfl)
    (hfew : ((backTo cpos (starEach (e :: es) X.env)).all (fun x => !x.1) && (backToKw cpos (keywordEach [] X.env)).all (fun x => x.1.isSome)
      && decide ((e :: es).length + ([] : List Keyword).length + (if ([] : List Keyword).isEmpty then 0 else 1) < 30)) = true := by rfl)
    (hline : (apos.endLine == cpos.line) = true := by rfl) (hs : starEach (e :: es) X.env = (false, eval e X.env) :: starEach es X.env := by rfl) (hplain : (backTo cpos (starEach es X.env)).any (·.1) = false := by rfl) :
    PE X (.Call (.Attribute o name apos) (e :: es) [] cpos) (tBM X.K T r to t) := by
  intro pins s σ H Q I h
  refine wpAny_Call_method_late hbase hfew hline rfl (thn (ho pins s σ H _ I h) fun v s1 ⟨x, H1, I1, r1, ty, q1⟩ => ?_)
  obtain ⟨h1, h2⟩ := tyV_is I1 r1 ty
  refine ⟨T, id, pa, slot, hty, h1, h2, ?_⟩
  have hA := ha cpos pins s1 σ H1 _ I1 q1
  rw [hs] at hA ⊢
  refine Calls.callWith_builtin (by show (false || (backTo cpos (starEach es X.env)).any (·.1)) = false; rw [hplain] <;> rfl) (Calls.evalArgs_plain ?_)
  exact thn hA fun us s2 ⟨vs, H2, I2, r2, q2⟩ => hm pins s2 σ H2 x vs v us Q I2 r1 r2 q2
/- xs.append(e), list.index on a module's tuple .. are MtR facts of 06m -/
end
end L2

namespace L2
open PySem PySem.Spec PyProof.Rows

def MtM (X : Cx) (id : String) (r : V → List V → Hp → VK → Prop) : Prop :=
  ∀ (pins : List (Addr × Obj)) (s : Shared) (σ : St) (H : Hp) (x : V) (xs : List V) (v : Value) (us : List Value) (Q : VK), Inv X pins σ H s → RelV x v → Vals xs us → r x xs H Q →
    wpAny (model X.prog X.w) X.A (call (.builtin id) (v :: us)) (EP X pins σ Q) X.xe s

/-! ### lists of values -/
theorem Vals.one : ∀ {x : V} {us : List Value}, Vals [x] us → ∃ u, us = [u] ∧ RelV x u
  | _, _, .cons r .nil => ⟨_, rfl, r⟩
theorem Vals.zero : ∀ {us : List Value}, Vals [] us → us = []
  | _, .nil => rfl
theorem Vals.dropLast {xs : List V} {us : List Value} (h : Vals xs us) : Vals xs.dropLast us.dropLast := by
  induction h with
  | nil => exact .nil
  | cons r t ih =>
    cases t with
    | nil => exact .nil
    | cons q t' => exact .cons r ih
theorem erase_last {α : Type} (l : List α) : l.eraseIdx (l.length - 1) = l.dropLast := by
  induction l with
  | nil => rfl
  | cons a r ih =>
    cases r with
    | nil => rfl
    | cons b r =>
      have e : (a :: b :: r).length - 1 = ((b :: r).length - 1) + 1 := by
        have h1 : (a :: b :: r).length = r.length + 2 := rfl
        have h2 : (b :: r).length = r.length + 1 := rfl
        omega
      rw [e, List.eraseIdx_cons_succ, ih]
      all_goals rfl

section
variable {X : Cx} {pins : List (Addr × Obj)} {σ : St} {H : Hp} {s : Shared} {l b : Addr} {xs ys zs : List V}

/-! ### the two steps: a tracked list is rewritten, a new list is laid -/
theorem Inv.lset {its its' : List Value} {n : Nat} {f : Array Value → Array Value} {t' : Nat} (I : Inv X pins σ H s) (hH : H l = some (.lst xs))
    (e : s.heap.get? l = some { cls := .type "list", data := .seq its.toArray n }) (hf : f its.toArray = its'.toArray) (hv : Vals ys its') (hz : ys.length ≤ sizeLine) :
    Inv X pins σ (upd H l (.lst ys)) { s with heap := s.heap.update l (Obj.mapSeq f), toks := t' } := by
  have q := PySem.IsL.update e f
  rw [hf] at q
  refine I.write (x := l) (e := l) (by rw [hH]; exact trivial) (.inl rfl) (fun b' u hb hu => (Heap.get?_update_other s.heap (Obj.mapSeq f) (Ne.symm hb)).trans hu) ⟨_, q⟩ ?_
  exact ⟨hz, its', _, hv, q⟩
theorem Inv.lnew {its : List Value} {t' : Nat} (I : Inv X pins σ H s) (hv : Vals ys its) (hz : ys.length ≤ sizeLine) :
    Inv X pins σ (upd H s.heap.objs.size (.lst ys)) { s with heap := s.heap.push { cls := .type "list", data := .seq its.toArray }, toks := t' } :=
  I.laid (fun _ _ q => Heap.get?_push_of_some _ q) (Nat.le_refl _) ⟨hz, its, 0, hv, Heap.get?_push_size _ rfl⟩
theorem Inv.fresh (I : Inv X pins σ H s) : H s.heap.objs.size = none := I.hok.fresh (Nat.le_refl _)
theorem Inv.lstM (I : Inv X pins σ H s) (hH : H l = some (.lst xs)) : xs.length ≤ sizeLine ∧ ∃ (its : List Value) (n : Nat), Vals xs its ∧ xs.length = its.length ∧ s.heap.get? l = some { cls := .type "list", data := .seq its.toArray n } := by
  obtain ⟨z, its, n, r, e⟩ := I.hok l _ hH
  exact ⟨z, its, n, r, r.length, e⟩

end

section
variable {X : Cx}

/-! ### methods -/
def rAppend : V → List V → Hp → VK → Prop := fun x vs H Q => ∃ l xs y, x = .ref l ∧ vs = [y] ∧ H l = some (.lst xs) ∧ xs.length < sizeLine ∧ Q .non (upd H l (.lst (xs ++ [y])))
theorem mt_append : MtM X "list.append" rAppend := by
  intro pins s σ H x vs v us Q I rx rv h
  obtain ⟨l, xs, y, rfl, rfl, hH, hz, q⟩ := h
  cases rx
  obtain ⟨u, rfl, ru⟩ := rv.one
  obtain ⟨z, its, n, r, hl, e⟩ := I.lstM hH
  refine call_meets F.slot_list_append ⟨_, e, rfl⟩ F.entry_list_append (F.args_list_append_2 _ _) (PySem.list_append l its.toArray n u (by rw [List.size_toArray]; omega)) ⟨e, ?_⟩
  refine ⟨.non, _, I.lset (its' := its ++ [u]) hH e (by simp) (r.append (.cons ru .nil)) ?_, rfl, q⟩
  rw [List.length_append, List.length_singleton]
  omega


def rPop : V → List V → Hp → VK → Prop := fun x vs H Q => ∃ l xs y, x = .ref l ∧ vs = [] ∧ H l = some (.lst xs) ∧ xs[xs.length - 1]? = some y ∧ Q y (upd H l (.lst xs.dropLast))
theorem mt_pop : MtM X "list.pop" rPop := by
  intro pins s σ H x vs v us Q I rx rv h
  obtain ⟨l, xs, y, rfl, rfl, hH, hy, q⟩ := h
  cases rx
  have hus := rv.zero
  subst hus
  obtain ⟨z, its, n, r, hl, e⟩ := I.lstM hH
  obtain ⟨u, hu, ru⟩ := r.get hy
  have hy' : its.toArray[its.toArray.size - 1]? = some u := by
    show its.toArray[its.length - 1]? = some u
    rw [← Array.getElem?_toList, ← hl]
    exact hu
  refine call_meets F.slot_list_pop ⟨_, e, rfl⟩ F.entry_list_pop (F.args_list_pop_1 _) (MeetsSeq.list_pop_last l its.toArray n u hy' (by rw [List.size_toArray]; omega)) ⟨e, ?_⟩
  refine ⟨y, _, I.lset (its' := its.dropLast) hH e ?_ r.dropLast ?_, ru, q⟩
  · show its.toArray.eraseIdxIfInBounds (its.toArray.size - 1) = its.dropLast.toArray
    rw [List.size_toArray, List.eraseIdxIfInBounds_toArray, erase_last]
  · rw [List.length_dropLast]
    omega




/-! ### list + list, list += list, list * int -/
def rCat : R2 := fun x y H Q => ∃ l b xs zs, x = .ref l ∧ y = .ref b ∧ H l = some (.lst xs) ∧ H b = some (.lst zs) ∧ xs.length + zs.length ≤ sizeLine ∧ ∀ p, H p = none → Q (.ref p) (upd H p (.lst (xs ++ zs)))
theorem op_cat : OpR X (binaryOp .Add) rCat := by
  intro pins s σ H x y v u Q I rx ry h
  obtain ⟨l, b, xs, zs, rfl, rfl, hH, hB, hz, q⟩ := h
  cases rx
  cases ry
  obtain ⟨z, its, n, r, hl, e⟩ := I.lstM hH
  obtain ⟨z2, its2, n2, r2, hl2, e2⟩ := I.lstM hB
  refine PySem.P.add_list e e2 ?_ (by rw [List.size_toArray, List.size_toArray]; omega)
  have ea : its.toArray ++ its2.toArray = (its ++ its2).toArray := by simp
  rw [ea]
  exact ⟨.ref _, _, I.lnew (t' := s.toks) (r.append r2) (by rw [List.length_append]; omega), rfl, q _ I.fresh⟩

/-! ### del xs[i] -/
end

/-! ### xs[a:b] = ys -/
section
variable {prog : Program} {w : World} {A : Around} {E : Value → Shared → Prop} {s : Shared}
set_option maxRecDepth 100000 in
end

section
variable {X : Cx}
end
end L2

namespace L2
open PySem PySem.Spec PyProof.Rows

/-! ### lists of pairs as tables -/
section
variable {κ : Type} [DecidableEq κ]


theorem RelO.isSome_eq {o : Option V} {u : Option Value} (r : RelO o u) : o.isSome = u.isSome := by
  cases o with
  | none => cases u with
    | none => rfl
    | some _ => exact (show False from r).elim
  | some _ => cases u with
    | none => exact (show False from r).elim
    | some _ => rfl

end


/-! ### a tracked dict, its keys ints and texts or tuples of these -/


section
variable {P : Program} {w : World} {H : Hp} {h : Heap} {a : Addr}
end



section
variable {X : Cx} {pins : List (Addr × Obj)} {σ : St} {H : Hp} {s : Shared} {a : Addr} {y v : V} {u r : Value} {o : Option V} {A : Around} {E : Value → Shared → Prop}

theorem Inv.big (I : Inv X pins σ H s) : sysModules < s.heap.objs.size := by
  have h : mainGlobals < s.heap.objs.size := (I.mod.glob.keeps I.bk).lt
  exact Nat.lt_trans (by decide) h

end

section
variable {X : Cx} {pins : List (Addr × Obj)} {σ : St} {H : Hp} {s : Shared} {a : Addr} {kvs : List (Key × V)} {k : Key} {u : Value} {A : Around} {E : Value → Shared → Prop}
end


/-! ### readings and rules -/
/-- the element of a subscription, not a slice -/
def NoSl (i : Expr) : Prop := ∀ ov iv, subscripted i false ov iv = operate [ov, iv] (getItem ov iv)
theorem subD_of {prog : Program} {w : World} {A : Around} {E : Value → Shared → Prop} {s : Shared} {env : Env} {value slice : Expr} {pos : Pos} {T id : String} {Q : Value → Shared → Prop}
    (hl : typeLookup (.type T) "__getitem__" = pure (some (.builtin id))) (hs : NoSl slice)
    (h : wpAny (model prog w) A (eval value env) (fun o s₁ => wpAny (model prog w) A (eval slice env) (fun i s₂ => s₂.TypeIs o T ∧ wpAny (model prog w) A (getItem o i) Q E s₂) E s₁) E s) :
    wpAny (model prog w) A (eval (.Subscript value slice pos) env) Q E s := by
  refine Subscript_ (wpAny_mono h (fun o s₁ h₁ => wpAny_mono h₁ (fun i s₂ h₂ => ?_) fun _ _ x => x) fun _ _ x => x)
  obtain ⟨hT, h₂⟩ := h₂
  unfold subscriptTail
  refine wpAny_bind ?_
  rw [getitemInPython_of_ne hT.not_modules]
  refine wpAny_bind (wpAny_specialOf hT hl ?_)
  have fin : wpAny (model prog w) A (subscripted slice false o i) (fun r s₃ => wpAny (model prog w) A (letTemporaryGo value o r >>= fun _ => pure r) Q E s₃) E s₂ := by
    rw [hs o i]
    exact wpAny_operating (wpAny_mono h₂ (fun r s₃ h₃ => wpAny_bind (wpAny_letTemporaryGo (wpAny_pure h₃))) fun _ _ x => x)
  first
    | exact wpAny_pure (wpAny_bind fin)
    | exact wpAny_bind (wpAny_pure (wpAny_bind fin))
    | exact wpAny_bind fin



section
variable {X : Cx} {o i e value : Expr} {pos pos' tpos : Pos} {td ty tv : TE}
end


/-! ### displays -/
theorem dk_empty {P : Program} {w : World} {H : Hp} (h : Heap) (hb : sysModules < h.objs.size) : ObjOk P w H (h.push { cls := .type "dict", data := .dict #[] }) h.objs.size (.dK []) :=
  ⟨Nat.zero_le _, beq_eq_false_iff_ne.mpr (Ne.symm (Nat.ne_of_lt hb)), [], .nil, Heap.DictOf.new h⟩
/-- {}, to be a dict of the kind that is wanted -/
def tDNewK : TE := fun _ H Q => ∀ p, H p = none → Q (.ref p) (upd H p (.dK []))
section
variable {X : Cx} {pos : Pos}
theorem pe_dnewK : PE X (.Dict [] [] pos) tDNewK := fun pins s σ H Q I h =>
  wpAny_Dict_empty ⟨.ref s.heap.objs.size, _, I.laid (a := s.heap.objs.size) (o := .dK []) (t' := s.toks) (fun _ _ q => Heap.get?_push_of_some _ q) (Nat.le_refl _) (dk_empty s.heap I.big), rfl, h _ (I.hok.fresh (Nat.le_refl _))⟩
end




/-! ### methods -/


section
variable {X : Cx} {pins : List (Addr × Obj)} {σ : St} {H : Hp} {s : Shared} {a : Addr} {y d : V} {u r : Value} {o : Option V} {A : Around} {E : Value → Shared → Prop}
end

section
variable {X : Cx} {o e f : Expr} {apos cpos : Pos} {td ty tx : TE}
end

/-! ### dict(d): a copy -/
section
variable {X : Cx} {pins : List (Addr × Obj)} {σ : St} {H : Hp} {s : Shared} {a : Addr} {kvs : List (Key × V)} {A : Around} {E : Value → Shared → Prop}
end


section
variable {X : Cx} {pins : List (Addr × Obj)} {σ : St} {H : Hp} {s : Shared} {a : Addr} {y : V} {u : Value} {A : Around} {E : Value → Shared → Prop}
end
end L2

namespace Att
open PySem PySem.W PySem.Calls PyProof.Rows

/-! ### the script -/
theorem ints_of_wellAll {P : Params} {h : Heap} : ∀ (ns : List Int) (vs : List Value), WellAll P h vs (ns.map WData.int) → IntsAre vs ns := by
  intro ns
  induction ns with
  | nil =>
    intro vs w
    rw [List.map_nil] at w
    cases w
    exact .nil
  | cons n ns ih =>
    intro vs w
    rw [List.map_cons] at w
    cases w with
    | cons a b =>
      cases a
      exact .cons _ _ (ih _ b)

theorem script_of {l : OpenLaw} {n : Nat} (hn : l.most = some n) {P : Params} {h : Heap} {args : List WData} {vals : List Value}
    (hpre : l.row.toRowW.claim.pre args = true) (hwl : WellAll P h vals args) :
    ∃ a vs ns, vals = [Value.ref a] ∧ args = [WData.list (ns.map WData.int)] ∧ h.get? a = some { cls := .type "list", data := .seq vs.toArray } ∧ IntsAre vs ns ∧ ns.length ≤ n := by
  have hsh : WShape.hasAll [] args [.list .int] = true := (pre_splitW hpre).1
  have hc : l.pre.holds [] { args := args } = true := (pre_splitW hpre).2
  obtain ⟨d, r, rfl, h1, h2⟩ := hasAllW_cons hsh
  obtain rfl := hasAllW_nil h2
  obtain ⟨xs, rfl, h3⟩ := hasW_list h1
  obtain ⟨ns, rfl⟩ := items_int h3
  have hlen : ns.length ≤ n := by
    unfold OpenLaw.pre at hc
    have h4 : (WTm.not (.lt (.lit (.int (n : Int))) (.len (.arg 0)))).holds [] { args := [.list (ns.map .int)] } = true := by
      have h4 := (holds_andW hc).1
      rw [hn] at h4
      exact h4
    have h5 := condW_of h4 (w_not (w_lt w_lit (w_len_list (w_arg rfl))))
    rw [List.length_map] at h5
    refine Nat.le_of_not_lt fun q => ?_
    have q' : (n : Int) < ((ns.length : Nat) : Int) := by omega
    first
      | (rw [decide_eq_true q'] at h5; exact absurd h5 (by decide))
      | (simp at h5; omega)
  cases hwl with
  | cons w1 w2 =>
    cases w2
    cases w1 with
    | list ho hall => exact ⟨_, _, ns, rfl, rfl, ho, ints_of_wellAll ns _ hall, hlen⟩

theorem post_true (l : OpenLaw) (args : List WData) : l.row.toRowW.claim.post args (.bool true) args = true :=
  postW_of (r := l.row.toRowW) (X := (true == true))
    (show WShape.has [] (.bool true) .bool = true by first | rfl | decide | simp [WShape.has, WShape.arms, WShape.armsAll])
    (show (WTm.eq .res (.lit (.bool true))).value [] { args := args, res := some (.bool true), after := args } = some (.bool (true == true)) from w_eq_bool (w_res rfl) w_lit) rfl

/-! ### the attachment: holds_open's last premise (the goal 'hc' behind k_head) from a wpAny of the law's body -/

/-- the same from a codeAny of the CALL (for a layer whose function contracts speak of calls) -/
theorem attach_call {l : OpenLaw} {n : Nat} {q : Program} {loose : List Str} {XP : (Str → Option Value) → Heap → Prop} {YP : World → Heap → Prop} {d : DefRec}
    (hn : l.most = some n) (hdf : d.params.defaults = [])
    (call : ∀ (w : World) (s₀ s₁ : Shared) (mg mb : Str → Option Value) (fa : Addr) (o : Obj) (pm cd doc : Value) (a : Addr) (vs : List Value) (ns : List Int),
      Ground q loose [] XP w s₀ mg mb s₁.heap → YP w s₁.heap →
      s₁.heap.get? fa = some o → o.data = .func (docDef d.name d.params d.body d.scope pm cd doc) → s₁.heap.CodeRec cd d.name → mg d.name = some (.ref fa) →
      s₁.heap.get? a = some { cls := .type "list", data := .seq vs.toArray } → IntsAre vs ns → ns.length ≤ n → s₁.gens = #[] →
      codeAny (model l.prog w) callerA (.call (.ref fa) ⟨[.ref a], []⟩) (fun r s' => r = .ok (.ret (.bool true)) ∧ OldK s₁.heap s'.heap ∧ s'.os = s₁.os ∧ AllBare s'.gens) s₁) :
    WalkO q loose XP YP l.row.toRowW d [] (fun f vs => PySem.call f vs) := by
  intro w s₀ s₁ mg mb G Y fa o pm cd doc dV kV ho hd hcd hD hmg hg args vals as hpre hlay hrd hwl hlo
  obtain rfl : dV = .none := Dflts.none hD hdf
  obtain rfl : kV = .none := Dflts.noKw hD
  obtain ⟨a, vs, ns, rfl, rfl, hobj, hints, hlen⟩ := script_of hn hpre hwl
  refine enter_call (codeAny_mono (call w s₀ s₁ mg mb fa o pm cd doc a vs ns G Y ho (fd_plain hd) hcd hmg hobj hints hlen hg) fun r s' hq => ?_)
  obtain ⟨rfl, h2, h3, h4⟩ := hq
  exact ⟨.inl ⟨.bool true, .bool true, [], rfl, fun _ => rfl, .bool true, post_true l _, fun _ => ⟨List.Pairwise.nil, fun _ hm => (nomatch hm)⟩⟩, h2, h3, h4⟩


/-! ### rules over ANY heap (no ledger) from facts about the written part K: the library's own take a ledger (News) for what they write -/
section
variable {prog : Program} {w : World} {A : Around} {E : Value → Shared → Prop} {s : Shared} {K : Frag}





/-! the whole heap as the ledger: makes every rule that writes through a ledger a rule over any heap -/

end
end Att

namespace L2
open PySem PySem.Spec PyProof.Rows

theorem vals_ints : ∀ {vs : List Value} {ns : List Int}, IntsAre vs ns → Vals (ns.map V.int) vs
  | _, _, .nil => .nil
  | _, _, .cons n t h => .cons ⟨t, rfl⟩ (vals_ints h)

/-- nothing is tracked but the script, known to the object (or it is an object of the module) -/
def Only (H : Hp) : Prop := ∀ b, H b = none ∨ ∃ o xs, H b = some (.frz o (.lst xs))

/-- THE HEAD: the law's promise, at the heap behind the top. F, the promise of the law's def, may use that base is part of the heap (so K.In base, base.Ns mainGlobals mg stand in Mod) -/
theorem law_call {P : Program} {w : World} {K : PySem.W.Frag} {mg mb : Str → Option Value} {CX : CXT} {k : Nat} {fa a : Addr} {fd : FuncData} {x : Str} {sp : Sp} {s₁ : Shared} {vs : List Value} {ns : List Int}
    (KX : K.In s₁.heap) (hns : s₁.heap.Ns mainGlobals mg) (hb : s₁.heap.Ns builtinsNs mb) (hbb : ∀ x : Str, x ≠ "__name__" → mb x = bootBuiltins x) (hlim : s₁.heap.NoLimit) (hg : s₁.gens = #[])
    (ha : s₁.heap.get? a = some { cls := .type "list", data := .seq vs.toArray }) (hi : IntsAre vs ns) (hl : ns.length ≤ sizeLine) (hr : Room k callerA)
    (F : ∀ base : Heap, K.In base → base.Ns mainGlobals mg → FnOk P w K mg base CX k fa fd [x] sp) (hbind : ∀ (s : Shared) (u : Value), BindsTo s fd ⟨[u], []⟩ [(x, u)])
    (hsp : ∀ H : Hp, Only H → SqL K H a (ns.map V.int) → sp [.ref a] H (fun v _ => v = .bl true) fun _ _ _ => False)
    (hCX : ∀ H e s', CX [] H s₁ (fun _ _ _ => False) e s' → False) :
    codeAny (model P w) callerA (.call (.ref fa) ⟨[.ref a], []⟩) (fun r s' => r = .ok (.ret (.bool true)) ∧ OldK s₁.heap s'.heap ∧ s'.os = s₁.os ∧ AllBare s'.gens) s₁ := by
  have rv := vals_ints hi
  have lenV := hi.length
  -- from an abstract heap in which nothing but the script may be tracked
  have core : ∀ H : Hp, Only H → SqL K H a (ns.map V.int) → HOk P w H s₁.heap → (∀ b, H b ≠ none → b = a) → (H a ≠ none → K.lookup a = none) →
      codeAny (model P w) callerA (.call (.ref fa) ⟨[.ref a], []⟩) (fun r s' => r = .ok (.ret (.bool true)) ∧ OldK s₁.heap s'.heap ∧ s'.os = s₁.os ∧ AllBare s'.gens) s₁ := by
    intro H hO hS hok hA hK
    have base_of : ∀ {b : Addr} {o : Obj}, s₁.heap.get? b = some o → H b = none → (hidT s₁.heap H).get? b = some o := fun e n => hidT_get e n
    have noA : ∀ {b : Addr} {o : Obj} {es : Array DictEntry} {ep : Nat}, s₁.heap.get? b = some o → o.data = .dict es ep → H b = none := fun {b o es ep} e d => by
      cases q : H b with
      | none => rfl
      | some u =>
        have e' : b = a := hA b (by rw [q]; simp)
        subst e'
        rw [ha] at e; cases e
        have d' : Data.seq vs.toArray _ = Data.dict es ep := d
        cases d'
    have nsK : ∀ {b : Addr} {m : Str → Option Value}, s₁.heap.Ns b m → (hidT s₁.heap H).Ns b m := fun {b m} ⟨o, es, ep, e, d, r⟩ => ⟨o, es, ep, base_of e (noA e d), d, r⟩
    have hKb : K.In (hidT s₁.heap H) := fun b o e => base_of (KX b o e) (by
      cases q : H b with
      | none => rfl
      | some u =>
        have e' : b = a := hA b (by rw [q]; simp)
        subst e'
        rw [hK (by rw [q]; simp)] at e; cases e)
    have hM : Mod K mg (hidT s₁.heap H) := ⟨hKb, nsK hns, ⟨mb, nsK hb, hbb⟩, let ⟨mc, h1, h2⟩ := hlim; ⟨mc, nsK h1, h2⟩⟩
    have e0 : Env0 P w K mg (hidT s₁.heap H) callerA [] s₁ H := ⟨rfl, hM, fun b o e => of_hidT e, Nat.le_of_eq (hidT_size _ _), trivial, fun b hb => absurd (show b ∈ ([] : List Addr) from hb) (by simp), hok, .of_eq hg⟩
    refine codeAny_mono ((F _ hKb (nsK hns)).run callerA [] s₁ H ⟨[.ref a], []⟩ [.ref a] [.ref a] _ _ hr e0 (hbind s₁ (.ref a)) (.cons rfl .nil) (hsp H hO hS)) fun r s' h => ?_
    cases r with
    | error e => exact (hCX H e s' h).elim
    | ok fl =>
      cases fl with
      | next => exact False.elim h
      | brk => exact False.elim h
      | cont => exact False.elim h
      | ret u =>
        obtain ⟨v, H', os, bare, un, hok', r', q⟩ := h
        have q' : v = .bl true := q
        subst q'
        obtain rfl : u = Value.bool true := r'
        refine ⟨rfl, OldK.of_keep fun b o e => ?_, os, bare⟩
        cases q : H b with
        | none => exact un.keep b o e q (by intro z; exact absurd (show b ∈ ([] : List Addr) from z) (by simp)) (by simp)
        | some u =>
          rcases hO b with z | ⟨ob, xs, z⟩
          · rw [q] at z; cases z
          · have z2 := un.frzs b ob _ z
            obtain ⟨e1, _⟩ := hok b _ z
            obtain ⟨e2, _⟩ := hok' b _ z2
            rw [e] at e1; cases e1
            exact e2
  cases hk : K.lookup a with
  | some o =>
    -- the script is one of the module's own objects
    have e := KX a o hk
    rw [ha] at e
    cases e
    refine core (fun _ => none) (fun _ => .inl rfl) (.inr ⟨_, vs.toArray, _, hk, rfl, rfl, rfl, by rw [List.size_toArray, lenV]; exact hl, by simpa using rv⟩) (fun b u z => by have z' : (none : Option HO) = some u := z; cases z') (fun b z => absurd rfl z) fun z => absurd rfl z
  | none =>
    refine core (fun b => if b = a then some (.frz { cls := .type "list", data := .seq vs.toArray } (.lst (ns.map V.int))) else none) (fun b => ?_) (.inl (.inr ⟨{ cls := .type "list", data := .seq vs.toArray }, if_pos rfl⟩)) (fun b u z => ?_) (fun b z => ?_) fun _ => hk
    · by_cases hb : b = a
      · exact .inr ⟨_, _, if_pos hb⟩
      · exact .inl (if_neg hb)
    · by_cases hb : b = a
      · have z' := (if_pos hb).symm.trans z
        cases z'
        subst hb
        exact ⟨ha, by rw [List.length_map]; exact hl, vs, _, rv, ha⟩
      · have z' := (if_neg hb).symm.trans z
        cases z'
    · by_cases hb : b = a
      · exact hb
      · exact absurd (if_neg hb) z
end L2

namespace L2
open PySem PySem.Spec PyProof.Rows


/-- the goal that k_head leaves (case hc), from the law's promise. F gives the function object fd (K's own) once, then the promise over every base -/
theorem walk_of {l : PySem.W.OpenLaw} {n k : Nat} {q : Program} {loose : List Str} {XP : (Str → Option Value) → Heap → Prop} {YP : World → Heap → Prop} {d : DefRec} {K : Params → PySem.W.Frag} {CX : World → CXT} {sp : World → Sp} {x : Str}
    (hn : l.most = some n) (hn2 : n ≤ sizeLine) (hdf : d.params.defaults = []) (hr : Room k callerA)
    (hY : ∀ (w : World) (h : Heap), YP w h → (K w.params).In h)
    (F : ∀ (w : World) (mg : Str → Option Value) (fa : Addr) (h : Heap), (K w.params).In h → h.Ns mainGlobals mg → mg d.name = some (.ref fa) →
      ∃ fd : FuncData, (∀ (s : Shared) (u : Value), BindsTo s fd ⟨[u], []⟩ [(x, u)]) ∧
        ∀ base : Heap, (K w.params).In base → base.Ns mainGlobals mg → FnOk l.prog w (K w.params) mg base (CX w) k fa fd [x] (sp w))
    (hsp : ∀ (w : World) (H : Hp) (a : Addr) (ns : List Int), ns.length ≤ n → Only H → SqL (K w.params) H a (ns.map V.int) → sp w [.ref a] H (fun v _ => v = .bl true) fun _ _ _ => False)
    (hCX : ∀ (w : World) (H : Hp) (s : Shared) (e : Value) (s' : Shared), CX w [] H s (fun _ _ _ => False) e s' → False) :
    PySem.W.WalkO q loose XP YP l.row.toRowW d [] (fun f vs => PySem.call f vs) := by
  refine Att.attach_call hn hdf fun w s₀ s₁ mg mb fa o pm cd doc a vs ns G Y ho hd hcd hmg hobj hints hlen hg => ?_
  have KX := hY w _ Y
  obtain ⟨fd, hb, hF⟩ := F w mg fa _ KX G.T.g hmg
  exact law_call KX G.T.g G.T.b G.T.builtins G.T.nolimit hg hobj hints (Nat.le_trans hlen hn2) hr hF hb (fun H hO hS => hsp w H a ns hlen hO hS) fun H e s' => hCX w H s₁ e s'
end L2

/- THE LAST THEOREM (shape; LID, My.* are yours):
   My.Adr: a structure of the addresses that your layer names (classes, functions); My.Txt K t: a structure (Prop) of the equations over K;
   My.txt_mk : {K} {implicit addresses ..} (e1 : nsIn K mainGlobals "law" = some (some (.ref f))) (e2 : K.lookup f = some ⟨oc, od, .func (fnOf "law" "law" params body scope dV kV doc pm an cdv ct), sl⟩) (e3 : codeIn K cdv "law" = true) .. : ∃ t, My.Txt K t

set_option maxRecDepth 100000 in
set_option maxHeartbeats 0 in
theorem PySem.Challenge.cw_LID_holds : PySem.Challenge.rw_LID.Holds := by
  w_on; o_law; k_head; (case hw => w_witness2)
  k_fill
  refine L2.walk_of (l := PySem.Challenge.rw_LID) (n := 63) (k := 40) (x := "script") (CX := fun w => ..) (sp := fun _ => My.sp_law) rfl (by decide) rfl ⟨rfl, by decide, by decide⟩ (fun w h Y => PySem.W.kIn_of Y) ?F ?S ?C
  case F =>
    intro w mg fa h KX G hmg
    have T : ∃ t, My.Txt (L2.KOf KX) t := by
      dsimp only [L2.KOf]                          -- K must stand as «<heap const> w.params» for k_is
      refine' My.txt_mk ?e1 ?e2 ?e3 ..
      (case e1 => PySem.W.k_is)                    -- in the order: a name -> its address -> its object -> its parts
      (case e2 => PySem.W.k_is)
      ..
    obtain ⟨t, T⟩ := T
    have e0 := hmg.symm.trans (PySem.W.mg_of KX G T.law)
    cases e0                                       -- fa is the law's own address
    exact ⟨_, fun s u => .of_eq rfl, fun base kb nb => My.law_fn T kb nb⟩     -- if «.of_eq rfl» comes too early: refine' ⟨_, ?b, fun base kb nb => My.law_fn T kb nb⟩; exact fun s u => .of_eq rfl
  case S => exact fun w H a ns hl hO hS => ..
  case C => exact ..
(the tactic k_is has no namespace: write k_is) -/

/-! SHORT WORDS over the layer: a def of the text, its body, what a loop and a test want. -/
namespace L2
open PySem PySem.Spec PyProof.Rows

/-! ### the text by places -/
/-- the j-th statement of a class's body -/
def inClass (s : Stmt) (j : Nat) : Stmt := match s with
  | .ClassDef _ _ _ body _ _ _ _ _ _ _ => body.getD j (.Pass ⟨0, 0, 0, 0⟩)
  | _ => .Pass ⟨0, 0, 0, 0⟩
def defArgs (s : Stmt) : Arguments := match s with
  | .FunctionDef _ a _ _ _ _ _ _ _ _ => a
  | _ => { posonlyargs := [], args := [], vararg := none, kwonlyargs := [], kw_defaults := [], kwarg := none, defaults := [] }
def defBody (s : Stmt) : List Stmt := match s with
  | .FunctionDef _ _ b _ _ _ _ _ _ _ => b
  | _ => []
def defScope (s : Stmt) : Scope := match s with
  | .FunctionDef _ _ _ _ _ _ sc _ _ _ => sc
  | _ => { kind := .function, names := [], isGenerator := false, isCoroutine := false }

/-! ### no exception leaves a def -/
abbrev CX0 : CXT := fun _ _ _ _ _ _ => False
abbrev E0 : XK := fun _ _ _ => False
theorem pass0 {X : Cx} : Passes CX0 X E0 := fun _ _ _ _ _ _ _ h => h.elim

/-! ### a def (or method) of the text as it stands behind the top -/
structure Fun (K : PySem.W.Frag) (x qual : Str) (st : Stmt) (f : Addr) (fd : FuncData) : Prop where
  ex : ∃ (oc : Value) (od : Option Addr) (kV doc pm : Value) (an : Option Addr) (cdv ct : Value) (osl : Array (Option Value)),
    fd = PySem.W.fnOf x qual (defArgs st) (defBody st) (defScope st) .none kV doc pm an cdv ct ∧ K.lookup f = some ⟨oc, od, .func fd, osl⟩ ∧ PySem.W.codeIn K cdv qual = true
  kp : PySem.W.keepIn K (.ref f) = true
section
variable {P : Program} {w : World} {K : PySem.W.Frag} {mg : Str → Option Value} {base : Heap}
/-- THE RULE for a def: its body as a term of rules, and the reading of that term -/
theorem Fun.ok {x qual : Str} {st : Stmt} {f : Addr} {fd : FuncData} {N ps : List Str} {k : Nat} {sp : Sp} (F : Fun K x qual st f fd) (S : FnScope N ps (defScope st)) (len : ∀ vs H Q E, sp vs H Q E → vs.length = ps.length)
    (hbody : ∀ (cdv : Value) (A : Around) (outer : List Env) (s : Shared) (H : Hp) (vs : List V) (Q : VK) (E : XK), Room k (A.deeper (envOfC qual (defScope st) s.heap.objs.size f cdv)) → sp vs H Q E →
      ∃ t, PSs (cxOf CX0 P w K mg base N qual (defScope st) f cdv A outer s H E).nox (defBody st) t ∧ t { nx := fun _ H' => Q .non H', rt := Q } (start N vs) H) : FnOk P w K mg base CX0 (k + 1) f fd ps sp := by
  obtain ⟨oc, od, kV, doc, pm, an, cdv, ct, osl, rfl, lk, hcd⟩ := F.ex
  refine fn_of lk hcd S len fun A outer s H vs Q E hr hsp => ?_
  obtain ⟨t, h, q⟩ := hbody cdv A outer s H vs Q E hr hsp
  exact ⟨t, h.nox, q⟩
/-- how its arguments bind (no defaults): h is «fun _ _ _ _ _ _ us hl => match us, hl with | [_, _], _ => rfl», one _ a parameter -/
theorem Fun.binds {x qual : Str} {st : Stmt} {f : Addr} {fd : FuncData} {ps : List Str} (F : Fun K x qual st f fd)
    (h : ∀ (kV doc pm : Value) (an : Option Addr) (cdv ct : Value) (us : List Value), us.length = ps.length → bindArgs (PySem.W.fnOf x qual (defArgs st) (defBody st) (defScope st) .none kV doc pm an cdv ct) ⟨us, []⟩ = pure (ps.zip us)) : Binds K fd ps [] := by
  obtain ⟨oc, od, kV, doc, pm, an, cdv, ct, osl, rfl, lk, hcd⟩ := F.ex
  exact .all (h kV doc pm an cdv ct)
theorem fun_mk {x qual : Str} {st : Stmt} {f : Addr} {oc : Value} {od an : Option Addr} {osl : Array (Option Value)} {kV doc pm cdv ct : Value} (l : K.lookup f = some ⟨oc, od, .func (PySem.W.fnOf x qual (defArgs st) (defBody st) (defScope st) .none kV doc pm an cdv ct), osl⟩)
    (c : PySem.W.codeIn K cdv qual = true) (k : PySem.W.keepIn K (.ref f) = true) : Fun K x qual st f (PySem.W.fnOf x qual (defArgs st) (defBody st) (defScope st) .none kV doc pm an cdv ct) := ⟨⟨oc, od, kV, doc, pm, an, cdv, ct, osl, rfl, l, c⟩, k⟩
end
theorem small1000 {n : Nat} (h : n ≤ 1000) : n < sizeLine := Nat.lt_of_le_of_lt h (by decide)

/-! ### expressions in short: the name that stands in the i-th slot -/
section
variable {X : Cx}
theorem pv (i : Nat) {x : Str} {pos : Pos} (hN : X.N[i]? = some x := by rfl) (hv : Vis X.env.scope x := by first | exact Or.inl rfl | exact Or.inr (Or.inl rfl) | exact Or.inr (Or.inr rfl)) (hd : (x == ("__debug__" : Str)) = false := by decide)
    (hcd : (x == ("__classdict__" : Str)) = false := by decide) : PE X (.Name x pos) (tVar i) := pe_var hN hv hd hcd
end

/-! ### tests -/
theorem ite2 {c A B : Prop} [Decidable c] (h1 : c → A) (h2 : ¬ c → B) : if c then A else B := by
  by_cases h : c
  · rw [if_pos h]
    exact h1 h
  · rw [if_neg h]
    exact h2 h

/-! ### heaps -/
/-- all that was tracked is as it was -/
def Same (H H' : Hp) : Prop := ∀ b o, H b = some o → H' b = some o
theorem Same.refl (H : Hp) : Same H H := fun _ _ h => h
theorem Same.trans {H H1 H2 : Hp} (a : Same H H1) (b : Same H1 H2) : Same H H2 := fun c o h => b c o (a c o h)
theorem Same.free {H H' : Hp} (e : Same H H') {l : Addr} (h : H' l = Option.none) : H l = Option.none := by
  cases q : H l with
  | none => rfl
  | some o =>
    rw [e l o q] at h
    cases h
theorem Same.seq {K : PySem.W.Frag} {H H' : Hp} {a : Addr} {xs : List V} (e : Same H H') (h : SqL K H a xs) : SqL K H' a xs := by
  rcases h with (h | ⟨o, h⟩) | h
  · exact .inl (.inl (e _ _ h))
  · exact .inl (.inr ⟨o, e _ _ h⟩)
  · exact .inr h
/-! dict words -/
section
variable {X : Cx}
end

/-! ### a dict's pairs: keys that differ -/
section
variable {κ : Type} [DecidableEq κ]
end
end L2


set_option maxHeartbeats 4000000
namespace L2
open PySem PySem.Spec PyProof.Rows

/-! ### a list comprehension of one clause, as a block of its own -/
def clStep (env : Env) (cs : List (Str × Addr)) (nk : Str × NameKind) : List (Str × Addr) :=
  if nk.2 == .free then (nk.1, (env.cells.lookup nk.1).getD 0) :: cs else cs
def clOf (scope : Scope) (env : Env) : List (Str × Addr) := scope.names.foldl (clStep env) []
theorem clos_of {scope : Scope} {env : Env} (h : ∀ y ∈ scope.names, y.2 = .free → ∃ c, env.cells.lookup y.1 = some c) : closureFor scope env = pure (clOf scope env) := by
  have all : ∀ (l : List (Str × NameKind)) (cs : List (Str × Addr)), (∀ y ∈ l, y.2 = .free → ∃ c, env.cells.lookup y.1 = some c) →
      (forIn l cs (fun x r => if (x.2 == NameKind.free) = true then do let a ← cellOf env x.1; pure (ForInStep.yield ((x.1, a) :: r)) else pure (ForInStep.yield r)) : Sem (List (Str × Addr))) = pure (l.foldl (clStep env) cs) := by
    intro l
    induction l with
    | nil => intro cs _; rfl
    | cons y r ih =>
      intro cs hy
      obtain ⟨n, k⟩ := y
      rw [List.forIn_cons, List.foldl_cons]
      by_cases hk : (k == NameKind.free) = true
      · obtain ⟨c, hc⟩ := hy (n, k) List.mem_cons_self (by simpa using hk)
        have e1 : cellOf env n = pure c := by unfold cellOf; rw [hc]
        have e2 : clStep env cs (n, k) = (n, c) :: cs := by unfold clStep; rw [if_pos hk, hc]; rfl
        rw [e2, ← ih _ fun z hz => hy z (List.mem_cons_of_mem _ hz)]
        dsimp only
        rw [if_pos hk, e1]
        rfl
      · have e2 : clStep env cs (n, k) = cs := by unfold clStep; rw [if_neg hk]
        rw [e2, ← ih _ fun z hz => hy z (List.mem_cons_of_mem _ hz)]
        dsimp only
        rw [if_neg hk]
        rfl
  have e := all scope.names [] h
  unfold closureFor clOf
  rw [← e]
  simp only [bind_pure]
theorem clOf_mem {env : Env} : ∀ {l : List (Str × NameKind)} {cs : List (Str × Addr)} {n : Str} {c : Addr}, (∀ y ∈ l, y.2 = .free → ∃ c, env.cells.lookup y.1 = some c) → (n, c) ∈ l.foldl (clStep env) cs → (n, c) ∈ cs ∨ env.cells.lookup n = some c
  | [], cs, n, c, _, m => .inl m
  | (y, k) :: r, cs, n, c, h, m => by
    rcases clOf_mem (fun z hz => h z (List.mem_cons_of_mem _ hz)) (show (n, c) ∈ r.foldl (clStep env) (clStep env cs (y, k)) from m) with q | q
    · unfold clStep at q
      by_cases hk : (k == NameKind.free) = true
      · rw [if_pos hk] at q
        rcases List.mem_cons.mp q with q | q
        · obtain ⟨d, hd⟩ := h (y, k) List.mem_cons_self (by simpa using hk)
          have hd : env.cells.lookup y = some d := hd
          injection q with q1 q2
          subst q1
          rw [hd] at q2
          subst q2
          exact .inr hd
        · exact .inl q
      · rw [if_neg hk] at q
        exact .inl q
    · exact .inr q
theorem clStep_sub {env : Env} : ∀ {l : List (Str × NameKind)} {cs : List (Str × Addr)} {p : Str × Addr}, p ∈ cs → p ∈ l.foldl (clStep env) cs
  | [], _, _, m => m
  | (y, k) :: r, cs, p, m => by
    refine clStep_sub (l := r) (cs := clStep env cs (y, k)) ?_
    unfold clStep
    split
    · exact List.mem_cons_of_mem _ m
    · exact m
theorem clOf_has {env : Env} : ∀ {l : List (Str × NameKind)} {cs : List (Str × Addr)} {n : Str}, (n, NameKind.free) ∈ l → ∃ c, (n, c) ∈ l.foldl (clStep env) cs
  | (y, k) :: r, cs, n, m => by
    rcases List.mem_cons.mp m with q | q
    · cases q
      exact ⟨(env.cells.lookup y).getD 0, clStep_sub (l := r) (by simp [clStep])⟩
    · exact clOf_has (l := r) q
theorem lookup_has {β : Type} : ∀ {l : List (Str × β)} {n : Str} {c : β}, (n, c) ∈ l → ∃ d, l.lookup n = some d
  | (k, v) :: r, n, c, m => by
    rw [List.lookup_cons]
    cases e : n == k with
    | true => exact ⟨v, rfl⟩
    | false =>
      rcases List.mem_cons.mp m with q | q
      · cases q
        simp at e
      · exact lookup_has q
theorem lookup_relabel_cell {env : Env} (hf : env.scope.kind = .function) : ∀ {names : List (Str × NameKind)} {x : Str}, names.lookup x = some .free → env.kindOf x = some .cell →
    (names.map fun (n, k) => if (k == NameKind.free && env.scope.kind == .function && env.kindOf n == some .cell) then (n, NameKind.cell) else (n, k)).lookup x = some .cell
  | [], _, h, _ => by simp at h
  | (n, k) :: r, x, h, hc => by
    have ih := @lookup_relabel_cell env hf r x
    show List.lookup x ((if (k == NameKind.free && env.scope.kind == .function && env.kindOf n == some .cell) = true then (n, NameKind.cell) else (n, k)) :: _) = _
    cases hx : x == n with
    | true =>
      have e : x = n := by simpa using hx
      subst e
      simp only [List.lookup_cons, hx] at h
      cases h
      rw [if_pos (by rw [hf, hc]; rfl)]
      simp [List.lookup_cons]
    | false =>
      simp only [List.lookup_cons, hx] at h
      by_cases hc' : (k == NameKind.free && env.scope.kind == .function && env.kindOf n == some .cell) = true
      · rw [if_pos hc']; simp only [List.lookup_cons, hx]; exact ih h hc
      · rw [if_neg hc']; simp only [List.lookup_cons, hx]; exact ih h hc

/-- the block's names N', each its own (none) or that of a slot around -/
def frOk (sc scope : Scope) (N : List Str) : List Str → List (Option Nat) → Bool
  | [], [] => true
  | _ :: r, none :: f => frOk sc scope N r f
  | y :: r, some i :: f => (N[i]? == some y) && (scope.names.lookup y == some .free) && (sc.names.lookup y == some .cell) && frOk sc scope N r f
  | _, _ => false
structure CompSc (sc scope : Scope) (N N' : List Str) (fr : List (Option Nat)) : Prop where
  kind : scope.kind = .function
  nocell : ∀ y ∈ scope.names, y.2 ≠ .cell
  names : ∀ y ∈ scope.names, y.2 = .local → scope.names.lookup y.1 = some .local
  free : ∀ y ∈ scope.names, y.2 = .free → sc.names.lookup y.1 = some .cell
  nd : N'.Nodup
  fr : frOk sc scope N N' fr = true
def frSt (fr : List (Option Nat)) (σ : St) : St := fr.map fun o => o.bind fun i => (σ[i]?).join
theorem frOk_len {sc scope : Scope} {N : List Str} : ∀ {N' : List Str} {fr : List (Option Nat)}, frOk sc scope N N' fr = true → fr.length = N'.length
  | [], [], _ => rfl
  | _ :: r, none :: f, h => by simp only [List.length_cons]; rw [frOk_len (N' := r) (fr := f) h]
  | y :: r, some i :: f, h => by
    unfold frOk at h
    simp only [Bool.and_eq_true] at h
    simp only [List.length_cons]; rw [frOk_len (N' := r) (fr := f) h.2]
  | [], _ :: _, h => by simp [frOk] at h
  | _ :: _, [], h => by simp [frOk] at h
theorem frOk_at {sc scope : Scope} {N : List Str} : ∀ {N' : List Str} {fr : List (Option Nat)} {j i : Nat} {y : Str}, frOk sc scope N N' fr = true → N'[j]? = some y → fr[j]? = some (some i) → N[i]? = some y ∧ scope.names.lookup y = some .free ∧ sc.names.lookup y = some .cell
  | [], [], _, _, _, _, h, _ => by simp at h
  | _ :: r, none :: f, 0, i, y, _, _, h => by simp at h
  | _ :: r, none :: f, j + 1, i, y, h, h1, h2 => frOk_at (N' := r) (fr := f) (j := j) h (by simpa using h1) (by simpa using h2)
  | z :: r, some k :: f, 0, i, y, h, h1, h2 => by
    unfold frOk at h
    simp only [Bool.and_eq_true, beq_iff_eq] at h
    have e1 : z = y := by simpa using h1
    have e2 : k = i := by simpa using h2
    subst e1 e2
    exact ⟨h.1.1.1, h.1.1.2, h.1.2⟩
  | z :: r, some k :: f, j + 1, i, y, h, h1, h2 => by
    unfold frOk at h
    simp only [Bool.and_eq_true] at h
    exact frOk_at (N' := r) (fr := f) (j := j) h.2 (by simpa using h1) (by simpa using h2)
  | [], _ :: _, _, _, _, h, _, _ => by simp [frOk] at h
  | _ :: _, [], _, _, _, h, _, _ => by simp [frOk] at h

def cxComp (X : Cx) (scope : Scope) (C : Addr) (N' : List Str) (s₀ : Shared) (H₀ : Hp) (fp : List Addr) : Cx where
  prog := X.prog
  w := X.w
  K := X.K
  mg := X.mg
  base := X.base
  A := X.A
  N := N'
  s₀ := s₀
  H₀ := H₀
  env := compEnvC scope (clOf scope X.env) C X.env
  outer := X.stack
  stack := X.stack
  ex := fp
  calm := true
  fn := fun _ => false
  pn := []
  xe := fun _ _ => False

section
variable {X : Cx} {scope : Scope} {N' : List Str} {fr : List (Option Nat)} {pins : List (Addr × Obj)} {σ : St} {H : Hp} {s : Shared} {fp : List Addr}

theorem Inv.block {h1 : Heap} {t1 : Nat} {m : Str → Option Value} (S : CompSc X.env.scope scope X.N N' fr) (hc : X.calm = true) (I : Inv X pins σ H s) (hf : ∀ b ∈ fp, FpOk X pins H b) (hlt : ∀ b ∈ fp, b < s.heap.objs.size)
    (hns : h1.Ns s.heap.objs.size m) (old : ∀ b o, s.heap.get? b = some o → h1.get? b = some o) :
    Inv (cxComp X scope s.heap.objs.size N' s H fp) [] (frSt fr σ) H { s with heap := h1, toks := t1 } := by
  have hfree : ∀ y ∈ scope.names, y.2 = .free → ∃ c, X.env.cells.lookup y.1 = some c := fun y hy e => I.ok.has y.1 (.inl (S.free y hy e))
  have cl1 : ∀ y c, (clOf scope X.env).lookup y = some c → X.env.cells.lookup y = some c := fun y c e => by
    rcases clOf_mem (cs := []) hfree (PySem.mem_of_lookup e) with q | q
    · exact absurd q (by simp)
    · exact q
  have has : ∀ y, ((relabel scope X.env).names.lookup y = some .cell ∨ (relabel scope X.env).names.lookup y = some .free) → ∃ c, (clOf scope X.env).lookup y = some c := fun y hy => by
    have q : (y, NameKind.free) ∈ scope.names := by
      have m : ∃ k, (k = NameKind.cell ∨ k = NameKind.free) ∧ (y, k) ∈ (relabel scope X.env).names := by
        rcases hy with hy | hy
        · exact ⟨_, .inl rfl, PySem.mem_of_lookup hy⟩
        · exact ⟨_, .inr rfl, PySem.mem_of_lookup hy⟩
      obtain ⟨k, hk, m⟩ := m
      obtain ⟨⟨n, k0⟩, hm, e⟩ := List.mem_map.mp m
      dsimp only at e
      by_cases hq : (k0 == NameKind.free && X.env.scope.kind == .function && X.env.kindOf n == some .cell) = true
      · rw [if_pos hq] at e
        simp only [Bool.and_eq_true, beq_iff_eq] at hq
        injection e with e1 e2
        rw [← e1, ← hq.1.1]
        exact hm
      · rw [if_neg hq] at e
        injection e with e1 e2
        subst e1 e2
        rcases hk with hk | hk
        · exact absurd hk (S.nocell _ hm)
        · rw [← hk]; exact hm
    obtain ⟨c, mc⟩ := clOf_has (env := X.env) (cs := []) q
    exact lookup_has mc
  have ltC : ∀ y c, X.env.cells.lookup y = some c → c < s.heap.objs.size := fun y c e => by
    obtain ⟨v, q⟩ := I.cell y c e
    exact q.lt
  refine ⟨⟨I.ok.mod, S.kind, I.ok.glob, I.ok.blt, Nat.le_refl _, fun x y c e1 e2 => I.ok.inj x y c (cl1 x c e1) (cl1 y c e2), has, fun x c e _ => absurd e (by simp [cxComp]), fun _ => I.ok.hd hc, I.ok.frames, .inl rfl,
      fun b hb => ⟨Nat.ne_of_lt (hlt b hb), fun x c e => (hf b hb).2.2.2.2.1 x c (cl1 x c e)⟩, I.bs, Nat.le_trans I.ok.bsz I.sz, fun b o e hb => ?_, fun b hb z => ?_, I.stack, I.stkFree⟩,
    rfl, I.bare, Un.kept old, ⟨m, hns, fun i x v e1 e2 e3 => ?_⟩, fun x c e => ?_, I.fresh, fun x c e => I.freeC x c (cl1 x c e), fun p hp => absurd hp (by simp [cxComp]), I.hok.kept old, ?_⟩
  · rcases (hf b hb).2.2.2.1 with z | z
    · exact I.ok.noex b o e z
    · exact absurd (Nat.lt_of_lt_of_le (Heap.lt_size e) (Nat.le_trans I.ok.bsz z)) (Nat.lt_irrefl _)
  · rcases List.mem_cons.mp (I.stkSub b z) with q | q
    · exact (hf b hb).2.1 q
    · exact (hf b hb).2.2.1 q
  · -- a name of the block at its entry: one from around
    have e2 : (frSt fr σ)[i]? = some (some v) := e2
    unfold frSt at e2
    rw [List.getElem?_map] at e2
    cases q : fr[i]? with
    | none => rw [q] at e2; cases e2
    | some o =>
      rw [q] at e2
      cases o with
      | none => cases e2
      | some j =>
        have e2 : (σ[j]?).join = some v := Option.some.inj e2
        have e4 : σ[j]? = some (some v) := by
          cases r : σ[j]? with
          | none => rw [r] at e2; cases e2
          | some w => rw [r] at e2; exact congrArg some e2
        obtain ⟨f1, f2, f3⟩ := frOk_at S.fr e1 q
        obtain ⟨m0, _, hl⟩ := I.loc
        obtain ⟨u, r, l⟩ := hl j x v f1 e4 (.inr (.inl f3))
        refine ⟨u, r, .inr ⟨.inl (lookup_relabel_cell I.ok.kind f2 f3), ?_⟩⟩
        obtain ⟨c, hc⟩ := has x (.inl (lookup_relabel_cell I.ok.kind f2 f3))
        rcases l with ⟨k, _⟩ | ⟨_, c', hc', ho⟩
        · have k : X.env.scope.names.lookup x = some .local := k
          rw [f3] at k; cases k
        · have e : c = c' := Option.some.inj ((cl1 x c hc).symm.trans hc')
          subst e
          obtain ⟨o, ho, hd⟩ := ho
          exact ⟨c, hc, o, old c o ho, hd⟩
  · obtain ⟨v, o, ho, hd⟩ := I.cell x c (cl1 x c e)
    exact ⟨v, o, old c o ho, hd⟩
  · show (frSt fr σ).length = N'.length
    unfold frSt
    rw [List.length_map]
    exact frOk_len S.fr
end

def PTs (X : Cx) (ifs : List Expr) (t : TT) : Prop :=
  ∀ (pins : List (Addr × Obj)) (s : Shared) (σ : St) (H : Hp) (Q : Bool → Hp → Prop), Inv X pins σ H s → t σ H Q →
    wpAny (model X.prog X.w) X.A (forIn ifs true fun c r => if r = true then do let ok ← isTrue c X.env (eval c X.env); pure (ForInStep.yield ok) else pure (ForInStep.yield r)) (TP X pins σ Q) X.xe s
def tYes : TT := fun _ H Q => Q true H
theorem pts_nil {X : Cx} : PTs X [] tYes := fun _ _ _ H _ I q => wpAny_tests_nil ⟨H, I, q⟩
theorem pts_one {X : Cx} {c : Expr} {t : TT} (h : PT X c t) : PTs X [c] t := fun pins s σ H Q I q => wpAny_tests_one (h pins s σ H Q I q)

theorem compLoop_any {prog : Program} {w : World} {A : Around} {R : Result → Shared → Prop} {s : Shared} {elt target iter : Expr} {ifs : List Expr} {scope : Scope} {pos : Pos} {it acc : Value} {env : Env} (I : Nat → Shared → Prop)
    (turn : ∀ n s, I n s → wpAny (model prog w) A (pyNext it) (fun r s₁ => match r with
      | none => R (.ok .next) s₁
      | some v => wpAny (model prog w) A (letOwnedTupleGo target it v) (fun _ s₀ => wpAny (model prog w) A (assign target env v) (fun _ s₂ =>
          wpAny (model prog w) A (forIn ifs true fun c r => if r = true then do let ok ← isTrue c env (eval c env); pure (ForInStep.yield ok) else pure (ForInStep.yield r)) (fun ok s₃ =>
            if ok = true then wpAny (model prog w) A (eval elt env) (fun x s₄ =>
              wpAny (model prog w) A (call (.builtin "list.append") [acc, x]) (fun _ s₅ => ∃ m, m < n ∧ I m s₅) (fun _ _ => False) s₄) (fun _ _ => False) s₃
            else ∃ m, m < n ∧ I m s₃) (fun _ _ => False) s₂) (fun _ _ => False) s₀) (fun _ _ => False) s₁) (fun _ _ => False) s)
    (n : Nat) (h : I n s) :
    codeAny (model prog w) A (.compLoop (.ListComp elt [⟨target, iter, ifs, 0⟩] scope pos) 0 it acc env) R s := by
  refine codeAny_loop rfl I (fun n s hI => ?_) n h
  show wpAny _ A ((compTurn (.ListComp elt [⟨target, iter, ifs, 0⟩] scope pos) 0 it acc env).onRaise (fun x => do noteFrame x env; theTreesLotGoes x)) _ _ s
  refine wpAny_noted ?_
  rw [compTurn_list]
  refine wpAny_bind (wpAny_standAt (wpAny_bind (wpAny_mono (turn n s hI) (fun r s₁ h₁ => ?_) fun _ _ h' => h'.elim)))
  cases r with
  | none => exact wpAny_pure h₁
  | some v =>
    refine wpAny_bind (wpAny_mono h₁ (fun _ s₀ h₀ => ?_) fun _ _ h' => h'.elim)
    refine wpAny_bind (wpAny_mono h₀ (fun _ s₂ h₂ => wpAny_bind (wpAny_mono h₂ (fun ok s₃ h₃ => ?_) fun _ _ h' => h'.elim)) fun _ _ h' => h'.elim)
    cases ok with
    | false => exact wpAny_pure ⟨rfl, h₃⟩
    | true =>
      exact wpAny_bind (wpAny_bind (wpAny_mono h₃ (fun x s₄ h₄ => wpAny_bind (wpAny_mono h₄ (fun _ s₅ h₅ => wpAny_pure (wpAny_pure ⟨rfl, h₅⟩)) fun _ _ h' => h'.elim)) fun _ _ h' => h'.elim))

/-- W: by the turn, a measure, the block's names, what has come, the heap -/
def tComp (fr : List (Option Nat)) (wi : TI) (g : TG) (tt : TT) (te : TE) : TE := fun σ H Q => wi σ H fun J H1 => ∀ D, H1 D = none →
  ∃ W : Nat → Nat → St → List V → Hp → Prop, (∃ m, W 0 m (frSt fr σ) [] (upd H1 D (.lst []))) ∧ ∀ i m σ ys H, W i m σ ys H →
    (J.stop i H ∧ Q (.ref D) H) ∨ (J.go i H ∧ ∃ N : St → List V → Hp → Prop, (∀ σ' ys' H', N σ' ys' H' → ∃ m', m' < m ∧ W (i + 1) m' σ' ys' H') ∧ ∀ x H', J.yld i H x H' → g x σ H' fun σ2 H2 => tt σ2 H2 fun b H3 =>
      if b = true then te σ2 H3 fun v H4 => H4 D = some (.lst ys) ∧ ys.length < sizeLine ∧ N σ2 (ys ++ [v]) (upd H4 D (.lst (ys ++ [v])))
      else N σ2 ys H3)

theorem comp_run {X : Cx} {elt tg iter : Expr} {ifs : List Expr} {scope : Scope} {pos cpos : Pos} {wi : TI} {g : TG} {tt : TT} {te : TE} {N' : List Str} {fr : List (Option Nat)} (S : CompSc X.env.scope scope X.N N' fr) (hc : X.calm = true) (hi : PI X tg iter wi)
    (hg : ∀ C s0 H0 fp, PG (cxComp X scope C N' s0 H0 fp) tg g) (ht : ∀ C s0 H0 fp, PTs (cxComp X scope C N' s0 H0 fp) ifs tt) (he : ∀ C s0 H0 fp, PE (cxComp X scope C N' s0 H0 fp) elt te)
    (hs : ∀ x, foldedSetIterable iter X.env x = pure x) {pins : List (Addr × Obj)} {s : Shared} {σ : St} {H : Hp} {Q : VK} (I : Inv X pins σ H s) (h : tComp fr wi g tt te σ H Q) (use : Option (Value → Sem Unit)) (QQ : Value → Shared → Prop)
    (fin : ∀ (D C : Addr) (H5 : Hp) (s6 : Shared), Inv X pins σ H5 s6 → Q (.ref D) H5 → H5 C = none → C ≠ X.env.locals → X.s₀.heap.objs.size ≤ C → (∀ x c, X.env.cells.lookup x = some c → c ≠ C) → (∀ p ∈ X.pn ++ pins, p.1 ≠ C) → (∃ m, s6.heap.Ns C m) →
      compPost (model X.prog X.w) X.A X.xe use QQ (.ref D) C (.ok .next) s6) :
    wpAny (model X.prog X.w) X.A (comprehension (.ListComp elt [⟨tg, iter, ifs, 0⟩] scope pos) scope X.env cpos (newList []) false (eval iter X.env) use) QQ X.xe s := by
  have hfree : ∀ y ∈ scope.names, y.2 = .free → ∃ c, X.env.cells.lookup y.1 = some c := fun y hy e => I.ok.has y.1 (.inl (S.free y hy e))
  refine wpAny_comprehension_free (use := use) rfl hs (clos_of hfree) S.kind S.names (thn (hi pins s σ H _ I h) fun v s1 h1 => thn h1 fun itv s2 h2 => ?_)
  obtain ⟨it, fp, tn, J, H2, e, I2, T, st2, f2, hD⟩ := h2
  subst e
  obtain ⟨W, ⟨m0, w0⟩, turn⟩ := hD s2.heap.objs.size I2.fresh
  -- the new list
  refine wpAny_newObj_type ?_
  have I3 : Inv X pins σ (upd H2 s2.heap.objs.size (.lst [])) { s2 with heap := s2.heap.push { cls := .type "list", data := .seq ([] : List Value).toArray }, toks := s2.toks } := I2.lnew (ys := []) .nil (Nat.zero_le _)
  revert I3
  generalize eD : s2.heap.objs.size = D at *
  generalize e3 : ({ s2 with heap := s2.heap.push { cls := .type "list", data := .seq ([] : List Value).toArray }, toks := s2.toks } : Shared) = s3
  intro I3
  have k3 : ∀ b o, s2.heap.get? b = some o → s3.heap.get? b = some o := fun b o e => by rw [← e3]; exact Heap.get?_push_of_some _ e
  refine wpAny_newFunctionEnv S.nocell (by intro y hy; simp at hy) (fun h4 hns hsb => ?_) S.kind
  have old : ∀ b o, s3.heap.get? b = some o → h4.get? b = some o := fun b o e => hsb.extBut b o (Nat.ne_of_lt (Heap.lt_size e)) (Heap.get?_push_of_some _ e)
  have fD : ∀ b ∈ fp, b ≠ D := fun b hb z => by
    obtain ⟨o, ho, _⟩ := T.obj _ _ st2 b hb
    exact absurd (Heap.lt_size ho) (by rw [z, eD]; exact Nat.lt_irrefl _)
  have f3 : ∀ b ∈ fp, FpOk X pins (upd H2 D (.lst [])) b := fun b hb => ⟨by rw [upd_ne (fD b hb)]; exact (f2 b hb).1, (f2 b hb).2⟩
  have l3 : ∀ b ∈ fp, b < s3.heap.objs.size := fun b hb => by
    obtain ⟨o, ho, _⟩ := T.obj _ _ st2 b hb
    exact Heap.lt_size (k3 b o ho)
  have I4 := Inv.block (t1 := s3.toks + ([] : List (Str × Value)).length) (scope := scope) S hc I3 f3 l3 hns old
  generalize eX : cxComp X scope s3.heap.objs.size N' s3 (upd H2 D (.lst [])) fp = X' at I4
  have st4 : tn 0 h4 := T.keep _ _ _ st2 fun b hb o e => old b o (k3 b o e)
  have stat : ∀ {H' : Hp}, (∀ b ∈ fp, H' b = none) → ∀ b ∈ fp, FpOk X' [] H' b := fun {H'} hn b hb => by
    subst eX
    refine ⟨hn b hb, Nat.ne_of_lt (l3 b hb), ?_, .inl hb, ?_, fun p hp => absurd hp (by simp [cxComp])⟩
    · exact I4.ok.exfs b hb
    · exact (I4.ok.exf b hb).2
  show codeAny _ _ (.compStart _ 0 (.ref it) (.ref D) (compEnvC scope (clOf scope X.env) s3.heap.objs.size X.env)) (compPost _ _ _ use _ (.ref D) s3.heap.objs.size) _
  have hX : X'.prog = X.prog ∧ X'.w = X.w ∧ X'.K = X.K ∧ X'.A = X.A ∧ X'.calm = true ∧ X'.env = compEnvC scope (clOf scope X.env) s3.heap.objs.size X.env ∧ X'.xe = (fun _ _ => False) ∧ X'.s₀ = s3 ∧ X'.H₀ = upd H2 D (.lst []) ∧ X'.fs = frs X.stack ∧ X'.ex = fp := by
    subst eX
    exact ⟨rfl, rfl, rfl, rfl, rfl, rfl, rfl, rfl, rfl, rfl, rfl⟩
  have hg' : PG X' tg g := by subst eX; exact hg _ _ _ _
  have ht' : PTs X' ifs tt := by subst eX; exact ht _ _ _ _
  have he' : PE X' elt te := by subst eX; exact he _ _ _ _
  clear eX
  obtain ⟨x1, x2, x3, x4, x5, x6, x7, x8, x9, x10, x11⟩ := hX
  have loop : codeAny (model X.prog X.w) X.A (.compLoop (.ListComp elt [⟨tg, iter, ifs, 0⟩] scope pos) 0 (.ref it) (.ref D) (compEnvC scope (clOf scope X.env) s3.heap.objs.size X.env))
      (compPost (model X.prog X.w) X.A X.xe use QQ (.ref D) s3.heap.objs.size) { s3 with heap := h4, toks := s3.toks + ([] : List (Str × Value)).length } := by
    refine compLoop_any (fun n s' => ∃ i σ' ys H', Inv X' [] σ' H' s' ∧ tn i s'.heap ∧ (∀ b ∈ fp, H' b = none) ∧ W i n σ' ys H') ?_ m0 ⟨0, _, [], _, I4, st4, fun b hb => (f3 b hb).1, w0⟩
    rintro n s5 ⟨i, σ5, ys, H5, I5, st5, fr5, w5⟩
    rcases turn i n σ5 ys H5 w5 with ⟨stop, qn⟩ | ⟨go, N, hN, step⟩
    · have z := T.done X' x1 x2 x3 x5 i [] s5 σ5 H5 (fun _ _ => False) I5 (stat fr5) st5 stop
      rw [x4] at z
      refine thn z fun r s6 ⟨hr, I6⟩ => ?_
      subst hr
      -- the end
      obtain ⟨mm, hn6, _⟩ := I6.loc
      have hL : X'.env.locals = s3.heap.objs.size := by rw [x6]; rfl
      rw [hL] at hn6
      have nC : H5 s3.heap.objs.size = none := by have := I6.free; rw [hL] at this; exact this
      have base := I6.base
      rw [x8, x9, x10, x11] at base
      have hok : HOk X.prog X.w H5 s6.heap := by have q := I6.hok; rw [x1, x2] at q; exact q
      have os : s6.os = s3.os := by have := I6.os; rw [x8] at this; exact this
      have IX : Inv X pins σ H5 s6 := I3.call' os base hok I6.bare fun b hb => ⟨(f3 b hb).2.2.2.1, (f3 b hb).2.1, (f3 b hb).2.2.2.2.1, (f3 b hb).2.2.2.2.2⟩
      refine fin D s3.heap.objs.size H5 s6 IX qn nC (Nat.ne_of_gt I3.lt) I3.sz (fun x c e => ?_) (fun p hp => ?_) ⟨mm, hn6⟩
      · obtain ⟨v, q⟩ := I3.cell x c e
        exact Nat.ne_of_lt q.lt
      · exact Nat.ne_of_lt (Heap.lt_size (I3.pin p hp).1)
    · have z := T.item X' x1 x2 x3 x5 i [] s5 σ5 H5 (fun _ _ => False) I5 (stat fr5) st5 go
      rw [x4] at z
      refine thn z fun r s6 ⟨u, hr, h6⟩ => ?_
      subst hr
      refine thn h6 fun _ s7 ⟨x, H7, I7, r7, y7, st7, fr7⟩ => ?_
      have I7' := I7.pinned (stat fr7) (T.obj _ _ st7)
      have again : ∀ {σ' : St} {H' : Hp} {s' : Shared}, Inv X' ([] ++ pinsAt fp s7.heap) σ' H' s' → Inv X' [] σ' H' s' ∧ tn (i + 1) s'.heap ∧ ∀ b ∈ fp, H' b = none := fun {σ' H' s'} J => by
        refine ⟨J.unpinned, T.keep _ _ _ st7 fun b hb o e => (J.pin (b, o) (List.mem_append_right _ (List.mem_append_right _ (mem_pinsAt hb e)))).1, fun b hb => ?_⟩
        obtain ⟨o, e, d⟩ := T.obj _ _ st7 b hb
        exact (J.pin (b, o) (List.mem_append_right _ (List.mem_append_right _ (mem_pinsAt hb e)))).2.1
      have z := hg' _ s7 σ5 H7 x u _ I7' r7 (step x H7 y7)
      rw [x1, x2, x4, x6, x7] at z
      refine thn z fun _ s8 ⟨σ8, H8, I8, q8⟩ => ?_
      have z := ht' _ s8 σ8 H8 _ I8 q8
      rw [x1, x2, x4, x6, x7] at z
      refine thn z fun b s9 ⟨H9, I9, q9⟩ => ?_
      cases b with
      | false =>
        rw [if_neg Bool.false_ne_true] at q9 ⊢
        obtain ⟨m', hm, w9⟩ := hN _ _ _ q9
        obtain ⟨a1, a2, a3⟩ := again I9
        exact ⟨m', hm, i + 1, σ8, ys, H9, a1, a2, a3, w9⟩
      | true =>
        rw [if_pos rfl] at q9 ⊢
        have z := he' _ s9 σ8 H9 _ I9 q9
        rw [x1, x2, x4, x6, x7] at z
        refine thn z fun v' s10 ⟨y, H10, I10, r10, hD10, hz, w10⟩ => ?_
        have z := mt_append (X := X') _ s10 σ8 H10 (.ref D) [y] (.ref D) [v'] (fun _ H' => N σ8 (ys ++ [y]) H') I10 rfl (.cons r10 .nil) ⟨D, ys, y, rfl, rfl, hD10, hz, w10⟩
        rw [x1, x2, x4, x7] at z
        refine thn z fun _ s11 ⟨_, H11, I11, _, w11⟩ => ?_
        obtain ⟨m', hm, w11⟩ := hN _ _ _ w11
        obtain ⟨a1, a2, a3⟩ := again I11
        exact ⟨m', hm, i + 1, σ8, _, H11, a1, a2, a3, w11⟩
  exact codeAny_compStart_list loop (T.self _ 0 _ _ _ st4 loop)
theorem pe_comp {X : Cx} {elt tg iter : Expr} {ifs : List Expr} {scope : Scope} {pos : Pos} {wi : TI} {g : TG} {tt : TT} {te : TE} {N' : List Str} {fr : List (Option Nat)} (S : CompSc X.env.scope scope X.N N' fr) (hc : X.calm = true) (hi : PI X tg iter wi)
    (hg : ∀ C s0 H0 fp, PG (cxComp X scope C N' s0 H0 fp) tg g) (ht : ∀ C s0 H0 fp, PTs (cxComp X scope C N' s0 H0 fp) ifs tt) (he : ∀ C s0 H0 fp, PE (cxComp X scope C N' s0 H0 fp) elt te)
    (hs : ∀ x, foldedSetIterable iter X.env x = pure x := by intro _; rfl) : PE X (.ListComp elt [⟨tg, iter, ifs, 0⟩] scope pos) (tComp fr wi g tt te) := by
  intro pins s σ H Q I h
  rw [eval_ListComp]
  refine comp_run S hc hi hg ht he hs I h none _ fun D C H5 s6 IX q nC c1 c2 c3 c4 hm => ?_
  obtain ⟨m, hm⟩ := hm
  refine ⟨m, hm, fun h' hs' => ⟨.ref D, H5, IX.turned (t' := s6.toks) (it := C) (fun b o hb e => hs'.extBut b o hb e) nC c1 (.inr c2) c3 c4, rfl, q⟩⟩
/-- name = [..], the name a local one -/
theorem ps_comp {X : Cx} {elt tg iter : Expr} {ifs : List Expr} {scope : Scope} {pos spos py : Pos} {y : Str} {i : Nat} {wi : TI} {g : TG} {tt : TT} {te : TE} {N' : List Str} {fr : List (Option Nat)} (hN : X.N.Nodup) (hy : X.N[i]? = some y) (hl : X.env.scope.names.lookup y = some .local)
    (S : CompSc X.env.scope scope X.N N' fr) (hc : X.calm = true) (hi : PI X tg iter wi)
    (hg : ∀ C s0 H0 fp, PG (cxComp X scope C N' s0 H0 fp) tg g) (ht : ∀ C s0 H0 fp, PTs (cxComp X scope C N' s0 H0 fp) ifs tt) (he : ∀ C s0 H0 fp, PE (cxComp X scope C N' s0 H0 fp) elt te)
    (hs : ∀ x, foldedSetIterable iter X.env x = pure x := by intro _; rfl) (hsw : swapsWith (.ListComp elt [⟨tg, iter, ifs, 0⟩] scope pos) (some (.Name y py)) spos.line X.env = pure true := by rfl) :
    PS X (.Assign [.Name y py] (.ListComp elt [⟨tg, iter, ifs, 0⟩] scope pos) spos) (tAsg (tComp fr wi g tt te) (gName i)) := by
  intro pins s σ H D I h
  rw [exec_Assign_Name_used _ _ _ _ hsw]
  refine wpAny_bind (wpAny_standAt (wpAny_bind ?_))
  show wpAny _ X.A (do let _ ← comprehension (.ListComp elt [⟨tg, iter, ifs, 0⟩] scope pos) scope X.env _ (newList []) false (eval iter X.env) (some (assign (.Name y py) X.env))) _ _ s
  refine wpAny_bind (thn (comp_run S hc hi hg ht he hs I h (some (assign (.Name y py) X.env)) (fun _ s' => SP X pins D .next s') fun L C H5 s6 IX q nC c1 c2 c3 c4 hm => ?_) fun _ s' hq => wpAny_pure (wpAny_pure hq))
  obtain ⟨m, hm⟩ := hm
  show wpAny _ X.A (assign (.Name y py) X.env (.ref L)) _ _ _
  refine wpAny_assign_Name (store_ok2 IX hN hy (.inl hl) (show RelV (.ref L) (Value.ref L) from rfl) (fun s7 I7 hch => ?_) (.inr hl))
  obtain ⟨a, hsb, ha⟩ := hch
  have hCa : C ≠ a := by
    rcases ha with ha | ha
    · rw [ha]; exact c1
    · exact (c3 _ _ ha).symm
  refine ⟨m, hm.at' (fun o e => (hsb.2 C hCa).trans e), fun h' hs' => ⟨_, H5, I7.turned (t' := s7.toks) (it := C) (fun b o hb e => hs'.extBut b o hb e) nC c1 (.inr c2) c3 c4, q⟩⟩

/-! ### the forms one uses -/
theorem comp_range {lo : Int} {n : Nat} {g : TG} {tt : TT} {te : TE} {R : Hp → Prop} {D : Addr} {σ0 : St} {H0 : Hp} (Pv : Nat → St → List V → Hp → Prop) (h0 : Pv 0 σ0 [] H0)
    (hs : ∀ i σ ys H, i < n → Pv i σ ys H → g (.int (lo + i)) σ H fun σ2 H2 => tt σ2 H2 fun b H3 =>
      if b = true then te σ2 H3 fun v H4 => H4 D = some (.lst ys) ∧ ys.length < sizeLine ∧ Pv (i + 1) σ2 (ys ++ [v]) (upd H4 D (.lst (ys ++ [v]))) else Pv (i + 1) σ2 ys H3)
    (hd : ∀ σ ys H, Pv n σ ys H → R H) :
    ∃ W : Nat → Nat → St → List V → Hp → Prop, (∃ m, W 0 m σ0 [] H0) ∧ ∀ i m σ ys H, W i m σ ys H →
      ((Itr lo n).stop i H ∧ R H) ∨ ((Itr lo n).go i H ∧ ∃ N : St → List V → Hp → Prop, (∀ σ' ys' H', N σ' ys' H' → ∃ m', m' < m ∧ W (i + 1) m' σ' ys' H') ∧ ∀ x H', (Itr lo n).yld i H x H' → g x σ H' fun σ2 H2 => tt σ2 H2 fun b H3 =>
        if b = true then te σ2 H3 fun v H4 => H4 D = some (.lst ys) ∧ ys.length < sizeLine ∧ N σ2 (ys ++ [v]) (upd H4 D (.lst (ys ++ [v]))) else N σ2 ys H3) := by
  refine ⟨fun i m σ ys H => m = n - i ∧ i ≤ n ∧ Pv i σ ys H, ⟨n, by simp, Nat.zero_le _, h0⟩, ?_⟩
  rintro i m σ ys H ⟨rfl, hi, p⟩
  by_cases hlt : i < n
  · refine .inr ⟨hlt, Pv (i + 1), fun σ' ys' H' p' => ⟨n - (i + 1), by omega, rfl, hlt, p'⟩, fun x H' y => ?_⟩
    obtain ⟨e, y⟩ := y
    subst e y
    exact hs i σ ys _ hlt p
  · have e : i = n := by omega
    subst e
    exact .inl ⟨Nat.le_refl _, hd σ ys H p⟩
theorem comp_list {K : PySem.W.Frag} {a : Addr} {xs : List V} {g : TG} {tt : TT} {te : TE} {R : Hp → Prop} {D : Addr} {σ0 : St} {H0 : Hp} (Pv : Nat → St → List V → Hp → Prop) (h0 : Pv 0 σ0 [] H0) (hl : ∀ i σ ys H, i ≤ xs.length → Pv i σ ys H → SqL K H a xs)
    (hs : ∀ i x σ ys H, xs[i]? = some x → Pv i σ ys H → g x σ H fun σ2 H2 => tt σ2 H2 fun b H3 =>
      if b = true then te σ2 H3 fun v H4 => H4 D = some (.lst ys) ∧ ys.length < sizeLine ∧ Pv (i + 1) σ2 (ys ++ [v]) (upd H4 D (.lst (ys ++ [v]))) else Pv (i + 1) σ2 ys H3)
    (hd : ∀ σ ys H, Pv xs.length σ ys H → R H) :
    ∃ W : Nat → Nat → St → List V → Hp → Prop, (∃ m, W 0 m σ0 [] H0) ∧ ∀ i m σ ys H, W i m σ ys H →
      ((Itl K a).stop i H ∧ R H) ∨ ((Itl K a).go i H ∧ ∃ N : St → List V → Hp → Prop, (∀ σ' ys' H', N σ' ys' H' → ∃ m', m' < m ∧ W (i + 1) m' σ' ys' H') ∧ ∀ x H', (Itl K a).yld i H x H' → g x σ H' fun σ2 H2 => tt σ2 H2 fun b H3 =>
        if b = true then te σ2 H3 fun v H4 => H4 D = some (.lst ys) ∧ ys.length < sizeLine ∧ N σ2 (ys ++ [v]) (upd H4 D (.lst (ys ++ [v]))) else N σ2 ys H3) := by
  refine ⟨fun i m σ ys H => m = xs.length - i ∧ i ≤ xs.length ∧ Pv i σ ys H, ⟨xs.length, by simp, Nat.zero_le _, h0⟩, ?_⟩
  rintro i m σ ys H ⟨rfl, hi, p⟩
  have q := hl i σ ys H hi p
  by_cases hlt : i < xs.length
  · refine .inr ⟨⟨xs, xs[i], q, by simp [hlt]⟩, Pv (i + 1), fun σ' ys' H' p' => ⟨xs.length - (i + 1), by omega, rfl, hlt, p'⟩, fun x H' y => ?_⟩
    obtain ⟨e, y⟩ := y
    subst e
    exact hs i x σ ys _ (y xs q) p
  · have e : i = xs.length := by omega
    subst e
    exact .inl ⟨⟨xs, q, Nat.le_refl _⟩, hd σ ys H p⟩
end L2


namespace SF
open PySem

/-! ### a table of a set: its places rise -/
def Rise (xs : Array Nat) : Prop := ∀ i k, i < k → k < xs.size → xs.getD i 0 < xs.getD k 0
theorem getD_any {xs : Array Nat} {i a b : Nat} (h : i < xs.size) : xs.getD i a = xs.getD i b := by
  simp [Array.getD, h]
theorem go_spec {xs : Array Nat} {j : Nat} (hr : Rise xs) : ∀ (f lo hi : Nat), lo ≤ hi → hi ≤ xs.size → hi - lo ≤ f → (∀ i, i < lo → xs.getD i 0 < j) → (∀ i, hi ≤ i → i < xs.size → j ≤ xs.getD i 0) →
    SetTable.below.go xs j f lo hi ≤ xs.size ∧ (∀ i, i < SetTable.below.go xs j f lo hi → xs.getD i 0 < j) ∧ ∀ i, SetTable.below.go xs j f lo hi ≤ i → i < xs.size → j ≤ xs.getD i 0 := by
  intro f
  induction f with
  | zero =>
    intro lo hi h1 h2 h3 h4 h5
    have e : lo = hi := by omega
    subst e
    exact ⟨h2, h4, h5⟩
  | succ f ih =>
    intro lo hi h1 h2 h3 h4 h5
    unfold SetTable.below.go
    by_cases hlt : lo < hi
    · rw [if_pos hlt]
      have m1 : (lo + hi) / 2 < hi := by omega
      have m2 : lo ≤ (lo + hi) / 2 := by omega
      dsimp only
      rw [getD_any (b := 0) (Nat.lt_of_lt_of_le m1 h2)]
      by_cases hm : xs.getD ((lo + hi) / 2) 0 < j
      · rw [if_pos hm]
        refine ih _ _ (by omega) h2 (by omega) (fun i hi' => ?_) h5
        rcases Nat.lt_or_ge i ((lo + hi) / 2) with q | q
        · exact Nat.lt_trans (hr i _ q (by omega)) hm
        · have e : i = (lo + hi) / 2 := by omega
          rw [e]; exact hm
      · rw [if_neg hm]
        refine ih _ _ m2 (by omega) (by omega) h4 (fun i hi' hs => ?_)
        rcases Nat.lt_or_ge ((lo + hi) / 2) i with q | q
        · exact Nat.le_trans (Nat.not_lt.mp hm) (Nat.le_of_lt (hr _ i q hs))
        · have e : i = (lo + hi) / 2 := by omega
          rw [e]; exact Nat.not_lt.mp hm
    · rw [if_neg hlt]
      have e : lo = hi := by omega
      subst e
      exact ⟨h2, h4, h5⟩
theorem below_spec {xs : Array Nat} {j : Nat} (hr : Rise xs) : SetTable.below xs j ≤ xs.size ∧ (∀ i, i < SetTable.below xs j → xs.getD i 0 < j) ∧ ∀ i, SetTable.below xs j ≤ i → i < xs.size → j ≤ xs.getD i 0 :=
  go_spec hr xs.size 0 xs.size (Nat.zero_le _) (Nat.le_refl _) (Nat.le_refl _) (fun i h => absurd h (Nat.not_lt_zero _)) (fun i h1 h2 => absurd (Nat.lt_of_lt_of_le h2 h1) (Nat.lt_irrefl _))
/-- the slot ahead of the i-th place -/
theorem below_at {xs : Array Nat} (hr : Rise xs) {i s : Nat} (h1 : ∀ k, k < i → xs.getD k 0 < s) (h2 : i < xs.size → s ≤ xs.getD i 0) (hi : i ≤ xs.size) : SetTable.below xs s = i := by
  obtain ⟨b1, b2, b3⟩ := below_spec (j := s) hr
  rcases Nat.lt_trichotomy (SetTable.below xs s) i with q | q | q
  · have := b3 _ (Nat.le_refl _) (by omega)
    have := h1 _ q
    omega
  · exact q
  · have := b2 i q
    have := h2 (by omega)
    omega
theorem rise_list {xs : Array Nat} : Rise xs ↔ xs.toList.Pairwise (· < ·) := by
  rw [List.pairwise_iff_getElem]
  constructor
  · intro h i k hi hk hik
    have h' := h i k hik (by simpa using hk)
    have hi' : i < xs.size := by simpa using hi
    have hk' : k < xs.size := by simpa using hk
    simpa [Array.getD, hi', hk'] using h'
  · intro h i k hik hk
    have hi : i < xs.size := Nat.lt_trans hik hk
    have h' := h i k (by simpa using hi) (by simpa using hk) hik
    simpa [Array.getD, hi, hk] using h'
theorem rise_insert {xs : Array Nat} {j : Nat} (hr : Rise xs) (hn : ∀ i, i < xs.size → xs.getD i 0 ≠ j) : Rise (SetTable.insertAt xs (SetTable.below xs j) j) := by
  obtain ⟨b1, b2, b3⟩ := below_spec (j := j) hr
  rw [rise_list, SetTable.toList_insertAt]
  have hp := rise_list.mp hr
  have take : ∀ a ∈ xs.toList.take (SetTable.below xs j), a < j := fun a ha => by
    obtain ⟨i, hi, e⟩ := List.getElem_of_mem ha
    have hi' : i < SetTable.below xs j ∧ i < xs.size := by
      rw [List.length_take] at hi
      simp at hi
      omega
    have := b2 i hi'.1
    rw [← e, List.getElem_take]
    simpa [Array.getD, hi'.2] using this
  have drop : ∀ a ∈ xs.toList.drop (SetTable.below xs j), j < a := fun a ha => by
    obtain ⟨i, hi, e⟩ := List.getElem_of_mem ha
    have hi' : SetTable.below xs j + i < xs.size := by
      rw [List.length_drop] at hi
      simp at hi
      omega
    have h1 := b3 (SetTable.below xs j + i) (Nat.le_add_right _ _) hi'
    have h2 := hn _ hi'
    rw [← e, List.getElem_drop]
    have h3 : j < xs.getD (SetTable.below xs j + i) 0 := by omega
    simpa [Array.getD, hi'] using h3
  refine List.pairwise_append.mpr ⟨hp.sublist (List.take_sublist _ _), List.pairwise_cons.mpr ⟨drop, hp.sublist (List.drop_sublist _ _)⟩, fun a ha b hb => ?_⟩
  rcases List.mem_cons.mp hb with e | hb
  · rw [e]; exact take a ha
  · exact Nat.lt_trans (take a ha) (drop b hb)

structure TInv (t : SetTable) : Prop where
  nod : t.dummies = #[]
  up : t.plain = true → Rise t.place
theorem no_dummy {t : SetTable} (h : t.dummies = #[]) (j : Nat) : t.slot j ≠ .dummy := by
  unfold SetTable.slot
  dsimp only
  split
  · intro z; cases z
  · have e : SetTable.has t.dummies j = false := by rw [h]; simp [SetTable.has]
    rw [if_neg (by rw [e]; exact Bool.false_ne_true)]
    intro z; cases z
theorem probe_spec {t : SetTable} (h : t.dummies = #[]) {f : Nat → Int} {x : Int} : ∀ (n : Nat) (p : SetTable.Probe) {j : Nat} {d : Option Nat}, SetTable.probe.go t f x n p = some (.empty j d) → t.slot j = .empty ∧ d = p.dummy := by
  intro n
  induction n with
  | zero => intro p j d e; cases e
  | succ n ih =>
    intro p j d e
    unfold SetTable.probe.go at e
    cases q : t.slot p.j with
    | empty =>
      rw [q] at e
      cases e
      exact ⟨q, rfl⟩
    | dummy => exact absurd q (no_dummy h _)
    | live i =>
      rw [q] at e
      dsimp only at e
      have adv : (t.advance p).dummy = p.dummy := by
        unfold SetTable.advance
        split <;> rfl
      split at e
      · cases e
      · have := ih _ e
        rw [adv] at this
        exact this
theorem slot_out {t : SetTable} (hr : Rise t.place) {j : Nat} (h : t.slot j = .empty) : ∀ i, i < t.place.size → t.place.getD i 0 ≠ j := by
  intro i hi e
  have hb : SetTable.below t.place j = i := below_at hr (fun k hk => by rw [← e]; exact hr k i hk hi) (fun _ => by rw [e]; exact Nat.le_refl _) (Nat.le_of_lt hi)
  have q : t.place[SetTable.below t.place j]? = some j := by
    rw [hb, ← e]
    simp [Array.getD, hi]
  unfold SetTable.slot at h
  dsimp only at h
  rw [if_pos (by rw [q]; simp)] at h
  cases h
theorem standIn_inv (t : SetTable) (n : Nat) : TInv (t.standIn n) ∧ (t.standIn n).led = t.led := ⟨⟨rfl, fun h => by cases h⟩, rfl⟩
theorem layNew_inv {t : SetTable} (es : Array (Int × Value)) (h : Int) (x : Value) (I : TInv t) : TInv (layNew t es h x).2.1 ∧ (layNew t es h x).2.1.led = t.led := by
  unfold layNew
  cases e : t.freeSlot h with
  | none => exact standIn_inv _ _
  | some p =>
    obtain ⟨slot, wd⟩ := p
    dsimp only
    unfold SetTable.freeSlot at e
    cases q : t.probe (fun _ => h + 1) h (t.probeStart h) with
    | none => rw [q] at e; cases e
    | some m =>
      rw [q] at e
      cases m with
      | candidate a b c => cases e
      | empty j d =>
        obtain ⟨h1, h2⟩ := probe_spec I.nod _ _ q
        have h2 : d = none := h2
        subst h2
        have e1 : j = slot := by
          have := congrArg Prod.fst (Option.some.inj e)
          exact this
        subst e1
        have key : TInv (t.put j).1 ∧ (t.put j).1.led = t.led := by
          refine ⟨⟨?_, fun hp => ?_⟩, rfl⟩
          · show (if SetTable.has t.dummies j then _ else t.dummies) = #[]
            rw [if_neg (by rw [I.nod]; simp [SetTable.has])]
            exact I.nod
          · exact rise_insert (I.up hp) (slot_out (I.up hp) h1)
        unfold SetTable.orStandIn
        split
        · exact key
        · exact ⟨(standIn_inv _ _).1, (standIn_inv _ _).2.trans key.2⟩
theorem live_fst {β : Type} (g : Nat → Option β) : ∀ l : List Nat, (l.filterMap fun j => (g j).map (j, ·)).map (·.1) = l.filter fun j => (g j).isSome
  | [] => rfl
  | a :: r => by
    have ih := live_fst g r
    cases e : g a with
    | none => simp [List.filterMap_cons, e, ih]
    | some b => simp [List.filterMap_cons, e, ih]
theorem relayAll_inv {t : SetTable} (es : Array (Int × Value)) (n : Nat) : TInv (relayAll t es n).2.1 ∧ (relayAll t es n).2.1.led = t.led := by
  unfold relayAll
  cases e : t.relaid (es.map (·.1)) n with
  | none => exact standIn_inv _ _
  | some p =>
    obtain ⟨t', order⟩ := p
    dsimp only
    split
    · unfold SetTable.relaid SetTable.laid at e
      cases q : SetTable.layClean (SetTable.sizeAbove n - 1) (es.map (·.1)) with
      | none => rw [q] at e; cases e
      | some owner =>
        rw [q] at e
        have e := congrArg Prod.fst (Option.some.inj e)
        dsimp only at e
        subst e
        refine ⟨⟨rfl, fun _ => ?_⟩, rfl⟩
        rw [rise_list]
        dsimp only
        have z := live_fst (fun j => owner.getD j none) (List.range (SetTable.sizeAbove n - 1 + 1))
        rw [z]
        exact List.pairwise_lt_range.sublist List.filter_sublist
    · exact standIn_inv _ _

/-! ### the order by the text -/
theorem perm_erase {α : Type} : ∀ (l : List α) (i : Nat) (h : i < l.length), List.Perm (l[i] :: l.eraseIdx i) l
  | a :: r, 0, _ => List.Perm.refl _
  | a :: r, i + 1, h => by
    have q := perm_erase r i (by simpa using h)
    show List.Perm (r[i]'(by simpa using h) :: a :: r.eraseIdx i) (a :: r)
    exact (List.Perm.swap _ _ _).trans (q.cons a)
theorem pick_go {α : Type} (next : Nat → Nat) : ∀ (n k : Nat) (left : List α) (out : Array α), n = left.length → List.Perm (pickOrder.go next n k left out).toList (out.toList ++ left)
  | 0, k, left, out, h => by
    have e : left = [] := List.eq_nil_of_length_eq_zero h.symm
    subst e
    simp [pickOrder.go]
  | n + 1, k, left, out, h => by
    unfold pickOrder.go
    have hlt : next k % left.length < left.length := Nat.mod_lt _ (by omega)
    have e : left[next k % left.length]? = some left[next k % left.length] := List.getElem?_eq_getElem hlt
    rw [e]
    dsimp only
    refine (pick_go next n (k + 1) _ _ (by rw [List.length_eraseIdx, if_pos hlt]; omega)).trans ?_
    rw [Array.toList_push, List.append_assoc]
    refine List.Perm.append_left _ ?_
    show List.Perm (left[next k % left.length] :: left.eraseIdx (next k % left.length)) left
    exact perm_erase _ _ hlt
theorem pick_perm {α : Type} (next : Nat → Nat) (xs : Array α) : List.Perm (pickOrder next xs).toList xs.toList := by
  have := pick_go next xs.size 0 xs.toList #[] (by simp)
  simpa [pickOrder] using this
end SF


namespace SF
open PySem PySem.Calls PyProof.Rows

theorem slot_si_next : Slot "set_iterator" "__next__" "set_iterator.__next__" :=
  .of (owner := "set_iterator") (n := "__next__") (by rw [typeLookup_type, builtinLookup_eq_fast]; kernel_rfl) (by decide +kernel) (by decide +kernel) (by decide +kernel)
    (by first | exact .inl (by decide +kernel) | exact .inr (by decide +kernel)) (by rw [isSubtype_type]; kernel_rfl)
theorem entry_si_next : entryFor table "set_iterator.__next__" = some Builtin.«set_iterator.__next__» := entryFor_of_tree (by kernel_rfl)
theorem args_si_next (a : Value) : argsOk "set_iterator.__next__" ⟨[a], []⟩ := by unfold argsOk; kernel_rfl
theorem entry_set_iter : entryFor table "set.__iter__" = some Builtin.«frozenset.__iter__» :=
  entryFor_alias (id' := "frozenset.__iter__") (by kernel_rfl) rfl (by decide +kernel) (by kernel_rfl)

section
variable {prog : Program} {w : World} {A : Around} {E : Value → Shared → Prop} {s : Shared}

/-- a set as it lies -/
def SetIs (h : Heap) (a : Addr) (es : Array (Int × Value)) (ep : Nat) (t : SetTable) : Prop := ∃ o, h.get? a = some o ∧ o.ExactSet ∧ o.data = .set es ep t
def SiAt (h : Heap) (I : Addr) (first : Value) (i : Nat) (a : Addr) (n ep : Nat) : Prop :=
  ∃ o, h.get? I = some o ∧ o.cls = .type "set_iterator" ∧ o.data = .fields #[first, .int i 0, .ref a, .int n 0, .int ep 0]
theorem SiAt.typeIs {I : Addr} {first : Value} {i : Nat} {a : Addr} {n ep : Nat} (x : SiAt s.heap I first i a n ep) : s.TypeIs (.ref I) "set_iterator" := let ⟨o, ho, hc, _⟩ := x; ⟨o, ho, hc⟩

theorem next_int {a I : Addr} {es : Array (Int × Value)} {ep : Nat} {t : SetTable} {sl i : Nat} {v : Value} {sl' : Nat} {Q : Option Value → Shared → Prop}
    (hs : SetIs s.heap a es ep t) (hf : t.fits es.size = true) (hi : SiAt s.heap I (.int sl 0) i a es.size ep)
    (hN : ∀ (s : Shared) (A : Around) (E : Value → Shared → Prop) (R : Option (Value × Nat) → Shared → Prop), SetIs s.heap a es ep t → R (some (v, sl')) s → wpAny (model prog w) A (setNext a sl i ep) R E s)
    (hQ : ∀ h', SiAt h' I (.int sl' 0) (i + 1) a es.size ep → Heap.SameBut I s.heap h' → Q (some v) { s with heap := h' }) : wpAny (model prog w) A (pyNext (.ref I)) Q E s := by
  obtain ⟨o, ho, hc, hd⟩ := id hi
  obtain ⟨oa, hoa, hex, hda⟩ := id hs
  unfold pyNext
  refine wpAny_bind (wpAny_attempt (wpAny_callSpecial?_slot (name := Str.ofString "__next__") hi.typeIs slot_si_next
    (wpAny_call_entry slot_si_next hi.typeIs entry_si_next ?_ (args_si_next _))))
  unfold Builtin.«set_iterator.__next__»
  refine wpAny_bind (wpAny_pure ?_)
  refine wpAny_bind (wpAny_fieldsOf ho hd ?_)
  dsimp only
  refine wpAny_bind (wpAny_setEntries_of hoa hda hf ?_)
  rw [if_neg (by simp)]
  simp only [Int.toNat_natCast]
  refine wpAny_bind (hN s _ _ _ hs ?_)
  dsimp only
  refine wpAny_bind (wpAny_setField ho hd (by simp) ?_)
  have ho1 := Heap.get?_update_self (Obj.mapFields (·.setIfInBounds 0 (rawInt (sl' : Int)))) ho (Obj.isFreed_of_fields (Obj.data_mapFields hd _))
  have hd1 := Obj.data_mapFields hd (·.setIfInBounds 0 (rawInt (sl' : Int)))
  refine wpAny_bind (wpAny_setField ho1 hd1 (by simp) ?_)
  have ho2 := Heap.get?_update_self (Obj.mapFields (·.setIfInBounds 1 (rawInt ((i : Int) + 1)))) ho1 (Obj.isFreed_of_fields (Obj.data_mapFields hd1 _))
  have hd2 := Obj.data_mapFields hd1 (·.setIfInBounds 1 (rawInt ((i : Int) + 1)))
  refine wpAny_pure ⟨_, rfl, wpAny_pure (hQ _ ⟨_, ho2, ?_, ?_⟩ ((Heap.SameBut.update ..).trans (Heap.SameBut.update ..)))⟩
  · rw [Obj.cls_mapFields, Obj.cls_mapFields]
    exact hc
  · rw [hd2]
    simp [rawInt]
/-- the end: the iterator forgets its set, a StopIteration is made -/
theorem end_int {a I : Addr} {es : Array (Int × Value)} {ep : Nat} {t : SetTable} {sl i : Nat} {Q : Option Value → Shared → Prop} (hh : A.handled = none)
    (hs : SetIs s.heap a es ep t) (hf : t.fits es.size = true) (hi : SiAt s.heap I (.int sl 0) i a es.size ep)
    (hN : ∀ (s : Shared) (A : Around) (E : Value → Shared → Prop) (R : Option (Value × Nat) → Shared → Prop), SetIs s.heap a es ep t → R none s → wpAny (model prog w) A (setNext a sl i ep) R E s)
    (hQ : ∀ h', Heap.ExtBut I s.heap h' → Q none { s with heap := h' }) : wpAny (model prog w) A (pyNext (.ref I)) Q E s := by
  obtain ⟨o, ho, hc, hd⟩ := id hi
  obtain ⟨oa, hoa, hex, hda⟩ := id hs
  unfold pyNext
  refine wpAny_bind (wpAny_attempt (wpAny_callSpecial?_slot (name := Str.ofString "__next__") hi.typeIs slot_si_next
    (wpAny_call_entry slot_si_next hi.typeIs entry_si_next ?_ (args_si_next _))))
  unfold Builtin.«set_iterator.__next__»
  refine wpAny_bind (wpAny_pure ?_)
  refine wpAny_bind (wpAny_fieldsOf ho hd ?_)
  dsimp only
  refine wpAny_bind (wpAny_setEntries_of hoa hda hf ?_)
  rw [if_neg (by simp)]
  simp only [Int.toNat_natCast]
  refine wpAny_bind (hN s _ _ _ hs ?_)
  dsimp only
  refine wpAny_bind (wpAny_setField ho hd (by simp) ?_)
  refine wpAny_bind ?_
  simp only [newExc, newTuple]
  refine wpAny_bind (wpAny_newObj_type ?_ (by size_fits))
  refine wpAny_bind (m := firstArgMember _ _) (wpAny_of_eq (a := Value.none) (by first | rfl | (simp only [firstArgMember]; rfl)) ?_)
  refine wpAny_newObj_type ?_ (by size_fits)
  simp only [raiseNew]
  refine wpAny_bind (wpAny_handled ?_)
  rw [show A.in1.handled = none from hh]
  refine wpAny_bind (wpAny_pure (wpAny_throw ?_))
  refine wpAny_bind (wpAny_isInstance (T := "StopIteration") (b := true) ⟨_, Heap.get?_push_size _ rfl, rfl⟩ isSubtype_stop ?_)
  exact wpAny_pure (hQ _ (((Heap.SameBut.update ..).extBut.push _).push _))
theorem next_drawn {a I T : Addr} {es : Array (Int × Value)} {ep : Nat} {t : SetTable} {i p : Nat} {ps : Array Value} {k : Nat} {tk : Tok} {oT : Obj} {c : Int} {v : Value} {Q : Option Value → Shared → Prop}
    (hs : SetIs s.heap a es ep t) (hf : t.fits es.size = true) (hi : SiAt s.heap I (.ref T) i a es.size ep) (hT : s.heap.get? T = some oT) (hTd : oT.data = .seq ps k) (hp : ps[i]? = some (.int p tk)) (hv : es[p]? = some (c, v))
    (hQ : ∀ h', SiAt h' I (.ref T) (i + 1) a es.size ep → Heap.SameBut I s.heap h' → Q (some v) { s with heap := h' }) : wpAny (model prog w) A (pyNext (.ref I)) Q E s := by
  obtain ⟨o, ho, hc, hd⟩ := id hi
  obtain ⟨oa, hoa, hex, hda⟩ := id hs
  unfold pyNext
  refine wpAny_bind (wpAny_attempt (wpAny_callSpecial?_slot (name := Str.ofString "__next__") hi.typeIs slot_si_next
    (wpAny_call_entry slot_si_next hi.typeIs entry_si_next ?_ (args_si_next _))))
  unfold Builtin.«set_iterator.__next__»
  refine wpAny_bind (wpAny_pure ?_)
  refine wpAny_bind (wpAny_fieldsOf ho hd ?_)
  dsimp only
  refine wpAny_bind (wpAny_setEntries_of hoa hda hf ?_)
  rw [if_neg (by simp)]
  simp only [Int.toNat_natCast]
  refine wpAny_bind ?_
  unfold seqItems?
  refine wpAny_bind (wpAny_load hT ?_)
  rw [hTd]
  refine wpAny_pure ?_
  dsimp only
  rw [hp]
  dsimp only
  refine wpAny_bind ?_
  unfold setNextDrawn
  refine wpAny_bind (wpAny_setState_of hoa hda hf ?_)
  dsimp only
  rw [if_neg (by simp)]
  simp only [Int.toNat_natCast]
  rw [hv]
  refine wpAny_pure ?_
  refine wpAny_bind (wpAny_setField ho hd (by simp) ?_)
  have ho2 := Heap.get?_update_self (Obj.mapFields (·.setIfInBounds 1 (rawInt ((i : Int) + 1)))) ho (Obj.isFreed_of_fields (Obj.data_mapFields hd _))
  have hd2 := Obj.data_mapFields hd (·.setIfInBounds 1 (rawInt ((i : Int) + 1)))
  refine wpAny_pure ⟨_, rfl, wpAny_pure (hQ _ ⟨_, ho2, ?_, ?_⟩ (Heap.SameBut.update ..))⟩
  · rw [Obj.cls_mapFields]
    exact hc
  · rw [hd2]
    simp [rawInt]
theorem end_drawn {a I T : Addr} {es : Array (Int × Value)} {ep : Nat} {t : SetTable} {i : Nat} {ps : Array Value} {k : Nat} {oT : Obj} {Q : Option Value → Shared → Prop} (hh : A.handled = none)
    (hs : SetIs s.heap a es ep t) (hf : t.fits es.size = true) (hi : SiAt s.heap I (.ref T) i a es.size ep) (hT : s.heap.get? T = some oT) (hTd : oT.data = .seq ps k) (hp : ps[i]? = none)
    (hQ : ∀ h', Heap.ExtBut I s.heap h' → Q none { s with heap := h' }) : wpAny (model prog w) A (pyNext (.ref I)) Q E s := by
  obtain ⟨o, ho, hc, hd⟩ := id hi
  obtain ⟨oa, hoa, hex, hda⟩ := id hs
  unfold pyNext
  refine wpAny_bind (wpAny_attempt (wpAny_callSpecial?_slot (name := Str.ofString "__next__") hi.typeIs slot_si_next
    (wpAny_call_entry slot_si_next hi.typeIs entry_si_next ?_ (args_si_next _))))
  unfold Builtin.«set_iterator.__next__»
  refine wpAny_bind (wpAny_pure ?_)
  refine wpAny_bind (wpAny_fieldsOf ho hd ?_)
  dsimp only
  refine wpAny_bind (wpAny_setEntries_of hoa hda hf ?_)
  rw [if_neg (by simp)]
  simp only [Int.toNat_natCast]
  refine wpAny_bind ?_
  unfold seqItems?
  refine wpAny_bind (wpAny_load hT ?_)
  rw [hTd]
  refine wpAny_pure ?_
  dsimp only
  rw [hp]
  dsimp only
  refine wpAny_bind (wpAny_setField ho hd (by simp) ?_)
  have ho1 := Heap.get?_update_self (Obj.mapFields (·.setIfInBounds 0 (rawInt 0))) ho (Obj.isFreed_of_fields (Obj.data_mapFields hd _))
  have hd1 := Obj.data_mapFields hd (·.setIfInBounds 0 (rawInt 0))
  refine wpAny_bind (wpAny_setField ho1 hd1 (by simp) ?_)
  refine wpAny_bind ?_
  simp only [newExc, newTuple]
  refine wpAny_bind (wpAny_newObj_type ?_ (by size_fits))
  refine wpAny_bind (m := firstArgMember _ _) (wpAny_of_eq (a := Value.none) (by first | rfl | (simp only [firstArgMember]; rfl)) ?_)
  refine wpAny_newObj_type ?_ (by size_fits)
  simp only [raiseNew]
  refine wpAny_bind (wpAny_handled ?_)
  rw [show A.in1.handled = none from hh]
  refine wpAny_bind (wpAny_pure (wpAny_throw ?_))
  refine wpAny_bind (wpAny_isInstance (T := "StopIteration") (b := true) ⟨_, Heap.get?_push_size _ rfl, rfl⟩ isSubtype_stop ?_)
  exact wpAny_pure (hQ _ ((((Heap.SameBut.update ..).trans (Heap.SameBut.update ..)).extBut.push _).push _))

/-! ### the next place -/
theorem setNext_text {a : Addr} {es : Array (Int × Value)} {ep : Nat} {t : SetTable} {sl i : Nat} {R : Option (Value × Nat) → Shared → Prop} (hb : w.params.followText "set-order" = true)
    (hs : SetIs s.heap a es ep t) (hf : t.fits es.size = true) (h : R (((pickOrder (w.params.setOrder a ep) es)[i]?).map fun e => (e.2, sl)) s) : wpAny (model prog w) A (setNext a sl i ep) R E s := by
  obtain ⟨o, ho, hex, hd⟩ := id hs
  unfold setNext setsByText
  refine wpAny_bind (wpAny_setState_of ho hd hf ?_)
  dsimp only
  refine wpAny_bind (wpAny_bind (wpAny_askSetting (wpAny_pure ?_)))
  rw [if_pos (show (⟨(model prog w).prog, (model prog w).w.params⟩ : Setting).params.followText "set-order" = true from hb), if_neg (by simp)]
  refine wpAny_bind ?_
  unfold setWalk setsByText
  refine wpAny_bind (wpAny_setState_of ho hd hf ?_)
  dsimp only
  refine wpAny_bind (wpAny_bind (wpAny_askSetting (wpAny_pure ?_)))
  rw [if_pos (show (⟨(model prog w).prog, (model prog w).w.params⟩ : Setting).params.followText "set-order" = true from hb)]
  exact wpAny_bind (wpAny_askSetting (wpAny_pure (wpAny_pure h)))
theorem setNext_plain {a : Addr} {es : Array (Int × Value)} {ep : Nat} {t : SetTable} {sl i : Nat} {R : Option (Value × Nat) → Shared → Prop} (hb : w.params.followText "set-order" = false) (hp : (!t.plain && decide (es.size > 1)) = false) (hl : t.led = true)
    (hs : SetIs s.heap a es ep t) (hf : t.fits es.size = true)
    (h : R (match es[SetTable.below t.place sl]?, t.place[SetTable.below t.place sl]? with | some (_, x), some j => some (x, j + 1) | _, _ => none) s) : wpAny (model prog w) A (setNext a sl i ep) R E s := by
  obtain ⟨o, ho, hex, hd⟩ := id hs
  unfold setNext setsByText
  refine wpAny_bind (wpAny_setState_of ho hd hf ?_)
  dsimp only
  refine wpAny_bind (wpAny_bind (wpAny_askSetting (wpAny_pure ?_)))
  rw [if_neg (show ¬ (⟨(model prog w).prog, (model prog w).w.params⟩ : Setting).params.followText "set-order" = true from by show ¬ w.params.followText "set-order" = true; rw [hb]; exact Bool.false_ne_true)]
  refine wpAny_ite_split (fun hab => absurd (show (!t.plain && decide (es.size > 1)) = true from hab) (by rw [hp]; exact Bool.false_ne_true)) (fun _ => ?_)
  refine wpAny_bind ?_
  show wpAny (model prog w) A (if (!t.led && !es.isEmpty) = true then unsupported "set:maker-not-led" else pure ()) _ _ s
  rw [if_neg (by rw [hl]; simp)]
  exact wpAny_pure (wpAny_pure h)

/-! ### iter(set) -/
theorem wpAny_choose {src : Source} {n : Nat} {Q : Nat → Shared → Prop} (hn : 0 < n) (h : ∀ i d, i < n → Q i { s with drawn := d }) : wpAny (model prog w) A (choose src n) Q E s := fun _ _ _ =>
  ⟨Nat.ne_of_gt hn, h _ _ (Nat.mod_lt _ hn)⟩
theorem drawOrder_perm : ∀ (n : Nat) (l : List Nat) (s : Shared) {Q : List Nat → Shared → Prop}, n = l.length → (∀ r d, List.Perm r l → Q r { s with drawn := d }) → wpAny (model prog w) A (drawOrder n l) Q E s
  | 0, l, s, Q, hn, h => by
    have e : l = [] := List.eq_nil_of_length_eq_zero hn.symm
    subst e
    exact wpAny_pure (h [] s.drawn (List.Perm.refl _))
  | n + 1, [], s, Q, hn, h => by cases hn
  | n + 1, x :: r, s, Q, hn, h => by
    unfold drawOrder
    refine wpAny_bind (wpAny_choose (by simp) fun i d hi => ?_)
    have e : (x :: r)[i]? = some (x :: r)[i] := List.getElem?_eq_getElem hi
    rw [e]
    dsimp only
    refine wpAny_bind (drawOrder_perm n _ _ (by rw [List.length_eraseIdx, if_pos hi]; omega) fun q d' hq => wpAny_pure ?_)
    exact h _ d' ((hq.cons _).trans (perm_erase _ _ hi))
structure SI (prog : Program) (w : World) (s : Shared) (a : Addr) (es : Array (Int × Value)) (ep : Nat) (t : SetTable) : Prop where
  hs : SetIs s.heap a es ep t
  fit : t.fits es.size = true
  inv : TInv t
  led : w.params.followText "set-order" = true ∨ t.led = true
theorem SetIs.typeIs {a : Addr} {es : Array (Int × Value)} {ep : Nat} {t : SetTable} (x : SetIs s.heap a es ep t) : s.TypeIs (.ref a) "set" := let ⟨o, ho, hc, _⟩ := x; ⟨o, ho, hc.1⟩
theorem SetIs.lt {h : Heap} {a : Addr} {es : Array (Int × Value)} {ep : Nat} {t : SetTable} (x : SetIs h a es ep t) : a < h.objs.size := let ⟨o, ho, _⟩ := x; Heap.lt_size ho
theorem SetIs.at {h h' : Heap} {a : Addr} {es : Array (Int × Value)} {ep : Nat} {t : SetTable} (x : SetIs h a es ep t) (e : ∀ o, h.get? a = some o → h'.get? a = some o) : SetIs h' a es ep t := let ⟨o, ho, r⟩ := x; ⟨o, e _ ho, r⟩
theorem SiAt.at {h h' : Heap} {I : Addr} {first : Value} {i : Nat} {a : Addr} {n ep : Nat} (x : SiAt h I first i a n ep) (e : ∀ o, h.get? I = some o → h'.get? I = some o) : SiAt h' I first i a n ep := let ⟨o, ho, r⟩ := x; ⟨o, e _ ho, r⟩
theorem slot_si_iter : Slot "set_iterator" "__iter__" "set_iterator.__iter__" :=
  .of (owner := "set_iterator") (n := "__iter__") (by rw [typeLookup_type, builtinLookup_eq_fast]; kernel_rfl) (by decide +kernel) (by decide +kernel) (by decide +kernel)
    (by first | exact .inl (by decide +kernel) | exact .inr (by decide +kernel)) (by rw [isSubtype_type]; kernel_rfl)
theorem iter_set {a : Addr} {es : Array (Int × Value)} {ep : Nat} {t : SetTable} {Q : Value → Shared → Prop} (S : SI prog w s a es ep t) (hsz : es.size ≤ sizeLine)
    (h1 : (w.params.followText "set-order" = true ∨ (!t.plain && decide (es.size > 1)) = false) → Q (.ref s.heap.objs.size) { s with heap := s.heap.push { cls := .type "set_iterator", data := .fields #[.int 0 0, .int 0 0, .ref a, .int es.size 0, .int ep 0] } })
    (h2 : ∀ (r : List Nat) (d : Drawn), List.Perm r (List.range es.size) → Q (.ref (s.heap.objs.size + 1)) { s with drawn := d, heap := (s.heap.push { cls := .type "tuple", data := .seq ((r.map fun (i : Nat) => rawInt i).toArray) }).push { cls := .type "set_iterator", data := .fields #[.ref s.heap.objs.size, .int 0 0, .ref a, .int es.size 0, .int ep 0] } }) :
    wpAny (model prog w) A (pyIter (.ref a)) Q E s := by
  obtain ⟨o, ho, hex, hd⟩ := id S.hs
  refine wpAny_pyIter_slot S.hs.typeIs PySem.F.slot_set_iter (wpAny_call_entry PySem.F.slot_set_iter S.hs.typeIs entry_set_iter ?_ (PySem.F.args_set_iter_1 _))
  unfold Builtin.«frozenset.__iter__» Builtin.Frozenset.slot0
  refine wpAny_bind (wpAny_bind (wpAny_pure (wpAny_pure ?_)))
  refine wpAny_bind ?_
  unfold Builtin.Frozenset.sizeOf
  refine wpAny_bind (wpAny_setEntries_of ho hd S.fit (wpAny_pure ?_))
  refine wpAny_bind ?_
  unfold setDrawn setsByText
  refine wpAny_bind (wpAny_setState_of ho hd S.fit ?_)
  dsimp only
  refine wpAny_bind (wpAny_bind (wpAny_askSetting (wpAny_pure ?_)))
  refine wpAny_pure ?_
  dsimp only
  by_cases hb : w.params.followText "set-order" = true
  · refine wpAny_ite_split (fun hab => ?_) (fun _ => ?_)
    · have hab : (!w.params.followText "set-order" && _) = true := hab
      rw [hb] at hab
      exact absurd hab (by simp)
    · refine wpAny_bind (wpAny_pure ?_)
      refine wpAny_bind (wpAny_setEpoch_of ho hd S.fit ?_)
      refine wpAny_bind (wpAny_newObj_type ?_)
      exact wpAny_pure ⟨_, rfl, "set_iterator", _, ⟨_, Heap.get?_push_size _ rfl, rfl⟩, slot_si_next.lookup, h1 (.inl hb)⟩
  · have hb' : w.params.followText "set-order" = false := by simpa using hb
    refine wpAny_ite_split (fun hab => ?_) (fun hab => ?_)
    · refine wpAny_bind (drawOrder_perm _ _ _ (by simp) fun r d hr => ?_)
      refine wpAny_bind (wpAny_newObj_type ?_ ?_)
      · refine wpAny_bind (wpAny_setEpoch_of (Heap.get?_push_of_some _ ho) hd S.fit ?_)
        refine wpAny_bind (wpAny_newObj_type ?_)
        have hz := h2 r d hr
        rw [← size_push' s.heap { cls := .type "tuple", data := .seq ((r.map fun (i : Nat) => rawInt i).toArray) }] at hz
        exact wpAny_pure ⟨_, rfl, "set_iterator", _, ⟨_, Heap.get?_push_size _ rfl, rfl⟩, slot_si_next.lookup, hz⟩
      · have hl : r.length = es.size := by rw [hr.length_eq, List.length_range]
        show (List.map _ r).toArray.size ≤ _
        rw [List.size_toArray, List.length_map, hl]
        omega
    · refine wpAny_bind (wpAny_pure ?_)
      refine wpAny_bind (wpAny_setEpoch_of ho hd S.fit ?_)
      refine wpAny_bind (wpAny_newObj_type ?_)
      refine wpAny_pure ⟨_, rfl, "set_iterator", _, ⟨_, Heap.get?_push_size _ rfl, rfl⟩, slot_si_next.lookup, h1 (.inr ?_)⟩
      have hab : ¬ ((!w.params.followText "set-order" && (!t.plain && decide (es.size > 1))) = true) := hab
      rw [hb'] at hab
      simpa using hab
theorem entry_si_iter : entryFor table "set_iterator.__iter__" = some Builtin.«dict_keyiterator.__iter__» :=
  entryFor_alias (id' := "dict_keyiterator.__iter__") (by kernel_rfl) rfl (by decide +kernel) (by kernel_rfl)
theorem args_si_iter (a : Value) : argsOk "set_iterator.__iter__" ⟨[a], []⟩ := by unfold argsOk; kernel_rfl
theorem self_si {I : Addr} {first : Value} {i : Nat} {a : Addr} {n ep : Nat} {Q : Value → Shared → Prop} (hi : SiAt s.heap I first i a n ep) (h : Q (.ref I) s) : wpAny (model prog w) A (pyIter (.ref I)) Q E s := by
  refine wpAny_pyIter_slot hi.typeIs slot_si_iter (wpAny_call_entry slot_si_iter hi.typeIs entry_si_iter ?_ (args_si_iter _))
  show wpAny _ _ (ret (.ref I)) _ _ s
  exact wpAny_pure ⟨_, rfl, "set_iterator", _, hi.typeIs, slot_si_next.lookup, h⟩
theorem walks_int (hh : A.handled = none) {a I : Addr} (hne : a ≠ I) {es : Array (Int × Value)} {ep : Nat} {t : SetTable} (hf : t.fits es.size = true) (order : List Value) (hl : order.length = es.size) (sl : Nat → Nat)
    (hN : ∀ (i : Nat) (v : Value), order[i]? = some v → ∀ (s : Shared) (A : Around) (E : Value → Shared → Prop) (R : Option (Value × Nat) → Shared → Prop), SetIs s.heap a es ep t → R (some (v, sl (i + 1))) s → wpAny (model prog w) A (setNext a (sl i) i ep) R E s)
    (hE : ∀ (s : Shared) (A : Around) (E : Value → Shared → Prop) (R : Option (Value × Nat) → Shared → Prop), SetIs s.heap a es ep t → R none s → wpAny (model prog w) A (setNext a (sl es.size) es.size ep) R E s) :
    Walks prog w A I [I, a] [I] es.size (fun i v => order[i]? = some v) (fun i h => SetIs h a es ep t ∧ SiAt h I (.int (sl i) 0) i a es.size ep) where
  sub := fun b hb => by simp at hb; simp [hb]
  frame := fun _ _ _ st hk => ⟨st.1.at fun o e => hk a (by simp) o e, st.2.at fun o e => hk I (by simp) o e⟩
  item := fun i s Q E hi st hQ => by
    obtain ⟨v, hv⟩ : ∃ v, order[i]? = some v := ⟨order[i]'(by omega), by simp [hl, hi]⟩
    refine next_int st.1 hf st.2 (hN i v hv) fun h' h1 h2 => ?_
    exact hQ v h' s.toks hv ⟨st.1.at fun o e => h2.extBut a o hne e, h1⟩ fun b o hb e => h2.extBut b o (fun z => hb (by simp [z])) e
  done := fun s Q E st hQ => end_int hh st.1 hf st.2 hE fun h' he => hQ h' s.toks fun b o hb e => he b o (fun z => hb (by simp [z])) e
  self := fun _ _ _ _ st hQ => self_si st.2 hQ
theorem walks_drawn (hh : A.handled = none) {a I T : Addr} (hne : a ≠ I) (hnT : T ≠ I) {es : Array (Int × Value)} {ep : Nat} {t : SetTable} (hf : t.fits es.size = true) (r : List Nat) (hr : List.Perm r (List.range es.size)) {oT : Obj} (hTd : oT.data = .seq ((r.map fun (i : Nat) => rawInt i).toArray)) :
    Walks prog w A I [I, a, T] [I] es.size (fun i v => (r.map fun p => ((es[p]?).getD default).2)[i]? = some v) (fun i h => SetIs h a es ep t ∧ SiAt h I (.ref T) i a es.size ep ∧ h.get? T = some oT) where
  sub := fun b hb => by simp at hb; simp [hb]
  frame := fun _ _ _ st hk => ⟨st.1.at fun o e => hk a (by simp) o e, st.2.1.at fun o e => hk I (by simp) o e, hk T (by simp) _ st.2.2⟩
  item := fun i s Q E hi st hQ => by
    have hl : r.length = es.size := by rw [hr.length_eq, List.length_range]
    have hi' : i < r.length := by omega
    have hp : r[i] < es.size := List.mem_range.mp (hr.mem_iff.mp (List.getElem_mem hi'))
    have e1 : r[i]? = some r[i] := List.getElem?_eq_getElem hi'
    have e2 : es[r[i]]? = some (es[r[i]].1, es[r[i]].2) := by simp [hp]
    have hv : (r.map fun p => ((es[p]?).getD default).2)[i]? = some es[r[i]].2 := by
      rw [List.getElem?_map, e1]
      show some ((es[r[i]]?).getD default).2 = _
      rw [e2]
      rfl
    refine next_drawn (p := r[i]) (tk := 0) st.1 hf st.2.1 st.2.2 hTd (by simp [rawInt, e1]) e2 fun h' h1 h2 => ?_
    exact hQ _ h' s.toks hv ⟨st.1.at fun o e => h2.extBut a o hne e, h1, h2.extBut T _ hnT st.2.2⟩ fun b o hb e => h2.extBut b o (fun z => hb (by simp [z])) e
  done := fun s Q E st hQ => by
    have hl : r.length = es.size := by rw [hr.length_eq, List.length_range]
    exact end_drawn hh st.1 hf st.2.1 st.2.2 hTd (by simp [hl]) fun h' he => hQ h' s.toks fun b o hb e => he b o (fun z => hb (by simp [z])) e
  self := fun _ _ _ _ st hQ => self_si st.2.1 hQ
def slAt (t : SetTable) (i : Nat) : Nat := if i = 0 then 0 else t.place.getD (i - 1) 0 + 1
theorem below_sl {t : SetTable} (hr : Rise t.place) {i : Nat} (hi : i ≤ t.place.size) : SetTable.below t.place (slAt t i) = i := by
  unfold slAt
  cases i with
  | zero => exact below_at hr (fun k hk => absurd hk (Nat.not_lt_zero _)) (fun _ => by simp) (Nat.zero_le _)
  | succ i =>
    rw [if_neg (by omega)]
    show SetTable.below t.place (t.place.getD i 0 + 1) = i + 1
    refine below_at hr (fun k hk => ?_) (fun h => hr i (i + 1) (Nat.lt_succ_self _) h) hi
    rcases Nat.lt_or_ge k i with q | q
    · have := hr k i q (by omega)
      omega
    · have e : k = i := by omega
      rw [e]; omega
/-- iter(set): it walks the members in some order -/
theorem iter_walks (hh : A.handled = none) {a : Addr} {es : Array (Int × Value)} {ep : Nat} {t : SetTable} {Q : Value → Shared → Prop} (S : SI prog w s a es ep t) (hsz : es.size ≤ sizeLine)
    (h : ∀ (I : Addr) (fp : List Addr) (order : List Value) (St : Nat → Heap → Prop) (h' : Heap) (d : Drawn), List.Perm order (es.toList.map (·.2)) → (∀ b ∈ fp, b < h'.objs.size) → s.heap.objs.size ≤ I → I ∈ fp → (∀ b ∈ fp, b = a ∨ s.heap.objs.size ≤ b) → Walks prog w A I fp [I] es.size (fun i v => order[i]? = some v) St → St 0 h' →
      (∀ b o, s.heap.get? b = some o → h'.get? b = some o) → Q (.ref I) { s with heap := h', drawn := d }) : wpAny (model prog w) A (pyIter (.ref a)) Q E s := by
  have hlt : @LT.lt Nat _ a s.heap.objs.size := S.hs.lt
  have hpl : t.place.size = es.size := by
    have := S.fit
    simp only [SetTable.fits, Bool.and_eq_true, beq_iff_eq] at this
    exact this.1
  refine iter_set S hsz (fun hm => ?_) (fun r d hr => ?_)
  · have hI : a ≠ s.heap.objs.size := Nat.ne_of_lt hlt
    have fpl : ∀ b ∈ [s.heap.objs.size, a], b < (s.heap.push { cls := .type "set_iterator", data := .fields #[.int 0 0, .int 0 0, .ref a, .int es.size 0, .int ep 0] }).objs.size := fun b hb => by
      rw [size_push']
      simp at hb
      rcases hb with e | e
      · rw [e]; exact Nat.lt_succ_self _
      · rw [e]; exact Nat.lt_succ_of_lt hlt
    have st0 : SetIs (s.heap.push { cls := .type "set_iterator", data := .fields #[.int 0 0, .int 0 0, .ref a, .int es.size 0, .int ep 0] }) a es ep t := S.hs.at fun o e => Heap.get?_push_of_some _ e
    have si0 : SiAt (s.heap.push { cls := .type "set_iterator", data := .fields #[.int 0 0, .int 0 0, .ref a, .int es.size 0, .int ep 0] }) s.heap.objs.size (.int (0 : Nat) 0) 0 a es.size ep := ⟨_, Heap.get?_push_size _ rfl, rfl, rfl⟩
    by_cases hb : w.params.followText "set-order" = true
    · have hp := pick_perm (w.params.setOrder a ep) es
      have hpl' : (pickOrder (w.params.setOrder a ep) es).size = es.size := by rw [← Array.length_toList, hp.length_eq, Array.length_toList]
      refine h s.heap.objs.size _ ((pickOrder (w.params.setOrder a ep) es).toList.map (·.2)) _ _ s.drawn (hp.map _) fpl (Nat.le_refl _) (by simp) (fun b hb => by simp at hb; rcases hb with e | e <;> subst e <;> simp)
        (walks_int hh hI S.fit _ (by rw [List.length_map, Array.length_toList]; exact hpl') (fun _ => 0) (fun i v hv s' A' E' R hs' hR => ?_) (fun s' A' E' R hs' hR => ?_)) ⟨st0, si0⟩ (fun b o e => Heap.get?_push_of_some _ e)
      · refine setNext_text hb hs' S.fit ?_
        rw [List.getElem?_map, Array.getElem?_toList] at hv
        cases q : (pickOrder (w.params.setOrder a ep) es)[i]? with
        | none => rw [q] at hv; cases hv
        | some x => rw [q] at hv; cases hv; exact hR
      · refine setNext_text hb hs' S.fit ?_
        rw [Array.getElem?_eq_none (by omega)]
        exact hR
    · have hb' : w.params.followText "set-order" = false := by simpa using hb
      have hp : (!t.plain && decide (es.size > 1)) = false := hm.resolve_left hb
      have hled : t.led = true := S.led.resolve_left hb
      have hr : Rise t.place := by
        cases q : t.plain with
        | true => exact S.inv.up q
        | false =>
          rw [q] at hp
          intro i k hik hk
          have : ¬ es.size > 1 := by simpa using hp
          omega
      refine h s.heap.objs.size _ (es.toList.map (·.2)) _ _ s.drawn (List.Perm.refl _) fpl (Nat.le_refl _) (by simp) (fun b hb => by simp at hb; rcases hb with e | e <;> subst e <;> simp)
        (walks_int hh hI S.fit _ (by rw [List.length_map, Array.length_toList]) (slAt t) (fun i v hv s' A' E' R hs' hR => ?_) (fun s' A' E' R hs' hR => ?_)) ⟨st0, si0⟩ (fun b o e => Heap.get?_push_of_some _ e)
      · refine setNext_plain hb' hp hled hs' S.fit ?_
        rw [List.getElem?_map, Array.getElem?_toList] at hv
        cases q : es[i]? with
        | none => rw [q] at hv; cases hv
        | some x =>
          rw [q] at hv; cases hv
          have hi : i < es.size := by
            rcases Nat.lt_or_ge i es.size with z | z
            · exact z
            · rw [Array.getElem?_eq_none z] at q; cases q
          have e2 : t.place[i]? = some (t.place.getD i 0) := by simp [Array.getD, hpl, hi]
          rw [below_sl hr (by omega), q, e2]
          exact hR
      · refine setNext_plain hb' hp hled hs' S.fit ?_
        rw [below_sl hr (by omega), Array.getElem?_eq_none (Nat.le_refl _)]
        exact hR
  · have hl : r.length = es.size := by rw [hr.length_eq, List.length_range]
    have k1 : ∀ b o, s.heap.get? b = some o → ((s.heap.push { cls := .type "tuple", data := .seq ((r.map fun (i : Nat) => rawInt i).toArray) }).push { cls := .type "set_iterator", data := .fields #[.ref s.heap.objs.size, .int 0 0, .ref a, .int es.size 0, .int ep 0] }).get? b = some o := fun b o e =>
      Heap.get?_push_of_some _ (Heap.get?_push_of_some _ e)
    have hs2 : (s.heap.push { cls := .type "tuple", data := .seq ((r.map fun (i : Nat) => rawInt i).toArray) }).objs.size = s.heap.objs.size + 1 := size_push' _ _
    have e1 : (r.map fun p => ((es[p]?).getD default).2).Perm (es.toList.map (·.2)) := by
      refine (hr.map _).trans ?_
      have : (List.range es.size).map (fun p => ((es[p]?).getD default).2) = es.toList.map (·.2) := by
        apply List.ext_getElem
        · simp
        · intro i h1 h2
          simp at h1 h2
          simp [h1]
      rw [this]
    refine h (s.heap.objs.size + 1) _ _ _ _ d e1 (fun b hb => ?_) (Nat.le_succ _) ?_ (fun b hb => ?_) (walks_drawn (T := s.heap.objs.size) (oT := { cls := .type "tuple", data := .seq ((r.map fun (i : Nat) => rawInt i).toArray) }) hh (Nat.ne_of_lt (Nat.lt_succ_of_lt hlt)) (Nat.ne_of_lt (Nat.lt_succ_self _)) S.fit r hr rfl)
      ⟨S.hs.at fun o e => k1 a o e, ⟨{ cls := .type "set_iterator", data := .fields #[.ref s.heap.objs.size, .int 0 0, .ref a, .int es.size 0, .int ep 0] }, ?_, rfl, rfl⟩, ?_⟩ k1
    · rw [size_push', hs2]
      simp at hb
      rcases hb with e | e | e
      · rw [e]; exact Nat.lt_succ_self _
      · rw [e]; exact Nat.lt_succ_of_lt (Nat.lt_succ_of_lt hlt)
      · rw [e]; exact Nat.lt_succ_of_lt (Nat.lt_succ_self _)
    · simp
    · simp at hb
      rcases hb with e | e | e
      · exact .inr (by rw [e]; exact Nat.le_succ _)
      · exact .inl e
      · exact .inr (by rw [e]; exact Nat.le_refl _)
    · rw [show s.heap.objs.size.succ = _ from hs2.symm]
      exact Heap.get?_push_size _ rfl
    · exact Heap.get?_push_of_some _ (Heap.get?_push_size _ rfl)
theorem hint_set (hT : s.TypeIs (.ref r) "set") {Q : Bool → Shared → Prop} (h : Q false s) : wpAny (model prog w) A (Builtin.List.listLengthHint (.ref r)) Q E s := by
  unfold Builtin.List.listLengthHint
  refine wpAny_bind (wpAny_specialOf hT PySem.F.slot_set_len.lookup ?_)
  generalize hid : ("set.__len__" : String) = id0
  wp_delta
  rw [show splitId id0 = some ("set", "__len__") from by subst hid; decide +kernel]
  subst hid
  refine wpAny_bind (wpAny_isInstance (T := "set") (b := true) hT (by rw [isSubtype_type]; kernel_rfl) ?_)
  refine wpAny_ite_split (fun hab => absurd hab (by decide)) (fun _ => ?_)
  refine wpAny_ite_split (fun _ => ?_) (fun hab => absurd (by decide +kernel) hab)
  refine wpAny_bind (wpAny_typeOf hT ?_)
  exact wpAny_pure h
end
end SF


namespace SF
open PySem PySem.Calls PyProof.Rows
section
variable {prog : Program} {w : World} {A : Around} {E : Value → Shared → Prop} {s : Shared}

theorem extend_set (hh : A.handled = none) {a S : Addr} {es : Array (Int × Value)} {ep : Nat} {t : SetTable} {R : Result → Shared → Prop} (hS : SI prog w s a es ep t) (hsz : es.size ≤ sizeLine) (hne : S ≠ a) (res : Value) (c0 : Nat)
    (hL : s.heap.get? S = some { cls := .type "list", data := .seq #[] c0 })
    (hR : ∀ h' d tk (acc : Array Value) (order : List Value) c', (∀ b o, b ≠ S → s.heap.get? b = some o → h'.get? b = some o) → h'.get? S = some { cls := .type "list", dict := none, data := .seq acc c', slots := #[] } →
      List.Perm order (es.toList.map (·.2)) → acc.toList = order → R (.ok (.ret res)) { s with heap := h', toks := tk, drawn := d }) :
    wpAny (model prog w) A.in1 (Builtin.List.listExtendWith (.ref S) (.ref a) res)
      (fun fin s' => match fin with | .done f => R (.ok f) s' | .again c' => c'.quiet = true ∧ codeAny (model prog w) A c' R s') (fun e s' => R (.error e) s') s := by
  unfold Builtin.List.listExtendWith
  refine wpAny_bind (wpAny_typeOf (T := "set") hS.hs.typeIs ?_)
  have h1 : Builtin.List.listSameRef (.ref S) (.ref a) = false := by simp [Builtin.List.listSameRef, hne]
  rw [if_neg (by rw [h1]; decide)]
  refine wpAny_bind (iter_walks (A := A.in1) hh hS hsz fun I fp order St h' d hp hfl hI hIm hfp W st hk => ?_)
  have hltS := Heap.lt_size hL
  have hSf : S ∉ fp := fun hm => by
    rcases hfp S hm with e | e
    · exact hne e
    · exact absurd (Nat.lt_of_lt_of_le hltS e) (Nat.lt_irrefl _)
  have hol : order.length = es.size := by rw [hp.length_eq, List.length_map, Array.length_toList]
  have key : ∀ (h2 : Heap) (c1 tk : Nat), St 0 h2 → (∀ b o, b ≠ S → s.heap.get? b = some o → h2.get? b = some o) → h2.get? S = some { cls := .type "list", data := .seq #[] c1 } →
      codeAny (model prog w) A (.builtin "list.extend.loop" ⟨[.ref S, .ref I, res], []⟩) R { s with heap := h2, toks := tk, drawn := d } := by
    intro h2 c1 tk hst hk2 hS1
    refine codeAny_extend_loopS W.toS hsz S hSf res es.size 0 _ #[] c1 rfl (Nat.zero_le _) hst hS1 (ItemsOf.nil _) fun s' acc' c' hm hS' hacc => ?_
    rw [Moved.eq_with hm]
    refine hR s'.heap d s'.toks acc' order c' (fun b o hb e => hm.heap b o (fun hmem => ?_) (hk2 b o hb e)) hS' hp ?_
    · rcases List.mem_cons.mp hmem with e' | hmem
      · exact hb e'
      · rw [List.mem_singleton.mp hmem] at e
        exact absurd (Heap.lt_size e) (Nat.not_lt.mpr hI)
    · apply List.ext_getElem?
      intro i
      rw [Array.getElem?_toList]
      cases q : acc'[i]? with
      | none =>
        have : acc'.size ≤ i := by
          rcases Nat.lt_or_ge i acc'.size with z | z
          · rw [Array.getElem?_eq_getElem z] at q; cases q
          · exact z
        rw [hacc.1] at this
        rw [List.getElem?_eq_none (by omega)]
      | some v => exact (hacc.2 i v q).symm
  refine wpAny_bind (wpAny_holding (hint_set (s := { s with heap := h', drawn := d }) (SetIs.typeIs (s := { s with heap := h', drawn := d }) (hS.hs.at fun o e => hk a o e)) ?_))
  have hS1 := hk _ _ hL
  refine wpAny_ite_split (fun _ => ?_) (fun _ => wpAny_pure ⟨plainId_quiet PySem.F.plain_extend_loop _, key _ c0 _ st (fun b o _ e => hk b o e) hS1⟩)
  refine wpAny_bind (wpAny_rule ?_)
  refine wpAny_bind ?_
  show wpAny _ _ (updateSeq S (·.push .none) >>= fun _ => updateSeq S (·.pop)) _ _ _
  refine wpAny_bind (wpAny_updateSeq hS1 rfl ?_)
  have hS2 := Heap.get?_update_self (Obj.mapSeq (·.push Value.none)) hS1 rfl
  refine wpAny_updateSeq (hz := by seq_fits) hS2 rfl ?_
  have hS3 := Heap.get?_update_self (Obj.mapSeq (·.pop)) hS2 rfl
  refine wpAny_pure ⟨plainId_quiet PySem.F.plain_extend_loop _, key _ _ _ ?_ (fun b o hb e => ?_) hS3⟩
  · refine W.frame 0 _ _ st fun b hb o e => ?_
    have hbS : b ≠ S := fun h => hSf (h ▸ hb)
    exact (Heap.get?_update_other _ _ (Ne.symm hbS)).trans ((Heap.get?_update_other _ _ (Ne.symm hbS)).trans e)
  · exact (Heap.get?_update_other _ _ (Ne.symm hb)).trans ((Heap.get?_update_other _ _ (Ne.symm hb)).trans (hk b o e))

theorem collect_set (hh : A.handled = none) {a : Addr} {es : Array (Int × Value)} {ep : Nat} {t : SetTable} {R : List Value → Shared → Prop} (hS : SI prog w s a es ep t) (hsz : es.size ≤ sizeLine)
    (h : ∀ h' d tk (order : List Value), s.heap.objs.size < h'.objs.size → (∀ b o, s.heap.get? b = some o → h'.get? b = some o) → List.Perm order (es.toList.map (·.2)) → R order { s with heap := h', toks := tk, drawn := d }) :
    wpAny (model prog w) A (collect (.ref a)) R E s := by
  have hlt : @LT.lt Nat _ a s.heap.objs.size := hS.hs.lt
  unfold collect
  refine wpAny_bind (wpAny_runValue (codeAny_builtin entry_proto_collect' ?_))
  rw [Around.under_plainId PySem.F.plain_proto_collect _]
  show wpAny _ A.in1 (newList [] >>= fun l => again (.builtin "list.__iadd__" ⟨[l, .ref a], []⟩)) _ _ s
  refine wpAny_bind (wpAny_newObj_type ?_)
  refine wpAny_pure ⟨plainId_quiet PySem.F.plain_list_iadd _, codeAny_builtin entry_list_iadd' ?_⟩
  rw [Around.under_plainId PySem.F.plain_list_iadd _]
  have hS1 : (s.heap.push { cls := .type "list", data := .seq ([] : List Value).toArray }).get? s.heap.objs.size = some { cls := .type "list", data := .seq #[] } := Heap.get?_push_size _ rfl
  show wpAny _ A.in1 (Builtin.List.listExtendWith (.ref s.heap.objs.size) (.ref a) (.ref s.heap.objs.size)) _ _ _
  have S' : SI prog w { s with heap := s.heap.push { cls := .type "list", data := .seq ([] : List Value).toArray } } a es ep t := ⟨hS.hs.at fun o e => Heap.get?_push_of_some _ e, hS.fit, hS.inv, hS.led⟩
  have key := extend_set (A := A) (R := fun (q : Result) (s' : Shared) => ∃ (h' : Heap) (d : Drawn) (tk : Nat) (acc : Array Value) (order : List Value) (c' : Nat), q = .ok (.ret (.ref s.heap.objs.size)) ∧ s' = { s with heap := h', toks := tk, drawn := d } ∧
      (∀ b o, s.heap.get? b = some o → h'.get? b = some o) ∧ h'.get? s.heap.objs.size = some { cls := .type "list", dict := none, data := .seq acc c', slots := #[] } ∧ List.Perm order (es.toList.map (·.2)) ∧ acc.toList = order)
    hh S' hsz (Nat.ne_of_gt hlt) (.ref s.heap.objs.size) 0 hS1
    (fun h' d tk acc order c' hk hL hp ha => ⟨h', d, tk, acc, order, c', rfl, rfl, fun b o e => hk b o (Nat.ne_of_lt (Heap.lt_size e)) (Heap.get?_push_of_some _ e), hL, hp, ha⟩)
  refine wpAny_mono key (fun fin s' x => ?_) fun e s' x => ?_
  · cases fin with
    | done f =>
      obtain ⟨h', d, tk, acc, order, c', e, rfl, hk, hL, hp, ha⟩ := x
      cases e
      show wpAny _ A (load s.heap.objs.size >>= _) _ _ _
      refine wpAny_bind (wpAny_load hL ?_)
      refine wpAny_pure ?_
      rw [ha]
      exact h h' d tk order (Heap.lt_size hL) hk hp
    | again c1 =>
      refine ⟨x.1, codeAny_mono x.2 fun q s2 y => ?_⟩
      obtain ⟨h', d, tk, acc, order, c', rfl, rfl, hk, hL, hp, ha⟩ := y
      show wpAny _ A (load s.heap.objs.size >>= _) _ _ _
      refine wpAny_bind (wpAny_load hL ?_)
      refine wpAny_pure ?_
      rw [ha]
      exact h h' d tk order (Heap.lt_size hL) hk hp
  · obtain ⟨_, _, _, _, _, _, e', _⟩ := x
    cases e'
theorem ints_perm : ∀ {us vs : List Value}, List.Perm us vs → ∀ {ns : List Int}, IntsAre vs ns → ∃ ms, IntsAre us ms ∧ List.Perm ms ns := by
  intro us vs hp
  induction hp with
  | nil => intro ns h; cases h; exact ⟨[], .nil, .nil⟩
  | cons x _ ih =>
    intro ns h
    cases h with
    | cons n t r =>
      obtain ⟨ms, h1, h2⟩ := ih r
      exact ⟨n :: ms, .cons n t h1, h2.cons _⟩
  | swap x y l =>
    intro ns h
    cases h with
    | cons n t r =>
      cases r with
      | cons n' t' r' => exact ⟨_, .cons _ _ (.cons _ _ r'), List.Perm.swap _ _ _⟩
  | trans _ _ ih1 ih2 =>
    intro ns h
    obtain ⟨ms, h1, h2⟩ := ih2 h
    obtain ⟨ms', h3, h4⟩ := ih1 h1
    exact ⟨ms', h3, h4.trans h2⟩
theorem sorted_set (hh : A.handled = none) {a : Addr} {es : Array (Int × Value)} {ep : Nat} {t : SetTable} {ns : List Int} {Q : Value → Shared → Prop} (hS : SI prog w s a es ep t) (hI : IntsAre (es.toList.map (·.2)) ns) (h64 : ns.length < 64)
    (h : ∀ (D : Addr) (h' : Heap) (d : Drawn) (tk : Nat) (out : Array Value) (ms : List Int) (c : Nat), s.heap.objs.size ≤ D → (∀ b o, s.heap.get? b = some o → h'.get? b = some o) → h'.get? D = some { cls := .type "list", data := .seq out c } → IntsAre out.toList ms → ms.Perm ns → ms.Pairwise (· ≤ ·) →
      Q (.ref D) { s with heap := h', toks := tk, drawn := d }) :
    wpAny (model prog w) A (call (.builtin "sorted") [.ref a]) Q E s := by
  have hl : es.size = ns.length := by rw [← IntsAre.length hI, List.length_map, Array.length_toList]
  have hsz : es.size ≤ sizeLine := by rw [hl, sizeLine_eq]; omega
  refine call_function_entry kind_sorted plain_sorted entry_sorted (args_sorted1 _) ?_
  unfold Builtin.«sorted»
  refine wpAny_bind (m := checkCount "sorted" 1 1 _) (wpAny_pure ?_)
  refine wpAny_bind (collect_set (A := A.in1) hh hS hsz fun h' d tk order hlt hk hp => ?_)
  obtain ⟨ms, hms, hmp⟩ := ints_perm hp hI
  have hol : order.length = ns.length := by rw [IntsAre.length hms, hmp.length_eq]
  refine wpAny_bind (wpAny_newList ?_ (by rw [hol, ← hl]; exact hsz))
  have hD : (h'.push (seqObj "list" order.toArray 0)).get? h'.objs.size = some (seqObj "list" order.toArray 0) := Heap.get?_push_size _ rfl
  refine wpAny_bind (wpAny_holding (wpAny_call_entry slot_list_sort ⟨_, hD, rfl⟩ entry_list_sort (list_sort_tree hD hms (by omega) fun out ms' a1 a2 a3 => ⟨_, rfl, ?_⟩) (args_list_sort _)))
  obtain ⟨c, hc⟩ := sortedHeap_at (out := out) hD
  refine wpAny_pure ⟨_, rfl, h h'.objs.size _ d tk out ms' c (Nat.le_of_lt hlt) (fun b o e => ?_) hc a1 (a2.trans hmp) a3⟩
  have hb := Heap.lt_size (hk b o e)
  rw [sortedHeap_old (Nat.ne_of_lt hb) (by rw [size_push']; exact Nat.lt_succ_of_lt hb)]
  exact Heap.get?_push_of_some _ (hk b o e)
end
end SF


namespace SF
open PySem PySem.Calls PyProof.Rows

/-- a set of ints, with what its walk asks -/
def SetL (prog : Program) (w : World) (h : Heap) (a : Addr) (us : List Int) : Prop :=
  ∃ es ep t, SetIs h a es ep t ∧ t.fits es.size = true ∧ TInv t ∧ (w.params.followText "set-order" = true ∨ t.led = true) ∧ ElemsOf (intKind prog w) es.toList ∧ IntsAre (es.toList.map (·.2)) us ∧ us.Nodup
theorem SetL.at {prog : Program} {w : World} {h h' : Heap} {a : Addr} {us : List Int} (x : SetL prog w h a us) (e : ∀ o, h.get? a = some o → h'.get? a = some o) : SetL prog w h' a us := by
  obtain ⟨es, ep, t, hs, r⟩ := x
  exact ⟨es, ep, t, hs.at e, r⟩
theorem ints_mem : ∀ {vs : List Value} {us : List Int} {k : Int}, IntsAre vs us → (k ∈ us ↔ ∃ v ∈ vs, Value.isInt k v = true)
  | _, _, k, .nil => by simp
  | _, _, k, .cons n t r => by
    have ih := ints_mem (k := k) r
    rw [List.mem_cons, ih]
    constructor
    · rintro (e | ⟨v, hv, e⟩)
      · subst e
        exact ⟨_, List.mem_cons_self, by simp [Value.isInt]⟩
      · exact ⟨v, List.mem_cons_of_mem _ hv, e⟩
    · rintro ⟨v, hv, e⟩
      rcases List.mem_cons.mp hv with z | z
      · subst z
        exact .inl (by have q : n = k := by simpa [Value.isInt] using e
                       exact q.symm)
      · exact .inr ⟨v, z, e⟩
theorem ints_snoc : ∀ {vs : List Value} {us : List Int} (k : Int) (t : Tok), IntsAre vs us → IntsAre (vs ++ [.int k t]) (us ++ [k])
  | _, _, k, t, .nil => .cons k t .nil
  | _, _, k, t, .cons n t' r => .cons n t' (ints_snoc k t r)
section
variable {prog : Program} {w : World} {A : Around} {E : Value → Shared → Prop} {s : Shared}

theorem store_L {h : Heap} {a : Addr} {es es' : Array (Int × Value)} {ep : Nat} {t t' : SetTable} {us : List Int} (hs : SetIs h a es ep t) (hf : t'.fits es'.size = true) (hi : TInv t') (hl : w.params.followText "set-order" = true ∨ t'.led = true)
    (hel : ElemsOf (intKind prog w) es'.toList) (hI : IntsAre (es'.toList.map (·.2)) us) (hn : us.Nodup) : SetIs (h.update a (Obj.putSet es' t')) a es' (ep + 1) t' ∧ SetL prog w (h.update a (Obj.putSet es' t')) a us := by
  obtain ⟨o, ho, hex, hd⟩ := hs
  have hg : (h.update a (Obj.putSet es' t')).get? a = some { o with data := .set es' (ep + 1) t' } := by
    have z := Heap.get?_update_self (Obj.putSet es' t') ho (by rw [putSet_of es' t' hd]; rfl)
    rw [putSet_of es' t' hd] at z
    exact z
  have q : SetIs (h.update a (Obj.putSet es' t')) a es' (ep + 1) t' := ⟨_, hg, hex, rfl⟩
  exact ⟨q, es', ep + 1, t', q, hf, hi, hl, hel, hI, hn⟩
theorem perm_push {es es' : Array (Int × Value)} {c : Int} {x : Value} (hp : List.Perm es'.toList (es.push (c, x)).toList) : List.Perm (es'.toList.map (·.2)) (es.toList.map (·.2) ++ [x]) := by
  refine (hp.map _).trans ?_
  rw [Array.toList_push, List.map_append]
  exact List.Perm.refl _
theorem off_inv {t : SetTable} (h : TInv t) : TInv { t with plain := false } := ⟨h.nod, fun z => by cases z⟩
theorem add_int {a : Addr} {us : List Int} {k : Int} {tk : Tok} {Q : Bool → Shared → Prop} (hS : SetL prog w s.heap a us) (hroom : us.length + 1 < scanBound)
    (h : ∀ (b : Bool) (h' : Heap) (us' : List Int), Heap.SameBut a s.heap h' → SetL prog w h' a us' → (∀ j, j ∈ us' ↔ j ∈ us ∨ j = k) → us'.length ≤ us.length + 1 → Q b { s with heap := h' }) :
    wpAny (model prog w) A (setAddHashed a (.int k tk) ((intKind prog w).hash k)) Q E s := by
  obtain ⟨es, ep, t, hs, hf, hi, hl, hel, hI, hn⟩ := id hS
  obtain ⟨o, ho, hex, hd⟩ := id hs
  have hsz : es.size = us.length := by rw [← IntsAre.length hI, List.length_map, Array.length_toList]
  have hmem : k ∈ us ↔ ∃ e ∈ es.toList, (intKind prog w).is k e.2 = true := by
    rw [ints_mem hI]
    constructor
    · rintro ⟨v, hv, e⟩
      obtain ⟨p, hp, rfl⟩ := List.mem_map.mp hv
      exact ⟨p, hp, e⟩
    · rintro ⟨p, hp, e⟩
      exact ⟨p.2, List.mem_map.mpr ⟨p, hp, rfl⟩, e⟩
  unfold setAddHashed setAddHashedIn
  refine wpAny_holding (wpAny_bind (wpAny_setState_of ho hd hf ?_))
  dsimp only
  rw [byScan_of (knd := intKind prog w) (x := .int k tk) rfl (by omega) hel]
  simp only [↓reduceIte]
  unfold setAddByScan
  refine wpAny_bind ?_
  refine wpAny_bind (wpAny_rule ?_)
  refine wpAny_bind (wpAny_setScan_of (knd := intKind prog w) (intKind_is _ _ _ _) ho hd hf hel ?_)
  cases hr : List.findIdx? (fun e => (intKind prog w).is k e.2) es.toList with
  | some j =>
    dsimp only
    obtain ⟨hj, hpj, _⟩ := List.findIdx?_eq_some_iff_getElem.mp hr
    have hk : k ∈ us := hmem.mpr ⟨es.toList[j], List.getElem_mem hj, hpj⟩
    refine wpAny_pure (wpAny_pure ?_)
    exact h false s.heap us (Heap.SameBut.refl a s.heap) hS (fun i => ⟨.inl, fun z => z.elim id fun e => e ▸ hk⟩) (Nat.le_succ _)
  | none =>
    dsimp only
    have hk : k ∉ us := fun z => by
      obtain ⟨e, he, q⟩ := hmem.mp z
      have := List.findIdx?_eq_none_iff.mp hr e he
      rw [q] at this
      cases this
    have hperm := layNew_perm t es ((intKind prog w).hash k) (.int k tk)
    have hfits := layNew_fits t es ((intKind prog w).hash k) (.int k tk)
    have hinv := layNew_inv es ((intKind prog w).hash k) (.int k tk) hi
    generalize hL : layNew t es ((intKind prog w).hash k) (.int k tk) = L at hperm hfits hinv ⊢
    obtain ⟨es1, t1, wd, gave⟩ := L
    dsimp only at hperm hfits hinv ⊢
    have hel1 : ElemsOf (intKind prog w) es1.toList := by
      have z := hperm
      rw [Array.toList_push] at z
      exact (hel.push (intKind_is _ _ _ _) rfl).perm z
    obtain ⟨us1, hI1, hp1⟩ := ints_perm (perm_push hperm) (ints_snoc k tk hI)
    have hn1 : us1.Nodup := hp1.nodup_iff.mpr (by
      rw [List.nodup_append]
      exact ⟨hn, by simp, fun x hx y hy => by rw [List.mem_singleton.mp hy]; rintro rfl; exact hk hx⟩)
    have hl1 : us1.length = us.length + 1 := by rw [hp1.length_eq, List.length_append]; rfl
    have hm1 : ∀ j, j ∈ us1 ↔ j ∈ us ∨ j = k := fun j => by rw [hp1.mem_iff, List.mem_append, List.mem_singleton]
    have hsz1 : es1.size = us1.length := by rw [← IntsAre.length hI1, List.length_map, Array.length_toList]
    have hb1 : es1.size < scanBound := by omega
    have hgw : ∀ (b : Bool) {s₁ : Shared} {Q' : Unit → Shared → Prop}, Q' () s₁ → wpAny (model prog w) A (match b with | true => rule "set.scan.the-table-gave-way" | false => pure ()) Q' E s₁ :=
      fun b s₁ Q' hq => by cases b <;> first | exact wpAny_pure hq | exact wpAny_rule hq
    refine wpAny_bind (hgw _ ?_)
    -- the store, and perhaps a table laid anew
    have tail : ∀ t2 : SetTable, t2.fits es1.size = true → TInv t2 → (w.params.followText "set-order" = true ∨ t2.led = true) → ∀ (g : Bool → Sem Unit) (wd' : Bool) (R : Option Bool → Shared → Prop),
        (∀ (b : Bool) (s₁ : Shared) (Q' : Unit → Shared → Prop), Q' () s₁ → wpAny (model prog w) A (g b) Q' E s₁) → (∀ h' us', Heap.SameBut a s.heap h' → SetL prog w h' a us' → us'.Perm us1 → R (some true) { s with heap := h' }) →
        wpAny (model prog w) A (storeSet a es1 t2 >>= fun _ => if (!wd' && t2.tooFull) = true then (g (relayAll t2 es1 (SetTable.grown es1.size)).2.2 >>= fun _ => storeSet a (relayAll t2 es1 (SetTable.grown es1.size)).1 (relayAll t2 es1 (SetTable.grown es1.size)).2.1 >>= fun _ => pure (some true)) else pure (some true)) R E s := by
      intro t2 f2 i2 l2 g wd' R hg hR
      refine wpAny_bind (wpAny_storeSet_of ho hd ?_ (fits_of_scanBound hb1))
      obtain ⟨q1, q2⟩ := store_L (prog := prog) (w := w) hs f2 i2 l2 hel1 hI1 hn1
      have sb1 := Heap.SameBut.update s.heap a (Obj.putSet es1 t2)
      split
      · have rp := relayAll_perm t2 es1 (SetTable.grown es1.size)
        have rf := relayAll_fits t2 es1 (SetTable.grown es1.size)
        have ri := relayAll_inv (t := t2) es1 (SetTable.grown es1.size)
        generalize relayAll t2 es1 (SetTable.grown es1.size) = Rl at rp rf ri ⊢
        obtain ⟨es2, t3, gave2⟩ := Rl
        dsimp only at rp rf ri ⊢
        obtain ⟨us2, hI2, hp2⟩ := ints_perm (rp.map (·.2)) hI1
        refine wpAny_bind (hg _ _ _ ?_)
        obtain ⟨o1, ho1, hex1, hd1⟩ := id q1
        have e2 : es2.size = es1.size := by rw [← Array.length_toList, rp.length_eq, Array.length_toList]
        refine wpAny_bind (wpAny_storeSet_of ho1 hd1 ?_ (fits_of_scanBound (by rw [e2]; exact hb1)))
        obtain ⟨_, q3⟩ := store_L (prog := prog) (w := w) q1 rf ri.1 (l2.imp id fun z => ri.2.trans z) (hel1.perm rp) hI2 (hp2.nodup_iff.mpr hn1)
        exact wpAny_pure (hR _ us2 (sb1.trans (Heap.SameBut.update _ a _)) q3 hp2)
      · exact wpAny_pure (hR _ us1 sb1 q2 (List.Perm.refl _))
    have fin : ∀ h' us', Heap.SameBut a s.heap h' → SetL prog w h' a us' → us'.Perm us1 → Q true { s with heap := h' } := fun h' us' x1 x2 x3 =>
      h true h' us' x1 x2 (fun j => by rw [x3.mem_iff]; exact hm1 j) (by rw [x3.length_eq, hl1]; exact Nat.le_refl _)
    have led1 : w.params.followText "set-order" = true ∨ t1.led = true := hl.imp id fun z => hinv.2.trans z
    split
    · refine wpAny_bind ?_
      rw [hashByValue_scannable 8 (x := .int k tk) rfl]
      refine wpAny_pure ?_
      refine tail _ ?_ ?_ ?_ _ wd _ ?_ fun h' us' x1 x2 x3 => ?_
      · split
        · exact hfits
        · exact SetTable.fits_plain_off hfits
      · split
        · exact hinv.1
        · exact off_inv hinv.1
      · split
        · exact led1
        · exact led1
      · intro b s₁ Q' hq; cases b <;> first | exact wpAny_pure hq | exact wpAny_rule hq
      · exact wpAny_pure (fin h' us' x1 x2 x3)
    · refine wpAny_bind (wpAny_pure ?_)
      simp only [↓reduceIte]
      refine tail _ hfits hinv.1 led1 _ wd _ ?_ fun h' us' x1 x2 x3 => ?_
      · intro b s₁ Q' hq; cases b <;> first | exact wpAny_pure hq | exact wpAny_rule hq
      · exact wpAny_pure (fin h' us' x1 x2 x3)
/-- set.update over a walk of ints -/
theorem update_loop {R : Result → Shared → Prop} {I : Addr} {fp wr : List Addr} {G : Array GenState → Array GenState → Prop} {n : Nat} {P : Nat → Value → Prop} {St : Nat → Shared → Prop} (W : WalksS prog w A.in1 I fp wr G n P St) (S : Addr) (hSf : S ∉ fp)
    (val : Nat → Int) (hval : ∀ i v, P i v → ∃ t, v = .int (val i) t) (hb : n + 1 < scanBound) :
    ∀ (k i : Nat) (s : Shared) (us : List Int), n - i = k → i ≤ n → St i s → SetL prog w s.heap S us → us.length ≤ i → (∀ j, j ∈ us ↔ ∃ m, m < i ∧ val m = j) →
      (∀ s' us', Moved (S :: wr) G s s' → SetL prog w s'.heap S us' → us'.length ≤ n → (∀ j, j ∈ us' ↔ ∃ m, m < n ∧ val m = j) → R (.ok (.ret .none)) s') →
      codeAny (model prog w) A (.builtin "set.update.loop" ⟨[.ref S, .ref I], []⟩) R s := by
  have hSw : S ∉ wr := fun h => hSf (W.sub _ h)
  have hsub : ∀ b ∈ wr, b ∈ S :: wr := fun b hb => List.mem_cons_of_mem _ hb
  intro k
  induction k with
  | zero =>
    intro i s us hk hi hst hS hlen hmem hR
    have hin : i = n := by omega
    subst hin
    refine codeAny_builtin PyProof.Rows.F.entry_set_update_loop ?_
    rw [Around.under_plainId PyProof.Rows.F.plain_set_update_loop _]
    show wpAny _ A.in1 (pyNext (.ref I) >>= _) _ _ s
    refine wpAny_bind (W.done s _ _ hst fun s' hm => ?_)
    show wpAny _ A.in1 (ret Value.none) _ _ s'
    exact wpAny_pure (hR s' us (hm.mono hsub) (hS.at fun o e => hm.heap S o hSw e) hlen hmem)
  | succ k ih =>
    intro i s us hk hi hst hS hlen hmem hR
    have hlt : i < n := by omega
    refine codeAny_builtin PyProof.Rows.F.entry_set_update_loop ?_
    rw [Around.under_plainId PyProof.Rows.F.plain_set_update_loop _]
    show wpAny _ A.in1 (pyNext (.ref I) >>= _) _ _ s
    refine wpAny_bind (W.item i s _ _ hlt hst fun v s' hP hst' hm => ?_)
    obtain ⟨t, rfl⟩ := hval i v hP
    have hS' : SetL prog w s'.heap S us := hS.at fun o e => hm.heap S o hSw e
    show wpAny _ A.in1 (holding [Value.int (val i) t] (setAdd S (.int (val i) t)) >>= _) _ _ s'
    refine wpAny_bind (wpAny_holding ?_)
    unfold setAdd
    refine wpAny_holding ?_
    refine wpAny_bind ((intKind prog w).pyHash (k := val i) (intKind_is _ _ _ _) ?_)
    refine add_int (s := { s' with toks := s'.toks + 1 }) hS' (by omega) fun b h' us' hsb hS2 hm2 hl2 => ?_
    refine wpAny_pure ⟨plainId_quiet PyProof.Rows.F.plain_set_update_loop _, ih (i + 1) _ us' (by omega) hlt (W.frame _ s' _ _ hst' (Nat.le_succ _) fun b hb o e => ?_) hS2 (by omega) (fun j => ?_) fun s'' us'' hm'' hS'' hl'' hmem'' => ?_⟩
    · rw [hsb.2 b (fun h : b = S => hSf (by rw [← h]; exact hb))]; exact e
    · rw [hm2, hmem]
      constructor
      · rintro (⟨m, h1, h2⟩ | e)
        · exact ⟨m, by omega, h2⟩
        · exact ⟨i, by omega, e.symm⟩
      · rintro ⟨m, h1, h2⟩
        rcases Nat.lt_or_ge m i with q | q
        · exact .inl ⟨m, q, h2⟩
        · have e : m = i := by omega
          subst e
          exact .inr h2.symm
    · refine hR s'' us'' (Moved.trans W.gtrans ((hm.mono hsub).then_heap (Nat.le_succ _) fun b o hb e => ?_) hm'') hS'' hl'' hmem''
      rw [hsb.2 b (fun h : b = S => hb (by rw [h]; exact List.mem_cons_self))]; exact e
theorem new_set (a : Value) {Q₁ : Value → Shared → Prop}
    (h : Q₁ (.ref s.heap.objs.size) { s with heap := s.heap.push { cls := .type "set", dict := none, data := .set #[] 0 (.fresh 0 0 (!w.params.followText "set-order")) } }) :
    codeAny (model prog w) A (.call (.builtin "set.__new__") ⟨[.type "set", a], []⟩) (wants Q₁ E) s := by
  refine codeAny_of_tree ?_
  show wpAny _ A.in1 (do checkBuiltinCall "set.__new__" ⟨[.type "set", a], []⟩; again (.builtin "set.__new__" ⟨[.type "set", a], []⟩)) _ _ s
  refine wpAny_bind (wpAny_of_eq (PySem.F.newCall_set_1 a) (wpAny_pure ⟨plainId_quiet PySem.F.plain_set_new _, codeAny_builtin PySem.F.entry_set_new ?_⟩))
  rw [Around.under_plainId PySem.F.plain_set_new _]
  unfold Builtin.«set.__new__» Builtin.Frozenset.newClass
  have hsub := sub_set_self
  obtain ⟨hp, g, d, tk, os⟩ := s
  dsimp only
  wp_walk
  refine wpAny_askSetting (wpAny_pure ?_)
  dsimp only
  simp only [newObj]
  refine wpAny_bind (wpAny_alloc (wpAny_pure ?_))
  exact wpAny_pure h
set_option maxHeartbeats 8000000 in
theorem call_set {l : Addr} {items : Array Value} {ns : List Int} {Q : Value → Shared → Prop} (hh : A.handled = none) (hl : s.heap.IsList l items) (hi : IntsAre items.toList ns) (hb : items.size + 1 < scanBound)
    (h : ∀ (h' : Heap) (tk : Nat) (us : List Int), SetL prog w h' s.heap.objs.size us → us.length ≤ ns.length → (∀ j, j ∈ us ↔ j ∈ ns) → (∀ b o, b < s.heap.objs.size → s.heap.get? b = some o → h'.get? b = some o) → Q (.ref s.heap.objs.size) { s with heap := h', toks := tk }) :
    wpAny (model prog w) A (call (.type "set") [.ref l]) Q E s := by
  obtain ⟨c, tl, hmro⟩ := PySem.F.called_set.mro
  have hmade := PySem.F.called_set.made
  have hsub := PySem.F.called_set.sub
  refine wpAny_call (codeAny_of_tree ?_)
  show wpAny _ _ (callAny (.type "set") _) _ _ _
  refine wpAny_pure ⟨Code.quiet_builtin _ (by decide +kernel), codeAny_builtin PySem.F.entry_type_call ?_⟩
  rw [Around.under_plain (weight_type_call_type "set" [.ref l] []) rfl]
  have h1 := PySem.F.called_set.notType
  have h2 := PySem.F.called_set.canCreate
  have hct := PySem.F.typeCall_set_1 (.ref l)
  generalize hled : (!w.params.followText "set-order") = led
  repeat (any_goals (first | assumption | wp_step))
  refine codeAny_mono (new_set (prog := prog) (w := w) (.ref l) (E := E) (Q₁ := fun obj s₁ => obj = .ref s.heap.objs.size ∧ s₁ = { s with heap := s.heap.push { cls := .type "set", dict := none, data := .set #[] 0 (.fresh 0 0 led) } }) (by rw [hled]; exact ⟨rfl, rfl⟩)) fun r s₁ hr => ?_
  have hld : w.params.followText "set-order" = true ∨ led = true := by
    cases q : w.params.followText "set-order" with
    | true => exact .inl rfl
    | false => rw [q] at hled; exact .inr hled.symm
  cases r with
  | error e => exact hr
  | ok fl =>
    cases fl with
    | next => exact hr.elim
    | brk => exact hr.elim
    | cont => exact hr.elim
    | ret obj =>
      obtain ⟨rfl, rfl⟩ := hr
      have hS : (s.heap.push { cls := .type "set", dict := none, data := .set #[] 0 (.fresh 0 0 led) }).get? s.heap.objs.size = some { cls := .type "set", dict := none, data := .set #[] 0 (.fresh 0 0 led) } := Heap.get?_push_size _ rfl
      have hT : Shared.TypeIs { s with heap := s.heap.push { cls := .type "set", dict := none, data := .set #[] 0 (.fresh 0 0 led) } } (.ref s.heap.objs.size) "set" := ⟨_, hS, rfl⟩
      have hli := PySem.F.called_set.init.lookup
      have hbi := PySem.F.called_set.init.bind (.ref s.heap.objs.size)
      repeat (any_goals (first | assumption | wp_step))
      refine codeAny_mono (codeAny_call_builtin (R := wants (fun r s₂ => r = .none ∧ ∃ h' tk us, s₂ = { s with heap := h', toks := tk } ∧ SetL prog w h' s.heap.objs.size us ∧ us.length ≤ ns.length ∧ (∀ j, j ∈ us ↔ j ∈ ns) ∧
          (∀ b o, b < s.heap.objs.size → s.heap.get? b = some o → h'.get? b = some o)) E) PySem.F.called_set.init.plain PySem.F.entry_set_init (check_set_init_1 hT ?_)) fun r₂ s₂ hr₂ => ?_
      · obtain ⟨ol, hol, hcl, nl, hdl⟩ := hl
        obtain ⟨ocls, odict, odata, oslots⟩ := ol
        simp only at hcl hdl
        subst hcl; subst hdl
        have hol' : (s.heap.push { cls := .type "set", dict := none, data := .set #[] 0 (.fresh 0 0 led) }).get? l = some { cls := .type "list", dict := odict, data := .seq items nl, slots := oslots } := Heap.get?_push_of_some _ hol
        have hsls := PySem.F.sub_list_set
        have hslf := PySem.F.sub_list_frozenset
        have hne : (Value.type "list" == Value.type "dict") = false := by decide
        have hl1 : (s.heap.push { cls := .type "set", dict := none, data := .set #[] 0 (.fresh 0 0 led) }).IsList l items := ⟨_, hol', rfl, nl, rfl⟩
        unfold Builtin.«set.__init__» noKeywords Builtin.Frozenset.updateFrom
        generalize hPI : pyIter = PI
        wp_walk
        subst hPI
        refine wpAny_pyIter_list hl1 ?_
        refine wpAny_bind (wpAny_runValue ?_)
        have hlS : l < s.heap.objs.size := Heap.lt_size hol
        have hh3 : A.in1.in1.in1.handled = none := by simp [hh]
        have hneI : l ≠ (s.heap.push { cls := .type "set", dict := none, data := .set #[] 0 (.fresh 0 0 led) }).objs.size := by
          rw [Heap.size_push]; exact Nat.ne_of_lt (Nat.lt_succ_of_lt hlS)
        have hSf : s.heap.objs.size ∉ [(s.heap.push { cls := .type "set", dict := none, data := .set #[] 0 (.fresh 0 0 led) }).objs.size, l] := by
          rw [Heap.size_push]; simp only [List.mem_cons, List.mem_singleton, List.not_mem_nil, or_false, not_or]
          exact ⟨Nat.ne_of_lt (Nat.lt_succ_self _), Nat.ne_of_gt hlS⟩
        have hval : ∀ (i : Nat) (v : Value), items[i]? = some v → ∃ t, v = .int ((fun i => ns.getD i 0) i) t := fun i v hv =>
          IntsAre.int_at hi i v (by rw [Array.getElem?_toList]; exact hv)
        have hnl : ns.length = items.size := by rw [← IntsAre.length hi, Array.length_toList]
        refine update_loop ((Walks.list hh3 _ l hneI items).toS) s.heap.objs.size hSf (fun i => ns.getD i 0) hval hb (items.size - 0) 0 _ [] (by omega) (Nat.zero_le _)
          ⟨⟨_, Heap.get?_push_size _ rfl, rfl, rfl⟩, (hl1.push _)⟩ ?hS0 (Nat.zero_le _) (fun j => by simp) ?hR
        case hS0 =>
          have hget : ((s.heap.push { cls := .type "set", dict := none, data := .set #[] 0 (.fresh 0 0 led) }).push { cls := .type "list_iterator", data := .fields #[.ref l, .int 0 0] }).get? s.heap.objs.size
              = some { cls := .type "set", dict := none, data := .set #[] 0 (.fresh 0 0 led) } := Heap.get?_push_of_some _ hS
          exact ⟨#[], 0, .fresh 0 0 led, ⟨_, hget, ⟨rfl, rfl, rfl⟩, rfl⟩, by rfl, ⟨rfl, fun _ i k _ hk => by simp [SetTable.fresh] at hk⟩, hld, fun e he => by simp at he, .nil, List.nodup_nil⟩
        case hR =>
          intro s' us hm hS' hlen hmem
          obtain ⟨h', g', d', tk', os'⟩ := s'
          have eg : g' = s.gens := hm.gens
          have ed : d' = s.drawn := hm.drawn
          have eo : os' = s.os := hm.os
          subst eg; subst ed; subst eo
          show wpAny _ _ _ _ _ _
          refine wpAny_pure ?_
          show wpAny _ _ (ret Value.none) _ _ _
          refine wpAny_pure ⟨rfl, h', tk', us, rfl, hS', by omega, fun j => ?_, fun b o hb e => ?_⟩
          · rw [hmem]
            constructor
            · rintro ⟨m, h1, h2⟩
              have hm' : m < ns.length := by omega
              rw [← h2]
              show ns.getD m 0 ∈ ns
              rw [List.getD_eq_getElem?_getD, List.getElem?_eq_getElem hm']
              exact List.getElem_mem hm'
            · intro hj
              obtain ⟨m, hm', e⟩ := List.getElem_of_mem hj
              refine ⟨m, by omega, ?_⟩
              show ns.getD m 0 = j
              rw [List.getD_eq_getElem?_getD, List.getElem?_eq_getElem hm']
              exact e
          have hb1 : b ≠ s.heap.objs.size := Nat.ne_of_lt hb
          have hb2 : b ≠ (s.heap.push { cls := .type "set", dict := none, data := .set #[] 0 (.fresh 0 0 led) }).objs.size := by
            rw [Heap.size_push]; exact Nat.ne_of_lt (Nat.lt_succ_of_lt hb)
          exact hm.heap b o (by simp only [List.mem_cons, List.mem_singleton, List.not_mem_nil, or_false, not_or]; exact ⟨hb1, hb2⟩) (Heap.get?_push_of_some _ (Heap.get?_push_of_some _ e))
      · cases r₂ with
        | error e => exact hr₂
        | ok fl₂ =>
          cases fl₂ with
          | ret r =>
            obtain ⟨rfl, h', tk, us, rfl, hS', h1', h2', hk'⟩ := hr₂
            repeat (any_goals (first | assumption | wp_step))
            exact h _ _ us hS' h1' h2' hk'
          | _ => exact hr₂.elim
end
end SF


namespace L2
open PySem PySem.Spec PyProof.Rows

/-! ### sets of ints: made of a list, sorted -/
def setO (P : Program) (w : World) (l : Addr) (us : List Int) : HO := .ext fun h => SF.SetL P w h l us
theorem SetL_there {P : Program} {w : World} {h : Heap} {l : Addr} {us : List Int} (x : SF.SetL P w h l us) : ∃ o, h.get? l = some o := by
  obtain ⟨_, _, _, ⟨o, ho, _⟩, _⟩ := x
  exact ⟨o, ho⟩
section
variable {X : Cx}
theorem call_set_of (hc : X.calm = true) : CallR X (.type "set") (fun xs H Q => ∃ (p : Addr) (ns : List Int), xs = [.ref p] ∧ SqL X.K H p (ns.map V.int) ∧ ns.length < 4000 ∧ ∀ (l : Addr) (us : List Int), H l = none → us.length ≤ ns.length → us.Nodup → (∀ j, j ∈ us ↔ j ∈ ns) → Q (.ref l) (upd H l (setO X.prog X.w l us))) := by
  intro pins s σ H xs us0 Q I r h
  obtain ⟨p, ns, rfl, hp, hz, q⟩ := h
  obtain ⟨u, rfl, ru⟩ := vals1 r
  cases ru
  obtain ⟨its, hv, pl, _⟩ := I.list hp
  have hi := intsAre_of hv
  have hl : its.length = ns.length := IntsAre.length hi
  refine SF.call_set (I.ok.hd hc) (items := its.toArray) (ns := ns) pl.isList (by simpa using hi) (by rw [List.size_toArray, hl]; unfold scanBound; omega) fun h' tk us hS h1 h2 hk => ?_
  have hn : us.Nodup := by obtain ⟨_, _, _, _, _, _, _, _, _, hn⟩ := hS; exact hn
  refine ⟨.ref s.heap.objs.size, upd H s.heap.objs.size (setO X.prog X.w s.heap.objs.size us), I.laid (fun b o e => hk b o (Heap.lt_size e) e) (Nat.le_refl _) ?_, rfl, q _ us I.fresh h1 hn h2⟩
  exact ⟨hS, SetL_there hS, fun h1 h2 x e => SF.SetL.at x e⟩
theorem call_sorted_of (hc : X.calm = true) : CallR X (.builtin "sorted") (fun xs H Q => ∃ (p : Addr) (us : List Int), xs = [.ref p] ∧ H p = some (setO X.prog X.w p us) ∧ us.length < 64 ∧ ∀ (l : Addr) (ms : List Int), H l = none → ms.Perm us → ms.Pairwise (· ≤ ·) → Q (.ref l) (upd H l (.lst (ms.map V.int)))) := by
  intro pins s σ H xs us0 Q I r h
  obtain ⟨p, us, rfl, hp, hz, q⟩ := h
  obtain ⟨u, rfl, ru⟩ := vals1 r
  cases ru
  obtain ⟨hS, _, _⟩ := (show ObjOk X.prog X.w H s.heap p (setO X.prog X.w p us) from I.hok p _ hp)
  obtain ⟨es, ep, t, a1, a2, a3, a4, a5, a6, a7⟩ := hS
  refine SF.sorted_set (I.ok.hd hc) (ns := us) ⟨a1, a2, a3, a4⟩ a6 hz fun D h' d tk out ms c hD hk hg hI hperm hpw => ?_
  have hl : ms.length < 64 := by rw [hperm.length_eq]; exact hz
  have nD : H D = none := I.hok.fresh hD
  have new : ObjOk X.prog X.w (upd H D (.lst (ms.map V.int))) h' D (.lst (ms.map V.int)) := ⟨by rw [List.length_map, sizeLine_eq]; omega, out.toList, c, vals_ints hI, by rw [hg]⟩
  refine ⟨.ref D, upd H D (.lst (ms.map V.int)), I.call (g' := s.gens) (d' := d) (t' := tk) (ch := []) (Un.laid hk hD nD) (I.hok.laid hk hD new) I.bare (fun b z => absurd z (by simp)), rfl, q D ms nD hperm hpw⟩
/-! ### isinstance against a built-in type -/
theorem call_isinst : CallR X (.builtin "isinstance") (fun xs H Q => ∃ (x : V) (n : String) (t : Value) (b : Bool), xs = [x, .ty n] ∧ TyOf X.K H x t ∧ PySem.W.kitOne X.K t (.type n) = some b ∧ Q (.bl b) H) := by
  intro pins s σ H xs us Q I r h
  obtain ⟨x, n, t, b, rfl, ht, hk, q⟩ := h
  obtain ⟨u, v, rfl, ru, rv⟩ := vals2 r
  cases rv
  exact isinst_ok I ru ht hk fun tk => ⟨.bl b, H, I.tok tk, rfl, q⟩
/-! ### lists that differ -/
end
end L2


namespace L2
open PySem PySem.Spec PyProof.Rows
section
variable {X : Cx}
end
end L2


namespace L2
open PySem PySem.W PySem.Spec PySem.Calls PyProof.Rows
/-! ### a dict keyed by None and ints, its values all True -/
section
variable {X : Cx} {pos pos' : Pos} {o i value : Expr} {td ty tv : TE}
/-! ### lists that are alike -/
end
end L2


namespace L2
open PySem PySem.Spec PyProof.Rows
section
variable {X : Cx} {pins : List (Addr × Obj)} {σ : St} {H : Hp} {s : Shared} {h' : Heap}
/-- records of ours have turned, and a new object came -/
theorem Inv.turnedNew {t' : Nat} {its : List Addr} {a : Addr} {o : HO} (I : Inv X pins σ H s) (k : ∀ b u, b ∉ its → s.heap.get? b = some u → h'.get? b = some u) (hf : ∀ b ∈ its, FpOk X pins H b)
    (hp : s.heap.objs.size ≤ a) (new : ObjOk X.prog X.w (upd H a o) h' a o) : Inv X pins σ (upd H a o) { s with heap := h', toks := t' } := by
  have hn : H a = none := I.hok.fresh hp
  have nit : ∀ b u, H b = some u → b ∉ its := fun b u e z => by rw [(hf b z).1] at e; cases e
  have nea : ∀ b u, s.heap.get? b = some u → b ≠ a := fun b u e => Nat.ne_of_lt (Nat.lt_of_lt_of_le (Heap.lt_size e) hp)
  refine I.step (g' := s.gens) (d' := s.drawn) (ch := its) (fun b hb => ?_) (fun b o _ _ hc e _ => k b o hc e) (fun b o _ _ hc e _ => ⟨o.slots, k b o hc e⟩) (fun b u _ e n => ?_)
    (fun b o hc e => ⟨o, k b o hc e⟩) (fun b xs e => ?_) (fun b u v e => ?_) (fun b ps e => ⟨#[], ?_⟩) (fun m hm => ?_) (fun b u e => ?_) I.bare
  · obtain ⟨_, f1, f2, f3, f4, f5⟩ := hf b hb
    exact ⟨f3, f1, f4, f5⟩
  · rw [upd_ne (nea b u e)]; exact n
  · rw [upd_ne (ne_of_none e hn)]; exact e
  · rw [upd_ne (ne_of_none e hn)]; exact e
  · rw [upd_ne (ne_of_none e hn), e]; simp
  · obtain ⟨o, es, ep, ho, r⟩ := hm
    exact ⟨o, es, ep, k _ o (fun z => (hf _ z).2.1 rfl) ho, r⟩
  · by_cases hb : b = a
    · subst hb
      rw [upd_same] at e
      cases e
      exact new
    · rw [upd_ne hb] at e
      refine (I.hok b u e).stay (fun c v hc q => k c v ?_ q) (fun c q => by rw [upd_ne (ne_of_none q hn)]; exact q) fun c xs q => by rw [upd_ne (ne_of_none q hn)]; exact q
      rcases hc with z | z
      · rw [z]; exact nit b u e
      · exact nit c _ z
/-- records of ours have turned -/
theorem Inv.turnedL {t' : Nat} {its : List Addr} (I : Inv X pins σ H s) (k : ∀ b u, b ∉ its → s.heap.get? b = some u → h'.get? b = some u) (hf : ∀ b ∈ its, FpOk X pins H b) : Inv X pins σ H { s with heap := h', toks := t' } := by
  have nit : ∀ b u, H b = some u → b ∉ its := fun b u e z => by rw [(hf b z).1] at e; cases e
  refine I.step (g' := s.gens) (d' := s.drawn) (ch := its) (fun b hb => ?_) (fun b o _ _ hc e _ => k b o hc e) (fun b o _ _ hc e _ => ⟨o.slots, k b o hc e⟩) (fun b u _ e n => n)
    (fun b o hc e => ⟨o, k b o hc e⟩) (fun b xs e => e) (fun b u v e => e) (fun b ps e => ⟨#[], by rw [e]; simp⟩) (fun m hm => ?_) (fun b u e => ?_) I.bare
  · obtain ⟨_, f1, f2, f3, f4, f5⟩ := hf b hb
    exact ⟨f3, f1, f4, f5⟩
  · obtain ⟨o, es, ep, ho, r⟩ := hm
    exact ⟨o, es, ep, k _ o (fun z => (hf _ z).2.1 rfl) ho, r⟩
  · refine (I.hok b u e).stay (fun c v hc q => k c v ?_ q) (fun _ q => q) fun _ _ q => q
    rcases hc with z | z
    · rw [z]; exact nit b u e
    · exact nit c _ z
end
/-- i and the list's item there, as a new pair -/
def Ite (K : PySem.W.Frag) (a : Addr) : It :=
  ⟨fun i H => ∃ xs x, SqL K H a xs ∧ xs[i]? = some x,
   fun i H x H' => ∃ t y, H t = none ∧ x = .ref t ∧ H' = upd H t (.tup [.int i, y]) ∧ ∀ xs, SqL K H a xs → xs[i]? = some y,
   fun i H => ∃ xs, SqL K H a xs ∧ xs.length ≤ i⟩
theorem turn_enum {P : Program} {w : World} {K : PySem.W.Frag} {elts : List Expr} {x1} {pos : Pos} (a e it : Addr) (hne : e ≠ it) :
    Turn P w K (.Tuple elts x1 pos) (Ite K a) [e, it] e (fun i h => (∃ old, IsEnum h e it i old) ∧ h.IsListIter it a i) where
  mem := by simp
  obj := fun i h st b hb => by
    obtain ⟨⟨old, he⟩, o, eo, c, d⟩ := st
    rcases List.mem_cons.mp hb with rfl | hb
    · exact ⟨_, he, fun v z => by
        have z' : Data.fields _ = Data.cell v := z
        cases z'⟩
    · rw [List.mem_singleton.mp hb]
      exact ⟨o, eo, fun v z => by rw [d] at z; cases z⟩
  keep := fun i h h' st k => ⟨st.1.elim fun old he => ⟨old, k e (by simp) _ he⟩, st.2.at fun o eo => k it (by simp) o eo⟩
  item := by
    intro X hP hw hK hc i pins s σ H E I hf st hg
    subst hP hw hK
    obtain ⟨xs, x, hq, hx⟩ := hg
    obtain ⟨⟨old, he⟩, hit⟩ := st
    obtain ⟨its, rv, p, hz⟩ := I.list hq
    obtain ⟨u, hu, ru⟩ := rv.get hx
    refine wpAny_pyNext_enum_item he hit p.isList (x := u) (by simpa using hu) hne fun h1 he1 hit1 ht1 hz1 k1 => ?_
    refine ⟨_, rfl, wpAny_letOwnedTupleGo_enum he1 fun h2 he2 hs2 => ?_⟩
    have hne2 : s.heap.objs.size ≠ e := Nat.ne_of_gt (Heap.lt_size he)
    have ht2 := (hs2.2 s.heap.objs.size hne2).trans ht1
    have hk : ∀ b o, b ∉ [e, it] → s.heap.get? b = some o → h2.get? b = some o := fun b o hb e' => by
      have hb' : b ≠ e ∧ b ≠ it := by simpa using hb
      exact (hs2.2 b hb'.1).trans (k1 b o hb'.1 hb'.2 e')
    have hfr : H s.heap.objs.size = none := I.hok.fresh (Nat.le_refl _)
    refine ⟨.ref s.heap.objs.size, upd H s.heap.objs.size (.tup [.int i, x]), I.turnedNew (t' := s.toks + 1) hk hf (Nat.le_refl _) ?_, rfl, ⟨_, x, hfr, rfl, rfl, fun ys hy => by rw [I.list_inj hy hq]; exact hx⟩, ⟨⟨u, ?_⟩, ?_⟩, fun b hb => ?_⟩
    · exact ⟨by show 2 ≤ sizeLine; decide, [.int i s.toks, u], .cons ⟨_, rfl⟩ (.cons ru .nil), ⟨_, ht2, rfl, _, rfl⟩⟩
    · exact he2
    · obtain ⟨o, e1, e2⟩ := hit1
      exact ⟨o, (hs2.2 it (Ne.symm hne)).trans e1, e2⟩
    · have : b ≠ s.heap.objs.size := by
        rcases List.mem_cons.mp hb with rfl | hb
        · exact Ne.symm hne2
        · rw [List.mem_singleton.mp hb]
          obtain ⟨o, e1, _⟩ := hit
          exact Nat.ne_of_lt (Heap.lt_size e1)
      rw [upd_ne this]
      exact (hf b hb).1
  done := by
    intro X hP hw hK hc i pins s σ H E I hf st hg
    subst hP hw hK
    obtain ⟨xs, hq, hx⟩ := hg
    obtain ⟨⟨old, he⟩, hit⟩ := st
    obtain ⟨its, rv, p, hz⟩ := I.list hq
    obtain ⟨f0, f1, f2, f3, f4, f5⟩ := hf it (by simp)
    have hl := rv.length
    exact wpAny_pyNext_enum_end (I.ok.hd hc) he hit p.isList (by simp; omega) fun h' eb => ⟨rfl, I.turned (t' := s.toks) (fun b o hb e => eb b o hb e) f0 f1 f3 f4 f5⟩
  self := fun _ _ _ _ _ st h => st.1.elim fun _ he => wpAny_pyIter_enum he h
section
variable {X : Cx}
def iEnum (K : PySem.W.Frag) (ta : TA) : TI := fun σ H R => ta σ H fun vs H1 => ∃ a, vs = [.ref a] ∧ (∃ xs, SqL K H1 a xs) ∧ R (Ite K a) H1
theorem bt_enum : bootBuiltins "enumerate" = some (.type "enumerate") := by decide +kernel
theorem pi_enum {a : Expr} {ta : TA} {p pos : Pos} {elts : List Expr} {x1} {tpos : Pos} (hg : Gl X "enumerate") (hm : X.mg "enumerate" = none) (ha : PA X [a] ta) (hs : starEach [a] X.env = [(false, eval a X.env)] := by rfl) :
    PI X (.Tuple elts x1 tpos) (.Call (.Name "enumerate" p) [a] [] pos) (iEnum X.K ta) := by
  intro pins s σ H R I h
  refine Call_ (ld_blt I hg hm bt_enum (PyProof.Rows.callWith_type1 (thn (ha pos pins s σ H _ I h) fun us s1 ⟨vs, H1, I1, r1, q1⟩ => ?_) hs rfl))
  obtain ⟨a, e, ⟨xs, hq⟩, q⟩ := q1
  subst e
  obtain ⟨u, rfl, ru⟩ := vals1 r1
  cases ru
  obtain ⟨its, rv, p, hz⟩ := I1.list hq
  refine call_enumerate_list p.isList fun h' he hit hsz hk => ?_
  refine wpAny_pyIter_enum he ?_
  refine ⟨s1.heap.objs.size + 1, [s1.heap.objs.size + 1, s1.heap.objs.size], _, _, H1, rfl, I1.kept (t' := s1.toks) hk, turn_enum a _ _ (Nat.succ_ne_self _), ⟨⟨_, he⟩, hit⟩, fun b hb => ?_, q⟩
  have hb' : s1.heap.objs.size ≤ b := by
    rcases List.mem_cons.mp hb with rfl | hb
    · exact Nat.le_succ _
    · rw [List.mem_singleton.mp hb]; exact Nat.le_refl _
  exact I1.fpOk hb' (I1.hok.fresh hb')
/-- over enumerate of a list that the body leaves as it is -/
theorem for_enum {K : PySem.W.Frag} {a : Addr} {xs : List V} {g : TG} {tb : TS} {D : Ends} {σ : St} {H : Hp} (Pv : Nat → St → Hp → Prop) (h0 : Pv 0 σ H) (hl : ∀ i σ H, i ≤ xs.length → Pv i σ H → SqL K H a xs)
    (hs : ∀ i x σ H t, xs[i]? = some x → H t = none → Pv i σ H → g (.ref t) σ (upd H t (.tup [.int i, x])) fun σ2 H2 => tb { D with nx := Pv (i + 1), ct := Pv (i + 1), bk := D.nx } σ2 H2) (hd : ∀ σ H, Pv xs.length σ H → D.nx σ H) :
    ∃ W : Nat → Nat → St → Hp → Prop, (∃ m, W 0 m σ H) ∧ ∀ i m σ H, W i m σ H →
      ((Ite K a).stop i H ∧ D.nx σ H) ∨ ((Ite K a).go i H ∧ ∃ N : St → Hp → Prop, (∀ σ' H', N σ' H' → ∃ m', m' < m ∧ W (i + 1) m' σ' H') ∧ ∀ x H', (Ite K a).yld i H x H' → g x σ H' fun σ2 H2 => tb { D with nx := N, ct := N, bk := D.nx } σ2 H2) := by
  refine ⟨fun i m σ H => m = xs.length - i ∧ i ≤ xs.length ∧ Pv i σ H, ⟨xs.length, by simp, Nat.zero_le _, h0⟩, ?_⟩
  rintro i m σ H ⟨rfl, hi, p⟩
  have q := hl i σ H hi p
  by_cases hlt : i < xs.length
  · refine .inr ⟨⟨xs, xs[i], q, by simp [hlt]⟩, Pv (i + 1), fun σ' H' p' => ⟨xs.length - (i + 1), by omega, rfl, hlt, p'⟩, fun x H' y => ?_⟩
    obtain ⟨t, y, hn, e1, e2, hy⟩ := y
    subst e1 e2
    exact hs i y σ _ t (hy xs q) hn p
  · have e : i = xs.length := by omega
    subst e
    exact .inl ⟨⟨xs, q, Nat.le_refl _⟩, hd σ H p⟩
end
end L2


namespace L2
open PySem PySem.W PySem.Spec PySem.Calls PyProof.Rows
/-! ### a dict that is walked: frozen while it is so -/
section
variable {X : Cx} {pins : List (Addr × Obj)} {σ : St} {H : Hp} {s : Shared} {a : Addr} {kvs : List (Key × V)}
end
section
variable {X : Cx}
/-! ### loops and comprehensions over them -/
end
end L2


namespace L2
open PySem PySem.W PySem.Spec PySem.Calls PyProof.Rows
/-! ### == of a list of ints, None, lists, tuples and dicts: what is alike -/
/-- the same scalar -/
def Scal (x : V) : Prop := x = .non ∨ (∃ i, x = .int i) ∨ ∃ t, x = .str t
theorem scal_at {A : Around} {s : Shared} {x : V} {u v : Value} (h : Scal x) (ru : RelV x u) (rv : RelV x v) : SeqAt.EqAt A s u v true := by
  rcases h with rfl | ⟨i, rfl⟩ | ⟨t, rfl⟩
  · have e1 : u = Value.none := ru
    have e2 : v = Value.none := rv
    subst e1 e2
    exact SeqAt.EqAt.same _
  · obtain ⟨t1, rfl⟩ := ru
    obtain ⟨t2, rfl⟩ := rv
    have := SeqAt.EqAt.int_int (A := A) (s := s) i t1 i t2
    rwa [beq_self_eq_true] at this
  · obtain ⟨t1, rfl⟩ := ru
    obtain ⟨t2, rfl⟩ := rv
    have := SeqAt.EqAt.str_str (A := A) (s := s) t t1 t t2
    rwa [beq_self_eq_true] at this
theorem all_true (n : Nat) : ((List.range n).all fun _ => true) = true := by simp
section
variable {X : Cx} {pins : List (Addr × Obj)} {σ : St} {H : Hp} {s : Shared} {A : Around}
end
end L2


namespace L2
open PySem PySem.W PySem.Spec PySem.Calls PyProof.Rows
section
variable {prog : Program} {w : World} {K : Type} [DecidableEq K] {knd : KeyKind prog w K} {A : Around} {R : Result → Shared → Prop}
end
end L2


namespace L2
open PySem PySem.W PySem.Spec PySem.Calls PyProof.Rows
/-! ### d.update(e): other keys -/
/-! ### x in range(n) -/
end L2


namespace L2
open PySem PySem.Spec PyProof.Rows
/-! ### the call of what an expression tells -/
section
variable {X : Cx} {k : Nat} {e a : Expr} {es : List Expr} {pos : Pos} {te : TE} {t : TA}
end
end L2


namespace L2
open PySem PySem.Spec PyProof.Rows
/-- a dict of the top, keyed by texts: what it holds at x -/
def KHas (K : PySem.W.Frag) (P : Params) (a : Addr) (x : Str) (r : Option V) : Prop :=
  ∃ (es : Array DictEntry) (n : Nat), K.lookup a = some ⟨.type "dict", none, .dict es n, #[]⟩ ∧ PySem.W.KeysLit P es.toList ∧ (a == sysModules) = false ∧ ∃ q, PySem.W.nsIn K a x = some q ∧ RelO r q
def tKGet (K : PySem.W.Frag) (P : Params) (td ty : TE) : TE := fun σ H Q => td σ H fun x H1 => ty σ H1 fun y H2 => ∃ a k v, x = .ref a ∧ y = .str k ∧ KHas K P a k (some v) ∧ Q v H2
section
variable {X : Cx} {o i : Expr} {pos : Pos} {td ty : TE}
theorem pe_kget (ho : PE X o td) (hi : PE X i ty) (hs : NoSl i) : PE X (.Subscript o i pos) (tKGet X.K X.w.params td ty) := by
  intro pins s σ H Q I h
  refine subD_of PySem.F.slot_dict_getitem.lookup hs (thn (ho pins s σ H _ I h) fun u s1 ⟨x, H1, I1, rx, q1⟩ => thn (hi pins s1 σ H1 _ I1 q1) fun iv s2 ⟨y, H2, I2, ry, a, k, v, ex, ey, g, q2⟩ => ?_)
  subst ex ey
  obtain rfl : u = Value.ref a := rx
  obtain ⟨t, rfl⟩ := ry
  obtain ⟨es, n, hl, hk, hm, q, hq, rq⟩ := g
  obtain ⟨w', hw, rw'⟩ := RelO.some_of (v := v) (o := q) rq
  subst hw
  have mo := PySem.W.mapOf_K (prog := X.prog) (w := X.w) I2.kIn hl hk
  exact ⟨mo.typeIs, wpAny_getItem_of (strKind_is X.prog X.w k t) mo (PySem.W.find_K hl hq) ⟨v, H2, I2.tok _, rw', q2⟩⟩
end
end L2


namespace L2
open PySem PySem.Spec PyProof.Rows
/-! ### d.get(k, x) of a dict of the top -/
section
variable {X : Cx} {o e f : Expr} {apos cpos : Pos} {td ty tx : TE}
end
end L2


namespace L2
open PySem PySem.Spec PyProof.Rows
/-! ### t * n -/
end L2


namespace L2
open PySem PySem.Spec PyProof.Rows
end L2


namespace L2
open PySem PySem.Spec PyProof.Rows
theorem rng_all {f : Nat → Bool} : ∀ (bs : List Bool), (∀ i b, bs[i]? = some b → f i = b) → (List.range bs.length).all f = bs.all id := by
  intro bs h
  rw [Bool.eq_iff_iff, List.all_eq_true, List.all_eq_true]
  constructor
  · intro k b hb
    obtain ⟨i, hi, e⟩ := List.getElem_of_mem hb
    have := k i (List.mem_range.mpr hi)
    rw [h i b (by rw [List.getElem?_eq_getElem hi, e])] at this
    exact this
  · intro k i hi
    have hi := List.mem_range.mp hi
    rw [h i bs[i] (List.getElem?_eq_getElem hi)]
    exact k _ (List.getElem_mem hi)
section
variable {X : Cx}
theorem bl_at {bs : List Bool} {its : List Value} (rv : Vals (bs.map V.bl) its) {i : Nat} {v : Value} (h : its.toArray[i]? = some v) : ∃ b, bs[i]? = some b ∧ v = .bool b := by
  have h : its[i]? = some v := by simpa using h
  have hl := rv.length
  rw [List.length_map] at hl
  have hi : i < bs.length := by
    rw [hl]
    exact (List.getElem?_eq_some_iff.mp h).1
  obtain ⟨u, hu, ru⟩ := rv.get (i := i) (x := V.bl bs[i]) (by rw [List.getElem?_map, List.getElem?_eq_getElem hi]; rfl)
  rw [h] at hu
  cases hu
  exact ⟨bs[i], List.getElem?_eq_getElem hi, ru⟩
theorem call_allB (hc : X.calm = true) : CallR X (.builtin "all") (fun xs H Q => ∃ (a : Addr) (bs : List Bool), xs = [.ref a] ∧ SqL X.K H a (bs.map V.bl) ∧ Q (.bl (bs.all id)) H) := by
  intro pins s σ H xs us Q I r h
  obtain ⟨a, bs, rfl, hq, q⟩ := h
  obtain ⟨u, rfl, ru⟩ := vals1 r
  cases ru
  obtain ⟨its, rv, p, hz⟩ := I.list hq
  have hl := p.isList
  have hlt : a < s.heap.objs.size := by obtain ⟨_, e, _⟩ := hl; exact Heap.lt_size e
  have hlen := rv.length
  rw [List.length_map] at hlen
  refine call_all_walk (wpAny_pyIter_list hl ?_)
  refine ⟨s.heap.objs.size, [s.heap.objs.size, a], [s.heap.objs.size], its.toArray.size, _, _, fun i => (bs[i]?).getD true, rfl, Walks.list (A := X.A.in1) (I.ok.hd hc) _ a (Nat.ne_of_lt hlt) its.toArray,
    ⟨⟨_, Heap.get?_push_size _ rfl, rfl, rfl⟩, hl.push _⟩, fun i v s' Q' E' hP hQ => ?_, fun h' tk hk => ?_⟩
  · obtain ⟨b, e, rfl⟩ := bl_at rv hP
    simp only [e, Option.getD_some] at hQ
    exact wpAny_truthy_bool hQ
  · rw [List.size_toArray, ← hlen, rng_all bs (fun i b e => by rw [e]; rfl)]
    exact ⟨.bl _, H, I.kept (t' := tk) (fun b x e => hk b x (fun hm => by rw [List.mem_singleton.mp hm] at e; exact Nat.lt_irrefl _ (Heap.lt_size e)) (Heap.get?_push_of_some _ e)), rfl, q⟩
end
end L2


namespace L2
open PySem PySem.Spec PyProof.Rows
section
variable {prog : Program} {w : World} {A : Around} {E : Value → Shared → Prop} {s : Shared}
theorem nxT_item {it t : Addr} {i : Nat} {els : Array Value} {x : Value} {Q : Value → Shared → Prop} (ti : s.heap.IsTupleIter it t i) (tt : s.heap.IsTuple t els) (gx : els[i]? = some x)
    (k : ∀ h', h'.IsTupleIter it t (i + 1) → Heap.SameBut it s.heap h' → Q x { s with heap := h' }) : wpAny (model prog w) A (Builtin.SmallTypes.nextOf (.ref it)) Q E s := by
  obtain ⟨o, go, gc, gd⟩ := id ti
  obtain ⟨ol, gol, _, nl, gdl⟩ := tt
  unfold Builtin.SmallTypes.nextOf
  refine wpAny_bind (wpAny_callSpecial?_slot (name := Str.ofString "__next__") ti.typeIs F.slot_tuple_iterator_next (wpAny_call_entry F.slot_tuple_iterator_next ti.typeIs F.entry_tuple_iterator_next ?_ (F.args_tuple_iterator_next_1 _)))
  show wpAny _ _ (field (.ref it) 0 >>= _) _ _ s; refine wpAny_bind (wpAny_field go gd (x := .ref t) rfl ?_)
  show wpAny _ _ (if (Value.ref t == Value.none) = true then _ else _) _ _ s; rw [if_neg (show ¬ ((Value.ref t == Value.none) = true) from Bool.false_ne_true)]
  show wpAny _ _ (field (.ref it) 1 >>= _) _ _ s; refine wpAny_bind (wpAny_field go gd (x := .int i 0) rfl ?_)
  show wpAny _ _ (seqItems? (.ref t) >>= _) _ _ s; refine wpAny_bind (wpAny_seqItems gol gdl ?_); simp only [Int.toNat_natCast, gx]
  refine wpAny_bind (wpAny_setField go gd (by simp) (wpAny_pure ⟨x, rfl, wpAny_pure (k _ ?_ (Heap.SameBut.update ..))⟩))
  exact ⟨_, Heap.get?_update_self _ go (Obj.isFreed_of_fields (Obj.data_mapFields gd _)), (Obj.cls_mapFields ..).trans gc, by rw [Obj.data_mapFields gd]; simp [rawInt]⟩
theorem nxT_end {it t : Addr} {i : Nat} {els : Array Value} {Q : Value → Shared → Prop} (hh : A.handled = none) (ti : s.heap.IsTupleIter it t i) (tt : s.heap.IsTuple t els) (gx : els[i]? = none)
    (k : ∀ h' e, Heap.ExtBut it s.heap h' → (∃ o, h'.get? e = some o ∧ o.cls = .type "StopIteration") → E (.ref e) { s with heap := h' }) : wpAny (model prog w) A (Builtin.SmallTypes.nextOf (.ref it)) Q E s := by
  obtain ⟨o, go, gc, gd⟩ := id ti
  obtain ⟨ol, gol, _, nl, gdl⟩ := tt
  unfold Builtin.SmallTypes.nextOf
  refine wpAny_bind (wpAny_callSpecial?_slot (name := Str.ofString "__next__") ti.typeIs F.slot_tuple_iterator_next (wpAny_call_entry F.slot_tuple_iterator_next ti.typeIs F.entry_tuple_iterator_next ?_ (F.args_tuple_iterator_next_1 _)))
  show wpAny _ _ (field (.ref it) 0 >>= _) _ _ s; refine wpAny_bind (wpAny_field go gd (x := .ref t) rfl ?_)
  show wpAny _ _ (if (Value.ref t == Value.none) = true then _ else _) _ _ s; rw [if_neg (show ¬ ((Value.ref t == Value.none) = true) from Bool.false_ne_true)]
  show wpAny _ _ (field (.ref it) 1 >>= _) _ _ s; refine wpAny_bind (wpAny_field go gd (x := .int i 0) rfl ?_)
  show wpAny _ _ (seqItems? (.ref t) >>= _) _ _ s; refine wpAny_bind (wpAny_seqItems gol gdl ?_); simp only [Int.toNat_natCast, gx]
  refine wpAny_bind (wpAny_rule (wpAny_bind (wpAny_setField go gd (by simp) ?_)))
  show wpAny _ _ (newExc (.type "StopIteration") [] >>= _) _ _ _; refine wpAny_bind ?_; simp only [newExc, newTuple]; refine wpAny_bind (wpAny_newObj_type ?_ (by size_fits))
  refine wpAny_bind (m := firstArgMember _ _) (wpAny_of_eq (a := Value.none) (by first | rfl | (simp only [firstArgMember]; rfl)) ?_); refine wpAny_newObj_type ?_ (by size_fits)
  simp only [raiseNew]; refine wpAny_bind (wpAny_handled ?_); (first | rw [show A.in1.handled = none from hh] | rw [hh]); refine wpAny_bind (wpAny_pure (wpAny_throw ?_))
  exact k _ _ (((Heap.SameBut.update ..).extBut.push _).push _) ⟨_, Heap.get?_push_size _ rfl, rfl⟩
theorem zipT_item {z TI TO i1 i2 l1 l2 : Addr} {k : Nat} {xs ys : Array Value} {x y a b : Value} {Q : Option Value → Shared → Prop} (D : ZipApart z TI TO i1 i2 l1 l2)
    (gz : IsZip s.heap z TI TO .none) (gI : IsPair s.heap TI (.ref i1) (.ref i2)) (gO : IsPair s.heap TO a b)
    (t1 : s.heap.IsTupleIter i1 l1 k) (t2 : s.heap.IsTupleIter i2 l2 k) (m1 : s.heap.IsTuple l1 xs) (m2 : s.heap.IsTuple l2 ys) (gx : xs[k]? = some x) (gy : ys[k]? = some y)
    (q : ∀ h', IsZip h' z TI TO (rawInt s.heap.objs.size) → IsPair h' TO x y → h'.IsTupleIter i1 l1 (k + 1) → h'.IsTupleIter i2 l2 (k + 1) → IsPair h' s.heap.objs.size x y → h'.objs.size = s.heap.objs.size + 1 →
      (∀ c o, c ≠ z → c ≠ TO → c ≠ i1 → c ≠ i2 → s.heap.get? c = some o → h'.get? c = some o) → Q (some (.ref s.heap.objs.size)) { s with heap := h' }) : wpAny (model prog w) A (pyNext (.ref z)) Q E s := by
  have hT : s.TypeIs (.ref z) "zip" := ⟨_, gz, rfl⟩
  unfold pyNext
  refine wpAny_bind (wpAny_attempt (wpAny_callSpecial?_slot (name := Str.ofString "__next__") hT F.slot_zip_next (wpAny_call_entry F.slot_zip_next hT F.entry_zip_next ?_ (F.args_zip_next_1 _))))
  show wpAny _ _ (field (.ref z) 2 >>= _) _ _ _; refine wpAny_bind (wpAny_field gz rfl (x := .bool false) rfl ?_)
  show wpAny _ _ (field (.ref z) 3 >>= _) _ _ _; refine wpAny_bind (wpAny_field gz rfl (x := .ref TI) rfl ?_); refine wpAny_bind (wpAny_seqItems gI rfl ?_)
  show wpAny _ _ (Builtin.SmallTypes.ownedTupleIsFree (.ref z) >>= _) _ _ _; refine wpAny_bind ?_; unfold Builtin.SmallTypes.ownedTupleIsFree
  refine wpAny_bind (wpAny_field gz rfl (x := .none) rfl (wpAny_pure ?_)); simp only [if_true]; refine wpAny_bind (wpAny_rule ?_); refine wpAny_bind (wpAny_field gz rfl (x := .ref TO) rfl ?_)
  refine wpAny_bind (wpAny_setField_rec gz (by simp) fun g1 z1 e1 => ?_); replace z1 : IsZip g1 z TI TO .ellipsis := z1; refine wpAny_bind ?_
  simp only [List.zipIdx_cons, List.zipIdx_nil, List.forIn_cons, List.forIn_nil]; refine wpAny_bind (wpAny_bind (wpAny_onRaise ?_))
  show wpAny _ _ (Builtin.SmallTypes.nextOf (.ref i1) >>= _) _ _ _; refine wpAny_bind (nxT_item (t1.extBut e1.extBut D.i1z) (m1.extBut e1.extBut D.l1z) gx fun g2 t1' e2 => wpAny_pure ?_)
  have o2 : IsPair g2 TO a b := e2.extBut _ _ D.TOi1 (e1.extBut _ _ D.TOz gO)
  refine wpAny_bind (wpAny_seqItems o2 rfl ?_); refine wpAny_bind (wpAny_updateSeq_pair o2 fun g3 o3 e3 => ?_); replace o3 : IsPair g3 TO x b := o3; refine wpAny_bind (wpAny_letGo (wpAny_pure ?_)); refine wpAny_bind (wpAny_bind (wpAny_onRaise ?_))
  show wpAny _ _ (Builtin.SmallTypes.nextOf (.ref i2) >>= _) _ _ _; refine wpAny_bind (nxT_item (((t2.extBut e1.extBut D.i2z).extBut e2.extBut D.i12.symm).extBut e3.extBut D.TOi2.symm) (((m2.extBut e1.extBut D.l2z).extBut e2.extBut D.l2i1).extBut e3.extBut D.l2TO) gy fun g4 t2' e4 => wpAny_pure ?_)
  have o4 : IsPair g4 TO x b := e4.extBut _ _ D.TOi2 o3
  refine wpAny_bind (wpAny_seqItems o4 rfl ?_); refine wpAny_bind (wpAny_updateSeq_pair o4 fun g5 o5 e5 => ?_); replace o5 : IsPair g5 TO x y := o5; refine wpAny_bind (wpAny_letGo (wpAny_pure (wpAny_pure ?_)))
  refine wpAny_bind (wpAny_seqItems o5 rfl ?_); refine wpAny_bind (wpAny_newTuple ?_)
  have sz : g5.objs.size = s.heap.objs.size := by rw [e5.1, e4.1, e3.1, e2.1, e1.1]
  have z5 : IsZip g5 z TI TO .ellipsis := e5.extBut _ _ D.TOz.symm (e4.extBut _ _ D.i2z.symm (e3.extBut _ _ D.TOz.symm (e2.extBut _ _ D.i1z.symm z1)))
  have kp : ∀ c o, c ≠ z → c ≠ TO → c ≠ i1 → c ≠ i2 → s.heap.get? c = some o → g5.get? c = some o := fun c o c1 c2 c3 c4 e => e5.extBut _ _ c2 (e4.extBut _ _ c4 (e3.extBut _ _ c2 (e2.extBut _ _ c3 (e1.extBut _ _ c1 e))))
  have u1 : g5.IsTupleIter i1 l1 (k + 1) := ((t1'.extBut e3.extBut D.TOi1.symm).extBut e4.extBut D.i12).extBut e5.extBut D.TOi1.symm
  have u2 : g5.IsTupleIter i2 l2 (k + 1) := t2'.extBut e5.extBut D.TOi2.symm
  have zl : z < g5.objs.size := Heap.lt_size z5
  show wpAny _ _ (Builtin.SmallTypes.ownedTupleHandOut (.ref z) (.ref g5.objs.size) >>= _) _ _ _; refine wpAny_bind ?_; unfold Builtin.SmallTypes.ownedTupleHandOut
  have z6 : IsZip (g5.push { cls := .type "tuple", data := .seq #[x, y] }) z TI TO .ellipsis := Heap.get?_push_of_some _ z5
  refine wpAny_bind (wpAny_setField_rec z6 (by simp) fun g7 z7 e7 => ?_); replace z7 : IsZip g7 z TI TO (rawInt g5.objs.size) := z7
  refine wpAny_setField_rec z7 (by simp) fun g8 z8 e8 => ?_; replace z8 : IsZip g8 z TI TO (rawInt g5.objs.size) := z8
  have up : ∀ c o, c ≠ z → g5.get? c = some o → g8.get? c = some o := fun c o c1 e => e8.extBut _ _ c1 (e7.extBut _ _ c1 (Heap.get?_push_of_some _ e))
  have n8 : IsPair g8 g5.objs.size x y := e8.extBut _ _ (Nat.ne_of_gt zl) (e7.extBut _ _ (Nat.ne_of_gt zl) (Heap.get?_push_size _ rfl))
  have s8 : g8.objs.size = g5.objs.size + 1 := by rw [e8.1, e7.1, Heap.size_push]
  rw [sz] at z8 n8 s8
  refine wpAny_pure ⟨.ref g5.objs.size, rfl, wpAny_pure ?_⟩
  rw [sz]
  exact q g8 z8 (up _ _ D.TOz o5) (u1.at fun o e => up _ o D.i1z e) (u2.at fun o e => up _ o D.i2z e) n8 s8 fun c o c1 c2 c3 c4 e => up c o c1 (kp c o c1 c2 c3 c4 e)
/-- the end where the first of the two ends -/
theorem zipT_end {z TI TO i1 i2 l1 l2 : Addr} {k : Nat} {xs : Array Value} {Q : Option Value → Shared → Prop} (hh : A.handled = none) (D : ZipApart z TI TO i1 i2 l1 l2)
    (gz : IsZip s.heap z TI TO .none) (gI : IsPair s.heap TI (.ref i1) (.ref i2)) (t1 : s.heap.IsTupleIter i1 l1 k) (m1 : s.heap.IsTuple l1 xs) (gx : xs[k]? = none)
    (q : ∀ h', (∀ c o, c ≠ z → c ≠ TO → c ≠ i1 → c ≠ i2 → s.heap.get? c = some o → h'.get? c = some o) → Q none { s with heap := h' }) : wpAny (model prog w) A (pyNext (.ref z)) Q E s := by
  have hT : s.TypeIs (.ref z) "zip" := ⟨_, gz, rfl⟩
  unfold pyNext
  refine wpAny_bind (wpAny_attempt (wpAny_callSpecial?_slot (name := Str.ofString "__next__") hT F.slot_zip_next (wpAny_call_entry F.slot_zip_next hT F.entry_zip_next ?_ (F.args_zip_next_1 _))))
  show wpAny _ _ (field (.ref z) 2 >>= _) _ _ _; refine wpAny_bind (wpAny_field gz rfl (x := .bool false) rfl ?_)
  show wpAny _ _ (field (.ref z) 3 >>= _) _ _ _; refine wpAny_bind (wpAny_field gz rfl (x := .ref TI) rfl ?_); refine wpAny_bind (wpAny_seqItems gI rfl ?_)
  show wpAny _ _ (Builtin.SmallTypes.ownedTupleIsFree (.ref z) >>= _) _ _ _; refine wpAny_bind ?_; unfold Builtin.SmallTypes.ownedTupleIsFree
  refine wpAny_bind (wpAny_field gz rfl (x := .none) rfl (wpAny_pure ?_)); simp only [if_true]; refine wpAny_bind (wpAny_rule ?_); refine wpAny_bind (wpAny_field gz rfl (x := .ref TO) rfl ?_)
  refine wpAny_bind (wpAny_setField_rec gz (by simp) fun g1 z1 e1 => ?_); replace z1 : IsZip g1 z TI TO .ellipsis := z1; refine wpAny_bind ?_
  simp only [List.zipIdx_cons, List.zipIdx_nil, List.forIn_cons, List.forIn_nil]; refine wpAny_bind (wpAny_bind (wpAny_onRaise ?_))
  show wpAny _ _ (Builtin.SmallTypes.nextOf (.ref i1) >>= _) _ _ _; refine wpAny_bind (nxT_end hh (t1.extBut e1.extBut D.i1z) (m1.extBut e1.extBut D.l1z) gx fun g2 e e2 he => ?_)
  obtain ⟨oe, hoe, hce⟩ := he
  have z2 : IsZip g2 z TI TO .ellipsis := e2 _ _ D.i1z.symm z1
  have ne : e ≠ z := fun x => by subst x; rw [z2] at hoe; cases hoe; simp at hce
  refine wpAny_setField_rec z2 (by simp) fun g3 _ e3 => ?_
  refine wpAny_bind (wpAny_isInstance (T := "StopIteration") (b := true) ⟨oe, e3.extBut _ _ ne hoe, hce⟩ isSubtype_stop ?_)
  exact wpAny_pure (q g3 fun c o c1 _ c3 _ x => e3.extBut _ _ c1 (e2 _ _ c3 (e1.extBut _ _ c1 x)))
end
end L2


namespace L2
open PySem PySem.Spec PyProof.Rows
abbrev zT1 (h : Heap) (a : Addr) : Heap := h.push { cls := .type "tuple_iterator", data := .fields #[.ref a, .int 0 0] }
abbrev zT2 (h : Heap) (a b : Addr) : Heap := (zT1 h a).push { cls := .type "tuple_iterator", data := .fields #[.ref b, .int 0 0] }
abbrev zT3 (h : Heap) (a b : Addr) : Heap := (zT2 h a b).push { cls := .type "tuple", data := .seq #[.ref h.objs.size, .ref (zT1 h a).objs.size] }
abbrev zT4 (h : Heap) (a b : Addr) : Heap := (zT3 h a b).push { cls := .type "tuple", data := .seq #[.none, .none] }
abbrev zT5 (h : Heap) (a b : Addr) : Heap := (zT4 h a b).push { cls := .type "zip", data := .fields #[.none, .bool false, .bool false, .ref (zT2 h a b).objs.size, .ref (zT3 h a b).objs.size] }
theorem mzT (a b : Addr) (xs ys : Array Value) : Meets (Builtin.«zip.__new__» ⟨[.type "zip", .ref a, .ref b], []⟩) (fun _ R s => s.heap.IsTuple a xs ∧ s.heap.IsTuple b ys ∧ R (.ok (.ret (.ref (zT4 s.heap a b).objs.size))) { s with heap := zT5 s.heap a b }) :=
  .of_wp fun prog w A R s h => by
    obtain ⟨hp, g, d, tk, os⟩ := s; obtain ⟨m1, m2, h⟩ := h
    have hsub := sub_zip
    have n1 : Heap.IsTuple (Shared.heap ⟨hp, g, d, tk, os⟩) a xs := m1
    have n2 : Heap.IsTuple (Shared.heap ⟨hp.push { cls := .type "tuple_iterator", data := .fields #[.ref a, .int 0 0] }, g, d, tk, os⟩) b ys := Heap.IsTuple.push m2 _
    wp_walk using wpAny_pyIter_tuple n1, wpAny_pyIter_tuple n2
    exact ⟨_, rfl, h⟩
section
variable {prog : Program} {w : World} {A : Around} {E : Value → Shared → Prop} {s : Shared}
theorem call_zipT {a b : Addr} {xs ys : Array Value} {Q : Value → Shared → Prop} (m1 : s.heap.IsTuple a xs) (m2 : s.heap.IsTuple b ys)
    (h : ∀ h', IsZip h' (s.heap.objs.size + 4) (s.heap.objs.size + 2) (s.heap.objs.size + 3) .none → IsPair h' (s.heap.objs.size + 2) (.ref s.heap.objs.size) (.ref (s.heap.objs.size + 1)) →
      IsPair h' (s.heap.objs.size + 3) .none .none → h'.IsTupleIter s.heap.objs.size a 0 → h'.IsTupleIter (s.heap.objs.size + 1) b 0 → (∀ c o, s.heap.get? c = some o → h'.get? c = some o) → Q (.ref (s.heap.objs.size + 4)) { s with heap := h' }) :
    wpAny (model prog w) A (call (.type "zip") [.ref a, .ref b]) Q E s := by
  refine callType_new F.called_zip (by decide) (F.typeCall_zip_2 _ _) (F.newCall_zip_2 _ _) (fun obj => F.args_object_init_3 obj _ _) F.entry_zip_new (mzT a b xs ys) ⟨m1, m2, ?_⟩
  have z1 : (zT1 s.heap a).objs.size = s.heap.objs.size + 1 := Heap.size_push ..
  have z2 : (zT2 s.heap a b).objs.size = s.heap.objs.size + 2 := by rw [Heap.size_push, z1]
  have z3 : (zT3 s.heap a b).objs.size = s.heap.objs.size + 3 := by rw [Heap.size_push, z2]
  have z4 : (zT4 s.heap a b).objs.size = s.heap.objs.size + 4 := by rw [Heap.size_push, z3]
  have g5 : (zT5 s.heap a b).get? (zT4 s.heap a b).objs.size = some _ := Heap.get?_push_size _ rfl
  have g4 : (zT5 s.heap a b).get? (zT3 s.heap a b).objs.size = some _ := Heap.get?_push_of_some _ (Heap.get?_push_size _ rfl)
  have g3 : (zT5 s.heap a b).get? (zT2 s.heap a b).objs.size = some _ := Heap.get?_push_of_some _ (Heap.get?_push_of_some _ (Heap.get?_push_size _ rfl))
  have g2 : (zT5 s.heap a b).get? (zT1 s.heap a).objs.size = some _ := Heap.get?_push_of_some _ (Heap.get?_push_of_some _ (Heap.get?_push_of_some _ (Heap.get?_push_size _ rfl)))
  have g1 : (zT5 s.heap a b).get? s.heap.objs.size = some _ := Heap.get?_push_of_some _ (Heap.get?_push_of_some _ (Heap.get?_push_of_some _ (Heap.get?_push_of_some _ (Heap.get?_push_size _ rfl))))
  show _ ∧ _
  rw [z2, z3, z4] at g5
  rw [z1, z2] at g3
  rw [z3] at g4
  rw [z1] at g2
  rw [z4]
  refine ⟨⟨_, g5, rfl⟩, h _ g5 g3 g4 ⟨_, g1, rfl, rfl⟩ ⟨_, g2, rfl, rfl⟩ fun c o x => ?_⟩
  exact Heap.get?_push_of_some _ (Heap.get?_push_of_some _ (Heap.get?_push_of_some _ (Heap.get?_push_of_some _ (Heap.get?_push_of_some _ x))))
end
/-- the items of two tuples, as new pairs; the first one's length counts -/
def Itz (K : PySem.W.Frag) (a b : Addr) : It :=
  ⟨fun i H => ∃ xs x ys y, SqT K H a xs ∧ xs[i]? = some x ∧ SqT K H b ys ∧ ys[i]? = some y,
   fun i H v H' => ∃ t x y, H t = none ∧ v = .ref t ∧ H' = upd H t (.tup [x, y]) ∧ (∀ xs, SqT K H a xs → xs[i]? = some x) ∧ ∀ ys, SqT K H b ys → ys[i]? = some y,
   fun i H => ∃ xs, SqT K H a xs ∧ xs.length ≤ i⟩
theorem turn_zip {P : Program} {w : World} {K : PySem.W.Frag} {elts : List Expr} {x1} {pos : Pos} (a b z TI TO i1 i2 : Addr) (D : ZipApart z TI TO i1 i2 a b) :
    Turn P w K (.Tuple elts x1 pos) (Itz K a b) [z, TI, TO, i1, i2] z (fun i h => IsZip h z TI TO .none ∧ IsPair h TI (.ref i1) (.ref i2) ∧ (∃ u v, IsPair h TO u v) ∧ h.IsTupleIter i1 a i ∧ h.IsTupleIter i2 b i) where
  mem := by simp
  obj := fun i h st c hc => by
    obtain ⟨s1, s2, ⟨u, v, s3⟩, ⟨o4, s4, _, d4⟩, ⟨o5, s5, _, d5⟩⟩ := st
    have hc' : c = z ∨ c = TI ∨ c = TO ∨ c = i1 ∨ c = i2 := by simpa using hc
    rcases hc' with rfl | rfl | rfl | rfl | rfl
    · exact ⟨_, s1, fun v q => by have q' : Data.fields _ = Data.cell v := q; cases q'⟩
    · exact ⟨_, s2, fun v q => by have q' : Data.seq _ _ = Data.cell v := q; cases q'⟩
    · exact ⟨_, s3, fun v q => by have q' : Data.seq _ _ = Data.cell v := q; cases q'⟩
    · exact ⟨o4, s4, fun v q => by rw [d4] at q; cases q⟩
    · exact ⟨o5, s5, fun v q => by rw [d5] at q; cases q⟩
  keep := fun i h h' st k => ⟨k z (by simp) _ st.1, k TI (by simp) _ st.2.1, st.2.2.1.elim fun u q => q.elim fun v q => ⟨u, v, k TO (by simp) _ q⟩, st.2.2.2.1.at fun o e => k i1 (by simp) o e, st.2.2.2.2.at fun o e => k i2 (by simp) o e⟩
  item := by
    intro X hP hw hK hc i pins s σ H E I hf st hg
    subst hP hw hK
    obtain ⟨xs, x, ys, y, hq, hx, hq2, hy⟩ := hg
    obtain ⟨s1, s2, ⟨u, v, s3⟩, s4, s5⟩ := st
    obtain ⟨its, rv, p, hz⟩ := I.tuple hq
    obtain ⟨its2, rv2, p2, hz2⟩ := I.tuple hq2
    obtain ⟨ux, hux, rux⟩ := rv.get hx
    obtain ⟨uy, huy, ruy⟩ := rv2.get hy
    refine zipT_item D s1 s2 s3 s4 s5 (show s.heap.IsTuple a its.toArray from p) (show s.heap.IsTuple b its2.toArray from p2) (x := ux) (y := uy) (by simpa using hux) (by simpa using huy) fun h1 a1 a2 a3 a4 a5 a6 k1 => ?_
    refine ⟨_, rfl, wpAny_letOwnedTupleGo_zip a1 fun h2 b1 b2 => ?_⟩
    have nz : s.heap.objs.size ≠ z := Nat.ne_of_gt (Heap.lt_size s1)
    have ht2 := (b2.2 s.heap.objs.size nz).trans a5
    have hk : ∀ c o, c ∉ [z, TO, i1, i2] → s.heap.get? c = some o → h2.get? c = some o := fun c o hb e' => by
      have hb' : c ≠ z ∧ c ≠ TO ∧ c ≠ i1 ∧ c ≠ i2 := by simpa using hb
      exact (b2.2 c hb'.1).trans (k1 c o hb'.1 hb'.2.1 hb'.2.2.1 hb'.2.2.2 e')
    have hfr : H s.heap.objs.size = none := I.hok.fresh (Nat.le_refl _)
    refine ⟨.ref s.heap.objs.size, upd H s.heap.objs.size (.tup [x, y]), I.turnedNew (t' := s.toks) hk (fun c hc => hf c (by simp at hc ⊢; rcases hc with q | q | q | q <;> simp [q])) (Nat.le_refl _) ?_, rfl,
      ⟨_, x, y, hfr, rfl, rfl, fun zs hy' => by rw [I.tuple_inj hy' hq]; exact hx, fun zs hy' => by rw [I.tuple_inj hy' hq2]; exact hy⟩, ⟨b1, ?_, ⟨ux, uy, ?_⟩, a3.at fun o e => (b2.2 i1 D.i1z).trans e, a4.at fun o e => (b2.2 i2 D.i2z).trans e⟩, fun c hc => ?_⟩
    · exact ⟨by show 2 ≤ sizeLine; decide, [ux, uy], .cons rux (.cons ruy .nil), ⟨_, ht2, rfl, _, rfl⟩⟩
    · exact hk TI _ (by simp [D.TIz, D.TITO, D.TIi1, D.TIi2]) s2
    · exact (b2.2 TO D.TOz).trans a2
    · have : c ≠ s.heap.objs.size := by
        have hc' : c = z ∨ c = TI ∨ c = TO ∨ c = i1 ∨ c = i2 := by simpa using hc
        rcases hc' with rfl | rfl | rfl | rfl | rfl
        · exact Ne.symm nz
        · exact Nat.ne_of_lt (Heap.lt_size s2)
        · exact Nat.ne_of_lt (Heap.lt_size s3)
        · obtain ⟨o, e1, _⟩ := s4; exact Nat.ne_of_lt (Heap.lt_size e1)
        · obtain ⟨o, e1, _⟩ := s5; exact Nat.ne_of_lt (Heap.lt_size e1)
      rw [upd_ne this]
      exact (hf c hc).1
  done := by
    intro X hP hw hK hc i pins s σ H E I hf st hg
    subst hP hw hK
    obtain ⟨xs, hq, hx⟩ := hg
    obtain ⟨s1, s2, s3, s4, s5⟩ := st
    obtain ⟨its, rv, p, hz⟩ := I.tuple hq
    have hl := rv.length
    exact zipT_end (I.ok.hd hc) D s1 s2 s4 (show s.heap.IsTuple a its.toArray from p) (by simp; omega) fun h' eb => ⟨rfl, I.turnedL (t' := s.toks) (its := [z, TO, i1, i2]) (fun c o hb e => by
      have hb' : c ≠ z ∧ c ≠ TO ∧ c ≠ i1 ∧ c ≠ i2 := by simpa using hb
      exact eb c o hb'.1 hb'.2.1 hb'.2.2.1 hb'.2.2.2 e) (fun c hc => hf c (by simp at hc ⊢; rcases hc with q | q | q | q <;> simp [q]))⟩
  self := fun _ _ _ _ _ st h => wpAny_pyIter_zip st.1 h
section
variable {X : Cx}
def iZip (K : PySem.W.Frag) (ta : TA) : TI := fun σ H R => ta σ H fun vs H1 => ∃ a b, vs = [.ref a, .ref b] ∧ (∃ xs, SqT K H1 a xs) ∧ (∃ ys, SqT K H1 b ys) ∧ R (Itz K a b) H1
theorem bt_zip : bootBuiltins "zip" = some (.type "zip") := by decide +kernel
theorem pi_zip {a b : Expr} {ta : TA} {p pos : Pos} {elts : List Expr} {x1} {tpos : Pos} (hg : Gl X "zip") (hm : X.mg "zip" = none) (ha : PA X [a, b] ta)
    (hs : starEach [a, b] X.env = [(false, eval a X.env), (false, eval b X.env)] := by rfl) (hs2 : starEach [b] X.env = [(false, eval b X.env)] := by rfl) : PI X (.Tuple elts x1 tpos) (.Call (.Name "zip" p) [a, b] [] pos) (iZip X.K ta) := by
  intro pins s σ H R I h
  refine Call_ (ld_blt I hg hm bt_zip (PyProof.Rows.callWith_type1 (thn (ha pos pins s σ H _ I h) fun us s1 ⟨vs, H1, I1, r1, q1⟩ => ?_) (by rw [hs, hs2]) (by rw [hs2]; rfl)))
  obtain ⟨a, b, e, ⟨xs, hq⟩, ⟨ys, hq2⟩, q⟩ := q1
  subst e
  obtain ⟨u, v, rfl, ru, rv⟩ := vals2 r1
  cases ru
  cases rv
  obtain ⟨its, rv, p, hz⟩ := I1.tuple hq
  obtain ⟨its2, rv2, p2, hz2⟩ := I1.tuple hq2
  have la : a < s1.heap.objs.size := by obtain ⟨o, e, _⟩ := p; exact Heap.lt_size e
  have lb : b < s1.heap.objs.size := by obtain ⟨o, e, _⟩ := p2; exact Heap.lt_size e
  refine call_zipT (show s1.heap.IsTuple a its.toArray from p) (show s1.heap.IsTuple b its2.toArray from p2) fun h' g1 g2 g3 g4 g5 hk => ?_
  refine wpAny_pyIter_zip g1 ?_
  have D : ZipApart (s1.heap.objs.size + 4) (s1.heap.objs.size + 2) (s1.heap.objs.size + 3) s1.heap.objs.size (s1.heap.objs.size + 1) a b := PySem.W.ktu_apart _ _ _ la lb
  refine ⟨s1.heap.objs.size + 4, [s1.heap.objs.size + 4, s1.heap.objs.size + 2, s1.heap.objs.size + 3, s1.heap.objs.size, s1.heap.objs.size + 1], _, _, H1, rfl, I1.kept (t' := s1.toks) hk, turn_zip a b _ _ _ _ _ D, ⟨g1, g2, ⟨_, _, g3⟩, g4, g5⟩, fun c hc => ?_, q⟩
  have hc' : s1.heap.objs.size ≤ c := by
    have hc' : c = s1.heap.objs.size + 4 ∨ c = s1.heap.objs.size + 2 ∨ c = s1.heap.objs.size + 3 ∨ c = s1.heap.objs.size ∨ c = s1.heap.objs.size + 1 := by simpa using hc
    rcases hc' with q | q | q | q | q <;> rw [q]
    · exact Nat.le_add_right _ _
    · exact Nat.le_add_right _ _
    · exact Nat.le_add_right _ _
    · exact Nat.le_refl _
    · exact Nat.le_add_right _ _
  exact I1.fpOk hc' (I1.hok.fresh hc')
end
end L2


namespace L2
open PySem PySem.Spec PyProof.Rows
theorem comp_tup {K : PySem.W.Frag} {a : Addr} {xs : List V} {g : TG} {tt : TT} {te : TE} {R : Hp → Prop} {D : Addr} {σ0 : St} {H0 : Hp} (Pv : Nat → St → List V → Hp → Prop) (h0 : Pv 0 σ0 [] H0) (hl : ∀ i σ ys H, i ≤ xs.length → Pv i σ ys H → SqT K H a xs)
    (hs : ∀ i x σ ys H, xs[i]? = some x → Pv i σ ys H → g x σ H fun σ2 H2 => tt σ2 H2 fun b H3 =>
      if b = true then te σ2 H3 fun v H4 => H4 D = some (.lst ys) ∧ ys.length < sizeLine ∧ Pv (i + 1) σ2 (ys ++ [v]) (upd H4 D (.lst (ys ++ [v]))) else Pv (i + 1) σ2 ys H3)
    (hd : ∀ σ ys H, Pv xs.length σ ys H → R H) :
    ∃ W : Nat → Nat → St → List V → Hp → Prop, (∃ m, W 0 m σ0 [] H0) ∧ ∀ i m σ ys H, W i m σ ys H →
      ((Itt K a).stop i H ∧ R H) ∨ ((Itt K a).go i H ∧ ∃ N : St → List V → Hp → Prop, (∀ σ' ys' H', N σ' ys' H' → ∃ m', m' < m ∧ W (i + 1) m' σ' ys' H') ∧ ∀ x H', (Itt K a).yld i H x H' → g x σ H' fun σ2 H2 => tt σ2 H2 fun b H3 =>
        if b = true then te σ2 H3 fun v H4 => H4 D = some (.lst ys) ∧ ys.length < sizeLine ∧ N σ2 (ys ++ [v]) (upd H4 D (.lst (ys ++ [v]))) else N σ2 ys H3) := by
  refine ⟨fun i m σ ys H => m = xs.length - i ∧ i ≤ xs.length ∧ Pv i σ ys H, ⟨xs.length, by simp, Nat.zero_le _, h0⟩, ?_⟩
  rintro i m σ ys H ⟨rfl, hi, p⟩
  have q := hl i σ ys H hi p
  by_cases hlt : i < xs.length
  · refine .inr ⟨⟨xs, xs[i], q, by simp [hlt]⟩, Pv (i + 1), fun σ' ys' H' p' => ⟨xs.length - (i + 1), by omega, rfl, hlt, p'⟩, fun x H' y => ?_⟩
    obtain ⟨e, y⟩ := y
    subst e
    exact hs i x σ ys _ (y xs q) p
  · have e : i = xs.length := by omega
    subst e
    exact .inl ⟨⟨xs, q, Nat.le_refl _⟩, hd σ ys H p⟩
theorem comp_zip {K : PySem.W.Frag} {a b : Addr} {xs zs : List V} {g : TG} {tt : TT} {te : TE} {R : Hp → Prop} {D : Addr} {σ0 : St} {H0 : Hp} (hlen : xs.length = zs.length) (Pv : Nat → St → List V → Hp → Prop) (h0 : Pv 0 σ0 [] H0)
    (hl : ∀ i σ ys H, i ≤ xs.length → Pv i σ ys H → SqT K H a xs ∧ SqT K H b zs)
    (hs : ∀ i x z σ ys H t, xs[i]? = some x → zs[i]? = some z → H t = none → Pv i σ ys H → g (.ref t) σ (upd H t (.tup [x, z])) fun σ2 H2 => tt σ2 H2 fun c H3 =>
      if c = true then te σ2 H3 fun v H4 => H4 D = some (.lst ys) ∧ ys.length < sizeLine ∧ Pv (i + 1) σ2 (ys ++ [v]) (upd H4 D (.lst (ys ++ [v]))) else Pv (i + 1) σ2 ys H3)
    (hd : ∀ σ ys H, Pv xs.length σ ys H → R H) :
    ∃ W : Nat → Nat → St → List V → Hp → Prop, (∃ m, W 0 m σ0 [] H0) ∧ ∀ i m σ ys H, W i m σ ys H →
      ((Itz K a b).stop i H ∧ R H) ∨ ((Itz K a b).go i H ∧ ∃ N : St → List V → Hp → Prop, (∀ σ' ys' H', N σ' ys' H' → ∃ m', m' < m ∧ W (i + 1) m' σ' ys' H') ∧ ∀ x H', (Itz K a b).yld i H x H' → g x σ H' fun σ2 H2 => tt σ2 H2 fun c H3 =>
        if c = true then te σ2 H3 fun v H4 => H4 D = some (.lst ys) ∧ ys.length < sizeLine ∧ N σ2 (ys ++ [v]) (upd H4 D (.lst (ys ++ [v]))) else N σ2 ys H3) := by
  refine ⟨fun i m σ ys H => m = xs.length - i ∧ i ≤ xs.length ∧ Pv i σ ys H, ⟨xs.length, by simp, Nat.zero_le _, h0⟩, ?_⟩
  rintro i m σ ys H ⟨rfl, hi, p⟩
  obtain ⟨q, q2⟩ := hl i σ ys H hi p
  by_cases hlt : i < xs.length
  · refine .inr ⟨⟨xs, xs[i], zs, zs[i]'(by omega), q, List.getElem?_eq_getElem hlt, q2, List.getElem?_eq_getElem _⟩, Pv (i + 1), fun σ' ys' H' p' => ⟨xs.length - (i + 1), by omega, rfl, hlt, p'⟩, fun v H' y => ?_⟩
    obtain ⟨t, x, z, hn, e1, e2, y1, y2⟩ := y
    subst e1 e2
    exact hs i x z σ ys _ t (y1 xs q) (y2 zs q2) hn p
  · have e : i = xs.length := by omega
    subst e
    exact .inl ⟨⟨xs, q, Nat.le_refl _⟩, hd σ ys H p⟩
end L2


namespace L2
open PySem PySem.W PySem.Spec PySem.Calls PyProof.Rows
/-! ### a heap with some of its objects taken away -/
def lessObj (S : List Addr) (i : Nat) (o : Obj) : Obj := if i ∈ S then { o with data := .freed } else o
def less (h : Heap) (S : List Addr) : Heap := { h with objs := h.objs.mapIdx (lessObj S) }
theorem less_in {h : Heap} {S : List Addr} {b : Addr} (hb : b ∈ S) : (less h S).get? b = none := by
  unfold Heap.get? less
  simp only [Array.getElem?_mapIdx]
  cases e : h.objs[b]? with
  | none => rfl
  | some o =>
    simp only [Option.map_some, lessObj, if_pos hb]
theorem less_out {h : Heap} {S : List Addr} {b : Addr} (hb : b ∉ S) : (less h S).get? b = h.get? b := by
  unfold Heap.get? less
  simp only [Array.getElem?_mapIdx]
  cases e : h.objs[b]? with
  | none => rfl
  | some o =>
    simp only [Option.map_some, lessObj, if_neg hb]
theorem less_stays {h : Heap} {S : List Addr} : (less h S).StaysIn h := fun b o e => by
  by_cases hb : b ∈ S
  · rw [less_in hb] at e; cases e
  · rwa [less_out hb] at e
theorem less_funs {h base : Heap} {S : List Addr} : ∀ {l : List Env}, h.FunFrames base l → (∀ b ∈ frs l, b ∈ S) → h.FunFrames (less h S) l
  | [], _, _ => trivial
  | env :: r, ⟨hk, ⟨L, o, hf, hn, ho, hd⟩, hr⟩, hs => by
    have e : frs (env :: r) = L :: frs r := by unfold frs; rw [List.filterMap_cons, hf]
    rw [e] at hs
    exact ⟨hk, ⟨L, o, hf, less_in (hs L (by simp)), ho, hd⟩, less_funs hr fun b hb => hs b (by simp [hb])⟩
/-! ### how an exception lies behind a call -/
theorem ObjOk.some_ {P : Program} {w : World} {H : Hp} {h : Heap} {a : Addr} {o : HO} (x : ObjOk P w H h a o) : ∃ u, h.get? a = some u := by
  cases o with
  | lst xs => obtain ⟨_, _, _, _, e⟩ := x; exact ⟨_, e⟩
  | tup xs => obtain ⟨_, _, _, ob, e, _⟩ := x; exact ⟨_, e⟩
  | dK kvs => obtain ⟨_, _, _, _, o, _, _, e, _⟩ := x; exact ⟨_, e⟩
  | dT kvs => obtain ⟨_, _, _, _, o, _, _, e, _⟩ := x; exact ⟨_, e⟩
  | set S n => obtain ⟨o, _, _, _, e, _⟩ := x; exact ⟨_, e⟩
  | ins C dx fs => obtain ⟨_, _, _, e, _⟩ := x; exact ⟨_, e⟩
  | own y => exact x
  | xd fs => obtain ⟨_, ⟨_, _, _, e, _⟩, _⟩ := x; exact ⟨_, e⟩
  | rng lo hi => obtain ⟨_, _, _, e⟩ := x; exact ⟨_, e⟩
  | frz ob u => obtain ⟨e, _⟩ := x; exact ⟨_, e⟩
  | tbl ps => exact ⟨_, (show h.get? a = some _ from x)⟩
  | met f y => exact ⟨_, (show h.get? a = some _ from x)⟩
  | ext φ => exact x.2.1
/-- an own class of exceptions without an __init__ of its own, as the top has written it -/
structure XCls (K : PySem.W.Frag) (C : Addr) (bmB : List Value) (newId : String) : Prop where
  isIn : excIn K C bmB newId = true
theorem XCls.obj {K : PySem.W.Frag} {C : Addr} {bmB : List Value} {newId : String} {h₀ : Heap} (c : XCls K C bmB newId) (X : K.In h₀) : ∃ bm N nm q bs hdct sn sub ab col dd k0 k1 k2 k3 k5 mN,
      h₀.get? C = some (excClassObj nm q C N bs bm hdct sn sub ab col dd k0 k1 k2 k3 k5 newId) ∧ h₀.Ns N mN ∧ mN (Str.ofString "__init__") = none ∧ OwnTail h₀ bmB bm := by
  have q := c.isIn
  unfold excIn at q
  split at q
  · rename_i dd cd sl ho
    split at q
    · rename_i C' bm k0 k1 k2 k3 n k5 hm hs
      simp only [Bool.and_eq_true, beq_iff_eq, Bool.not_eq_true'] at q
      obtain ⟨⟨⟨⟨⟨rfl, rfl⟩, hdel⟩, ht⟩, hok⟩, hni⟩ := q
      obtain ⟨nm, bs, mro, ns, qn, hd, sn, sub, ab, col, del⟩ := cd
      dsimp only at hm hdel hok hni
      subst hm hdel
      have hsl : sl = #[k0, k1, k2, k3, some (.builtin n), k5] := by
        obtain ⟨l⟩ := sl
        simp only at hs
        rw [hs]
      subst hsl
      exact ⟨bm, ns, nm, qn, bs, hd, sn, sub, ab, col, dd, k0, k1, k2, k3, k5, _, X _ _ ho, .of_isNs (isNs_of_in X hok), nsMap_none_of_in X hok hni, tail_of_in X ht⟩
    · cases q
  · cases q
section
variable {P : Program} {w : World} {K : PySem.W.Frag} {mg : Str → Option Value} {base : Heap} {N : List Str} {qual : Str} {scope : Scope} {f : Addr} {cd : Value} {A : Around} {outer : List Env} {s₀ : Shared} {H₀ : Hp} {E : XK}
end
end L2


namespace L2
open PySem PySem.W PySem.Spec PySem.Calls PyProof.Rows
/-- a def by its body, exceptions and all -/
theorem Fun.okX {P : Program} {w : World} {K : PySem.W.Frag} {mg : Str → Option Value} {base : Heap} {CX : CXT} {x qual : Str} {st : Stmt} {f : Addr} {fd : FuncData} {N ps : List Str} {k : Nat} {sp : Sp} (F : Fun K x qual st f fd) (S : FnScope N ps (defScope st)) (len : ∀ vs H Q E, sp vs H Q E → vs.length = ps.length)
    (hbody : ∀ (cdv : Value) (A : Around) (outer : List Env) (s : Shared) (H : Hp) (vs : List V) (Q : VK) (E : XK), Room k (A.deeper (envOfC qual (defScope st) s.heap.objs.size f cdv)) → sp vs H Q E →
      ∃ t, PSs (cxOf CX P w K mg base N qual (defScope st) f cdv A outer s H E) (defBody st) t ∧ t { nx := fun _ H' => Q .non H', rt := Q } (start N vs) H) : FnOk P w K mg base CX (k + 1) f fd ps sp := by
  obtain ⟨oc, od, kV, doc, pm, an, cdv, ct, osl, rfl, lk, hcd⟩ := F.ex
  exact fn_of lk hcd S len fun A outer s H vs Q E hr hsp => hbody cdv A outer s H vs Q E hr hsp
section
variable {X : Cx} {pins : List (Addr × Obj)} {σ : St}
/-- what flies stands apart from B: over another heap -/
theorem fly_less {B h : Heap} {l : List Env} {ea : Addr} {cls a0 : Value} (fly : B.FlyingW l ea cls a0 h) : ∃ T, B.get? ea = none ∧ B.get? T = none ∧ (less h (frs l ++ [ea, T])).FlyingW l ea cls a0 h := by
  obtain ⟨f1, f2, f3, oe, vs, T, oT, ts, g1, g2, g3, g4, g5, g6, g7, g8, g9⟩ := fly
  exact ⟨T, f2, g5, less_stays, less_in (by simp), less_funs f3 (fun b hb => by simp [hb]), oe, vs, T, oT, ts, g1, g2, g3, g4, less_in (by simp), g6, g7, g8, g9⟩
end
end L2


namespace L2
open PySem PySem.W PySem.Spec PySem.Calls PyProof.Rows
section
variable {X : Cx} {pins : List (Addr × Obj)} {σ : St} {H : Hp} {s : Shared}
/-- a name is taken away again (behind an except suite) -/
theorem forget_ok {M : Model} {A : Around} {E : Value → Shared → Prop} {i : Nat} {x : Str} {pos : Pos} {Q : Unit → Shared → Prop} (I : Inv X pins σ H s) (hN : X.N.Nodup) (hi : X.N[i]? = some x) (hk : X.env.kindOf x = some .local)
    (h : ∀ s', Inv X pins (σ.set i none) H s' → Q () s') : wpAny M A (do bindName X.env x .none; unbindBehindTheSuite X.env x pos) Q E s := by
  obtain ⟨m, hn, hl⟩ := id I.loc
  have hcls : (X.env.scope.kind == .class || (X.env.scope.kind == .module && X.env.locals != X.env.globals)) = false := by rw [I.ok.kind]; rfl
  have hiσ : i < σ.length := by rw [I.len]; exact (List.getElem?_eq_some_iff.mp hi).1
  have cne := I.cne
  have tracked : ∀ {a : Addr} {h' : Heap}, (∃ o, s.heap.get? a = some o ∧ H a = none) → Heap.SameBut a s.heap h' → HOk X.prog X.w H h' := fun {a h'} ha hs b ob e => by
    obtain ⟨_, _, hfree⟩ := ha
    refine (I.hok b ob e).stay (fun c w' hc q => (hs.2 c ?_).trans q) (fun _ q => q) fun _ _ q => q
    rintro rfl
    rcases hc with rfl | hc
    · rw [hfree] at e; cases e
    · rw [hfree] at hc; cases hc
  refine wpAny_nameGoes_keeps hk hn hcls fun h' v hn' hs => ?_
  obtain ⟨oL, _, _, hoL, _⟩ := id hn
  refine h _ ⟨I.ok, I.os, I.bare, ⟨fun b o e n hb hx => ?_, fun b o e n hb hx => ?_, I.base.free, fun b o e hx => ?_, I.base.tups, I.base.frzs, I.base.tbls⟩, ⟨_, hn', fun j y v' e1 e2 e3 => ?_⟩, fun y c e => ?_, I.free, I.freeC, fun p hp => ?_, tracked ⟨oL, hoL, I.free⟩ hs, by simpa using I.len⟩
  · exact (hs.2 b (Nat.ne_of_lt (Nat.lt_of_lt_of_le (Heap.lt_size e) I.ok.above))).trans (I.base.keep b o e n hb hx)
  · obtain ⟨sl, e1⟩ := I.base.slot b o e n hb hx
    exact ⟨sl, (hs.2 b (Nat.ne_of_lt (Nat.lt_of_lt_of_le (Heap.lt_size e) I.ok.above))).trans e1⟩
  · obtain ⟨o', e1⟩ := I.base.there b o e hx
    exact ⟨o', (hs.2 b (Nat.ne_of_lt (Nat.lt_of_lt_of_le (Heap.lt_size e) I.ok.above))).trans e1⟩
  · by_cases hj : j = i
    · subst hj
      rw [List.getElem?_set_self hiσ] at e2
      cases e2
    · rw [List.getElem?_set_ne (Ne.symm hj)] at e2
      obtain ⟨u', r', q⟩ := hl j y v' e1 e2 e3
      refine ⟨u', r', ?_⟩
      rcases q with ⟨k, e⟩ | ⟨k, c, e, z⟩
      · refine .inl ⟨k, ?_⟩
        have : y ≠ x := fun e => hj (nodup_ix hN e1 (e ▸ hi))
        simp [this, e]
      · exact .inr ⟨k, c, e, z.sameBut hs (cne y c e)⟩
  · obtain ⟨w', z⟩ := I.cell y c e
    exact ⟨w', z.sameBut hs (cne y c e)⟩
  · obtain ⟨e, n, ne, nf, d⟩ := I.pin p hp
    exact ⟨(hs.2 p.1 ne).trans e, n, ne, nf, d⟩
/-- within an except suite, the exception at ea -/
abbrev Cx.inSuite (X : Cx) (ea : Addr) : Cx := { X with A := X.A.mark (some (.ref ea)), calm := false, xe := fun _ _ => False }
theorem Inv.suite (I : Inv X pins σ H s) (ea : Addr) : Inv (X.inSuite ea) pins σ H s :=
  ⟨⟨I.ok.mod, I.ok.kind, I.ok.glob, I.ok.blt, I.ok.above, I.ok.inj, I.ok.has, I.ok.cab, (fun z => by cases z), I.ok.frames, I.ok.stk, I.ok.exf, I.ok.bs, I.ok.bsz, I.ok.noex, I.ok.exfs, I.ok.funs, I.ok.frf⟩, I.os, I.bare, I.base, I.loc, I.cell, I.free, I.freeC, I.pin, I.hok, I.len⟩
theorem Inv.unsuite {ea : Addr} (ok : X.Ok) (I : Inv (X.inSuite ea) pins σ H s) : Inv X pins σ H s := ⟨ok, I.os, I.bare, I.base, I.loc, I.cell, I.free, I.freeC, I.pin, I.hok, I.len⟩
end
end L2


namespace L2
open PySem PySem.W PySem.Spec PySem.Calls PyProof.Rows
/-- the ends of an except suite: the name at i goes -/
def Ends.less (D : Ends) (i : Nat) : Ends := { nx := fun σ H => D.nx (σ.set i none) H, rt := D.rt, bk := fun σ H => D.bk (σ.set i none) H, ct := fun σ H => D.ct (σ.set i none) H }
section
variable {X : Cx} {k : Nat} {f C cR : Addr} {fd : FuncData} {ps : List Str} {sp : Sp} {dvs : List V} {ds : List Value} {x m n : Str} {np pos apos p2 p3 p4 : Pos} {o : Expr} {ta : TE} {ts : TS} {i : Nat} {b₀ : Stmt} {suite : List Stmt} {L : Addr}
end
end L2


namespace L2
open PySem PySem.W PySem.Spec PySem.Calls PyProof.Rows PySem.Builtin PySem.Builtin.ObjectAttr PySem.Builtin.Getset_descriptor
section
variable {prog : Program} {w : World} {A : Around} {E : Value → Shared → Prop} {s : Shared} {K : PySem.W.Frag} {x C : Addr}
theorem class_getL {R : Result → Shared → Prop} {tp : Value} (X : K.In s.heap) (L0 : Looks (model prog w) s.heap (typeOf (.ref x)) (.ref C)) (hm : mroIn K C (.type "object") = some true)
    (h : R (.ok (.ret (.ref C))) s) : codeAny (model prog w) A (.call (.builtin "getset_descriptor.__get__") ⟨[.builtin "object.__class__", .ref x, tp], []⟩) R s := by
  obtain ⟨hh, g, dr, t, os⟩ := s
  have L1 := looks_mroIn (M := model prog w) X hm
  refine codeAny_call_builtin KF.slot_gs.plain KF.entry_gs (KF.slot_gs.check _ _ _ _ _ _ _ _ KF.type_class (KF.args_gs _ _ _) ?_)
  unfold Builtin.«getset_descriptor.__get__» descrGet
  rw [dga_obj]
  refine wpAny_bind (wpAny_pure ?_)
  unfold descrGetter descrCheckInstance descrNameAndClass isInstance
  simp only [KF.owner_class]
  repeat lk
  refine ⟨Code.quiet_builtin _ (by decide +kernel), codeAny_builtin KF.entry_class ?_⟩
  unfold Builtin.«object.__class__» shownTypeOf
  repeat lk
  exact h
/-- what the top tells of a class of exceptions, for reading __class__ -/
structure XRead (K : PySem.W.Frag) (C : Addr) : Prop where
  ga : findIn K (.ref C) "__getattribute__" = some (some (.builtin "BaseException.__getattribute__"))
  gh : findIn K (.ref C) "__getattr__" = some none
  cl : findIn K (.ref C) "__class__" = some (some (.builtin "object.__class__"))
  gt : specialIn K (.builtin "object.__class__") "__get__" = some (some (.builtin "getset_descriptor.__get__"))
  tk : takesIn K (.builtin "object.__class__") = some true
  ob : mroIn K C (.type "object") = some true
  bx : mroIn K C (.type "BaseException") = some true
  ci : (clsIn K C).isSome = true
theorem looks_findD {M : Model} {h : Heap} (X : K.In h) {self : Value} {name : Str} {a g : Value} (ha : findIn K (.ref C) name = some (some a)) (hg : specialIn K a "__get__" = some (some g)) (ht : takesIn K a = some true) : Looks M h (find self (.ref C) name) (.bind g a) := by
  have L1 := looks_findIn (M := M) X ha
  have L2 : Looks M h (getOf (some a)) (some g) := looks_specialIn X hg
  have L3 := looks_takesIn (M := M) X ht
  exact L1.andThen (L2.andThen ((show Looks M h (dataDescriptor? (some a) (some g)) (some (g, a)) from L3.andThen .now).andThen (Looks.tag .now)))
theorem check_exc {M : Model} {nameV : Value} {Q : Unit → Shared → Prop} (L0 : Looks M s.heap (typeOf (.ref x)) (.ref C)) (L3 : Looks M s.heap (isSubtype (.ref C) (.type "BaseException")) true) (hq : Q () s) : wpAny M A (checkBuiltinCall "BaseException.__getattribute__" ⟨[.ref x, nameV], []⟩) Q E s := by
  have hk : builtinKind "BaseException.__getattribute__" = some .slot := by decide +kernel
  have hsplit : splitId "BaseException.__getattribute__" = some ("BaseException", "__getattribute__") := by decide +kernel
  have ha := F.args_bexc_ga (.ref x) nameV
  obtain ⟨hh, g, d, t, os⟩ := s
  simp only [checkBuiltinCall, hk, hsplit]
  refine wpAny_bind ?_
  · unfold isInstance
    repeat (first | lk | wp_step)
    exact hq
theorem entry_exc {Q : Fin → Shared → Prop} {tk : Tok} (X : K.In s.heap) (R : XRead K C) (L0 : Looks (model prog w) s.heap (typeOf (.ref x)) (.ref C)) (hq : Q (.done (.ret (.ref C))) s) : wpAny (model prog w) A (Builtin.«object.__getattribute__» ⟨[.ref x, .str "__class__" tk], []⟩) Q E s := by
  have L4 := looks_findD (M := model prog w) X (self := .ref x) R.cl R.gt R.tk
  have hc := fun (R' : Result → Shared → Prop) (h : R' (.ok (.ret (.ref C))) s) => class_getL (prog := prog) (w := w) (A := A) (tp := .ref C) X L0 R.ob h
  unfold Builtin.«object.__getattribute__»
  refine wpAny_bind (wpAny_pure (wpAny_bind (wpAny_pure (wpAny_bind (L0.here (wpAny_bind (L4.here ?_)))))))
  show wpAny _ _ (bindTo _ _ _ _) _ _ _
  unfold bindTo
  dsimp only
  first
    | exact wpAny_bind (wpAny_holding (wpAny_call (hc _ (wpAny_pure hq))))
    | exact wpAny_bind (wpAny_call (hc _ (wpAny_pure hq)))
    | exact wpAny_bind (wpAny_bind (wpAny_holding (wpAny_call (hc _ (wpAny_pure hq)))))
/-- e.__class__ as isinstance reads it -/
theorem exc_class {Q : Option Value → Shared → Prop} {Bn : String} (FB : ExcAttrFacts Bn) (X : K.In s.heap) (R : XRead K C) (L0 : Looks (model prog w) s.heap (typeOf (.ref x)) (.ref C)) (h : Q (some (.ref C)) { s with toks := s.toks + 1 }) : wpAny (model prog w) A (getAttr? (.ref x) "__class__") Q E s := by
  obtain ⟨hh, g, d, t, os⟩ := s
  have L1 := looks_findIn (M := model prog w) X R.ga
  have L2 := looks_findIn (M := model prog w) X R.gh
  have L3 := looks_mroIn (M := model prog w) X R.bx
  have L4 := looks_findD (M := model prog w) X (self := .ref x) R.cl R.gt R.tk
  have hk : builtinKind "BaseException.__getattribute__" = some .slot := by decide +kernel
  have hsplit : splitId "BaseException.__getattribute__" = some ("BaseException", "__getattribute__") := by decide +kernel
  unfold getAttr? getAttrBy? getAttrBy
  refine wpAny_bind (wpAny_mkText (wpAny_bind (wpAny_attempt (wpAny_holding (wpAny_bind (L0.at (wpAny_bind (L1.at ?_))))))))
  show wpAny _ _ (getAttrByItsOwn _ _ _ _ _ _) _ _ _
  unfold getAttrByItsOwn hookBefore
  rw [if_pos (show onTheHeap (Value.ref C) = true from rfl)]
  refine wpAny_bind (L2.at (wpAny_bind (wpAny_attempt (wpAny_holding ?_))))
  unfold callGetattribute
  rw [if_neg (show ¬ (false && onTheHeap (Value.builtin "BaseException.__getattribute__")) = true from by decide)]
  unfold boundAndCalled
  rw [FB.ga.bind (.ref x)]
  refine wpAny_bind (wpAny_pure (wpAny_call ?_))
  refine codeAny_call_builtin FB.ga.plain F.entry_bexc_ga ?_
  refine check_exc L0 L3 (entry_exc X R L0 ?_)
  exact wpAny_pure (wpAny_pure h)
end
end L2


namespace L2
open PySem PySem.W PySem.Spec PySem.Calls PyProof.Rows
theorem kitx_exc {K : PySem.W.Frag} {C ea : Addr} {Bn : String} (R : XRead K C) (FB : ExcAttrFacts Bn) : KitX K (.ref ea) (.ref C) (fun h => ∃ o, h.get? ea = some o ∧ o.cls = .ref C) where
  ty := fun M h _ ⟨o, h1, h2⟩ => h2 ▸ (Looks.ld h1).andThen .now
  it := fun _ _ X _ => by
    obtain ⟨cdD, hcD⟩ := Option.isSome_iff_exists.mp R.ci
    unfold clsIn at hcD
    split at hcD
    · rename_i c' d' cd' sl' ho
      intro A' Q' E' s' k q
      unfold isType loadHead
      exact wpAny_bind (wpAny_loadPart (k _ _ (X _ _ ho)) (wpAny_pure q))
    · cases hcD
  ne := fun h tp dd its n sl X htp => by
    obtain ⟨cdD, hcD⟩ := Option.isSome_iff_exists.mp R.ci
    refine Bool.eq_false_iff.mpr fun q => ?_
    have e : C = tp := Value.ref.inj (beq_iff_eq.mp q)
    subst e
    unfold clsIn at hcD
    split at hcD
    · rename_i c' d' cd' sl' ho
      have z := (X _ _ ho).symm.trans htp
      cases z
    · cases hcD
  ca := fun X p k => by
    obtain ⟨o, h1, h2⟩ := p
    exact exc_class FB X R (h2 ▸ (Looks.ld h1).andThen .now) k
section
variable {X : Cx} {C : Addr} {Bn : String}
end
end L2


namespace L2
open PySem PySem.W PySem.Spec PySem.Calls PyProof.Rows
/-! ### exceptions with attributes of their own: their dict stays while they fly -/
def Dct (h : Heap) (e : Addr) (od : Option Addr) : Prop := ∃ o, h.get? e = some o ∧ o.dict = od
theorem dict_mapFields (o : Obj) (f : Array Value → Array Value) : (Obj.mapFields f o).dict = o.dict := by
  unfold Obj.mapFields
  split <;> rfl
section
variable {M : Model} {A : Around} {XE : Value → Shared → Prop} {s : Shared} {B : Heap} {env : Env} {outer l : List Env} {L e : Addr} {cls a0 fl : Value} {od : Option Addr} {Q : Unit → Shared → Prop}
theorem noRec {h : Heap} {e b : Addr} {oe o : Obj} {vs : Array Value} (he : h.get? e = some oe) (hd : oe.data = .fields vs) (hb : h.get? b = some o) (n : ∀ vs, o.data ≠ .fields vs) : b ≠ e := fun z => by
  subst z
  cases he.symm.trans hb
  exact n vs hd
theorem entryD {oe : Obj} {vs : Array Value} {head : Value} {hn : Bool} (fr : A.frames = some (env :: outer)) (fu : s.heap.FunFrames B (env :: outer)) (hf : env.frame = some L) (he : s.heap.get? e = some oe) (st : B.StaysIn s.heap) (ne : B.get? e = none)
    (hd : oe.data = .fields vs) (sz : 1 < vs.size) (h0 : vs[0]? = some a0) (k : ∀ h', Heap.NotedW B (env :: outer) e oe.cls a0 (rawInt L) s.heap h' → Dct h' e oe.dict → Q () { s with heap := h' }) :
    wpAny M A (do
      let a ← frameOf env
      let pl ← entryPlaceOf L hn
      let b ← EntryCells.newEntry head a .none (rawInt L) .none pl
      setField (.ref e) 1 b) Q XE s := by
  have nf : e ∉ frs (env :: outer) := fun z => by
    obtain ⟨_, o, ho, n⟩ := fu.mem z
    cases he.symm.trans ho
    exact n vs hd
  refine wpAny_bind (wpAny_frameOf_fun fr fu hf fun g kg => ?_)
  have e1 : g.get? e = some oe := (kg.2.1 e nf).trans he
  have key : ∀ (tb : Obj) (ts : Array Value), tb.data = .fields ts → ts[3]? = some (rawInt L) → wpAny M A (setField (.ref e) 1 (.ref g.objs.size)) Q XE { s with heap := g.push tb } := fun tb ts td t3 => by
    have e2 := Heap.get?_push_of_some tb e1
    have nT : g.objs.size ≠ e := Nat.ne_of_gt (Heap.lt_size e1)
    have d3 := Obj.data_mapFields hd (·.setIfInBounds 1 (Value.ref g.objs.size))
    have e3 := Heap.get?_update_self (Obj.mapFields (·.setIfInBounds 1 (Value.ref g.objs.size))) e2 (Obj.isFreed_of_fields d3)
    have hT : (g.push tb).get? g.objs.size = some tb := Heap.get?_push_size g (Obj.isFreed_of_fields td)
    have hT3 := (Heap.get?_update_other (g.push tb) (Obj.mapFields (·.setIfInBounds 1 (Value.ref g.objs.size))) nT.symm).trans hT
    have keep : ∀ b o, b ≠ e → g.get? b = some o → ((g.push tb).update e (Obj.mapFields (·.setIfInBounds 1 (Value.ref g.objs.size)))).get? b = some o := fun b o n hb => (Heap.get?_update_other _ _ n.symm).trans (Heap.get?_push_of_some _ hb)
    have stg : B.StaysIn g := fun b o hb => (kg.2.1 b fun z => by
      have := (fu.mem z).1
      rw [hb] at this
      cases this).trans (st b o hb)
    refine wpAny_setField e2 hd sz (k _ ⟨fun b o hb => keep b o (fun z => by rw [z, ne] at hb; cases hb) (stg b o hb), fu.of_keeps fun b o hb n => ?_, ?_, fun b o hb n => ?_⟩ ⟨_, e3, dict_mapFields _ _⟩)
    · obtain ⟨sl, hs⟩ := kg.2.2 b o hb
      exact ⟨_, keep b _ (noRec he hd hb n) hs, rfl⟩
    · exact ⟨_, _, g.objs.size, _, _, e3, ⟨Obj.cls_mapFields _ _, by rw [Array.getElem?_setIfInBounds_ne (by decide)]; exact h0⟩, d3, by simp [sz], stg.fresh, nT, hT3, td, t3⟩
    · obtain ⟨sl, hs⟩ := kg.2.2 b o hb
      exact ⟨sl, keep b _ (noRec he hd hb n) hs⟩
  refine wpAny_bind (wpAny_entryPlaceOf fun pl hp => ?_)
  unfold EntryCells.newEntry newFields
  refine wpAny_bind (wpAny_newObj_type ?_ (hp.sizeOk5 _ _ _ _ _))
  exact key _ _ rfl (by first | (simp; done) | (rcases hp with rfl | ⟨_, _, _, _, _, _, _, rfl⟩ <;> simp))
theorem noteFirstD {oe : Obj} {vs : Array Value} (fr : A.frames = some (env :: outer)) (fu : s.heap.FunFrames B (env :: outer)) (hf : env.frame = some L) (he : s.heap.get? e = some oe) (st : B.StaysIn s.heap) (ne : B.get? e = none)
    (hd : oe.data = .fields vs) (h1 : vs[1]? = some .none) (h0 : vs[0]? = some a0) (k : ∀ h', Heap.NotedW B (env :: outer) e oe.cls a0 (rawInt L) s.heap h' → Dct h' e oe.dict → Q () { s with heap := h' }) :
    wpAny M A (noteFrame (.ref e) env) Q XE s := by
  unfold noteFrame
  simp only [hf]
  refine wpAny_bind (wpAny_field he hd h1 ?_)
  rw [if_neg (by decide)]
  exact entryD fr fu hf he st ne hd (Array.getElem?_eq_some_iff.mp h1).1 h0 k
theorem noteNextD (fr : A.frames = some (env :: outer)) (hf : env.frame = some L) (fly : B.FlyingW (env :: outer) e cls a0 s.heap) (dc : Dct s.heap e od)
    (k : ∀ h', Heap.NotedW B (env :: outer) e cls a0 (rawInt L) s.heap h' → Dct h' e od → Q () { s with heap := h' }) : wpAny M A (noteFrame (.ref e) env) Q XE s := by
  obtain ⟨st, ne, fu, oe, vs, T, oT, ts, he, ⟨hc, h0⟩, hd, h1, nT, Te, hT, dT, h3⟩ := fly
  subst hc
  obtain ⟨oe', he', hod⟩ := dc
  cases he.symm.trans he'
  subst hod
  unfold noteFrame
  simp only [hf]
  refine wpAny_bind (wpAny_field he hd h1 ?_)
  rw [if_pos (by simp)]
  refine wpAny_bind (wpAny_field hT dT h3 ?_)
  rw [if_neg (by simp [rawInt])]
  refine wpAny_bind (wpAny_setField hT dT (Array.getElem?_eq_some_iff.mp h3).1 ?_)
  have oth : ∀ b, b ≠ T → (s.heap.update T (Obj.mapFields (·.setIfInBounds 3 Value.none))).get? b = s.heap.get? b := fun b n => Heap.get?_update_other _ _ n.symm
  refine entryD fr (fu.of_keeps fun b o hb n => ⟨o, (oth b (noRec hT dT hb n)).trans hb, rfl⟩) hf ((oth e Te.symm).trans he) (fun b o hb => (oth b fun z => by
    rw [z, nT] at hb
    cases hb).trans (st b o hb)) ne hd (Array.getElem?_eq_some_iff.mp h1).1 h0 fun h' q q2 => k h' ⟨q.1, q.2.1, q.2.2.1, fun b o hb n => q.2.2.2 b o ((oth b (noRec hT dT hb n)).trans hb) n⟩ q2
theorem flightD (st : B.StaysIn s.heap) (fu : s.heap.FunFrames B l) (tr : s.heap.TracedAtW B e cls a0 fl) (dc : Dct s.heap e od)
    (k : ∀ h', B.StaysIn h' → h'.FunFrames B l → h'.TracedW B e cls a0 → (∀ b o, s.heap.get? b = some o → (∀ vs, o.data ≠ .fields vs) → h'.get? b = some o) → Dct h' e od → Q () { s with heap := h' }) : wpAny M A (setFlight (.ref e) none) Q XE s := by
  obtain ⟨oe, vs, T, oT, ts, he, hc, hd, h1, nT, Te, hT, dT, h3⟩ := tr
  obtain ⟨oe', he', hod⟩ := dc
  cases he.symm.trans he'
  have sz : 3 < ts.size := (Array.getElem?_eq_some_iff.mp h3).1
  have oth : ∀ b, b ≠ T → (s.heap.update T (Obj.mapFields (·.setIfInBounds 3 ((none : Option Addr).elim Value.none fun f => rawInt f)))).get? b = s.heap.get? b := fun b n => Heap.get?_update_other _ _ n.symm
  unfold setFlight
  refine wpAny_bind (wpAny_field he hd h1 ?_)
  rw [if_pos (by simp)]
  refine wpAny_setField hT dT sz (k _ (fun b o hb => (oth b fun z => by
    rw [z, nT] at hb
    cases hb).trans (st b o hb)) (fu.of_keeps fun b o hb n => ⟨o, (oth b (noRec hT dT hb n)).trans hb, rfl⟩) ?_ (fun b o hb n => (oth b (noRec hT dT hb n)).trans hb) ⟨oe, (oth e Te.symm).trans he, hod⟩)
  exact ⟨oe, vs, T, _, _, (oth e Te.symm).trans he, hc, hd, h1, nT, Te, Heap.get?_update_self _ hT (Obj.isFreed_of_fields (Obj.data_mapFields dT _)), Obj.data_mapFields dT _, by simp [sz]⟩
/-- it leaves the frame in which it was made -/
theorem leavesD {oe : Obj} {vs : Array Value} (fr : A.frames = some (env :: outer)) (fu : s.heap.FunFrames B (env :: outer)) (hf : env.frame = some L) (he : s.heap.get? e = some oe) (st : B.StaysIn s.heap) (ne : B.get? e = none)
    (hd : oe.data = .fields vs) (h1 : vs[1]? = some .none) (h0 : vs[0]? = some a0) (k : ∀ h', B.FlyingW outer e oe.cls a0 h' → s.heap.UpToSlots h' → Dct h' e oe.dict → Q () { s with heap := h' }) : wpAny M A (leaving env (.ref e)) Q XE s := by
  unfold leaving
  refine wpAny_bind (noteFirstD fr fu hf he st ne hd h1 h0 fun h1 q dc => ?_)
  exact flightD (s := { s with heap := h1 }) q.1 q.2.1 q.2.2.1 dc fun h2 a b c d dc2 => k h2 ⟨a, ne, b.2.2, c⟩ (Heap.UpToSlots.trans q.2.2.2 fun b o hb n => ⟨o.slots, d b o hb n⟩) dc2
/-- it goes on through a frame -/
theorem leavesOnD (fr : A.frames = some (env :: outer)) (hf : env.frame = some L) (fly : B.FlyingW (env :: outer) e cls a0 s.heap) (dc : Dct s.heap e od)
    (k : ∀ h', B.FlyingW outer e cls a0 h' → s.heap.UpToSlots h' → Dct h' e od → Q () { s with heap := h' }) : wpAny M A (leaving env (.ref e)) Q XE s := by
  unfold leaving
  refine wpAny_bind (noteNextD fr hf fly dc fun h1 q dc => ?_)
  exact flightD (s := { s with heap := h1 }) q.1 q.2.1 q.2.2.1 dc fun h2 a b c d dc2 => k h2 ⟨a, fly.2.1, b.2.2, c⟩ (Heap.UpToSlots.trans q.2.2.2 fun b o hb n => ⟨o.slots, d b o hb n⟩) dc2
/-- it comes to a try, and lands -/
theorem looksD (fr : A.frames = some (env :: outer)) (hf : env.frame = some L) (fly : B.FlyingW (env :: outer) e cls a0 s.heap) (dc : Dct s.heap e od)
    (k : ∀ h', B.HeldW (env :: outer) e cls a0 L h' → s.heap.UpToSlots h' → Dct h' e od → Q () { s with heap := h' }) : wpAny M A (noteFrame (.ref e) env) Q XE s :=
  noteNextD fr hf fly dc fun h1 q dc => k h1 ⟨q.1, fly.2.1, q.2.1, q.2.2.1⟩ q.2.2.2 dc
theorem landsD (h : B.HeldW l e cls a0 L s.heap) (dc : Dct s.heap e od) (k : ∀ h', B.FlyingW l e cls a0 h' → s.heap.UpToSlots h' → Dct h' e od → Q () { s with heap := h' }) : wpAny M A (setFlight (.ref e) none) Q XE s :=
  flightD h.1 h.2.2.1 h.2.2.2 dc fun h2 a b c d dc2 => k h2 ⟨a, h.2.1, b, c⟩ (fun b o hb n => ⟨o.slots, d b o hb n⟩) dc2
theorem againD (h : B.FlyingW l e cls a0 s.heap) (dc : Dct s.heap e od) (k : ∀ h', B.FlyingW l e cls a0 h' → s.heap.UpToSlots h' → Dct h' e od → Q () { s with heap := h' }) : wpAny M A (setFlight (.ref e) none) Q XE s :=
  flightD h.1 h.2.2.1 h.2.2.2.at dc fun h2 a b c d dc2 => k h2 ⟨a, h.2.1, b, c⟩ (fun b o hb n => ⟨o.slots, d b o hb n⟩) dc2
end
end L2


namespace L2
open PySem PySem.W PySem.Spec PySem.Calls PyProof.Rows
/-! ### own exceptions with an __init__ of their own: made, told of, written to, read -/
abbrev vmVE : List Value := [.type "ValueError", .type "Exception", .type "BaseException", .type "object"]
/-- an exception's object, its arguments at t -/
abbrev eO (C t : Addr) (od : Option Addr) : Obj := { cls := .ref C, dict := od, data := .fields #[.ref t, .none, .none, .none, .bool false, .none] }
/-- the class C, an own one right under the own class R, that under ValueError; its __init__ is its own, R has none -/
structure XIni (K : PySem.W.Frag) (C R fI : Addr) : Prop where
  lk : ∃ dd nm bs ns qn sn sub ab col k0 k1 k2 k3 k5, K.lookup C = some ⟨.type "type", dd, .cls ⟨nm, bs, .ref C :: .ref R :: vmVE, ns, qn, true, sn, sub, ab, col, false⟩, #[k0, k1, k2, k3, some (.builtin "ValueError.__new__"), k5]⟩
  ini : findIn K (.ref C) "__init__" = some (some (.ref fI))
  fn : typeIn K (.ref fI) = some (.type "function")
  row : XCls K R vmVE "ValueError.__new__"
  rtl : mroIn K R (.type "object") = some true
  sa : findIn K (.ref C) "__setattr__" = some (some (.builtin "object.__setattr__"))
  na : takerIn K C "at" = some none
  nat : findIn K (.ref C) "at" = some none
  hd : hasDictIn K C = true
  rd : XRead K C
  sg : specialIn K (.ref R) "__getattribute__" = some (some (.builtin "type.__getattribute__"))
  rr : readsIn K R (.type "type") = true
  fi : findCls K (.ref R) (.type "type") "__init__" = some (.val (.builtin "ValueError.__init__"))
section
variable {K : PySem.W.Frag} {C R fI : Addr} {h : Heap}
theorem XIni.obj (c : XIni K C R fI) (X : K.In h) : ∃ N nm q bs sn sub ab col dd k0 k1 k2 k3 k5, h.get? C = some (excClassObj nm q C N bs (.ref R :: vmVE) true sn sub ab col dd k0 k1 k2 k3 k5 "ValueError.__new__") := by
  obtain ⟨dd, nm, bs, ns, qn, sn, sub, ab, col, k0, k1, k2, k3, k5, e⟩ := c.lk
  exact ⟨ns, nm, qn, bs, sn, sub, ab, col, dd, k0, k1, k2, k3, k5, X _ _ e⟩
theorem XIni.tail (c : XIni K C R fI) (X : K.In h) : OwnTail h vmVE (.ref R :: vmVE) := by
  obtain ⟨bm, N, nm, q, bs, hdct, sn, sub, ab, col, dd, k0, k1, k2, k3, k5, mN, hR, hN, hni, _⟩ := c.row.obj X
  exact .own hR hN hni .base
variable {prog : Program} {w : World} {A : Around} {XE : Value → Shared → Prop} {s : Shared}
theorem type_call_ini (c : XIni K C R fI) (X : K.In s.heap) {rest : List Value} {Q : Fin → Shared → Prop} (hz : rest.length ≤ sizeLine)
    (k : wpAny (model prog w) A (call (.ref fI) (.ref (s.heap.objs.size + 1) :: rest)) (fun r s' => r = .none ∧ Q (.done (.ret (.ref (s.heap.objs.size + 1)))) s') XE { s with heap := (s.heap.push { cls := .type "tuple", data := .seq rest.toArray }).push (eO C s.heap.objs.size none) }) :
    wpAny (model prog w) A (Builtin.«type.__call__» ⟨.ref C :: rest, []⟩) Q XE s := by
  obtain ⟨N, nm, q, bs, sn, sub, ab, col, dd, k0, k1, k2, k3, k5, hC⟩ := c.obj X
  have T := c.tail X
  have F := PySem.F.excBase_ValueError
  obtain ⟨h, g, d, t, os⟩ := s
  dsimp only at hC T X k ⊢
  repeat (first | with_reducible refine wpAny_loadPart_at hC ?_ | with_reducible refine wpAny_madeBy_exc hC ?_ | wp_step)
  refine codeAny_call_builtin_code (Code.quiet_builtin _ F.quiet) (wpAny_check_new_subT F T hC ?_)
  refine codeAny_exc_new_subT F T hC ?_ hz
  show wpAny _ _ _ _ _ _
  have kp : ∀ b o, h.get? b = some o → ((h.push { cls := .type "tuple", data := .seq rest.toArray }).push (eO C h.objs.size none)).get? b = some o := fun b o e => Heap.get?_push_of_some _ (Heap.get?_push_of_some _ e)
  have X1 := X.keeps kp
  have hC1 := kp _ _ hC
  have he : ((h.push { cls := .type "tuple", data := .seq rest.toArray }).push (eO C h.objs.size none)).get? (h.objs.size + 1) = some (eO C h.objs.size none) := by heap_get
  have hcC : (Value.ref C :: .ref R :: vmVE).contains (.ref C) = true := by simp
  unfold isInstance
  repeat (first | with_reducible refine wpAny_loadPart_at he ?_ | (with_reducible refine wpAny_isSubtype_exc hC1 ?_; rw [hcC]) | wp_step)
  show wpAny _ _ (typeLookup (.ref C) _) _ _ _
  refine (looks_findIn X1 c.ini).here ?_
  refine wpAny_holding (wpAny_bind ?_)
  unfold bindSpecial
  refine wpAny_bind ((looks_typeIn X1 c.fn).here ?_)
  rw [if_pos (by decide)]
  refine wpAny_pure (wpAny_bind (wpAny_mono k (fun r s' hr => ?_) fun _ _ x => x))
  obtain ⟨rfl, hQ⟩ := hr
  wp_walk
  exact hQ
theorem call_ini (c : XIni K C R fI) (X : K.In s.heap) {rest : List Value} {Q : Value → Shared → Prop} (hz : rest.length ≤ sizeLine)
    (k : wpAny (model prog w) (A.under (.builtin "type.__call__" ⟨.ref C :: rest, []⟩)) (call (.ref fI) (.ref (s.heap.objs.size + 1) :: rest)) (fun r s' => r = .none ∧ Q (.ref (s.heap.objs.size + 1)) s') XE { s with heap := (s.heap.push { cls := .type "tuple", data := .seq rest.toArray }).push (eO C s.heap.objs.size none) }) :
    wpAny (model prog w) A (call (.ref C) rest) Q XE s := by
  obtain ⟨N, nm, q, bs, sn, sub, ab, col, dd, k0, k1, k2, k3, k5, hC⟩ := c.obj X
  have f1 := tc_lookup
  have f2 := tc_bind (.ref C)
  have hT : s.TypeIs (.ref C) "type" := ⟨_, hC, rfl⟩
  refine wpAny_call (codeAny_of_tree ?_)
  show wpAny _ _ (callAny (.ref C) _) _ _ _
  have k2 := fun Q' k' => type_call_ini (prog := prog) (w := w) (A := A.under (.builtin "type.__call__" ⟨.ref C :: rest, []⟩)) (XE := XE) c X (rest := rest) (Q := Q') hz k'
  obtain ⟨h, g, d, t, os⟩ := s
  dsimp only at hC hT X k k2 ⊢
  repeat (any_goals (first | assumption | with_reducible refine wpAny_loadPart_at hC ?_ | wp_step))
  refine ⟨rfl, ?_⟩
  exact codeAny_call_builtin_at (Code.quiet_builtin _ (by decide +kernel)) entry_typeCall (wpAny_check_type_call_sub hC (k2 _ k))
theorem base_ini (c : XIni K C R fI) (X : K.In s.heap) {e t : Addr} {m : Value} {Q : Value → Shared → Prop} (he : s.heap.get? e = some (eO C t none))
    (k : ∀ h', (∀ b o, b ≠ e → s.heap.get? b = some o → h'.get? b = some o) → h'.get? e = some (eO C s.heap.objs.size none) → Q .none { s with heap := h' }) :
    wpAny (model prog w) A (call (.builtin "ValueError.__init__") [.ref e, m]) Q XE s := by
  obtain ⟨N, nm, q, bs, sn, sub, ab, col, dd, k0, k1, k2, k3, k5, hC⟩ := c.obj X
  have T := c.tail X
  have F := PySem.F.excBase_ValueError
  obtain ⟨h, g, d, tk, os⟩ := s
  dsimp only at hC T X k he ⊢
  refine wpAny_call (codeAny_call_builtin F.init.plain F.initEntry (wpAny_check_init_subT F T hC he rfl ?_))
  have he2 := Heap.get?_push_of_some { cls := .type "tuple", data := .seq #[m] } he
  repeat (first | with_reducible refine wpAny_setField he2 rfl (by decide) ?_ | wp_step)
  refine k _ (fun b o n hb => ?_) ?_
  · rw [Heap.get?_update_other _ _ (Ne.symm n)]
    exact Heap.get?_push_of_some _ hb
  · rw [Heap.get?_update_self _ he2 rfl]
    rfl
/-- x.at = v, the first attribute of an own exception -/
theorem set_at (c : XIni K C R fI) (X : K.In s.heap) {e t : Addr} {v : Value} {Q : Unit → Shared → Prop} (he : s.heap.get? e = some (eO C t none))
    (k : ∀ h' tk', (∀ b o, b ≠ e → s.heap.get? b = some o → h'.get? b = some o) → h'.get? e = some (eO C t (some s.heap.objs.size)) → h'.Ns1 s.heap.objs.size (fun y => if y = "at" then some v else none) → Q () { s with heap := h', toks := tk' }) :
    wpAny (model prog w) A (setAttr (.ref e) "at" v) Q XE s := by
  obtain ⟨N, nm, q, bs, sn, sub, ab, col, dd, k0, k1, k2, k3, k5, hC⟩ := c.obj X
  have SF := PySem.F.store_ValueError
  have J : InstAt s.heap e (eO C t none) C none := ⟨he, rfl, rfl, True.intro⟩
  refine set_plain X J c.sa ?_
  have hm : Looks (model prog w) s.heap (mroOf (.ref C)) (.ref C :: .ref R :: vmVE) := (Looks.ld hC).andThen .now
  have sub' : Looks (model prog w) s.heap (isInstance (.ref e) (.type "object")) true := J.type.andThen (looks_mroIn X c.rd.ob)
  refine codeAny_call_builtin SF.slot.plain SF.entry (@check_slot (model prog w) _ _ { s with toks := s.toks + 1 } "object.__setattr__" "object" "__setattr__" (.ref e) [.str "at" s.toks, v] [] _ SF.kind SF.split sub' (SF.args (.ref e) (.str "at" s.toks) v) ?_)
  rw [osa_eq, refuse_eq]
  refine wpAny_bind (wpAny_bind (Looks.here (s := { s with toks := s.toks + 1 }) J.type (wpAny_bind (Looks.here (s := { s with toks := s.toks + 1 }) hm ?_))))
  rw [refuseLoop_ref, refuseLoop_ref, SF.passes]
  refine wpAny_pure (wpAny_bind (Looks.here (s := { s with toks := s.toks + 1 }) J.type (wpAny_bind (Looks.here (s := { s with toks := s.toks + 1 }) (looks_findIn X c.nat) ?_))))
  refine wpAny_bind (wpAny_pure ?_)
  have hc : clsIn K C = some ⟨nm, bs, .ref C :: .ref R :: vmVE, N, q, true, sn, sub, ab, col, false⟩ := by
    obtain ⟨dd', nm', bs', ns', qn', sn', sub', ab', col', k0', k1', k2', k3', k5', e'⟩ := c.lk
    have := X _ _ e'
    rw [hC] at this
    cases this
    unfold clsIn
    rw [e']
  refine wpAny_bind (wpAny_pure (wpAny_bind (wpAny_bind (wpAny_loadPart he (wpAny_bind (Looks.here (s := { s with toks := s.toks + 1 }) (looks_clsIn X hc) ?_))))))
  rw [if_neg (by simp)]
  show wpAny _ _ (if (!true || !typeHasDict (Value.ref C)) = true then pure none else _) _ _ _
  rw [if_neg (by simp [typeHasDict])]
  have hs0 : e ≠ s.heap.objs.size := Nat.ne_of_lt (Heap.lt_size he)
  have he1 := Heap.get?_push_of_some { cls := .type "dict", data := .dict #[] } he
  refine wpAny_bind (wpAny_alloc' ?_)
  refine wpAny_bind (wpAny_update' he1 ?_)
  refine wpAny_pure ?_
  have he2 : ((s.heap.push { cls := .type "dict", data := .dict #[] }).update e fun o => { cls := o.cls, dict := some s.heap.objs.size, data := o.data, slots := o.slots }).get? e = some (eO C t (some s.heap.objs.size)) := Heap.get?_update_self _ he1 rfl
  have hd2 : ((s.heap.push { cls := .type "dict", data := .dict #[] }).update e fun o => { cls := o.cls, dict := some s.heap.objs.size, data := o.data, slots := o.slots }).get? s.heap.objs.size = some { cls := .type "dict", data := .dict #[] } :=
    (Heap.get?_update_ne _ _ _ _ hs0.symm).trans (Heap.get?_push_at rfl rfl)
  have kp : ∀ b o, b ≠ e → s.heap.get? b = some o → ((s.heap.push { cls := .type "dict", data := .dict #[] }).update e fun o => { cls := o.cls, dict := some s.heap.objs.size, data := o.data, slots := o.slots }).get? b = some o := fun b o n hb =>
    (Heap.get?_update_ne _ _ _ _ n).trans (Heap.get?_push_of_some _ hb)
  generalize ((s.heap.push { cls := .type "dict", data := .dict #[] }).update e fun o => { cls := o.cls, dict := some s.heap.objs.size, data := o.data, slots := o.slots }) = h2 at he2 hd2 kp ⊢
  have nd : h2.Ns s.heap.objs.size (fun _ => none) := ⟨_, #[], _, hd2, rfl, fun e he => absurd he (by simp), fun _ => rfl⟩
  show wpAny _ _ (Builtin.ObjectAttr.storeInDict s.heap.objs.size (.str "at" s.toks) "at" v) _ _ _
  unfold Builtin.ObjectAttr.storeInDict Builtin.ObjectAttr.newKeyGuard
  refine wpAny_bind (wpAny_pure (wpAny_bind (wpAny_nsSet1 (Heap.Ns1.of_empty nd) fun h3 hn3 hs3 => ?_)))
  obtain ⟨oD, esD, epD, hoD, hdD, hcD⟩ := hn3.count (Within.cons "at" v Within.nil)
  refine wpAny_bind (wpAny_lookBehind hoD (by rw [hdD]; exact pastItsLine_dict (Nat.le_trans hcD (by rw [List.length_cons, List.length_nil, sizeLine_eq]; omega))) ?_)
  refine wpAny_pure ?_
  exact k h3 _ (fun b o n hb => (hs3.2 b (Nat.ne_of_lt (Heap.lt_size hb))).trans (kp b o n hb)) ((hs3.2 e hs0).trans he2) hn3
/-- x.at of an own exception, caught or not -/
theorem get_at (c : XIni K C R fI) (X : K.In s.heap) {e d : Addr} {o : Obj} {mA : Str → Option Value} {v : Value} {expr : Bool} {Q : Value → Shared → Prop} (he : s.heap.get? e = some o) (hcl : o.cls = .ref C) (hnc : notCls o = true) (hd : o.dict = some d) (hn : s.heap.Ns1 d mA) (hv : mA "at" = some v) (hh : handedIn v = true)
    (k : Q v { s with toks := s.toks + 1 }) : wpAny (model prog w) A (getAttr (.ref e) "at" expr) Q XE s := by
  obtain ⟨od, hod, hl⟩ := lookIn_ns hn
  have J : InstAt s.heap e o C (some od) := ⟨he, hcl, hnc, by rw [hd]; exact hod⟩
  have hf : findObj K C (some od) "at" = some (.value v) := findObj_own c.hd c.nat rfl (by rw [hl, hv])
  have L0 := J.type (M := model prog w)
  have L1 := looks_findIn (M := model prog w) X c.rd.ga
  have L2 := looks_findIn (M := model prog w) X c.rd.gh
  have L3 := looks_mroIn (M := model prog w) X c.rd.bx
  have L4 := looks_find (M := model prog w) X J hf
  have FB := PySem.F.attr_ValueError
  obtain ⟨h, g, dr, tk, os⟩ := s
  dsimp only at X L0 L1 L2 L3 L4 k ⊢
  unfold getAttr getAttrBy
  refine wpAny_bind (wpAny_mkText (wpAny_holding (wpAny_bind (L0.at (wpAny_bind (L1.at ?_))))))
  show wpAny _ _ (getAttrByItsOwn _ _ _ _ _ _) _ _ _
  unfold getAttrByItsOwn hookBefore
  rw [if_pos (show onTheHeap (Value.ref C) = true from rfl)]
  refine wpAny_bind (L2.at (wpAny_bind (wpAny_attempt (wpAny_holding ?_))))
  unfold callGetattribute
  rw [show (expr && onTheHeap (Value.builtin "BaseException.__getattribute__")) = false from Bool.and_false _, if_neg (by decide)]
  unfold boundAndCalled
  rw [FB.ga.bind (.ref e)]
  refine wpAny_bind (wpAny_pure (wpAny_call ?_))
  refine codeAny_call_builtin FB.ga.plain PySem.F.entry_bexc_ga ?_
  refine check_exc L0 L3 ?_
  unfold Builtin.«object.__getattribute__»
  refine wpAny_bind (wpAny_pure (wpAny_bind (wpAny_pure (wpAny_bind (L0.here (wpAny_bind (L4.here ?_)))))))
  refine wpAny_pure ?_
  show wpAny _ _ (handedOut v) _ _ _
  rw [handedOut_of hh]
  exact wpAny_pure k
end
end L2


namespace L2
open PySem PySem.W PySem.Spec PySem.Calls PyProof.Rows
/-- an own exception being made: as yet without attributes, or with the dict d -/
def excM (e C : Addr) : HO := .ext fun h => ∃ t, h.get? e = some (eO C t none)
def excN (e C d : Addr) : HO := .ext fun h => ∃ t, h.get? e = some (eO C t (some d))
theorem excM_ok {P : Program} {w : World} {H : Hp} {h : Heap} {e C t : Addr} (x : h.get? e = some (eO C t none)) : ObjOk P w H h e (excM e C) :=
  ⟨⟨t, x⟩, ⟨_, x⟩, fun h1 h2 ⟨t', a⟩ k => ⟨t', k _ a⟩⟩
theorem excN_ok {P : Program} {w : World} {H : Hp} {h : Heap} {e C t d : Addr} (x : h.get? e = some (eO C t (some d))) : ObjOk P w H h e (excN e C d) :=
  ⟨⟨t, x⟩, ⟨_, x⟩, fun h1 h2 ⟨t', a⟩ k => ⟨t', k _ a⟩⟩
section
variable {X : Cx} {C R fI : Addr} {x : Str} {e v2 : Expr} {es : List Expr} {t : TA} {te : TE} {np apos pos p1 p2 p3 : Pos} {cc : Str} {j : Nat}
/-- f'..{e}', e a number -/
def tFstr (te : TE) : TE := fun σ H Q => te σ H fun v H1 => ∃ i : Int, v = .int i ∧ i.natAbs < 10 ^ 12 ∧ ∀ u : Str, Q (.str u) H1
theorem pe_fstr (he : PE X e te) (hc : cc.length ≤ 1000) : PE X (.JoinedStr [.Constant (.str cc) j p1, .FormattedValue e (-1) none p2] p3) (tFstr te) := by
  intro pins s σ H Q I h
  refine JoinedStr_many (joinParts_cons (Constant_str ⟨?_, joinParts_cons (FormattedValue_plain (thn (he pins _ σ H _ (I.tok _) h) fun u s1 ⟨v, H1, I1, r1, i, ev, hi, q⟩ => ?_))⟩))
  · rw [strLen_append]
    have : (Str.empty).length = 0 := rfl
    rw [sizeLine_eq]
    omega
  · subst ev
    obtain ⟨tk, rfl⟩ := (show ∃ tk, u = Value.int i tk from r1)
    have hl : i.natAbs.log2 < 1920 := by
      by_cases z : i.natAbs = 0
      · rw [z]; decide
      · refine (Nat.log2_lt z).mpr (Nat.lt_of_lt_of_le hi ?_)
        exact Nat.le_trans (show 10 ^ 12 ≤ 2 ^ 40 by decide) (Nat.pow_le_pow_right (by decide) (by decide))
    refine formatField_int_small hl ⟨?_, joinParts_nil ⟨.str _, H1, I1.tok _, ⟨_, rfl⟩, q _⟩ ?_⟩
    all_goals
      have h10 := int_text_length_le10 (a := i) (k := 12) (by decide) hi
      have h11 : (Str.ofString (toString i)).length = (toString i).length := PySem.ofString_length _
      have h12 : (Str.empty).length = 0 := rfl
      rw [strLen_append, strLen_append, sizeLine_eq, h11]
      omega
/-- RowError.__init__(self, ..) -/
def tXini (C : Addr) (t : TA) : TE := fun σ H Q => t σ H fun vs H1 => ∃ e y, vs = [.ref e, y] ∧ H1 e = some (excM e C) ∧ Q .non (upd H1 e (excM e C))
theorem pe_xini {pl : Sem Bool} (c : XIni X.K C R fI) (hg : Gl X x) (hm : X.mg x = some (.ref R)) (ha : PA X (e :: es) t)
    (ht : eval (.Call (.Attribute (.Name x np) "__init__" apos) (e :: es) [] pos) X.env = (do
      let ov ← eval (.Name x np) X.env
      standAt apos.atName
      let (f, first) ← holding [ov] (getMethod ov "__init__" pl)
      callWith pos f first (backTo pos (starEach (e :: es) X.env)) (backToKw pos (keywordEach [] X.env))) := by rfl)
    (he : starEach (e :: es) X.env = (false, eval e X.env) :: starEach es X.env := by rfl) (hpl : (backTo pos (starEach es X.env)).any (·.1) = false := by rfl) (hdb : (x == ("__debug__" : Str)) = false := by decide) :
    PE X (.Call (.Attribute (.Name x np) "__init__" apos) (e :: es) [] pos) (tXini C t) := by
  intro pins s σ H Q I h
  refine methodCall_KW (pl := pl) (ld_glob I hg hm ?_ hdb) ht
  refine method_cls I.kIn c.sg (cls_value I.kIn c.rr c.fi rfl ?_)
  refine callWith_builtin1 (thn (ha pos pins _ σ H _ (I.tok _) h) fun us s1 ⟨vs, H1, I1, r1, e0, y, ev, hx, q⟩ => ?_) he hpl
  subst ev
  cases r1 with
  | cons r1 r2 =>
    cases r2 with
    | cons r2 r3 =>
      cases r3
      obtain rfl : _ = Value.ref e0 := r1
      obtain ⟨t0, ht0⟩ := (I1.hok e0 _ hx).1
      exact base_ini c I1.kIn ht0 fun h' kp e2 => ⟨.non, _, I1.write (x := e0) (e := e0) (t' := s1.toks) (by rw [hx]; exact True.intro) (.inl rfl) kp ⟨_, e2⟩ (excM_ok e2), rfl, q⟩
/-- self.at = e -/
def sXat (C : Addr) (ta tv : TE) : TS := fun D σ H => tv σ H fun y H1 => ta σ H1 fun z H2 => ∃ e0, z = .ref e0 ∧ H2 e0 = some (excM e0 C) ∧ ∀ d, H2 d = none → d ≠ e0 → D.nx σ (upd (upd H2 d (.xd [("at", y)])) e0 (excN e0 C d))
theorem RelO_at {y : V} {u : Value} (r : RelV y u) (f : Str) : RelO (([("at", y)] : List (Str × V)).lookup f) (if f = "at" then some u else none) := by
  by_cases h : f = "at"
  · subst h
    rw [if_pos rfl, List.lookup_cons_self]
    exact r
  · rw [if_neg h, List.lookup_cons, show (f == ("at" : Str)) = false from beq_eq_false_iff_ne.mpr h]
    exact True.intro
theorem ps_xat {o value : Expr} {ta tv : TE} {pos' : Pos} (c : XIni X.K C R fI) (ha : PE X o ta) (hv : PE X value tv) (hs : swapsWith value (some (.Attribute o "at" pos')) pos.line X.env = pure false) : PS X (.Assign [.Attribute o "at" pos'] value pos) (sXat C ta tv) := by
  intro pins s σ H D I h
  refine plainObj_wpAny_Assign_Attribute (thn (hv pins s σ H _ I h) fun u s1 ⟨y, H1, I1, ry, q⟩ => thn (ha pins s1 σ H1 _ I1 q) fun ov s2 ⟨z, H2, I2, rz, e0, ez, hx, q2⟩ => ?_) hs
  subst ez
  obtain rfl : ov = Value.ref e0 := rz
  obtain ⟨t0, ht0⟩ := (I2.hok e0 _ hx).1
  refine set_at c I2.kIn ht0 fun h' tk kp e2 ns => ?_
  have n0 : s2.heap.objs.size ≠ e0 := Nat.ne_of_gt (Heap.lt_size ht0)
  obtain ⟨oD, esD, epD, hoD, rD⟩ := id ns
  have fr : oD.isFreed = false := (Heap.get?_some_iff.mp hoD).2
  have g1 : (s2.heap.push oD).get? s2.heap.objs.size = some oD := Heap.get?_push_size s2.heap fr
  have I3 := I2.laid (a := s2.heap.objs.size) (o := .xd [("at", y)]) (h' := s2.heap.push oD) (t' := tk) (fun b u e => Heap.get?_push_of_some _ e) (Nat.le_refl _) ⟨_, ⟨oD, esD, epD, g1, rD⟩, RelO_at ry⟩
  have I4 := I3.write (x := e0) (e := e0) (o := excN e0 C s2.heap.objs.size) (h' := h') (t' := tk) (by rw [upd_ne n0.symm, hx]; exact True.intro) (.inl rfl) (fun b u n e => ?_) ⟨_, e2⟩ (excN_ok e2)
  · exact ⟨σ, _, I4, q2 _ I2.fresh n0⟩
  · by_cases hb : b = s2.heap.objs.size
    · subst hb
      rw [g1] at e
      cases e
      exact hoD
    · refine kp b u n ?_
      rw [← e]
      exact (Heap.get?_push_ne _ _ _ hb).symm
end
end L2


namespace L2
open PySem PySem.W PySem.Spec PySem.Calls PyProof.Rows
/-- what the __init__ of such a class does -/
def spXI (C : Addr) : Sp := fun vs H Q _ => ∃ (e : Addr) (i : Int), vs = [.ref e, .int i] ∧ H e = some (excM e C) ∧ i.natAbs < 10 ^ 12 ∧ ∀ d, H d = none → d ≠ e → Q .non (upd (upd H d (.xd [("at", .int i)])) e (excN e C d))
theorem upd3 {H : Hp} {e d : Addr} {a b c : HO} (n : d ≠ e) : upd (upd (upd H e a) d b) e c = upd (upd H d b) e c := by
  funext x
  unfold upd
  by_cases h : x = e
  · simp [h]
  · by_cases h2 : x = d
    · simp [h, h2]
    · simp [h, h2]
/-- a heap without e -/
def rm (H : Hp) (e : Addr) : Hp := fun c => if c = e then none else H c
theorem rm_ne {H : Hp} {e c : Addr} (h : c ≠ e) : rm H e c = H c := by
  unfold rm
  rw [if_neg h]
theorem rm_same {H : Hp} {e : Addr} : rm H e e = none := by
  unfold rm
  rw [if_pos rfl]
theorem rm_upd2 {H : Hp} {e d : Addr} {a b : HO} (n : d ≠ e) (he : H e = none) : rm (upd (upd H d a) e b) e = upd H d a := by
  funext x
  by_cases h : x = e
  · subst h
    rw [rm_same, upd_ne n.symm, he]
  · rw [rm_ne h, upd_ne h]
/-- it flies over B; B has all that stood at the call (but the callers' frames) and all that is tracked; od its dict -/
def CX2 (P : Program) (w : World) : CXT := fun outer H s E e s' => ∃ (ea : Addr) (cls a0 : Value) (od : Option Addr) (H' : Hp) (B : Heap), e = .ref ea ∧ B.FlyingW outer ea cls a0 s'.heap ∧ Dct s'.heap ea od ∧
  (∀ b o, s.heap.get? b = some o → b ∉ frs outer → ∃ o', B.get? b = some o') ∧ (∀ b o, H' b = some o → ∃ o', B.get? b = some o') ∧
  s'.os = s.os ∧ AllBare s'.gens ∧ Un (frs outer) [] H H' s.heap s'.heap ∧ HOk P w H' s'.heap ∧ E cls od H'
section
variable {X : Cx} {C R f : Addr} {fd : FuncData} {k : Nat}
/-- C(i), its __init__ run -/
theorem run_mkx {pins : List (Addr × Obj)} {σ : St} {H : Hp} {s : Shared} {i : Int} {us : List Value} {Q : VK} {XE : Value → Shared → Prop} (c : XIni X.K C R f) (F : FnOk X.prog X.w X.K X.mg X.base CX0 k f fd ["self", "at"] (spXI C)) (hr : Room (k + 1) X.A) (hb : Binds X.K fd ["self", "at"] []) (I : Inv X pins σ H s) (r : Vals [.int i] us) (hi : i.natAbs < 10 ^ 12)
    (h : ∀ e d, s.heap.objs.size ≤ e → H e = none → H d = none → d ≠ e → Q (.ref e) (upd (upd H d (.xd [("at", .int i)])) e (excN e C d))) : wpAny (model X.prog X.w) X.A (call (.ref C) us) (EP X pins σ Q) XE s := by
  have hz : us.length ≤ sizeLine := by
    rw [← r.length, sizeLine_eq]
    show 1 ≤ 16777216
    decide
  have I1 := I.kept (t' := s.toks) (h' := s.heap.push { cls := .type "tuple", data := .seq us.toArray }) (fun b u e => Heap.get?_push_of_some _ e)
  have he : ((s.heap.push { cls := .type "tuple", data := .seq us.toArray }).push (eO C s.heap.objs.size none)).get? (s.heap.objs.size + 1) = some (eO C s.heap.objs.size none) := by heap_get
  have I2 := I1.laid (a := s.heap.objs.size + 1) (o := excM (s.heap.objs.size + 1) C) (t' := s.toks) (h' := (s.heap.push { cls := .type "tuple", data := .seq us.toArray }).push (eO C s.heap.objs.size none)) (fun b u e => Heap.get?_push_of_some _ e) (Nat.le_of_eq (Heap.size_push _ _)) (excM_ok he)
  have hn : H (s.heap.objs.size + 1) = none := I.hok.fresh (Nat.le_succ _)
  have r2 : Vals (V.ref (s.heap.objs.size + 1) :: [V.int i]) (Value.ref (s.heap.objs.size + 1) :: us) := .cons rfl r
  have hl : (Value.ref (s.heap.objs.size + 1) :: us ++ []).length = ["self", "at"].length := by
    have e := r2.length
    rw [List.append_nil]
    exact e.symm
  have hq : spXI C [V.ref (s.heap.objs.size + 1), V.int i] (upd H (s.heap.objs.size + 1) (excM (s.heap.objs.size + 1) C)) (fun v H2 => v = .non ∧ Q (.ref (s.heap.objs.size + 1)) H2) E0 := by
    refine ⟨_, i, rfl, upd_same, hi, fun d hd ne => ⟨rfl, ?_⟩⟩
    rw [upd3 ne]
    rw [upd_ne ne] at hd
    exact h _ d (Nat.le_succ _) hn hd ne
  refine call_ini c I.kIn hz (wpAny_call (codeAny_mono (F.run _ X.stack _ _ ⟨Value.ref (s.heap.objs.size + 1) :: us, []⟩ (Value.ref (s.heap.objs.size + 1) :: us) _ _ E0 (hr.make C us []) (I2.env0.make C us []) (by have := hb _ (Value.ref (s.heap.objs.size + 1) :: us) I2.kIn hl; rw [List.append_nil] at this; exact this) r2 hq) fun r s' hq' => ?_))
  cases r with
  | error e => exact False.elim hq'
  | ok fl =>
    cases fl with
    | ret u =>
      obtain ⟨v, H', I3, rv, ev, q3⟩ := I2.after hq'
      subst ev
      exact ⟨rv, ⟨V.ref (s.heap.objs.size + 1), H', I3, rfl, q3⟩⟩
    | next => exact False.elim hq'
    | brk => exact False.elim hq'
    | cont => exact False.elim hq'
theorem raise_made {M : Model} {A : Around} {XE : Value → Shared → Prop} {K : PySem.W.Frag} {s : Shared} {env : Env} {z : Sem Value} {Q : Flow → Shared → Prop} (c : XIni K C R f) (hh : A.handled = none)
    (h : wpAny M A z (fun v s1 => ∃ e t od, v = .ref e ∧ K.In s1.heap ∧ s1.heap.get? e = some (eO C t od) ∧ XE (.ref e) s1) XE s) : wpAny M A (raiseStmt env (some z) none) Q XE s := by
  have hcB : (Value.ref C :: .ref R :: vmVE).contains (.type "BaseException") = true := by simp
  unfold raiseStmt
  refine wpAny_bind (wpAny_mono h (fun v s1 h1 => ?_) fun _ _ x => x)
  obtain ⟨e, t, od, rfl, X, he, hE⟩ := h1
  obtain ⟨N, nm, q, bs, sn, sub, ab, col, dd, k0, k1, k2, k3, k5, hC⟩ := c.obj X
  obtain ⟨hp, g, d, tk, os⟩ := s1
  dsimp only at hC he X
  repeat (first | with_reducible refine wpAny_loadPart_at he ?_ | with_reducible refine wpAny_loadPart_at hC ?_ | (with_reducible refine wpAny_isSubtype_exc hC ?_; rw [hcB]) | wp_step)
  exact wpAny_raiseNew_none hh hE
end
end L2


namespace L2
open PySem PySem.W PySem.Spec PySem.Calls PyProof.Rows
/-- raise C(i) -/
def sRaiseC (C : Addr) (t : TA) (E : XK) : TS := fun _ σ H => t σ H fun vs H1 => ∃ i : Int, vs = [.int i] ∧ i.natAbs < 10 ^ 12 ∧ ∀ d, H1 d = none → E (.ref C) (some d) (upd H1 d (.xd [("at", .int i)]))
section
variable {P : Program} {w : World} {K : PySem.W.Frag} {mg : Str → Option Value} {base : Heap} {N : List Str} {qual : Str} {scope : Scope} {f : Addr} {cd : Value} {A : Around} {outer : List Env} {s₀ : Shared} {H₀ : Hp} {E : XK}
theorem ps_raiseC {C R fI : Addr} {fd : FuncData} {k : Nat} {x : Str} {np cpos pos : Pos} {a : Expr} {as : List Expr} {t : TA} (c : XIni K C R fI) (kp : keepIn K (.ref C) = true) (F : FnOk P w K mg base CX0 k fI fd ["self", "at"] (spXI C)) (hb : Binds K fd ["self", "at"] []) (hr : Room (k + 1) (A.deeper (envOfC qual scope s₀.heap.objs.size f cd))) (hm : mg x = some (.ref C))
    (hg : Gl (cxOf (CX2 P w) P w K mg base N qual scope f cd A outer s₀ H₀ E) x) (ha : PA (cxOf (CX2 P w) P w K mg base N qual scope f cd A outer s₀ H₀ E) (a :: as) t) (hd : (x == ("__debug__" : Str)) = false := by decide)
    (he : starEach (a :: as) (cxOf (CX2 P w) P w K mg base N qual scope f cd A outer s₀ H₀ E).env = (false, eval a (cxOf (CX2 P w) P w K mg base N qual scope f cd A outer s₀ H₀ E).env) :: starEach as (cxOf (CX2 P w) P w K mg base N qual scope f cd A outer s₀ H₀ E).env := by rfl)
    (hpl : (backTo cpos (starEach as (cxOf (CX2 P w) P w K mg base N qual scope f cd A outer s₀ H₀ E).env)).any (·.1) = false := by rfl) :
    PS (cxOf (CX2 P w) P w K mg base N qual scope f cd A outer s₀ H₀ E) (.Raise (some (.Call (.Name x np) (a :: as) [] cpos)) none pos) (sRaiseC C t E) := by
  intro pins s σ H D I h
  have hr' : Room (k + 1) (cxOf (CX2 P w) P w K mg base N qual scope f cd A outer s₀ H₀ E).A := hr
  rw [arm_exec_Raise]
  refine wpAny_bind (wpAny_standAt (raise_made c (I.ok.hd rfl) (wpAny_bind (wpAny_mono (wpAny_Call_Name_kw (ld_glob I hg hm (callWith_K (h₀ := base) I.ok.mod.kin kp (thn (ha cpos pins s σ H _ I h) fun us s1 ⟨vs, H1, I1, r, i, ev, hi, q⟩ => ⟨I1.kIn, ?_⟩) he hpl) hd)) (fun v s3 h3 => wpAny_bind (wpAny_standAt (wpAny_pure h3))) fun _ _ z => z))))
  subst ev
  refine thn (run_mkx (Q := fun v H2 => ∃ e d, v = .ref e ∧ s1.heap.objs.size ≤ e ∧ H1 e = none ∧ H1 d = none ∧ d ≠ e ∧ H2 = upd (upd H1 d (.xd [("at", .int i)])) e (excN e C d)) c F hr' hb I1 r hi fun e d h0 h1 h2 h3 => ⟨e, d, rfl, h0, h1, h2, h3, rfl⟩) fun v s4 hv => ?_
  obtain ⟨vv, H4, I4, rv, e, d, rfl, ge, ne, nd, de, hH4⟩ := hv
  obtain rfl : v = Value.ref e := rv
  have H4e : H4 e = some (excN e C d) := by rw [hH4, upd_same]
  have hrm : rm H4 e = upd H1 d (.xd [("at", .int i)]) := by rw [hH4]; exact rm_upd2 de ne
  obtain ⟨t0, ht0⟩ := (I4.hok e _ H4e).1
  refine ⟨e, t0, some d, rfl, I4.kIn, ht0, ?_⟩
  have bk := I4.bk
  have stk : ∀ {b o}, s₀.heap.get? b = some o → b ∉ frs outer → b ∉ frs ((envOfC qual scope s₀.heap.objs.size f cd) :: outer) := fun {b o} hb nf hx => by
    rcases List.mem_cons.mp (I4.stkSub b hx) with e | e
    · have h1 := Heap.lt_size hb
      have h2 : s₀.heap.objs.size ≤ (envOfC qual scope s₀.heap.objs.size f cd).locals := I4.ok.above
      have e : b = (envOfC qual scope s₀.heap.objs.size f cd).locals := e
      rw [e] at h1
      exact absurd h1 (Nat.not_lt.mpr h2)
    · exact nf e
  have ub : Un (frs outer) [] H₀ H4 s₀.heap s4.heap := I4.base
  have old : ∀ {b o}, s₀.heap.get? b = some o → b ≠ e := fun {b o} hb z => by
    have h1 := Heap.lt_size hb
    have h2 : s₀.heap.objs.size ≤ s1.heap.objs.size := I1.sz
    exact absurd h1 (Nat.not_lt.mpr (Nat.le_trans h2 (z ▸ ge)))
  have hk : ∀ {b o}, H4 b = some o → b ∉ frs ((envOfC qual scope s₀.heap.objs.size f cd) :: outer) := fun {b o} hb hx => by
    have := I4.stkFree b hx
    rw [hb] at this
    cases this
  have nin : ∀ {b}, b ∉ frs ((envOfC qual scope s₀.heap.objs.size f cd) :: outer) → b ≠ e → b ∉ frs ((envOfC qual scope s₀.heap.objs.size f cd) :: outer) ++ [e] := fun {b} h1 h2 h3 => by
    rcases List.mem_append.mp h3 with h | h
    · exact h1 h
    · exact h2 (by simpa using h)
  refine leavesD (B := less s4.heap (frs ((envOfC qual scope s₀.heap.objs.size f cd) :: outer) ++ [e])) (L := (envOfC qual scope s₀.heap.objs.size f cd).locals) I4.ok.frames (less_funs I4.stack fun b h => List.mem_append_left _ h) rfl ht0 less_stays (less_in (by simp)) rfl rfl rfl fun h'' fly up dc => ?_
  have stay : ∀ {b u}, b ∉ frs ((envOfC qual scope s₀.heap.objs.size f cd) :: outer) → b ≠ e → s4.heap.get? b = some u → h''.get? b = some u := fun {b u} hb hn hu => fly.1 b u (by rw [less_out (nin hb hn)]; exact hu)
  have notE : ∀ {b o}, rm H4 e b = some o → b ≠ e ∧ H4 b = some o := fun {b o} hb => by
    by_cases z : b = e
    · rw [z, rm_same] at hb; cases hb
    · exact ⟨z, by rw [rm_ne z] at hb; exact hb⟩
  have keepH : ∀ {b o}, H4 b = some o → (∀ φ, o ≠ .ext φ) → rm H4 e b = some o := fun {b o} hb n => by
    have z : b ≠ e := fun z => by
      rw [z, H4e] at hb
      cases hb
      exact n _ rfl
    rw [rm_ne z]
    exact hb
  have slots : ∀ b o, s₀.heap.get? b = some o → H₀ b = none → b ∈ frs outer → ∃ sl, h''.get? b = some { o with slots := sl } := fun b o e n hb => by
    obtain ⟨sl, e1⟩ := ub.slot b o e n hb (by simp)
    obtain ⟨_, o2, e2, nf⟩ := I4.funs.mem hb
    rw [e1] at e2
    cases e2
    obtain ⟨sl', e3⟩ := up b _ e1 nf
    exact ⟨sl', e3⟩
  refine ⟨e, .ref C, .ref t0, some d, rm H4 e, _, rfl, fly, dc, fun b o hb nf => ?_, fun b o hb => ?_, I4.os, I4.bare, ⟨fun b o e n nf nx => stay (stk e nf) (old e) (ub.keep b o e n nf nx), fun b o e n hb _ => slots b o e n hb, fun b o e n hx => ?_, fun b o e nx => ?_, fun b xs e => keepH (ub.tups b xs e) (by intro _ z; cases z), fun b o u e => keepH (ub.frzs b o u e) (by intro _ z; cases z), fun b ps e => ?_⟩, fun a o ha => ?_, by rw [hrm]; exact q d nd⟩
  · obtain ⟨o', e'⟩ := ub.there b o hb (by simp)
    exact ⟨o', by rw [less_out (nin (stk hb nf) (old hb))]; exact e'⟩
  · obtain ⟨z, hb⟩ := notE hb
    obtain ⟨o', e'⟩ := (I4.hok b o hb).some_
    exact ⟨o', by rw [less_out (nin (hk hb) z)]; exact e'⟩
  · rw [rm_ne (old e)]
    exact ub.free b o e n hx
  · by_cases hb : b ∈ frs outer
    · obtain ⟨_, o2, e2, nf⟩ := I4.funs.mem hb
      obtain ⟨sl', e3⟩ := up b _ e2 nf
      exact ⟨_, e3⟩
    · obtain ⟨o', e'⟩ := ub.there b o e nx
      exact ⟨o', stay (stk e hb) (old e) e'⟩
  · obtain ⟨more, z⟩ := ub.tbls b ps e
    exact ⟨more, keepH z (by intro _ z; cases z)⟩
  · obtain ⟨z, ha⟩ := notE ha
    refine (I4.hok a o ha).stay (fun b u hc q => ?_) (fun c q => keepH q (by intro _ z; cases z)) (fun c xs q => keepH q (by intro _ z; cases z))
    rcases hc with rfl | hc
    · exact stay (hk ha) z q
    · refine stay (hk hc) (fun z => ?_) q
      rw [z, H4e] at hc
      cases hc
end
end L2


namespace L2
open PySem PySem.W PySem.Spec PySem.Calls PyProof.Rows
/-- a caught exception's object, of the class cls, its dict od -/
def excD (ea : Addr) (cls : Value) (od : Option Addr) : HO := .ext fun h => ∃ o, h.get? ea = some o ∧ o.cls = cls ∧ notCls o = true ∧ o.dict = od
section
variable {X : Cx} {pins : List (Addr × Obj)} {σ : St} {H : Hp} {s : Shared}
theorem Inv.trackD {ea : Addr} {cls : Value} {od : Option Addr} (I : Inv X pins σ H s) (hn : H ea = none) (hs₀ : X.s₀.heap.get? ea = none) (hne : ea ≠ X.env.locals) (hc : ∀ x c, X.env.cells.lookup x = some c → c ≠ ea) (hp : ∀ p ∈ X.pn ++ pins, p.1 ≠ ea) (ho : ∃ o, s.heap.get? ea = some o ∧ o.cls = cls ∧ notCls o = true ∧ o.dict = od) :
    Inv X pins σ (upd H ea (excD ea cls od)) s := by
  have ne : ∀ {b}, b ≠ ea → upd H ea (excD ea cls od) b = H b := fun h => upd_ne h
  have old : ∀ {b o}, X.s₀.heap.get? b = some o → b ≠ ea := fun {b o} h z => by rw [z, hs₀] at h; cases h
  refine ⟨I.ok, I.os, I.bare, ⟨I.base.keep, I.base.slot, fun b o e n hx => ?_, I.base.there, fun b xs e => ?_, fun b o u e => ?_, fun b ps e => ?_⟩, I.loc, I.cell, ?_, fun x c e => ?_, fun p hp' => ?_, fun b o e => ?_, I.len⟩
  · rw [ne (old e)]; exact I.base.free b o e n hx
  · have := I.base.tups b xs e
    rw [ne (ne_of_none this hn)]; exact this
  · have := I.base.frzs b o u e
    rw [ne (ne_of_none this hn)]; exact this
  · obtain ⟨more, this⟩ := I.base.tbls b ps e
    exact ⟨more, by rw [ne (ne_of_none this hn)]; exact this⟩
  · rw [ne hne.symm]; exact I.free
  · rw [ne (hc x c e)]; exact I.freeC x c e
  · obtain ⟨a1, a2, a3⟩ := I.pin p hp'
    exact ⟨a1, by rw [ne (hp p hp')]; exact a2, a3⟩
  · by_cases hb : b = ea
    · subst hb
      rw [upd_same] at e
      cases e
      obtain ⟨o, h1, h2⟩ := ho
      exact ⟨⟨o, h1, h2⟩, ⟨o, h1⟩, fun h1 h2 ⟨o, a, b⟩ k => ⟨o, k o a, b⟩⟩
    · rw [ne hb] at e
      exact (I.hok b o e).stay (fun c u _ q => q) (fun c q => by rw [ne (ne_of_none q hn)]; exact q) (fun c xs q => by rw [ne (ne_of_none q hn)]; exact q)
end
section
variable {X : Cx} {pins : List (Addr × Obj)} {σ : St}
/-- an exception of a callee has come to the body's try: it lands -/
theorem caughtD {H : Hp} {s s' : Shared} {e : Value} {E : XK} {L : Addr} {hs : List ExceptHandler} {Q : Flow → Shared → Prop} {XE : Value → Shared → Prop} (I : Inv X pins σ H s) (hst : X.stack = X.env :: X.outer) (hL : X.env.frame = some L) (cx : CX2 X.prog X.w X.stack H s E e s')
    (k : ∀ (ea : Addr) (cls a0 : Value) (od : Option Addr) (H' : Hp) (B : Heap) (s2 : Shared), e = .ref ea → E cls od H' → Dct s2.heap ea od → Inv X pins σ H' s2 → B.FlyingW X.stack ea cls a0 s2.heap → (∀ b o, H' b = some o → ∃ o', B.get? b = some o') → (∀ b o, s.heap.get? b = some o → b ∉ frs X.stack → ∃ o', B.get? b = some o') →
      (∀ h6, B.FlyingW X.stack ea cls a0 h6 → s2.heap.UpToSlots h6 → Inv X pins σ H' { s2 with heap := h6 }) → wpAny (model X.prog X.w) X.A (handleBy e X.env hs) Q XE s2) :
    wpAny (model X.prog X.w) X.A (noteFrame e X.env) (fun _ s2 => wpAny (model X.prog X.w) X.A (setFlight e none) (fun _ s3 => wpAny (model X.prog X.w) X.A (handleBy e X.env hs) Q XE s3) XE s2) XE s' := by
  obtain ⟨ea, cls, a0, od, H', B, rfl, fly, dc, hB, hH, os, bare, un, hok, hE⟩ := cx
  obtain ⟨T, be, bT, fly2⟩ := fly_less fly
  have fly2' := fly2
  rw [hst] at fly2'
  have apart : ∀ {b o}, B.get? b = some o → b ∉ frs X.stack → b ∉ frs X.stack ++ [ea, T] := fun {b o} hb nf hx => by
    rcases List.mem_append.mp hx with h | h
    · exact nf h
    · rcases (show b = ea ∨ b = T by simpa using h) with rfl | rfl
      · rw [be] at hb; cases hb
      · rw [bT] at hb; cases hb
  have fr' : ∀ b ∈ frs X.stack, H' b = none := fun b hb => by
    obtain ⟨_, o, ho, _⟩ := I.stack.mem hb
    exact un.free b o ho (I.stkFree b hb) (by simp)
  refine looksD (B := less s'.heap (frs (X.env :: X.outer) ++ [ea, T])) (by rw [I.ok.frames, hst]) hL (by rw [← hst] at fly2' ⊢; exact fly2') dc fun h4 held4 up4 dc4 => ?_
  refine landsD (s := { s' with heap := h4 }) held4 dc4 fun h5 fly5 up5 dc5 => ?_
  have up := up4.trans up5
  rw [← hst] at fly5
  have kH : ∀ {b o}, H' b = some o → b ∉ frs X.stack ++ [ea, T] := fun {b o} hb => by
    obtain ⟨o', h1⟩ := hH b o hb
    exact apart h1 fun z => by rw [fr' b z] at hb; cases hb
  have inv : ∀ h5, (less s'.heap (frs X.stack ++ [ea, T])).FlyingW X.stack ea cls a0 h5 → s'.heap.UpToSlots h5 → Inv X pins σ H' { s' with heap := h5 } := fun h5 fly5 up => by
    have stay : ∀ {b u}, b ∉ frs X.stack ++ [ea, T] → s'.heap.get? b = some u → h5.get? b = some u := fun {b u} hb hu => fly5.1 b u (by rw [less_out hb]; exact hu)
    have up1 : ∀ b o, s'.heap.get? b = some o → b ∈ frs X.stack → ∃ sl, h5.get? b = some { o with slots := sl } := fun b o ho hb => by
      obtain ⟨_, o2, e2, nf⟩ := fly.2.2.1.mem hb
      rw [ho] at e2
      cases e2
      exact up b o ho nf
    have un5 : Un (frs X.stack) [] H H' s.heap h5 := by
      refine ⟨fun b o e n nf nx => ?_, fun b o e n hb nx => ?_, un.free, fun b o e nx => ?_, un.tups, un.frzs, un.tbls⟩
      · obtain ⟨o', hb⟩ := hB b o e nf
        exact stay (apart hb nf) (un.keep b o e n nf nx)
      · obtain ⟨sl, e1⟩ := un.slot b o e n hb nx
        obtain ⟨sl', e2⟩ := up1 b _ e1 hb
        exact ⟨sl', e2⟩
      · obtain ⟨o', e1⟩ := un.there b o e nx
        by_cases hb : b ∈ frs X.stack
        · obtain ⟨sl', e2⟩ := up1 b _ e1 hb
          exact ⟨_, e2⟩
        · obtain ⟨o2, h2⟩ := hB b o e hb
          exact ⟨o', stay (apart h2 hb) e1⟩
    have hok5 : HOk X.prog X.w H' h5 := fun a o e => (hok a o e).stay (fun b u hc q => by
      rcases hc with rfl | hc
      · exact stay (kH e) q
      · exact stay (kH hc) q) (fun _ q => q) fun _ _ q => q
    exact I.call' (s' := { s' with heap := h5 }) (ch := []) os un5 hok5 bare (fun b z => absurd z (by simp))
  refine k ea cls a0 od H' (less s'.heap (frs X.stack ++ [ea, T])) _ rfl hE dc5 (inv h5 fly5 up) fly5 (fun b o hb => ?_) (fun b o hb nf => ?_) (fun h6 f6 u6 => inv h6 f6 (up.trans u6))
  · obtain ⟨u, hu⟩ := (hok b o hb).some_
    exact ⟨u, by rw [less_out (kH hb)]; exact hu⟩
  · obtain ⟨o2, h2⟩ := hB b o hb nf
    obtain ⟨o', e1⟩ := un.there b o hb (by simp)
    exact ⟨o', by rw [less_out (apart h2 nf)]; exact e1⟩
end
section
variable {X : Cx} {k : Nat} {f cR : Addr} {fd : FuncData} {ps : List Str} {sp : Sp} {dvs : List V} {ds : List Value} {x g n : Str} {np gp pos p2 p3 p4 : Pos} {a : Expr} {as : List Expr} {t : TA} {ts : TS} {i : Nat} {b₀ : Stmt} {suite : List Stmt} {L : Addr}
theorem run_fnD {pins : List (Addr × Obj)} {σ : St} {H : Hp} {s : Shared} {Q : VK} {E : XK} {us : List Value} {vs : List V} {XE : Value → Shared → Prop} (F : FnOk X.prog X.w X.K X.mg X.base (CX2 X.prog X.w) k f fd ps sp) (hr : Room k X.A) (hb : Binds X.K fd ps ds) (hd : Vals dvs ds)
    (I : Inv X pins σ H s) (r : Vals vs us) (h : sp (vs ++ dvs) H Q E) (hx : ∀ e s', CX2 X.prog X.w X.stack H s E e s' → XE e s') : wpAny (model X.prog X.w) X.A (call (.ref f) us) (EP X pins σ Q) XE s := by
  have r2 : Vals (vs ++ dvs) (us ++ ds) := r.append hd
  have hl : (us ++ ds).length = ps.length := by rw [← r2.length]; exact F.len _ _ _ _ h
  refine wpAny_call (codeAny_mono (F.run X.A X.stack s H ⟨us, []⟩ (us ++ ds) (vs ++ dvs) Q E hr I.env0 (hb s us I.kIn hl) r2 h) fun r s' hq => ?_)
  cases r with
  | error e => exact hx e s' hq
  | ok fl =>
    cases fl with
    | ret u => exact I.after hq
    | next => exact False.elim hq
    | brk => exact False.elim hq
    | cont => exact False.elim hq
end
end L2


namespace L2
open PySem PySem.W PySem.Spec PySem.Calls PyProof.Rows
section
variable {X : Cx} {C R fI : Addr} {Bn : String}
/-- isinstance(e, c), e a caught exception of the own class C -/
def rIsD (K : PySem.W.Frag) (C : Addr) : List V → Hp → VK → Prop := fun xs H Q => ∃ (ea : Addr) (od : Option Addr) (c : V) (b : Bool), xs = [.ref ea, c] ∧ H ea = some (excD ea (.ref C) od) ∧ (∀ cv, RelV c cv → kitOne K (.ref C) cv = some b) ∧ Q (.bl b) H
theorem call_isd (R : XRead X.K C) (FB : ExcAttrFacts Bn) : CallR X (.builtin "isinstance") (rIsD X.K C) := by
  intro pins s σ H xs us Q I r h
  obtain ⟨ea, od, c, b, rfl, he, hk, q⟩ := h
  cases r with
  | cons r1 r =>
    cases r with
    | cons r2 r =>
      cases r
      cases r1
      obtain ⟨o, h1, h2, _⟩ := (I.hok ea _ he).1
      exact kia_one (kitx_exc (ea := ea) R FB) I.kIn ⟨o, h1, h2⟩ (hk _ r2) (by intro z; cases z) fun tk => ⟨.bl b, H, I.tok tk, rfl, q⟩
/-- e.at of a caught one -/
def tXat (C : Addr) (ta : TE) : TE := fun σ H Q => ta σ H fun x H1 => ∃ (ea d : Addr) (i : Int), x = .ref ea ∧ H1 ea = some (excD ea (.ref C) (some d)) ∧ H1 d = some (.xd [("at", .int i)]) ∧ Q (.int i) H1
theorem pe_xat {o : Expr} {ta : TE} {pos : Pos} (c : XIni X.K C R fI) (ha : PE X o ta) (hb : attributeBase o "at" X.env (eval o X.env) = eval o X.env := by rfl) : PE X (.Attribute o "at" pos) (tXat C ta) := by
  intro pins s σ H Q I h
  refine attr_of hb (thn (ha pins s σ H _ I h) fun u s1 ⟨x, H1, I1, r1, ea, d, i, ex, he, hd, q⟩ => ?_)
  subst ex
  obtain rfl : u = Value.ref ea := r1
  obtain ⟨ob, h1, h2, h3, h4⟩ := (I1.hok ea _ he).1
  obtain ⟨mA, ns, rl⟩ := (show ObjOk X.prog X.w H1 s1.heap d (.xd [("at", .int i)]) from I1.hok d _ hd)
  have ra := rl "at"
  rw [List.lookup_cons_self] at ra
  cases hv : mA "at" with
  | none => rw [hv] at ra; exact False.elim ra
  | some v =>
    rw [hv] at ra
    obtain ⟨tk, rfl⟩ := (show ∃ tk, v = Value.int i tk from ra)
    exact get_at c I1.kIn h1 h2 h3 h4 ns hv rfl ⟨.int i, H1, I1.tok _, ⟨_, rfl⟩, q⟩
end
end L2


namespace L2
open PySem PySem.Spec PyProof.Rows
/-! ### a block cut at a place: what is true there -/
def tMid (t u : TS) : TS := fun D σ H => ∃ J : St → Hp → Prop, t { D with nx := J } σ H ∧ ∀ σ' H', J σ' H' → u D σ' H'
theorem pss_mid {X : Cx} {st : Stmt} {rest : List Stmt} {t u : TS} (h1 : PS X st t) (h2 : PSs X rest u) : PSs X (st :: rest) (tMid t u) := by
  intro pins s σ H D I h
  obtain ⟨J, h, hJ⟩ := h
  refine wpAny_execs_cons (thn (h1 pins s σ H { D with nx := J } I h) fun f s1 q => ?_)
  cases f with
  | next =>
    obtain ⟨σ', H', I', q⟩ := q
    exact h2 pins s1 σ' H' D I' (hJ _ _ q)
  | ret v => exact q
  | brk => exact q
  | cont => exact q
end L2


namespace L2
open PySem PySem.Spec PyProof.Rows
/-! ### texts put together: told by one function of the names -/
section
variable {X : Cx}
end
end L2
namespace L2
open PySem PySem.Spec PyProof.Rows
/-! ### what they come to -/
section
variable {σ : St}
end
end L2
namespace L2
open PySem PySem.Spec PyProof.Rows
/-! ### statements with such lists: shut off (else Lean runs through the display at each look) -/
structure PSx (X : Cx) (st : Stmt) (t : TS) : Prop where
  ps : PS X st t
structure PSsx (X : Cx) (b : List Stmt) (t : TS) : Prop where
  ps : PSs X b t
section
variable {X : Cx}
theorem psx_of {st : Stmt} {t : TS} (h : PS X st t) : PSx X st t := ⟨h⟩
theorem psx_if {c : Expr} {a b : List Stmt} {tc : TT} {t u : TS} {pos : Pos} (hc : PT X c tc) (ha : PSsx X a t) (hb : PSsx X b u) : PSx X (.If c a b pos) (tIfS tc t u) := ⟨ps_if hc ha.ps hb.ps⟩
theorem pssx_nil {t : TS} (h : PSs X [] t) : PSsx X [] t := ⟨h⟩
theorem pssx_cons {st : Stmt} {b : List Stmt} {t u : TS} (h : PSx X st t) (k : PSsx X b u) : PSsx X (st :: b) (tSeq t u) := ⟨pss_cons h.ps k.ps⟩
theorem pssx_mid {st : Stmt} {b : List Stmt} {t u : TS} (h : PSx X st t) (k : PSsx X b u) : PSsx X (st :: b) (tMid t u) := ⟨pss_mid h.ps k.ps⟩
theorem pssx_one {st : Stmt} {t : TS} (h : PSx X st t) : PSsx X [st] t := ⟨pss_one h.ps⟩
theorem wrapX {b : List Stmt} {t : TS} {R : TS → Prop} (h : PSsx X b t) (hr : R t) : ∃ t, PSs X b t ∧ R t := ⟨t, h.ps, hr⟩
end
end L2
namespace L2
open PySem PySem.Spec PyProof.Rows
/-! ### whole numbers put together, and their texts -/
section
variable {X : Cx}
end
end L2


namespace L2
open PySem PySem.Spec PyProof.Rows
section
variable {X : Cx}
end
end L2


namespace L2
open PySem PySem.Spec PyProof.Rows
section
variable {X : Cx}
end
end L2


namespace L2
open PySem PySem.Spec PyProof.Rows
/-! ### things as data, of any depth; == and != of two of them -/
inductive Da where
  | non | bl (b : Bool) | int (i : Int) | str (s : Str) | tup (l : List Da) | lst (l : List Da)
mutual
def Da.beq : Da → Da → Bool
  | .non, .non => true
  | .bl a, .bl b => a == b
  | .int a, .int b => decide (a = b)
  | .str a, .str b => decide (a = b)
  | .tup a, .tup b => Da.beqs a b
  | .lst a, .lst b => Da.beqs a b
  | _, _ => false
def Da.beqs : List Da → List Da → Bool
  | [], [] => true
  | a :: r, b :: t => Da.beq a b && Da.beqs r t
  | _, _ => false
end
mutual
theorem Da.beq_iff : ∀ a b : Da, Da.beq a b = true ↔ a = b
  | .non, b => by cases b <;> simp [Da.beq]
  | .bl x, b => by cases b <;> simp [Da.beq]
  | .int x, b => by cases b <;> simp [Da.beq]
  | .str x, b => by cases b <;> simp [Da.beq]
  | .tup x, b => by
    cases b <;> simp [Da.beq]
    exact Da.beqs_iff _ _
  | .lst x, b => by
    cases b <;> simp [Da.beq]
    exact Da.beqs_iff _ _
theorem Da.beqs_iff : ∀ a b : List Da, Da.beqs a b = true ↔ a = b
  | [], b => by cases b <;> simp [Da.beqs]
  | x :: r, [] => by simp [Da.beqs]
  | x :: r, y :: t => by
    simp [Da.beqs]
    rw [Da.beq_iff x y, Da.beqs_iff r t]
end
instance : DecidableEq Da := fun a b => decidable_of_iff _ (Da.beq_iff a b)
/-- v is the thing that d tells -/
inductive DaAt (K : PySem.W.Frag) (H : Hp) : V → Da → Prop
  | non : DaAt K H .non .non
  | bl (b : Bool) : DaAt K H (.bl b) (.bl b)
  | int (i : Int) : DaAt K H (.int i) (.int i)
  | str (x : Str) : DaAt K H (.str x) (.str x)
  | tup {p : Addr} {xs : List V} {ds : List Da} : SqT K H p xs → xs.length = ds.length → (∀ (i : Nat) x d, xs[i]? = some x → ds[i]? = some d → DaAt K H x d) → DaAt K H (.ref p) (.tup ds)
  | lst {p : Addr} {xs : List V} {ds : List Da} : SqL K H p xs → xs.length = ds.length → (∀ (i : Nat) x d, xs[i]? = some x → ds[i]? = some d → DaAt K H x d) → DaAt K H (.ref p) (.lst ds)
/-- no truth within -/
inductive Da.Nb : Nat → Da → Prop
  | non {n} : Da.Nb n .non
  | int {n i} : Da.Nb n (.int i)
  | str {n i} : Da.Nb n (.str i)
  | tup {n l} : (∀ d ∈ l, Da.Nb n d) → Da.Nb (n + 1) (.tup l)
  | lst {n l} : (∀ d ∈ l, Da.Nb n d) → Da.Nb (n + 1) (.lst l)
theorem beqs_range : ∀ (a b : List Da), a.length = b.length → ((List.range a.length).all fun i => decide (a[i]? = b[i]?)) = decide (a = b) := fun a b h => by
  by_cases e : a = b
  · subst e
    simp
  · rw [decide_eq_false e]
    rw [Bool.eq_false_iff]
    intro z
    apply e
    apply List.ext_getElem? 
    intro i
    by_cases hi : i < a.length
    · have := (List.all_eq_true.mp z) i (List.mem_range.mpr hi)
      exact of_decide_eq_true this
    · rw [List.getElem?_eq_none (by omega), List.getElem?_eq_none (by omega)]
section
variable {X : Cx} {pins : List (Addr × Obj)} {σ : St} {H : Hp} {s : Shared}
theorem arr_at {its : List Value} {xs : List V} (r : Vals xs its) {j : Nat} (h : j < its.toArray.size) : ∃ x, xs[j]? = some x ∧ RelV x its.toArray[j] := by
  have l := r.length
  have j1 : j < xs.length := by simp at h; omega
  have z1 : xs[j]? = some xs[j] := List.getElem?_eq_getElem j1
  obtain ⟨u1, w1, q1⟩ := r.get z1
  have e1 : its.toArray[j] = u1 := by
    have : its[j]? = some its[j] := List.getElem?_eq_getElem (by omega)
    rw [this] at w1
    simpa using w1
  exact ⟨_, z1, by rw [e1]; exact q1⟩
theorem not_both {p : Addr} {i1 i2 : Array Value} (t1 : s.heap.IsTuple p i1) (t2 : s.heap.IsList p i2) : False := by
  obtain ⟨o, e, c1, n, d⟩ := t1
  obtain ⟨o', e', c2, n', d'⟩ := t2
  rw [e] at e'; cases e'
  rw [c1] at c2
  exact absurd c2 (by decide)
theorem da_one (I : Inv X pins σ H s) {x : V} {a b : Da} (ha : DaAt X.K H x a) (hb : DaAt X.K H x b) : a = b := by
  induction ha generalizing b with
  | non => cases hb; rfl
  | bl _ => cases hb; rfl
  | int _ => cases hb; rfl
  | str _ => cases hb; rfl
  | @tup p xs ds hp hl hd ih =>
    cases hb with
    | @tup q ys es hq hl2 hd2 =>
      have exy : xs = ys := I.tuple_inj hp hq
      subst exy
      refine congrArg Da.tup ?_
      apply List.ext_getElem (by omega)
      intro j h1 h2
      have g0 : xs[j]? = some xs[j] := List.getElem?_eq_getElem (by omega)
      have g1 : ds[j]? = some ds[j] := List.getElem?_eq_getElem h1
      have g2 : es[j]? = some es[j] := List.getElem?_eq_getElem h2
      exact ih j _ _ g0 g1 (hd2 j _ _ g0 g2)
    | @lst q ys es hq hl2 hd2 =>
      obtain ⟨i1, r1, t1, _⟩ := I.tuple hp
      obtain ⟨i2, r2, t2, _⟩ := I.list hq
      exact (not_both t1 t2.isList).elim
  | @lst p xs ds hp hl hd ih =>
    cases hb with
    | @lst q ys es hq hl2 hd2 =>
      have exy : xs = ys := I.list_inj hp hq
      subst exy
      refine congrArg Da.lst ?_
      apply List.ext_getElem (by omega)
      intro j h1 h2
      have g0 : xs[j]? = some xs[j] := List.getElem?_eq_getElem (by omega)
      have g1 : ds[j]? = some ds[j] := List.getElem?_eq_getElem h1
      have g2 : es[j]? = some es[j] := List.getElem?_eq_getElem h2
      exact ih j _ _ g0 g1 (hd2 j _ _ g0 g2)
    | @tup q ys es hq hl2 hd2 =>
      obtain ⟨i1, r1, t1, _⟩ := I.tuple hq
      obtain ⟨i2, r2, t2, _⟩ := I.list hp
      exact (not_both t1 t2.isList).elim
/-- two rows of things, side by side -/
theorem rows_at {A : Around} {m : Nat} {xs ys : List V} {ds es : List Da} {i1 i2 : List Value} (r1 : Vals xs i1) (r2 : Vals ys i2) (hl : xs.length = ds.length) (hl2 : ys.length = es.length)
    (ih : ∀ (j : Nat) x d y e u v, xs[j]? = some x → ds[j]? = some d → ys[j]? = some y → es[j]? = some e → RelV x u → RelV y v → SeqAt.EqAt A s u v (decide (d = e)))
    (j : Nat) (h1 : j < i1.toArray.size) (h2 : j < i2.toArray.size) : SeqAt.EqAt A s i1.toArray[j] i2.toArray[j] (decide (ds[j]? = es[j]?)) := by
  obtain ⟨x1, z1, q1⟩ := arr_at r1 h1
  obtain ⟨x2, z2, q2⟩ := arr_at r2 h2
  have k1 := (List.getElem?_eq_some_iff.mp z1).1
  have k2 := (List.getElem?_eq_some_iff.mp z2).1
  have g1 : ds[j]? = some (ds[j]'(by omega)) := List.getElem?_eq_getElem (by omega)
  have g2 : es[j]? = some (es[j]'(by omega)) := List.getElem?_eq_getElem (by omega)
  have r := ih j x1 _ x2 _ _ _ z1 g1 z2 g2 q1 q2
  have e : decide (ds[j]? = es[j]?) = decide (ds[j]'(by omega) = es[j]'(by omega)) := by rw [g1, g2]; simp
  rw [e]
  exact r
theorem tup_b {xs ys : List V} {ds es : List Da} {i1 i2 : List Value} (r1 : Vals xs i1) (r2 : Vals ys i2) (hl : xs.length = ds.length) (hl2 : ys.length = es.length) :
    ((List.range (min i1.toArray.size i2.toArray.size)).all (fun j => decide (ds[j]? = es[j]?)) && i1.toArray.size == i2.toArray.size) = decide (ds = es) := by
  have l1 := r1.length
  have l2 := r2.length
  by_cases z : ds.length = es.length
  · have y := beqs_range ds es z
    have s1 : i1.toArray.size = ds.length := by simp; omega
    have s2 : i2.toArray.size = ds.length := by simp; omega
    rw [s1, s2, Nat.min_self, y]
    simp
  · rw [decide_eq_false (fun y => z (by rw [y]))]
    have : (i1.toArray.size == i2.toArray.size) = false := by simp; omega
    rw [this, Bool.and_false]
theorem lst_b {xs ys : List V} {ds es : List Da} {i1 i2 : List Value} (r1 : Vals xs i1) (r2 : Vals ys i2) (hl : xs.length = ds.length) (hl2 : ys.length = es.length) (z : ds.length = es.length) :
    ((List.range i1.toArray.size).all (fun j => decide (ds[j]? = es[j]?))) = decide (ds = es) := by
  have l1 := r1.length
  have s1 : i1.toArray.size = ds.length := by simp; omega
  rw [s1, beqs_range ds es z]
theorem dec_tup (ds es : List Da) : decide (Da.tup ds = Da.tup es) = decide (ds = es) := decide_eq_decide.mpr ⟨Da.tup.inj, congrArg _⟩
theorem dec_lst (ds es : List Da) : decide (Da.lst ds = Da.lst es) = decide (ds = es) := decide_eq_decide.mpr ⟨Da.lst.inj, congrArg _⟩
theorem da_at {A : Around} {n : Nat} (hu : A.units + n < cLine) (I : Inv X pins σ H s) {x y : V} {a b : Da} (ha : DaAt X.K H x a) (hb : DaAt X.K H y b) (na : a.Nb n) (nb : b.Nb n) {u v : Value} (ru : RelV x u) (rv : RelV y v) : SeqAt.EqAt A s u v (decide (a = b)) := by
  induction ha generalizing A n y b u v with
  | non =>
    obtain rfl : u = Value.none := ru
    cases hb with
    | non => obtain rfl : v = Value.none := rv; exact SeqAt.EqAt.same _
    | bl _ => cases nb
    | int j => obtain ⟨t, rfl⟩ := rv; exact SeqAt.EqAt.none_int _ _
    | str j => obtain ⟨t, rfl⟩ := rv; exact SeqAt.EqAt.none_str _ _
    | tup hq => cases rv; obtain ⟨its, r1, p1, _⟩ := I.tuple hq; exact SeqAt.EqAt.none_tuple p1 (by omega)
    | lst hq => cases rv; obtain ⟨its, r1, p1, _⟩ := I.list hq; exact SeqAt.EqAt.none_list p1.isList (by omega)
  | bl _ => cases na
  | int i =>
    obtain ⟨t0, rfl⟩ := ru
    cases hb with
    | non => obtain rfl : v = Value.none := rv; exact SeqAt.EqAt.int_none _ _
    | bl _ => cases nb
    | int j =>
      obtain ⟨t, rfl⟩ := rv
      have := SeqAt.EqAt.int_int (A := A) (s := s) i t0 j t
      have e : (i == j) = decide (Da.int i = Da.int j) := by
        by_cases z : i = j
        · subst z; simp
        · rw [decide_eq_false (fun y => z (Da.int.inj y))]; simp [z]
      rwa [e] at this
    | str j => obtain ⟨t, rfl⟩ := rv; exact SeqAt.EqAt.int_str _ _ _ _
    | tup hq => cases rv; obtain ⟨its, r1, p1, _⟩ := I.tuple hq; exact SeqAt.EqAt.int_tuple _ _ p1 (by omega)
    | lst hq => cases rv; obtain ⟨its, r1, p1, _⟩ := I.list hq; exact SeqAt.EqAt.int_list _ _ p1.isList (by omega)
  | str i =>
    obtain ⟨t0, rfl⟩ := ru
    cases hb with
    | non => obtain rfl : v = Value.none := rv; exact SeqAt.EqAt.str_none _ _
    | bl _ => cases nb
    | int j => obtain ⟨t, rfl⟩ := rv; exact SeqAt.EqAt.str_int _ _ _ _
    | str j =>
      obtain ⟨t, rfl⟩ := rv
      have := SeqAt.EqAt.str_str (A := A) (s := s) i t0 j t
      have e : (i == j) = decide (Da.str i = Da.str j) := by
        by_cases z : i = j
        · subst z; simp
        · rw [decide_eq_false (fun y => z (Da.str.inj y))]; simp [z]
      rwa [e] at this
    | tup hq => cases rv; obtain ⟨its, r1, p1, _⟩ := I.tuple hq; exact SeqAt.EqAt.str_tuple _ _ p1 (by omega)
    | lst hq => cases rv; obtain ⟨its, r1, p1, _⟩ := I.list hq; exact SeqAt.EqAt.str_list _ _ p1.isList (by omega)
  | @tup p xs ds hp hl hd ih =>
    cases ru
    obtain ⟨i1, r1, t1, _⟩ := I.tuple hp
    cases hb with
    | non => obtain rfl : v = Value.none := rv; exact SeqAt.EqAt.tuple_none t1 (by omega)
    | bl _ => cases nb
    | int j => obtain ⟨t, rfl⟩ := rv; exact SeqAt.EqAt.tuple_int _ _ t1 (by omega)
    | str j => obtain ⟨t, rfl⟩ := rv; exact SeqAt.EqAt.tuple_str _ _ t1 (by omega)
    | @tup q ys es hq hl2 hd2 =>
      cases rv
      by_cases c : p = q
      · subst c
        have := da_one I (DaAt.tup hp hl hd) (DaAt.tup hq hl2 hd2)
        rw [decide_eq_true this]
        exact SeqAt.EqAt.same _
      cases na with
      | @tup m l na =>
      cases nb with
      | @tup m l nb =>
      obtain ⟨i2, r2, t2, _⟩ := I.tuple hq
      have key := SeqAt.RcAt.tuples (A := A) (s := s) (e := fun j => decide (ds[j]? = es[j]?)) t1 t2 (by omega) (rows_at (m := m) r1 r2 hl hl2 fun j x d y e u v h1 h2 h3 h4 ru rv =>
        ih j x d h1 h2 (A := A.in1) (n := m) (by show A.units + 1 + m < cLine; omega) (hd2 j y e h3 h4) (na _ (List.mem_of_getElem? h2)) (nb _ (List.mem_of_getElem? h4)) ru rv)
      rw [tup_b r1 r2 hl hl2] at key
      rw [dec_tup]
      exact SeqAt.EqAt.of_refs c key
    | @lst q ys es hq hl2 hd2 =>
      cases rv
      obtain ⟨i2, r2, t2, _⟩ := I.list hq
      by_cases c : p = q
      · subst c
        exact (not_both t1 t2.isList).elim
      · exact SeqAt.EqAt.of_refs c (SeqAt.RcAt.tuple_list t1 t2.isList (by omega))
  | @lst p xs ds hp hl hd ih =>
    cases ru
    obtain ⟨i1, r1, t1, _⟩ := I.list hp
    cases hb with
    | non => obtain rfl : v = Value.none := rv; exact SeqAt.EqAt.list_none t1.isList (by omega)
    | bl _ => cases nb
    | int j => obtain ⟨t, rfl⟩ := rv; exact SeqAt.EqAt.list_int _ _ t1.isList (by omega)
    | str j => obtain ⟨t, rfl⟩ := rv; exact SeqAt.EqAt.list_str _ _ t1.isList (by omega)
    | @lst q ys es hq hl2 hd2 =>
      cases rv
      by_cases c : p = q
      · subst c
        have := da_one I (DaAt.lst hp hl hd) (DaAt.lst hq hl2 hd2)
        rw [decide_eq_true this]
        exact SeqAt.EqAt.same _
      cases na with
      | @lst m l na =>
      cases nb with
      | @lst m l nb =>
      obtain ⟨i2, r2, t2, _⟩ := I.list hq
      have l1 := r1.length
      have l2 := r2.length
      rw [dec_lst]
      by_cases z : ds.length = es.length
      · have key := SeqAt.RcAt.lists (A := A) (s := s) (e := fun j => decide (ds[j]? = es[j]?)) t1.isList t2.isList (by simp; omega) (by omega) (rows_at (m := m) r1 r2 hl hl2 fun j x d y e u v h1 h2 h3 h4 ru rv =>
          ih j x d h1 h2 (A := A.in1) (n := m) (by show A.units + 1 + m < cLine; omega) (hd2 j y e h3 h4) (na _ (List.mem_of_getElem? h2)) (nb _ (List.mem_of_getElem? h4)) ru rv)
        rw [lst_b r1 r2 hl hl2 z] at key
        exact SeqAt.EqAt.of_refs c key
      · rw [decide_eq_false (fun y => z (by rw [y]))]
        exact SeqAt.EqAt.of_refs c (SeqAt.RcAt.lists_lengths t1.isList t2.isList (by simp; omega) (by omega))
    | @tup q ys es hq hl2 hd2 =>
      cases rv
      obtain ⟨i2, r2, t2, _⟩ := I.tuple hq
      by_cases c : p = q
      · subst c
        exact (not_both t2 t1.isList).elim
      · exact SeqAt.EqAt.of_refs c (SeqAt.RcAt.list_tuple t1.isList t2 (by omega))
end
/-- a list or a tuple and another -/
def rEqA (K : PySem.W.Frag) (ne : Bool) : R2 := fun x y H Q => ∃ (n : Nat) (p q : Addr) (a b : Da), x = .ref p ∧ y = .ref q ∧ DaAt K H x a ∧ DaAt K H y b ∧ a.Nb n ∧ b.Nb n ∧ n ≤ 6 ∧ Q (.bl (ne ^^ decide (a = b))) H
section
variable {X : Cx}
theorem op_eqA (hu : X.A.units + 6 < cLine) : OpR X (compareOp .Eq) (rEqA X.K false) := by
  intro pins s σ H x y v u Q I rx ry h
  obtain ⟨n, p, q, a, b, rfl, rfl, ha, hb, na, nb, hn, k⟩ := h
  cases rx
  cases ry
  rw [Bool.false_xor] at k
  cases ha with
  | @tup p xs ds hp hl hd =>
    obtain ⟨i1, r1, t1, _⟩ := I.tuple hp
    cases hb with
    | @tup q ys es hq hl2 hd2 =>
      cases na with
      | @tup m l na =>
      cases nb with
      | @tup m l nb =>
      obtain ⟨i2, r2, t2, _⟩ := I.tuple hq
      have key := SeqAt.RcAt.tuples (A := X.A) (s := s) (e := fun j => decide (ds[j]? = es[j]?)) t1 t2 (by omega) (rows_at (m := m) r1 r2 hl hl2 fun j x d y e u v h1 h2 h3 h4 ru rv =>
        da_at (A := X.A.in1) (n := m) (by show X.A.units + 1 + m < cLine; omega) I (hd j x d h1 h2) (hd2 j y e h3 h4) (na _ (List.mem_of_getElem? h2)) (nb _ (List.mem_of_getElem? h4)) ru rv)
      rw [tup_b r1 r2 hl hl2] at key
      rw [dec_tup] at k
      exact key _ _ _ _ ⟨.bl _, H, I, rfl, k⟩
    | @lst q ys es hq hl2 hd2 =>
      obtain ⟨i2, r2, t2, _⟩ := I.list hq
      exact (SeqAt.RcAt.tuple_list (A := X.A) t1 t2.isList (by omega)) _ _ _ _ ⟨.bl _, H, I, rfl, k⟩
  | @lst p xs ds hp hl hd =>
    obtain ⟨i1, r1, t1, _⟩ := I.list hp
    cases hb with
    | @lst q ys es hq hl2 hd2 =>
      cases na with
      | @lst m l na =>
      cases nb with
      | @lst m l nb =>
      obtain ⟨i2, r2, t2, _⟩ := I.list hq
      have l1 := r1.length
      have l2 := r2.length
      rw [dec_lst] at k
      by_cases z : ds.length = es.length
      · have key := SeqAt.RcAt.lists (A := X.A) (s := s) (e := fun j => decide (ds[j]? = es[j]?)) t1.isList t2.isList (by simp; omega) (by omega) (rows_at (m := m) r1 r2 hl hl2 fun j x d y e u v h1 h2 h3 h4 ru rv =>
          da_at (A := X.A.in1) (n := m) (by show X.A.units + 1 + m < cLine; omega) I (hd j x d h1 h2) (hd2 j y e h3 h4) (na _ (List.mem_of_getElem? h2)) (nb _ (List.mem_of_getElem? h4)) ru rv)
        rw [lst_b r1 r2 hl hl2 z] at key
        exact key _ _ _ _ ⟨.bl _, H, I, rfl, k⟩
      · rw [decide_eq_false (fun y => z (by rw [y]))] at k
        exact (SeqAt.RcAt.lists_lengths (A := X.A) t1.isList t2.isList (by simp; omega) (by omega)) _ _ _ _ ⟨.bl _, H, I, rfl, k⟩
    | @tup q ys es hq hl2 hd2 =>
      obtain ⟨i2, r2, t2, _⟩ := I.tuple hq
      exact (SeqAt.RcAt.list_tuple (A := X.A) t1.isList t2 (by omega)) _ _ _ _ ⟨.bl _, H, I, rfl, k⟩
theorem op_neA (hu : X.A.units + 6 < cLine) : OpR X (compareOp .NotEq) (rEqA X.K true) := by
  intro pins s σ H x y v u Q I rx ry h
  obtain ⟨n, p, q, a, b, rfl, rfl, ha, hb, na, nb, hn, k⟩ := h
  cases rx
  cases ry
  rw [Bool.true_xor] at k
  cases ha with
  | @tup p xs ds hp hl hd =>
    obtain ⟨i1, r1, t1, _⟩ := I.tuple hp
    cases hb with
    | @tup q ys es hq hl2 hd2 =>
      cases na with
      | @tup m l na =>
      cases nb with
      | @tup m l nb =>
      obtain ⟨i2, r2, t2, _⟩ := I.tuple hq
      have key := SeqAt.RcNeAt.tuples (A := X.A) (s := s) (e := fun j => decide (ds[j]? = es[j]?)) t1 t2 (by omega) (rows_at (m := m) r1 r2 hl hl2 fun j x d y e u v h1 h2 h3 h4 ru rv =>
        da_at (A := X.A.in1) (n := m) (by show X.A.units + 1 + m < cLine; omega) I (hd j x d h1 h2) (hd2 j y e h3 h4) (na _ (List.mem_of_getElem? h2)) (nb _ (List.mem_of_getElem? h4)) ru rv)
      rw [tup_b r1 r2 hl hl2] at key
      rw [dec_tup] at k
      exact key _ _ _ _ ⟨.bl _, H, I, rfl, k⟩
    | @lst q ys es hq hl2 hd2 =>
      obtain ⟨i2, r2, t2, _⟩ := I.list hq
      exact (SeqAt.RcNeAt.tuple_list (A := X.A) t1 t2.isList (by omega)) _ _ _ _ ⟨.bl _, H, I, rfl, k⟩
  | @lst p xs ds hp hl hd =>
    obtain ⟨i1, r1, t1, _⟩ := I.list hp
    cases hb with
    | @lst q ys es hq hl2 hd2 =>
      cases na with
      | @lst m l na =>
      cases nb with
      | @lst m l nb =>
      obtain ⟨i2, r2, t2, _⟩ := I.list hq
      have l1 := r1.length
      have l2 := r2.length
      rw [dec_lst] at k
      by_cases z : ds.length = es.length
      · have key := SeqAt.RcNeAt.lists (A := X.A) (s := s) (e := fun j => decide (ds[j]? = es[j]?)) t1.isList t2.isList (by simp; omega) (by omega) (rows_at (m := m) r1 r2 hl hl2 fun j x d y e u v h1 h2 h3 h4 ru rv =>
          da_at (A := X.A.in1) (n := m) (by show X.A.units + 1 + m < cLine; omega) I (hd j x d h1 h2) (hd2 j y e h3 h4) (na _ (List.mem_of_getElem? h2)) (nb _ (List.mem_of_getElem? h4)) ru rv)
        rw [lst_b r1 r2 hl hl2 z] at key
        exact key _ _ _ _ ⟨.bl _, H, I, rfl, k⟩
      · rw [decide_eq_false (fun y => z (by rw [y]))] at k
        exact (SeqAt.RcNeAt.lists_lengths (A := X.A) t1.isList t2.isList (by simp; omega) (by omega)) _ _ _ _ ⟨.bl _, H, I, rfl, k⟩
    | @tup q ys es hq hl2 hd2 =>
      obtain ⟨i2, r2, t2, _⟩ := I.tuple hq
      exact (SeqAt.RcNeAt.list_tuple (A := X.A) t1.isList t2 (by omega)) _ _ _ _ ⟨.bl _, H, I, rfl, k⟩
end
end L2


namespace L2
open PySem PySem.Spec PyProof.Rows
section
variable {X : Cx}
/-! ### sorted(list of ints), list.remove(int) -/
end
end L2


namespace L2
open PySem PySem.W PySem.Spec PySem.Calls PyProof.Rows
/-! ### a try whose one statement has the call of f within: x = f(..), x = g(f(..)), return f(..) -/
section
variable {X : Cx}
def PEr (X : Cx) (e : Expr) (f : Addr) (t : TA) (c : V → TE) : Prop := ∀ (XE : Value → Shared → Prop) (pins : List (Addr × Obj)) (s : Shared) (σ : St) (H : Hp) (Q : VK) (W : List V → Hp → Prop), Inv X pins σ H s → t σ H W →
  (∀ vs H1 s1 us, W vs H1 → Inv X pins σ H1 s1 → Vals vs us → wpAny (model X.prog X.w) X.A (call (.ref f) us) (EP X pins σ fun v H2 => c v σ H2 Q) XE s1) → wpAny (model X.prog X.w) X.A (eval e X.env) (EP X pins σ Q) XE s
def PSr (X : Cx) (st : Stmt) (f : Addr) (t : TA) (r : V → TS) : Prop := ∀ (XE : Value → Shared → Prop) (pins : List (Addr × Obj)) (s : Shared) (σ : St) (H : Hp) (D : Ends) (W : List V → Hp → Prop), Inv X pins σ H s → t σ H W →
  (∀ vs H1 s1 us, W vs H1 → Inv X pins σ H1 s1 → Vals vs us → wpAny (model X.prog X.w) X.A (call (.ref f) us) (EP X pins σ fun v H2 => r v D σ H2) XE s1) → wpAny (model X.prog X.w) X.A (exec st X.env) (SP X pins D) XE s
def cId : V → TE := fun v _ H Q => Q v H
theorem per_call {g : Str} {gp pos : Pos} {a : Expr} {as : List Expr} {t : TA} {f : Addr} (ha : PA X.nox (a :: as) t) (hgg : Gl X g) (hm : X.mg g = some (.ref f)) (kp : keepIn X.K (.ref f) = true) (hdg : (g == ("__debug__" : Str)) = false := by decide)
    (he : starEach (a :: as) X.env = (false, eval a X.env) :: starEach as X.env := by rfl) (hpl : (backTo pos (starEach as X.env)).any (·.1) = false := by rfl) : PEr X (.Call (.Name g gp) (a :: as) [] pos) f t cId := by
  intro XE pins s σ H Q W I h hW
  refine wpAny_Call_Name_kw (ld_glob I hgg hm (callWith_K (h₀ := X.base) I.ok.mod.kin kp (wpAny_mono (ha pos pins s σ H _ (I.wish _) h) (fun us s1 hu => ?_) fun _ _ z => False.elim z) he hpl) hdg)
  obtain ⟨vs, H1, I1', r, q⟩ := hu
  have I1 : Inv X pins σ H1 s1 := I1'.unwish
  exact ⟨I1.kIn, hW vs H1 s1 us q I1 r⟩
theorem psr_set {i : Nat} {x : Str} {e : Expr} {f : Addr} {t : TA} {c : V → TE} {pos pos' : Pos} (hN : X.N.Nodup) (hi : X.N[i]? = some x) (hx : Loc X.env.scope x) (he : PEr X e f t c) (hs : swapsWith e (some (.Name x pos')) pos.line X.env = pure false := by rfl) (hf : X.fn x = true ∨ X.env.scope.names.lookup x = some .local := by first | exact .inl rfl | exact .inr rfl | assumption) :
    PSr X (.Assign [.Name x pos'] e pos) f t (fun v D σ H => c v σ H fun y H1 => D.nx (σ.set i (some y)) H1) := by
  intro XE pins s σ H D W I h hW
  refine wpAny_Assign_Name (wpAny_mono (he XE pins s σ H (fun y H1 => D.nx (σ.set i (some y)) H1) W I h hW) (fun v s1 hv => ?_) fun _ _ z => z) hs
  obtain ⟨y, H1, I1, r1, q1⟩ := hv
  exact store_ok I1 hN hi hx r1 (fun s2 I2 => ⟨_, H1, I2, q1⟩) hf
end
section
variable {X : Cx} {k : Nat} {f cR : Addr} {fd : FuncData} {ps : List Str} {sp : Sp} {dvs : List V} {ds : List Value} {x n : Str} {np p3 p4 : Pos} {t : TA} {ts : TS} {i : Nat} {st b₀ : Stmt} {suite : List Stmt} {L : Addr} {r : V → TS}
end
end L2


namespace L2
open PySem PySem.Spec PyProof.Rows
/-! ### t + u, either may be empty; the outcome told in one way -/
end L2


namespace L2
open PySem PySem.W PySem.Spec PySem.Calls PyProof.Rows
/-! ### None, or a text, asked of a dict of the top that is keyed by texts -/
def nIs : Option Str → Value → Bool
  | none, v => match v with
    | .none => true
    | _ => false
  | some x, v => Value.isStrOf x v
theorem nIs_shape {k : Option Str} {v : Value} (h : nIs k v = true) : (k = none ∧ v = .none) ∨ ∃ x t, k = some x ∧ v = .str x t := by
  cases k with
  | none => cases v <;> simp_all [nIs]
  | some x =>
    obtain ⟨t, e⟩ := Value.isStrOf_shape (show Value.isStrOf x v = true from h)
    exact .inr ⟨x, t, rfl, e⟩
def nHash (w : World) : Option Str → Int
  | none => 0xFCA86420
  | some x => hashStr w x
def nKind (prog : Program) (w : World) : KeyKind prog w (Option Str) where
  is := nIs
  hash := nHash w
  inj := fun v a b ha hb => by
    rcases nIs_shape ha with ⟨rfl, rfl⟩ | ⟨x, t, rfl, rfl⟩
    · rcases nIs_shape hb with ⟨rfl, _⟩ | ⟨y, u, rfl, e⟩
      · rfl
      · exact nomatch e
    · rcases nIs_shape hb with ⟨rfl, e⟩ | ⟨y, u, rfl, e⟩
      · exact nomatch e
      · injection e with e1 _
        rw [e1]
  byValue := fun k v h => by
    rcases nIs_shape h with ⟨rfl, rfl⟩ | ⟨x, t, rfl, rfl⟩ <;> rfl
  pyHash := fun hv h => by
    rcases nIs_shape hv with ⟨rfl, rfl⟩ | ⟨x, t, rfl, rfl⟩
    · exact pyHash_slot (T := "NoneType") rfl PySem.F.slot_NoneType_hash PySem.F.entry_NoneType_hash (PySem.F.args_NoneType_hash_1 _) (beq_builtin_none _) (.inl rfl) (wpAny_bind (wpAny_pure (wpAny_bind (wpAny_mkInt (wpAny_pure ⟨_, _, rfl, h⟩)))))
    · exact wpAny_pyHash_str h
  eqBool := fun hu hv h => by
    rcases nIs_shape hu with ⟨rfl, rfl⟩ | ⟨x, t, rfl, rfl⟩
    · rcases nIs_shape hv with ⟨rfl, rfl⟩ | ⟨y, u, rfl, rfl⟩
      · exact SeqAt.EqAt.same _ _ _ _ _ (by simpa using h)
      · exact SeqAt.EqAt.none_str _ _ _ _ _ _ (by simpa using h)
    · rcases nIs_shape hv with ⟨rfl, rfl⟩ | ⟨y, u, rfl, rfl⟩
      · exact SeqAt.EqAt.str_none _ _ _ _ _ _ (by simpa using h)
      · have e : decide (some x = some y) = decide (x = y) := by
          by_cases z : x = y <;> simp [z]
        rw [e] at h
        exact wpAny_eqBool_str h
  «strs» := fun k x t v h => by
    rcases nIs_shape h with ⟨_, e⟩ | ⟨y, u, e1, e⟩
    · exact nomatch e
    · injection e with hx
      subst hx e1
      cases v <;> rfl
/-- a dict of the top, keyed by texts -/
def KLit (K : PySem.W.Frag) (P : Params) (a : Addr) : Prop := ∃ (es : Array DictEntry) (n : Nat), K.lookup a = some ⟨.type "dict", none, .dict es n, #[]⟩ ∧ PySem.W.KeysLit P es.toList ∧ (a == sysModules) = false
def tKInO (K : PySem.W.Frag) (P : Params) (ty td : TE) : TE := fun σ H Q => ty σ H fun y H1 => td σ H1 fun x H2 => ∃ a, x = .ref a ∧ ((∃ k r, y = .str k ∧ KHas K P a k r ∧ Q (.bl r.isSome) H2) ∨ (y = .non ∧ KLit K P a ∧ Q (.bl false) H2))
section
variable {X : Cx} {o i : Expr} {pos : Pos} {td ty : TE}
theorem pc_kinO (hi : PE X i ty) (ho : PE X o td) : PC X .In i o (tKInO X.K X.w.params ty td) := by
  intro pins s σ H Q I h
  refine thn (hi pins s σ H _ I h) fun iv s1 ⟨y, H1, I1, ry, q1⟩ => thn (ho pins s1 σ H1 _ I1 q1) fun u s2 ⟨x, H2, I2, rx, a, ex, g⟩ => ?_
  subst ex
  obtain rfl : u = Value.ref a := rx
  rcases g with ⟨k, r, ey, g, q2⟩ | ⟨ey, g, q2⟩
  · subst ey
    obtain ⟨t, rfl⟩ := ry
    obtain ⟨es, n, hl, hk, hm, q, hq, rq⟩ := g
    have mo := PySem.W.mapOf_K (prog := X.prog) (w := X.w) I2.kIn hl hk
    refine wpAny_in_of (strKind_is X.prog X.w k t) hm mo ?_
    rw [PySem.W.find_K hl hq, ← rq.isSome_eq]
    exact ⟨.bl r.isSome, H2, I2.tok _, rfl, q2⟩
  · subst ey
    obtain rfl : iv = Value.none := ry
    obtain ⟨es, n, hl, hk, hm⟩ := g
    have mo : s2.heap.MapOf (nKind X.prog X.w) a (fun k => findBy nIs es k) := ⟨_, es, n, I2.kIn _ _ hl, ⟨rfl, rfl, rfl⟩, rfl, fun e he => by
      obtain ⟨x, t, e1, e2⟩ := hk.all e (Array.mem_toList_iff.mpr he)
      exact ⟨some x, by rw [e1]; exact strKind_is X.prog X.w x t, e2⟩, fun _ => rfl⟩
    have fn : findBy nIs es none = none := by
      have z : es.find? (fun e => nIs none e.key) = none := by
        rw [Array.find?_eq_none]
        intro e he
        obtain ⟨x, t, e1, e2⟩ := hk.all e (Array.mem_toList_iff.mpr he)
        rw [e1]
        simp [nIs]
      unfold findBy
      rw [z]
      rfl
    refine wpAny_in_of (knd := nKind X.prog X.w) (k := none) (key := Value.none) rfl hm mo ?_
    rw [fn]
    exact ⟨.bl false, H2, I2.tok _, rfl, q2⟩
end
end L2


namespace L2
open PySem PySem.W PySem.Spec PySem.Calls PyProof.Rows
/-! ### k not in a dict of the top -/
def tKNotInO (K : PySem.W.Frag) (P : Params) (ty td : TE) : TE := fun σ H Q => ty σ H fun y H1 => td σ H1 fun x H2 => ∃ a, x = .ref a ∧ ((∃ k r, y = .str k ∧ KHas K P a k r ∧ Q (.bl (!r.isSome)) H2) ∨ (y = .non ∧ KLit K P a ∧ Q (.bl true) H2))
section
variable {X : Cx} {o i : Expr} {pos : Pos} {td ty : TE}
theorem pc_knotinO (hi : PE X i ty) (ho : PE X o td) : PC X .NotIn i o (tKNotInO X.K X.w.params ty td) := by
  intro pins s σ H Q I h
  refine thn (hi pins s σ H _ I h) fun iv s1 ⟨y, H1, I1, ry, q1⟩ => thn (ho pins s1 σ H1 _ I1 q1) fun u s2 ⟨x, H2, I2, rx, a, ex, g⟩ => ?_
  subst ex
  obtain rfl : u = Value.ref a := rx
  rcases g with ⟨k, r, ey, g, q2⟩ | ⟨ey, g, q2⟩
  · subst ey
    obtain ⟨t, rfl⟩ := ry
    obtain ⟨es, n, hl, hk, hm, q, hq, rq⟩ := g
    have mo := PySem.W.mapOf_K (prog := X.prog) (w := X.w) I2.kIn hl hk
    refine wpAny_notIn_of (strKind_is X.prog X.w k t) hm mo ?_
    rw [PySem.W.find_K hl hq, ← rq.isSome_eq]
    exact ⟨.bl (!r.isSome), H2, I2.tok _, rfl, q2⟩
  · subst ey
    obtain rfl : iv = Value.none := ry
    obtain ⟨es, n, hl, hk, hm⟩ := g
    have mo : s2.heap.MapOf (nKind X.prog X.w) a (fun k => findBy nIs es k) := ⟨_, es, n, I2.kIn _ _ hl, ⟨rfl, rfl, rfl⟩, rfl, fun e he => by
      obtain ⟨x, t, e1, e2⟩ := hk.all e (Array.mem_toList_iff.mpr he)
      exact ⟨some x, by rw [e1]; exact strKind_is X.prog X.w x t, e2⟩, fun _ => rfl⟩
    have fn : findBy nIs es none = none := by
      have z : es.find? (fun e => nIs none e.key) = none := by
        rw [Array.find?_eq_none]
        intro e he
        obtain ⟨x, t, e1, e2⟩ := hk.all e (Array.mem_toList_iff.mpr he)
        rw [e1]
        simp [nIs]
      unfold findBy
      rw [z]
      rfl
    refine wpAny_notIn_of (knd := nKind X.prog X.w) (k := none) (key := Value.none) rfl hm mo ?_
    rw [fn]
    exact ⟨.bl true, H2, I2.tok _, rfl, q2⟩
end
end L2


namespace L2
open PySem PySem.Spec PyProof.Rows
section
variable {X : Cx}
/-! ### list.insert -/
end
end L2


namespace L2
open PySem PySem.W PySem.Spec PySem.Calls PyProof.Rows
/-- a callee's exception goes on through the body of the caller, which leaves it to its own caller -/
theorem pass22 {P : Program} {w : World} {K : PySem.W.Frag} {mg : Str → Option Value} {base : Heap} {N : List Str} {qual : Str} {scope : Scope} {f : Addr} {cd : Value} {A : Around} {outer : List Env} {s₀ : Shared} {H₀ : Hp} {E : XK} :
    Passes (CX2 P w) (cxOf (CX2 P w) P w K mg base N qual scope f cd A outer s₀ H₀ E) E := by
  intro pins σ H s e s' I cx
  obtain ⟨ea, cls, a0, od, H', B, rfl, fly, dc, hB, hH, os, bare, un, hok, hE⟩ := cx
  obtain ⟨T, be, bT, fly2⟩ := fly_less fly
  have apart : ∀ {b o}, B.get? b = some o → b ∉ frs ((envOfC qual scope s₀.heap.objs.size f cd) :: outer) → b ∉ frs ((envOfC qual scope s₀.heap.objs.size f cd) :: outer) ++ [ea, T] := fun {b o} hb nf hx => by
    rcases List.mem_append.mp hx with h | h
    · exact nf h
    · rcases (show b = ea ∨ b = T by simpa using h) with rfl | rfl
      · rw [be] at hb; cases hb
      · rw [bT] at hb; cases hb
  have fr' : ∀ b ∈ frs ((envOfC qual scope s₀.heap.objs.size f cd) :: outer), H' b = none := fun b hb => by
    obtain ⟨_, o, ho, _⟩ := I.stack.mem hb
    exact un.free b o ho (I.stkFree b hb) (by simp)
  have kH : ∀ {b o}, H' b = some o → b ∉ frs ((envOfC qual scope s₀.heap.objs.size f cd) :: outer) ++ [ea, T] := fun {b o} hb => by
    obtain ⟨o', h1⟩ := hH b o hb
    exact apart h1 fun z => by rw [fr' b z] at hb; cases hb
  have stk : ∀ {b o}, s₀.heap.get? b = some o → b ∉ frs outer → b ∉ frs ((envOfC qual scope s₀.heap.objs.size f cd) :: outer) := fun {b o} hb nf hx => by
    rcases List.mem_cons.mp (I.stkSub b hx) with e | e
    · have h1 := Heap.lt_size hb
      have h2 : s₀.heap.objs.size ≤ (envOfC qual scope s₀.heap.objs.size f cd).locals := I.ok.above
      have e : b = (envOfC qual scope s₀.heap.objs.size f cd).locals := e
      rw [e] at h1
      exact absurd h1 (Nat.not_lt.mpr h2)
    · exact nf e
  refine leavesOnD (B := less s'.heap (frs ((envOfC qual scope s₀.heap.objs.size f cd) :: outer) ++ [ea, T])) (L := (envOfC qual scope s₀.heap.objs.size f cd).locals) I.ok.frames rfl fly2 dc fun h5 fly5 up dc5 => ?_
  have stay : ∀ {b u}, b ∉ frs ((envOfC qual scope s₀.heap.objs.size f cd) :: outer) ++ [ea, T] → s'.heap.get? b = some u → h5.get? b = some u := fun {b u} hb hu => fly5.1 b u (by rw [less_out hb]; exact hu)
  have up1 : ∀ b o, s'.heap.get? b = some o → b ∈ frs ((envOfC qual scope s₀.heap.objs.size f cd) :: outer) → ∃ sl, h5.get? b = some { o with slots := sl } := fun b o ho hb => by
    obtain ⟨_, o2, e2, nf⟩ := fly.2.2.1.mem hb
    rw [ho] at e2
    cases e2
    exact up b o ho nf
  have un5 : Un (frs ((envOfC qual scope s₀.heap.objs.size f cd) :: outer)) [] H H' s.heap h5 := by
    refine ⟨fun b o e n nf nx => ?_, fun b o e n hb nx => ?_, un.free, fun b o e nx => ?_, un.tups, un.frzs, un.tbls⟩
    · obtain ⟨o', hb⟩ := hB b o e nf
      exact stay (apart hb nf) (un.keep b o e n nf nx)
    · obtain ⟨sl, e1⟩ := un.slot b o e n hb nx
      obtain ⟨sl', e2⟩ := up1 b _ e1 hb
      exact ⟨sl', e2⟩
    · obtain ⟨o', e1⟩ := un.there b o e nx
      by_cases hb : b ∈ frs ((envOfC qual scope s₀.heap.objs.size f cd) :: outer)
      · obtain ⟨sl', e2⟩ := up1 b _ e1 hb
        exact ⟨_, e2⟩
      · obtain ⟨o2, h2⟩ := hB b o e hb
        exact ⟨o', stay (apart h2 hb) e1⟩
  have hok5 : HOk P w H' h5 := fun a o e => (hok a o e).stay (fun b u hc q => by
    rcases hc with rfl | hc
    · exact stay (kH e) q
    · exact stay (kH hc) q) (fun _ q => q) fun _ _ q => q
  have I5 := I.call' (s' := { s' with heap := h5 }) (ch := []) os un5 hok5 bare (fun b z => absurd z (by simp))
  refine ⟨ea, cls, a0, od, H', _, rfl, fly5, dc5, fun b o hb nf => ?_, fun b o hb => ?_, I5.os, I5.bare, I5.base, hok5, hE⟩
  · have ns := stk hb nf
    obtain ⟨o1, e1⟩ := I.base.there b o hb (by show b ∉ []; simp)
    obtain ⟨o2, e2⟩ := hB b o1 e1 ns
    obtain ⟨o3, e3⟩ := un.there b o1 e1 (by simp)
    exact ⟨o3, by rw [less_out (apart e2 ns)]; exact e3⟩
  · obtain ⟨u, hu⟩ := (hok b o hb).some_
    exact ⟨u, by rw [less_out (kH hb)]; exact hu⟩
end L2


namespace SF
open PySem PySem.Calls PyProof.Rows
section
variable {prog : Program} {w : World} {A : Around} {E : Value → Shared → Prop} {s : Shared}
set_option maxHeartbeats 8000000 in
end
end SF
namespace L2
open PySem PySem.Spec PyProof.Rows
section
variable {X : Cx}
end
end L2


namespace L2
open PySem PySem.Spec PyProof.Rows
/-! ### things of any depth in the heap -/
inductive HD (H : Hp) : V → Da → Prop
  | non : HD H .non .non
  | bl (b : Bool) : HD H (.bl b) (.bl b)
  | int (i : Int) : HD H (.int i) (.int i)
  | str (s : Str) : HD H (.str s) (.str s)
  | tup {p : Addr} {xs : List V} {ds : List Da} (h : H p = some (.tup xs)) (l : xs.length = ds.length) (e : ∀ (i : Nat) x d, xs[i]? = some x → ds[i]? = some d → HD H x d) : HD H (.ref p) (.tup ds)
  | lst {p : Addr} {xs : List V} {ds : List Da} (h : H p = some (.lst xs)) (l : xs.length = ds.length) (e : ∀ (i : Nat) x d, xs[i]? = some x → ds[i]? = some d → HD H x d) : HD H (.ref p) (.lst ds)
theorem HD.same {H H' : Hp} {v : V} {d : Da} (h : HD H v d) (s : Same H H') : HD H' v d := by
  induction h with
  | non => exact .non
  | bl b => exact .bl b
  | int i => exact .int i
  | str x => exact .str x
  | tup h l e ih => exact .tup (s _ _ h) l ih
  | lst h l e ih => exact .lst (s _ _ h) l ih
theorem HD.da {H : Hp} {v : V} {d : Da} (K : PySem.W.Frag) (h : HD H v d) : DaAt K H v d := by
  induction h with
  | non => exact .non
  | bl b => exact .bl b
  | int i => exact .int i
  | str x => exact .str x
  | tup h l e ih => exact .tup (SqT.of h) l ih
  | lst h l e ih => exact .lst (SqL.of h) l ih
/-- the things of a list -/
inductive HDs (H : Hp) : List V → List Da → Prop
  | nil : HDs H [] []
  | cons {x : V} {d : Da} {xs : List V} {ds : List Da} (h : HD H x d) (r : HDs H xs ds) : HDs H (x :: xs) (d :: ds)
theorem HDs.len {H : Hp} {xs : List V} {ds : List Da} (h : HDs H xs ds) : xs.length = ds.length := by
  induction h with
  | nil => rfl
  | cons h r ih => rw [List.length_cons, List.length_cons, ih]
theorem HDs.get {H : Hp} {xs : List V} {ds : List Da} (h : HDs H xs ds) : ∀ (i : Nat) x d, xs[i]? = some x → ds[i]? = some d → HD H x d := by
  induction h with
  | nil => intro i x d h; simp at h
  | cons h r ih =>
    intro i x d h1 h2
    cases i with
    | zero => cases h1; cases h2; exact h
    | succ i => exact ih i x d (by simpa using h1) (by simpa using h2)
theorem HDs.same {H H' : Hp} {xs : List V} {ds : List Da} (h : HDs H xs ds) (s : Same H H') : HDs H' xs ds := by
  induction h with
  | nil => exact .nil
  | cons h r ih => exact .cons (h.same s) ih
theorem HDs.of {H : Hp} : ∀ {xs : List V} {ds : List Da}, xs.length = ds.length → (∀ (i : Nat) x d, xs[i]? = some x → ds[i]? = some d → HD H x d) → HDs H xs ds
  | [], [], _, _ => .nil
  | x :: xs, d :: ds, h, e => .cons (e 0 x d rfl rfl) (HDs.of (by simpa using h) fun i y z a b => e (i + 1) y z (by simpa using a) (by simpa using b))
  | [], _ :: _, h, _ => by simp at h
  | _ :: _, [], h, _ => by simp at h
theorem HDs.cons_inv {H : Hp} {xs : List V} {d : Da} {ds : List Da} (h : HDs H xs (d :: ds)) : ∃ x r, xs = x :: r ∧ HD H x d ∧ HDs H r ds := by
  cases h with
  | cons h r => exact ⟨_, _, rfl, h, r⟩
theorem HDs.nil_inv {H : Hp} {xs : List V} (h : HDs H xs []) : xs = [] := by
  cases h
  rfl
theorem HDs.app {H : Hp} {xs ys : List V} {ds es : List Da} (h : HDs H xs ds) (k : HDs H ys es) : HDs H (xs ++ ys) (ds ++ es) := by
  induction h with
  | nil => exact k
  | cons h r ih => exact .cons h ih
theorem HD.tupS {H : Hp} {p : Addr} {xs : List V} {ds : List Da} (h : H p = some (.tup xs)) (r : HDs H xs ds) : HD H (.ref p) (.tup ds) := .tup h r.len r.get
theorem HD.lstS {H : Hp} {p : Addr} {xs : List V} {ds : List Da} (h : H p = some (.lst xs)) (r : HDs H xs ds) : HD H (.ref p) (.lst ds) := .lst h r.len r.get
theorem HD.tup_inv {H : Hp} {v : V} {ds : List Da} (h : HD H v (.tup ds)) : ∃ p xs, v = .ref p ∧ H p = some (.tup xs) ∧ HDs H xs ds := by
  cases h with
  | tup h l e => exact ⟨_, _, rfl, h, .of l e⟩
/-! ### an expression that is read to a thing -/
theorem Same.new {H : Hp} {l : Addr} {o : HO} (h : H l = none) : Same H (upd H l o) := fun b u e => by
  rw [upd_ne (ne_of_none e h)]
  exact e
def HT (t : TE) (σ : St) (H : Hp) (d : Da) : Prop := ∀ (G : Hp) (Q : VK), Same H G → (∀ (v : V) (G' : Hp), Same G G' → HD G' v d → Q v G') → t σ G Q
def HA (t : TA) (σ : St) (H : Hp) (ds : List Da) : Prop := ∀ (G : Hp) (Q : List V → Hp → Prop), Same H G → (∀ (xs : List V) (G' : Hp), Same G G' → HDs G' xs ds → Q xs G') → t σ G Q
theorem asg_next {σ : St} {H : Hp} {te : TE} {g : TG} {u : TS} {D : Ends} {rt : VK} {bk ct : St → Hp → Prop} (h : te σ H fun x H1 => g x σ H1 (u D)) : Ends.nx (Ends.mk (tSeq (tAsg te g) u D) rt bk ct) σ H := h
theorem ret_next {σ : St} {H : Hp} {te : TE} {D : Ends} {rt : VK} {bk ct : St → Hp → Prop} (h : te σ H D.rt) : Ends.nx (Ends.mk (tRet te D) rt bk ct) σ H := h
theorem asg_seq {σ : St} {H : Hp} {te : TE} {g : TG} {u : TS} {D : Ends} (h : te σ H fun x H1 => g x σ H1 (u D)) : tSeq (tAsg te g) u D σ H := h
theorem ret_seq {σ : St} {H : Hp} {te : TE} {D : Ends} (h : te σ H D.rt) : tRet te D σ H := h
theorem set_next {i : Nat} {v : V} {σ : St} {H : Hp} {Q : St → Hp → Prop} (h : Q (σ.set i (some v)) H) : gName i v σ H Q := h
section
variable {σ : St} {H : Hp}
theorem ht_int {i : Int} : HT (tC (.int i)) σ H (.int i) := fun G Q _ k => k _ _ (.refl _) (.int i)
theorem ht_str {s : Str} : HT (tC (.str s)) σ H (.str s) := fun G Q _ k => k _ _ (.refl _) (.str s)
theorem ht_bl {b : Bool} : HT (tC (.bl b)) σ H (.bl b) := fun G Q _ k => k _ _ (.refl _) (.bl b)
theorem ht_non : HT (tC .non) σ H .non := fun G Q _ k => k _ _ (.refl _) .non
theorem ht_var {i : Nat} {v : V} {d : Da} (h : σ[i]? = some (some v)) (hv : HD H v d) : HT (tVar i) σ H d := fun G Q s k => ⟨v, h, k _ _ (.refl _) (hv.same s)⟩
theorem ha_nil : HA tNil σ H [] := fun G Q _ k => k _ _ (.refl _) .nil
theorem ha_cons {t : TE} {ta : TA} {d : Da} {ds : List Da} (h : HT t σ H d) (r : HA ta σ H ds) : HA (tCons t ta) σ H (d :: ds) := fun G Q s k =>
  h G _ s fun v G1 s1 hv => r G1 _ (s.trans s1) fun xs G2 s2 hx => k _ _ (s1.trans s2) (.cons (hv.same s2) hx)
theorem ht_tup {ta : TA} {ds : List Da} (h : HA ta σ H ds) (hl : ds.length ≤ 1000 := by exact Nat.le_of_ble_eq_true rfl) : HT (tTup ta) σ H (.tup ds) := fun G Q s k =>
  h G _ s fun xs G1 s1 hx => ⟨by rw [hx.len]; exact Nat.le_of_lt (small1000 hl), fun p np => k _ _ (s1.trans (.new np)) (.tupS upd_same (hx.same (.new np)))⟩
theorem ht_lst {ta : TA} {ds : List Da} (h : HA ta σ H ds) (hl : ds.length ≤ 1000 := by exact Nat.le_of_ble_eq_true rfl) : HT (tLst ta) σ H (.lst ds) := fun G Q s k =>
  h G _ s fun xs G1 s1 hx => ⟨by rw [hx.len]; exact Nat.le_of_lt (small1000 hl), fun p np => k _ _ (s1.trans (.new np)) (.lstS upd_same (hx.same (.new np)))⟩
theorem lst_goN {ta : TA} {ds : List Da} {Q : VK} (h : HA ta σ H ds) (k : ∀ (p : Addr) (xs : List V) (G : Hp), Same H G → H p = none → G p = some (.lst xs) → HDs G xs ds → Q (.ref p) G) (hl : ds.length ≤ 1000 := by exact Nat.le_of_ble_eq_true rfl) : tLst ta σ H Q :=
  h H _ (.refl _) fun xs G1 s1 hx => ⟨by rw [hx.len]; exact Nat.le_of_lt (small1000 hl), fun p np => k p xs _ (s1.trans (.new np)) (s1.free np) upd_same (hx.same (.new np))⟩
theorem ht_op {a b : TE} {g : Int → Int → Int} {i j : Int} (h : HT a σ H (.int i)) (k : HT b σ H (.int j)) : HT (tOp (rI0 fun i j => .int (g i j)) a b) σ H (.int (g i j)) := fun G Q s q =>
  h G _ s fun v G1 s1 hv => k G1 _ (s.trans s1) fun u G2 s2 hu => by
    cases hv
    cases hu
    exact ⟨i, j, rfl, rfl, q _ _ (s1.trans s2) (.int _)⟩
end
end L2


namespace L2
open PySem PySem.Spec PyProof.Rows
/-! ### xs[::-1] of a list -/
theorem fm_range {α : Type} {f : Nat → Option α} {h : Nat → α} : ∀ (n : Nat), (∀ k, k < n → f k = some (h k)) → (List.range n).filterMap f = (List.range n).map h
  | 0, _ => rfl
  | n + 1, q => by
    rw [List.range_succ, List.filterMap_append, List.map_append, fm_range n (fun k hk => q k (by omega))]
    simp [q n (by omega)]
theorem pick_rev (its : List Value) : slicePick its.toArray none none (some (-1)) = its.reverse.toArray := by
  unfold slicePick
  congr 1
  have hb : sliceBounds none none (some (-1)) its.toArray.size = ((its.length : Int) - 1, -1, -1) := by
    simp [sliceBounds]
  rw [hb]
  have hr : sliceRange ((its.length : Int) - 1) (-1) (-1) = (List.range its.length).map fun k => its.length - 1 - k := by
    unfold sliceRange
    have hc : (if (-1 : Int) > 0 then if (its.length : Int) - 1 < -1 then (-1 - ((its.length : Int) - 1) + -1 - 1) / -1 else 0 else if (its.length : Int) - 1 > -1 then ((its.length : Int) - 1 - -1 - -1 - 1) / - -1 else 0).toNat = its.length := by
      rw [if_neg (by decide)]
      split
      · rw [show (- -1 : Int) = 1 by decide, Int.ediv_one]
        omega
      · omega
    simp only []
    rw [hc]
    refine List.map_congr_left fun k hk => ?_
    have := List.mem_range.mp hk
    omega
  simp only []
  rw [hr, List.filterMap_map]
  rcases its with _ | ⟨z, zs⟩
  · rfl
  · have q : ∀ k, k < (z :: zs).length → ((fun x => (z :: zs).toArray[x]?) ∘ fun k => (z :: zs).length - 1 - k) k = some ((z :: zs).reverse.getD k z) := fun k hk => by
      show (z :: zs).toArray[(z :: zs).length - 1 - k]? = _
      rw [List.getElem?_toArray]
      have h1 : (z :: zs).length - 1 - k < (z :: zs).length := by omega
      rw [List.getElem?_eq_getElem h1, List.getD_eq_getElem?_getD, List.getElem?_reverse hk, List.getElem?_eq_getElem h1]
      rfl
    rw [fm_range _ q]
    refine List.ext_getElem (by simp) fun i h1 h2 => ?_
    rw [List.getElem_map, List.getElem_range, List.getD_eq_getElem?_getD, List.getElem?_eq_getElem h2]
    rfl
theorem Vals_rev_aux {xs : List V} {its : List Value} (r : Vals xs its) : ∀ {ys : List V} {jts : List Value}, Vals ys jts → Vals (xs.reverseAux ys) (its.reverseAux jts) := by
  induction r with
  | nil => intro ys jts h; exact h
  | cons a _ ih => intro ys jts h; exact ih (.cons a h)
section
variable {X : Cx} {e st : Expr} {te : TE} {ts : TO} {pos p2 : Pos}
def tRev (K : PySem.W.Frag) (te : TE) (ts : TO) : TE := fun σ H Q => te σ H fun x H1 => ts σ H1 fun k H2 => k = some (-1) ∧ ∃ a xs, x = .ref a ∧ SqL K H2 a xs ∧ ∀ p, H2 p = none → Q (.ref p) (upd H2 p (.lst xs.reverse))
theorem pe_rev (he : PE X e te) (hs : PO X (some st) ts) : PE X (.Subscript e (.Slice none none (some st) p2) pos) (tRev X.K te ts) := by
  intro pins s σ H Q I h
  refine Subscript_ (thn (he pins s σ H _ I h) fun v s1 ⟨x, H1, I1, r1, q1⟩ => ?_)
  refine wpAny_Slice ?_
  rw [evalPart_none]
  refine wpAny_pure ?_
  refine wpAny_pure ?_
  refine thn (hs pins s1 σ H1 _ I1 q1) fun vs s3 ⟨u, H3, I3, pu, q3⟩ => ?_
  obtain ⟨rfl, a, xs, rfl, hx, q⟩ := q3
  cases r1
  have I4 : Inv X pins σ H3 { s3 with heap := s3.heap.push { cls := .type "slice", data := .fields #[.none, .none, vs] } } := I3.kept (t' := s3.toks) fun b ob q => Heap.get?_push_of_some _ q
  obtain ⟨its, r, ht, hz⟩ := I4.list hx
  have hlen := r.length
  show wpAny (model X.prog X.w) X.A (subscriptTail e (.Slice none none (some st) p2) (.ref a) (.ref s3.heap.objs.size)) (EP X pins σ Q) X.xe { s3 with heap := s3.heap.push { cls := .type "slice", data := .fields #[.none, .none, vs] } }
  refine tail_any (ops := [.ref a, .ref s3.heap.objs.size]) ht.isList.typeIs slot_list_getitem.lookup ?_ (by with_unfolding_all rfl)
  refine wpAny_getItem_list_slice ht.isList (Heap.IsSliceOf.new ..) .none .none pu (by simp) ?_ (by rw [List.size_toArray] <;> omega)
  rw [pick_rev]
  refine ⟨.ref _, _, I4.laid (t' := s3.toks) (o := .lst xs.reverse) (fun b ob q => Heap.get?_push_of_some _ q) (Nat.le_refl _) ?_, rfl, q _ (I4.hok.fresh (Nat.le_refl _))⟩
  exact ⟨by rw [List.length_reverse]; exact hz, _, 0, Vals_rev_aux r .nil, Heap.get?_push_size _ rfl⟩
end
end L2


namespace L2
open PySem PySem.W PySem.Spec PySem.Calls PyProof.Rows
/-! ### a try whose one statement may raise: an if, a call in each of its arms -/
section
variable {X : Cx}
def PSz (X : Cx) (st : Stmt) (tz : XK → TS) : Prop := ∀ (XE : Value → Shared → Prop) (pins : List (Addr × Obj)) (s : Shared) (σ : St) (H : Hp) (D : Ends) (EK : XK), Inv X pins σ H s → tz EK D σ H →
  (∀ (H1 : Hp) (s1 : Shared) (e : Value) (s' : Shared), Inv X pins σ H1 s1 → CX2 X.prog X.w X.stack H1 s1 EK e s' → XE e s') → wpAny (model X.prog X.w) X.A (exec st X.env) (SP X pins D) XE s
theorem psz_of {st : Stmt} {k : Nat} {f : Addr} {fd : FuncData} {ps : List Str} {sp : Sp} {dvs : List V} {ds : List Value} {t : TA} {r : V → TS} (hst0 : PSr X st f t r) (F : FnOk X.prog X.w X.K X.mg X.base (CX2 X.prog X.w) k f fd ps sp) (hr : Room k X.A) (hb : Binds X.K fd ps ds) (hd : Vals dvs ds) :
    PSz X st (fun EK D σ H => t σ H fun vs H1 => sp (vs ++ dvs) H1 (fun v H2 => r v D σ H2) EK) := fun XE pins s σ H D EK I h hX =>
  hst0 XE pins s σ H D _ I h fun vs H1 s1 us q I1 r => run_fnD F hr hb hd I1 r q fun e s' cx => hX H1 s1 e s' I1 cx
theorem psz_if {c : Expr} {a b : Stmt} {pos : Pos} {tc : TT} {ta tb : XK → TS} (hc : PT X.nox c tc) (ha : PSz X a ta) (hb : PSz X b tb) : PSz X (.If c [a] [b] pos) (fun EK D σ H => tc σ H fun d H1 => if d = true then ta EK D σ H1 else tb EK D σ H1) := by
  intro XE pins s σ H D EK I h hX
  refine wpAny_If (wpAny_mono (hc pins s σ H _ (I.wish _) h) (fun d s1 hd => ?_) fun _ _ z => False.elim z)
  obtain ⟨H1, I1', q1⟩ := hd
  have I1 : Inv X pins σ H1 s1 := I1'.unwish
  have one : ∀ {st : Stmt}, wpAny (model X.prog X.w) X.A (exec st X.env) (SP X pins D) XE s1 → wpAny (model X.prog X.w) X.A (execs [st] X.env) (SP X pins D) XE s1 := fun h => wpAny_execs_cons (wpAny_mono h (fun fl s2 q => by
    cases fl with
    | next => exact wpAny_execs_nil q
    | brk => exact q
    | cont => exact q
    | ret u => exact q) fun _ _ z => z)
  cases d with
  | true => exact one (ha XE pins s1 σ H1 D EK I1 (by rw [if_pos rfl] at q1; exact q1) hX)
  | false => exact one (hb XE pins s1 σ H1 D EK I1 (by rw [if_neg (by decide)] at q1; exact q1) hX)
end
def tTryZ (K : PySem.W.Frag) (tz : XK → TS) (i : Nat) (cR : Value) (ts : TS) : TS := fun D σ H => tz (fun cls od H2 => exmOne K cls cR = some true ∧ ∀ ea, H2 ea = none → ts (D.less i) (σ.set i (some (.ref ea))) (upd H2 ea (excD ea cls od))) D σ H
section
variable {X : Cx} {cR : Addr} {x n : Str} {np p3 p4 : Pos} {ts : TS} {i : Nat} {st b₀ : Stmt} {suite : List Stmt} {L : Addr} {tz : XK → TS}
theorem ps_tryZ (hst0 : PSz X st tz)
    (hst : X.stack = X.env :: X.outer) (hL : X.env.frame = some L) (hLl : X.env.locals = L) (hex : X.ex = []) (hg : Gl X x) (hmg : X.mg x = some (.ref cR)) (hN : X.N.Nodup) (hi : X.N[i]? = some n) (hn : X.env.kindOf n = some .local)
    (hs : ∀ ea, PSs (X.inSuite ea) (b₀ :: suite) ts) (hdb : (x == ("__debug__" : Str)) = false := by decide) :
    PS X (.Try [st] [.ExceptHandler (some (.Name x np)) (some n) (b₀ :: suite) p3] [] [] p4) (tTryZ X.K tz i (.ref cR) ts) := by
  intro pins s σ H D I h
  refine wpAny_Try_except (wpAny_execs_cons (wpAny_mono (hst0 _ pins s σ H D _ I h fun H1 s1 e s' I1 cx => ?_) (fun fl s1 q => ?_) fun _ _ z => z))
  · refine caughtD I1 hst hL cx fun ex cls a0 od H' B s2 ee hE dc I2 fly hH hB again => ?_
    subst ee
    obtain ⟨hcls, hsuite⟩ := hE
    obtain ⟨oe, vs, T, oT, tss, g1, g2, g3, g4, g5, g6, g7, g8, g9⟩ := fly.2.2.2
    have nfr : ex ∉ frs X.stack := fun z => by
      obtain ⟨_, o2, e2, nf⟩ := fly.2.2.1.mem z
      rw [g1] at e2
      cases e2
      exact nf _ g3
    have apart : ∀ {b o}, s1.heap.get? b = some o → b ≠ ex := fun {b o} hb z => by
      subst z
      obtain ⟨o', h'⟩ := hB b o hb nfr
      rw [fly.2.1] at h'
      cases h'
    have hnone : H' ex = none := by
      cases e : H' ex with
      | none => rfl
      | some o' =>
        obtain ⟨o2, h2⟩ := hH ex o' e
        rw [fly.2.1] at h2
        cases h2
    have IS := I2.suite ex
    refine wpAny_handleBy_cons (codeAny_handlers_test (ld_glob IS hg hmg ?_ hdb)) (by intro z; cases z)
    have LT : Looks (model X.prog X.w) s2.heap (typeOf (.ref ex)) cls := by
      have this : Looks (model X.prog X.w) s2.heap (typeOf (.ref ex)) oe.cls := (Looks.ld g1).andThen .now
      rw [g2.1] at this
      exact this
    refine (exm_one I2.kIn LT hcls).here ?_
    refine codeAny_handlers_suite_as (againD fly dc fun h6 fly6 up6 dc6 => ?_)
    have I6 := again h6 fly6 up6
    obtain ⟨oe6, vs6, T6, oT6, ts6, k1, k2, k3, _⟩ := fly6.2.2.2
    obtain ⟨oe7, k4, k5⟩ := dc6
    cases k1.symm.trans k4
    have I7 := I6.trackD (cls := cls) (od := od) hnone (by
      cases e : X.s₀.heap.get? ex with
      | none => rfl
      | some o' =>
        obtain ⟨o2, h2⟩ := I1.base.there ex o' e (by rw [hex]; simp)
        exact absurd rfl (apart h2)) (fun z => nfr (by
          rw [hst, z, hLl]
          unfold frs
          rw [List.filterMap_cons, hL]
          simp)) (fun y c e => by
        obtain ⟨v, oc, hc, _⟩ := I1.cell y c e
        exact apart hc) (fun p hp => apart (I1.pin p hp).1) ⟨oe6, k1, k2.1, by unfold notCls; rw [k3], k5⟩
    refine store_ok I7 hN hi (.inl hn) (v := .ref ex) (u := .ref ex) rfl (fun s8 I8 => ?_) (.inr hn)
    refine wpAny_mono (hs ex pins s8 _ _ _ (I8.suite ex) (hsuite ex hnone)) (fun fl s9 q9 => ?_) fun _ _ z => False.elim z
    show wpAny _ _ _ _ _ _
    cases fl with
    | next =>
      obtain ⟨σ9, H9, I9, q⟩ := q9
      exact forget_ok (I9.unsuite I.ok) hN hi hn fun s10 I10 => ⟨_, H9, I10, q⟩
    | brk =>
      obtain ⟨σ9, H9, I9, q⟩ := q9
      exact forget_ok (I9.unsuite I.ok) hN hi hn fun s10 I10 => ⟨_, H9, I10, q⟩
    | cont =>
      obtain ⟨σ9, H9, I9, q⟩ := q9
      exact forget_ok (I9.unsuite I.ok) hN hi hn fun s10 I10 => ⟨_, H9, I10, q⟩
    | ret u =>
      obtain ⟨v, σ9, H9, I9, r, q⟩ := q9
      exact forget_ok (I9.unsuite I.ok) hN hi hn fun s10 I10 => ⟨v, _, H9, I10, r, q⟩
  · cases fl with
    | next => exact wpAny_execs_nil (wpAny_execs_nil q)
    | brk => exact q
    | cont => exact q
    | ret u => exact q
end
end L2


namespace L2
open PySem PySem.W PySem.Spec PySem.Calls PyProof.Rows
/-! ### d.clear() -/
/-! ### lists of what is alike -/
section
variable {X : Cx} {pins : List (Addr × Obj)} {σ : St} {H : Hp} {s : Shared}
end
end L2


namespace L2
open PySem PySem.Spec PyProof.Rows
/-! ### two that are alike: None, tuples of the same scalars and truths, lists of the very same things -/
def ScB (x : V) : Prop := Scal x ∨ ∃ b, x = .bl b
def ElM (x : V) : Prop := ScB x ∨ ∃ c, x = .ref c
theorem elM_at {A : Around} {s : Shared} {x : V} {u v : Value} (h : ElM x) (ru : RelV x u) (rv : RelV x v) : SeqAt.EqAt A s u v true := by
  rcases h with (h | ⟨b, rfl⟩) | ⟨c, rfl⟩
  · exact scal_at h ru rv
  · have e1 : u = Value.bool b := ru
    have e2 : v = Value.bool b := rv
    subst e1 e2
    exact SeqAt.EqAt.same _
  · cases ru
    cases rv
    exact SeqAt.EqAt.same _
def EqB (H : Hp) (x y : V) : Prop := ∃ p q xs, x = .ref p ∧ y = .ref q ∧ H p = some (.tup xs) ∧ H q = some (.tup xs) ∧ ∀ z ∈ xs, ElM z
def EqL (H : Hp) (x y : V) : Prop := ∃ p q xs, x = .ref p ∧ y = .ref q ∧ H p = some (.lst xs) ∧ H q = some (.lst xs) ∧ ∀ z ∈ xs, ElM z
section
variable {X : Cx} {pins : List (Addr × Obj)} {σ : St} {H : Hp} {s : Shared}
theorem el_each {A : Around} {xs : List V} {i1 i2 : List Value} (r1 : Vals xs i1) (r2 : Vals xs i2) (hs : ∀ z ∈ xs, ElM z) (j : Nat) (h1 : j < i1.toArray.size) (h2 : j < i2.toArray.size) : SeqAt.EqAt A s i1.toArray[j] i2.toArray[j] true := by
  have l1 := r1.length
  have l2 := r2.length
  have j1 : j < xs.length := by simp at h1; omega
  have z1 : xs[j]? = some xs[j] := List.getElem?_eq_getElem j1
  obtain ⟨u1, w1, q1⟩ := r1.get z1
  obtain ⟨u2, w2, q2⟩ := r2.get z1
  have e1 : i1.toArray[j] = u1 := by
    have : i1[j]? = some i1[j] := List.getElem?_eq_getElem (by omega)
    rw [this] at w1
    simpa using w1
  have e2 : i2.toArray[j] = u2 := by
    have : i2[j]? = some i2[j] := List.getElem?_eq_getElem (by omega)
    rw [this] at w2
    simpa using w2
  rw [e1, e2]
  exact elM_at (hs _ (List.getElem_mem j1)) q1 q2
def rNeM : R2 := fun x y H Q => ((x = .non ∧ y = .non) ∨ EqB H x y ∨ EqL H x y) ∧ Q (.bl false) H
theorem op_neM (hu : X.A.units + 2 < cLine) : OpR X (compareOp .NotEq) rNeM := by
  intro pins s σ H x y v u Q I rx ry h
  obtain ⟨⟨rfl, rfl⟩ | h | h, k⟩ := h
  · exact op_ne pins s σ H .non .non v u Q I rx ry ⟨rfl, k⟩
  · obtain ⟨p, q, xs, rfl, rfl, hp, hq, hs⟩ := h
    cases rx
    cases ry
    obtain ⟨_, i1, r1, t1⟩ := (show ObjOk X.prog X.w H s.heap p (.tup xs) from I.hok p _ hp)
    obtain ⟨_, i2, r2, t2⟩ := (show ObjOk X.prog X.w H s.heap q (.tup xs) from I.hok q _ hq)
    have l1 := r1.length
    have l2 := r2.length
    have key := SeqAt.RcNeAt.tuples (A := X.A) (s := s) (e := fun _ => true) t1 t2 (by omega) fun j h1 h2 => el_each r1 r2 hs j h1 h2
    rw [all_true] at key
    have e3 : (!(true && i1.toArray.size == i2.toArray.size)) = false := by simp; omega
    rw [e3] at key
    exact key _ _ _ _ ⟨.bl false, H, I, rfl, k⟩
  · obtain ⟨p, q, xs, rfl, rfl, hp, hq, hs⟩ := h
    cases rx
    cases ry
    obtain ⟨i1, r1, t1, _⟩ := I.list (SqL.of hp)
    obtain ⟨i2, r2, t2, _⟩ := I.list (SqL.of hq)
    have l1 := r1.length
    have l2 := r2.length
    have key : SeqAt.RcNeAt X.A s (.ref p) (.ref q) (!(List.range i1.toArray.size).all fun _ => true) :=
      SeqAt.RcNeAt.lists t1.isList t2.isList (by simp; omega) (by omega) fun j h1 h2 => el_each r1 r2 hs j h1 h2
    rw [all_true] at key
    exact key _ _ _ _ ⟨.bl false, H, I, rfl, k⟩
def rEqM : R2 := fun x y H Q => EqB H x y ∧ Q (.bl true) H
theorem op_eqM (hu : X.A.units + 2 < cLine) : OpR X (compareOp .Eq) rEqM := by
  intro pins s σ H x y v u Q I rx ry h
  obtain ⟨h, k⟩ := h
  obtain ⟨p, q, xs, rfl, rfl, hp, hq, hs⟩ := h
  cases rx
  cases ry
  obtain ⟨_, i1, r1, t1⟩ := (show ObjOk X.prog X.w H s.heap p (.tup xs) from I.hok p _ hp)
  obtain ⟨_, i2, r2, t2⟩ := (show ObjOk X.prog X.w H s.heap q (.tup xs) from I.hok q _ hq)
  have l1 := r1.length
  have l2 := r2.length
  have key := SeqAt.RcAt.tuples (A := X.A) (s := s) (e := fun _ => true) t1 t2 (by omega) fun j h1 h2 => el_each r1 r2 hs j h1 h2
  rw [all_true] at key
  have e3 : (true && i1.toArray.size == i2.toArray.size) = true := by simp; omega
  rw [e3] at key
  exact key _ _ _ _ ⟨.bl true, H, I, rfl, k⟩
end
end L2


namespace My
open PySem L2
def top (i : Nat) : Stmt := PySem.Challenge.pw_widenrows_k41_what_is_no_wish.main.body.getD i (.Pass ⟨0, 0, 0, 0⟩)
abbrev s_goes_on : Stmt := top 14
abbrev s_targets_of : Stmt := top 15
abbrev s_ways_of : Stmt := top 17
abbrev s_is_whole : Stmt := top 23
abbrev s_is_number_of : Stmt := top 24
abbrev s_is_targets : Stmt := top 25
abbrev s_is_part : Stmt := top 26
abbrev s_are_parts : Stmt := top 27
abbrev s_word_of : Stmt := top 28
abbrev s_is_row : Stmt := top 29
abbrev s_stays_within : Stmt := top 35
abbrev s_check_rows : Stmt := top 36
abbrev s_is_place : Stmt := top 41
abbrev s_is_what : Stmt := top 42
abbrev s_is_wish : Stmt := top 43
abbrev s_check_wishes : Stmt := top 44
abbrev s_widened : Stmt := top 85
abbrev s_law_cell_at : Stmt := top 87
abbrev s_law_stream : Stmt := top 88
abbrev s_law_box : Stmt := top 89
abbrev s_law_row : Stmt := top 90
abbrev s_law_rows : Stmt := top 91
abbrev s_law_wish : Stmt := top 93
abbrev s_law_ways : Stmt := top 94
abbrev s_law_bad : Stmt := top 95
abbrev s_law_told : Stmt := top 96
abbrev s_law : Stmt := top 97
theorem bt_list : bootBuiltins "list" = some (.type "list") := by decide +kernel
theorem bt_tuple : bootBuiltins "tuple" = some (.type "tuple") := by decide +kernel
theorem bt_set : bootBuiltins "set" = some (.type "set") := by decide +kernel
theorem bt_bool : bootBuiltins "bool" = some (.type "bool") := by decide +kernel
theorem bt_len : bootBuiltins "len" = some (.builtin "len") := by decide +kernel
theorem bt_sorted : bootBuiltins "sorted" = some (.builtin "sorted") := by decide +kernel
theorem bt_isi : bootBuiltins "isinstance" = some (.builtin "isinstance") := by decide +kernel
theorem at0 {α : Type} (a : α) (r : List α) : atI (a :: r) 0 = some a := atI_nat (j := 0) rfl
theorem at1 {α : Type} (a b : α) (r : List α) : atI (a :: b :: r) 1 = some b := atI_nat (j := 1) rfl
theorem at2 {α : Type} (a b c : α) (r : List α) : atI (a :: b :: c :: r) 2 = some c := atI_nat (j := 2) rfl
theorem strEq {a b : Str} (h : decide (V.str a = V.str b) = true) : a = b := V.str.inj (of_decide_eq_true h)
theorem strNe {a b : Str} (h : ¬ decide (V.str a = V.str b) = true) : ¬ a = b := fun e => h (by rw [e]; exact decide_eq_true rfl)
/-! ### words -/
theorem inV_str (w : Str) : ∀ ss : List Str, inV (.str w) (ss.map V.str) = decide (w ∈ ss)
  | [] => rfl
  | x :: r => by
    have ih := inV_str w r
    unfold inV at ih ⊢
    rw [List.map_cons, List.any_cons, ih]
    show ((x == w) || _) = _
    by_cases h : x = w
    · subst h
      simp
    · have h' : ¬ w = x := fun e => h e.symm
      simp [h, h']
theorem same_new {H : Hp} {l : Addr} {o : HO} (h : H l = none) : Same H (upd H l o) := fun b u e => by
  rw [upd_ne (ne_of_none e h)]
  exact e
theorem bt_int : bootBuiltins "int" = some (.type "int") := by decide +kernel
theorem bt_str : bootBuiltins "str" = some (.type "str") := by decide +kernel
theorem bt_all : bootBuiltins "all" = some (.builtin "all") := by decide +kernel
/-! ### small steps of a reading -/
theorem same_put {H H1 : Hp} {l : Addr} {o : HO} (e : Same H H1) (h : H l = none) : Same H (upd H1 l o) := fun b u z => by
  rw [upd_ne (ne_of_none z h)]
  exact e b u z
theorem kit_ty {K : PySem.W.Frag} {a b : String} {r : Bool} (h1 : (Value.type a == Value.type b) = false) (h2 : PySem.W.kitMeta b = true) (h3 : (fastBuiltinMro a).map (·.contains (Value.type b)) = some r) : PySem.W.kitOne K (.type a) (.type b) = some r := by
  unfold PySem.W.kitOne
  rw [if_neg (by rw [h1]; decide)]
  show (if PySem.W.kitMeta b = true then (fastBuiltinMro a).map (·.contains (Value.type b)) else none) = some r
  rw [if_pos h2]
  exact h3
theorem kit_eq {K : PySem.W.Frag} {a : String} (h : (Value.type a == Value.type a) = true) : PySem.W.kitOne K (.type a) (.type a) = some true := by
  unfold PySem.W.kitOne
  rw [if_pos h]
theorem k_int_bool {K : PySem.W.Frag} : PySem.W.kitOne K (.type "int") (.type "bool") = some false := kit_ty (by decide) (by decide +kernel) (by decide +kernel)
theorem k_list_list {K : PySem.W.Frag} : PySem.W.kitOne K (.type "list") (.type "list") = some true := kit_eq (by decide)
def notOn : List Str := ["stop", "back", "halt", "jump"]
def jcm : List Str := ["jump", "call", "mark"]
def zb : List Str := ["zero", "below"]
/-- what a row's own parts tell of its targets -/
def Parts (H : Hp) (w : Str) (items : List V) (ts : List Int) : Prop :=
  if w = "table" then ∃ (b : V) (q : Addr), items = [b, .ref q] ∧ H q = some (.tup (ts.map V.int))
  else if w ∈ jcm then ∃ (t : Int) (f : V), items = [.int t, f] ∧ ts = [t]
  else if w ∈ zb then ∃ (b : V) (t : Int) (f : V), items = [b, .int t, f] ∧ ts = [t] else ts = []
/-- a row at r: its word, its targets -/
def RowAt (H : Hp) (r : Addr) (w : Str) (ts : List Int) : Prop := ∃ items, H r = some (.tup (.str w :: items)) ∧ Parts H w items ts
theorem Parts.same {H H' : Hp} {w : Str} {items : List V} {ts : List Int} (e : Same H H') (h : Parts H w items ts) : Parts H' w items ts := by
  unfold Parts at h ⊢
  split
  · rename_i h1
    rw [if_pos h1] at h
    obtain ⟨b, q, h2, h3⟩ := h
    exact ⟨b, q, h2, e _ _ h3⟩
  · rename_i h1
    rw [if_neg h1] at h
    exact h
theorem RowAt.same {H H' : Hp} {r : Addr} {w : Str} {ts : List Int} (e : Same H H') (h : RowAt H r w ts) : RowAt H' r w ts := by
  obtain ⟨items, h1, h2⟩ := h
  exact ⟨items, e _ _ h1, h2.same e⟩
/-- what the walk asks of the module -/
structure Txt (K : PySem.W.Frag) (pr : Params) (mg : Str → Option Value) : Prop where
  g_NOT_GOING_ON : ∃ p, mg "NOT_GOING_ON" = some (.ref p) ∧ ∀ H, SqT K H p [.str "stop", .str "back", .str "halt", .str "jump"]
  g_MOST_ROWS : ∃ t, mg "MOST_ROWS" = some (.int (4000) t)
  g_MOST_TARGETS : ∃ t, mg "MOST_TARGETS" = some (.int (16) t)
  g_BOUNDS : ∃ p, mg "BOUNDS" = some (.ref p) ∧ KLit K pr p ∧ (∃ q, KHas K pr p "box" (some (.ref q)) ∧ ∀ H, SqT K H q [.int 0, .int 7]) ∧ (∃ q, KHas K pr p "aside" (some (.ref q)) ∧ ∀ H, SqT K H q [.int 0, .int 1000000]) ∧ (∃ q, KHas K pr p "target" (some (.ref q)) ∧ ∀ H, SqT K H q [.int 0, .int 1000000000]) ∧ (∃ q, KHas K pr p "number" (some (.ref q)) ∧ ∀ H, SqT K H q [.int 0, .int 1000000]) ∧ (∃ q, KHas K pr p "value" (some (.ref q)) ∧ ∀ H, SqT K H q [.int (-1000000000), .int 1000000000]) ∧ (∃ q, KHas K pr p "far" (some (.ref q)) ∧ ∀ H, SqT K H q [.int 0, .int 1])
  g_PARTS : ∃ p, mg "PARTS" = some (.ref p) ∧ KLit K pr p ∧ (∃ q, KHas K pr p "stop" (some (.ref q)) ∧ ∀ H, SqT K H q []) ∧ (∃ q, KHas K pr p "back" (some (.ref q)) ∧ ∀ H, SqT K H q []) ∧ (∃ q, KHas K pr p "halt" (some (.ref q)) ∧ ∀ H, SqT K H q [.str "number"]) ∧ (∃ q, KHas K pr p "set" (some (.ref q)) ∧ ∀ H, SqT K H q [.str "box", .str "value"]) ∧ (∃ q, KHas K pr p "more" (some (.ref q)) ∧ ∀ H, SqT K H q [.str "box", .str "value"]) ∧ (∃ q, KHas K pr p "copy" (some (.ref q)) ∧ ∀ H, SqT K H q [.str "box", .str "box"]) ∧ (∃ q, KHas K pr p "add" (some (.ref q)) ∧ ∀ H, SqT K H q [.str "box", .str "box"]) ∧ (∃ q, KHas K pr p "less" (some (.ref q)) ∧ ∀ H, SqT K H q [.str "box", .str "box"]) ∧ (∃ q, KHas K pr p "load" (some (.ref q)) ∧ ∀ H, SqT K H q [.str "box", .str "box"]) ∧ (∃ q, KHas K pr p "keep" (some (.ref q)) ∧ ∀ H, SqT K H q [.str "box", .str "box"]) ∧ (∃ q, KHas K pr p "tell" (some (.ref q)) ∧ ∀ H, SqT K H q [.str "box"]) ∧ (∃ q, KHas K pr p "see" (some (.ref q)) ∧ ∀ H, SqT K H q [.str "box", .str "number"]) ∧ (∃ q, KHas K pr p "put" (some (.ref q)) ∧ ∀ H, SqT K H q [.str "box", .str "aside"]) ∧ (∃ q, KHas K pr p "take" (some (.ref q)) ∧ ∀ H, SqT K H q [.str "box", .str "aside"]) ∧ (∃ q, KHas K pr p "jump" (some (.ref q)) ∧ ∀ H, SqT K H q [.str "target", .str "far"]) ∧ (∃ q, KHas K pr p "zero" (some (.ref q)) ∧ ∀ H, SqT K H q [.str "box", .str "target", .str "far"]) ∧ (∃ q, KHas K pr p "below" (some (.ref q)) ∧ ∀ H, SqT K H q [.str "box", .str "target", .str "far"]) ∧ (∃ q, KHas K pr p "call" (some (.ref q)) ∧ ∀ H, SqT K H q [.str "target", .str "far"]) ∧ (∃ q, KHas K pr p "mark" (some (.ref q)) ∧ ∀ H, SqT K H q [.str "target", .str "far"]) ∧ (∃ q, KHas K pr p "table" (some (.ref q)) ∧ ∀ H, SqT K H q [.str "box", .str "targets"]) ∧ KHas K pr p "Stop" none
  g_MOST_WISHES : ∃ t, mg "MOST_WISHES" = some (.int (12) t)
  g_PLACES : ∃ p, mg "PLACES" = some (.ref p) ∧ KLit K pr p ∧ KHas K pr p "before" (some (.int 2)) ∧ KHas K pr p "after" (some (.int 2)) ∧ KHas K pr p "way" (some (.int 3)) ∧ KHas K pr p "at" none ∧ KHas K pr p "" none
  g_WHATS : ∃ p, mg "WHATS" = some (.ref p) ∧ KLit K pr p ∧ (∃ q, KHas K pr p "look" (some (.ref q)) ∧ ∀ H, SqT K H q [.str "number", .str "box"]) ∧ (∃ q, KHas K pr p "count" (some (.ref q)) ∧ ∀ H, SqT K H q [.str "number"]) ∧ (∃ q, KHas K pr p "guard" (some (.ref q)) ∧ ∀ H, SqT K H q [.str "number", .str "box"]) ∧ KHas K pr p "see" none
  len : mg "len" = none
  list : mg "list" = none
  tuple : mg "tuple" = none
  int : mg "int" = none
  bool : mg "bool" = none
  str : mg "str" = none
  dict : mg "dict" = none
  isi : mg "isinstance" = none
  enum : mg "enumerate" = none
  range : mg "range" = none
  min : mg "min" = none
  max : mg "max" = none
  all : mg "all" = none
  zip : mg "zip" = none
  sorted : mg "sorted" = none
  set : mg "set" = none
  abs : mg "abs" = none
def isStar : Expr → Bool
  | .Starred _ _ => true
  | _ => false
theorem star_no {e : Expr} {es : List Expr} {env : Env} (h : isStar e = false) : starEach (e :: es) env = (false, eval e env) :: starEach es env := starEach.eq_3 _ _ _ (fun e1 p h1 => by rw [h1] at h; cases h)
/-! ### a display of many things: its parts shut off one by one -/
inductive PAs (X : Cx) : List Expr → List TE → Prop where
  | nil : PAs X [] []
  | cons {e : Expr} {te : TE} {es : List Expr} {ts : List TE} (h : PE X e te) (r : PAs X es ts) (hs : isStar e = false := by rfl) : PAs X (e :: es) (te :: ts)
def tAll : List TE → TA
  | [] => tNil
  | te :: ts => tCons te (tAll ts)
theorem PAs.pa {X : Cx} {es : List Expr} {ts : List TE} (h : PAs X es ts) : PA X es (tAll ts) := by
  induction h with
  | nil => exact pa_nil
  | cons h r hs ih => exact pa_cons h ih (star_no hs)
theorem pe_lstS {X : Cx} {es : List Expr} {ts : List TE} {pos : Pos} (h : PAs X es ts) : PE X (.List es pos) (tLst (tAll ts)) := pe_lst h.pa
theorem pe_tupS {X : Cx} {es : List Expr} {ts : List TE} {pos : Pos} {x1} (h : PAs X es ts) : PE X (.Tuple es x1 pos) (tTup (tAll ts)) := pe_tup h.pa
/-! ### a display of many constants: shut off, else the reading of the goal runs through it -/
@[irreducible] def PEi (X : Cx) (e : Expr) (t : TE) : Prop := PE X e t
@[irreducible] def PSi (X : Cx) (e : Stmt) (t : TS) : Prop := PS X e t
theorem pei_lst {X : Cx} {es : List Expr} {ts : List TE} {pos : Pos} (h : PAs X es ts) : PEi X (.List es pos) (tLst (tAll ts)) := by
  unfold PEi
  exact pe_lst h.pa
theorem psi_set {X : Cx} {pos : Pos} {i : Nat} {x : Str} {e : Expr} {te : TE} {pos' : Pos} (hN : X.N.Nodup) (hi : X.N[i]? = some x) (hx : Loc X.env.scope x) (he : PEi X e te) (hs : swapsWith e (some (.Name x pos')) pos.line X.env = pure false := by rfl) (hf : X.fn x = true ∨ X.env.scope.names.lookup x = some .local := by first | exact .inl rfl | exact .inr rfl | assumption) :
    PSi X (.Assign [.Name x pos'] e pos) (tAsg te (gName i)) := by
  unfold PEi at he
  unfold PSi
  exact ps_set hN hi hx he hs hf
theorem psx_of_i {X : Cx} {st : Stmt} {t : TS} (h : PSi X st t) : PSx X st t := by
  unfold PSi at h
  exact psx_of h
theorem iteP {c A B : Prop} [Decidable c] (h : c) (a : A) : if c then A else B := by rw [if_pos h]; exact a
theorem iteN {c A B : Prop} [Decidable c] (h : ¬ c) (b : B) : if c then A else B := by rw [if_neg h]; exact b
theorem small_len {n : Nat} (h : n ≤ 1000000) : n ≤ sizeLine := Nat.le_trans h (by decide)
theorem small_lt {n : Nat} (h : n ≤ 1000000) : n < sizeLine := Nat.lt_of_le_of_lt h (by decide)
theorem pg_two {X : Cx} {K : PySem.W.Frag} (hK : X.K = K) {i j : Nat} {x y : Str} {px py pt : Pos} {k : Nat} (hc : X.calm = true) (hN : X.N.Nodup) (hi : X.N[i]? = some x) (hx : Loc X.env.scope x) (hj : X.N[j]? = some y) (hy : Loc X.env.scope y)
    (hf : X.fn x = true ∨ X.env.scope.names.lookup x = some .local := by first | exact .inl rfl | exact .inr rfl) (hf2 : X.fn y = true ∨ X.env.scope.names.lookup y = some .local := by first | exact .inl rfl | exact .inr rfl) :
    PG X (.Tuple [.Name x px, .Name y py] k pt) (gTup K 2 (gCons (gName i) (gCons (gName j) gNil))) := hK ▸ pg_tup (n := 2) hc (pgs_cons (pg_name hN hi hx hf) (pgs_cons (pg_name hN hj hy hf2) pgs_nil))
end My


namespace My
open PySem L2
def tyD : Da → String
  | .non => "NoneType"
  | .bl _ => "bool"
  | .int _ => "int"
  | .str _ => "str"
  | .tup _ => "tuple"
  | .lst _ => "list"
theorem _root_.L2.HD.ty {K : PySem.W.Frag} {H : Hp} {v : V} {d : Da} (h : HD H v d) : TyOf K H v (.type (tyD d)) := by
  cases h with
  | non => exact .non
  | bl b => exact .bl b
  | int i => exact .int i
  | str x => exact .str x
  | tup h l e => exact .tup h
  | lst h l e => exact .lst h
def is_tuple : Da → Bool
  | .tup _ => true
  | _ => false
theorem kD_tuple {K : PySem.W.Frag} (d : Da) : PySem.W.kitOne K (.type (tyD d)) (.type "tuple") = some (is_tuple d) := by
  cases d with
  | non => exact (show PySem.W.kitOne K (.type "NoneType") (.type "tuple") = some false from kit_ty (by decide) (by decide +kernel) (by decide +kernel))
  | bl b => exact (show PySem.W.kitOne K (.type "bool") (.type "tuple") = some false from kit_ty (by decide) (by decide +kernel) (by decide +kernel))
  | int i => exact (show PySem.W.kitOne K (.type "int") (.type "tuple") = some false from kit_ty (by decide) (by decide +kernel) (by decide +kernel))
  | str s => exact (show PySem.W.kitOne K (.type "str") (.type "tuple") = some false from kit_ty (by decide) (by decide +kernel) (by decide +kernel))
  | tup l => exact (show PySem.W.kitOne K (.type "tuple") (.type "tuple") = some true from kit_eq (by decide))
  | lst l => exact (show PySem.W.kitOne K (.type "list") (.type "tuple") = some false from kit_ty (by decide) (by decide +kernel) (by decide +kernel))
def is_int : Da → Bool
  | .bl _ => true
  | .int _ => true
  | _ => false
theorem kD_int {K : PySem.W.Frag} (d : Da) : PySem.W.kitOne K (.type (tyD d)) (.type "int") = some (is_int d) := by
  cases d with
  | non => exact (show PySem.W.kitOne K (.type "NoneType") (.type "int") = some false from kit_ty (by decide) (by decide +kernel) (by decide +kernel))
  | bl b => exact (show PySem.W.kitOne K (.type "bool") (.type "int") = some true from kit_ty (by decide) (by decide +kernel) (by decide +kernel))
  | int i => exact (show PySem.W.kitOne K (.type "int") (.type "int") = some true from kit_eq (by decide))
  | str s => exact (show PySem.W.kitOne K (.type "str") (.type "int") = some false from kit_ty (by decide) (by decide +kernel) (by decide +kernel))
  | tup l => exact (show PySem.W.kitOne K (.type "tuple") (.type "int") = some false from kit_ty (by decide) (by decide +kernel) (by decide +kernel))
  | lst l => exact (show PySem.W.kitOne K (.type "list") (.type "int") = some false from kit_ty (by decide) (by decide +kernel) (by decide +kernel))
def is_bool : Da → Bool
  | .bl _ => true
  | _ => false
theorem kD_bool {K : PySem.W.Frag} (d : Da) : PySem.W.kitOne K (.type (tyD d)) (.type "bool") = some (is_bool d) := by
  cases d with
  | non => exact (show PySem.W.kitOne K (.type "NoneType") (.type "bool") = some false from kit_ty (by decide) (by decide +kernel) (by decide +kernel))
  | bl b => exact (show PySem.W.kitOne K (.type "bool") (.type "bool") = some true from kit_eq (by decide))
  | int i => exact (show PySem.W.kitOne K (.type "int") (.type "bool") = some false from kit_ty (by decide) (by decide +kernel) (by decide +kernel))
  | str s => exact (show PySem.W.kitOne K (.type "str") (.type "bool") = some false from kit_ty (by decide) (by decide +kernel) (by decide +kernel))
  | tup l => exact (show PySem.W.kitOne K (.type "tuple") (.type "bool") = some false from kit_ty (by decide) (by decide +kernel) (by decide +kernel))
  | lst l => exact (show PySem.W.kitOne K (.type "list") (.type "bool") = some false from kit_ty (by decide) (by decide +kernel) (by decide +kernel))
def is_str : Da → Bool
  | .str _ => true
  | _ => false
theorem kD_str {K : PySem.W.Frag} (d : Da) : PySem.W.kitOne K (.type (tyD d)) (.type "str") = some (is_str d) := by
  cases d with
  | non => exact (show PySem.W.kitOne K (.type "NoneType") (.type "str") = some false from kit_ty (by decide) (by decide +kernel) (by decide +kernel))
  | bl b => exact (show PySem.W.kitOne K (.type "bool") (.type "str") = some false from kit_ty (by decide) (by decide +kernel) (by decide +kernel))
  | int i => exact (show PySem.W.kitOne K (.type "int") (.type "str") = some false from kit_ty (by decide) (by decide +kernel) (by decide +kernel))
  | str s => exact (show PySem.W.kitOne K (.type "str") (.type "str") = some true from kit_eq (by decide))
  | tup l => exact (show PySem.W.kitOne K (.type "tuple") (.type "str") = some false from kit_ty (by decide) (by decide +kernel) (by decide +kernel))
  | lst l => exact (show PySem.W.kitOne K (.type "list") (.type "str") = some false from kit_ty (by decide) (by decide +kernel) (by decide +kernel))
def is_list : Da → Bool
  | .lst _ => true
  | _ => false
theorem kD_list {K : PySem.W.Frag} (d : Da) : PySem.W.kitOne K (.type (tyD d)) (.type "list") = some (is_list d) := by
  cases d with
  | non => exact (show PySem.W.kitOne K (.type "NoneType") (.type "list") = some false from kit_ty (by decide) (by decide +kernel) (by decide +kernel))
  | bl b => exact (show PySem.W.kitOne K (.type "bool") (.type "list") = some false from kit_ty (by decide) (by decide +kernel) (by decide +kernel))
  | int i => exact (show PySem.W.kitOne K (.type "int") (.type "list") = some false from kit_ty (by decide) (by decide +kernel) (by decide +kernel))
  | str s => exact (show PySem.W.kitOne K (.type "str") (.type "list") = some false from kit_ty (by decide) (by decide +kernel) (by decide +kernel))
  | tup l => exact (show PySem.W.kitOne K (.type "tuple") (.type "list") = some false from kit_ty (by decide) (by decide +kernel) (by decide +kernel))
  | lst l => exact (show PySem.W.kitOne K (.type "list") (.type "list") = some true from kit_eq (by decide))
def wnD : Da → Option Int
  | .int i => some i
  | _ => none
def wordD : Da → Option Str
  | .tup (.str u :: _) => some u
  | _ => none
def ovS : Option Str → V
  | some u => .str u
  | none => .non
def numD (lo hi : Int) (d : Da) : Bool := match wnD d with
  | some i => decide (lo ≤ i ∧ i ≤ hi)
  | none => false
section
variable {P : Program} {w : World} {K : PySem.W.Frag} {mg : Str → Option Value} {base : Heap}
/-! ### is_whole, word_of, is_number_of -/
def spWh : Sp := fun vs H Q _ => ∃ (v : V) (d : Da), vs = [v] ∧ HD H v d ∧ Q (.bl (wnD d).isSome) H
theorem scWh : FnScope ["thing"] ["thing"] (defScope s_is_whole) := ⟨rfl, rfl, rfl, by decide +kernel, rfl, by decide +kernel, by decide +kernel⟩
theorem ok_is_whole {f : Addr} {fd : FuncData} (F : Fun K "is_whole" "is_whole" s_is_whole f fd) (T : Txt K w.params mg)  : FnOk P w K mg base CX0 1 f fd ["thing"] spWh := by
  refine F.ok scWh (fun vs H Q E h => ?_) (fun cdv A outer s H vs Q E hr h => ?_)
  · obtain ⟨v, d, rfl, _⟩ := h
    rfl
  · obtain ⟨v, d, rfl, hv, k⟩ := h
    refine wrapX (pssx_one (psx_of (ps_ret (pe_and (pe_callB call_isinst (by rfl) T.isi bt_isi (pa_cons (pv 0) (pa_cons (pe_bltn (v := .ty "int") (by rfl) T.int bt_int rfl) pa_nil))) (pe_one (pe_not (pe_callB call_isinst (by rfl) T.isi bt_isi (pa_cons (pv 0) (pa_cons (pe_bltn (v := .ty "bool") (by rfl) T.bool bt_bool rfl) pa_nil))))))))) ?_
    refine ⟨_, rfl, _, _, _, _, rfl, hv.ty, kD_int d, _, rfl, ?_⟩
    cases d with
    | int i => exact iteP rfl ⟨_, rfl, _, _, _, _, rfl, hv.ty, kD_bool _, _, rfl, k⟩
    | bl b => exact iteP rfl ⟨_, rfl, _, _, _, _, rfl, hv.ty, kD_bool _, _, rfl, k⟩
    | non => exact iteN Bool.false_ne_true k
    | str u => exact iteN Bool.false_ne_true k
    | tup l => exact iteN Bool.false_ne_true k
    | lst l => exact iteN Bool.false_ne_true k
def spWo : Sp := fun vs H Q _ => ∃ (v : V) (d : Da), vs = [v] ∧ HD H v d ∧ Q (ovS (wordD d)) H
theorem scWo : FnScope ["thing"] ["thing"] (defScope s_word_of) := ⟨rfl, rfl, rfl, by decide +kernel, rfl, by decide +kernel, by decide +kernel⟩
theorem ok_word_of {f : Addr} {fd : FuncData} (F : Fun K "word_of" "word_of" s_word_of f fd) (T : Txt K w.params mg)  : FnOk P w K mg base CX0 1 f fd ["thing"] spWo := by
  refine F.ok scWo (fun vs H Q E h => ?_) (fun cdv A outer s H vs Q E hr h => ?_)
  · obtain ⟨v, d, rfl, _⟩ := h
    rfl
  · obtain ⟨v, d, rfl, hv, k⟩ := h
    refine wrapX (pssx_cons (psx_if (pw_and (pt_val (pe_callB call_isinst (by rfl) T.isi bt_isi (pa_cons (pv 0) (pa_cons (pe_bltn (v := .ty "tuple") (by rfl) T.tuple bt_tuple rfl) pa_nil)))) (pw_and (pt_cmpR op_gt (pe_callB call_len_seq (by rfl) T.len bt_len (pa_cons (pv 0) pa_nil)) pe_int (nomark _)) (pw_and1 (pt_val (pe_callB call_isinst (by rfl) T.isi bt_isi (pa_cons (pe_ix ix_tup (pv 0) pe_int (fun _ _ => rfl)) (pa_cons (pe_bltn (v := .ty "str") (by rfl) T.str bt_str rfl) pa_nil))))))).pt (pssx_one (psx_of (ps_ret (pe_ix ix_tup (pv 0) pe_int (fun _ _ => rfl))))) (pssx_nil pss_nil))
      (pssx_one (psx_of (ps_ret pe_non)))) ?_
    refine ⟨_, rfl, _, _, _, _, rfl, hv.ty, kD_tuple d, _, rfl, ?_⟩
    cases d with
    | non => exact iteN Bool.false_ne_true k
    | bl b => exact iteN Bool.false_ne_true k
    | int i => exact iteN Bool.false_ne_true k
    | str u => exact iteN Bool.false_ne_true k
    | lst l => exact iteN Bool.false_ne_true k
    | tup l =>
      refine iteP rfl ?_
      obtain ⟨q, xs, rfl, hq, hs⟩ := hv.tup_inv
      refine ⟨_, rfl, q, _, rfl, .inr (SqT.of hq), _, _, rfl, rfl, _, rfl, ?_⟩
      cases hs with
      | nil => exact iteN (by decide) k
      | cons h r =>
        refine iteP (decide_eq_true (by rw [List.length_cons]; omega)) ?_
        refine ⟨_, rfl, q, _, 0, _, rfl, rfl, SqT.of hq, at0 _ _, _, _, _, _, rfl, h.ty, kD_str _, _, rfl, ?_⟩
        cases h with
        | str u => exact iteP rfl ⟨_, rfl, q, _, 0, _, rfl, rfl, SqT.of hq, at0 _ _, k⟩
        | non => exact iteN Bool.false_ne_true k
        | bl b => exact iteN Bool.false_ne_true k
        | int i => exact iteN Bool.false_ne_true k
        | tup h l e => exact iteN Bool.false_ne_true k
        | lst h l e => exact iteN Bool.false_ne_true k
def bnds : List (Str × Int × Int) := [("box", 0, 7), ("aside", 0, 1000000), ("target", 0, 1000000000), ("number", 0, 1000000), ("value", -1000000000, 1000000000), ("far", 0, 1)]
def bdK (k : Str) : Int × Int := ((bnds.find? fun x => x.1 == k).map (·.2)).getD (0, 0)
def spNu : Sp := fun vs H Q _ => ∃ (kd : Str) (v : V) (d : Da), vs = [.str kd, v] ∧ kd ∈ bnds.map (·.1) ∧ HD H v d ∧ Q (.bl (numD (bdK kd).1 (bdK kd).2 d)) H
theorem Txt.bnd {pr : Params} (T : Txt K pr mg) : ∃ p, mg "BOUNDS" = some (.ref p) ∧ ∀ kd ∈ bnds.map (·.1), ∃ q, KHas K pr p kd (some (.ref q)) ∧ ∀ H, SqT K H q [.int (bdK kd).1, .int (bdK kd).2] := by
  obtain ⟨p, hp, _, h0, h1, h2, h3, h4, h5⟩ := T.g_BOUNDS
  refine ⟨p, hp, fun kd hk => ?_⟩
  rcases (by decide +kernel : ∀ kd : Str, kd ∈ (bnds.map (·.1) : List Str) → (kd = ("box" : Str) ∧ bdK kd = (0, 7)) ∨ (kd = ("aside" : Str) ∧ bdK kd = (0, 1000000)) ∨ (kd = ("target" : Str) ∧ bdK kd = (0, 1000000000)) ∨ (kd = ("number" : Str) ∧ bdK kd = (0, 1000000)) ∨ (kd = ("value" : Str) ∧ bdK kd = (-1000000000, 1000000000)) ∨ (kd = ("far" : Str) ∧ bdK kd = (0, 1))) kd hk with ⟨rfl, e⟩ | ⟨rfl, e⟩ | ⟨rfl, e⟩ | ⟨rfl, e⟩ | ⟨rfl, e⟩ | ⟨rfl, e⟩ <;> rw [e] <;> assumption
theorem scNu : FnScope ["kind", "thing"] ["kind", "thing"] (defScope s_is_number_of) := ⟨rfl, rfl, rfl, by decide +kernel, rfl, by decide +kernel, by decide +kernel⟩
theorem ok_is_number_of {f fW : Addr} {fd fdW : FuncData} (F : Fun K "is_number_of" "is_number_of" s_is_number_of f fd) (T : Txt K w.params mg) (GW : FnOk P w K mg base CX0 1 fW fdW ["thing"] spWh) (kW : PySem.W.keepIn K (.ref fW) = true) (bW : Binds K fdW ["thing"] []) (mW : mg "is_whole" = some (.ref fW)) : FnOk P w K mg base CX0 2 f fd ["kind", "thing"] spNu := by
  refine F.ok scNu (fun vs H Q E h => ?_) (fun cdv A outer s H vs Q E hr h => ?_)
  · obtain ⟨kd, v, d, rfl, _⟩ := h
    rfl
  · obtain ⟨kd, v, d, rfl, hk, hv, k⟩ := h
    obtain ⟨pb, hpb, hpk⟩ := T.bnd
    obtain ⟨q, hq, hS⟩ := hpk kd hk
    refine wrapX (pssx_one (psx_of (ps_ret (pe_and (pe_call GW hr (by rfl) mW kW bW .nil pass0 (pa_cons (pv 1) pa_nil)) (pe_one (pe_chain op_le op_le (pe_ix ix_tup (pe_kget (pe_glob (v := .ref pb) (by rfl) hpb rfl) (pv 0) (fun _ _ => rfl)) pe_int (fun _ _ => rfl)) (pv 1) (pe_ix ix_tup (pe_kget (pe_glob (v := .ref pb) (by rfl) hpb rfl) (pv 0) (fun _ _ => rfl)) pe_int (fun _ _ => rfl)))))))) ?_
    refine ⟨_, rfl, v, d, rfl, hv, _, rfl, ?_⟩
    unfold numD at k
    cases hw : wnD d with
    | none => rw [hw] at k; exact iteN Bool.false_ne_true k
    | some n =>
      rw [hw] at k
      have k : Q (.bl (decide ((bdK kd).1 ≤ n ∧ n ≤ (bdK kd).2))) H := k
      have hd : d = .int n := by cases d <;> cases hw; rfl
      subst hd
      cases hv
      refine iteP rfl ?_
      refine ⟨_, rfl, pb, kd, _, rfl, rfl, hq, q, _, 0, _, rfl, rfl, hS _, at0 _ _, _, rfl, _, _, rfl, rfl, _, rfl, ?_⟩
      refine ite2 (fun e => ?_) (fun e => ?_)
      · refine ⟨_, rfl, pb, kd, _, rfl, rfl, hq, q, _, 1, _, rfl, rfl, hS _, at1 _ _ _, _, _, rfl, rfl, ?_⟩
        have e := of_decide_eq_true e
        rw [show decide ((bdK kd).1 ≤ n ∧ n ≤ (bdK kd).2) = decide (n ≤ (bdK kd).2) from decide_eq_decide.mpr ⟨fun z => z.2, fun z => ⟨e, z⟩⟩] at k
        exact k
      · rw [decide_eq_false (fun z => e (decide_eq_true z.1))] at k
        exact k
end
end My


namespace My
open PySem L2
section
variable {P : Program} {w : World} {K : PySem.W.Frag} {mg : Str → Option Value} {base : Heap}
/-! ### goes_on -/
def spGoes : Sp := fun vs H Q _ => ∃ (r : Addr) (w : Str) (items : List V), vs = [.ref r] ∧ H r = some (.tup (.str w :: items)) ∧ Q (.bl (!decide (w ∈ notOn))) H
theorem scGoes : FnScope ["row"] ["row"] (defScope s_goes_on) := ⟨rfl, rfl, rfl, by decide +kernel, rfl, by decide +kernel, by decide +kernel⟩
theorem ok_goes_on {f : Addr} {fd : FuncData} (F : Fun K "goes_on" "goes_on" s_goes_on f fd) (T : Txt K w.params mg) : FnOk P w K mg base CX0 1 f fd ["row"] spGoes := by
  refine F.ok scGoes (fun vs H Q E h => ?_) (fun cdv A outer s H vs Q E hr h => ?_)
  · obtain ⟨r, w, items, rfl, _⟩ := h
    rfl
  · obtain ⟨r, w', items, rfl, hR, k⟩ := h
    obtain ⟨p, hp, hq⟩ := T.g_NOT_GOING_ON
    refine ⟨_, pss_one (ps_ret (pe_cmpR op_notIn_seq (pe_ix ix_tup (pv 0) pe_int (fun _ _ => rfl)) (pe_glob (v := .ref p) rfl hp rfl) rfl)), ?_⟩
    refine ⟨_, rfl, r, _, 0, .str w', rfl, rfl, SqT.of hR, at0 _ _, p, _, rfl, .inr (hq _), rfl, rfl, ?_⟩
    show Q (.bl (!inV (.str w') (notOn.map V.str))) H
    rw [inV_str]
    exact k
/-! ### targets_of -/
def spTargets : Sp := fun vs H Q _ => ∃ (r : Addr) (w : Str) (ts : List Int), vs = [.ref r] ∧ RowAt H r w ts ∧ ∀ (l : Addr) (H' : Hp), Same H H' → H l = none → H' l = some (.lst (ts.map V.int)) → Q (.ref l) H'
theorem scTargets : FnScope ["row", "word"] ["row"] (defScope s_targets_of) := ⟨rfl, rfl, rfl, by decide +kernel, rfl, by decide +kernel, by decide +kernel⟩
theorem ok_targets_of {f : Addr} {fd : FuncData} (F : Fun K "targets_of" "targets_of" s_targets_of f fd) (T : Txt K w.params mg) : FnOk P w K mg base CX0 1 f fd ["row"] spTargets := by
  refine F.ok scTargets (fun vs H Q E h => ?_) (fun cdv A outer s H vs Q E hr h => ?_)
  · obtain ⟨r, w, ts, rfl, _⟩ := h
    rfl
  · obtain ⟨r, w', ts, rfl, ⟨items, hR, hP⟩, k⟩ := h
    refine ⟨_, pss_cons (ps_set (i := 1) scTargets.nd rfl (Or.inl rfl) (pe_ix ix_tup (pv 0) pe_int (fun _ _ => rfl)))
      (pss_cons (ps_if (pt_cmpR op_eq (pv 1) pe_str (nomark _)) (pss_one (ps_ret (pe_callTy call_list_of (by rfl) T.list bt_list (pa_cons (pe_ix ix_tup (pv 0) pe_int (fun _ _ => rfl)) pa_nil)))) pss_nil)
      (pss_cons (ps_if (pt_cmpR op_in_seq (pv 1) (pe_tup (pa_cons pe_str (pa_cons pe_str (pa_cons pe_str pa_nil)))) rfl) (pss_one (ps_ret (pe_lst (pa_cons (pe_ix ix_tup (pv 0) pe_int (fun _ _ => rfl)) pa_nil)))) pss_nil)
      (pss_cons (ps_if (pt_cmpR op_in_seq (pv 1) (pe_tup (pa_cons pe_str (pa_cons pe_str pa_nil))) rfl) (pss_one (ps_ret (pe_lst (pa_cons (pe_ix ix_tup (pv 0) pe_int (fun _ _ => rfl)) pa_nil)))) pss_nil)
      (pss_one (ps_ret (pe_lst pa_nil)))))), ?_⟩
    refine ⟨_, rfl, r, _, 0, .str w', rfl, rfl, SqT.of hR, at0 _ _, _, rfl, rfl, _, rfl, ?_⟩
    refine ite2 (fun h1 => ?_) (fun h1 => ?_)
    · have h1 := strEq h1
      unfold Parts at hP
      rw [if_pos h1] at hP
      obtain ⟨b, q, rfl, hq⟩ := hP
      refine ⟨_, rfl, r, _, 2, .ref q, rfl, rfl, SqT.of hR, at2 _ _ _ _, q, _, rfl, .inr (SqT.of hq), fun l hl => ?_⟩
      exact k l _ (same_new hl) hl upd_same
    · have h1 := strNe h1
      unfold Parts at hP
      rw [if_neg h1] at hP
      refine ⟨_, rfl, (by show 3 ≤ sizeLine; decide), fun t ht => ⟨t, jcm.map V.str, rfl, .inr (SqT.of upd_same), rfl, rfl, _, rfl, ?_⟩⟩
      have s1 := same_new (o := .tup (jcm.map V.str)) ht
      have hR1 := s1 _ _ hR
      rw [show inV (.str w') (jcm.map V.str) = decide (w' ∈ jcm) from inV_str _ _]
      refine ite2 (fun h2 => ?_) (fun h2 => ?_)
      · have h2 := of_decide_eq_true h2
        rw [if_pos h2] at hP
        obtain ⟨t', f', rfl, rfl⟩ := hP
        refine ⟨_, rfl, r, _, 1, .int t', rfl, rfl, SqT.of hR1, at1 _ _ _, (by show 1 ≤ sizeLine; decide), fun l hl => ?_⟩
        exact k l _ (s1.trans (same_new hl)) (s1.free hl) upd_same
      · have h2 : ¬ w' ∈ jcm := fun e => h2 (decide_eq_true e)
        rw [if_neg h2] at hP
        refine ⟨_, rfl, (by show 2 ≤ sizeLine; decide), fun t2 ht2 => ⟨t2, zb.map V.str, rfl, .inr (SqT.of upd_same), rfl, rfl, _, rfl, ?_⟩⟩
        have s2 := s1.trans (same_new (o := .tup (zb.map V.str)) ht2)
        have hR2 := s2 _ _ hR
        rw [show inV (.str w') (zb.map V.str) = decide (w' ∈ zb) from inV_str _ _]
        refine ite2 (fun h3 => ?_) (fun h3 => ?_)
        · have h3 := of_decide_eq_true h3
          rw [if_pos h3] at hP
          obtain ⟨b, t', f', rfl, rfl⟩ := hP
          refine ⟨_, rfl, r, _, 2, .int t', rfl, rfl, SqT.of hR2, at2 _ _ _ _, (by show 1 ≤ sizeLine; decide), fun l hl => ?_⟩
          exact k l _ (s2.trans (same_new hl)) (s2.free hl) upd_same
        · have h3 : ¬ w' ∈ zb := fun e => h3 (decide_eq_true e)
          rw [if_neg h3] at hP
          subst hP
          refine ⟨(by show 0 ≤ sizeLine; decide), fun l hl => ?_⟩
          exact k l _ (s2.trans (same_new hl)) (s2.free hl) upd_same
/-! ### ways_of -/
def spWays : Sp := fun vs H Q _ => ∃ (p q : Addr) (rows : List V) (r : Nat) (w : Str) (ts : List Int), vs = [.ref p, .int r] ∧ SqL K H p rows ∧ rows[r]? = some (.ref q) ∧ RowAt H q w ts ∧ ts.length ≤ 16 ∧
  ∀ (l : Addr) (ms : List Int) (H' : Hp), Same H H' → H l = none → H' l = some (.lst (ms.map V.int)) → ms.Pairwise (· ≤ ·) → ms.Nodup → (∀ j, j ∈ ms ↔ j ∈ ts ∨ (¬ w ∈ notOn ∧ j = r + 1)) → Q (.ref l) H'
theorem scWays : FnScope ["rows", "r", "ways"] ["rows", "r"] (defScope s_ways_of) := ⟨rfl, rfl, rfl, by decide +kernel, rfl, by decide +kernel, by decide +kernel⟩
theorem ok_ways_of {f fG fT : Addr} {fd fdG fdT : FuncData} (F : Fun K "ways_of" "ways_of" s_ways_of f fd) (T : Txt K w.params mg) (GG : FnOk P w K mg base CX0 1 fG fdG ["row"] spGoes) (kG : PySem.W.keepIn K (.ref fG) = true) (bG : Binds K fdG ["row"] []) (mG : mg "goes_on" = some (.ref fG)) (GT : FnOk P w K mg base CX0 1 fT fdT ["row"] spTargets) (kT : PySem.W.keepIn K (.ref fT) = true) (bT : Binds K fdT ["row"] []) (mT : mg "targets_of" = some (.ref fT)) : FnOk P w K mg base CX0 2 f fd ["rows", "r"] (spWays (K := K)) := by
  refine F.ok scWays (fun vs H Q E h => ?_) (fun cdv A outer s H vs Q E hr h => ?_)
  · obtain ⟨p, q, rows, r, w, ts, rfl, _⟩ := h
    rfl
  · obtain ⟨p, q, rows, r, w', ts, rfl, hS, hq, hR, hlen, k⟩ := h
    refine ⟨_, pss_cons (ps_set (i := 2) scWays.nd rfl (Or.inl rfl) (pe_call GT hr (by rfl) mT kT bT .nil pass0 (pa_cons (pe_ix ix_list (pv 0) (pv 1) (fun _ _ => rfl)) pa_nil)))
      (pss_cons (ps_if (pt_val (pe_call GG hr (by rfl) mG kG bG .nil pass0 (pa_cons (pe_ix ix_list (pv 0) (pv 1) (fun _ _ => rfl)) pa_nil)))
        (pss_one (ps_expr (pe_bm PySem.F.plainAttrs_list PySem.F.slot_list_append PySem.F.type_list_append mt_append (pv 2) (pa_cons (pe_op op_add (pv 1) pe_int) pa_nil)))) pss_nil)
      (pss_one (ps_ret (pe_callB (call_sorted_of rfl) (by rfl) T.sorted bt_sorted (pa_cons (pe_callTy (call_set_of rfl) (by rfl) T.set bt_set (pa_cons (pv 2) pa_nil)) pa_nil))))), ?_⟩
    refine ⟨_, rfl, _, rfl, p, rows, r, .ref q, rfl, rfl, hS, atI_nat hq, q, w', ts, rfl, hR, fun l H1 s1 nl hl => ?_⟩
    have hS1 := s1.seq hS
    obtain ⟨items, hq1, _⟩ := hR.same s1
    refine ⟨_, rfl, _, rfl, p, rows, r, .ref q, rfl, rfl, hS1, atI_nat hq, q, w', items, rfl, hq1, _, rfl, ?_⟩
    -- the end: a set of the list, sorted
    have fin : ∀ (ns : List Int) (H2 : Hp), Same H H2 → H2 l = some (.lst (ns.map V.int)) → ns.length ≤ 17 → (∀ j, j ∈ ns ↔ j ∈ ts ∨ (¬ w' ∈ notOn ∧ j = r + 1)) →
        ∃ v, [some (V.ref p), some (V.int r), some (V.ref l)][2]? = some (some v) ∧ ∃ (p' : Addr) (ns' : List Int), [v] = [V.ref p'] ∧ SqL K H2 p' (ns'.map V.int) ∧ ns'.length < 4000 ∧ ∀ (l' : Addr) (us : List Int), H2 l' = none → us.length ≤ ns'.length → us.Nodup → (∀ j, j ∈ us ↔ j ∈ ns') →
          ∃ (p2 : Addr) (us2 : List Int), [V.ref l'] = [V.ref p2] ∧ (upd H2 l' (setO P w l' us)) p2 = some (setO P w p2 us2) ∧ us2.length < 64 ∧ ∀ (l2 : Addr) (ms : List Int), (upd H2 l' (setO P w l' us)) l2 = none → ms.Perm us2 → ms.Pairwise (· ≤ ·) → Q (.ref l2) (upd (upd H2 l' (setO P w l' us)) l2 (.lst (ms.map V.int))) := by
      intro ns H2 s2 h2 hl2 hm
      refine ⟨_, rfl, l, ns, rfl, SqL.of h2, by omega, fun l' us nl' hu hnd hmu => ⟨l', us, rfl, upd_same, by omega, fun l2 ms nl2 hp hpw => ?_⟩⟩
      have s3 := s2.trans (same_new (o := setO P w l' us) nl')
      exact k l2 ms _ (s3.trans (same_new nl2)) (s3.free nl2) upd_same hpw (hp.nodup_iff.mpr hnd) (fun j => by rw [hp.mem_iff, hmu, hm])
    refine ite2 (fun h1 => ?_) (fun h1 => ?_)
    · have h1 : ¬ w' ∈ notOn := by simpa using h1
      refine ⟨_, rfl, .inl ⟨rfl, _, SqL.of hl⟩, _, rfl, _, _, rfl, rfl, l, _, _, rfl, rfl, hl, ?_, ?_⟩
      · rw [List.length_map]
        exact small1000 (by omega)
      · have e : (ts.map V.int ++ [V.int ((r : Int) + 1)]) = (ts ++ [(r : Int) + 1]).map V.int := by simp
        rw [e]
        refine fin (ts ++ [(r : Int) + 1]) _ ?_ upd_same (by simp; omega) (fun j => ?_)
        · intro b o z
          rw [upd_ne (ne_of_none z nl)]
          exact s1 b o z
        · rw [List.mem_append, List.mem_singleton]
          exact ⟨fun z => z.imp id fun e => ⟨h1, e⟩, fun z => z.imp id fun e => e.2⟩
    · have h1 : w' ∈ notOn := by simpa using h1
      refine fin ts _ s1 hl (by omega) (fun j => ⟨.inl, fun z => z.elim id fun e => absurd h1 e.1⟩)
end
end My


namespace My
open PySem L2
theorem all_take {α : Type} {g : α → Bool} {l : List α} {i : Nat} {x : α} (h : l[i]? = some x) : ((l.take i).map g) ++ [g x] = (l.take (i + 1)).map g := by
  rw [List.take_succ, h, List.map_append]
  rfl
theorem inV_int (w : Int) : ∀ ss : List Int, inV (.int w) (ss.map V.int) = decide (w ∈ ss)
  | [] => rfl
  | x :: r => by
    have ih := inV_int w r
    unfold inV at ih ⊢
    rw [List.map_cons, List.any_cons, ih]
    show ((x == w) || _) = _
    by_cases h : x = w
    · subst h
      simp
    · have h' : ¬ w = x := fun e => h e.symm
      simp [h, h']
theorem flat_ints (ms : List Int) : (ms.map V.int).all flatV = true := by
  rw [List.all_eq_true]
  intro x hx
  obtain ⟨i, _, rfl⟩ := List.mem_map.mp hx
  rfl
theorem cut_take (xs : List V) (n : Nat) : cutV xs none (some (n : Int)) = xs.take n := by
  unfold cutV
  have h1 : HT.sIx xs.length 0 none = 0 := rfl
  have h2 : HT.sIx xs.length xs.length (some (n : Int)) = min n xs.length := HT.sIx_nat ..
  rw [h1, h2, List.drop_zero, Nat.sub_zero]
  rcases Nat.le_total n xs.length with h | h
  · rw [Nat.min_eq_left h]
  · rw [Nat.min_eq_right h, List.take_length, List.take_of_length_le h]
def wPl : List Str := ["before", "after", "way"]
def oPl : List Str := ["at", ""]
def nPl (u : Str) : Int := if u = "way" then 3 else 2
def wWh : List Str := ["look", "count", "guard"]
def oWh : List Str := ["see"]
def ksW (u : Str) : List Str := if u = "count" then ["number"] else ["number", "box"]
def partsB (ks : List Str) (ds : List Da) : Bool := decide (ds.length = ks.length) && (ks.zip ds).all fun x => numD (bdK x.1).1 (bdK x.1).2 x.2
def whatB : Da → Bool
  | .tup (.str u :: ps) => decide (u ∈ wWh) && partsB (ksW u) ps
  | _ => false
def RowsT (H : Hp) (lr : Addr) (rs : List (Str × List Int)) : Prop := ∃ qs : List Addr, H lr = some (.lst (qs.map V.ref)) ∧ qs.length = rs.length ∧ ∀ (i : Nat) q r, qs[i]? = some q → rs[i]? = some r → RowAt H q r.1 r.2 ∧ r.2.length ≤ 16
theorem RowsT.same {H H' : Hp} {lr : Addr} {rs : List (Str × List Int)} (h : RowsT H lr rs) (s : Same H H') : RowsT H' lr rs := by
  obtain ⟨qs, a, b, c⟩ := h
  exact ⟨qs, s _ _ a, b, fun i q r h1 h2 => ⟨(c i q r h1 h2).1.same s, (c i q r h1 h2).2⟩⟩
def wayB (rs : List (Str × List Int)) (r t : Int) : Bool := match rs[r.toNat]? with
  | some p => decide (t ∈ p.2) || (!decide (p.1 ∈ notOn) && decide (t = r + 1))
  | none => false
def hasW (rs : List (Str × List Int)) (r : Int) : Bool := match rs[r.toNat]? with
  | some p => !decide (p.2 = []) || !decide (p.1 ∈ notOn)
  | none => false
def inR (rs : List (Str × List Int)) (r : Int) : Bool := decide (0 ≤ r) && decide (r < rs.length)
def plB (rs : List (Str × List Int)) (u : Str) (r : Int) (y : Option Int) : Bool := inR rs r && (if u = "before" then true else if u = "after" then hasW rs r else match y with
  | some t => wayB rs r t
  | none => false)
def plA (rs : List (Str × List Int)) (u : Str) : List Da → Bool
  | x :: qs => (match wnD x with
    | some r => plB rs u r ((qs.head?).bind wnD)
    | none => false)
  | [] => false
def placeB (rs : List (Str × List Int)) : Da → Bool
  | .tup (.str u :: ps) => decide (u ∈ wPl) && (decide ((ps.length : Int) + 1 = nPl u) && plA rs u ps)
  | _ => false
section
variable {P : Program} {w : World} {K : PySem.W.Frag} {mg : Str → Option Value} {base : Heap}
theorem Txt.pls {pr : Params} (T : Txt K pr mg) : ∃ p, mg "PLACES" = some (.ref p) ∧ KLit K pr p ∧ (∀ u ∈ wPl, KHas K pr p u (some (.int (nPl u)))) ∧ ∀ u ∈ oPl, KHas K pr p u none := by
  obtain ⟨p, hp, hl, h0, h1, h2, h3, h4⟩ := T.g_PLACES
  refine ⟨p, hp, hl, fun u hu => ?_, fun u hu => ?_⟩
  · rcases (by decide +kernel : ∀ u : Str, u ∈ wPl → (u = ("before" : Str) ∧ nPl u = 2) ∨ (u = ("after" : Str) ∧ nPl u = 2) ∨ (u = ("way" : Str) ∧ nPl u = 3)) u hu with ⟨rfl, e⟩ | ⟨rfl, e⟩ | ⟨rfl, e⟩ <;> rw [e] <;> assumption
  · rcases (by decide +kernel : ∀ u : Str, u ∈ oPl → u = ("at" : Str) ∨ u = ("" : Str)) u hu with rfl | rfl <;> assumption
theorem Txt.whs {pr : Params} (T : Txt K pr mg) : ∃ p, mg "WHATS" = some (.ref p) ∧ KLit K pr p ∧ (∀ u ∈ wWh, ∃ q, KHas K pr p u (some (.ref q)) ∧ ∀ H, SqT K H q ((ksW u).map V.str)) ∧ ∀ u ∈ oWh, KHas K pr p u none := by
  obtain ⟨p, hp, hl, h0, h1, h2, h3⟩ := T.g_WHATS
  refine ⟨p, hp, hl, fun u hu => ?_, fun u hu => ?_⟩
  · rcases (by decide +kernel : ∀ u : Str, u ∈ wWh → (u = ("look" : Str) ∧ ksW u = (["number", "box"] : List Str)) ∨ (u = ("count" : Str) ∧ ksW u = (["number"] : List Str)) ∨ (u = ("guard" : Str) ∧ ksW u = (["number", "box"] : List Str))) u hu with ⟨rfl, e⟩ | ⟨rfl, e⟩ | ⟨rfl, e⟩ <;> rw [e] <;> assumption
  · rcases (by decide +kernel : ∀ u : Str, u ∈ oWh → u = ("see" : Str)) u hu with rfl <;> assumption
theorem scPt : FnScope ["kind", "thing"] ["kind", "thing"] (defScope s_is_part) := ⟨rfl, rfl, rfl, by decide +kernel, rfl, by decide +kernel, by decide +kernel⟩
theorem ok_is_part {f fN : Addr} {fd fdN : FuncData} (F : Fun K "is_part" "is_part" s_is_part f fd) (T : Txt K w.params mg) (GN : FnOk P w K mg base CX0 2 fN fdN ["kind", "thing"] spNu) (kN : PySem.W.keepIn K (.ref fN) = true) (bN : Binds K fdN ["kind", "thing"] []) (mN : mg "is_number_of" = some (.ref fN)) : FnOk P w K mg base CX0 3 f fd ["kind", "thing"] spNu := by
  refine F.ok scPt (fun vs H Q E h => ?_) (fun cdv A outer s H vs Q E hr h => ?_)
  · obtain ⟨kd, v, d, rfl, _⟩ := h
    rfl
  · obtain ⟨kd, v, d, rfl, hk, hv, k⟩ := h
    refine wrapX (pssx_cons (psx_if (pt_cmpR op_eq (pv 0) pe_str (nomark _)) (pssx_one (psx_of ps_never)) (pssx_nil pss_nil))
      (pssx_one (psx_of (ps_ret (pe_call GN hr (by rfl) mN kN bN .nil pass0 (pa_cons (pv 0) (pa_cons (pv 1) pa_nil))))))) ?_
    refine ⟨_, rfl, rfl, _, rfl, iteN (fun z => ?_) ⟨_, rfl, _, rfl, kd, v, d, rfl, hk, hv, k⟩⟩
    rw [strEq z] at hk
    exact absurd hk (by decide +kernel)
def spAr : Sp := fun vs H Q _ => ∃ (q p1 : Addr) (ks : List Str) (xs : List V) (ds : List Da), vs = [.ref q, .ref p1] ∧ (∀ H, SqT K H q (ks.map V.str)) ∧ H p1 = some (.tup xs) ∧ ks.length ≤ 3 ∧ (∀ k ∈ ks, k ∈ bnds.map (·.1)) ∧ HDs H xs ds ∧ ∀ H', Same H H' → Q (.bl (partsB ks ds)) H'
theorem scAr : FnScope ["kinds", "things"] ["kinds", "things"] (defScope s_are_parts) := ⟨rfl, rfl, rfl, by decide +kernel, rfl, by decide +kernel, by decide +kernel⟩
def csArC1 : Scope := { kind := .function, names := [(".0", .local), ("kind", .local), ("thing", .local), ("is_part", .globalImplicit)], isGenerator := false, isCoroutine := false, more := [] }
theorem scArC1 : CompSc (defScope s_are_parts) csArC1 ["kinds", "things"] ["kind", "thing"] [none, none] := ⟨rfl, by decide +kernel, by decide +kernel, by decide +kernel, by decide +kernel, by decide +kernel⟩
theorem ok_are_parts {f fP : Addr} {fd fdP : FuncData} (F : Fun K "are_parts" "are_parts" s_are_parts f fd) (T : Txt K w.params mg) (GP : FnOk P w K mg base CX0 3 fP fdP ["kind", "thing"] spNu) (kP : PySem.W.keepIn K (.ref fP) = true) (bP : Binds K fdP ["kind", "thing"] []) (mP : mg "is_part" = some (.ref fP)) : FnOk P w K mg base CX0 4 f fd ["kinds", "things"] (spAr (K := K)) := by
  refine F.ok scAr (fun vs H Q E h => ?_) (fun cdv A outer s H vs Q E hr h => ?_)
  · obtain ⟨q, p1, ks, xs, ds, rfl, _⟩ := h
    rfl
  · obtain ⟨q, p1, ks, xs, ds, rfl, hq, hp1, h3, hko, hpt, k⟩ := h
    have hpl := hpt.len
    refine wrapX (pssx_one (psx_of (ps_ret (pe_and (pe_cmpR op_eq (pe_callB call_len_seq (by rfl) T.len bt_len (pa_cons (pv 1) pa_nil)) (pe_callB call_len_seq (by rfl) T.len bt_len (pa_cons (pv 0) pa_nil)) (nomark _)) (pe_one (pe_callB (call_allB rfl) (by rfl) T.all bt_all (pa_cons (pe_comp (N' := ["kind", "thing"]) (fr := [none, none]) scArC1 rfl (pi_zip rfl T.zip (pa_cons (pv 0) (pa_cons (pv 1) pa_nil))) (fun C s0 H0 fp => (pg_two (K := K) (i := 0) (j := 1) rfl rfl scArC1.nd rfl (Or.inl rfl) rfl (Or.inl rfl))) (fun C s0 H0 fp => pts_nil) (fun C s0 H0 fp => (pe_call GP hr (by rfl) mP kP bP .nil pass0 (pa_cons (pv 0) (pa_cons (pv 1) pa_nil))))) pa_nil))))))) ?_
    refine ⟨_, rfl, p1, _, rfl, .inr (SqT.of hp1), _, rfl, q, _, rfl, .inr (hq _), rfl, _, rfl, ?_⟩
    unfold partsB at k
    by_cases hlen : xs.length = ks.length
    · refine iteP (decide_eq_true (by rw [List.length_map, hlen])) ?_
      rw [decide_eq_true (show ds.length = ks.length by omega), Bool.true_and] at k
      refine ⟨_, rfl, _, rfl, q, p1, rfl, ⟨_, hq _⟩, ⟨_, SqT.of hp1⟩, fun D nD => comp_zip (K := K) (a := q) (b := p1) (xs := ks.map V.str) (zs := xs) (by rw [List.length_map, hlen])
        (fun i σ ys H1 => ∃ (v1 v2 : Option V), σ = [v1, v2] ∧ ys = ((((ks.zip ds).take i).map fun x => numD (bdK x.1).1 (bdK x.1).2 x.2).map V.bl) ∧ Same H H1 ∧ H1 D = some (.lst ys)) ?_ ?_ ?_ ?_⟩
      · exact ⟨none, none, rfl, rfl, same_new nD, upd_same⟩
      · rintro i σ ys H1 _ ⟨v1, v2, rfl, rfl, s1, _⟩
        exact ⟨hq _, SqT.of (s1 _ _ hp1)⟩
      · rintro i y z σ ys H1 t hy hz nt ⟨v1, v2, rfl, rfl, s1, hD⟩
        rw [List.getElem?_map] at hy
        obtain ⟨kd, hkd, rfl⟩ := Option.map_eq_some_iff.mp hy
        have hil := (List.getElem?_eq_some_iff.mp hkd).1
        have hpi : ds[i]? = some ds[i] := List.getElem?_eq_getElem (by omega)
        have hzi : (ks.zip ds)[i]? = some (kd, ds[i]) := by rw [List.getElem?_zip_eq_some]; exact ⟨hkd, hpi⟩
        have s3 := same_new (o := .tup [.str kd, z]) nt
        refine ⟨t, _, rfl, SqT.of upd_same, rfl, _, _, rfl, _, _, rfl, rfl, ?_⟩
        refine ⟨_, rfl, _, rfl, kd, z, ds[i], rfl, hko kd (List.mem_of_getElem? hkd), (hpt.get i z _ hz hpi).same (s1.trans s3), s3 _ _ hD, ?_, ?_⟩
        · rw [List.length_map, List.length_map, List.length_take]
          exact small1000 (by omega)
        · refine ⟨_, _, rfl, ?_, same_put (s1.trans s3) nD, upd_same⟩
          rw [← all_take (g := fun x : Str × Da => numD (bdK x.1).1 (bdK x.1).2 x.2) hzi, List.map_append]
          rfl
      · rintro σ ys H1 ⟨v1, v2, rfl, rfl, s1, hD⟩
        refine ⟨D, _, rfl, SqL.of hD, ?_⟩
        rw [List.take_of_length_le (by rw [List.length_zip, List.length_map]; omega), List.all_map]
        exact k H1 s1
    · refine iteN (fun z => hlen (by have := V.int.inj (of_decide_eq_true z); rw [List.length_map] at this; omega)) ?_
      rw [decide_eq_false (by omega), Bool.false_and] at k
      exact k _ (.refl _)
def okW (d : Da) : Prop := ∀ u, wordD d = some u → u ∈ wWh ∨ u ∈ oWh
theorem ksW_in : ∀ u ∈ wWh, (ksW u).length ≤ 3 ∧ ∀ k ∈ ksW u, k ∈ bnds.map (·.1) := by decide +kernel
theorem oWh_no : ∀ u ∈ oWh, ¬ u ∈ wWh := by decide +kernel
theorem oPl_no : ∀ u ∈ oPl, ¬ u ∈ wPl := by decide +kernel
theorem cut1V (a : V) (l : List V) : cutV (a :: l) (some 1) none = l := by
  unfold cutV
  simp [HT.sIx]
def spWt : Sp := fun vs H Q _ => ∃ (v : V) (d : Da), vs = [v] ∧ HD H v d ∧ okW d ∧ ∀ H', Same H H' → Q (.bl (whatB d)) H'
theorem scWt : FnScope ["what", "word"] ["what"] (defScope s_is_what) := ⟨rfl, rfl, rfl, by decide +kernel, rfl, by decide +kernel, by decide +kernel⟩
theorem ok_is_what {f fO fA : Addr} {fd fdO fdA : FuncData} (F : Fun K "is_what" "is_what" s_is_what f fd) (T : Txt K w.params mg) (GO : FnOk P w K mg base CX0 1 fO fdO ["thing"] spWo) (kO : PySem.W.keepIn K (.ref fO) = true) (bO : Binds K fdO ["thing"] []) (mO : mg "word_of" = some (.ref fO)) (GA : FnOk P w K mg base CX0 4 fA fdA ["kinds", "things"] (spAr (K := K))) (kA : PySem.W.keepIn K (.ref fA) = true) (bA : Binds K fdA ["kinds", "things"] []) (mA : mg "are_parts" = some (.ref fA)) : FnOk P w K mg base CX0 5 f fd ["what"] spWt := by
  refine F.ok scWt (fun vs H Q E h => ?_) (fun cdv A outer s H vs Q E hr h => ?_)
  · obtain ⟨v, d, rfl, _⟩ := h
    rfl
  · obtain ⟨v, d, rfl, hv, hw, k⟩ := h
    have hrO : Room 1 (A.deeper (PyProof.Rows.envOfC "is_what" (defScope s_is_what) s.heap.objs.size f cdv)) := hr.mono (by decide)
    obtain ⟨pw, hpw, hkl, h1, h2⟩ := T.whs
    refine wrapX (pssx_cons (psx_of (ps_set (i := 1) scWt.nd rfl (Or.inl rfl) (pe_call GO hrO (by rfl) mO kO bO .nil pass0 (pa_cons (pv 0) pa_nil))))
      (pssx_one (psx_of (ps_ret (pe_and (pe_cmp (pc_kinO (pv 1) (pe_glob (v := .ref pw) (by rfl) hpw rfl)) rfl) (pe_one (pe_call GA hr (by rfl) mA kA bA .nil pass0 (pa_cons (pe_kget (pe_glob (v := .ref pw) (by rfl) hpw rfl) (pv 1) (fun _ _ => rfl)) (pa_cons (pe_slice sl_tup (pv 0) (po_some pe_int) po_none) pa_nil))))))))) ?_
    refine ⟨_, rfl, v, d, rfl, hv, ?_⟩
    cases hwd : wordD d with
    | none =>
      refine ⟨_, rfl, pw, rfl, .inr ⟨rfl, hkl, _, rfl, iteN Bool.false_ne_true ?_⟩⟩
      have e : whatB d = false := by
        unfold whatB
        split
        · cases hwd
        · rfl
      rw [e] at k
      exact k _ (.refl _)
    | some u =>
      obtain ⟨ps, rfl⟩ : ∃ ps, d = .tup (.str u :: ps) := by
        unfold wordD at hwd
        split at hwd
        · cases hwd; exact ⟨_, rfl⟩
        · cases hwd
      rcases hw u hwd with hu | hu
      · obtain ⟨q, hq, hS⟩ := h1 u hu
        refine ⟨_, rfl, pw, rfl, .inl ⟨u, _, rfl, hq, _, rfl, iteP rfl ?_⟩⟩
        obtain ⟨p, xs, rfl, hp, hs⟩ := hv.tup_inv
        cases hs with
        | cons hx hr' =>
        cases hx
        refine ⟨_, rfl, pw, u, _, rfl, rfl, hq, _, rfl, 1, rfl, p, _, rfl, SqT.of hp, ?_, fun t nt => ?_⟩
        · intro z
          have : HT.sIx (V.str u :: _).length 0 (some 1) = 0 := z.1
          simp [HT.sIx] at this
        rw [cut1V]
        have k : ∀ H', Same H H' → Q (.bl (decide (u ∈ wWh) && partsB (ksW u) ps)) H' := k
        rw [decide_eq_true hu, Bool.true_and] at k
        exact ⟨q, t, ksW u, _, ps, rfl, hS, upd_same, (ksW_in u hu).1, (ksW_in u hu).2, hr'.same (same_new nt), fun H' s' => k H' ((same_new nt).trans s')⟩
      · have k : ∀ H', Same H H' → Q (.bl (decide (u ∈ wWh) && partsB (ksW u) ps)) H' := k
        rw [decide_eq_false (oWh_no u hu), Bool.false_and] at k
        exact ⟨_, rfl, pw, rfl, .inl ⟨u, _, rfl, h2 u hu, _, rfl, iteN Bool.false_ne_true (k _ (.refl _))⟩⟩
end
end My


namespace My
open PySem L2
def okP (d : Da) : Prop := ∀ u, wordD d = some u → u ∈ wPl ∨ u ∈ oPl
theorem word_shape {d : Da} {u : Str} (h : wordD d = some u) : ∃ ps, d = .tup (.str u :: ps) := by
  unfold wordD at h
  split at h
  · cases h; exact ⟨_, rfl⟩
  · cases h
theorem placeB_no {rs : List (Str × List Int)} {d : Da} (h : wordD d = none) : placeB rs d = false := by
  unfold placeB
  split
  · cases h
  · rfl
theorem RowsT.get {H : Hp} {lr : Addr} {rs : List (Str × List Int)} {r : Nat} {p : Str × List Int} (h : RowsT H lr rs) (hr : rs[r]? = some p) : ∃ (qs : List Addr) (q : Addr), H lr = some (.lst (qs.map V.ref)) ∧ (qs.map V.ref)[r]? = some (.ref q) ∧ RowAt H q p.1 p.2 ∧ p.2.length ≤ 16 ∧ qs.length = rs.length := by
  obtain ⟨qs, a, b, c⟩ := h
  have hrl := (List.getElem?_eq_some_iff.mp hr).1
  have hq : qs[r]? = some (qs[r]'(by omega)) := List.getElem?_eq_getElem _
  exact ⟨qs, _, a, by rw [List.getElem?_map, hq]; rfl, (c r _ p hq hr).1, (c r _ p hq hr).2, b⟩
section
variable {P : Program} {w : World} {K : PySem.W.Frag} {mg : Str → Option Value} {base : Heap}
variable {cNW R fI : Addr} {fdI : FuncData}
def spPl : Sp := fun vs H Q _ => ∃ (lr : Addr) (rs : List (Str × List Int)) (v : V) (d : Da), vs = [.ref lr, v] ∧ RowsT H lr rs ∧ HD H v d ∧ okP d ∧ ∀ H', Same H H' → Q (.bl (placeB rs d)) H'
theorem scPl : FnScope ["rows", "place", "word", "r", "ways"] ["rows", "place"] (defScope s_is_place) := ⟨rfl, rfl, rfl, by decide +kernel, rfl, by decide +kernel, by decide +kernel⟩
theorem ok_is_place {f fO fH fW : Addr} {fd fdO fdH fdW : FuncData} (F : Fun K "is_place" "is_place" s_is_place f fd) (T : Txt K w.params mg) (GO : FnOk P w K mg base CX0 1 fO fdO ["thing"] spWo) (kO : PySem.W.keepIn K (.ref fO) = true) (bO : Binds K fdO ["thing"] []) (mO : mg "word_of" = some (.ref fO)) (GH : FnOk P w K mg base CX0 1 fH fdH ["thing"] spWh) (kH : PySem.W.keepIn K (.ref fH) = true) (bH : Binds K fdH ["thing"] []) (mH : mg "is_whole" = some (.ref fH)) (GW : FnOk P w K mg base CX0 2 fW fdW ["rows", "r"] (spWays (K := K))) (kW : PySem.W.keepIn K (.ref fW) = true) (bW : Binds K fdW ["rows", "r"] []) (mW : mg "ways_of" = some (.ref fW)) : FnOk P w K mg base CX0 3 f fd ["rows", "place"] spPl := by
  refine F.ok scPl (fun vs H Q E h => ?_) (fun cdv A outer s H vs Q E hr h => ?_)
  · obtain ⟨lr, rs, v, d, rfl, _⟩ := h
    rfl
  · obtain ⟨lr, rs, v, d, rfl, hR, hv, hw, k⟩ := h
    have hrO : Room 1 (A.deeper (PyProof.Rows.envOfC "is_place" (defScope s_is_place) s.heap.objs.size f cdv)) := hr.mono (by decide)
    obtain ⟨pp, hpp, hkl, h1, h2⟩ := T.pls
    refine wrapX (pssx_cons (psx_of (ps_set (i := 2) scPl.nd rfl (Or.inl rfl) (pe_call GO hrO (by rfl) mO kO bO .nil pass0 (pa_cons (pv 1) pa_nil))))
      (pssx_cons (psx_if (pw_or (pt_cmp (pc_knotinO (pv 2) (pe_glob (v := .ref pp) (by rfl) hpp rfl)) rfl) (pw_or1 (pt_cmpR op_ne (pe_callB call_len_seq (by rfl) T.len bt_len (pa_cons (pv 1) pa_nil)) (pe_kget (pe_glob (v := .ref pp) (by rfl) hpp rfl) (pv 2) (fun _ _ => rfl)) (nomark _)))).pt (pssx_one (psx_of (ps_ret pe_bl))) (pssx_nil pss_nil))
      (pssx_cons (psx_of (ps_set (i := 3) scPl.nd rfl (Or.inl rfl) (pe_ix ix_tup (pv 1) pe_int (fun _ _ => rfl))))
      (pssx_cons (psx_if (pw_or (pt_not (pt_val (pe_call GH hrO (by rfl) mH kH bH .nil pass0 (pa_cons (pv 3) pa_nil)))) (pw_or1 (pt_not (pt_chain op_le op_lt pe_int (pv 3) (pe_callB call_len_seq (by rfl) T.len bt_len (pa_cons (pv 0) pa_nil)))))).pt (pssx_one (psx_of (ps_ret pe_bl))) (pssx_nil pss_nil))
      (pssx_cons (psx_if (pt_cmpR op_eq (pv 2) pe_str (nomark _)) (pssx_one (psx_of (ps_ret pe_bl))) (pssx_nil pss_nil))
      (pssx_cons (psx_of (ps_set (i := 4) scPl.nd rfl (Or.inl rfl) (pe_call GW hr (by rfl) mW kW bW .nil pass0 (pa_cons (pv 0) (pa_cons (pv 3) pa_nil)))))
      (pssx_cons (psx_if (pt_cmpR op_eq (pv 2) pe_str (nomark _)) (pssx_one (psx_of (ps_ret (pe_cmpR op_gt (pe_callB call_len_seq (by rfl) T.len bt_len (pa_cons (pv 4) pa_nil)) pe_int (nomark _))))) (pssx_nil pss_nil))
      (pssx_one (psx_of (ps_ret (pe_and (pe_call GH hrO (by rfl) mH kH bH .nil pass0 (pa_cons (pe_ix ix_tup (pv 1) pe_int (fun _ _ => rfl)) pa_nil)) (pe_one (pe_cmpR op_in_seq (pe_ix ix_tup (pv 1) pe_int (fun _ _ => rfl)) (pv 4) rfl))))))))))))) ?_
    refine ⟨_, rfl, v, d, rfl, hv, ?_⟩
    cases hwd : wordD d with
    | none =>
      rw [placeB_no hwd] at k
      exact ⟨_, rfl, pp, rfl, .inr ⟨rfl, hkl, _, rfl, iteP rfl (iteP rfl (k _ (.refl _)))⟩⟩
    | some u =>
    obtain ⟨ps, rfl⟩ := word_shape hwd
    have k : ∀ H', Same H H' → Q (.bl (decide (u ∈ wPl) && (decide ((ps.length : Int) + 1 = nPl u) && plA rs u ps))) H' := k
    rcases hw u hwd with hu | hu
    case inr =>
      rw [decide_eq_false (oPl_no u hu), Bool.false_and] at k
      exact ⟨_, rfl, pp, rfl, .inl ⟨u, _, rfl, h2 u hu, _, rfl, iteP rfl (iteP rfl (k _ (.refl _)))⟩⟩
    rw [decide_eq_true hu, Bool.true_and] at k
    refine ⟨_, rfl, pp, rfl, .inl ⟨u, _, rfl, h1 u hu, _, rfl, iteN Bool.false_ne_true ?_⟩⟩
    obtain ⟨p, xs, rfl, hp, hs⟩ := hv.tup_inv
    have hl := hs.len
    refine ⟨_, rfl, p, _, rfl, .inr (SqT.of hp), _, rfl, pp, u, _, rfl, rfl, h1 u hu, rfl, _, rfl, ?_⟩
    rw [List.length_cons] at hl
    by_cases hlen : (ps.length : Int) + 1 = nPl u
    case neg =>
      rw [decide_eq_false hlen, Bool.false_and] at k
      refine iteP ?_ (k _ (.refl _))
      rw [decide_eq_false (fun z => hlen (by have := V.int.inj z; omega))]
      rfl
    rw [decide_eq_true hlen, Bool.true_and] at k
    refine iteN (by rw [decide_eq_true (show V.int (xs.length : Nat) = V.int (nPl u) by congr 1; omega)]; decide) ?_
    have hn := (by decide +kernel : ∀ u : Str, u ∈ wPl → (u = ("before" : Str) ∧ nPl u = 2) ∨ (u = ("after" : Str) ∧ nPl u = 2) ∨ (u = ("way" : Str) ∧ nPl u = 3)) u hu
    cases hs with
    | cons h0 hs =>
    cases hs with
    | nil => rcases hn with ⟨_, e⟩ | ⟨_, e⟩ | ⟨_, e⟩ <;> rw [e] at hlen <;> simp at hlen
    | @cons x dx xs ps hx hs =>
    refine ⟨_, rfl, p, _, 1, x, rfl, rfl, SqT.of hp, at1 _ _ _, ?_⟩
    refine ⟨_, rfl, x, dx, rfl, hx, _, rfl, ?_⟩
    have k : ∀ H', Same H H' → Q (.bl (match wnD dx with | some r => plB rs u r ((ps.head?).bind wnD) | none => false)) H' := k
    cases hwx : wnD dx with
    | none =>
      rw [hwx] at k
      exact iteP rfl (iteP rfl (k _ (.refl _)))
    | some r =>
    rw [hwx] at k
    have k : ∀ H', Same H H' → Q (.bl (inR rs r && (if u = "before" then true else if u = "after" then hasW rs r else match (ps.head?).bind wnD with | some t => wayB rs r t | none => false))) H' := k
    have hxr : x = .int r := by cases hx <;> cases hwx; rfl
    subst hxr
    refine iteN Bool.false_ne_true ?_
    obtain ⟨qs, g1, g2, g3⟩ := id hR
    refine ⟨_, rfl, _, _, rfl, rfl, _, rfl, ?_⟩
    unfold inR at k
    by_cases hr0 : 0 ≤ r
    case neg =>
      rw [decide_eq_false hr0, Bool.false_and, Bool.false_and] at k
      exact iteN (fun z => hr0 (of_decide_eq_true z)) ⟨_, rfl, iteP rfl (k _ (.refl _))⟩
    rw [decide_eq_true hr0, Bool.true_and] at k
    refine iteP (decide_eq_true hr0) ?_
    refine ⟨_, rfl, lr, _, rfl, .inl (SqL.of g1), _, _, rfl, rfl, _, rfl, ?_⟩
    rw [List.length_map, g2]
    by_cases hrn : r < (rs.length : Nat)
    case neg =>
      rw [decide_eq_false hrn, Bool.false_and] at k
      exact iteP (by rw [decide_eq_false hrn]; rfl) (k _ (.refl _))
    rw [decide_eq_true hrn, Bool.true_and] at k
    refine iteN (by rw [decide_eq_true hrn]; decide) ?_
    obtain ⟨rn, rfl⟩ := Int.eq_ofNat_of_zero_le hr0
    have hrs : rs[rn]? = some (rs[rn]'(by omega)) := List.getElem?_eq_getElem _
    generalize rs[rn]'(by omega) = pr at hrs
    refine ⟨_, rfl, rfl, _, rfl, ?_⟩
    by_cases hbe : u = "before"
    · rw [if_pos hbe] at k
      exact iteP (by rw [hbe]; decide) (k _ (.refl _))
    rw [if_neg hbe] at k
    refine iteN (fun z => hbe (strEq z)) ?_
    obtain ⟨qs', q, y1, y2, y3, y4, _⟩ := hR.get hrs
    refine ⟨_, rfl, _, rfl, lr, q, _, rn, pr.1, pr.2, rfl, SqL.of y1, y2, y3, y4, fun l ms H1 s1 nl hl' hpw hnd hmem => ?_⟩
    refine ⟨_, rfl, rfl, _, rfl, ?_⟩
    by_cases haf : u = "after"
    · rw [if_pos haf] at k
      refine iteP (by rw [haf]; decide) ?_
      refine ⟨_, rfl, l, _, rfl, .inl (SqL.of hl'), _, _, rfl, rfl, ?_⟩
      rw [List.length_map]
      have e : hasW rs rn = decide (0 < (ms.length : Int)) := by
        unfold hasW
        rw [Int.toNat_natCast, hrs]
        show (!decide (pr.2 = []) || !decide (pr.1 ∈ notOn)) = _
        by_cases hm : ms = []
        · have h0 : ∀ j, ¬ (j ∈ pr.2 ∨ (¬ pr.1 ∈ notOn ∧ j = rn + 1)) := fun j z => by
            have := (hmem j).mpr z
            rw [hm] at this
            exact List.not_mem_nil this
          have e1 : pr.2 = [] := List.eq_nil_iff_forall_not_mem.mpr fun j z => h0 j (.inl z)
          have e2 : pr.1 ∈ notOn := Decidable.byContradiction fun z => h0 _ (.inr ⟨z, rfl⟩)
          rw [decide_eq_true e1, decide_eq_true e2, hm]
          decide
        · obtain ⟨j, hj⟩ := List.exists_mem_of_ne_nil ms hm
          have hp0 : 0 < ms.length := List.length_pos_iff.mpr hm
          rw [decide_eq_true (show (0 : Int) < (ms.length : Int) by omega)]
          rcases (hmem j).mp hj with z | ⟨z, _⟩
          · rw [decide_eq_false (fun y => by rw [y] at z; exact List.not_mem_nil z)]; rfl
          · rw [decide_eq_false z]; simp
      rw [e] at k
      exact k _ s1
    rw [if_neg haf] at k
    refine iteN (fun z => haf (strEq z)) ?_
    have hway : u = "way" := by rcases hn with ⟨e, _⟩ | ⟨e, _⟩ | ⟨e, _⟩; exact absurd e hbe; exact absurd e haf; exact e
    have hps : ps.length = 1 := by
      rw [hway, show nPl ("way" : Str) = 3 by decide +kernel] at hlen
      rw [List.length_cons] at hlen
      omega
    cases hs with
    | nil => simp at hps
    | @cons y dy xs ps hy hs =>
    refine ⟨_, rfl, p, _, 2, y, rfl, rfl, SqT.of (s1 _ _ hp), at2 _ _ _ _, y, dy, rfl, hy.same s1, _, rfl, ?_⟩
    have k : ∀ H', Same H H' → Q (.bl (match wnD dy with | some t => wayB rs rn t | none => false)) H' := k
    cases hwy : wnD dy with
    | none =>
      rw [hwy] at k
      exact iteN Bool.false_ne_true (k _ s1)
    | some t =>
    rw [hwy] at k
    have hyt : y = .int t := by cases hy <;> cases hwy; rfl
    subst hyt
    refine iteP rfl ?_
    refine ⟨_, rfl, p, _, 2, .int t, rfl, rfl, SqT.of (s1 _ _ hp), at2 _ _ _ _, _, rfl, l, _, rfl, .inl (SqL.of hl'), rfl, flat_ints _, ?_⟩
    show Q (.bl (inV (.int t) (ms.map V.int))) H1
    rw [inV_int]
    have e : wayB rs rn t = decide (t ∈ ms) := by
      unfold wayB
      rw [Int.toNat_natCast, hrs]
      show (decide (t ∈ pr.2) || (!decide (pr.1 ∈ notOn) && decide (t = (rn : Int) + 1))) = _
      rw [show decide (t ∈ ms) = decide (t ∈ pr.2 ∨ (¬ pr.1 ∈ notOn ∧ t = rn + 1)) from decide_eq_decide.mpr (hmem t)]
      by_cases a1 : t ∈ pr.2 <;> by_cases a2 : pr.1 ∈ notOn <;> by_cases a3 : t = (rn : Int) + 1 <;> simp [a1, a2, a3]
    rw [← e]
    exact k _ s1
/-! ### is_wish -/
def wishB (rs : List (Str × List Int)) : Da → Bool
  | .tup [p, q] => placeB rs p && whatB q
  | _ => false
theorem wishB_no {rs : List (Str × List Int)} {l : List Da} (h : l.length ≠ 2) : wishB rs (.tup l) = false := by
  match l, h with
  | [], _ => rfl
  | [_], _ => rfl
  | _ :: _ :: _ :: _, _ => rfl
  | [_, _], h => exact absurd rfl h
def okI : Da → Prop
  | .tup (p :: q :: _) => okP p ∧ okW q
  | _ => True
def spWi : Sp := fun vs H Q _ => ∃ (lr : Addr) (rs : List (Str × List Int)) (v : V) (d : Da), vs = [.ref lr, v] ∧ RowsT H lr rs ∧ HD H v d ∧ okI d ∧ ∀ H', Same H H' → Q (.bl (wishB rs d)) H'
theorem scWi : FnScope ["rows", "wish"] ["rows", "wish"] (defScope s_is_wish) := ⟨rfl, rfl, rfl, by decide +kernel, rfl, by decide +kernel, by decide +kernel⟩
theorem ok_is_wish {f fL fW : Addr} {fd fdL fdW : FuncData} (F : Fun K "is_wish" "is_wish" s_is_wish f fd) (T : Txt K w.params mg) (GL : FnOk P w K mg base CX0 3 fL fdL ["rows", "place"] spPl) (kL : PySem.W.keepIn K (.ref fL) = true) (bL : Binds K fdL ["rows", "place"] []) (mL : mg "is_place" = some (.ref fL)) (GW : FnOk P w K mg base CX0 5 fW fdW ["what"] spWt) (kW : PySem.W.keepIn K (.ref fW) = true) (bW : Binds K fdW ["what"] []) (mW : mg "is_what" = some (.ref fW)) : FnOk P w K mg base CX0 6 f fd ["rows", "wish"] spWi := by
  refine F.ok scWi (fun vs H Q E h => ?_) (fun cdv A outer s H vs Q E hr h => ?_)
  · obtain ⟨lr, rs, v, d, rfl, _⟩ := h
    rfl
  · obtain ⟨lr, rs, v, d, rfl, hR, hv, hw, k⟩ := h
    have hrL : Room 3 (A.deeper (PyProof.Rows.envOfC "is_wish" (defScope s_is_wish) s.heap.objs.size f cdv)) := hr.mono (by decide)
    refine wrapX (pssx_one (psx_of (ps_ret (pe_and (pe_callB call_isinst (by rfl) T.isi bt_isi (pa_cons (pv 1) (pa_cons (pe_bltn (v := .ty "tuple") (by rfl) T.tuple bt_tuple rfl) pa_nil))) (pe_and (pe_cmpR op_eq (pe_callB call_len_seq (by rfl) T.len bt_len (pa_cons (pv 1) pa_nil)) pe_int (nomark _)) (pe_and (pe_call GL hrL (by rfl) mL kL bL .nil pass0 (pa_cons (pv 0) (pa_cons (pe_ix ix_tup (pv 1) pe_int (fun _ _ => rfl)) pa_nil))) (pe_one (pe_call GW hr (by rfl) mW kW bW .nil pass0 (pa_cons (pe_ix ix_tup (pv 1) pe_int (fun _ _ => rfl)) pa_nil))))))))) ?_
    refine ⟨_, rfl, _, _, _, _, rfl, hv.ty, kD_tuple d, _, rfl, ?_⟩
    cases d with
    | non => exact iteN Bool.false_ne_true (k _ (.refl _))
    | bl b => exact iteN Bool.false_ne_true (k _ (.refl _))
    | int i => exact iteN Bool.false_ne_true (k _ (.refl _))
    | str u => exact iteN Bool.false_ne_true (k _ (.refl _))
    | lst l => exact iteN Bool.false_ne_true (k _ (.refl _))
    | tup l =>
    refine iteP rfl ?_
    obtain ⟨p, xs, rfl, hp, hs⟩ := hv.tup_inv
    refine ⟨_, rfl, p, _, rfl, .inr (SqT.of hp), rfl, _, rfl, ?_⟩
    have hl := hs.len
    by_cases h2 : xs.length = 2
    case neg =>
      refine iteN (fun z => h2 (by have := V.int.inj (of_decide_eq_true z); omega)) ?_
      have e := wishB_no (rs := rs) (l := l) (by omega)
      rw [e] at k
      exact k _ (.refl _)
    refine iteP (decide_eq_true (by show V.int (xs.length : Nat) = V.int 2; rw [h2]; rfl)) ?_
    cases hs with
    | nil => simp at h2
    | cons h0 hs =>
    cases hs with
    | nil => simp at h2
    | cons h1 hs =>
    cases hs with
    | cons h3 hs => simp at h2
    | nil =>
    refine ⟨_, rfl, _, rfl, p, _, 0, _, rfl, rfl, SqT.of hp, at0 _ _, lr, rs, _, _, rfl, hR, h0, hw.1, fun H1 s1 => ⟨_, rfl, ?_⟩⟩
    have k : ∀ H', Same H H' → Q (.bl (placeB rs _ && whatB _)) H' := k
    refine ite2 (fun e => ?_) (fun e => ?_)
    · rw [e, Bool.true_and] at k
      exact ⟨_, rfl, p, _, 1, _, rfl, rfl, SqT.of (s1 _ _ hp), at1 _ _ _, _, _, rfl, h1.same s1, hw.2, fun H2 s2 => k H2 (s1.trans s2)⟩
    · rw [Bool.eq_false_iff.mpr e, Bool.false_and] at k
      exact k _ s1
end
end My


namespace My
open PySem L2
def ErrW (cNW : Addr) (e : Nat) (H : Hp) (E : XK) : Prop := ∀ H' d, Same H H' → H' d = some (.xd [("at", .int (e : Int))]) → E (.ref cNW) (some d) H'
/-- the first wish that is none -/
def fBad (rs : List (Str × List Int)) : Nat → List Da → Option Nat
  | _, [] => none
  | i, d :: l => if wishB rs d = true then fBad rs (i + 1) l else some i
def wsBad (rs : List (Str × List Int)) (ds : List Da) : Option Nat := match fBad rs 0 (ds.take 12) with
  | some i => some i
  | none => if 12 < ds.length then some 12 else none
def WRes (cNW : Addr) (r : Option Nat) (H : Hp) (Q : VK) (E : XK) : Prop := match r with
  | none => ∀ H', Same H H' → Q .non H'
  | some e => ErrW cNW e H E
section
variable {P : Program} {w : World} {K : PySem.W.Frag} {mg : Str → Option Value} {base : Heap}
variable {cNW R fI : Addr} {fdI : FuncData}
def spCw (cNW : Addr) : Sp := fun vs H Q E => ∃ (lr : Addr) (rs : List (Str × List Int)) (v : V), vs = [.ref lr, v] ∧ RowsT H lr rs ∧ ((∃ t, TyOf K H v t ∧ PySem.W.kitOne K t (.type "list") = some false ∧ ErrW cNW 0 H E) ∨ ∃ (p : Addr) (xs : List V) (ds : List Da), v = .ref p ∧ H p = some (.lst xs) ∧ HDs H xs ds ∧ (∀ d ∈ ds, okI d) ∧ xs.length ≤ 1000 ∧ WRes cNW (wsBad rs ds) H Q E)
theorem scCw : FnScope ["rows", "wishes", "at", "wish"] ["rows", "wishes"] (defScope s_check_wishes) := ⟨rfl, rfl, rfl, by decide +kernel, rfl, by decide +kernel, by decide +kernel⟩
theorem ok_check_wishes {f fW : Addr} {fd fdW : FuncData} (F : Fun K "check_wishes" "check_wishes" s_check_wishes f fd) (T : Txt K w.params mg) (GW : FnOk P w K mg base CX0 6 fW fdW ["rows", "wish"] spWi) (kW : PySem.W.keepIn K (.ref fW) = true) (bW : Binds K fdW ["rows", "wish"] []) (mW : mg "is_wish" = some (.ref fW)) (cx : XIni K cNW R fI) (kC : PySem.W.keepIn K (.ref cNW) = true) (GI : FnOk P w K mg base CX0 1 fI fdI ["self", "at"] (spXI cNW)) (bI : Binds K fdI ["self", "at"] []) (mNW : mg "NoWish" = some (.ref cNW)) : FnOk P w K mg base (CX2 P w) 7 f fd ["rows", "wishes"] (spCw (K := K) cNW) := by
  refine F.okX scCw (fun vs H Q E h => ?_) (fun cdv A outer s H vs Q E hr h => ?_)
  · obtain ⟨lr, rs, v, rfl, _⟩ := h
    rfl
  · obtain ⟨lr, rs, v, rfl, hR, h⟩ := h
    have hrI : Room 2 (A.deeper (PyProof.Rows.envOfC "check_wishes" (defScope s_check_wishes) s.heap.objs.size f cdv)) := hr.mono (by decide)
    obtain ⟨tm, hm⟩ := T.g_MOST_WISHES
    refine ⟨_, (pss_cons (ps_if (pt_not (pt_val (pe_callB call_isinst (by rfl) T.isi bt_isi (pa_cons (pv 1) (pa_cons (pe_bltn (v := .ty "list") (by rfl) T.list bt_list rfl) pa_nil))))) (pss_one (ps_raiseC cx kC GI bI hrI mNW (by rfl) (pa_cons pe_int pa_nil))) pss_nil)
      (pss_cons (ps_for PassesOwn.leaving rfl (pi_enum rfl T.enum (pa_cons (pe_slice sl_list (pv 1) po_none (po_some (pe_glob (v := .int 12) (by rfl) hm ⟨_, rfl⟩))) pa_nil)) (pg_two (K := K) (i := 2) (j := 3) rfl rfl scCw.nd rfl (Or.inl rfl) rfl (Or.inl rfl)) (pss_one (ps_if (pt_not (pt_val (pe_call GW hr (by rfl) mW kW bW .nil pass0 (pa_cons (pv 0) (pa_cons (pv 3) pa_nil))))) (pss_one (ps_raiseC cx kC GI bI hrI mNW (by rfl) (pa_cons (pv 2) pa_nil))) pss_nil)))
      (pss_one (ps_if (pt_cmpR op_gt (pe_callB call_len_seq (by rfl) T.len bt_len (pa_cons (pv 1) pa_nil)) (pe_glob (v := .int 12) (by rfl) hm ⟨_, rfl⟩) (nomark _)) (pss_one (ps_raiseC cx kC GI bI hrI mNW (by rfl) (pa_cons (pe_glob (v := .int 12) (by rfl) hm ⟨_, rfl⟩) pa_nil))) pss_nil)))), ?_⟩
    rcases h with ⟨t, ht, hk, hE⟩ | ⟨p, xs, ds, rfl, hp, hs, hok, hlx, k⟩
    · exact ⟨_, rfl, _, _, _, _, rfl, ht, hk, _, rfl, iteP rfl ⟨_, rfl, by decide, fun d nd => hE _ d (same_new nd) upd_same⟩⟩
    refine ⟨_, rfl, _, _, _, _, rfl, .lst hp, k_list_list, _, rfl, iteN (by decide) ?_⟩
    refine ⟨_, rfl, _, rfl, p, _, rfl, SqL.of hp, fun lc nlc => ?_⟩
    rw [show cutV xs none (some 12) = xs.take 12 from cut_take xs 12]
    have s1 := same_new (o := .lst (xs.take 12)) nlc
    have hlc : upd H lc (.lst (xs.take 12)) lc = _ := upd_same
    generalize upd H lc (.lst (xs.take 12)) = G1 at s1 hlc ⊢
    have hs12 : HDs H (xs.take 12) (ds.take 12) := .of (by rw [List.length_take, List.length_take, hs.len]) fun i x d g1 g2 => by
      rw [List.getElem?_take] at g1 g2
      split at g1
      · rename_i hi
        rw [if_pos hi] at g2
        exact hs.get i x d g1 g2
      · cases g1
    have ht12 : (xs.take 12).length ≤ 12 := by rw [List.length_take]; omega
    unfold wsBad at k
    generalize hes : ds.take 12 = es at hs12 k
    have hoe : ∀ d ∈ es, okI d := fun d hd => hok d (by rw [← hes] at hd; exact List.mem_of_mem_take hd)
    clear hes
    generalize xs.take 12 = ys at hlc hs12 ht12
    have hyl := hs12.len
    refine ⟨lc, rfl, ⟨_, SqL.of hlc⟩, for_enum (K := K) (xs := ys) (fun i σ G => ∃ v2 v3 : Option V, σ = [some (.ref lr), some (.ref p), v2, v3] ∧ Same G1 G ∧ i ≤ es.length ∧ fBad rs 0 es = fBad rs i (es.drop i)) ?_ ?_ ?_ ?_⟩
    · exact ⟨none, none, rfl, .refl _, Nat.zero_le _, rfl⟩
    · rintro i σ G _ ⟨v2, v3, rfl, s2, _⟩
      exact SqL.of (s2 _ _ hlc)
    · rintro i x σ G tt hx ntt ⟨v2, v3, rfl, s2, hi, hfb⟩
      have hil : i < es.length := by have := (List.getElem?_eq_some_iff.mp hx).1; omega
      have hd : es[i]? = some es[i] := List.getElem?_eq_getElem hil
      have hdr : es.drop i = es[i] :: es.drop (i + 1) := List.drop_eq_getElem_cons hil
      have hm' := List.getElem_mem hil
      generalize es[i] = d at hd hdr hm'
      have s3 := s2.trans (same_new (o := .tup [V.int i, x]) ntt)
      have htt : upd G tt (.tup [V.int i, x]) tt = _ := upd_same
      generalize upd G tt (.tup [V.int i, x]) = G3 at s3 htt ⊢
      refine ⟨tt, _, rfl, SqT.of htt, rfl, _, _, rfl, _, _, rfl, rfl, ?_⟩
      refine ⟨_, rfl, _, rfl, lr, rs, x, d, rfl, (hR.same s1).same s3, ((hs12.get i x d hx hd).same s1).same s3, hoe d hm', fun G4 s4 => ⟨_, rfl, ?_⟩⟩
      rw [hdr] at hfb
      have hfb : fBad rs 0 es = if wishB rs d = true then fBad rs (i + 1) (es.drop (i + 1)) else some i := hfb
      by_cases hw : wishB rs d = true
      · rw [if_pos hw] at hfb
        exact iteN (by rw [hw]; decide) ⟨_, _, rfl, s3.trans s4, hil, hfb⟩
      · rw [if_neg hw] at hfb
        rw [hfb] at k
        have k : ErrW cNW i H E := k
        refine iteP (by rw [Bool.eq_false_iff.mpr hw]; rfl) ?_
        exact ⟨_, rfl, _, rfl, by omega, fun dd nd => k _ dd ((s1.trans (s3.trans s4)).trans (same_new nd)) upd_same⟩
    · rintro σ G ⟨v2, v3, rfl, s2, hi, hfb⟩
      rw [hyl, List.drop_length] at hfb
      have hfb : fBad rs 0 es = none := hfb
      rw [hfb] at k
      have s3 := s1.trans s2
      refine ⟨_, rfl, p, _, rfl, .inl (SqL.of (s3 _ _ hp)), _, _, rfl, rfl, _, rfl, ?_⟩
      have k : WRes cNW (if 12 < ds.length then some 12 else none) H Q E := k
      by_cases h12 : 12 < ds.length
      · rw [if_pos h12] at k
        have k : ErrW cNW 12 H E := k
        exact iteP (decide_eq_true (by rw [hs.len]; omega)) ⟨_, rfl, by decide, fun dd nd => k _ dd (s3.trans (same_new nd)) upd_same⟩
      · rw [if_neg h12] at k
        exact iteN (fun z => h12 (by have := of_decide_eq_true z; rw [hs.len] at this; omega)) (k _ s3)
end
end My


namespace My
open PySem L2
def tgsD : Da → Bool
  | .tup ts => decide (1 ≤ ts.length ∧ ts.length ≤ 16) && ts.all (numD 0 1000000000)
  | _ => false
def partR (k : Str) (d : Da) : Bool := if k = "targets" then tgsD d else numD (bdK k).1 (bdK k).2 d
def partsR (ks : List Str) (ds : List Da) : Bool := decide (ds.length = ks.length) && (ks.zip ds).all fun x => partR x.1 x.2
def prt : List (Str × List Str) := [("stop", []), ("back", []), ("halt", ["number"]), ("set", ["box", "value"]), ("more", ["box", "value"]), ("copy", ["box", "box"]), ("add", ["box", "box"]), ("less", ["box", "box"]), ("load", ["box", "box"]), ("keep", ["box", "box"]), ("tell", ["box"]), ("see", ["box", "number"]), ("put", ["box", "aside"]), ("take", ["box", "aside"]), ("jump", ["target", "far"]), ("zero", ["box", "target", "far"]), ("below", ["box", "target", "far"]), ("call", ["target", "far"]), ("mark", ["target", "far"]), ("table", ["box", "targets"])]
def oRw : List Str := ["Stop"]
def kdR : List Str := "targets" :: bnds.map (·.1)
def rowB : Da → Bool
  | .tup (.str u :: ps) => match prt.lookup u with
    | some ks => partsR ks ps
    | none => false
  | _ => false
def okR (d : Da) : Prop := ∀ u, wordD d = some u → (prt.lookup u).isSome = true ∨ u ∈ oRw
theorem prt_in : ∀ x ∈ prt, x.2.length ≤ 3 ∧ ∀ k ∈ x.2, k ∈ kdR := by decide +kernel
theorem oRw_no : ∀ u ∈ oRw, prt.lookup u = none := by decide +kernel
theorem lk_memP {u : Str} {ks : List Str} (h : prt.lookup u = some ks) : (u, ks) ∈ prt := by
  have key : ∀ (l : List (Str × List Str)) (k : Str) b, l.lookup k = some b → (k, b) ∈ l := fun l => by
    induction l with
    | nil => intro k b h; cases h
    | cons y l ih =>
      intro k b h
      rw [List.lookup_cons] at h
      split at h
      · rename_i e
        have e := beq_iff_eq.mp e
        cases h
        subst e
        exact List.mem_cons_self
      · exact List.mem_cons_of_mem _ (ih k b h)
  exact key _ _ _ h
section
variable {P : Program} {w : World} {K : PySem.W.Frag} {mg : Str → Option Value} {base : Heap}
theorem Txt.prt {pr : Params} (T : Txt K pr mg) : ∃ p, mg "PARTS" = some (.ref p) ∧ KLit K pr p ∧ (∀ x ∈ My.prt, ∃ q, KHas K pr p x.1 (some (.ref q)) ∧ ∀ H, SqT K H q (x.2.map V.str)) ∧ ∀ u ∈ oRw, KHas K pr p u none := by
  obtain ⟨p, hp, hl, h0, h1, h2, h3, h4, h5, h6, h7, h8, h9, h10, h11, h12, h13, h14, h15, h16, h17, h18, h19, h20⟩ := T.g_PARTS
  refine ⟨p, hp, hl, fun x hx => ?_, fun u hu => ?_⟩
  · unfold My.prt at hx
    iterate 19 (rcases List.mem_cons.mp hx with rfl | hx; · assumption)
    rw [List.mem_singleton.mp hx]
    assumption
  · rw [List.mem_singleton.mp hu]
    assumption
def spTs : Sp := fun vs H Q _ => ∃ (v : V) (d : Da), vs = [v] ∧ HD H v d ∧ ∀ H', Same H H' → Q (.bl (tgsD d)) H'
theorem scTs : FnScope ["thing"] ["thing"] (defScope s_is_targets) := ⟨rfl, rfl, rfl, by decide +kernel, rfl, by decide +kernel, by decide +kernel⟩
def csTsC1 : Scope := { kind := .function, names := [(".0", .local), ("target", .local), ("is_number_of", .globalImplicit)], isGenerator := false, isCoroutine := false, more := [] }
theorem scTsC1 : CompSc (defScope s_is_targets) csTsC1 ["thing"] ["target"] [none] := ⟨rfl, by decide +kernel, by decide +kernel, by decide +kernel, by decide +kernel, by decide +kernel⟩
theorem ok_is_targets {f fN : Addr} {fd fdN : FuncData} (F : Fun K "is_targets" "is_targets" s_is_targets f fd) (T : Txt K w.params mg) (GN : FnOk P w K mg base CX0 2 fN fdN ["kind", "thing"] spNu) (kN : PySem.W.keepIn K (.ref fN) = true) (bN : Binds K fdN ["kind", "thing"] []) (mN : mg "is_number_of" = some (.ref fN)) : FnOk P w K mg base CX0 3 f fd ["thing"] spTs := by
  refine F.ok scTs (fun vs H Q E h => ?_) (fun cdv A outer s H vs Q E hr h => ?_)
  · obtain ⟨v, d, rfl, _⟩ := h
    rfl
  · obtain ⟨v, d, rfl, hv, k⟩ := h
    obtain ⟨tm, hmt⟩ := T.g_MOST_TARGETS
    refine wrapX (pssx_cons (psx_if (pw_or (pt_not (pt_val (pe_callB call_isinst (by rfl) T.isi bt_isi (pa_cons (pv 0) (pa_cons (pe_bltn (v := .ty "tuple") (by rfl) T.tuple bt_tuple rfl) pa_nil))))) (pw_or1 (pt_not (pt_chain op_le op_le pe_int (pe_callB call_len_seq (by rfl) T.len bt_len (pa_cons (pv 0) pa_nil)) (pe_glob (v := .int 16) (by rfl) hmt ⟨_, rfl⟩))))).pt (pssx_one (psx_of (ps_ret pe_bl))) (pssx_nil pss_nil))
      (pssx_one (psx_of (ps_ret (pe_callB (call_allB rfl) (by rfl) T.all bt_all (pa_cons (pe_comp (N' := ["target"]) (fr := [none]) scTsC1 rfl (pi_tup (pv 0)) (fun C s0 H0 fp => (pg_name (i := 0) scTsC1.nd rfl (Or.inl rfl))) (fun C s0 H0 fp => pts_nil) (fun C s0 H0 fp => (pe_call GN hr (by rfl) mN kN bN .nil pass0 (pa_cons pe_str (pa_cons (pv 0) pa_nil))))) pa_nil)))))) ?_
    refine ⟨_, rfl, _, _, _, _, rfl, hv.ty, kD_tuple d, _, rfl, ?_⟩
    have k0 := k H (.refl _)
    cases d with
    | non => exact iteP rfl (iteP rfl k0)
    | bl b => exact iteP rfl (iteP rfl k0)
    | int i => exact iteP rfl (iteP rfl k0)
    | str u => exact iteP rfl (iteP rfl k0)
    | lst l => exact iteP rfl (iteP rfl k0)
    | tup ts =>
      refine iteN (by show ¬ (!true) = true; decide) ?_
      obtain ⟨p, xs, rfl, hp, hs⟩ := hv.tup_inv
      have hl := hs.len
      have k : ∀ H', Same H H' → Q (.bl (decide (1 ≤ ts.length ∧ ts.length ≤ 16) && ts.all (numD 0 1000000000))) H' := k
      refine ⟨_, rfl, p, _, rfl, .inr (SqT.of hp), _, _, rfl, rfl, _, rfl, ?_⟩
      by_cases c1 : 1 ≤ ts.length
      rotate_left
      · refine iteN (fun z => c1 ?_) ?_
        · have := of_decide_eq_true z
          omega
        have k0 := k H (.refl _)
        rw [decide_eq_false (fun z => c1 z.1), Bool.false_and] at k0
        exact ⟨_, rfl, iteP rfl k0⟩
      refine iteP (decide_eq_true (by omega)) ⟨_, _, rfl, rfl, _, rfl, ?_⟩
      by_cases c2 : ts.length ≤ 16
      rotate_left
      · have k0 := k H (.refl _)
        rw [decide_eq_false (fun z => c2 z.2), Bool.false_and] at k0
        refine iteP (by rw [decide_eq_false (by omega)]; rfl) k0
      refine iteN (by rw [decide_eq_true (by omega)]; decide) ?_
      rw [decide_eq_true ⟨c1, c2⟩] at k
      refine ⟨_, rfl, p, rfl, ⟨_, SqT.of hp⟩, fun D nD => comp_tup (K := K) (a := p) (xs := xs) (fun i σ ys G => ∃ v : Option V, σ = [v] ∧ ys = ((ts.take i).map (numD 0 1000000000)).map V.bl ∧ Same H G ∧ G D = some (.lst ys)) ?_ ?_ ?_ ?_⟩
      · exact ⟨none, rfl, rfl, same_new nD, upd_same⟩
      · rintro i σ ys G _ ⟨v, rfl, _, s2, _⟩
        exact SqT.of (s2 _ _ hp)
      · rintro i x σ ys G hx ⟨v, rfl, rfl, s2, hD⟩
        have hi := (List.getElem?_eq_some_iff.mp hx).1
        have hd : ts[i]? = some ts[i] := List.getElem?_eq_getElem (by omega)
        refine ⟨_, rfl, "target", x, ts[i], rfl, by decide +kernel, (hs.get i x _ hx hd).same s2, ?_⟩
        rw [show bdK "target" = ((0 : Int), (1000000000 : Int)) by decide +kernel]
        refine ⟨hD, small_lt (by rw [List.length_map, List.length_map, List.length_take]; omega), _, rfl, ?_, same_put s2 nD, upd_same⟩
        rw [List.take_add_one, hd, List.map_append, List.map_append]
        rfl
      rintro σ ys G ⟨v, rfl, rfl, s2, hD⟩
      rw [hl, List.take_length] at hD
      refine ⟨D, _, rfl, SqL.of hD, ?_⟩
      rw [List.all_map]
      exact k G s2
def spPr : Sp := fun vs H Q _ => ∃ (kd : Str) (v : V) (d : Da), vs = [.str kd, v] ∧ kd ∈ kdR ∧ HD H v d ∧ ∀ H', Same H H' → Q (.bl (partR kd d)) H'
theorem scPt2 : FnScope ["kind", "thing"] ["kind", "thing"] (defScope s_is_part) := ⟨rfl, rfl, rfl, by decide +kernel, rfl, by decide +kernel, by decide +kernel⟩
theorem ok_is_part2 {f fN fG : Addr} {fd fdN fdG : FuncData} (F : Fun K "is_part" "is_part" s_is_part f fd) (T : Txt K w.params mg) (GN : FnOk P w K mg base CX0 2 fN fdN ["kind", "thing"] spNu) (kN : PySem.W.keepIn K (.ref fN) = true) (bN : Binds K fdN ["kind", "thing"] []) (mN : mg "is_number_of" = some (.ref fN))(GG : FnOk P w K mg base CX0 3 fG fdG ["thing"] spTs) (kG : PySem.W.keepIn K (.ref fG) = true) (bG : Binds K fdG ["thing"] []) (mG : mg "is_targets" = some (.ref fG)) : FnOk P w K mg base CX0 4 f fd ["kind", "thing"] spPr := by
  refine F.ok scPt2 (fun vs H Q E h => ?_) (fun cdv A outer s H vs Q E hr h => ?_)
  · obtain ⟨kd, v, d, rfl, _⟩ := h
    rfl
  · obtain ⟨kd, v, d, rfl, hk, hv, k⟩ := h
    refine wrapX (pssx_cons (psx_if (pt_cmpR op_eq (pv 0) pe_str (nomark _)) (pssx_one (psx_of (ps_ret (pe_call GG hr (by rfl) mG kG bG .nil pass0 (pa_cons (pv 1) pa_nil))))) (pssx_nil pss_nil))
      (pssx_one (psx_of (ps_ret (pe_call GN (hr.mono (by decide)) (by rfl) mN kN bN .nil pass0 (pa_cons (pv 0) (pa_cons (pv 1) pa_nil))))))) ?_
    unfold partR at k
    refine ⟨_, rfl, rfl, _, rfl, ?_⟩
    by_cases c : kd = "targets"
    · rw [if_pos c] at k
      exact iteP (decide_eq_true (by rw [c])) ⟨_, rfl, v, d, rfl, hv, k⟩
    · rw [if_neg c] at k
      refine iteN (fun z => c (V.str.inj (of_decide_eq_true z))) ⟨_, rfl, _, rfl, kd, v, d, rfl, ?_, hv, k _ (.refl _)⟩
      rcases List.mem_cons.mp hk with z | z
      · exact absurd z c
      · exact z
def spAq : Sp := fun vs H Q _ => ∃ (q p1 : Addr) (ks : List Str) (xs : List V) (ds : List Da), vs = [.ref q, .ref p1] ∧ (∀ H, SqT K H q (ks.map V.str)) ∧ H p1 = some (.tup xs) ∧ ks.length ≤ 3 ∧ (∀ k ∈ ks, k ∈ kdR) ∧ HDs H xs ds ∧ ∀ H', Same H H' → Q (.bl (partsR ks ds)) H'
theorem scAr2 : FnScope ["kinds", "things"] ["kinds", "things"] (defScope s_are_parts) := ⟨rfl, rfl, rfl, by decide +kernel, rfl, by decide +kernel, by decide +kernel⟩
def csAr2C1 : Scope := { kind := .function, names := [(".0", .local), ("kind", .local), ("thing", .local), ("is_part", .globalImplicit)], isGenerator := false, isCoroutine := false, more := [] }
theorem scAr2C1 : CompSc (defScope s_are_parts) csAr2C1 ["kinds", "things"] ["kind", "thing"] [none, none] := ⟨rfl, by decide +kernel, by decide +kernel, by decide +kernel, by decide +kernel, by decide +kernel⟩
theorem ok_are_parts2 {f fP : Addr} {fd fdP : FuncData} (F : Fun K "are_parts" "are_parts" s_are_parts f fd) (T : Txt K w.params mg) (GP : FnOk P w K mg base CX0 4 fP fdP ["kind", "thing"] spPr) (kP : PySem.W.keepIn K (.ref fP) = true) (bP : Binds K fdP ["kind", "thing"] []) (mP : mg "is_part" = some (.ref fP)) : FnOk P w K mg base CX0 5 f fd ["kinds", "things"] (spAq (K := K)) := by
  refine F.ok scAr2 (fun vs H Q E h => ?_) (fun cdv A outer s H vs Q E hr h => ?_)
  · obtain ⟨q, p1, ks, xs, ds, rfl, _⟩ := h
    rfl
  · obtain ⟨q, p1, ks, xs, ds, rfl, hq, hp1, h3, hko, hpt, k⟩ := h
    have hpl := hpt.len
    refine wrapX (pssx_one (psx_of (ps_ret (pe_and (pe_cmpR op_eq (pe_callB call_len_seq (by rfl) T.len bt_len (pa_cons (pv 1) pa_nil)) (pe_callB call_len_seq (by rfl) T.len bt_len (pa_cons (pv 0) pa_nil)) (nomark _)) (pe_one (pe_callB (call_allB rfl) (by rfl) T.all bt_all (pa_cons (pe_comp (N' := ["kind", "thing"]) (fr := [none, none]) scAr2C1 rfl (pi_zip rfl T.zip (pa_cons (pv 0) (pa_cons (pv 1) pa_nil))) (fun C s0 H0 fp => (pg_two (K := K) (i := 0) (j := 1) rfl rfl scAr2C1.nd rfl (Or.inl rfl) rfl (Or.inl rfl))) (fun C s0 H0 fp => pts_nil) (fun C s0 H0 fp => (pe_call GP hr (by rfl) mP kP bP .nil pass0 (pa_cons (pv 0) (pa_cons (pv 1) pa_nil))))) pa_nil))))))) ?_
    refine ⟨_, rfl, p1, _, rfl, .inr (SqT.of hp1), _, rfl, q, _, rfl, .inr (hq _), rfl, _, rfl, ?_⟩
    unfold partsR at k
    by_cases hlen : xs.length = ks.length
    · refine iteP (decide_eq_true (by rw [List.length_map, hlen])) ?_
      rw [decide_eq_true (show ds.length = ks.length by omega), Bool.true_and] at k
      refine ⟨_, rfl, _, rfl, q, p1, rfl, ⟨_, hq _⟩, ⟨_, SqT.of hp1⟩, fun D nD => comp_zip (K := K) (a := q) (b := p1) (xs := ks.map V.str) (zs := xs) (by rw [List.length_map, hlen])
        (fun i σ ys H1 => ∃ (v1 v2 : Option V), σ = [v1, v2] ∧ ys = ((((ks.zip ds).take i).map fun x => partR x.1 x.2).map V.bl) ∧ Same H H1 ∧ H1 D = some (.lst ys)) ?_ ?_ ?_ ?_⟩
      · exact ⟨none, none, rfl, rfl, same_new nD, upd_same⟩
      · rintro i σ ys H1 _ ⟨v1, v2, rfl, rfl, s1, _⟩
        exact ⟨hq _, SqT.of (s1 _ _ hp1)⟩
      · rintro i y z σ ys H1 t hy hz nt ⟨v1, v2, rfl, rfl, s1, hD⟩
        rw [List.getElem?_map] at hy
        obtain ⟨kd, hkd, rfl⟩ := Option.map_eq_some_iff.mp hy
        have hil := (List.getElem?_eq_some_iff.mp hkd).1
        have hpi : ds[i]? = some ds[i] := List.getElem?_eq_getElem (by omega)
        have hzi : (ks.zip ds)[i]? = some (kd, ds[i]) := by rw [List.getElem?_zip_eq_some]; exact ⟨hkd, hpi⟩
        have s3 := same_new (o := .tup [.str kd, z]) nt
        refine ⟨t, _, rfl, SqT.of upd_same, rfl, _, _, rfl, _, _, rfl, rfl, ?_⟩
        refine ⟨_, rfl, _, rfl, kd, z, ds[i], rfl, hko kd (List.mem_of_getElem? hkd), (hpt.get i z _ hz hpi).same (s1.trans s3), fun H5 s5 => ⟨s5 _ _ (s3 _ _ hD), ?_, ?_⟩⟩
        · rw [List.length_map, List.length_map, List.length_take]
          exact small1000 (by omega)
        · refine ⟨_, _, rfl, ?_, same_put ((s1.trans s3).trans s5) nD, upd_same⟩
          rw [← all_take (g := fun x : Str × Da => partR x.1 x.2) hzi, List.map_append]
          rfl
      · rintro σ ys H1 ⟨v1, v2, rfl, rfl, s1, hD⟩
        refine ⟨D, _, rfl, SqL.of hD, ?_⟩
        rw [List.take_of_length_le (by rw [List.length_zip, List.length_map]; omega), List.all_map]
        exact k H1 s1
    · refine iteN (fun z => hlen (by have := V.int.inj (of_decide_eq_true z); rw [List.length_map] at this; omega)) ?_
      rw [decide_eq_false (by omega), Bool.false_and] at k
      exact k _ (.refl _)
def spIr : Sp := fun vs H Q _ => ∃ (v : V) (d : Da), vs = [v] ∧ HD H v d ∧ okR d ∧ ∀ H', Same H H' → Q (.bl (rowB d)) H'
theorem scIr : FnScope ["row", "word"] ["row"] (defScope s_is_row) := ⟨rfl, rfl, rfl, by decide +kernel, rfl, by decide +kernel, by decide +kernel⟩
theorem ok_is_row {f fO fA : Addr} {fd fdO fdA : FuncData} (F : Fun K "is_row" "is_row" s_is_row f fd) (T : Txt K w.params mg) (GO : FnOk P w K mg base CX0 1 fO fdO ["thing"] spWo) (kO : PySem.W.keepIn K (.ref fO) = true) (bO : Binds K fdO ["thing"] []) (mO : mg "word_of" = some (.ref fO))(GA : FnOk P w K mg base CX0 5 fA fdA ["kinds", "things"] (spAq (K := K))) (kA : PySem.W.keepIn K (.ref fA) = true) (bA : Binds K fdA ["kinds", "things"] []) (mA : mg "are_parts" = some (.ref fA)) : FnOk P w K mg base CX0 6 f fd ["row"] spIr := by
  refine F.ok scIr (fun vs H Q E h => ?_) (fun cdv A outer s H vs Q E hr h => ?_)
  · obtain ⟨v, d, rfl, _⟩ := h
    rfl
  · obtain ⟨v, d, rfl, hv, hw, k⟩ := h
    obtain ⟨pp, hpp, hkl, h1, h2⟩ := T.prt
    refine wrapX (pssx_cons (psx_of (ps_set (i := 1) scIr.nd rfl (Or.inl rfl) (pe_call GO (hr.mono (by decide)) (by rfl) mO kO bO .nil pass0 (pa_cons (pv 0) pa_nil))))
      (pssx_one (psx_of (ps_ret (pe_and (pe_cmp (pc_kinO (pv 1) (pe_glob (v := .ref pp) (by rfl) hpp rfl)) rfl) (pe_one (pe_call GA hr (by rfl) mA kA bA .nil pass0 (pa_cons (pe_kget (pe_glob (v := .ref pp) (by rfl) hpp rfl) (pv 1) (fun _ _ => rfl)) (pa_cons (pe_slice sl_tup (pv 0) (po_some pe_int) po_none) pa_nil))))))))) ?_
    refine ⟨_, rfl, v, d, rfl, hv, ?_⟩
    cases hwd : wordD d with
    | none =>
      refine ⟨_, rfl, pp, rfl, .inr ⟨rfl, hkl, _, rfl, iteN Bool.false_ne_true ?_⟩⟩
      have e : rowB d = false := by
        unfold rowB
        split
        · cases hwd
        · rfl
      rw [e] at k
      exact k _ (.refl _)
    | some u =>
      obtain ⟨ps, rfl⟩ : ∃ ps, d = .tup (.str u :: ps) := by
        unfold wordD at hwd
        split at hwd
        · cases hwd; exact ⟨_, rfl⟩
        · cases hwd
      have k : ∀ H', Same H H' → Q (.bl (match prt.lookup u with | some ks => partsR ks ps | none => false)) H' := k
      rcases hw u hwd with hu | hu
      · obtain ⟨ks, hks⟩ := Option.isSome_iff_exists.mp hu
        have hm := lk_memP hks
        obtain ⟨q, hq, hS⟩ := h1 _ hm
        refine ⟨_, rfl, pp, rfl, .inl ⟨u, _, rfl, hq, _, rfl, iteP rfl ?_⟩⟩
        obtain ⟨p, xs, rfl, hp, hs⟩ := hv.tup_inv
        cases hs with
        | cons hx hr' =>
        cases hx
        refine ⟨_, rfl, pp, u, _, rfl, rfl, hq, _, rfl, 1, rfl, p, _, rfl, SqT.of hp, ?_, fun t nt => ?_⟩
        · intro z
          have : HT.sIx (V.str u :: _).length 0 (some 1) = 0 := z.1
          simp [HT.sIx] at this
        rw [cut1V]
        rw [hks] at k
        exact ⟨q, t, ks, _, ps, rfl, hS, upd_same, (prt_in _ hm).1, (prt_in _ hm).2, hr'.same (same_new nt), fun H' s' => k H' ((same_new nt).trans s')⟩
      · rw [oRw_no u hu] at k
        exact ⟨_, rfl, pp, rfl, .inl ⟨u, _, rfl, h2 u hu, _, rfl, iteN Bool.false_ne_true (k _ (.refl _))⟩⟩
end
end My


namespace My
open PySem L2
def intsD (l : List Da) : List Int := l.filterMap wnD
/-- the targets of a row -/
def tgD : Da → List Int
  | .tup (.str u :: ps) => if u = "table" then (match ps with | [_, .tup ts] => intsD ts | _ => []) else if u ∈ jcm then (match ps with | [t, _] => (wnD t).toList | _ => []) else if u ∈ zb then (match ps with | [_, t, _] => (wnD t).toList | _ => []) else []
  | _ => []
theorem prt_kinds : ∀ x ∈ prt, (x.1 = "table" ∧ x.2 = (["box", "targets"] : List Str)) ∨ (x.1 ≠ "table" ∧ x.1 ∈ jcm ∧ x.2 = (["target", "far"] : List Str)) ∨ (x.1 ≠ "table" ∧ x.1 ∉ jcm ∧ x.1 ∈ zb ∧ x.2 = (["box", "target", "far"] : List Str)) ∨ (x.1 ≠ "table" ∧ x.1 ∉ jcm ∧ x.1 ∉ zb) := by decide +kernel
theorem num_int {lo hi : Int} {d : Da} (h : numD lo hi d = true) : ∃ n, d = .int n ∧ lo ≤ n ∧ n ≤ hi := by
  unfold numD at h
  cases hw : wnD d with
  | none => rw [hw] at h; cases h
  | some n =>
    rw [hw] at h
    have h := of_decide_eq_true h
    exact ⟨n, by cases d <;> cases hw; rfl, h⟩
theorem nums_ints {H : Hp} : ∀ {ts : List Da} {xs : List V}, ts.all (numD 0 1000000000) = true → HDs H xs ts → xs = (intsD ts).map V.int
  | [], xs, _, h => h.nil_inv
  | t :: ts, xs, ha, h => by
    rw [List.all_cons, Bool.and_eq_true] at ha
    obtain ⟨x, r, rfl, hx, hr⟩ := h.cons_inv
    obtain ⟨n, rfl, _⟩ := num_int ha.1
    cases hx
    rw [nums_ints ha.2 hr]
    rfl
theorem ints_len {ts : List Da} : (intsD ts).length ≤ ts.length := List.length_filterMap_le ..
theorem two_of {a b : Str} {ps : List Da} (h : partsR [a, b] ps = true) : ∃ x y, ps = [x, y] ∧ partR a x = true ∧ partR b y = true := by
  unfold partsR at h
  rw [Bool.and_eq_true] at h
  have hl := of_decide_eq_true h.1
  match ps, hl with
  | [x, y], _ =>
    have := h.2
    simp at this
    exact ⟨x, y, rfl, this.1, this.2⟩
theorem three_of {a b c : Str} {ps : List Da} (h : partsR [a, b, c] ps = true) : ∃ x y z, ps = [x, y, z] ∧ partR a x = true ∧ partR b y = true ∧ partR c z = true := by
  unfold partsR at h
  rw [Bool.and_eq_true] at h
  have hl := of_decide_eq_true h.1
  match ps, hl with
  | [x, y, z], _ =>
    have := h.2
    simp at this
    exact ⟨x, y, z, rfl, this.1, this.2.1, this.2.2⟩
theorem row_word {d : Da} (h : rowB d = true) : ∃ u ps ks, d = .tup (.str u :: ps) ∧ prt.lookup u = some ks ∧ partsR ks ps = true := by
  unfold rowB at h
  split at h
  · rename_i u ps
    cases hl : prt.lookup u with
    | none => rw [hl] at h; cases h
    | some ks => rw [hl] at h; exact ⟨u, ps, ks, rfl, hl, h⟩
  · cases h
theorem row_at {H : Hp} {v : V} {d : Da} (hv : HD H v d) (h : rowB d = true) : ∃ q u, v = .ref q ∧ wordD d = some u ∧ RowAt H q u (tgD d) ∧ (tgD d).length ≤ 16 := by
  obtain ⟨u, ps, ks, rfl, hl, hp⟩ := row_word h
  obtain ⟨q, xs, rfl, hq, hs⟩ := hv.tup_inv
  obtain ⟨x, r, rfl, hx, hr⟩ := hs.cons_inv
  cases hx
  refine ⟨q, u, rfl, rfl, ⟨r, hq, ?_⟩, ?_⟩
  · unfold Parts
    show if u = "table" then _ else _
    rcases prt_kinds _ (lk_memP hl) with ⟨c, e⟩ | ⟨c, c1, e⟩ | ⟨c, c1, c2, e⟩ | ⟨c, c1, c2⟩
    · have e : ks = (["box", "targets"] : List Str) := e
      subst e
      obtain ⟨a, b, rfl, _, hb⟩ := two_of hp
      obtain ⟨xa, r, rfl, _, hr⟩ := hr.cons_inv
      obtain ⟨xb, r, rfl, hxb, hr⟩ := hr.cons_inv
      cases hr.nil_inv
      unfold partR at hb
      rw [if_pos rfl] at hb
      cases b with
      | tup ts =>
        have hb : (decide (1 ≤ ts.length ∧ ts.length ≤ 16) && ts.all (numD 0 1000000000)) = true := hb
        rw [Bool.and_eq_true] at hb
        obtain ⟨qb, ys, rfl, hqb, hys⟩ := hxb.tup_inv
        rw [if_pos c]
        refine ⟨xa, qb, rfl, ?_⟩
        show H qb = some (.tup ((if u = "table" then intsD ts else _).map V.int))
        rw [if_pos c, ← nums_ints hb.2 hys]
        exact hqb
      | _ => cases hb
    · have e : ks = (["target", "far"] : List Str) := e
      subst e
      obtain ⟨a, b, rfl, ha, _⟩ := two_of hp
      obtain ⟨xa, r, rfl, hxa, hr⟩ := hr.cons_inv
      obtain ⟨xb, r, rfl, hxb, hr⟩ := hr.cons_inv
      cases hr.nil_inv
      unfold partR at ha
      rw [if_neg (by decide)] at ha
      obtain ⟨n, rfl, _⟩ := num_int ha
      cases hxa
      rw [if_neg c, if_pos c1]
      refine ⟨n, xb, rfl, ?_⟩
      show (if u = "table" then _ else if u ∈ jcm then [n] else _) = _
      rw [if_neg c, if_pos c1]
    · have e : ks = (["box", "target", "far"] : List Str) := e
      subst e
      obtain ⟨a, b, z, rfl, _, hb, _⟩ := three_of hp
      obtain ⟨xa, r, rfl, hxa, hr⟩ := hr.cons_inv
      obtain ⟨xb, r, rfl, hxb, hr⟩ := hr.cons_inv
      obtain ⟨xc, r, rfl, hxc, hr⟩ := hr.cons_inv
      cases hr.nil_inv
      unfold partR at hb
      rw [if_neg (by decide)] at hb
      obtain ⟨n, rfl, _⟩ := num_int hb
      cases hxb
      rw [if_neg c, if_neg c1, if_pos c2]
      refine ⟨xa, n, xc, rfl, ?_⟩
      show (if u = "table" then _ else if u ∈ jcm then _ else if u ∈ zb then [n] else _) = _
      rw [if_neg c, if_neg c1, if_pos c2]
    · have c : ¬ u = "table" := c
      have c1 : ¬ u ∈ jcm := c1
      have c2 : ¬ u ∈ zb := c2
      rw [if_neg c, if_neg c1, if_neg c2]
      show (if u = "table" then _ else if u ∈ jcm then _ else if u ∈ zb then _ else []) = _
      rw [if_neg c, if_neg c1, if_neg c2]
  · rcases prt_kinds _ (lk_memP hl) with ⟨c, e⟩ | ⟨c, c1, e⟩ | ⟨c, c1, c2, e⟩ | ⟨c, c1, c2⟩
    · have e : ks = (["box", "targets"] : List Str) := e
      subst e
      obtain ⟨a, b, rfl, _, hb⟩ := two_of hp
      unfold partR at hb
      rw [if_pos rfl] at hb
      cases b with
      | tup ts =>
        have hb : (decide (1 ≤ ts.length ∧ ts.length ≤ 16) && ts.all (numD 0 1000000000)) = true := hb
        rw [Bool.and_eq_true] at hb
        have := of_decide_eq_true hb.1
        show (if u = "table" then intsD ts else _).length ≤ 16
        rw [if_pos c]
        exact Nat.le_trans ints_len this.2
      | _ => cases hb
    · have e : ks = (["target", "far"] : List Str) := e
      subst e
      obtain ⟨a, b, rfl, ha, _⟩ := two_of hp
      show (if u = "table" then _ else if u ∈ jcm then (wnD a).toList else _).length ≤ 16
      rw [if_neg c, if_pos c1]
      cases wnD a <;> exact Nat.le_of_ble_eq_true rfl
    · have e : ks = (["box", "target", "far"] : List Str) := e
      subst e
      obtain ⟨a, b, z, rfl, _, hb, _⟩ := three_of hp
      show (if u = "table" then _ else if u ∈ jcm then _ else if u ∈ zb then (wnD b).toList else _).length ≤ 16
      rw [if_neg c, if_neg c1, if_pos c2]
      cases wnD b <;> exact Nat.le_of_ble_eq_true rfl
    · have c : ¬ u = "table" := c
      have c1 : ¬ u ∈ jcm := c1
      have c2 : ¬ u ∈ zb := c2
      show (if u = "table" then _ else if u ∈ jcm then _ else if u ∈ zb then _ else []).length ≤ 16
      rw [if_neg c, if_neg c1, if_neg c2]
      decide
def ckB (n : Nat) (d : Da) : Bool := rowB d && (tgD d).all fun t => decide (t < (n : Int))
def ckF (n : Nat) : Nat → List Da → Option Nat
  | _, [] => none
  | i, d :: l => if ckB n d = true then ckF n (i + 1) l else some i
def goesD (d : Da) : Bool := match wordD d with
  | some u => !decide (u ∈ notOn)
  | none => false
def ckBad (ds : List Da) : Option Nat := match ds.getLast? with
  | none => some 0
  | some d => match ckF ds.length 0 ds with
    | some i => some i
    | none => if goesD d = true then some (ds.length - 1) else none
theorem ckF_none {n : Nat} : ∀ {ds : List Da} {i : Nat}, ckF n i ds = none → ∀ d ∈ ds, ckB n d = true
  | [], _, _, d, hd => by cases hd
  | e :: ds, i, h, d, hd => by
    unfold ckF at h
    split at h
    · rename_i he
      rcases List.mem_cons.mp hd with rfl | hd
      · exact he
      · exact ckF_none h d hd
    · cases h
section
variable {P : Program} {w : World} {K : PySem.W.Frag} {mg : Str → Option Value} {base : Heap}
def spSw : Sp := fun vs H Q _ => ∃ (q : Addr) (u : Str) (ts : List Int) (n : Nat), vs = [.ref q, .int (n : Int)] ∧ RowAt H q u ts ∧ ts.length ≤ 16 ∧ ∀ H', Same H H' → Q (.bl (ts.all fun t => decide (t < (n : Int)))) H'
theorem scSw : FnScope ["row", "how_many"] ["row", "how_many"] (defScope s_stays_within) := ⟨rfl, rfl, rfl, by decide +kernel, rfl, by decide +kernel, by decide +kernel⟩
def csSwC1 : Scope := { kind := .function, names := [(".0", .local), ("target", .local), ("how_many", .free)], isGenerator := false, isCoroutine := false, more := [] }
theorem scSwC1 : CompSc (defScope s_stays_within) csSwC1 ["row", "how_many"] ["target", "how_many"] [none, some 1] := ⟨rfl, by decide +kernel, by decide +kernel, by decide +kernel, by decide +kernel, by decide +kernel⟩
theorem ok_stays_within {f fT : Addr} {fd fdT : FuncData} (F : Fun K "stays_within" "stays_within" s_stays_within f fd) (T : Txt K w.params mg) (GT : FnOk P w K mg base CX0 1 fT fdT ["row"] spTargets) (kT : PySem.W.keepIn K (.ref fT) = true) (bT : Binds K fdT ["row"] []) (mT : mg "targets_of" = some (.ref fT)) : FnOk P w K mg base CX0 2 f fd ["row", "how_many"] spSw := by
  refine F.ok scSw (fun vs H Q E h => ?_) (fun cdv A outer s H vs Q E hr h => ?_)
  · obtain ⟨q, u, ts, n, rfl, _⟩ := h
    rfl
  · obtain ⟨q, u, ts, n, rfl, hR, h16, k⟩ := h
    refine wrapX (pssx_one (psx_of (ps_ret (pe_callB (call_allB rfl) (by rfl) T.all bt_all (pa_cons (pe_comp (N' := ["target", "how_many"]) (fr := [none, some 1]) scSwC1 rfl (pi_list (pe_call GT hr (by rfl) mT kT bT .nil pass0 (pa_cons (pv 0) pa_nil))) (fun C s0 H0 fp => (pg_name (i := 0) scSwC1.nd rfl (Or.inl rfl))) (fun C s0 H0 fp => pts_nil) (fun C s0 H0 fp => (pe_cmpR op_lt (pv 0) (pv 1) (nomark _)))) pa_nil))))) ?_
    refine ⟨_, rfl, q, u, ts, rfl, hR, fun l G1 s1 nl hl => ?_⟩
    refine ⟨l, rfl, ⟨_, SqL.of hl⟩, fun D nD => comp_list (K := K) (a := l) (xs := ts.map V.int) (fun i σ ys G => ∃ v : Option V, σ = [v, some (.int (n : Int))] ∧ ys = ((ts.take i).map fun t => decide (t < (n : Int))).map V.bl ∧ Same G1 G ∧ G D = some (.lst ys)) ?_ ?_ ?_ ?_⟩
    · exact ⟨none, rfl, rfl, same_new nD, upd_same⟩
    · rintro i σ ys G _ ⟨v, rfl, _, s2, _⟩
      exact SqL.of (s2 _ _ hl)
    · rintro i x σ ys G hx ⟨v, rfl, rfl, s2, hD⟩
      rw [List.getElem?_map] at hx
      obtain ⟨t, ht, rfl⟩ := Option.map_eq_some_iff.mp hx
      have hi := (List.getElem?_eq_some_iff.mp ht).1
      refine ⟨_, rfl, _, rfl, _, _, rfl, rfl, hD, small_lt (by rw [List.length_map, List.length_map, List.length_take]; omega), _, rfl, ?_, same_put s2 nD, upd_same⟩
      rw [List.take_add_one, ht, List.map_append, List.map_append]
      rfl
    rintro σ ys G ⟨v, rfl, rfl, s2, hD⟩
    rw [List.length_map, List.take_length] at hD
    refine ⟨D, _, rfl, SqL.of hD, ?_⟩
    rw [List.all_map]
    exact k G (s1.trans s2)
variable {cNR R fI : Addr} {fdI : FuncData}
def spCk (cNR : Addr) : Sp := fun vs H Q E => ∃ v : V, vs = [v] ∧ ((∃ t, TyOf K H v t ∧ PySem.W.kitOne K t (.type "list") = some false ∧ ErrW cNR 0 H E) ∨ ∃ (p : Addr) (xs : List V) (ds : List Da), v = .ref p ∧ H p = some (.lst xs) ∧ HDs H xs ds ∧ (∀ d ∈ ds, okR d) ∧ xs.length ≤ 1000 ∧ WRes cNR (ckBad ds) H Q E)
theorem scCk : FnScope ["rows", "at", "row"] ["rows"] (defScope s_check_rows) := ⟨rfl, rfl, rfl, by decide +kernel, rfl, by decide +kernel, by decide +kernel⟩
theorem ok_check_rows {f fR fS fG : Addr} {fd fdR fdS fdG : FuncData} (F : Fun K "check_rows" "check_rows" s_check_rows f fd) (T : Txt K w.params mg) (GR : FnOk P w K mg base CX0 6 fR fdR ["row"] spIr) (kR : PySem.W.keepIn K (.ref fR) = true) (bR : Binds K fdR ["row"] []) (mR : mg "is_row" = some (.ref fR))(GS : FnOk P w K mg base CX0 2 fS fdS ["row", "how_many"] spSw) (kS : PySem.W.keepIn K (.ref fS) = true) (bS : Binds K fdS ["row", "how_many"] []) (mS : mg "stays_within" = some (.ref fS))(GG : FnOk P w K mg base CX0 1 fG fdG ["row"] spGoes) (kG : PySem.W.keepIn K (.ref fG) = true) (bG : Binds K fdG ["row"] []) (mG : mg "goes_on" = some (.ref fG)) (cx : XIni K cNR R fI) (kC : PySem.W.keepIn K (.ref cNR) = true) (GI : FnOk P w K mg base CX0 1 fI fdI ["self", "at"] (spXI cNR)) (bI : Binds K fdI ["self", "at"] []) (mNR : mg "NoRows" = some (.ref cNR)) : FnOk P w K mg base (CX2 P w) 7 f fd ["rows"] (spCk (K := K) cNR) := by
  refine F.okX scCk (fun vs H Q E h => ?_) (fun cdv A outer s H vs Q E hr h => ?_)
  · obtain ⟨v, rfl, _⟩ := h
    rfl
  · obtain ⟨v, rfl, h⟩ := h
    have hrI : Room 2 (A.deeper (PyProof.Rows.envOfC "check_rows" (defScope s_check_rows) s.heap.objs.size f cdv)) := hr.mono (by decide)
    obtain ⟨tm, hmr⟩ := T.g_MOST_ROWS
    refine wrapX (pssx_cons (psx_if (pw_or (pt_not (pt_val (pe_callB call_isinst (by rfl) T.isi bt_isi (pa_cons (pv 0) (pa_cons (pe_bltn (v := .ty "list") (by rfl) T.list bt_list rfl) pa_nil))))) (pw_or1 (pt_cmpR op_eq (pe_callB call_len_seq (by rfl) T.len bt_len (pa_cons (pv 0) pa_nil)) pe_int (nomark _)))).pt (pssx_one (psx_of (ps_raiseC cx kC GI bI hrI mNR (by rfl) (pa_cons pe_int pa_nil)))) (pssx_nil pss_nil))
      (pssx_cons (psx_of (ps_for PassesOwn.leaving rfl (pi_enum rfl T.enum (pa_cons (pe_slice sl_list (pv 0) po_none (po_some (pe_glob (v := .int 4000) (by rfl) hmr ⟨_, rfl⟩))) pa_nil)) (pg_two (K := K) (i := 1) (j := 2) rfl rfl scCk.nd rfl (Or.inl rfl) rfl (Or.inl rfl)) (pss_one (ps_if (pw_or (pt_not (pt_val (pe_call GR hr (by rfl) mR kR bR .nil pass0 (pa_cons (pv 2) pa_nil)))) (pw_or1 (pt_not (pt_val (pe_call GS (hr.mono (by decide)) (by rfl) mS kS bS .nil pass0 (pa_cons (pv 2) (pa_cons (pe_callB call_len_seq (by rfl) T.len bt_len (pa_cons (pv 0) pa_nil)) pa_nil))))))).pt (pss_one (ps_raiseC cx kC GI bI hrI mNR (by rfl) (pa_cons (pv 1) pa_nil))) pss_nil))))
      (pssx_cons (psx_if (pt_cmpR op_gt (pe_callB call_len_seq (by rfl) T.len bt_len (pa_cons (pv 0) pa_nil)) (pe_glob (v := .int 4000) (by rfl) hmr ⟨_, rfl⟩) (nomark _)) (pssx_one (psx_of (ps_raiseC cx kC GI bI hrI mNR (by rfl) (pa_cons (pe_glob (v := .int 4000) (by rfl) hmr ⟨_, rfl⟩) pa_nil)))) (pssx_nil pss_nil))
      (pssx_one (psx_if (pt_val (pe_call GG (hr.mono (by decide)) (by rfl) mG kG bG .nil pass0 (pa_cons (pe_ix ix_list (pv 0) (pe_un un_neg pe_int) (fun _ _ => rfl)) pa_nil))) (pssx_one (psx_of (ps_raiseC cx kC GI bI hrI mNR (by rfl) (pa_cons (pe_op op_sub (pe_callB call_len_seq (by rfl) T.len bt_len (pa_cons (pv 0) pa_nil)) pe_int) pa_nil)))) (pssx_nil pss_nil)))))) ?_
    rcases h with ⟨t, ht, hk, hE⟩ | ⟨p, xs, ds, rfl, hp, hs, hok, hlx, k⟩
    · exact ⟨_, rfl, _, _, _, _, rfl, ht, hk, _, rfl, iteP rfl (iteP rfl ⟨_, rfl, by decide, fun d nd => hE _ d (same_new nd) upd_same⟩)⟩
    refine ⟨_, rfl, _, _, _, _, rfl, .lst hp, k_list_list, _, rfl, iteN (by decide) ?_⟩
    refine ⟨_, rfl, p, _, rfl, .inl (SqL.of hp), rfl, _, rfl, ?_⟩
    have hl := hs.len
    by_cases c0 : ds = []
    · subst c0
      have k : ErrW cNR 0 H E := k
      exact iteP (decide_eq_true (by rw [hl]; rfl)) ⟨_, rfl, by decide, fun d nd => k _ d (same_new nd) upd_same⟩
    have hdl : 0 < ds.length := List.length_pos_iff.mpr c0
    refine iteN (fun z => ?_) ?_
    · have := V.int.inj (of_decide_eq_true z)
      omega
    obtain ⟨dl, hdl'⟩ : ∃ dl, ds.getLast? = some dl := ⟨_, List.getLast?_eq_some_getLast c0⟩
    unfold ckBad at k
    rw [hdl'] at k
    have k : WRes cNR (match ckF ds.length 0 ds with | some i => some i | none => if goesD dl = true then some (ds.length - 1) else none) H Q E := k
    refine ⟨_, rfl, _, rfl, p, _, rfl, SqL.of hp, fun lc nlc => ?_⟩
    rw [show cutV xs none (some 4000) = xs.take 4000 from cut_take xs 4000, List.take_of_length_le (by omega)]
    have s1 := same_new (o := .lst xs) nlc
    have hlc : upd H lc (.lst xs) lc = _ := upd_same
    generalize upd H lc (.lst xs) = G1 at s1 hlc ⊢
    refine ⟨lc, rfl, ⟨_, SqL.of hlc⟩, for_enum (K := K) (xs := xs) (fun i σ G => ∃ v2 v3 : Option V, σ = [some (.ref p), v2, v3] ∧ Same G1 G ∧ i ≤ ds.length ∧ ckF ds.length 0 ds = ckF ds.length i (ds.drop i)) ?_ ?_ ?_ ?_⟩
    · exact ⟨none, none, rfl, .refl _, Nat.zero_le _, rfl⟩
    · rintro i σ G _ ⟨v2, v3, rfl, s2, _⟩
      exact SqL.of (s2 _ _ hlc)
    · rintro i x σ G tt hx ntt ⟨v2, v3, rfl, s2, hi, hfb⟩
      have hil : i < ds.length := by have := (List.getElem?_eq_some_iff.mp hx).1; omega
      have hd : ds[i]? = some ds[i] := List.getElem?_eq_getElem hil
      have hdr : ds.drop i = ds[i] :: ds.drop (i + 1) := List.drop_eq_getElem_cons hil
      have hm' := List.getElem_mem hil
      generalize ds[i] = d at hd hdr hm'
      have s3 := s2.trans (same_new (o := .tup [V.int i, x]) ntt)
      have htt : upd G tt (.tup [V.int i, x]) tt = _ := upd_same
      generalize upd G tt (.tup [V.int i, x]) = G3 at s3 htt ⊢
      refine ⟨tt, _, rfl, SqT.of htt, rfl, _, _, rfl, _, _, rfl, rfl, ?_⟩
      have hxd := ((hs.get i x d hx hd).same s1).same s3
      refine ⟨_, rfl, x, d, rfl, hxd, hok d hm', fun G4 s4 => ⟨_, rfl, ?_⟩⟩
      rw [hdr] at hfb
      have hfb : ckF ds.length 0 ds = if ckB ds.length d = true then ckF ds.length (i + 1) (ds.drop (i + 1)) else some i := hfb
      have bad : ckB ds.length d = false → ∀ G, Same G3 G → ErrW cNR i G E := fun hc G sG => by
        rw [if_neg (by rw [hc]; decide)] at hfb
        rw [hfb] at k
        have k : ErrW cNR i H E := k
        exact fun H' dd s' hd' => k H' dd ((s1.trans (s3.trans sG)).trans s') hd'
      by_cases hw : rowB d = true
      rotate_left
      · refine iteP (by rw [Bool.eq_false_iff.mpr hw]; rfl) (iteP rfl ?_)
        have := bad (by unfold ckB; rw [Bool.eq_false_iff.mpr hw]; rfl) G4 s4
        exact ⟨_, rfl, _, rfl, by omega, fun dd nd => this _ dd (same_new nd) upd_same⟩
      refine iteN (by rw [hw]; decide) ?_
      obtain ⟨q, u, rfl, hu, hra, h16⟩ := row_at hxd hw
      refine ⟨_, rfl, _, rfl, p, _, rfl, .inl (SqL.of (s4 _ _ (s3 _ _ (s1 _ _ hp)))), q, u, tgD d, ds.length, by rw [hl]; rfl, hra.same s4, h16, fun G5 s5 => ⟨_, rfl, ?_⟩⟩
      have hcb : ckB ds.length d = (tgD d).all fun t => decide (t < (ds.length : Int)) := by unfold ckB; rw [hw, Bool.true_and]
      cases hc : (tgD d).all fun t => decide (t < (ds.length : Int)) with
      | true =>
        rw [hc] at hcb
        rw [if_pos hcb] at hfb
        exact iteN (by decide) ⟨_, _, rfl, (s3.trans s4).trans s5, hil, hfb⟩
      | false =>
        rw [hc] at hcb
        have := bad hcb G5 (s4.trans s5)
        exact iteP rfl ⟨_, rfl, _, rfl, by omega, fun dd nd => this _ dd (same_new nd) upd_same⟩
    · rintro σ G ⟨v2, v3, rfl, s2, hi, hfb⟩
      rw [hl, List.drop_length] at hfb
      have hfb : ckF ds.length 0 ds = none := hfb
      rw [hfb] at k
      have k : WRes cNR (if goesD dl = true then some (ds.length - 1) else none) H Q E := k
      have s3 := s1.trans s2
      have hp3 := s3 _ _ hp
      refine ⟨_, rfl, p, _, rfl, .inl (SqL.of hp3), _, _, rfl, rfl, _, rfl, iteN (fun z => by have := of_decide_eq_true z; omega) ?_⟩
      have hlast : ds[ds.length - 1]? = some dl := by rw [← List.getLast?_eq_getElem?]; exact hdl'
      have hxl : xs[ds.length - 1]? = some (xs[ds.length - 1]'(by omega)) := List.getElem?_eq_getElem _
      generalize (xs[ds.length - 1]'(by omega)) = xl at hxl
      have hxd := (hs.get _ _ _ hxl hlast).same s3
      have hcb := ckF_none hfb dl (List.mem_of_getElem? hlast)
      have hrw : rowB dl = true := by unfold ckB at hcb; rw [Bool.and_eq_true] at hcb; exact hcb.1
      obtain ⟨q, u, rfl, hu, ⟨items, hq, _⟩, _⟩ := row_at hxd hrw
      have hat : atI xs (-1) = some (.ref q) := by
        unfold atI ixN
        rw [if_neg (by decide), if_pos (by omega)]
        show xs[((-1 : Int) + (xs.length : Int)).toNat]? = _
        rw [show ((-1 : Int) + (xs.length : Int)).toNat = ds.length - 1 by omega]
        exact hxl
      refine ⟨_, rfl, _, rfl, p, _, _, .ref q, rfl, rfl, SqL.of hp3, hat, q, u, items, rfl, hq, _, rfl, ?_⟩
      have hgd : goesD dl = !decide (u ∈ notOn) := by unfold goesD; rw [hu]
      rw [hgd] at k
      cases hc : !decide (u ∈ notOn) with
      | true =>
        rw [hc] at k
        have k : ErrW cNR (ds.length - 1) H E := k
        refine iteP rfl ⟨_, rfl, p, _, rfl, .inl (SqL.of hp3), _, _, rfl, rfl, _, rfl, ?_, fun d nd => k _ d (s3.trans (same_new nd)) ?_⟩
        · show ((xs.length : Int) - 1).natAbs < 10 ^ 12
          omega
        · have e : ((xs.length : Int) - 1) = ((ds.length - 1 : Nat) : Int) := by omega
          rw [upd_same]
          exact congrArg (fun z => some (HO.xd [("at", V.int z)])) e
      | false =>
        rw [hc] at k
        exact iteN (by decide) (k _ s3)
end
end My


namespace My
open PySem L2
theorem op_fdivB {X : Cx} : OpR X (binaryOp .FloorDiv) (rI (fun _ j => 0 < j ∧ j < 18446744073709551616) fun i j => .int (i / j)) := opI fun i j _ _ _ _ _ hc q => by
  have h1 : (0 : Int) < j := hc.1
  have h2 : j < 18446744073709551616 := hc.2
  refine PyProof.Rows.floordiv_int (by omega) (by rw [Int.fdiv_eq_ediv_of_nonneg i (by omega)]; exact q) (.inl (PyProof.noPylong_of_log2 ?_))
  have h3 : j.natAbs.log2 < 64 := (Nat.log2_lt (by omega)).mpr (by omega)
  omega
/-- the heap but for l -/
def del (H : Hp) (l : Addr) : Hp := fun b => if b = l then none else H b
theorem del_ne {H : Hp} {l b : Addr} (h : b ≠ l) : del H l b = H b := if_neg h
theorem del_self {H : Hp} {l : Addr} : del H l l = none := if_pos rfl
theorem del_le {H : Hp} {l : Addr} : Same (del H l) H := fun b o h => by
  by_cases c : b = l
  · rw [c, del_self] at h; cases h
  · rwa [del_ne c] at h
theorem same_del {H H' : Hp} {l : Addr} (s : Same H H') : Same (del H l) (del H' l) := fun b o h => by
  by_cases c : b = l
  · rw [c, del_self] at h; cases h
  · rw [del_ne c] at h ⊢; exact s _ _ h
theorem del_put {H : Hp} {l : Addr} {o : HO} : Same (del H l) (del (upd H l o) l) := fun b u h => by
  by_cases c : b = l
  · rw [c, del_self] at h; cases h
  · rw [del_ne c] at h ⊢; rw [upd_ne c]; exact h
theorem del_upd {H : Hp} {l b : Addr} {o : HO} (h : b ≠ l) : del (upd H b o) l b = some o := by rw [del_ne h, upd_same]
theorem del_at {H : Hp} {l b : Addr} {o : HO} (h : H b = some o) (n : b ≠ l) : del H l b = some o := by rw [del_ne n, h]
/-- xs.pop() of ints -/
theorem pop_go {ms : List Int} (h : 1 ≤ ms.length) : ∃ (x : Int) (ms' : List Int), (ms.map V.int)[(ms.map V.int).length - 1]? = some (.int x) ∧ (ms.map V.int).dropLast = ms'.map V.int ∧ ms'.length + 1 = ms.length := by
  refine ⟨ms[ms.length - 1], ms.dropLast, ?_, by rw [List.map_dropLast], by rw [List.length_dropLast]; omega⟩
  rw [List.getElem?_map, List.length_map, List.getElem?_eq_getElem (by omega)]
  rfl
section
variable {P : Program} {w : World} {K : PySem.W.Frag} {mg : Str → Option Value} {base : Heap}
def spCell : Sp := fun vs H Q _ => ∃ (a : Addr) (ns : List Int) (k : Int), vs = [.ref a, .int k] ∧ SqL K H a (ns.map V.int) ∧ 0 ≤ k ∧ ∀ c : Int, Q (.int c) H
theorem scCell : FnScope ["_law_script", "_law_k"] ["_law_script", "_law_k"] (defScope s_law_cell_at) := ⟨rfl, rfl, rfl, by decide +kernel, rfl, by decide +kernel, by decide +kernel⟩
theorem ok_law_cell_at {f : Addr} {fd : FuncData} (F : Fun K "_law_cell_at" "_law_cell_at" s_law_cell_at f fd) (T : Txt K w.params mg) : FnOk P w K mg base CX0 1 f fd ["_law_script", "_law_k"] (spCell (K := K)) := by
  refine F.ok scCell (fun vs H Q E h => ?_) (fun cdv A outer s H vs Q E hr h => ?_)
  · obtain ⟨a, ns, k, rfl, _⟩ := h
    rfl
  · obtain ⟨a, ns, k, rfl, hS, hk, q⟩ := h
    refine ⟨_, pss_cons (ps_if (pt_cmpR op_lt (pv 1) (pe_callB call_len_seq (by rfl) T.len bt_len (pa_cons (pv 0) pa_nil)) (nomark _)) (pss_one (ps_ret (pe_ix ix_list (pv 0) (pv 1) (fun _ _ => rfl)))) pss_nil)
      (pss_one (ps_ret pe_int)), ?_⟩
    refine ⟨_, rfl, _, rfl, a, _, rfl, .inl hS, _, _, rfl, rfl, _, rfl, ?_⟩
    refine ite2 (fun h1 => ?_) (fun h1 => ?_)
    · have h1 := of_decide_eq_true h1
      rw [List.length_map] at h1
      obtain ⟨j, rfl⟩ := Int.eq_ofNat_of_zero_le hk
      have hj : j < ns.length := by omega
      refine ⟨_, rfl, _, rfl, a, _, _, .int ns[j], rfl, rfl, hS, atI_nat (j := j) ?_, q _⟩
      rw [List.getElem?_map, List.getElem?_eq_getElem hj]
      rfl
    · exact q 0

def spSt : Sp := fun vs H Q _ => ∃ (c : Int) (n : Nat), vs = [.int c, .int (n : Int)] ∧ n ≤ 1000 ∧ ∀ (l : Addr) (ms : List Int) (H' : Hp), Same H H' → H l = none → H' l = some (.lst (ms.map V.int)) → ms.length = n → Q (.ref l) H'
theorem scSt : FnScope ["_law_cell", "_law_size", "_law_found", "_law_rest", "_law_k", "_law_number", "_law_other"] ["_law_cell", "_law_size"] (defScope s_law_stream) := ⟨rfl, rfl, rfl, by decide +kernel, rfl, by decide +kernel, by decide +kernel⟩
theorem ok_law_stream {f : Addr} {fd : FuncData} (F : Fun K "_law_stream" "_law_stream" s_law_stream f fd) (T : Txt K w.params mg)  : FnOk P w K mg base CX0 1 f fd ["_law_cell", "_law_size"] spSt := by
  refine F.ok scSt (fun vs H Q E h => ?_) (fun cdv A outer s H vs Q E hr h => ?_)
  · obtain ⟨c, n, rfl, _⟩ := h
    rfl
  · obtain ⟨c, n, rfl, hn, k⟩ := h
    refine wrapX (pssx_cons (psx_of (ps_set (i := 2) scSt.nd rfl (Or.inl rfl) (pe_lst pa_nil)))
      (pssx_cons (psx_if (pt_cmpR op_ge (pv 0) (pe_op op_pow pe_int pe_int) (nomark _)) (pssx_cons (psx_of (ps_set (i := 3) scSt.nd rfl (Or.inl rfl) (pe_op op_fdivB (pv 0) pe_int)))
      (pssx_cons (psx_of (ps_for PassesOwn.never rfl (pi_range1 rfl T.range (pa_cons (pv 1) pa_nil)) (pg_name (i := 4) scSt.nd rfl (Or.inl rfl)) (pss_cons (ps_expr (pe_bm PySem.F.plainAttrs_list PySem.F.slot_list_append PySem.F.type_list_append mt_append (pv 2) (pa_cons (pe_op op_mod (pv 3) pe_int) pa_nil)))
      (pss_one (ps_set (i := 3) scSt.nd rfl (Or.inl rfl) (pe_op op_fdivB (pv 3) pe_int))))))
      (pssx_one (psx_of (ps_ret (pe_rev (pv 2) (po_some (pe_un un_neg pe_int)))))))) (pssx_nil pss_nil))
      (pssx_cons (psx_of (ps_set (i := 5) scSt.nd rfl (Or.inl rfl) (pe_op op_mod (pe_op op_mul (pe_op op_add (pe_op op_mod (pv 0) pe_int) pe_int) pe_int) pe_int)))
      (pssx_cons (psx_of (ps_set (i := 6) scSt.nd rfl (Or.inl rfl) (pe_op op_mod (pe_op op_mul (pe_op op_add (pe_op op_mod (pv 0) pe_int) pe_int) pe_int) pe_int)))
      (pssx_cons (psx_of (ps_for PassesOwn.never rfl (pi_range1 rfl T.range (pa_cons (pv 1) pa_nil)) (pg_name (i := 4) scSt.nd rfl (Or.inl rfl)) (pss_cons (ps_set (i := 5) scSt.nd rfl (Or.inl rfl) (pe_op op_add (pe_op op_add (pe_op op_mod (pe_op op_mul (pv 5) (pe_op op_add (pe_op op_fdivB (pv 5) pe_int) pe_int)) pe_int) (pv 4)) pe_int))
      (pss_cons (ps_set (i := 6) scSt.nd rfl (Or.inl rfl) (pe_op op_mod (pe_op op_mul (pv 6) pe_int) pe_int))
      (pss_one (ps_expr (pe_bm PySem.F.plainAttrs_list PySem.F.slot_list_append PySem.F.type_list_append mt_append (pv 2) (pa_cons (pe_op op_add (pv 5) (pv 6)) pa_nil))))))))
      (pssx_one (psx_of (ps_ret (pv 2))))))))) ?_
    refine ⟨Nat.le_of_ble_eq_true rfl, fun l nl => ?_⟩
    have s0 := same_new (o := .lst []) nl
    have h0 : upd H l (.lst []) l = some (.lst (([] : List Int).map V.int)) := upd_same
    generalize upd H l (.lst []) = G0 at s0 h0 ⊢
    have cp40 : CPow 10 40 := ⟨by decide, by decide, by decide⟩
    refine ⟨_, rfl, _, _, rfl, rfl, cp40, _, _, rfl, rfl, _, rfl, ?_⟩
    refine ite2 (fun _ => ?_) (fun _ => ?_)
    · refine ⟨_, rfl, _, _, rfl, rfl, ⟨by show (0 : Int) < 7; decide, by show (7 : Int) < _; decide⟩, ?_⟩
      refine ⟨_, rfl, _, rfl, by omega, by omega, ?_⟩
      refine for_range (lo := 0) (n := ((n : Nat) : Int).toNat) (fun i σ G => ∃ (x : Int) (v : Option V) (ms : List Int), σ = [some (.int c), some (.int (n : Int)), some (.ref l), some (.int x), v, none, none] ∧ Same H G ∧ G l = some (.lst (ms.map V.int)) ∧ ms.length = i) ?_ ?_ ?_
      · exact ⟨_, none, [], rfl, s0, h0, rfl⟩
      · rintro i σ G hi ⟨x, v, ms, rfl, s1, h1, hl⟩
        have hin : i < n := by rw [Int.toNat_natCast] at hi; exact hi
        refine ⟨_, rfl, .inl ⟨rfl, _, SqL.of h1⟩, _, rfl, _, _, rfl, rfl, (by show (0 : Int) < 10000019; decide), l, _, _, rfl, rfl, h1, small_lt (by rw [List.length_map]; omega), ?_⟩
        refine ⟨_, rfl, _, _, rfl, rfl, ⟨by show (0 : Int) < 10000019; decide, by show (10000019 : Int) < _; decide⟩, ?_⟩
        exact ⟨_, _, ms ++ [x % 10000019], rfl, same_put s1 nl, by rw [upd_same, List.map_append]; rfl, by rw [List.length_append, hl]; rfl⟩
      · rintro σ G ⟨x, v, ms, rfl, s1, h1, hl⟩
        refine ⟨_, rfl, 1, rfl, _, rfl, rfl, l, _, rfl, SqL.of h1, fun p np => ?_⟩
        refine k p ms.reverse _ (s1.trans (same_new np)) (s1.free np) (by rw [upd_same, List.map_reverse]) (by rw [List.length_reverse, hl, Int.toNat_natCast])
    · refine ⟨_, rfl, _, _, rfl, rfl, (by show (0 : Int) < 2147483647; decide), _, _, rfl, rfl, _, _, rfl, rfl, .inr ⟨by decide, by decide⟩, _, _, rfl, rfl, (by show (0 : Int) < 2147483647; decide), ?_⟩
      refine ⟨_, rfl, _, _, rfl, rfl, (by show (0 : Int) < 1000003; decide), _, _, rfl, rfl, _, _, rfl, rfl, .inr ⟨by decide, by decide⟩, _, _, rfl, rfl, (by show (0 : Int) < 2147483629; decide), ?_⟩
      have hx0 : 0 ≤ (c % 2147483647 + 1) * 48271 % 2147483647 ∧ (c % 2147483647 + 1) * 48271 % 2147483647 < 2147483647 := ⟨Int.emod_nonneg _ (by decide), Int.emod_lt_of_pos _ (by decide)⟩
      refine ⟨_, rfl, _, rfl, by omega, by omega, ?_⟩
      refine for_range (lo := 0) (n := ((n : Nat) : Int).toNat) (fun i σ G => ∃ (x y : Int) (v : Option V) (ms : List Int), σ = [some (.int c), some (.int (n : Int)), some (.ref l), none, v, some (.int x), some (.int y)] ∧ 0 ≤ x ∧ x < 2147490000 ∧ Same H G ∧ G l = some (.lst (ms.map V.int)) ∧ ms.length = i) ?_ ?_ ?_
      · exact ⟨_, _, none, [], rfl, hx0.1, (by omega), s0, h0, rfl⟩
      · rintro i σ G hi ⟨x, y, v, ms, rfl, b1, b2, s1, h1, hl⟩
        have e0 : (0 : Int) + (i : Int) = (i : Int) := by omega
        rw [e0]
        have hin : i < n := by rw [Int.toNat_natCast] at hi; exact hi
        refine ⟨_, rfl, _, rfl, _, _, rfl, rfl, ⟨by show (0 : Int) < 1009; decide, by show (1009 : Int) < _; decide⟩, _, _, rfl, rfl, _, _, rfl, rfl, .inl ⟨by omega, by omega⟩, _, _, rfl, rfl, (by show (0 : Int) < 2147483647; decide), _, rfl, _, _, rfl, rfl, _, _, rfl, rfl, ?_⟩
        have hz : 0 ≤ x * (x / 1009 + 69621) % 2147483647 ∧ x * (x / 1009 + 69621) % 2147483647 < 2147483647 := ⟨Int.emod_nonneg _ (by decide), Int.emod_lt_of_pos _ (by decide)⟩
        refine ⟨_, rfl, _, _, rfl, rfl, .inr ⟨by decide, by decide⟩, _, _, rfl, rfl, (by show (0 : Int) < 2147483629; decide), ?_⟩
        refine ⟨_, rfl, .inl ⟨rfl, _, SqL.of h1⟩, _, rfl, _, rfl, _, _, rfl, rfl, l, _, _, rfl, rfl, h1, small_lt (by rw [List.length_map]; omega), ?_⟩
        exact ⟨_, _, _, ms ++ [x * (x / 1009 + 69621) % 2147483647 + (i : Int) + 1 + y * 48271 % 2147483629], rfl, (by omega), (by omega), same_put s1 nl, by rw [upd_same, List.map_append]; rfl, by rw [List.length_append, hl]; rfl⟩
      · rintro σ G ⟨x, y, v, ms, rfl, b1, b2, s1, h1, hl⟩
        exact ⟨_, rfl, k l ms G s1 nl h1 (by rw [hl, Int.toNat_natCast])⟩
def spLb : Sp := fun vs H Q _ => ∃ (lx : Addr) (ms : List Int), vs = [.ref lx] ∧ H lx = some (.lst (ms.map V.int)) ∧ 1 ≤ ms.length ∧ ∀ (b : Int) (ms' : List Int) (H' : Hp), 0 ≤ b → b ≤ 7 → Same (del H lx) (del H' lx) → H' lx = some (.lst (ms'.map V.int)) → ms'.length + 1 = ms.length → Q (.int b) H'
theorem scLb : FnScope ["_law_xs"] ["_law_xs"] (defScope s_law_box) := ⟨rfl, rfl, rfl, by decide +kernel, rfl, by decide +kernel, by decide +kernel⟩
theorem ok_law_box {f : Addr} {fd : FuncData} (F : Fun K "_law_box" "_law_box" s_law_box f fd) (T : Txt K w.params mg)  : FnOk P w K mg base CX0 1 f fd ["_law_xs"] spLb := by
  refine F.ok scLb (fun vs H Q E h => ?_) (fun cdv A outer s H vs Q E hr h => ?_)
  · obtain ⟨lx, ms, rfl, _⟩ := h
    rfl
  · obtain ⟨lx, ms, rfl, hx, h1, k⟩ := h
    refine wrapX (pssx_one (psx_of (ps_ret (pe_ix ix_list (pe_lstS (.cons pe_int (.cons pe_int (.cons pe_int (.cons pe_int (.cons pe_int (.cons pe_int (.cons pe_int (.cons pe_int .nil))))))))) (pe_op op_mod (pe_op op_fdivB (pe_bm0 PySem.F.plainAttrs_list PySem.F.slot_list_pop PySem.F.type_list_pop mt_pop (pv 0)) pe_int) pe_int) (fun _ _ => rfl))))) ?_
    refine ret_seq ?_
    refine lst_goN (ta := tAll _) (ds := [.int 0, .int 0, .int 1, .int 1, .int 2, .int 2, .int 3, .int 7]) ?_ fun l ys G t nl hl hys => ?_
    · exact ha_cons ht_int (ha_cons ht_int (ha_cons ht_int (ha_cons ht_int (ha_cons ht_int (ha_cons ht_int (ha_cons ht_int (ha_cons ht_int ha_nil)))))))
    have hyl : ys.length = 8 := hys.len
    obtain ⟨x, ms', e1, e2, e3⟩ := pop_go h1
    have hxG := t _ _ hx
    refine ⟨_, rfl, .inl ⟨rfl, _, SqL.of hxG⟩, lx, _, _, rfl, rfl, hxG, e1, ?_⟩
    rw [e2]
    have hne : l ≠ lx := fun z => by rw [z, hx] at nl; cases nl
    have hmod : 0 ≤ x / 3 % 8 ∧ x / 3 % 8 < 8 := ⟨Int.emod_nonneg _ (by decide), Int.emod_lt_of_pos _ (by decide)⟩
    obtain ⟨c, hc⟩ := Int.eq_ofNat_of_zero_le hmod.1
    have hcl : c < 8 := by omega
    have hyc : ys[c]? = some (ys[c]'(by omega)) := List.getElem?_eq_getElem _
    generalize (ys[c]'(by omega)) = y at hyc
    obtain ⟨b, rfl, hb⟩ : ∃ b : Int, y = .int b ∧ 0 ≤ b ∧ b ≤ 7 := by
      match c, hcl, hyc with
      | 0, _, hyc => have := hys.get 0 _ _ hyc rfl; cases this; exact ⟨_, rfl, by decide, by decide⟩
      | 1, _, hyc => have := hys.get 1 _ _ hyc rfl; cases this; exact ⟨_, rfl, by decide, by decide⟩
      | 2, _, hyc => have := hys.get 2 _ _ hyc rfl; cases this; exact ⟨_, rfl, by decide, by decide⟩
      | 3, _, hyc => have := hys.get 3 _ _ hyc rfl; cases this; exact ⟨_, rfl, by decide, by decide⟩
      | 4, _, hyc => have := hys.get 4 _ _ hyc rfl; cases this; exact ⟨_, rfl, by decide, by decide⟩
      | 5, _, hyc => have := hys.get 5 _ _ hyc rfl; cases this; exact ⟨_, rfl, by decide, by decide⟩
      | 6, _, hyc => have := hys.get 6 _ _ hyc rfl; cases this; exact ⟨_, rfl, by decide, by decide⟩
      | 7, _, hyc => have := hys.get 7 _ _ hyc rfl; cases this; exact ⟨_, rfl, by decide, by decide⟩
    refine ⟨_, _, rfl, rfl, ⟨by show (0 : Int) < 3; decide, by show (3 : Int) < _; decide⟩, _, _, rfl, rfl, (by show (0 : Int) < 8; decide), l, _, _, .int b, rfl, rfl, SqL.of ((upd_ne hne).trans hl), ?_, ?_⟩
    · show atI ys (x / 3 % 8) = _
      rw [hc]
      exact atI_nat hyc
    · exact k b ms' _ hb.1 hb.2 ((same_del t).trans del_put) upd_same e3
end
end My


namespace My
open PySem L2
theorem pei_op {X : Cx} {op : Operator} {a b : Expr} {ta tb : TE} {r : R2} {pos : Pos} (ho : OpR X (binaryOp op) r) (ha : PE X a ta) (hb : PEi X b tb) : PEi X (.BinOp a op b pos) (tOp r ta tb) := by
  unfold PEi at hb ⊢
  exact pe_op ho ha hb
theorem ha_strs {σ : St} {H : Hp} : ∀ ss : List Str, HA (tAll (ss.map fun s => tC (.str s))) σ H (ss.map Da.str)
  | [] => ha_nil
  | _ :: ss => ha_cons ht_str (ha_strs ss)
theorem strs_inv {H : Hp} : ∀ {ss : List Str} {xs : List V}, HDs H xs (ss.map Da.str) → xs = ss.map V.str
  | [], xs, h => h.nil_inv
  | s :: ss, xs, h => by
    obtain ⟨x, r, rfl, hx, hr⟩ := h.cons_inv
    cases hx
    rw [strs_inv hr]
    rfl
theorem modN (a : Int) {n : Nat} (h : 0 < n) : ∃ k : Nat, a % (n : Int) = (k : Int) ∧ k < n := by
  have h1 := Int.emod_nonneg a (show (n : Int) ≠ 0 by omega)
  have h2 := Int.emod_lt_of_pos a (show (0 : Int) < n by omega)
  obtain ⟨k, hk⟩ := Int.eq_ofNat_of_zero_le h1
  exact ⟨k, hk, by omega⟩
theorem pe_bm0K {X : Cx} {K : PySem.W.Frag} {T : String} {name : Str} {id : String} {r : V → List V → Hp → VK → Prop} {o : Expr} {to : TE} {apos cpos : Pos} (pa : PlainAttrs T) (slot : Slot T name id) (hty : typeOf (.builtin id) = pure (.type "method_descriptor")) (hm : MtR X id r) (ho : PE X o to)
    (hbase : attributeBase o name X.env (eval o X.env) = eval o X.env := by rfl) (hline : (apos.endLine == cpos.line) = true := by rfl) (hK : X.K = K := by rfl) : PE X (.Call (.Attribute o name apos) [] [] cpos) (tBM0 K T r to) := by
  subst hK
  exact pe_bm0 pa slot hty hm ho hbase hline
theorem bt_abs : bootBuiltins "abs" = some (.builtin "abs") := by decide +kernel
theorem in_strs (u : Str) : ∀ ss : List Str, inV (.str u) (ss.map V.str) = decide (u ∈ ss)
  | [] => rfl
  | s :: ss => by
    have ih := in_strs u ss
    unfold inV at ih ⊢
    rw [List.map_cons, List.any_cons, ih]
    show ((s == u) || _) = _
    by_cases c : s = u
    · subst c; simp
    · have : ¬ u = s := fun z => c z.symm
      simp [c, this]
theorem ints_hd {H : Hp} : ∀ ns : List Int, HDs H (ns.map V.int) (ns.map Da.int)
  | [] => .nil
  | n :: ns => .cons (.int n) (ints_hd ns)
def wrd1 : List Str := ["set", "set", "more", "more", "copy", "add", "less", "load", "keep", "tell", "tell", "put", "take", "see"]
def wrd2 : List Str := ["jump", "zero", "zero", "below", "below", "call", "call", "mark", "table", "back", "stop", "halt"]
theorem wrd_len : (wrd1 ++ wrd2).length = 26 := by decide +kernel
theorem wrd_all : ∀ u ∈ wrd1 ++ wrd2, u ∈ (["set", "more"] : List Str) ∨ u ∈ (["copy", "add", "less", "load", "keep"] : List Str) ∨ u ∈ (["put", "take", "see"] : List Str) ∨ u = "tell" ∨ u ∈ (["jump", "call", "mark"] : List Str) ∨ u ∈ (["zero", "below"] : List Str) ∨ u = "table" ∨ u = "halt" ∨ u ∈ (["back", "stop"] : List Str) := by decide +kernel
inductive Nt : Da → Prop
  | int (i : Int) : Nt (.int i)
  | str (s : Str) : Nt (.str s)
  | tup {ds : List Da} (h : ∀ d ∈ ds, Nt d) : Nt (.tup ds)
/-- a good row of a program of n rows -/
structure GR (n : Nat) (d : Da) : Prop where
  row : rowB d = true
  tg : ∀ t ∈ tgD d, 0 ≤ t ∧ t < (n : Int)
  nt : Nt d
theorem part_num {k : Str} {n : Int} (h : k ≠ "targets") (a : (bdK k).1 ≤ n) (b : n ≤ (bdK k).2) : partR k (.int n) = true := by
  unfold partR
  rw [if_neg h]
  exact decide_eq_true ⟨a, b⟩
theorem row_of {u : Str} {ks : List Str} {ps : List Da} (h : prt.lookup u = some ks) (hl : ps.length = ks.length) (ha : ∀ x ∈ ks.zip ps, partR x.1 x.2 = true) : rowB (.tup (.str u :: ps)) = true := by
  show (match prt.lookup u with | some ks => partsR ks ps | none => false) = true
  rw [h]
  show (decide (ps.length = ks.length) && (ks.zip ps).all fun x => partR x.1 x.2) = true
  rw [decide_eq_true hl, Bool.true_and, List.all_eq_true]
  exact ha
theorem box_ok {b : Int} (h : 0 ≤ b ∧ b ≤ 7) : partR "box" (.int b) = true := part_num (by decide) (by rw [show bdK "box" = ((0 : Int), (7 : Int)) by decide +kernel]; exact h.1) (by rw [show bdK "box" = ((0 : Int), (7 : Int)) by decide +kernel]; exact h.2)
theorem far_ok {b : Int} (h : 0 ≤ b ∧ b ≤ 1) : partR "far" (.int b) = true := part_num (by decide) (by rw [show bdK "far" = ((0 : Int), (1 : Int)) by decide +kernel]; exact h.1) (by rw [show bdK "far" = ((0 : Int), (1 : Int)) by decide +kernel]; exact h.2)
theorem tgt_ok {b : Int} (h : 0 ≤ b ∧ b < 1000) : partR "target" (.int b) = true := part_num (by decide) (by rw [show bdK "target" = ((0 : Int), (1000000000 : Int)) by decide +kernel]; exact h.1) (by rw [show bdK "target" = ((0 : Int), (1000000000 : Int)) by decide +kernel]; show b ≤ 1000000000; omega)
theorem sml_ok {k : Str} (hk : k ∈ (["number", "aside", "value"] : List Str)) {b : Int} (h : (0 ≤ b ∨ k = "value") ∧ -3 ≤ b ∧ b ≤ 3) : partR k (.int b) = true := by
  rcases List.mem_cons.mp hk with rfl | hk
  · exact part_num (by decide) (by rw [show bdK "number" = ((0 : Int), (1000000 : Int)) by decide +kernel]; rcases h.1 with z | z; exact z; exact absurd z (by decide)) (by rw [show bdK "number" = ((0 : Int), (1000000 : Int)) by decide +kernel]; show b ≤ 1000000; omega)
  rcases List.mem_cons.mp hk with rfl | hk
  · exact part_num (by decide) (by rw [show bdK "aside" = ((0 : Int), (1000000 : Int)) by decide +kernel]; rcases h.1 with z | z; exact z; exact absurd z (by decide)) (by rw [show bdK "aside" = ((0 : Int), (1000000 : Int)) by decide +kernel]; show b ≤ 1000000; omega)
  · rw [List.mem_singleton.mp hk]
    exact part_num (by decide) (by rw [show bdK "value" = ((-1000000000 : Int), (1000000000 : Int)) by decide +kernel]; show -1000000000 ≤ b; omega) (by rw [show bdK "value" = ((-1000000000 : Int), (1000000000 : Int)) by decide +kernel]; show b ≤ 1000000000; omega)
theorem tg_no {u : Str} {ps : List Da} (h : u ≠ "table" ∧ u ∉ jcm ∧ u ∉ zb) : tgD (.tup (.str u :: ps)) = [] := by
  show (if u = "table" then _ else if u ∈ jcm then _ else if u ∈ zb then _ else []) = _
  rw [if_neg h.1, if_neg h.2.1, if_neg h.2.2]
theorem nt_ints {u : Str} (is : List Int) : Nt (.tup (.str u :: is.map Da.int)) := .tup fun d hd => by
  rcases List.mem_cons.mp hd with rfl | hd
  · exact .str _
  · obtain ⟨n, _, rfl⟩ := List.mem_map.mp hd
    exact .int n
section
variable {n : Nat} {u : Str} {b c t : Int}
theorem gr_A (h : u ∈ (["set", "more"] : List Str)) (hb : 0 ≤ b ∧ b ≤ 7) (hc : -3 ≤ c ∧ c ≤ 3) : GR n (.tup [.str u, .int b, .int c]) := by
  refine ⟨row_of ((by decide +kernel : ∀ u ∈ (["set", "more"] : List Str), prt.lookup u = some (["box", "value"] : List Str)) u h) rfl ?_, ?_, nt_ints [b, c]⟩
  · intro x hx
    rcases List.mem_cons.mp hx with rfl | hx
    · exact box_ok hb
    · rw [List.mem_singleton.mp hx]; exact sml_ok (k := "value") (by decide +kernel) ⟨.inr rfl, hc⟩
  · rw [tg_no ((by decide +kernel : ∀ u ∈ (["set", "more"] : List Str), u ≠ "table" ∧ u ∉ jcm ∧ u ∉ zb) u h)]
    intro t ht; cases ht
theorem gr_B (h : u ∈ (["copy", "add", "less", "load", "keep"] : List Str)) (hb : 0 ≤ b ∧ b ≤ 7) (hc : 0 ≤ c ∧ c ≤ 7) : GR n (.tup [.str u, .int b, .int c]) := by
  refine ⟨row_of ((by decide +kernel : ∀ u ∈ (["copy", "add", "less", "load", "keep"] : List Str), prt.lookup u = some (["box", "box"] : List Str)) u h) rfl ?_, ?_, nt_ints [b, c]⟩
  · intro x hx
    rcases List.mem_cons.mp hx with rfl | hx
    · exact box_ok hb
    · rw [List.mem_singleton.mp hx]; exact box_ok hc
  · rw [tg_no ((by decide +kernel : ∀ u ∈ (["copy", "add", "less", "load", "keep"] : List Str), u ≠ "table" ∧ u ∉ jcm ∧ u ∉ zb) u h)]
    intro t ht; cases ht
theorem gr_C (h : u ∈ (["put", "take", "see"] : List Str)) (hb : 0 ≤ b ∧ b ≤ 7) (hc : 0 ≤ c ∧ c ≤ 3) : GR n (.tup [.str u, .int b, .int c]) := by
  have hl := (by decide +kernel : ∀ u ∈ (["put", "take", "see"] : List Str), (prt.lookup u = some (["box", "aside"] : List Str)) ∨ prt.lookup u = some (["box", "number"] : List Str)) u h
  have tg : ∀ t ∈ tgD (.tup [.str u, .int b, .int c]), 0 ≤ t ∧ t < (n : Int) := by
    rw [tg_no ((by decide +kernel : ∀ u ∈ (["put", "take", "see"] : List Str), u ≠ "table" ∧ u ∉ jcm ∧ u ∉ zb) u h)]
    intro t ht; cases ht
  rcases hl with hl | hl
  · refine ⟨row_of hl rfl ?_, tg, nt_ints [b, c]⟩
    intro x hx
    rcases List.mem_cons.mp hx with rfl | hx
    · exact box_ok hb
    · rw [List.mem_singleton.mp hx]; exact sml_ok (k := "aside") (by decide +kernel) ⟨.inl hc.1, by omega, hc.2⟩
  · refine ⟨row_of hl rfl ?_, tg, nt_ints [b, c]⟩
    intro x hx
    rcases List.mem_cons.mp hx with rfl | hx
    · exact box_ok hb
    · rw [List.mem_singleton.mp hx]; exact sml_ok (k := "number") (by decide +kernel) ⟨.inl hc.1, by omega, hc.2⟩
theorem gr_tell (hb : 0 ≤ b ∧ b ≤ 7) : GR n (.tup [.str "tell", .int b]) := by
  refine ⟨row_of (by decide +kernel : prt.lookup ("tell" : Str) = some (["box"] : List Str)) rfl ?_, ?_, nt_ints [b]⟩
  · intro x hx
    rw [List.mem_singleton.mp hx]; exact box_ok hb
  · rw [tg_no (by decide +kernel)]
    intro t ht; cases ht
theorem gr_halt (hc : 0 ≤ c ∧ c ≤ 3) : GR n (.tup [.str "halt", .int c]) := by
  refine ⟨row_of (by decide +kernel : prt.lookup ("halt" : Str) = some (["number"] : List Str)) rfl ?_, ?_, nt_ints [c]⟩
  · intro x hx
    rw [List.mem_singleton.mp hx]; exact sml_ok (k := "number") (by decide +kernel) ⟨.inl hc.1, by omega, hc.2⟩
  · rw [tg_no (by decide +kernel)]
    intro t ht; cases ht
theorem gr_Z (h : u ∈ (["back", "stop"] : List Str)) : GR n (.tup [.str u]) := by
  refine ⟨row_of ((by decide +kernel : ∀ u ∈ (["back", "stop"] : List Str), prt.lookup u = some ([] : List Str)) u h) rfl ?_, ?_, nt_ints []⟩
  · intro x hx; cases hx
  · rw [tg_no ((by decide +kernel : ∀ u ∈ (["back", "stop"] : List Str), u ≠ "table" ∧ u ∉ jcm ∧ u ∉ zb) u h)]
    intro t ht; cases ht
theorem gr_D (h : u ∈ (["jump", "call", "mark"] : List Str)) (hn : n ≤ 1000) (ht : 0 ≤ t ∧ t < (n : Int)) (hc : 0 ≤ c ∧ c ≤ 1) : GR n (.tup [.str u, .int t, .int c]) := by
  refine ⟨row_of ((by decide +kernel : ∀ u ∈ (["jump", "call", "mark"] : List Str), prt.lookup u = some (["target", "far"] : List Str)) u h) rfl ?_, ?_, nt_ints [t, c]⟩
  · intro x hx
    rcases List.mem_cons.mp hx with rfl | hx
    · exact tgt_ok ⟨ht.1, by omega⟩
    · rw [List.mem_singleton.mp hx]; exact far_ok hc
  · have h2 := (by decide +kernel : ∀ u ∈ (["jump", "call", "mark"] : List Str), u ≠ "table" ∧ u ∈ jcm) u h
    intro x hx
    have hx : x ∈ (if u = "table" then [] else if u ∈ jcm then [t] else _) := hx
    rw [if_neg h2.1, if_pos h2.2] at hx
    rw [List.mem_singleton.mp hx]
    exact ht
theorem gr_E (h : u ∈ (["zero", "below"] : List Str)) (hn : n ≤ 1000) (hb : 0 ≤ b ∧ b ≤ 7) (ht : 0 ≤ t ∧ t < (n : Int)) (hc : 0 ≤ c ∧ c ≤ 1) : GR n (.tup [.str u, .int b, .int t, .int c]) := by
  refine ⟨row_of ((by decide +kernel : ∀ u ∈ (["zero", "below"] : List Str), prt.lookup u = some (["box", "target", "far"] : List Str)) u h) rfl ?_, ?_, nt_ints [b, t, c]⟩
  · intro x hx
    rcases List.mem_cons.mp hx with rfl | hx
    · exact box_ok hb
    rcases List.mem_cons.mp hx with rfl | hx
    · exact tgt_ok ⟨ht.1, by omega⟩
    · rw [List.mem_singleton.mp hx]; exact far_ok hc
  · have h2 := (by decide +kernel : ∀ u ∈ (["zero", "below"] : List Str), u ≠ "table" ∧ u ∉ jcm ∧ u ∈ zb) u h
    intro x hx
    have hx : x ∈ (if u = "table" then [] else if u ∈ jcm then [] else if u ∈ zb then [t] else _) := hx
    rw [if_neg h2.1, if_neg h2.2.1, if_pos h2.2.2] at hx
    rw [List.mem_singleton.mp hx]
    exact ht
theorem gr_T (hn : n ≤ 1000) (hb : 0 ≤ b ∧ b ≤ 7) {ts : List Int} (hl : 1 ≤ ts.length ∧ ts.length ≤ 16) (ht : ∀ t ∈ ts, 0 ≤ t ∧ t < (n : Int)) : GR n (.tup [.str "table", .int b, .tup (ts.map Da.int)]) := by
  refine ⟨row_of (by decide +kernel : prt.lookup ("table" : Str) = some (["box", "targets"] : List Str)) rfl ?_, ?_, ?_⟩
  · intro x hx
    rcases List.mem_cons.mp hx with rfl | hx
    · exact box_ok hb
    · rw [List.mem_singleton.mp hx]
      show (if ("targets" : Str) = "targets" then tgsD (.tup (ts.map Da.int)) else _) = true
      rw [if_pos rfl]
      show (decide (1 ≤ (ts.map Da.int).length ∧ (ts.map Da.int).length ≤ 16) && (ts.map Da.int).all (numD 0 1000000000)) = true
      rw [List.length_map, decide_eq_true hl, Bool.true_and, List.all_eq_true]
      intro d hd
      obtain ⟨t, h, rfl⟩ := List.mem_map.mp hd
      have := ht t h
      exact decide_eq_true ⟨this.1, by omega⟩
  · intro x hx
    have e0 : tgD (.tup [.str "table", .int b, .tup (ts.map Da.int)]) = intsD (ts.map Da.int) := by
      simp [tgD]
    rw [e0] at hx
    have e : intsD (ts.map Da.int) = ts := by
      clear hx hl ht e0
      induction ts with
      | nil => rfl
      | cons a r ih => show a :: intsD (r.map Da.int) = _; rw [ih]
    rw [e] at hx
    exact ht x hx
  · refine .tup fun d hd => ?_
    rcases List.mem_cons.mp hd with rfl | hd
    · exact .str _
    rcases List.mem_cons.mp hd with rfl | hd
    · exact .int _
    · rw [List.mem_singleton.mp hd]
      exact .tup fun d hd => by
        obtain ⟨n, _, rfl⟩ := List.mem_map.mp hd
        exact .int n
end
section
variable {P : Program} {w : World} {K : PySem.W.Frag} {mg : Str → Option Value} {base : Heap}
def spLr : Sp := fun vs H Q _ => ∃ (lx : Addr) (ms : List Int) (n : Nat), vs = [.ref lx, .int (n : Int)] ∧ H lx = some (.lst (ms.map V.int)) ∧ 9 ≤ ms.length ∧ 1 ≤ n ∧ n ≤ 1000 ∧ ∀ (v : V) (d : Da) (ms' : List Int) (H' : Hp), Same (del H lx) (del H' lx) → H' lx = some (.lst (ms'.map V.int)) → ms.length ≤ ms'.length + 9 → HD (del H' lx) v d → GR n d → Q v H'
theorem scLr : FnScope ["_law_xs", "_law_n", "_law_words", "_law_word", "_law_box_here", "_law_target", "_law_number", "_law_far"] ["_law_xs", "_law_n"] (defScope s_law_row) := ⟨rfl, rfl, rfl, by decide +kernel, rfl, by decide +kernel, by decide +kernel⟩
def csLrC1 : Scope := { kind := .function, names := [(".0", .local), ("_law_k", .local), ("_law_n", .free), ("_law_xs", .free)], isGenerator := false, isCoroutine := false, more := [] }
theorem scLrC1 : CompSc (defScope s_law_row) csLrC1 ["_law_xs", "_law_n", "_law_words", "_law_word", "_law_box_here", "_law_target", "_law_number", "_law_far"] ["_law_k", "_law_n", "_law_xs"] [none, some 1, some 0] := ⟨rfl, by decide +kernel, by decide +kernel, by decide +kernel, by decide +kernel, by decide +kernel⟩
theorem ok_law_row {f fB : Addr} {fd fdB : FuncData} (F : Fun K "_law_row" "_law_row" s_law_row f fd) (T : Txt K w.params mg) (GB : FnOk P w K mg base CX0 1 fB fdB ["_law_xs"] spLb) (kB : PySem.W.keepIn K (.ref fB) = true) (bB : Binds K fdB ["_law_xs"] []) (mB : mg "_law_box" = some (.ref fB)) : FnOk P w K mg base CX0 2 f fd ["_law_xs", "_law_n"] spLr := by
  refine F.ok scLr (fun vs H Q E h => ?_) (fun cdv A outer s H vs Q E hr h => ?_)
  · obtain ⟨lx, ms, n, rfl, _⟩ := h
    rfl
  · obtain ⟨lx, ms, n, rfl, hx, h9, hn1, hn, k⟩ := h
    refine wrapX (pssx_cons (psx_of_i (psi_set (i := 2) scLr.nd rfl (Or.inl rfl) (pei_lst (.cons pe_str (.cons pe_str (.cons pe_str (.cons pe_str (.cons pe_str (.cons pe_str (.cons pe_str (.cons pe_str (.cons pe_str (.cons pe_str (.cons pe_str (.cons pe_str (.cons pe_str (.cons pe_str .nil)))))))))))))))))
      (pssx_cons (psx_of_i (psi_set (i := 2) scLr.nd rfl (Or.inl rfl) (pei_op op_cat (pv 2) (pei_lst (.cons pe_str (.cons pe_str (.cons pe_str (.cons pe_str (.cons pe_str (.cons pe_str (.cons pe_str (.cons pe_str (.cons pe_str (.cons pe_str (.cons pe_str (.cons pe_str .nil))))))))))))))))
      (pssx_cons (psx_of (ps_set (i := 3) scLr.nd rfl (Or.inl rfl) (pe_ix ix_list (pv 2) (pe_op op_mod (pe_op op_fdivB (pe_bm0 PySem.F.plainAttrs_list PySem.F.slot_list_pop PySem.F.type_list_pop mt_pop (pv 0)) pe_int) (pe_callB call_len_seq (by rfl) T.len bt_len (pa_cons (pv 2) pa_nil))) (fun _ _ => rfl))))
      (pssx_cons (psx_of (ps_set (i := 4) scLr.nd rfl (Or.inl rfl) (pe_call GB hr (by rfl) mB kB bB .nil pass0 (pa_cons (pv 0) pa_nil))))
      (pssx_cons (psx_of (ps_set (i := 5) scLr.nd rfl (Or.inl rfl) (pe_op op_mod (pe_op op_fdivB (pe_bm0 PySem.F.plainAttrs_list PySem.F.slot_list_pop PySem.F.type_list_pop mt_pop (pv 0)) pe_int) (pv 1))))
      (pssx_cons (psx_of (ps_set (i := 6) scLr.nd rfl (Or.inl rfl) (pe_op op_sub (pe_op op_mod (pe_op op_fdivB (pe_bm0 PySem.F.plainAttrs_list PySem.F.slot_list_pop PySem.F.type_list_pop mt_pop (pv 0)) pe_int) pe_int) pe_int)))
      (pssx_cons (psx_of (ps_set (i := 7) scLr.nd rfl (Or.inl rfl) (pe_op op_fdivB (pe_op op_mod (pe_op op_fdivB (pe_bm0 PySem.F.plainAttrs_list PySem.F.slot_list_pop PySem.F.type_list_pop mt_pop (pv 0)) pe_int) pe_int) pe_int)))
      (pssx_cons (psx_if (pt_cmpR op_in_seq (pv 3) (pe_tup (pa_cons pe_str (pa_cons pe_str pa_nil))) rfl) (pssx_one (psx_of (ps_ret (pe_tup (pa_cons (pv 3) (pa_cons (pv 4) (pa_cons (pv 6) pa_nil))))))) (pssx_nil pss_nil))
      (pssx_cons (psx_if (pt_cmpR op_in_seq (pv 3) (pe_tup (pa_cons pe_str (pa_cons pe_str (pa_cons pe_str (pa_cons pe_str (pa_cons pe_str pa_nil)))))) rfl) (pssx_one (psx_of (ps_ret (pe_tup (pa_cons (pv 3) (pa_cons (pv 4) (pa_cons (pe_call GB hr (by rfl) mB kB bB .nil pass0 (pa_cons (pv 0) pa_nil)) pa_nil))))))) (pssx_nil pss_nil))
      (pssx_cons (psx_if (pt_cmpR op_in_seq (pv 3) (pe_tup (pa_cons pe_str (pa_cons pe_str (pa_cons pe_str pa_nil)))) rfl) (pssx_one (psx_of (ps_ret (pe_tup (pa_cons (pv 3) (pa_cons (pv 4) (pa_cons (pe_callB call_abs (by rfl) T.abs bt_abs (pa_cons (pv 6) pa_nil)) pa_nil))))))) (pssx_nil pss_nil))
      (pssx_cons (psx_if (pt_cmpR op_eq (pv 3) pe_str (nomark _)) (pssx_one (psx_of (ps_ret (pe_tup (pa_cons (pv 3) (pa_cons (pv 4) pa_nil)))))) (pssx_nil pss_nil))
      (pssx_cons (psx_if (pt_cmpR op_in_seq (pv 3) (pe_tup (pa_cons pe_str (pa_cons pe_str (pa_cons pe_str pa_nil)))) rfl) (pssx_one (psx_of (ps_ret (pe_tup (pa_cons (pv 3) (pa_cons (pv 5) (pa_cons (pv 7) pa_nil))))))) (pssx_nil pss_nil))
      (pssx_cons (psx_if (pt_cmpR op_in_seq (pv 3) (pe_tup (pa_cons pe_str (pa_cons pe_str pa_nil))) rfl) (pssx_one (psx_of (ps_ret (pe_tup (pa_cons (pv 3) (pa_cons (pv 4) (pa_cons (pv 5) (pa_cons (pv 7) pa_nil)))))))) (pssx_nil pss_nil))
      (pssx_cons (psx_if (pt_cmpR op_eq (pv 3) pe_str (nomark _)) (pssx_one (psx_of (ps_ret (pe_tup (pa_cons (pv 3) (pa_cons (pv 4) (pa_cons (pe_callTy call_tuple_of (by rfl) T.tuple bt_tuple (pa_cons (pe_comp (N' := ["_law_k", "_law_n", "_law_xs"]) (fr := [none, some 1, some 0]) scLrC1 rfl (pi_range1 rfl T.range (pa_cons (pe_op op_add pe_int (pe_callB call_abs (by rfl) T.abs bt_abs (pa_cons (pv 6) pa_nil))) pa_nil)) (fun C s0 H0 fp => (pg_name (i := 0) scLrC1.nd rfl (Or.inl rfl))) (fun C s0 H0 fp => pts_nil) (fun C s0 H0 fp => (pe_op op_mod (pe_op op_fdivB (pe_bm0K (K := K) PySem.F.plainAttrs_list PySem.F.slot_list_pop PySem.F.type_list_pop mt_pop (pv 2)) pe_int) (pv 1)))) pa_nil)) pa_nil))))))) (pssx_nil pss_nil))
      (pssx_cons (psx_if (pt_cmpR op_eq (pv 3) pe_str (nomark _)) (pssx_one (psx_of (ps_ret (pe_tup (pa_cons (pv 3) (pa_cons (pe_callB call_abs (by rfl) T.abs bt_abs (pa_cons (pv 6) pa_nil)) pa_nil)))))) (pssx_nil pss_nil))
      (pssx_one (psx_of (ps_ret (pe_tup (pa_cons (pv 3) pa_nil)))))))))))))))))))) ?_
    refine asg_seq (lst_goN (ds := wrd1.map Da.str) (ha_strs wrd1) fun l1 xs1 G1 t1 _ h1 hxs1 => ?_)
    obtain rfl := strs_inv hxs1
    show gName _ _ _ _ _
    first | refine set_next (asg_next ?_) | refine set_next (asg_seq ?_)
    refine ⟨_, rfl, ?_⟩
    refine lst_goN (ds := wrd2.map Da.str) (ha_strs wrd2) fun l2 xs2 G2 t2 _ h2 hxs2 => ?_
    obtain rfl := strs_inv hxs2
    refine ⟨l1, l2, _, _, rfl, rfl, t2 _ _ h1, h2, small_len (by rw [List.length_map, List.length_map]; decide), fun l3 n3 => ?_⟩
    rw [← List.map_append]
    have t3 := same_new (o := .lst ((wrd1 ++ wrd2).map V.str)) n3
    have h3 : upd G2 l3 (.lst ((wrd1 ++ wrd2).map V.str)) l3 = _ := upd_same
    have T3 := (t1.trans t2).trans t3
    have ne3 : l3 ≠ lx := fun z => by rw [z, t2 _ _ (t1 _ _ hx)] at n3; cases n3
    generalize upd G2 l3 (.lst ((wrd1 ++ wrd2).map V.str)) = G3 at t3 h3 T3 ⊢
    have hwl := wrd_len
    have hwa := wrd_all
    generalize wrd1 ++ wrd2 = ws at h3 hwl hwa
    have hx3 := T3 _ _ hx
    have S := same_del (l := lx) T3
    clear t1 t2 t3 T3
    -- the word
    obtain ⟨a1, m1, p1, q1, r1⟩ := pop_go (ms := ms) (by omega)
    obtain ⟨c, hc, hcl⟩ := modN (a1 / 3) (n := ws.length) (by omega)
    have hwc : ws[c]? = some ws[c] := List.getElem?_eq_getElem hcl
    have hwm : ws[c] ∈ ws := List.getElem_mem _
    generalize ws[c] = u at hwc hwm
    have h33 : upd G3 lx (.lst (m1.map V.int)) l3 = _ := (upd_ne ne3).trans h3
    have hx4 : upd G3 lx (.lst (m1.map V.int)) lx = _ := upd_same
    have S := S.trans (del_put (o := .lst (m1.map V.int)))
    refine ⟨_, rfl, _, rfl, .inl ⟨rfl, _, SqL.of hx3⟩, lx, _, _, rfl, rfl, hx3, p1, ?_⟩
    rw [q1]
    generalize upd G3 lx (.lst (m1.map V.int)) = G4 at h33 hx4 S ⊢
    refine ⟨_, _, rfl, rfl, ⟨by show (0 : Int) < 3; decide, by show (3 : Int) < _; decide⟩, _, rfl, l3, _, rfl, .inl (SqL.of h33), _, _, rfl, rfl, (by show (0 : Int) < (((ws.map V.str).length : Nat) : Int); rw [List.length_map]; omega), l3, _, _, .str u, rfl, rfl, SqL.of h33, ?_, ?_⟩
    · show atI _ (a1 / 3 % (((ws.map V.str).length : Nat) : Int)) = _
      rw [List.length_map, hc]
      exact atI_nat (by rw [List.getElem?_map, hwc]; rfl)
    have hu := hwa u hwm
    clear hwa hwm hwc h33 h3 hx3
    -- the box, the target, the number, far
    refine ⟨_, rfl, lx, m1, rfl, hx4, by omega, fun b m2 G5 b1 b2 s5 hx5 r2 => ?_⟩
    have S := S.trans s5
    obtain ⟨a3, m3, p3, q3, r3⟩ := pop_go (ms := m2) (by omega)
    refine ⟨_, rfl, .inl ⟨rfl, _, SqL.of hx5⟩, lx, _, _, rfl, rfl, hx5, p3, ?_⟩
    rw [q3]
    have hx6 : upd G5 lx (.lst (m3.map V.int)) lx = _ := upd_same
    have S := S.trans (del_put (o := .lst (m3.map V.int)))
    generalize upd G5 lx (.lst (m3.map V.int)) = G6 at hx6 S ⊢
    refine ⟨_, _, rfl, rfl, ⟨by show (0 : Int) < 3; decide, by show (3 : Int) < _; decide⟩, _, rfl, _, _, rfl, rfl, (by show (0 : Int) < (n : Int); omega), ?_⟩
    have ht : 0 ≤ a3 / 3 % (n : Int) ∧ a3 / 3 % (n : Int) < (n : Int) := ⟨Int.emod_nonneg _ (by omega), Int.emod_lt_of_pos _ (by omega)⟩
    show gName _ (.int (a3 / 3 % (n : Int))) _ _ _
    generalize a3 / 3 % (n : Int) = tg at ht
    obtain ⟨a4, m4, p4, q4, r4⟩ := pop_go (ms := m3) (by omega)
    refine ⟨_, rfl, .inl ⟨rfl, _, SqL.of hx6⟩, lx, _, _, rfl, rfl, hx6, p4, ?_⟩
    rw [q4]
    have hx7 : upd G6 lx (.lst (m4.map V.int)) lx = _ := upd_same
    have S := S.trans (del_put (o := .lst (m4.map V.int)))
    generalize upd G6 lx (.lst (m4.map V.int)) = G7 at hx7 S ⊢
    refine ⟨_, _, rfl, rfl, ⟨by show (0 : Int) < 3; decide, by show (3 : Int) < _; decide⟩, _, _, rfl, rfl, (by show (0 : Int) < 7; decide), _, _, rfl, rfl, ?_⟩
    have hnb : -3 ≤ a4 / 3 % 7 - 3 ∧ a4 / 3 % 7 - 3 ≤ 3 := by omega
    show gName _ (.int (a4 / 3 % 7 - 3)) _ _ _
    generalize a4 / 3 % 7 - 3 = nb at hnb
    obtain ⟨a5, m5, p5, q5, r5⟩ := pop_go (ms := m4) (by omega)
    refine ⟨_, rfl, .inl ⟨rfl, _, SqL.of hx7⟩, lx, _, _, rfl, rfl, hx7, p5, ?_⟩
    rw [q5]
    have hx : upd G7 lx (.lst (m5.map V.int)) lx = _ := upd_same
    have S := S.trans (del_put (o := .lst (m5.map V.int)))
    generalize upd G7 lx (.lst (m5.map V.int)) = G at hx S ⊢
    refine ⟨_, _, rfl, rfl, ⟨by show (0 : Int) < 3; decide, by show (3 : Int) < _; decide⟩, _, _, rfl, rfl, (by show (0 : Int) < 4; decide), _, _, rfl, rfl, ⟨by show (0 : Int) < 3; decide, by show (3 : Int) < _; decide⟩, ?_⟩
    have hfr : 0 ≤ a5 / 3 % 4 / 3 ∧ a5 / 3 % 4 / 3 ≤ 1 := by omega
    show gName _ (.int (a5 / 3 % 4 / 3)) _ _ _
    generalize a5 / 3 % 4 / 3 = fr at hfr
    have hab : 0 ≤ (if nb < 0 then -nb else nb) ∧ (if nb < 0 then -nb else nb) ≤ 3 := by split <;> omega
    clear p1 q1 p3 q3 p4 q4 p5 q5 hx4 hx5 hx6 hx7 s5
    have step : ∀ (ss : List Str), ((if false = true then !inV (.str u) (ss.map V.str) else inV (.str u) (ss.map V.str)) = true) ↔ u ∈ ss := fun ss => by
      rw [if_neg (by decide), in_strs]
      exact decide_eq_true_iff
    refine ⟨_, rfl, Nat.le_of_ble_eq_true rfl, fun t1 n1 => ⟨t1, (["set", "more"] : List Str).map V.str, rfl, .inr (SqT.of upd_same), rfl, rfl, _, rfl, ?_⟩⟩
    have v1 := same_new (o := .tup [V.str "set", V.str "more"]) n1
    have S := S.trans (same_del (l := lx) v1)
    have hx := v1 _ _ hx
    clear v1
    generalize upd G t1 (.tup [V.str "set", V.str "more"]) = G at S hx ⊢
    refine ite2 (fun e => ?_) (fun e1 => ?_)
    rotate_left
    refine ⟨_, rfl, Nat.le_of_ble_eq_true rfl, fun t2 n2 => ⟨t2, (["copy", "add", "less", "load", "keep"] : List Str).map V.str, rfl, .inr (SqT.of upd_same), rfl, rfl, _, rfl, ?_⟩⟩
    have v2 := same_new (o := .tup [V.str "copy", V.str "add", V.str "less", V.str "load", V.str "keep"]) n2
    have S := S.trans (same_del (l := lx) v2)
    have hx := v2 _ _ hx
    clear v2
    generalize upd G t2 (.tup [V.str "copy", V.str "add", V.str "less", V.str "load", V.str "keep"]) = G at S hx ⊢
    refine ite2 (fun e => ?_) (fun e2 => ?_)
    rotate_left
    refine ⟨_, rfl, Nat.le_of_ble_eq_true rfl, fun t3 n3 => ⟨t3, (["put", "take", "see"] : List Str).map V.str, rfl, .inr (SqT.of upd_same), rfl, rfl, _, rfl, ?_⟩⟩
    have v3 := same_new (o := .tup [V.str "put", V.str "take", V.str "see"]) n3
    have S := S.trans (same_del (l := lx) v3)
    have hx := v3 _ _ hx
    clear v3
    generalize upd G t3 (.tup [V.str "put", V.str "take", V.str "see"]) = G at S hx ⊢
    refine ite2 (fun e => ?_) (fun e3 => ?_)
    rotate_left
    refine ⟨_, rfl, rfl, _, rfl, ?_⟩
    by_cases c4 : u = "tell"
    · subst c4
      refine iteP rfl ?_
      refine ⟨_, rfl, _, rfl, Nat.le_of_ble_eq_true rfl, fun tr ntr => ?_⟩
      have ne : tr ≠ lx := fun z => by rw [z, hx] at ntr; cases ntr
      exact k (.ref tr) (.tup [.str "tell", .int b]) m5 _ (Same.trans S (same_del (same_new ntr))) (same_new ntr _ _ hx) (by omega) (.tupS (del_upd ne) (.cons (.str _) (.cons (.int _) .nil))) (gr_tell ⟨b1, b2⟩)
    refine iteN (fun z => c4 (V.str.inj (of_decide_eq_true z))) ?_
    refine ⟨_, rfl, Nat.le_of_ble_eq_true rfl, fun t5 n5 => ⟨t5, (["jump", "call", "mark"] : List Str).map V.str, rfl, .inr (SqT.of upd_same), rfl, rfl, _, rfl, ?_⟩⟩
    have v5 := same_new (o := .tup [V.str "jump", V.str "call", V.str "mark"]) n5
    have S := S.trans (same_del (l := lx) v5)
    have hx := v5 _ _ hx
    clear v5
    generalize upd G t5 (.tup [V.str "jump", V.str "call", V.str "mark"]) = G at S hx ⊢
    refine ite2 (fun e => ?_) (fun e5 => ?_)
    rotate_left
    refine ⟨_, rfl, Nat.le_of_ble_eq_true rfl, fun t6 n6 => ⟨t6, (["zero", "below"] : List Str).map V.str, rfl, .inr (SqT.of upd_same), rfl, rfl, _, rfl, ?_⟩⟩
    have v6 := same_new (o := .tup [V.str "zero", V.str "below"]) n6
    have S := S.trans (same_del (l := lx) v6)
    have hx := v6 _ _ hx
    clear v6
    generalize upd G t6 (.tup [V.str "zero", V.str "below"]) = G at S hx ⊢
    refine ite2 (fun e => ?_) (fun e6 => ?_)
    rotate_left
    refine ⟨_, rfl, rfl, _, rfl, ?_⟩
    by_cases c7 : u = "table"
    · subst c7
      refine iteP rfl ?_
      refine ⟨_, rfl, _, rfl, _, rfl, nb, rfl, _, _, rfl, rfl, ?_⟩
      refine ⟨_, rfl, (by show -(2 ^ 62) ≤ 1 + (if nb < 0 then -nb else nb); omega), (by show 1 + (if nb < 0 then -nb else nb) < 2 ^ 62; omega), fun D nD => ?_⟩
      have neD : D ≠ lx := fun z => by rw [z, hx] at nD; cases nD
      have nDd : del G lx D = none := by rw [del_ne neD]; exact nD
      refine comp_range (lo := 0) (n := (1 + (if nb < 0 then -nb else nb)).toNat) (fun i σ ys G' => ∃ (v : Option V) (ts m6 : List Int), σ = [v, some (.int (n : Int)), some (.ref lx)] ∧ ys = ts.map V.int ∧ ts.length = i ∧ (∀ t ∈ ts, 0 ≤ t ∧ t < (n : Int)) ∧ Same (del G lx) (del G' lx) ∧ G' lx = some (.lst (m6.map V.int)) ∧ m6.length + i = m5.length ∧ G' D = some (.lst ys)) ?_ ?_ ?_
      · exact ⟨none, [], m5, rfl, rfl, rfl, fun t ht => absurd ht List.not_mem_nil, same_del (same_new nD), same_new nD _ _ hx, rfl, upd_same⟩
      · rintro i σ ys G' hi ⟨v, ts, m6, rfl, rfl, htl, htb, s6, hx6, hm6, hD6⟩
        have hi4 : i < 4 := by omega
        obtain ⟨a6, m7, p6, q6, r6⟩ := pop_go (ms := m6) (by omega)
        refine ⟨_, rfl, .inl ⟨rfl, _, SqL.of hx6⟩, lx, _, _, rfl, rfl, hx6, p6, ?_⟩
        rw [q6]
        have s7 := s6.trans (del_put (o := .lst (m7.map V.int)))
        have hx7 : upd G' lx (.lst (m7.map V.int)) lx = _ := upd_same
        have hD7 : upd G' lx (.lst (m7.map V.int)) D = _ := (upd_ne neD).trans hD6
        generalize upd G' lx (.lst (m7.map V.int)) = G7 at s7 hx7 hD7 ⊢
        refine ⟨_, _, rfl, rfl, ⟨by show (0 : Int) < 3; decide, by show (3 : Int) < _; decide⟩, _, rfl, _, _, rfl, rfl, (by show (0 : Int) < (n : Int); omega), hD7, small_lt (by rw [List.length_map]; omega), ?_⟩
        refine ⟨_, ts ++ [a6 / 3 % (n : Int)], m7, rfl, by rw [List.map_append]; rfl, by rw [List.length_append, htl]; rfl, fun t ht => ?_, ?_, (upd_ne (Ne.symm neD)).trans hx7, by omega, upd_same⟩
        · rcases List.mem_append.mp ht with z | z
          · exact htb t z
          · rw [List.mem_singleton.mp z]
            exact ⟨Int.emod_nonneg _ (by omega), Int.emod_lt_of_pos _ (by omega)⟩
        · intro x o hxo
          have h1 := s7 x o hxo
          by_cases cx : x = lx
          · rw [cx, del_self] at h1; cases h1
          have cD : x ≠ D := fun z => by rw [z, nDd] at hxo; cases hxo
          rw [del_ne cx] at h1 ⊢
          rw [upd_ne cD]
          exact h1
      · rintro σ ys G' ⟨v, ts, m6, rfl, rfl, htl, htb, s6, hx6, hm6, hD6⟩
        refine ⟨D, _, rfl, .inl ⟨SqL.of hD6, fun tt ntt => ?_⟩⟩
        have w1 := same_new (o := .tup (ts.map V.int)) ntt
        have htt : upd G' tt (.tup (ts.map V.int)) tt = _ := upd_same
        have net : tt ≠ lx := fun z => by rw [z, hx6] at ntt; cases ntt
        have hx7 := w1 _ _ hx6
        have S7 := Same.trans S (s6.trans (same_del (l := lx) w1))
        generalize upd G' tt (.tup (ts.map V.int)) = G7 at htt hx7 S7 ⊢
        refine ⟨Nat.le_of_ble_eq_true rfl, fun tr ntr => ?_⟩
        have ne : tr ≠ lx := fun z => by rw [z, hx7] at ntr; cases ntr
        have hi16 : 1 ≤ ts.length ∧ ts.length ≤ 16 := by rw [htl]; omega
        exact k (.ref tr) (.tup [.str "table", .int b, .tup (ts.map Da.int)]) m6 _ (Same.trans S7 (same_del (same_new ntr))) (same_new ntr _ _ hx7) (by omega) (.tupS (del_upd ne) (.cons (.str _) (.cons (.int _) (.cons (.tupS (del_at (same_new ntr _ _ htt) net) (ints_hd ts)) .nil)))) (gr_T hn ⟨b1, b2⟩ hi16 htb)
    refine iteN (fun z => c7 (V.str.inj (of_decide_eq_true z))) ?_
    refine ⟨_, rfl, rfl, _, rfl, ?_⟩
    by_cases c8 : u = "halt"
    · subst c8
      refine iteP rfl ?_
      refine ⟨_, rfl, _, rfl, nb, rfl, Nat.le_of_ble_eq_true rfl, fun tr ntr => ?_⟩
      have ne : tr ≠ lx := fun z => by rw [z, hx] at ntr; cases ntr
      exact k (.ref tr) (.tup [.str "halt", .int (if nb < 0 then -nb else nb)]) m5 _ (Same.trans S (same_del (same_new ntr))) (same_new ntr _ _ hx) (by omega) (.tupS (del_upd ne) (.cons (.str _) (.cons (.int _) .nil))) (gr_halt hab)
    refine iteN (fun z => c8 (V.str.inj (of_decide_eq_true z))) ?_
    have hz : u ∈ (["back", "stop"] : List Str) := by
      rcases hu with z | z | z | z | z | z | z | z | z
      · exact absurd ((step _).mpr z) e1
      · exact absurd ((step _).mpr z) e2
      · exact absurd ((step _).mpr z) e3
      · exact absurd z c4
      · exact absurd ((step _).mpr z) e5
      · exact absurd ((step _).mpr z) e6
      · exact absurd z c7
      · exact absurd z c8
      · exact z
    refine ⟨_, rfl, Nat.le_of_ble_eq_true rfl, fun tr ntr => ?_⟩
    have ne : tr ≠ lx := fun z => by rw [z, hx] at ntr; cases ntr
    exact k (.ref tr) (.tup [.str u]) m5 _ (Same.trans S (same_del (same_new ntr))) (same_new ntr _ _ hx) (by omega) (.tupS (del_upd ne) (.cons (.str _) .nil)) (gr_Z hz)
    refine ⟨_, rfl, _, rfl, _, rfl, Nat.le_of_ble_eq_true rfl, fun tr ntr => ?_⟩
    have ne : tr ≠ lx := fun z => by rw [z, hx] at ntr; cases ntr
    exact k (.ref tr) (.tup [.str u, .int b, .int nb]) m5 _ (Same.trans S (same_del (same_new ntr))) (same_new ntr _ _ hx) (by omega) (.tupS (del_upd ne) (.cons (.str _) (.cons (.int _) (.cons (.int _) .nil)))) (gr_A ((step _).mp e) ⟨b1, b2⟩ hnb)
    refine ⟨_, rfl, _, rfl, _, rfl, lx, m5, rfl, hx, by omega, fun c m6 G8 c1 c2 s8 hx8 r6 => ?_⟩
    have S8 := Same.trans S s8
    refine ⟨Nat.le_of_ble_eq_true rfl, fun tr ntr => ?_⟩
    have ne : tr ≠ lx := fun z => by rw [z, hx8] at ntr; cases ntr
    exact k (.ref tr) (.tup [.str u, .int b, .int c]) m6 _ (Same.trans S8 (same_del (same_new ntr))) (same_new ntr _ _ hx8) (by omega) (.tupS (del_upd ne) (.cons (.str _) (.cons (.int _) (.cons (.int _) .nil)))) (gr_B ((step _).mp e) ⟨b1, b2⟩ ⟨c1, c2⟩)
    refine ⟨_, rfl, _, rfl, _, rfl, nb, rfl, Nat.le_of_ble_eq_true rfl, fun tr ntr => ?_⟩
    have ne : tr ≠ lx := fun z => by rw [z, hx] at ntr; cases ntr
    exact k (.ref tr) (.tup [.str u, .int b, .int (if nb < 0 then -nb else nb)]) m5 _ (Same.trans S (same_del (same_new ntr))) (same_new ntr _ _ hx) (by omega) (.tupS (del_upd ne) (.cons (.str _) (.cons (.int _) (.cons (.int _) .nil)))) (gr_C ((step _).mp e) ⟨b1, b2⟩ hab)
    refine ⟨_, rfl, _, rfl, _, rfl, Nat.le_of_ble_eq_true rfl, fun tr ntr => ?_⟩
    have ne : tr ≠ lx := fun z => by rw [z, hx] at ntr; cases ntr
    exact k (.ref tr) (.tup [.str u, .int tg, .int fr]) m5 _ (Same.trans S (same_del (same_new ntr))) (same_new ntr _ _ hx) (by omega) (.tupS (del_upd ne) (.cons (.str _) (.cons (.int _) (.cons (.int _) .nil)))) (gr_D ((step _).mp e) hn ht hfr)
    refine ⟨_, rfl, _, rfl, _, rfl, _, rfl, Nat.le_of_ble_eq_true rfl, fun tr ntr => ?_⟩
    have ne : tr ≠ lx := fun z => by rw [z, hx] at ntr; cases ntr
    exact k (.ref tr) (.tup [.str u, .int b, .int tg, .int fr]) m5 _ (Same.trans S (same_del (same_new ntr))) (same_new ntr _ _ hx) (by omega) (.tupS (del_upd ne) (.cons (.str _) (.cons (.int _) (.cons (.int _) (.cons (.int _) .nil))))) (gr_E ((step _).mp e) hn ⟨b1, b2⟩ ht hfr)
end
end My


namespace My
open PySem L2
theorem pei_ix {X : Cx} {a b : Expr} {ta tb : TE} {pos : Pos} {r : R2} (hr : IxR X r) (ha : PEi X a ta) (hb : PE X b tb) (hs : PlainIx b) : PEi X (.Subscript a b pos) (tOp r ta tb) := by
  unfold PEi at ha ⊢
  exact pe_ix hr ha hb hs
theorem psi_asg {X : Cx} {pos : Pos} {tg e : Expr} {te : TE} {g : TG} (he : PEi X e te) (hg : PG X tg g) (hs : swapsWithSole [tg] e pos.line X.env = pure false := by rfl) (hw : swappedStores [tg] e X.env = pure none := by rfl)
    (h1 : (assignEach [tg] X.env).map (·.2) = [assign tg X.env] := by rfl) : PSi X (.Assign [tg] e pos) (tAsg te g) := by
  unfold PEi at he
  unfold PSi
  exact ps_asg he hg hs hw h1
theorem HD.putT {H : Hp} {v : V} {d : Da} {l : Addr} {xs : List V} {o : HO} (h : HD H v d) (hl : H l = some (.lst xs)) (n : Nt d) : HD (upd H l o) v d := by
  induction h with
  | non => exact .non
  | bl b => exact .bl b
  | int i => exact .int i
  | str x => exact .str x
  | tup h e g ih =>
    cases n with
    | tup n =>
      refine .tup (by rw [upd_ne (fun z => by rw [z, hl] at h; cases h)]; exact h) e fun i x d a b => ih i x d a b (n d (List.mem_of_getElem? b))
  | lst h e g ih => cases n
theorem HDs.putT {H : Hp} {xs : List V} {ds : List Da} {l : Addr} {ys : List V} {o : HO} (h : HDs H xs ds) (hl : H l = some (.lst ys)) (n : ∀ d ∈ ds, Nt d) : HDs (upd H l o) xs ds := by
  induction h with
  | nil => exact .nil
  | cons h r ih => exact .cons (HD.putT h hl (n _ List.mem_cons_self)) (ih fun d hd => n d (List.mem_cons_of_mem _ hd))
theorem del_updE {H : Hp} {l b : Addr} {o : HO} (h : b ≠ l) : del (upd H b o) l = upd (del H l) b o := by
  funext x
  by_cases c : x = l
  · subst c
    rw [del_self, upd_ne (Ne.symm h), del_self]
  · rw [del_ne c]
    by_cases d : x = b
    · subst d; rw [upd_same, upd_same]
    · rw [upd_ne d, upd_ne d, del_ne c]
def rowT (d : Da) : Str × List Int := ((wordD d).getD "", tgD d)
def EndsOk (ds : List Da) : Prop := ∀ d, ds.getLast? = some d → goesD d = false
theorem rows_ck {ds : List Da} (h0 : ds ≠ []) (h : ∀ d ∈ ds, GR ds.length d) (he : EndsOk ds) : ckBad ds = none := by
  have key : ∀ (l : List Da) (i : Nat), (∀ d ∈ l, GR ds.length d) → ckF ds.length i l = none := fun l => by
    induction l with
    | nil => intro i _; rfl
    | cons d l ih =>
      intro i hl
      have hd := hl d List.mem_cons_self
      show (if ckB ds.length d = true then ckF ds.length (i + 1) l else some i) = none
      rw [if_pos, ih (i + 1) fun e he => hl e (List.mem_cons_of_mem _ he)]
      unfold ckB
      rw [hd.row, Bool.true_and, List.all_eq_true]
      intro t ht
      exact decide_eq_true (hd.tg t ht).2
  unfold ckBad
  rw [List.getLast?_eq_some_getLast h0]
  show (match ckF ds.length 0 ds with | some i => some i | none => if goesD (ds.getLast h0) = true then some (ds.length - 1) else none) = none
  rw [key ds 0 h, he _ (List.getLast?_eq_some_getLast h0)]
  rfl
theorem rows_t {H : Hp} {lr : Addr} {xs : List V} {ds : List Da} {n : Nat} (hl : H lr = some (.lst xs)) (hs : HDs H xs ds) (h : ∀ d ∈ ds, GR n d) : RowsT H lr (ds.map rowT) := by
  have key : ∀ {xs : List V} {ds : List Da}, HDs H xs ds → (∀ d ∈ ds, GR n d) → ∃ qs : List Addr, xs = qs.map V.ref ∧ ∀ (i : Nat) q r, qs[i]? = some q → (ds.map rowT)[i]? = some r → RowAt H q r.1 r.2 ∧ r.2.length ≤ 16 := by
    intro xs ds hs
    induction hs with
    | nil => intro _; exact ⟨[], rfl, fun i q r h => by simp at h⟩
    | @cons x d xs ds hx hr ih =>
      intro h
      obtain ⟨qs, rfl, hq⟩ := ih fun e he => h e (List.mem_cons_of_mem _ he)
      obtain ⟨q, u, rfl, hu, ha, h16⟩ := row_at hx (h d List.mem_cons_self).row
      refine ⟨q :: qs, rfl, fun i q' r h1 h2 => ?_⟩
      cases i with
      | zero =>
        cases h1
        cases h2
        show RowAt H q ((wordD d).getD "") (tgD d) ∧ _
        rw [hu]
        exact ⟨ha, h16⟩
      | succ i => exact hq i q' r (by simpa using h1) (by simpa using h2)
  obtain ⟨qs, rfl, hq⟩ := key hs h
  have := hs.len
  rw [List.length_map] at this
  exact ⟨qs, hl, by rw [List.length_map]; exact this, hq⟩
theorem gr_word {n : Nat} {d : Da} (h : GR n d) : ∃ u ps, d = .tup (.str u :: ps) := by
  obtain ⟨u, ps, ks, rfl, _⟩ := row_word h.row
  exact ⟨u, ps, rfl⟩
theorem gr_okR {n : Nat} {d : Da} (h : GR n d) : okR d := by
  obtain ⟨u, ps, ks, rfl, hl, _⟩ := row_word h.row
  intro u' hu
  cases hu
  rw [hl]
  exact .inl rfl
section
variable {P : Program} {w : World} {K : PySem.W.Frag} {mg : Str → Option Value} {base : Heap}
def spRs : Sp := fun vs H Q _ => ∃ (lx : Addr) (ms : List Int), vs = [.ref lx, .int 10] ∧ H lx = some (.lst (ms.map V.int)) ∧ 100 ≤ ms.length ∧ ∀ (lr : Addr) (xs : List V) (ds : List Da) (ms' : List Int) (H' : Hp), Same (del H lx) (del H' lx) → H lr = none → lr ≠ lx → H' lr = some (.lst xs) → HDs (del H' lx) xs ds → 1 ≤ ds.length → ds.length ≤ 10 → (∀ d ∈ ds, GR ds.length d) → EndsOk ds → H' lx = some (.lst (ms'.map V.int)) → ms.length ≤ ms'.length + 93 → Q (.ref lr) H'
theorem scRs : FnScope ["_law_xs", "_law_most", "_law_n", "_law_rows_here"] ["_law_xs", "_law_most"] (defScope s_law_rows) := ⟨rfl, rfl, rfl, by decide +kernel, rfl, by decide +kernel, by decide +kernel⟩
def csRsC1 : Scope := { kind := .function, names := [(".0", .local), ("_law_k", .local), ("_law_row", .globalImplicit), ("_law_n", .free), ("_law_xs", .free)], isGenerator := false, isCoroutine := false, more := [] }
theorem scRsC1 : CompSc (defScope s_law_rows) csRsC1 ["_law_xs", "_law_most", "_law_n", "_law_rows_here"] ["_law_k", "_law_xs", "_law_n"] [none, some 0, some 2] := ⟨rfl, by decide +kernel, by decide +kernel, by decide +kernel, by decide +kernel, by decide +kernel⟩
theorem ok_law_rows {f fW : Addr} {fd fdW : FuncData} (F : Fun K "_law_rows" "_law_rows" s_law_rows f fd) (T : Txt K w.params mg) (GW : FnOk P w K mg base CX0 2 fW fdW ["_law_xs", "_law_n"] spLr) (kW : PySem.W.keepIn K (.ref fW) = true) (bW : Binds K fdW ["_law_xs", "_law_n"] []) (mW : mg "_law_row" = some (.ref fW)) : FnOk P w K mg base CX0 3 f fd ["_law_xs", "_law_most"] spRs := by
  refine F.ok scRs (fun vs H Q E h => ?_) (fun cdv A outer s H vs Q E hr h => ?_)
  · obtain ⟨lx, ms, rfl, _⟩ := h
    rfl
  · obtain ⟨lx, ms, rfl, hx0, h100, k⟩ := h
    refine wrapX (pssx_cons (psx_of (ps_set (i := 2) scRs.nd rfl (Or.inr rfl) (pe_op op_add pe_int (pe_op op_mod (pe_op op_fdivB (pe_bm0 PySem.F.plainAttrs_list PySem.F.slot_list_pop PySem.F.type_list_pop mt_pop (pv 0)) pe_int) (pv 1)))))
      (pssx_cons (psx_of (ps_comp (i := 3) (N' := ["_law_k", "_law_xs", "_law_n"]) (fr := [none, some 0, some 2]) scRs.nd rfl rfl scRsC1 rfl (pi_range1 rfl T.range (pa_cons (pv 2) pa_nil)) (fun C s0 H0 fp => (pg_name (i := 0) scRsC1.nd rfl (Or.inl rfl))) (fun C s0 H0 fp => pts_nil) (fun C s0 H0 fp => (pe_call GW hr (by rfl) mW kW bW .nil pass0 (pa_cons (pv 1) (pa_cons (pv 2) pa_nil))))))
      (pssx_cons (psx_if (pt_cmpR op_notIn_seq (pe_ix ix_tup (pe_ix ix_list (pv 3) (pe_un un_neg pe_int) (fun _ _ => rfl)) pe_int (fun _ _ => rfl)) (pe_tupS (.cons pe_str (.cons pe_str (.cons pe_str (.cons pe_str .nil))))) rfl) (pssx_one (psx_of_i (psi_asg (pei_ix ix_list (pei_lst (.cons (pe_tup (pa_cons pe_str pa_nil)) (.cons (pe_tup (pa_cons pe_str pa_nil)) (.cons (pe_tupS (.cons pe_str (.cons (pe_op op_mod (pe_op op_fdivB (pe_bm0 PySem.F.plainAttrs_list PySem.F.slot_list_pop PySem.F.type_list_pop mt_pop (pv 0)) pe_int) (pv 2)) (.cons pe_int .nil)))) .nil)))) (pe_op op_mod (pe_op op_fdivB (pe_bm0 PySem.F.plainAttrs_list PySem.F.slot_list_pop PySem.F.type_list_pop mt_pop (pv 0)) pe_int) pe_int) (fun _ _ => rfl)) (pg_sub (pv 3) (pe_un un_neg pe_int) set_list)))) (pssx_nil pss_nil))
      (pssx_one (psx_of (ps_ret (pv 3))))))) ?_
    obtain ⟨a1, m1, p1, q1, r1⟩ := pop_go (ms := ms) (by omega)
    refine ⟨_, rfl, .inl ⟨rfl, _, SqL.of hx0⟩, lx, _, _, rfl, rfl, hx0, p1, ?_⟩
    rw [q1]
    have hx1 : upd H lx (.lst (m1.map V.int)) lx = _ := upd_same
    have S1 : Same (del H lx) (del (upd H lx (.lst (m1.map V.int))) lx) := del_put
    have fr1 : ∀ b, upd H lx (.lst (m1.map V.int)) b = none → H b = none := fun b hb => by
      have c : b ≠ lx := fun z => by rw [z, upd_same] at hb; cases hb
      rwa [upd_ne c] at hb
    generalize upd H lx (.lst (m1.map V.int)) = G1 at hx1 S1 fr1 ⊢
    obtain ⟨n0, hn0, hnl⟩ := modN (a1 / 3) (n := 10) (by decide)
    refine ⟨_, _, rfl, rfl, ⟨by show (0 : Int) < 3; decide, by show (3 : Int) < _; decide⟩, _, rfl, _, _, rfl, rfl, (by show (0 : Int) < 10; decide), _, _, rfl, rfl, ?_⟩
    show gName _ (.int (1 + a1 / 3 % 10)) _ _ _
    rw [show (1 : Int) + a1 / 3 % 10 = ((n0 + 1 : Nat) : Int) by rw [show a1 / 3 % 10 = (n0 : Int) from hn0]; omega]
    have hn : n0 + 1 ≤ 10 := hnl
    have hn1 : 1 ≤ n0 + 1 := by omega
    generalize n0 + 1 = n at hn hn1
    refine ⟨_, rfl, _, rfl, by omega, by omega, fun D nD => ?_⟩
    have neD : D ≠ lx := fun z => by rw [z, hx1] at nD; cases nD
    have nDd : del G1 lx D = none := by rw [del_ne neD]; exact nD
    refine comp_range (lo := 0) (n := ((n : Nat) : Int).toNat) (fun i σ ys G' => ∃ (v : Option V) (m' : List Int) (ds : List Da), σ = [v, some (.ref lx), some (.int (n : Int))] ∧ HDs (del G' lx) ys ds ∧ ds.length = i ∧ (∀ d ∈ ds, GR n d) ∧ Same (del G1 lx) (del G' lx) ∧ G' lx = some (.lst (m'.map V.int)) ∧ m1.length ≤ m'.length + 9 * i ∧ G' D = some (.lst ys)) ?_ ?_ ?_
    · exact ⟨none, m1, [], rfl, .nil, rfl, fun d hd => absurd hd List.not_mem_nil, same_del (same_new nD), same_new nD _ _ hx1, by omega, upd_same⟩
    · rintro i σ ys G' hi ⟨v, m', ds, rfl, hys, hdl, hgr, s6, hx6, hm6, hD6⟩
      have hin : i < n := by rw [Int.toNat_natCast] at hi; exact hi
      refine ⟨_, rfl, _, rfl, lx, m', n, rfl, hx6, by omega, hn1, by omega, fun v d m7 G7 s7 hx7 r7 hv hg => ?_⟩
      have hDd := s7 _ _ (del_at hD6 neD)
      have hD7 : G7 D = some (.lst ys) := by rw [del_ne neD] at hDd; exact hDd
      have hyl := hys.len
      have hnt : ∀ e ∈ ds ++ [d], Nt e := fun e he => by
        rcases List.mem_append.mp he with z | z
        · exact (hgr e z).nt
        · rw [List.mem_singleton.mp z]; exact hg.nt
      refine ⟨hD7, small_lt (by omega), _, m7, ds ++ [d], rfl, ?_, by rw [List.length_append, hdl]; rfl, fun e he => ?_, ?_, (upd_ne (Ne.symm neD)).trans hx7, by omega, upd_same⟩
      · rw [del_updE neD]
        exact HDs.putT ((hys.same s7).app (.cons hv .nil)) hDd hnt
      · rcases List.mem_append.mp he with z | z
        · exact hgr e z
        · rw [List.mem_singleton.mp z]; exact hg
      · rw [del_updE neD]
        exact same_put (s6.trans s7) nDd
    rintro σ ys G ⟨v, m', ds, rfl, hys, hdl, hgr, s6, hx6, hm6, hD6⟩
    rw [Int.toNat_natCast] at hdl hm6
    subst hdl
    have hyl := hys.len
    -- the last one
    have hdl1 : ds[ds.length - 1]? = some (ds[ds.length - 1]'(by omega)) := List.getElem?_eq_getElem _
    generalize (ds[ds.length - 1]'(by omega)) = dl at hdl1
    have hyl1 : ys[ds.length - 1]? = some (ys[ds.length - 1]'(by omega)) := List.getElem?_eq_getElem _
    generalize (ys[ds.length - 1]'(by omega)) = yl at hyl1
    have hvl := hys.get _ _ _ hyl1 hdl1
    have hgl := hgr dl (List.mem_of_getElem? hdl1)
    obtain ⟨u, ps, rfl⟩ := gr_word hgl
    obtain ⟨q, zs, rfl, hq, hzs⟩ := hvl.tup_inv
    obtain ⟨z, zs, rfl, hz, hzs⟩ := hzs.cons_inv
    cases hz
    have hqG : G q = some (.tup (.str u :: zs)) := del_le _ _ hq
    have hat : ∀ {zs : List V} {y : V}, zs.length = ds.length → zs[ds.length - 1]? = some y → atI zs (-1) = some y := fun {zs} {y} hl hy => by
      unfold atI ixN
      rw [if_neg (by decide), if_pos (by omega)]
      show zs[((-1 : Int) + (zs.length : Int)).toNat]? = _
      rw [show ((-1 : Int) + (zs.length : Int)).toNat = ds.length - 1 by omega]
      exact hy
    refine ⟨_, rfl, _, rfl, D, _, _, .ref q, rfl, rfl, SqL.of hD6, hat hyl hyl1, q, _, 0, _, rfl, rfl, SqT.of hqG, at0 _ _, Nat.le_of_ble_eq_true rfl, fun te nte => ?_⟩
    have w1 := same_new (o := .tup [V.str "stop", V.str "back", V.str "halt", V.str "jump"]) nte
    refine ⟨te, (["stop", "back", "halt", "jump"] : List Str).map V.str, rfl, .inr (SqT.of upd_same), rfl, rfl, _, rfl, ?_⟩
    have S := S1.trans (s6.trans (same_del (l := lx) w1))
    have hx7 := w1 _ _ hx6
    have hD7 := w1 _ _ hD6
    have hys7 := hys.same (same_del (l := lx) w1)
    have nDH : H D = none := fr1 D nD
    generalize upd G te (.tup [V.str "stop", V.str "back", V.str "halt", V.str "jump"]) = G7 at S hx7 hD7 hys7 ⊢
    have ein : (if true = true then !inV (.str u) ((["stop", "back", "halt", "jump"] : List Str).map V.str) else inV (.str u) ((["stop", "back", "halt", "jump"] : List Str).map V.str)) = !decide (u ∈ notOn) := by rw [if_pos rfl, in_strs]; rfl
    refine ite2 (fun e => ?_) (fun e => ?_)
    rotate_left
    · rw [ein] at e
      refine ⟨_, rfl, k D ys ds m' G7 S nDH neD hD7 hys7 hn1 hn hgr (fun d hd => ?_) hx7 (by omega)⟩
      rw [List.getLast?_eq_getElem?, hdl1] at hd
      cases hd
      show (!decide (u ∈ notOn)) = false
      exact Bool.eq_false_iff.mpr e
    -- another last one
    refine ⟨Nat.le_of_ble_eq_true rfl, fun ta nta => ?_⟩
    have w2 := same_new (o := .tup [V.str "stop"]) nta
    have ha : upd G7 ta (.tup [V.str "stop"]) ta = _ := upd_same
    have nea : ta ≠ lx := fun z => by rw [z, hx7] at nta; cases nta
    have hx8 := w2 _ _ hx7
    have hD8 := w2 _ _ hD7
    have hys8 := hys7.same (same_del (l := lx) w2)
    have S := S.trans (same_del (l := lx) w2)
    generalize upd G7 ta (.tup [V.str "stop"]) = G8 at ha hx8 hD8 hys8 S ⊢
    refine ⟨Nat.le_of_ble_eq_true rfl, fun tb ntb => ?_⟩
    have w3 := same_new (o := .tup [V.str "back"]) ntb
    have hb : upd G8 tb (.tup [V.str "back"]) tb = _ := upd_same
    have neb : tb ≠ lx := fun z => by rw [z, hx8] at ntb; cases ntb
    have ha9 := w3 _ _ ha
    have hx9 := w3 _ _ hx8
    have hD9 := w3 _ _ hD8
    have hys9 := hys8.same (same_del (l := lx) w3)
    have S := S.trans (same_del (l := lx) w3)
    generalize upd G8 tb (.tup [V.str "back"]) = G9 at hb ha9 hx9 hD9 hys9 S ⊢
    obtain ⟨a2, m2, p2, q2, r2⟩ := pop_go (ms := m') (by omega)
    refine ⟨_, rfl, .inl ⟨rfl, _, SqL.of hx9⟩, lx, _, _, rfl, rfl, hx9, p2, ?_⟩
    rw [q2]
    have hb10 : upd G9 lx (.lst (m2.map V.int)) tb = _ := (upd_ne neb).trans hb
    have ha10 : upd G9 lx (.lst (m2.map V.int)) ta = _ := (upd_ne nea).trans ha9
    have hD10 : upd G9 lx (.lst (m2.map V.int)) D = _ := (upd_ne neD).trans hD9
    have hx10 : upd G9 lx (.lst (m2.map V.int)) lx = _ := upd_same
    have hys10 := hys9.same (del_put (l := lx) (o := .lst (m2.map V.int)))
    have S := S.trans (del_put (o := .lst (m2.map V.int)))
    generalize upd G9 lx (.lst (m2.map V.int)) = G10 at hb10 ha10 hD10 hx10 hys10 S ⊢
    have htg : 0 ≤ a2 / 3 % (ds.length : Int) ∧ a2 / 3 % (ds.length : Int) < (ds.length : Int) := ⟨Int.emod_nonneg _ (by omega), Int.emod_lt_of_pos _ (by omega)⟩
    refine ⟨_, _, rfl, rfl, ⟨by show (0 : Int) < 3; decide, by show (3 : Int) < _; decide⟩, _, rfl, _, _, rfl, rfl, (by show (0 : Int) < (ds.length : Int); omega), Nat.le_of_ble_eq_true rfl, fun tc ntc => ?_⟩
    have w4 := same_new (o := .tup [V.str "jump", .int (a2 / 3 % (ds.length : Int)), .int 0]) ntc
    have hc : upd G10 tc (.tup [V.str "jump", .int (a2 / 3 % (ds.length : Int)), .int 0]) tc = _ := upd_same
    have nec : tc ≠ lx := fun z => by rw [z, hx10] at ntc; cases ntc
    have hb11 := w4 _ _ hb10
    have ha11 := w4 _ _ ha10
    have hD11 := w4 _ _ hD10
    have hx11 := w4 _ _ hx10
    have hys11 := hys10.same (same_del (l := lx) w4)
    have S := S.trans (same_del (l := lx) w4)
    generalize upd G10 tc (.tup [V.str "jump", .int (a2 / 3 % (ds.length : Int)), .int 0]) = G11 at hc hb11 ha11 hD11 hx11 hys11 S ⊢
    refine ⟨Nat.le_of_ble_eq_true rfl, fun ld nld => ?_⟩
    have w5 := same_new (o := .lst [V.ref ta, .ref tb, .ref tc]) nld
    have hld : upd G11 ld (.lst [V.ref ta, .ref tb, .ref tc]) ld = _ := upd_same
    have ned : ld ≠ lx := fun z => by rw [z, hx11] at nld; cases nld
    have hc12 := w5 _ _ hc
    have hb12 := w5 _ _ hb11
    have ha12 := w5 _ _ ha11
    have hD12 := w5 _ _ hD11
    have hx12 := w5 _ _ hx11
    have hys12 := hys11.same (same_del (l := lx) w5)
    have S := S.trans (same_del (l := lx) w5)
    generalize upd G11 ld (.lst [V.ref ta, .ref tb, .ref tc]) = G12 at hld hc12 hb12 ha12 hD12 hx12 hys12 S ⊢
    obtain ⟨a3, m3, p3, q3, r3⟩ := pop_go (ms := m2) (by omega)
    refine ⟨_, rfl, .inl ⟨rfl, _, SqL.of hx12⟩, lx, _, _, rfl, rfl, hx12, p3, ?_⟩
    rw [q3]
    have hld13 : upd G12 lx (.lst (m3.map V.int)) ld = _ := (upd_ne ned).trans hld
    have hc13 : upd G12 lx (.lst (m3.map V.int)) tc = _ := (upd_ne nec).trans hc12
    have hb13 : upd G12 lx (.lst (m3.map V.int)) tb = _ := (upd_ne neb).trans hb12
    have ha13 : upd G12 lx (.lst (m3.map V.int)) ta = _ := (upd_ne nea).trans ha12
    have hD13 : upd G12 lx (.lst (m3.map V.int)) D = _ := (upd_ne neD).trans hD12
    have hx13 : upd G12 lx (.lst (m3.map V.int)) lx = _ := upd_same
    have hys13 := hys12.same (del_put (l := lx) (o := .lst (m3.map V.int)))
    have S := S.trans (del_put (o := .lst (m3.map V.int)))
    generalize upd G12 lx (.lst (m3.map V.int)) = G13 at hld13 hc13 hb13 ha13 hD13 hx13 hys13 S ⊢
    obtain ⟨c, hcm, hcl⟩ := modN (a3 / 3) (n := 3) (by decide)
    have hpick : ∃ (t : Addr) (d : Da), ([V.ref ta, .ref tb, .ref tc] : List V)[c]? = some (.ref t) ∧ HD (del G13 lx) (.ref t) d ∧ GR ds.length d ∧ goesD d = false := by
      match c, hcl with
      | 0, _ => exact ⟨ta, .tup [.str "stop"], rfl, .tupS (del_at ha13 nea) (.cons (.str _) .nil), gr_Z (by decide +kernel), by decide +kernel⟩
      | 1, _ => exact ⟨tb, .tup [.str "back"], rfl, .tupS (del_at hb13 neb) (.cons (.str _) .nil), gr_Z (by decide +kernel), by decide +kernel⟩
      | 2, _ => exact ⟨tc, .tup [.str "jump", .int (a2 / 3 % (ds.length : Int)), .int 0], rfl, .tupS (del_at hc13 nec) (.cons (.str _) (.cons (.int _) (.cons (.int _) .nil))), gr_D (by decide +kernel) (by omega) htg (by decide), by show (!decide (("jump" : Str) ∈ notOn)) = false; decide +kernel⟩
    obtain ⟨t, d, hpk, hpd, hpg, hpe⟩ := hpick
    refine ⟨_, _, rfl, rfl, ⟨by show (0 : Int) < 3; decide, by show (3 : Int) < _; decide⟩, _, _, rfl, rfl, (by show (0 : Int) < 3; decide), ld, _, _, .ref t, rfl, rfl, SqL.of hld13, ?_, ?_⟩
    · show atI _ (a3 / 3 % 3) = _
      rw [show a3 / 3 % 3 = (c : Int) from hcm]
      exact atI_nat hpk
    refine ⟨_, rfl, _, rfl, D, _, _, ds.length - 1, rfl, rfl, hD13, ?_, ?_⟩
    · show ixN ys.length (-1) = _
      unfold ixN
      rw [if_neg (by decide), if_pos (by omega)]
      congr 1
      omega
    have hgs : ∀ e ∈ ds.set (ds.length - 1) d, GR ds.length e := fun e he => by
      rcases List.mem_or_eq_of_mem_set he with z | z
      · exact hgr e z
      · rw [z]; exact hpg
    have hset : HDs (del G13 lx) (ys.set (ds.length - 1) (.ref t)) (ds.set (ds.length - 1) d) := .of (by rw [List.length_set, List.length_set, hyl]) fun i x e h1 h2 => by
      rw [List.getElem?_set] at h1 h2
      by_cases ci : ds.length - 1 = i
      · rw [if_pos ci] at h1 h2
        rw [if_pos (by omega)] at h1 h2
        cases h1
        cases h2
        exact hpd
      · rw [if_neg ci] at h1 h2
        exact hys13.get i x e h1 h2
    have nD2 : del H lx D = none := by rw [del_ne neD]; exact nDH
    refine ⟨_, rfl, k D (ys.set (ds.length - 1) (.ref t)) (ds.set (ds.length - 1) d) m3 _ ?_ nDH neD upd_same ?_ (by rw [List.length_set]; exact hn1) (by rw [List.length_set]; exact hn) (by rw [List.length_set]; exact hgs) (fun e he => ?_) ((upd_ne (Ne.symm neD)).trans hx13) (by omega)⟩
    · rw [del_updE neD]
      exact same_put S nD2
    · rw [del_updE neD]
      exact HDs.putT hset (del_at hD13 neD) fun e he => (hgs e he).nt
    · rw [List.getLast?_eq_getElem?, List.length_set, List.getElem?_set, if_pos rfl, if_pos (by omega)] at he
      cases he
      exact hpe
end
end My


namespace My
open PySem L2
theorem HD.delT {H : Hp} {v : V} {d : Da} {l : Addr} {xs : List V} (h : HD H v d) (hl : H l = some (.lst xs)) (n : Nt d) : HD (del H l) v d := by
  induction h with
  | non => exact .non
  | bl b => exact .bl b
  | int i => exact .int i
  | str x => exact .str x
  | tup h e g ih =>
    cases n with
    | tup n =>
      refine .tup (by rw [del_ne (fun z => by rw [z, hl] at h; cases h)]; exact h) e fun i x d a b => ih i x d a b (n d (List.mem_of_getElem? b))
  | lst h e g ih => cases n
theorem HDs.delT {H : Hp} {xs : List V} {ds : List Da} {l : Addr} {ys : List V} (h : HDs H xs ds) (hl : H l = some (.lst ys)) (n : ∀ d ∈ ds, Nt d) : HDs (del H l) xs ds := by
  induction h with
  | nil => exact .nil
  | cons h r ih => exact .cons (HD.delT h hl (n _ List.mem_cons_self)) (ih fun d hd => n d (List.mem_cons_of_mem _ hd))
theorem fa4 {α : Type} {p : α → Prop} {a b c d : α} (h1 : p a) (h2 : p b) (h3 : p c) (h4 : p d) : ∀ x ∈ [a, b, c, d], p x := fun x hx => by
  simp at hx
  rcases hx with rfl | rfl | rfl | rfl <;> assumption
theorem fa5 {α : Type} {p : α → Prop} {a b c d e : α} (h1 : p a) (h2 : p b) (h3 : p c) (h4 : p d) (h5 : p e) : ∀ x ∈ [a, b, c, d] ++ [e], p x := fun x hx => by
  simp at hx
  rcases hx with rfl | rfl | rfl | rfl | rfl <;> assumption
theorem nt3 (a b : Int) {u : Str} : Nt (.tup [.str u, .int a, .int b]) := nt_ints [a, b]
theorem nt2 (a : Int) {u : Str} : Nt (.tup [.str u, .int a]) := nt_ints [a]
theorem okp {u : Str} {ps : List Da} (h : u ∈ wPl) : okP (.tup (.str u :: ps)) := fun w hw => by cases hw; exact .inl h
theorem okw {u : Str} {ps : List Da} (h : u ∈ wWh) : okW (.tup (.str u :: ps)) := fun w hw => by cases hw; exact .inl h
section
variable {rs : List (Str × List Int)} {r : Nat} {t : Int}
theorem inr_ok (h : r < rs.length) : inR rs (r : Int) = true := by
  unfold inR
  rw [decide_eq_true (by omega), decide_eq_true (by omega)]
  rfl
theorem pb_before (h : r < rs.length) : placeB rs (.tup [.str "before", .int (r : Int)]) = true := by
  show (decide (("before" : Str) ∈ wPl) && (decide ((1 : Int) + 1 = nPl "before") && (inR rs (r : Int) && (if ("before" : Str) = "before" then true else _)))) = true
  rw [inr_ok h, if_pos rfl]
  decide +kernel
theorem pb_after (h : r < rs.length) (hw : hasW rs (r : Int) = true) : placeB rs (.tup [.str "after", .int (r : Int)]) = true := by
  show (decide (("after" : Str) ∈ wPl) && (decide ((1 : Int) + 1 = nPl "after") && (inR rs (r : Int) && hasW rs (r : Int)))) = true
  rw [inr_ok h, hw]
  decide +kernel
theorem pb_way (h : r < rs.length) (hw : wayB rs (r : Int) t = true) : placeB rs (.tup [.str "way", .int (r : Int), .int t]) = true := by
  show (decide (("way" : Str) ∈ wPl) && (decide ((2 : Int) + 1 = nPl "way") && (inR rs (r : Int) && wayB rs (r : Int) t))) = true
  rw [inr_ok h, hw]
  decide +kernel
end
theorem what_look {n b : Int} (hn : 0 ≤ n ∧ n ≤ 1000000) (hb : 0 ≤ b ∧ b ≤ 7) {u : Str} (h : u ∈ (["look", "guard"] : List Str)) : whatB (.tup [.str u, .int n, .int b]) = true := by
  have h1 := (by decide +kernel : ∀ u ∈ (["look", "guard"] : List Str), u ∈ wWh ∧ ksW u = (["number", "box"] : List Str)) u h
  show (decide (u ∈ wWh) && partsB (ksW u) [.int n, .int b]) = true
  rw [decide_eq_true h1.1, h1.2, Bool.true_and]
  show (decide (2 = 2) && ([("number", Da.int n), ("box", Da.int b)] : List (Str × Da)).all fun x => numD (bdK x.1).1 (bdK x.1).2 x.2) = true
  rw [decide_eq_true rfl, Bool.true_and, List.all_cons, List.all_cons, List.all_nil]
  show (decide ((bdK "number").1 ≤ n ∧ n ≤ (bdK "number").2) && (decide ((bdK "box").1 ≤ b ∧ b ≤ (bdK "box").2) && true)) = true
  rw [show bdK "number" = ((0 : Int), (1000000 : Int)) by decide +kernel, show bdK "box" = ((0 : Int), (7 : Int)) by decide +kernel, decide_eq_true hn, decide_eq_true hb]
  rfl
theorem what_count {n : Int} (hn : 0 ≤ n ∧ n ≤ 1000000) : whatB (.tup [.str "count", .int n]) = true := by
  show (decide (("count" : Str) ∈ wWh) && partsB (ksW "count") [.int n]) = true
  rw [show ksW "count" = (["number"] : List Str) by decide +kernel, decide_eq_true (by decide +kernel), Bool.true_and]
  show (decide (1 = 1) && ([("number", Da.int n)] : List (Str × Da)).all fun x => numD (bdK x.1).1 (bdK x.1).2 x.2) = true
  rw [decide_eq_true rfl, Bool.true_and, List.all_cons, List.all_nil]
  show (decide ((bdK "number").1 ≤ n ∧ n ≤ (bdK "number").2) && true) = true
  rw [show bdK "number" = ((0 : Int), (1000000 : Int)) by decide +kernel, decide_eq_true hn]
  rfl
section
variable {P : Program} {w : World} {K : PySem.W.Frag} {mg : Str → Option Value} {base : Heap}
def spLw : Sp := fun vs H Q _ => ∃ (lx lr : Addr) (ms : List Int) (xs : List V) (ds : List Da), vs = [.ref lx, .ref lr, .bl true] ∧ H lx = some (.lst (ms.map V.int)) ∧ 8 ≤ ms.length ∧ lr ≠ lx ∧ H lr = some (.lst xs) ∧ HDs (del H lx) xs ds ∧ 1 ≤ ds.length ∧ ds.length ≤ 1000 ∧ (∀ d ∈ ds, GR ds.length d) ∧ ∀ (v : V) (d : Da) (ms' : List Int) (H' : Hp), Same (del H lx) (del H' lx) → H' lx = some (.lst (ms'.map V.int)) → ms.length ≤ ms'.length + 8 → HD (del H' lx) v d → wishB (ds.map rowT) d = true → okI d → Nt d → Q v H'
theorem scLw : FnScope ["_law_xs", "_law_rows_here", "_law_guards", "_law_r", "_law_place", "_law_ways_here", "_law_number", "_law_box_here", "_law_whats"] ["_law_xs", "_law_rows_here", "_law_guards"] (defScope s_law_wish) := ⟨rfl, rfl, rfl, by decide +kernel, rfl, by decide +kernel, by decide +kernel⟩
theorem ok_law_wish {f fB fY : Addr} {fd fdB fdY : FuncData} (F : Fun K "_law_wish" "_law_wish" s_law_wish f fd) (T : Txt K w.params mg) (GB : FnOk P w K mg base CX0 1 fB fdB ["_law_xs"] spLb) (kB : PySem.W.keepIn K (.ref fB) = true) (bB : Binds K fdB ["_law_xs"] []) (mB : mg "_law_box" = some (.ref fB))(GY : FnOk P w K mg base CX0 2 fY fdY ["rows", "r"] (spWays (K := K))) (kY : PySem.W.keepIn K (.ref fY) = true) (bY : Binds K fdY ["rows", "r"] []) (mY : mg "ways_of" = some (.ref fY)) : FnOk P w K mg base CX0 3 f fd ["_law_xs", "_law_rows_here", "_law_guards"] spLw := by
  refine F.ok scLw (fun vs H Q E h => ?_) (fun cdv A outer s H vs Q E hr h => ?_)
  · obtain ⟨lx, lr, ms, xs, ds, rfl, _⟩ := h
    rfl
  · obtain ⟨lx, lr, ms, xs, ds, rfl, hxH, h8, nrx, hlr, hs, hd1, hdn, hgr, k⟩ := h
    have hu6 : (A.deeper (PyProof.Rows.envOfC "_law_wish" (defScope s_law_wish) s.heap.objs.size f cdv)).units + 6 < cLine := Nat.lt_of_le_of_lt (Nat.add_le_add_left (by decide : 6 ≤ 64) _) hr.units
    refine wrapX (pssx_cons (psx_of (ps_set (i := 3) scLw.nd rfl (Or.inl rfl) (pe_op op_mod (pe_op op_fdivB (pe_bm0 PySem.F.plainAttrs_list PySem.F.slot_list_pop PySem.F.type_list_pop mt_pop (pv 0)) pe_int) (pe_callB call_len_seq (by rfl) T.len bt_len (pa_cons (pv 1) pa_nil)))))
      (pssx_cons (psx_of (ps_set (i := 4) scLw.nd rfl (Or.inl rfl) (pe_tup (pa_cons pe_str (pa_cons (pv 3) pa_nil)))))
      (pssx_cons (psx_of (ps_set (i := 5) scLw.nd rfl (Or.inl rfl) (pe_call GY hr (by rfl) mY kY bY .nil pass0 (pa_cons (pv 1) (pa_cons (pv 3) pa_nil)))))
      (pssx_mid (psx_if (pw_and (pt_cmpR (op_neA hu6) (pv 5) (pe_lst pa_nil) (nomark _)) (pw_and1 (pt_cmpR op_eq (pe_op op_mod (pe_op op_fdivB (pe_bm0 PySem.F.plainAttrs_list PySem.F.slot_list_pop PySem.F.type_list_pop mt_pop (pv 0)) pe_int) pe_int) pe_int (nomark _)))).pt (pssx_one (psx_of (ps_set (i := 4) scLw.nd rfl (Or.inl rfl) (pe_tup (pa_cons pe_str (pa_cons (pv 3) pa_nil)))))) (pssx_nil pss_nil))
      (pssx_mid (psx_if (pw_and (pt_cmpR (op_neA hu6) (pv 5) (pe_lst pa_nil) (nomark _)) (pw_and1 (pt_cmpR op_eq (pe_op op_mod (pe_op op_fdivB (pe_bm0 PySem.F.plainAttrs_list PySem.F.slot_list_pop PySem.F.type_list_pop mt_pop (pv 0)) pe_int) pe_int) pe_int (nomark _)))).pt (pssx_one (psx_of (ps_set (i := 4) scLw.nd rfl (Or.inl rfl) (pe_tup (pa_cons pe_str (pa_cons (pv 3) (pa_cons (pe_ix ix_list (pv 5) (pe_op op_mod (pe_op op_fdivB (pe_bm0 PySem.F.plainAttrs_list PySem.F.slot_list_pop PySem.F.type_list_pop mt_pop (pv 0)) pe_int) (pe_callB call_len_seq (by rfl) T.len bt_len (pa_cons (pv 5) pa_nil))) (fun _ _ => rfl)) pa_nil))))))) (pssx_nil pss_nil))
      (pssx_cons (psx_of (ps_set (i := 6) scLw.nd rfl (Or.inl rfl) (pe_ix ix_list (pe_lstS (.cons pe_int (.cons pe_int (.cons pe_int (.cons pe_int .nil))))) (pe_op op_mod (pe_op op_fdivB (pe_bm0 PySem.F.plainAttrs_list PySem.F.slot_list_pop PySem.F.type_list_pop mt_pop (pv 0)) pe_int) pe_int) (fun _ _ => rfl))))
      (pssx_cons (psx_of (ps_set (i := 7) scLw.nd rfl (Or.inl rfl) (pe_call GB (hr.mono (by decide)) (by rfl) mB kB bB .nil pass0 (pa_cons (pv 0) pa_nil))))
      (pssx_cons (psx_of (ps_set (i := 8) scLw.nd rfl (Or.inl rfl) (pe_lstS (.cons (pe_tup (pa_cons pe_str (pa_cons (pv 6) (pa_cons (pv 7) pa_nil)))) (.cons (pe_tup (pa_cons pe_str (pa_cons (pv 6) pa_nil))) (.cons (pe_tup (pa_cons pe_str (pa_cons (pv 6) pa_nil))) (.cons (pe_tup (pa_cons pe_str (pa_cons (pv 6) (pa_cons (pv 7) pa_nil)))) .nil)))))))
      (pssx_mid (psx_if (pt_val (pv 2)) (pssx_one (psx_of (ps_expr (pe_bm PySem.F.plainAttrs_list PySem.F.slot_list_append PySem.F.type_list_append mt_append (pv 8) (pa_cons (pe_tup (pa_cons pe_str (pa_cons (pv 6) (pa_cons (pv 7) pa_nil)))) pa_nil))))) (pssx_nil pss_nil))
      (pssx_one (psx_of (ps_ret (pe_tup (pa_cons (pv 4) (pa_cons (pe_ix ix_list (pv 8) (pe_op op_mod (pe_op op_fdivB (pe_bm0 PySem.F.plainAttrs_list PySem.F.slot_list_pop PySem.F.type_list_pop mt_pop (pv 0)) pe_int) (pe_callB call_len_seq (by rfl) T.len bt_len (pa_cons (pv 8) pa_nil))) (fun _ _ => rfl)) pa_nil))))))))))))))) ?_
    have hxl := hs.len
    obtain ⟨a1, m1, p1, q1, r1⟩ := pop_go (ms := ms) (by omega)
    refine ⟨_, rfl, .inl ⟨rfl, _, SqL.of hxH⟩, lx, _, _, rfl, rfl, hxH, p1, ?_⟩
    rw [q1]
    have hx1 : upd H lx (.lst (m1.map V.int)) lx = _ := upd_same
    have hr1 : upd H lx (.lst (m1.map V.int)) lr = _ := (upd_ne nrx).trans hlr
    have T1 : Same (del H lx) (del (upd H lx (.lst (m1.map V.int))) lx) := del_put
    have hs1 := hs.same T1
    generalize upd H lx (.lst (m1.map V.int)) = Ga at hx1 hr1 T1 hs1 ⊢
    obtain ⟨r, hrr, hrl⟩ := modN (a1 / 3) (n := ds.length) (by omega)
    refine ⟨_, _, rfl, rfl, ⟨by show (0 : Int) < 3; decide, by show (3 : Int) < _; decide⟩, _, rfl, lr, _, rfl, .inl (SqL.of hr1), _, _, rfl, rfl, (by show (0 : Int) < ((xs.length : Nat) : Int); omega), ?_⟩
    show gName _ (.int (a1 / 3 % ((xs.length : Nat) : Int))) _ _ _
    rw [hxl, hrr]
    refine ⟨_, rfl, Nat.le_of_ble_eq_true rfl, fun tp ntp => ?_⟩
    have nep : tp ≠ lx := fun z => by rw [z, hx1] at ntp; cases ntp
    have v1 := same_new (o := .tup [V.str "before", .int (r : Int)]) ntp
    have hx2 := v1 _ _ hx1
    have hr2 := v1 _ _ hr1
    have T2 := T1.trans (same_del (l := lx) v1)
    have hs2 := hs1.same (same_del (l := lx) v1)
    have hpp : HD (del (upd Ga tp (.tup [V.str "before", .int (r : Int)])) lx) (.ref tp) (.tup [.str "before", .int (r : Int)]) := .tupS (del_upd nep) (.cons (.str _) (.cons (.int _) .nil))
    generalize upd Ga tp (.tup [V.str "before", .int (r : Int)]) = Gb at hx2 hr2 T2 hs2 hpp ⊢
    have hrn : r < (ds.map rowT).length := by rw [List.length_map]; exact hrl
    have hdr : ds[r]? = some ds[r] := List.getElem?_eq_getElem hrl
    have hdm : ds[r] ∈ ds := List.getElem_mem _
    generalize ds[r] = d0 at hdr hdm
    have hxr : xs[r]? = some (xs[r]'(by omega)) := List.getElem?_eq_getElem _
    generalize (xs[r]'(by omega)) = x0 at hxr
    obtain ⟨q0, u0, rfl, hu0, ha0, h16⟩ := row_at ((hs2.get r _ _ hxr hdr).same del_le) (hgr d0 hdm).row
    refine ⟨_, rfl, _, rfl, lr, q0, xs, r, u0, tgD d0, rfl, SqL.of hr2, hxr, ha0, h16, fun lw ws Gc s3 nlw hw0 _ _ hwm => ?_⟩
    have new : lw ≠ lx := fun z => by rw [z, hx2] at nlw; cases nlw
    have hrs : (ds.map rowT)[r]? = some (u0, tgD d0) := by
      rw [List.getElem?_map, hdr]
      show some ((wordD d0).getD "", tgD d0) = _
      rw [hu0]
      rfl
    have wayw : ∀ t ∈ ws, wayB (ds.map rowT) (r : Int) t = true := fun t ht => by
      unfold wayB
      rw [Int.toNat_natCast, hrs]
      show (decide (t ∈ tgD d0) || (!decide (u0 ∈ notOn) && decide (t = (r : Int) + 1))) = true
      rcases (hwm t).mp ht with z | z
      · rw [decide_eq_true z]; rfl
      · rw [decide_eq_false z.1, decide_eq_true z.2, Bool.or_eq_true]; exact .inr rfl
    have hasw : ws ≠ [] → hasW (ds.map rowT) (r : Int) = true := fun hne => by
      unfold hasW
      rw [Int.toNat_natCast, hrs]
      show (!decide (tgD d0 = []) || !decide (u0 ∈ notOn)) = true
      obtain ⟨t, ht⟩ := List.exists_mem_of_ne_nil ws hne
      rcases (hwm t).mp ht with z | z
      · rw [decide_eq_false (fun e => by rw [e] at z; cases z)]; rfl
      · rw [decide_eq_false z.1, Bool.or_eq_true]; exact .inr rfl
    have hx1 := s3 _ _ hx2
    have T3 := T2.trans (same_del (l := lx) s3)
    have hp1 := hpp.same (same_del (l := lx) s3)
    have hpb := pb_before (rs := ds.map rowT) hrn
    have hpo : okP (.tup [.str "before", .int (r : Int)]) := okp (by decide +kernel)
    have hpn : Nt (.tup [.str "before", .int (r : Int)]) := nt_ints [(r : Int)]
    have hb1 : ms.length ≤ m1.length + 1 := by omega
    generalize (Da.tup [.str "before", .int (r : Int)]) = dp at hp1 hpb hpo hpn
    clear hx2 hr2 T2 hs2 hpp s3 hr1 T1 hs1 ha0 p1 q1 v1
    generalize Gc = G0 at hw0 hx1 T3 hp1
    obtain ⟨G1, hG1⟩ : ∃ G, G = G0 := ⟨_, rfl⟩
    have S1 : Same (del G0 lx) (del G1 lx) := by rw [hG1]; exact .refl _
    rw [← hG1] at hx1 hp1 ⊢
    clear hG1
    refine ⟨fun σ G => ∃ (tp : Addr) (dp : Da) (m9 : List Int), σ = [some (.ref lx), some (.ref lr), some (.bl true), some (.int (r : Int)), some (.ref tp), some (.ref lw), none, none, none] ∧ Same (del G0 lx) (del G lx) ∧ G lx = some (.lst (m9.map V.int)) ∧ ms.length ≤ m9.length + 2 ∧ HD (del G lx) (.ref tp) dp ∧ placeB (ds.map rowT) dp = true ∧ okP dp ∧ Nt dp, ?_, ?_⟩
    · have hw1 := S1 _ _ (del_at hw0 new)
      rw [del_ne new] at hw1
      refine ⟨_, rfl, Nat.le_of_ble_eq_true rfl, fun l1 n1 => ?_⟩
      have v1 := same_new (o := .lst []) n1
      have hl1 : upd G1 l1 (.lst []) l1 = _ := upd_same
      have hw2 := v1 _ _ hw1
      have hx2 := v1 _ _ hx1
      have S2 := S1.trans (same_del (l := lx) v1)
      have hp2 := hp1.same (same_del (l := lx) v1)
      generalize upd G1 l1 (.lst []) = G2 at hl1 hw2 hx2 S2 hp2 ⊢
      refine ⟨1, lw, l1, .lst (ws.map Da.int), .lst [], rfl, rfl, (HD.lstS hw2 (ints_hd ws)).da K, (HD.lstS hl1 .nil).da K, .lst (fun d hd => by
        obtain ⟨n, _, rfl⟩ := List.mem_map.mp hd
        exact .int), .lst (fun d hd => by cases hd), by decide, _, rfl, ?_⟩
      by_cases hwne : ws = []
      · refine iteN (by rw [decide_eq_true (by rw [hwne]; rfl)]; decide) (iteN (by decide) ?_)
        exact ⟨tp, dp, m1, rfl, S2, hx2, by omega, hp2, hpb, hpo, hpn⟩
      refine iteP (by rw [decide_eq_false (fun z => hwne (List.map_eq_nil_iff.mp (Da.lst.inj z)))]; rfl) ?_
      obtain ⟨a3, m3, p3, q3, r3⟩ := pop_go (ms := m1) (by omega)
      refine ⟨_, rfl, .inl ⟨rfl, _, SqL.of hx2⟩, lx, _, _, rfl, rfl, hx2, p3, ?_⟩
      rw [q3]
      have hx3 : upd G2 lx (.lst (m3.map V.int)) lx = _ := upd_same
      have S3 := S2.trans (del_put (o := .lst (m3.map V.int)))
      have hp3 := hp2.same (del_put (l := lx) (o := .lst (m3.map V.int)))
      generalize upd G2 lx (.lst (m3.map V.int)) = G3 at hx3 S3 hp3 ⊢
      refine ⟨_, _, rfl, rfl, ⟨by show (0 : Int) < 3; decide, by show (3 : Int) < _; decide⟩, _, _, rfl, rfl, (by show (0 : Int) < 3; decide), rfl, _, rfl, ite2 (fun _ => ?_) (fun _ => ?_)⟩
      rotate_left
      · exact ⟨tp, dp, m3, rfl, S3, hx3, by omega, hp3, hpb, hpo, hpn⟩
      · skip
        refine ⟨_, rfl, Nat.le_of_ble_eq_true rfl, fun tn ntn => ?_⟩
        have ne : tn ≠ lx := fun z => by rw [z, hx3] at ntn; cases ntn
        exact ⟨tn, .tup [.str "after", .int (r : Int)], m3, rfl, S3.trans (same_del (same_new ntn)), same_new ntn _ _ hx3, by omega, .tupS (del_upd ne) (.cons (.str _) (.cons (.int _) .nil)), pb_after hrn (hasw hwne), okp (by decide +kernel), nt_ints [(r : Int)]⟩
    clear S1 hx1 hp1 hpb hpo hpn hb1
    rintro σ G1 ⟨tp, dp, m1, rfl, S1, hx1, hb1, hp1, hpb, hpo, hpn⟩
    refine ⟨fun σ G => ∃ (tp : Addr) (dp : Da) (m9 : List Int), σ = [some (.ref lx), some (.ref lr), some (.bl true), some (.int (r : Int)), some (.ref tp), some (.ref lw), none, none, none] ∧ Same (del G0 lx) (del G lx) ∧ G lx = some (.lst (m9.map V.int)) ∧ ms.length ≤ m9.length + 4 ∧ HD (del G lx) (.ref tp) dp ∧ placeB (ds.map rowT) dp = true ∧ okP dp ∧ Nt dp, ?_, ?_⟩
    · have hw1 := S1 _ _ (del_at hw0 new)
      rw [del_ne new] at hw1
      refine ⟨_, rfl, Nat.le_of_ble_eq_true rfl, fun l1 n1 => ?_⟩
      have v1 := same_new (o := .lst []) n1
      have hl1 : upd G1 l1 (.lst []) l1 = _ := upd_same
      have hw2 := v1 _ _ hw1
      have hx2 := v1 _ _ hx1
      have S2 := S1.trans (same_del (l := lx) v1)
      have hp2 := hp1.same (same_del (l := lx) v1)
      generalize upd G1 l1 (.lst []) = G2 at hl1 hw2 hx2 S2 hp2 ⊢
      refine ⟨1, lw, l1, .lst (ws.map Da.int), .lst [], rfl, rfl, (HD.lstS hw2 (ints_hd ws)).da K, (HD.lstS hl1 .nil).da K, .lst (fun d hd => by
        obtain ⟨n, _, rfl⟩ := List.mem_map.mp hd
        exact .int), .lst (fun d hd => by cases hd), by decide, _, rfl, ?_⟩
      by_cases hwne : ws = []
      · refine iteN (by rw [decide_eq_true (by rw [hwne]; rfl)]; decide) (iteN (by decide) ?_)
        exact ⟨tp, dp, m1, rfl, S2, hx2, by omega, hp2, hpb, hpo, hpn⟩
      refine iteP (by rw [decide_eq_false (fun z => hwne (List.map_eq_nil_iff.mp (Da.lst.inj z)))]; rfl) ?_
      obtain ⟨a3, m3, p3, q3, r3⟩ := pop_go (ms := m1) (by omega)
      refine ⟨_, rfl, .inl ⟨rfl, _, SqL.of hx2⟩, lx, _, _, rfl, rfl, hx2, p3, ?_⟩
      rw [q3]
      have hx3 : upd G2 lx (.lst (m3.map V.int)) lx = _ := upd_same
      have S3 := S2.trans (del_put (o := .lst (m3.map V.int)))
      have hp3 := hp2.same (del_put (l := lx) (o := .lst (m3.map V.int)))
      generalize upd G2 lx (.lst (m3.map V.int)) = G3 at hx3 S3 hp3 ⊢
      refine ⟨_, _, rfl, rfl, ⟨by show (0 : Int) < 3; decide, by show (3 : Int) < _; decide⟩, _, _, rfl, rfl, (by show (0 : Int) < 3; decide), rfl, _, rfl, ite2 (fun _ => ?_) (fun _ => ?_)⟩
      rotate_left
      · exact ⟨tp, dp, m3, rfl, S3, hx3, by omega, hp3, hpb, hpo, hpn⟩
      · skip
        obtain ⟨a4, m4, p4, q4, r4⟩ := pop_go (ms := m3) (by omega)
        have hw3 := S3 _ _ (del_at hw0 new)
        rw [del_ne new] at hw3
        refine ⟨_, rfl, _, rfl, _, rfl, .inl ⟨rfl, _, SqL.of hx3⟩, lx, _, _, rfl, rfl, hx3, p4, ?_⟩
        rw [q4]
        have hw4 : upd G3 lx (.lst (m4.map V.int)) lw = _ := (upd_ne new).trans hw3
        have hx4 : upd G3 lx (.lst (m4.map V.int)) lx = _ := upd_same
        have S4 := S3.trans (del_put (o := .lst (m4.map V.int)))
        generalize upd G3 lx (.lst (m4.map V.int)) = G4 at hw4 hx4 S4 ⊢
        obtain ⟨j, hj, hjl⟩ := modN (a4 / 3) (n := ws.length) (List.length_pos_iff.mpr hwne)
        have hwj : ws[j]? = some ws[j] := List.getElem?_eq_getElem hjl
        have hwjm : ws[j] ∈ ws := List.getElem_mem _
        generalize ws[j] = t at hwj hwjm
        refine ⟨_, _, rfl, rfl, ⟨by show (0 : Int) < 3; decide, by show (3 : Int) < _; decide⟩, _, rfl, lw, _, rfl, .inl (SqL.of hw4), _, _, rfl, rfl, (by show (0 : Int) < (((ws.map V.int).length : Nat) : Int); rw [List.length_map]; omega), lw, _, _, .int t, rfl, rfl, SqL.of hw4, ?_, Nat.le_of_ble_eq_true rfl, fun tn ntn => ?_⟩
        · show atI _ (a4 / 3 % (((ws.map V.int).length : Nat) : Int)) = _
          rw [List.length_map, hj]
          exact atI_nat (by rw [List.getElem?_map, hwj]; rfl)
        have ne : tn ≠ lx := fun z => by rw [z, hx4] at ntn; cases ntn
        exact ⟨tn, .tup [.str "way", .int (r : Int), .int t], m4, rfl, S4.trans (same_del (same_new ntn)), same_new ntn _ _ hx4, by omega, .tupS (del_upd ne) (.cons (.str _) (.cons (.int _) (.cons (.int _) .nil))), pb_way hrn (wayw t hwjm), okp (by decide +kernel), nt_ints [(r : Int), t]⟩
    clear S1 hx1 hp1 hpb hpo hpn hb1
    rintro σ G1 ⟨tp, dp, m1, rfl, S1, hx1, hb1, hp1, hpb, hpo, hpn⟩
    -- the number
    refine asg_seq ?_
    refine lst_goN (ta := tAll _) (ds := [.int 3, .int 5, .int 40, .int 1000000]) (ha_cons ht_int (ha_cons ht_int (ha_cons ht_int (ha_cons ht_int ha_nil)))) fun ln ys G2 t2 nln hln hys => ?_
    have hyl : ys.length = 4 := hys.len
    have neln : ln ≠ lx := fun z => by rw [z, hx1] at nln; cases nln
    have hx2 := t2 _ _ hx1
    have S2 := S1.trans (same_del (l := lx) t2)
    have hp2 := hp1.same (same_del (l := lx) t2)
    obtain ⟨a5, m5, p5, q5, r5⟩ := pop_go (ms := m1) (by omega)
    refine ⟨_, rfl, .inl ⟨rfl, _, SqL.of hx2⟩, lx, _, _, rfl, rfl, hx2, p5, ?_⟩
    rw [q5]
    have hx3 : upd G2 lx (.lst (m5.map V.int)) lx = _ := upd_same
    have hln3 : upd G2 lx (.lst (m5.map V.int)) ln = _ := (upd_ne neln).trans hln
    have S3 := S2.trans (del_put (o := .lst (m5.map V.int)))
    have hp3 := hp2.same (del_put (l := lx) (o := .lst (m5.map V.int)))
    generalize upd G2 lx (.lst (m5.map V.int)) = G3 at hx3 hln3 S3 hp3 ⊢
    obtain ⟨c, hc, hcl⟩ := modN (a5 / 3) (n := 4) (by decide)
    have hyc : ys[c]? = some (ys[c]'(by omega)) := List.getElem?_eq_getElem _
    generalize (ys[c]'(by omega)) = y at hyc
    obtain ⟨nb, rfl, hnb⟩ : ∃ b : Int, y = .int b ∧ 0 ≤ b ∧ b ≤ 1000000 := by
      match c, hcl, hyc with
      | 0, _, hyc => have := hys.get 0 _ _ hyc rfl; cases this; exact ⟨_, rfl, by decide, by decide⟩
      | 1, _, hyc => have := hys.get 1 _ _ hyc rfl; cases this; exact ⟨_, rfl, by decide, by decide⟩
      | 2, _, hyc => have := hys.get 2 _ _ hyc rfl; cases this; exact ⟨_, rfl, by decide, by decide⟩
      | 3, _, hyc => have := hys.get 3 _ _ hyc rfl; cases this; exact ⟨_, rfl, by decide, by decide⟩
    refine ⟨_, _, rfl, rfl, ⟨by show (0 : Int) < 3; decide, by show (3 : Int) < _; decide⟩, _, _, rfl, rfl, (by show (0 : Int) < 4; decide), ln, _, _, .int nb, rfl, rfl, SqL.of hln3, ?_, ?_⟩
    · show atI _ (a5 / 3 % 4) = _
      rw [show a5 / 3 % 4 = (c : Int) from hc]
      exact atI_nat hyc
    refine ⟨_, rfl, lx, m5, rfl, hx3, by omega, fun b m6 G4 b1 b2 s4 hx4 r6 => ?_⟩
    have S4 := S3.trans s4
    have hp4 := hp3.same s4
    clear hx2 S2 hp2 hln hys hx3 hln3 S3 hp3 t2 s4 S1 hp1 hx1
    -- what
    show gName _ _ _ _ _
    first | refine set_next (asg_next ?_) | refine set_next (asg_seq ?_)
    refine lst_goN (ta := tAll _) (ds := [.tup [.str "look", .int nb, .int b], .tup [.str "count", .int nb], .tup [.str "count", .int nb], .tup [.str "look", .int nb, .int b]]) ?_ fun ls zs G5 t5 nls hls hzs => ?_
    · exact ha_cons (ht_tup (ha_cons ht_str (ha_cons (ht_var rfl (.int _)) (ha_cons (ht_var rfl (.int _)) ha_nil)))) (ha_cons (ht_tup (ha_cons ht_str (ha_cons (ht_var rfl (.int _)) ha_nil))) (ha_cons (ht_tup (ha_cons ht_str (ha_cons (ht_var rfl (.int _)) ha_nil))) (ha_cons (ht_tup (ha_cons ht_str (ha_cons (ht_var rfl (.int _)) (ha_cons (ht_var rfl (.int _)) ha_nil)))) ha_nil)))
    have nels : ls ≠ lx := fun z => by rw [z, hx4] at nls; cases nls
    have hx5 := t5 _ _ hx4
    have S5 := S4.trans (same_del (l := lx) t5)
    have hp5 := hp4.same (same_del (l := lx) t5)
    have hzs5 := HDs.delT hzs hx5 (fa4 (nt3 nb b) (nt2 nb) (nt2 nb) (nt3 nb b))
    show gName _ _ _ _ _
    refine ⟨fun σ G => ∃ (ws2 : List V), σ = [some (.ref lx), some (.ref lr), some (.bl true), some (.int (r : Int)), some (.ref tp), some (.ref lw), some (.int nb), some (.int b), some (.ref ls)] ∧ Same (del G0 lx) (del G lx) ∧ G lx = some (.lst (m6.map V.int)) ∧ HD (del G lx) (.ref tp) dp ∧ G ls = some (.lst ws2) ∧ HDs (del G lx) ws2 [.tup [.str "look", .int nb, .int b], .tup [.str "count", .int nb], .tup [.str "count", .int nb], .tup [.str "look", .int nb, .int b], .tup [.str "guard", .int nb, .int b]], ?_, ?_⟩
    · refine ⟨_, rfl, _, rfl, iteP rfl ?_⟩
      refine ⟨_, rfl, .inl ⟨rfl, _, SqL.of hls⟩, _, rfl, _, rfl, Nat.le_of_ble_eq_true rfl, fun tg ntg => ?_⟩
      have v6 := same_new (o := .tup [V.str "guard", .int nb, .int b]) ntg
      have neg : tg ≠ lx := fun z => by rw [z, hx5] at ntg; cases ntg
      have hg6 : HD (del (upd G5 tg (.tup [V.str "guard", .int nb, .int b])) lx) (.ref tg) (.tup [.str "guard", .int nb, .int b]) := .tupS (del_upd neg) (.cons (.str _) (.cons (.int _) (.cons (.int _) .nil)))
      have hls6 := v6 _ _ hls
      have hx6 := v6 _ _ hx5
      have S6 := S5.trans (same_del (l := lx) v6)
      have hp6 := hp5.same (same_del (l := lx) v6)
      have hzs6 := hzs5.same (same_del (l := lx) v6)
      generalize upd G5 tg (.tup [V.str "guard", .int nb, .int b]) = G6 at hg6 hls6 hx6 S6 hp6 hzs6 ⊢
      refine ⟨ls, _, _, rfl, rfl, hls6, small_lt (by rw [hzs.len]; exact Nat.le_of_ble_eq_true rfl), ?_⟩
      have lsd : del G6 lx ls = _ := del_at hls6 nels
      have nG0 : del G0 lx ls = none := (S4.free (by rw [del_ne nels]; exact nls))
      refine ⟨zs ++ [.ref tg], rfl, by rw [del_updE nels]; exact same_put S6 nG0, (upd_ne (Ne.symm nels)).trans hx6, by rw [del_updE nels]; exact HD.putT hp6 lsd hpn, upd_same, ?_⟩
      rw [del_updE nels]
      exact HDs.putT (hzs6.app (.cons hg6 .nil)) lsd (fa5 (nt3 nb b) (nt2 nb) (nt2 nb) (nt3 nb b) (nt3 nb b))
    rintro σ G6 ⟨ws2, rfl, S6, hx6, hp6, hls6, hws2⟩
    have hwl : ws2.length = 5 := hws2.len
    obtain ⟨a7, m7, p7, q7, r7⟩ := pop_go (ms := m6) (by omega)
    refine ⟨_, rfl, _, rfl, _, rfl, .inl ⟨rfl, _, SqL.of hx6⟩, lx, _, _, rfl, rfl, hx6, p7, ?_⟩
    rw [q7]
    have hx7 : upd G6 lx (.lst (m7.map V.int)) lx = _ := upd_same
    have hls7 : upd G6 lx (.lst (m7.map V.int)) ls = _ := (upd_ne nels).trans hls6
    have S7 := S6.trans (del_put (o := .lst (m7.map V.int)))
    have hp7 := hp6.same (del_put (l := lx) (o := .lst (m7.map V.int)))
    have hws7 := hws2.same (del_put (l := lx) (o := .lst (m7.map V.int)))
    generalize upd G6 lx (.lst (m7.map V.int)) = G7 at hx7 hls7 S7 hp7 hws7 ⊢
    obtain ⟨e, he, hel⟩ := modN (a7 / 3) (n := 5) (by decide)
    have hwe : ws2[e]? = some (ws2[e]'(by omega)) := List.getElem?_eq_getElem _
    generalize (ws2[e]'(by omega)) = y at hwe
    obtain ⟨dw, hdw, hwb, hwo, hwn⟩ : ∃ dw, HD (del G7 lx) y dw ∧ whatB dw = true ∧ okW dw ∧ Nt dw := by
      have hb : 0 ≤ b ∧ b ≤ 7 := ⟨b1, b2⟩
      match e, hel, hwe with
      | 0, _, hwe => exact ⟨_, hws7.get 0 _ _ hwe rfl, what_look hnb hb (by decide +kernel), okw (by decide +kernel), nt3 nb b⟩
      | 1, _, hwe => exact ⟨_, hws7.get 1 _ _ hwe rfl, what_count hnb, okw (by decide +kernel), nt2 nb⟩
      | 2, _, hwe => exact ⟨_, hws7.get 2 _ _ hwe rfl, what_count hnb, okw (by decide +kernel), nt2 nb⟩
      | 3, _, hwe => exact ⟨_, hws7.get 3 _ _ hwe rfl, what_look hnb hb (by decide +kernel), okw (by decide +kernel), nt3 nb b⟩
      | 4, _, hwe => exact ⟨_, hws7.get 4 _ _ hwe rfl, what_look hnb hb (by decide +kernel), okw (by decide +kernel), nt3 nb b⟩
    refine ⟨_, _, rfl, rfl, ⟨by show (0 : Int) < 3; decide, by show (3 : Int) < _; decide⟩, _, rfl, ls, _, rfl, .inl (SqL.of hls7), _, _, rfl, rfl, (by show (0 : Int) < ((ws2.length : Nat) : Int); omega), ls, _, _, y, rfl, rfl, SqL.of hls7, ?_, Nat.le_of_ble_eq_true rfl, fun tn ntn => ?_⟩
    · show atI _ (a7 / 3 % ((ws2.length : Nat) : Int)) = _
      rw [hwl, show a7 / 3 % ((5 : Nat) : Int) = (e : Int) from he]
      exact atI_nat hwe
    have ne : tn ≠ lx := fun z => by rw [z, hx7] at ntn; cases ntn
    have v8 := same_del (l := lx) (same_new (o := .tup [V.ref tp, y]) ntn)
    refine k (.ref tn) (.tup [dp, dw]) m7 _ ((T3.trans S7).trans v8) (same_new ntn _ _ hx7) (by omega) (.tupS (del_upd ne) (.cons (hp7.same v8) (.cons (hdw.same v8) .nil))) ?_ ⟨hpo, hwo⟩ (.tup fun d hd => ?_)
    · show (placeB (ds.map rowT) dp && whatB dw) = true
      rw [hpb, hwb]
      rfl
    · rcases List.mem_cons.mp hd with rfl | hd
      · exact hpn
      · rw [List.mem_singleton.mp hd]; exact hwn
end
end My


namespace My
open PySem L2
theorem jm_cases : ∀ u ∈ (["jump", "zero", "below", "call", "mark"] : List Str), u ≠ "table" ∧ (u ∈ jcm ∨ (¬ u ∈ jcm ∧ u ∈ zb)) := by decide +kernel
theorem jm_not {u : Str} (h : ¬ u ∈ (["jump", "zero", "below", "call", "mark"] : List Str)) : ¬ u ∈ jcm ∧ ¬ u ∈ zb := by
  unfold jcm zb
  simp at h ⊢
  exact ⟨⟨h.1, h.2.2.2.1, h.2.2.2.2⟩, h.2.1, h.2.2.1⟩
section
variable {P : Program} {w : World} {K : PySem.W.Frag} {mg : Str → Option Value} {base : Heap}
def spWz : Sp := fun vs H Q _ => ∃ (p q : Addr) (rows : List V) (r : Nat) (u : Str) (ts : List Int), vs = [.ref p, .int r] ∧ SqL K H p rows ∧ rows[r]? = some (.ref q) ∧ RowAt H q u ts ∧ ts.length ≤ 16 ∧ ∀ (l : Addr) (ms : List Int) (H' : Hp), Same H H' → H l = none → H' l = some (.lst (ms.map V.int)) → ms.length ≤ 20 → (∀ j, j ∈ ms ↔ (¬ u ∈ notOn ∧ j = r + 1) ∨ j ∈ ts) → Q (.ref l) H'
theorem scWz : FnScope ["_law_rows_here", "_law_r", "_law_row_here", "_law_found"] ["_law_rows_here", "_law_r"] (defScope s_law_ways) := ⟨rfl, rfl, rfl, by decide +kernel, rfl, by decide +kernel, by decide +kernel⟩
theorem ok_law_ways {f : Addr} {fd : FuncData} (F : Fun K "_law_ways" "_law_ways" s_law_ways f fd) (T : Txt K w.params mg)  : FnOk P w K mg base CX0 1 f fd ["_law_rows_here", "_law_r"] (spWz (K := K)) := by
  refine F.ok scWz (fun vs H Q E h => ?_) (fun cdv A outer s H vs Q E hr h => ?_)
  · obtain ⟨p, q, rows, r, u, ts, rfl, _⟩ := h
    rfl
  · obtain ⟨p, q, rows, r, u, ts, rfl, hS, hrq, hR, h16, k⟩ := h
    obtain ⟨items, hq0, hP⟩ := id hR
    refine wrapX (pssx_cons (psx_of (ps_set (i := 2) scWz.nd rfl (Or.inl rfl) (pe_ix ix_list (pv 0) (pv 1) (fun _ _ => rfl))))
      (pssx_cons (psx_of (ps_set (i := 3) scWz.nd rfl (Or.inl rfl) (pe_lst pa_nil)))
      (pssx_mid (psx_if (pt_cmpR op_notIn_seq (pe_ix ix_tup (pv 2) pe_int (fun _ _ => rfl)) (pe_tup (pa_cons pe_str (pa_cons pe_str (pa_cons pe_str (pa_cons pe_str pa_nil))))) rfl) (pssx_one (psx_of (ps_expr (pe_bm PySem.F.plainAttrs_list PySem.F.slot_list_append PySem.F.type_list_append mt_append (pv 3) (pa_cons (pe_op op_add (pv 1) pe_int) pa_nil))))) (pssx_nil pss_nil))
      (pssx_mid (psx_if (pt_cmpR op_in_seq (pe_ix ix_tup (pv 2) pe_int (fun _ _ => rfl)) (pe_tup (pa_cons pe_str (pa_cons pe_str (pa_cons pe_str (pa_cons pe_str (pa_cons pe_str pa_nil)))))) rfl) (pssx_one (psx_of (ps_expr (pe_bm PySem.F.plainAttrs_list PySem.F.slot_list_append PySem.F.type_list_append mt_append (pv 3) (pa_cons (pe_ix ix_tup (pv 2) (pe_un un_neg pe_int) (fun _ _ => rfl)) pa_nil))))) (pssx_nil pss_nil))
      (pssx_mid (psx_if (pt_cmpR op_eq (pe_ix ix_tup (pv 2) pe_int (fun _ _ => rfl)) pe_str (nomark _)) (pssx_one (psx_of (ps_set (i := 3) scWz.nd rfl (Or.inl rfl) (pe_op op_cat (pv 3) (pe_callTy call_list_of (by rfl) T.list bt_list (pa_cons (pe_ix ix_tup (pv 2) pe_int (fun _ _ => rfl)) pa_nil)))))) (pssx_nil pss_nil))
      (pssx_one (psx_of (ps_ret (pv 3))))))))) ?_
    refine ⟨_, rfl, _, rfl, p, rows, r, .ref q, rfl, rfl, hS, atI_nat hrq, Nat.le_of_ble_eq_true rfl, fun l nl => ?_⟩
    have S1 := same_new (o := .lst []) nl
    have hl1 : upd H l (.lst []) l = some (.lst (([] : List Int).map V.int)) := upd_same
    have hq1 := S1 _ _ hq0
    generalize upd H l (.lst []) = G1 at S1 hl1 hq1 ⊢
    refine ⟨fun σ G => ∃ ms : List Int, σ = [some (.ref p), some (.int (r : Int)), some (.ref q), some (.ref l)] ∧ Same H G ∧ G l = some (.lst (ms.map V.int)) ∧ ms.length ≤ 1 ∧ ∀ j, j ∈ ms ↔ (¬ u ∈ notOn ∧ j = r + 1), ?_, ?_⟩
    · refine ⟨_, rfl, q, _, 0, _, rfl, rfl, SqT.of hq1, at0 _ _, Nat.le_of_ble_eq_true rfl, fun t1 n1 => ?_⟩
      have v1 := same_new (o := .tup [V.str "stop", V.str "back", V.str "halt", V.str "jump"]) n1
      refine ⟨t1, (["stop", "back", "halt", "jump"] : List Str).map V.str, rfl, .inr (SqT.of upd_same), rfl, rfl, _, rfl, ?_⟩
      have hl2 := v1 _ _ hl1
      have hq2 := v1 _ _ hq1
      have S2 := S1.trans v1
      generalize upd G1 t1 (.tup [V.str "stop", V.str "back", V.str "halt", V.str "jump"]) = G2 at hl2 hq2 S2 ⊢
      have ein : (if true = true then !inV (.str u) ((["stop", "back", "halt", "jump"] : List Str).map V.str) else inV (.str u) ((["stop", "back", "halt", "jump"] : List Str).map V.str)) = !decide (u ∈ notOn) := by rw [if_pos rfl, in_strs]; rfl
      rw [ein]
      by_cases hu : u ∈ notOn
      · refine iteN (by rw [decide_eq_true hu]; decide) ?_
        exact ⟨[], rfl, S2, hl2, Nat.zero_le _, fun j => ⟨fun z => absurd z List.not_mem_nil, fun z => absurd hu z.1⟩⟩
      · refine iteP (by rw [decide_eq_false hu]; rfl) ?_
        refine ⟨_, rfl, .inl ⟨rfl, _, SqL.of hl2⟩, _, rfl, _, _, rfl, rfl, l, _, _, rfl, rfl, hl2, small_lt (Nat.zero_le _), [(r : Int) + 1], rfl, same_put S2 nl, upd_same, Nat.le_refl _, fun j => ?_⟩
        rw [List.mem_singleton]
        exact ⟨fun z => ⟨hu, z⟩, fun z => z.2⟩
    clear S1 hl1 hq1
    rintro σ G1 ⟨ms, rfl, S1, hl1, hml, hmm⟩
    have hq1 := S1 _ _ hq0
    have hP1 := hP.same S1
    refine ⟨fun σ G => ∃ ms : List Int, σ = [some (.ref p), some (.int (r : Int)), some (.ref q), some (.ref l)] ∧ Same H G ∧ G l = some (.lst (ms.map V.int)) ∧ ms.length ≤ 2 ∧ ∀ j, j ∈ ms ↔ (¬ u ∈ notOn ∧ j = r + 1) ∨ (¬ u = "table" ∧ j ∈ ts), ?_, ?_⟩
    · refine ⟨_, rfl, q, _, 0, _, rfl, rfl, SqT.of hq1, at0 _ _, Nat.le_of_ble_eq_true rfl, fun t2 n2 => ?_⟩
      have v2 := same_new (o := .tup [V.str "jump", V.str "zero", V.str "below", V.str "call", V.str "mark"]) n2
      refine ⟨t2, (["jump", "zero", "below", "call", "mark"] : List Str).map V.str, rfl, .inr (SqT.of upd_same), rfl, rfl, _, rfl, ?_⟩
      have hl2 := v2 _ _ hl1
      have hq2 := v2 _ _ hq1
      have S2 := S1.trans v2
      generalize upd G1 t2 (.tup [V.str "jump", V.str "zero", V.str "below", V.str "call", V.str "mark"]) = G2 at hl2 hq2 S2 ⊢
      have ein : (if false = true then !inV (.str u) ((["jump", "zero", "below", "call", "mark"] : List Str).map V.str) else inV (.str u) ((["jump", "zero", "below", "call", "mark"] : List Str).map V.str)) = decide (u ∈ (["jump", "zero", "below", "call", "mark"] : List Str)) := by rw [if_neg (by decide), in_strs]
      rw [ein]
      by_cases hu : u ∈ (["jump", "zero", "below", "call", "mark"] : List Str)
      · refine iteP (decide_eq_true hu) ?_
        obtain ⟨ht, hc⟩ := jm_cases u hu
        obtain ⟨t, rfl, hat⟩ : ∃ t, ts = [t] ∧ atI (V.str u :: items) (-2) = some (.int t) := by
          unfold Parts at hP
          rw [if_neg ht] at hP
          rcases hc with hc | ⟨hc, hz⟩
          · rw [if_pos hc] at hP
            obtain ⟨t, fv, rfl, rfl⟩ := hP
            exact ⟨t, rfl, rfl⟩
          · rw [if_neg hc, if_pos hz] at hP
            obtain ⟨b, t, fv, rfl, rfl⟩ := hP
            exact ⟨t, rfl, rfl⟩
        refine ⟨_, rfl, .inl ⟨rfl, _, SqL.of hl2⟩, _, rfl, _, rfl, q, _, -2, .int t, rfl, rfl, SqT.of hq2, hat, l, _, _, rfl, rfl, hl2, small_lt (by rw [List.length_map]; omega), ms ++ [t], rfl, same_put S2 nl, ?_, by rw [List.length_append]; show _ + 1 ≤ 2; omega, fun j => ?_⟩
        · rw [List.map_append]
          exact upd_same
        · rw [List.mem_append, hmm]
          exact ⟨fun z => z.imp id fun e => ⟨ht, e⟩, fun z => z.imp id fun e => e.2⟩
      · refine iteN (by rw [decide_eq_false hu]; decide) ?_
        refine ⟨ms, rfl, S2, hl2, by omega, fun j => ?_⟩
        rw [hmm]
        refine ⟨.inl, fun z => z.elim id fun e => ?_⟩
        obtain ⟨c1, c2⟩ := jm_not hu
        unfold Parts at hP
        rw [if_neg e.1, if_neg c1, if_neg c2] at hP
        rw [hP] at e
        exact absurd e.2 List.not_mem_nil
    clear S1 hl1 hq1 hmm hml hP1
    rintro σ G1 ⟨ms, rfl, S1, hl1, hml, hmm⟩
    have hq1 := S1 _ _ hq0
    refine ⟨fun σ G => ∃ (l2 : Addr) (ms : List Int), σ = [some (.ref p), some (.int (r : Int)), some (.ref q), some (.ref l2)] ∧ Same H G ∧ H l2 = none ∧ G l2 = some (.lst (ms.map V.int)) ∧ ms.length ≤ 20 ∧ ∀ j, j ∈ ms ↔ (¬ u ∈ notOn ∧ j = r + 1) ∨ j ∈ ts, ?_, ?_⟩
    · refine ⟨_, rfl, q, _, 0, _, rfl, rfl, SqT.of hq1, at0 _ _, rfl, _, rfl, ?_⟩
      by_cases hu : u = "table"
      · refine iteP (decide_eq_true (by rw [hu])) ?_
        unfold Parts at hP
        rw [if_pos hu] at hP
        obtain ⟨b, q2, rfl, hq2⟩ := hP
        refine ⟨_, rfl, _, rfl, q, _, 2, .ref q2, rfl, rfl, SqT.of hq1, rfl, q2, _, rfl, .inr (SqT.of (S1 _ _ hq2)), fun l3 n3 => ?_⟩
        have v3 := same_new (o := .lst (ts.map V.int)) n3
        refine ⟨l, l3, _, _, rfl, rfl, v3 _ _ hl1, upd_same, ?_, fun l4 n4 => ?_⟩
        · rw [List.length_map, List.length_map]
          exact Nat.le_of_lt (small_lt (by omega))
        have v4 := same_new (o := .lst ((ms ++ ts).map V.int)) n4
        rw [← List.map_append]
        refine ⟨l4, ms ++ ts, rfl, (S1.trans v3).trans v4, (S1.trans v3).free n4, upd_same, by rw [List.length_append]; omega, fun j => ?_⟩
        rw [List.mem_append, hmm]
        exact ⟨fun z => z.elim (fun e => e.elim .inl fun e => .inr e.2) .inr, fun z => z.elim (fun e => .inl (.inl e)) .inr⟩
      · refine iteN (fun z => hu (V.str.inj (of_decide_eq_true z))) ?_
        refine ⟨l, ms, rfl, S1, nl, hl1, by omega, fun j => ?_⟩
        rw [hmm]
        exact ⟨fun z => z.imp id fun e => e.2, fun z => z.imp id fun e => ⟨hu, e⟩⟩
    rintro σ G2 ⟨l2, ms2, rfl, S2, nl2, hl2, hml2, hmm2⟩
    exact ⟨_, rfl, k l2 ms2 G2 S2 nl2 hl2 hml2 hmm2⟩
end
end My


namespace My
open PySem L2
/-- what of G is new since H -/
def fr (H G : Hp) : Hp := fun a => match H a with
  | none => G a
  | some _ => none
def Dm (H G : Hp) : Prop := ∀ p, G p = none → H p = none
theorem fr_at {H G : Hp} {a : Addr} {o : HO} (n : H a = none) (h : G a = some o) : fr H G a = some o := by
  unfold fr
  rw [n]
  exact h
theorem fr_same {H G G' : Hp} (s : Same G G') : Same (fr H G) (fr H G') := fun b o h => by
  unfold fr at h ⊢
  cases hb : H b with
  | none => rw [hb] at h; exact s _ _ h
  | some x => rw [hb] at h; cases h
theorem fr_le {H G : Hp} : Same (fr H G) G := fun b o h => by
  unfold fr at h
  cases hb : H b with
  | none => rw [hb] at h; exact h
  | some x => rw [hb] at h; cases h
theorem fr_old {H G : Hp} {l : Addr} {x o : HO} (h : H l = some x) : Same (fr H G) (fr H (upd G l o)) := fun b u e => by
  unfold fr at e ⊢
  cases hb : H b with
  | none =>
    rw [hb] at e
    have c : b ≠ l := fun z => by rw [z, h] at hb; cases hb
    show upd G l o b = _
    rw [upd_ne c]
    exact e
  | some y => rw [hb] at e; cases e
theorem fr_upd {H G : Hp} {l : Addr} {o : HO} (h : H l = none) : fr H (upd G l o) = upd (fr H G) l o := by
  funext b
  by_cases c : b = l
  · subst c
    rw [upd_same]
    exact fr_at h upd_same
  · rw [upd_ne c]
    unfold fr
    rw [upd_ne c]
theorem Dm.same {H G G' : Hp} (d : Dm H G) (s : Same G G') : Dm H G' := fun p h => d p (s.free h)
theorem Dm.put {H G : Hp} {l : Addr} {o : HO} (d : Dm H G) : Dm H (upd G l o) := fun p h => d p (by
  have c : p ≠ l := fun z => by rw [z, upd_same] at h; cases h
  rwa [upd_ne c] at h)
def HTF (H G0 : Hp) (t : TE) (σ : St) (d : Da) : Prop := ∀ (G : Hp) (Q : VK), Same G0 G → (∀ (v : V) (G' : Hp), Same G G' → HD (fr H G') v d → Q v G') → t σ G Q
def HAF (H G0 : Hp) (t : TA) (σ : St) (ds : List Da) : Prop := ∀ (G : Hp) (Q : List V → Hp → Prop), Same G0 G → (∀ (xs : List V) (G' : Hp), Same G G' → HDs (fr H G') xs ds → Q xs G') → t σ G Q
section
variable {σ : St} {H G0 : Hp}
theorem hf_int {i : Int} : HTF H G0 (tC (.int i)) σ (.int i) := fun G Q _ k => k _ _ (.refl _) (.int i)
theorem hf_str {s : Str} : HTF H G0 (tC (.str s)) σ (.str s) := fun G Q _ k => k _ _ (.refl _) (.str s)
theorem hf_bl {b : Bool} : HTF H G0 (tC (.bl b)) σ (.bl b) := fun G Q _ k => k _ _ (.refl _) (.bl b)
theorem hf_non : HTF H G0 (tC .non) σ .non := fun G Q _ k => k _ _ (.refl _) .non
theorem hf_var {i : Nat} {v : V} {d : Da} (h : σ[i]? = some (some v)) (hv : HD (fr H G0) v d) : HTF H G0 (tVar i) σ d := fun G Q s k => ⟨v, h, k _ _ (.refl _) (hv.same (fr_same s))⟩
theorem haf_nil : HAF H G0 tNil σ [] := fun G Q _ k => k _ _ (.refl _) .nil
theorem haf_cons {t : TE} {ta : TA} {d : Da} {ds : List Da} (h : HTF H G0 t σ d) (r : HAF H G0 ta σ ds) : HAF H G0 (tCons t ta) σ (d :: ds) := fun G Q s k =>
  h G _ s fun v G1 s1 hv => r G1 _ (s.trans s1) fun xs G2 s2 hx => k _ _ (s1.trans s2) (.cons (hv.same (fr_same s2)) hx)
theorem hf_tup {ta : TA} {ds : List Da} (dm : Dm H G0) (h : HAF H G0 ta σ ds) (hl : ds.length ≤ 1000 := by exact Nat.le_of_ble_eq_true rfl) : HTF H G0 (tTup ta) σ (.tup ds) := fun G Q s k =>
  h G _ s fun xs G1 s1 hx => ⟨by rw [hx.len]; exact Nat.le_of_lt (small1000 hl), fun p np => k _ _ (s1.trans (.new np)) (.tupS (fr_at (dm.same (s.trans s1) p np) upd_same) (hx.same (fr_same (.new np))))⟩
theorem hf_lst {ta : TA} {ds : List Da} (dm : Dm H G0) (h : HAF H G0 ta σ ds) (hl : ds.length ≤ 1000 := by exact Nat.le_of_ble_eq_true rfl) : HTF H G0 (tLst ta) σ (.lst ds) := fun G Q s k =>
  h G _ s fun xs G1 s1 hx => ⟨by rw [hx.len]; exact Nat.le_of_lt (small1000 hl), fun p np => k _ _ (s1.trans (.new np)) (.lstS (fr_at (dm.same (s.trans s1) p np) upd_same) (hx.same (fr_same (.new np))))⟩
theorem lst_goF {ta : TA} {ds : List Da} {Q : VK} (h : HAF H G0 ta σ ds) (k : ∀ (p : Addr) (xs : List V) (G : Hp), Same G0 G → G0 p = none → G p = some (.lst xs) → HDs (fr H G) xs ds → Q (.ref p) G) (hl : ds.length ≤ 1000 := by exact Nat.le_of_ble_eq_true rfl) : tLst ta σ G0 Q :=
  h G0 _ (.refl _) fun xs G1 s1 hx => ⟨by rw [hx.len]; exact Nat.le_of_lt (small1000 hl), fun p np => k p xs _ (s1.trans (.new np)) (s1.free np) upd_same (hx.same (fr_same (.new np)))⟩
theorem hf_op {a b : TE} {g : Int → Int → Int} {i j : Int} (h : HTF H G0 a σ (.int i)) (k : HTF H G0 b σ (.int j)) : HTF H G0 (tOp (rI0 fun i j => .int (g i j)) a b) σ (.int (g i j)) := fun G Q s q =>
  h G _ s fun v G1 s1 hv => k G1 _ (s.trans s1) fun u G2 s2 hu => by
    cases hv
    cases hu
    exact ⟨i, j, rfl, rfl, q _ _ (s1.trans s2) (.int _)⟩
theorem hf_opC {a b : TE} {C : Int → Int → Prop} {g : Int → Int → Int} {i j : Int} (h : HTF H G0 a σ (.int i)) (k : HTF H G0 b σ (.int j)) (c : C i j) : HTF H G0 (tOp (rI C fun i j => .int (g i j)) a b) σ (.int (g i j)) := fun G Q s q =>
  h G _ s fun v G1 s1 hv => k G1 _ (s.trans s1) fun u G2 s2 hu => by
    cases hv
    cases hu
    exact ⟨i, j, rfl, rfl, c, q _ _ (s1.trans s2) (.int _)⟩
theorem hf_un {a : TE} {g : Int → Int} {i : Int} (h : HTF H G0 a σ (.int i)) : HTF H G0 (tUn (rU fun i => .int (g i)) a) σ (.int (g i)) := fun G Q s q =>
  h G _ s fun v G1 s1 hv => by
    cases hv
    exact ⟨i, rfl, q _ _ s1 (.int _)⟩
end
theorem HDs.take {H : Hp} : ∀ {xs : List V} {ds : List Da} (n : Nat), HDs H xs ds → HDs H (xs.take n) (ds.take n)
  | _, _, 0, _ => .nil
  | [], _, n + 1, h => by cases h; exact .nil
  | _ :: _, _, n + 1, .cons h r => .cons h (HDs.take n r)
theorem fa_nil {α : Type} {p : α → Prop} : ∀ x ∈ ([] : List α), p x := fun x h => absurd h (by simp)
theorem fa_cons {α : Type} {p : α → Prop} {a : α} {l : List α} (h : p a) (t : ∀ x ∈ l, p x) : ∀ x ∈ a :: l, p x := fun x hx => by
  rcases List.mem_cons.mp hx with rfl | hx
  · exact h
  · exact t x hx
/-! ### what is no place -/
section
variable {rs : List (Str × List Int)} {u : Str} {ps : List Da} {x : Da} {r : Int}
theorem np_odd (h : ¬ u ∈ wPl) : placeB rs (.tup (.str u :: ps)) = false := by
  show (decide (u ∈ wPl) && _) = false
  rw [decide_eq_false h]
  rfl
theorem np_len {k : Nat} (hk : ps.length = k) (h : ¬ (k : Int) + 1 = nPl u) : placeB rs (.tup (.str u :: ps)) = false := by
  show (decide (u ∈ wPl) && (decide ((ps.length : Int) + 1 = nPl u) && _)) = false
  rw [hk, decide_eq_false h]
  simp
theorem np_in (h : plA rs u ps = false) : placeB rs (.tup (.str u :: ps)) = false := by
  show (decide (u ∈ wPl) && (decide ((ps.length : Int) + 1 = nPl u) && plA rs u ps)) = false
  rw [h]
  simp
theorem np_who (h : wnD x = none) : placeB rs (.tup (.str u :: x :: ps)) = false := np_in (by
  show (match wnD x with | some r => _ | none => false) = false
  rw [h])
theorem np_r (h : plB rs u r ((ps.head?).bind wnD) = false) : placeB rs (.tup (.str u :: .int r :: ps)) = false := np_in h
theorem np_low (h : r < 0) : placeB rs (.tup (.str u :: .int r :: ps)) = false := np_r (by
  unfold plB inR
  rw [decide_eq_false (by omega)]
  rfl)
theorem np_high (h : (rs.length : Int) ≤ r) : placeB rs (.tup (.str u :: .int r :: ps)) = false := np_r (by
  unfold plB inR
  rw [decide_eq_false (show ¬ r < (rs.length : Int) by omega)]
  simp)
theorem np_after (h : hasW rs r = false) : placeB rs (.tup [.str "after", .int r]) = false := np_r (by
  unfold plB
  rw [if_neg (by decide), if_pos rfl, h]
  simp)
theorem np_wayN {t : Int} (h : wayB rs r t = false) : placeB rs (.tup [.str "way", .int r, .int t]) = false := np_r (by
  unfold plB
  rw [if_neg (by decide), if_neg (by decide)]
  show (_ && wayB rs r t) = false
  rw [h]
  simp)
end
def PL0 (n : Nat) : List Da := [.tup [.str "before", .int (n : Int)], .tup [.str "before", .int (-1)], .tup [.str "before", .bl true], .tup [.str "before"], .tup [.str "after", .int (n : Int)], .tup [.str "way", .int 0], .tup [.str "way", .int (n : Int), .int 0]]
def PL1 (n : Nat) : List Da := [.tup [.str "way", .int 0, .int (n : Int)], .tup [.str "at", .int 0], .tup [.str "before", .int 0, .int 0], .str "before", .non, .lst [.str "before", .int 0], .tup [.int 0, .str "before"], .tup []]
def PL2 (n : Nat) : List Da := [.tup [.str "before", .str "0"], .tup [.str "way", .int 0, .int 0, .int 0], .tup [.str "", .int 0]]
def WL0 : List Da := [.tup [.str "look", .int 5], .tup [.str "look", .int 5, .int 8], .tup [.str "look", .int 5, .int (-1)], .tup [.str "look", .int (-1), .int 0], .tup [.str "look", .int ((10 ^ 6) + 1), .int 0], .tup [.str "count"]]
def WL1 : List Da := [.tup [.str "count", .int 5, .int 0], .tup [.str "count", .bl true], .tup [.str "count", .int (-1)], .tup [.str "count", .str "5"], .tup [.str "guard", .int 5], .tup [.str "guard", .int 5, .bl true]]
def WL2 : List Da := [.tup [.str "see", .int 5, .int 0], .lst [.str "count", .int 5], .non, .str "count", .tup [], .tup [.str "look", .int 5, .int 0, .int 0], .tup [.str "guard", .int ((10 ^ 6) + 1), .int 1]]
theorem no_places {rs : List (Str × List Int)} {n : Nat} (hn : n = rs.length) (h0 : wayB rs 0 (n : Int) = false) :
    ∀ d ∈ [.tup [.str "before", .int (n : Int)], .tup [.str "before", .int (-1)], .tup [.str "before", .bl true], .tup [.str "before"], .tup [.str "after", .int (n : Int)], .tup [.str "way", .int 0], .tup [.str "way", .int (n : Int), .int 0], .tup [.str "way", .int 0, .int (n : Int)], .tup [.str "at", .int 0], .tup [.str "before", .int 0, .int 0], .str "before", .non, .lst [.str "before", .int 0], .tup [.int 0, .str "before"], .tup [], .tup [.str "before", .str "0"], .tup [.str "way", .int 0, .int 0, .int 0], .tup [.str "", .int 0]], okP d ∧ placeB rs d = false :=
  (fa_cons ⟨fun u hu => (by cases hu; exact .inl (by decide)), np_high (by omega)⟩
    (fa_cons ⟨fun u hu => (by cases hu; exact .inl (by decide)), np_low (by decide)⟩
    (fa_cons ⟨fun u hu => (by cases hu; exact .inl (by decide)), np_who rfl⟩
    (fa_cons ⟨fun u hu => (by cases hu; exact .inl (by decide)), np_len (k := 0) rfl (by decide +kernel)⟩
    (fa_cons ⟨fun u hu => (by cases hu; exact .inl (by decide)), np_high (by omega)⟩
    (fa_cons ⟨fun u hu => (by cases hu; exact .inl (by decide)), np_len (k := 1) rfl (by decide +kernel)⟩
    (fa_cons ⟨fun u hu => (by cases hu; exact .inl (by decide)), np_high (by omega)⟩
    (fa_cons ⟨fun u hu => (by cases hu; exact .inl (by decide)), np_wayN h0⟩
    (fa_cons ⟨fun u hu => (by cases hu; exact .inr (by decide)), np_odd (by decide)⟩
    (fa_cons ⟨fun u hu => (by cases hu; exact .inl (by decide)), np_len (k := 2) rfl (by decide +kernel)⟩
    (fa_cons ⟨fun u hu => (by cases hu), rfl⟩
    (fa_cons ⟨fun u hu => (by cases hu), rfl⟩
    (fa_cons ⟨fun u hu => (by cases hu), rfl⟩
    (fa_cons ⟨fun u hu => (by cases hu), rfl⟩
    (fa_cons ⟨fun u hu => (by cases hu), rfl⟩
    (fa_cons ⟨fun u hu => (by cases hu; exact .inl (by decide)), np_who rfl⟩
    (fa_cons ⟨fun u hu => (by cases hu; exact .inl (by decide)), np_len (k := 3) rfl (by decide +kernel)⟩
    (fa_cons ⟨fun u hu => (by cases hu; exact .inr (by decide)), np_odd (by decide)⟩
    fa_nil))))))))))))))))))
theorem no_whats : ∀ d ∈ [.tup [.str "look", .int 5], .tup [.str "look", .int 5, .int 8], .tup [.str "look", .int 5, .int (-1)], .tup [.str "look", .int (-1), .int 0], .tup [.str "look", .int ((10 ^ 6) + 1), .int 0], .tup [.str "count"], .tup [.str "count", .int 5, .int 0], .tup [.str "count", .bl true], .tup [.str "count", .int (-1)], .tup [.str "count", .str "5"], .tup [.str "guard", .int 5], .tup [.str "guard", .int 5, .bl true], .tup [.str "see", .int 5, .int 0], .lst [.str "count", .int 5], .non, .str "count", .tup [], .tup [.str "look", .int 5, .int 0, .int 0], .tup [.str "guard", .int ((10 ^ 6) + 1), .int 1]], okW d ∧ whatB d = false :=
  (fa_cons ⟨fun u hu => (by cases hu; exact .inl (by decide)), by decide +kernel⟩
    (fa_cons ⟨fun u hu => (by cases hu; exact .inl (by decide)), by decide +kernel⟩
    (fa_cons ⟨fun u hu => (by cases hu; exact .inl (by decide)), by decide +kernel⟩
    (fa_cons ⟨fun u hu => (by cases hu; exact .inl (by decide)), by decide +kernel⟩
    (fa_cons ⟨fun u hu => (by cases hu; exact .inl (by decide)), by decide +kernel⟩
    (fa_cons ⟨fun u hu => (by cases hu; exact .inl (by decide)), by decide +kernel⟩
    (fa_cons ⟨fun u hu => (by cases hu; exact .inl (by decide)), by decide +kernel⟩
    (fa_cons ⟨fun u hu => (by cases hu; exact .inl (by decide)), by decide +kernel⟩
    (fa_cons ⟨fun u hu => (by cases hu; exact .inl (by decide)), by decide +kernel⟩
    (fa_cons ⟨fun u hu => (by cases hu; exact .inl (by decide)), by decide +kernel⟩
    (fa_cons ⟨fun u hu => (by cases hu; exact .inl (by decide)), by decide +kernel⟩
    (fa_cons ⟨fun u hu => (by cases hu; exact .inl (by decide)), by decide +kernel⟩
    (fa_cons ⟨fun u hu => (by cases hu; exact .inr (by decide)), by decide +kernel⟩
    (fa_cons ⟨fun u hu => (by cases hu), rfl⟩
    (fa_cons ⟨fun u hu => (by cases hu), rfl⟩
    (fa_cons ⟨fun u hu => (by cases hu), rfl⟩
    (fa_cons ⟨fun u hu => (by cases hu), rfl⟩
    (fa_cons ⟨fun u hu => (by cases hu; exact .inl (by decide)), by decide +kernel⟩
    (fa_cons ⟨fun u hu => (by cases hu; exact .inl (by decide)), by decide +kernel⟩
    fa_nil)))))))))))))))))))
end My


namespace My
open PySem L2
theorem psi_ret {X : Cx} {e : Expr} {te : TE} {pos : Pos} (he : PEi X e te) : PSi X (.Return (some e) pos) (tRet te) := by
  unfold PEi at he
  unfold PSi
  exact ps_ret he
theorem Same.dm {H G : Hp} (s : Same H G) : Dm H G := fun _ h => s.free h
theorem cp6 : CPow 10 6 := ⟨by decide, by decide, by decide⟩
theorem fa_app {α : Type} {p : α → Prop} {a b : List α} (h : ∀ x ∈ a, p x) (k : ∀ x ∈ b, p x) : ∀ x ∈ a ++ b, p x := fun x hx => (List.mem_append.mp hx).elim (h x) (k x)
theorem fa_l {α : Type} {p : α → Prop} {a b : List α} (h : ∀ x ∈ a ++ b, p x) : ∀ x ∈ a, p x := fun x hx => h x (List.mem_append_left _ hx)
theorem fa_r {α : Type} {p : α → Prop} {a b : List α} (h : ∀ x ∈ a ++ b, p x) : ∀ x ∈ b, p x := fun x hx => h x (List.mem_append_right _ hx)
theorem wl3 {n : Nat} {rs : List (Str × List Int)} (h : ∀ d ∈ PL0 n ++ (PL1 n ++ PL2 n), okP d ∧ placeB rs d = false) : (∀ d ∈ PL0 n, okP d ∧ placeB rs d = false) ∧ (∀ d ∈ PL1 n, okP d ∧ placeB rs d = false) ∧ ∀ d ∈ PL2 n, okP d ∧ placeB rs d = false := ⟨fa_l h, fa_l (fa_r h), fa_r (fa_r h)⟩
theorem count5 : whatB (.tup [.str "count", .int 5]) = true ∧ okW (.tup [.str "count", .int 5]) := ⟨what_count (by decide), okw (by decide +kernel)⟩
theorem before0 : okP (.tup [.str "before", .int 0]) := okp (by decide +kernel)
section
variable {σ : St} {H G0 : Hp} {K : PySem.W.Frag}
theorem hf_slT {te : TE} {b c : Da} (dm : Dm H G0) (h : HTF H G0 te σ (.tup [b, c])) : HTF H G0 (tSl (rSlT K) te tNoPart (tPart (tC (.int 1)))) σ (.tup [b]) := fun G Q s q => h G _ s fun v G1 s1 hv => by
  obtain ⟨p, xs, rfl, hp, hx⟩ := hv.tup_inv
  obtain ⟨x, r, rfl, hx1, hr⟩ := hx.cons_inv
  obtain ⟨y, r, rfl, hy1, hr⟩ := hr.cons_inv
  cases hr.nil_inv
  refine ⟨_, rfl, p, _, rfl, SqT.of (fr_le _ _ hp), ?_, fun l nl => q _ _ (s1.trans (.new nl)) (.tupS (fr_at (dm.same (s.trans s1) l nl) (by rw [upd_same]; rfl)) (.cons (hx1.same (fr_same (.new nl))) .nil))⟩
  intro z
  exact absurd z.2 (by show ¬ ((1 : Nat) = 2); decide)
theorem hf_catT {ta tb : TE} {a b : Da} {as bs : List Da} (dm : Dm H G0) (h : HTF H G0 ta σ (.tup (a :: as))) (k : HTF H G0 tb σ (.tup (b :: bs))) (hl : (a :: as).length + (b :: bs).length ≤ 1000) : HTF H G0 (tOp (rCatT K) ta tb) σ (.tup (a :: as ++ b :: bs)) := fun G Q s q => h G _ s fun v G1 s1 hv => k G1 _ (s.trans s1) fun u G2 s2 hu => by
  obtain ⟨p, xs, rfl, hp, hx⟩ := (hv.same (fr_same s2)).tup_inv
  obtain ⟨p2, ys, rfl, hp2, hy⟩ := hu.tup_inv
  have h1 := hx.len
  have h2 := hy.len
  refine ⟨p, p2, xs, ys, rfl, rfl, SqT.of (fr_le _ _ hp), SqT.of (fr_le _ _ hp2), (fun z => by rw [z] at h1; cases h1), (by rw [h1, h2]; exact Nat.le_of_lt (small1000 hl)), (fun z => by rw [z] at h2; cases h2), fun _ l nl => q _ _ ((s1.trans s2).trans (.new nl)) (.tupS (fr_at (dm.same (s.trans (s1.trans s2)) l nl) upd_same) ((hx.app hy).same (fr_same (.new nl))))⟩
theorem hf_list {ta : TA} {ds : List Da} (dm : Dm H G0) (h : HAF H G0 ta σ [.tup ds]) : HTF H G0 (tCB (fun xs H Q => ∃ p ys, xs = [.ref p] ∧ (SqL K H p ys ∨ SqT K H p ys) ∧ ∀ l, H l = none → Q (.ref l) (upd H l (.lst ys))) ta) σ (.lst ds) := fun G Q s q => h G _ s fun vs G1 s1 hv => by
  obtain ⟨x, r, rfl, hx, hr⟩ := hv.cons_inv
  cases hr.nil_inv
  obtain ⟨p, ys, rfl, hp, hy⟩ := hx.tup_inv
  exact ⟨p, ys, rfl, .inr (SqT.of (fr_le _ _ hp)), fun l nl => q _ _ (s1.trans (.new nl)) (.lstS (fr_at (dm.same (s.trans s1) l nl) upd_same) (hy.same (fr_same (.new nl))))⟩
end
theorem no_pair (rs : List (Str × List Int)) : ∀ e ∈ [Da.non, .tup [], .tup [.tup [.str "before", .int 0]], .tup [.tup [.str "before", .int 0], .tup [.str "count", .int 5], .tup [.str "before", .int 0]], .lst [.tup [.str "before", .int 0], .tup [.str "count", .int 5]], .int 7, .str "wish"], wishB rs e = false ∧ okI e :=
  fa_cons ⟨rfl, trivial⟩ (fa_cons ⟨rfl, trivial⟩ (fa_cons ⟨rfl, trivial⟩ (fa_cons ⟨rfl, before0, count5.2⟩ (fa_cons ⟨rfl, trivial⟩ (fa_cons ⟨rfl, trivial⟩ (fa_cons ⟨rfl, trivial⟩ fa_nil))))))
theorem get_of {H : Hp} {ys : List V} {es : List Da} (h : HDs H ys es) {c : Nat} (hc : c < ys.length) : ∃ y e, ys[c]? = some y ∧ e ∈ es ∧ HD H y e := by
  have hl := h.len
  have h1 : ys[c]? = some ys[c] := List.getElem?_eq_getElem hc
  have h2 : es[c]? = some (es[c]'(by omega)) := List.getElem?_eq_getElem _
  exact ⟨_, _, h1, List.mem_of_getElem? h2, h.get c _ _ h1 h2⟩
section
variable {P : Program} {w : World} {K : PySem.W.Frag} {mg : Str → Option Value} {base : Heap}
def spBd : Sp := fun vs H Q _ => ∃ (lx lr : Addr) (ms : List Int) (xs : List V) (ds : List Da), vs = [.ref lx, .ref lr] ∧ H lx = some (.lst (ms.map V.int)) ∧ 2 ≤ ms.length ∧ lr ≠ lx ∧ H lr = some (.lst xs) ∧ HDs (del H lx) xs ds ∧ 1 ≤ ds.length ∧ ds.length ≤ 10 ∧ (∀ d ∈ ds, GR ds.length d) ∧ EndsOk ds ∧ ∀ (v : V) (d : Da) (ms' : List Int) (H' : Hp), Same (del H lx) (del H' lx) → H' lx = some (.lst (ms'.map V.int)) → ms.length ≤ ms'.length + 2 → HD (fr H H') v d → wishB (ds.map rowT) d = false → okI d → Q v H'
theorem scBd : FnScope ["_law_xs", "_law_rows_here", "_law_n", "_law_ends", "_law_places", "_law_r", "_law_whats", "_law_way", "_law_good"] ["_law_xs", "_law_rows_here"] (defScope s_law_bad) := ⟨rfl, rfl, rfl, by decide +kernel, rfl, by decide +kernel, by decide +kernel⟩
def csBdC1 : Scope := { kind := .function, names := [(".0", .local), ("_law_r", .local), ("_law_ways", .globalImplicit), ("_law_rows_here", .free)], isGenerator := false, isCoroutine := false, more := [] }
theorem scBdC1 : CompSc (defScope s_law_bad) csBdC1 ["_law_xs", "_law_rows_here", "_law_n", "_law_ends", "_law_places", "_law_r", "_law_whats", "_law_way", "_law_good"] ["_law_r", "_law_rows_here"] [none, some 1] := ⟨rfl, by decide +kernel, by decide +kernel, by decide +kernel, by decide +kernel, by decide +kernel⟩
def csBdC2 : Scope := { kind := .function, names := [(".0", .local), ("_law_r", .local)], isGenerator := false, isCoroutine := false, more := [] }
theorem scBdC2 : CompSc (defScope s_law_bad) csBdC2 ["_law_xs", "_law_rows_here", "_law_n", "_law_ends", "_law_places", "_law_r", "_law_whats", "_law_way", "_law_good"] ["_law_r"] [none] := ⟨rfl, by decide +kernel, by decide +kernel, by decide +kernel, by decide +kernel, by decide +kernel⟩
def csBdC3 : Scope := { kind := .function, names := [(".0", .local), ("_law_s", .local), ("_law_ways", .globalImplicit), ("_law_r", .free), ("_law_rows_here", .free)], isGenerator := false, isCoroutine := false, more := [] }
theorem scBdC3 : CompSc (defScope s_law_bad) csBdC3 ["_law_xs", "_law_rows_here", "_law_n", "_law_ends", "_law_places", "_law_r", "_law_whats", "_law_way", "_law_good"] ["_law_s", "_law_r", "_law_rows_here"] [none, some 5, some 1] := ⟨rfl, by decide +kernel, by decide +kernel, by decide +kernel, by decide +kernel, by decide +kernel⟩
theorem ok_law_bad {f fZ : Addr} {fd fdZ : FuncData} (F : Fun K "_law_bad" "_law_bad" s_law_bad f fd) (T : Txt K w.params mg) (GZ : FnOk P w K mg base CX0 1 fZ fdZ ["_law_rows_here", "_law_r"] (spWz (K := K))) (kZ : PySem.W.keepIn K (.ref fZ) = true) (bZ : Binds K fdZ ["_law_rows_here", "_law_r"] []) (mZ : mg "_law_ways" = some (.ref fZ)) : FnOk P w K mg base CX0 2 f fd ["_law_xs", "_law_rows_here"] spBd := by
  refine F.ok scBd (fun vs H Q E h => ?_) (fun cdv A outer s H vs Q E hr h => ?_)
  · obtain ⟨lx, lr, ms, xs, ds, rfl, _⟩ := h
    rfl
  · obtain ⟨lx, lr, ms, xs, ds, rfl, hxH, h2, nrx, hlr, hs, hd1, hdn, hgr, hend, k⟩ := h
    have hu6 : (A.deeper (PyProof.Rows.envOfC "_law_bad" (defScope s_law_bad) s.heap.objs.size f cdv)).units + 6 < cLine := Nat.lt_of_le_of_lt (Nat.add_le_add_left (by decide : 6 ≤ 64) _) hr.units
    have hxl := hs.len
    have hsH : HDs H xs ds := hs.same del_le
    have rowOf : ∀ (i : Nat), i < ds.length → ∃ (q : Addr) (u : Str) (ts : List Int), xs[i]? = some (.ref q) ∧ RowAt H q u ts ∧ ts.length ≤ 16 ∧ (ds.map rowT)[i]? = some (u, ts) := fun i hi => by
      have hdi : ds[i]? = some ds[i] := List.getElem?_eq_getElem hi
      have hdm : ds[i] ∈ ds := List.getElem_mem _
      generalize ds[i] = d0 at hdi hdm
      have hxi : xs[i]? = some (xs[i]'(by omega)) := List.getElem?_eq_getElem _
      generalize (xs[i]'(by omega)) = x0 at hxi
      obtain ⟨q0, u0, rfl, hu0, ha0, h16⟩ := row_at (hsH.get i _ _ hxi hdi) (hgr d0 hdm).row
      refine ⟨q0, u0, tgD d0, hxi, ha0, h16, ?_⟩
      rw [List.getElem?_map, hdi]
      show some ((wordD d0).getD "", tgD d0) = _
      rw [hu0]
      rfl
    have wayI : ∀ (i : Nat) (u : Str) (ts : List Int) (t : Int), (ds.map rowT)[i]? = some (u, ts) → (wayB (ds.map rowT) (i : Int) t = true ↔ (¬ u ∈ notOn ∧ t = (i : Int) + 1) ∨ t ∈ ts) := fun i u ts t h => by
      unfold wayB
      rw [Int.toNat_natCast, h]
      show (decide (t ∈ ts) || (!decide (u ∈ notOn) && decide (t = (i : Int) + 1))) = true ↔ _
      rw [Bool.or_eq_true, Bool.and_eq_true, Bool.not_eq_true', decide_eq_false_iff_not, decide_eq_true_iff, decide_eq_true_iff]
      exact ⟨Or.symm, Or.symm⟩
    have way0 : wayB (ds.map rowT) 0 (ds.length : Int) = false := by
      obtain ⟨q, u, ts, _, _, _, h⟩ := rowOf 0 (by omega)
      rw [Bool.eq_false_iff]
      intro z
      have z := (wayI 0 u ts (ds.length : Int) h).mp z
      rw [List.getElem?_map] at h
      obtain ⟨d0, hd0, e0⟩ := Option.map_eq_some_iff.mp h
      have g0 := hgr d0 (List.mem_of_getElem? hd0)
      have e1 : tgD d0 = ts := congrArg (·.2) e0
      have e2 : (wordD d0).getD "" = u := congrArg (·.1) e0
      rcases z with z | z
      · have hl1 : ds.length = 1 := by omega
        have hE := hend d0 (by rw [List.getLast?_eq_getElem?, hl1]; exact hd0)
        obtain ⟨u', ps, rfl⟩ := gr_word g0
        have e2 : u' = u := e2
        subst e2
        have hE : (!decide (u' ∈ notOn)) = false := hE
        rw [decide_eq_false z.1] at hE
        cases hE
      · rw [← e1] at z
        have := (g0.tg _ z).2
        omega
    obtain ⟨np0, np1, np2⟩ := wl3 (no_places (rs := ds.map rowT) (n := ds.length) (by rw [List.length_map]) way0)
    refine wrapX (pssx_cons (psx_of (ps_set (i := 2) scBd.nd rfl (Or.inl rfl) (pe_callB call_len_seq (by rfl) T.len bt_len (pa_cons (pv 1) pa_nil))))
      (pssx_cons (psx_of (ps_comp (i := 3) (N' := ["_law_r", "_law_rows_here"]) (fr := [none, some 1]) scBd.nd rfl rfl scBdC1 rfl (pi_range1 rfl T.range (pa_cons (pv 2) pa_nil)) (fun C s0 H0 fp => (pg_name (i := 0) scBdC1.nd rfl (Or.inl rfl))) (fun C s0 H0 fp => (pts_one (pt_cmpR (r := rEqA K false) (op_eqA hu6) (pe_call GZ hr (by rfl) mZ kZ bZ .nil pass0 (pa_cons (pv 1) (pa_cons (pv 0) pa_nil))) (pe_lst pa_nil) (nomark _)))) (fun C s0 H0 fp => (pv 0))))
      (pssx_cons (psx_of_i (psi_set (i := 4) scBd.nd rfl (Or.inl rfl) (pei_lst (.cons (pe_tup (pa_cons pe_str (pa_cons (pv 2) pa_nil))) (.cons (pe_tup (pa_cons pe_str (pa_cons (pe_un un_neg pe_int) pa_nil))) (.cons (pe_tup (pa_cons pe_str (pa_cons pe_bl pa_nil))) (.cons (pe_tup (pa_cons pe_str pa_nil)) (.cons (pe_tup (pa_cons pe_str (pa_cons (pv 2) pa_nil))) (.cons (pe_tup (pa_cons pe_str (pa_cons pe_int pa_nil))) (.cons (pe_tupS (.cons pe_str (.cons (pv 2) (.cons pe_int .nil)))) .nil))))))))))
      (pssx_cons (psx_of_i (psi_set (i := 4) scBd.nd rfl (Or.inl rfl) (pei_op op_cat (pv 4) (pei_lst (.cons (pe_tupS (.cons pe_str (.cons pe_int (.cons (pv 2) .nil)))) (.cons (pe_tup (pa_cons pe_str (pa_cons pe_int pa_nil))) (.cons (pe_tupS (.cons pe_str (.cons pe_int (.cons pe_int .nil)))) (.cons pe_str (.cons pe_non (.cons (pe_lst (pa_cons pe_str (pa_cons pe_int pa_nil))) (.cons (pe_tup (pa_cons pe_int (pa_cons pe_str pa_nil))) (.cons (pe_tup pa_nil) .nil))))))))))))
      (pssx_cons (psx_of_i (psi_set (i := 4) scBd.nd rfl (Or.inl rfl) (pei_op op_cat (pe_op op_cat (pv 4) (pe_comp (N' := ["_law_r"]) (fr := [none]) scBdC2 rfl (pi_list (pv 3)) (fun C s0 H0 fp => (pg_name (i := 0) scBdC2.nd rfl (Or.inl rfl))) (fun C s0 H0 fp => pts_nil) (fun C s0 H0 fp => (pe_tup (pa_cons pe_str (pa_cons (pv 0) pa_nil)))))) (pei_lst (.cons (pe_tup (pa_cons pe_str (pa_cons pe_str pa_nil))) (.cons (pe_tupS (.cons pe_str (.cons pe_int (.cons pe_int (.cons pe_int .nil))))) (.cons (pe_tup (pa_cons pe_str (pa_cons pe_int pa_nil))) .nil)))))))
      (pssx_cons (psx_of (ps_for PassesOwn.never rfl (pi_range1 rfl T.range (pa_cons (pv 2) pa_nil)) (pg_name (i := 5) scBd.nd rfl (Or.inr rfl)) (pss_one (ps_set (i := 4) scBd.nd rfl (Or.inl rfl) (pe_op op_cat (pv 4) (pe_slice sl_list (pe_comp (N' := ["_law_s", "_law_r", "_law_rows_here"]) (fr := [none, some 5, some 1]) scBdC3 rfl (pi_range1 rfl T.range (pa_cons (pv 2) pa_nil)) (fun C s0 H0 fp => (pg_name (i := 0) scBdC3.nd rfl (Or.inl rfl))) (fun C s0 H0 fp => (pts_one (pt_cmpR (r := rIn K true) op_notIn_seq (pv 0) (pe_call GZ hr (by rfl) mZ kZ bZ .nil pass0 (pa_cons (pv 2) (pa_cons (pv 1) pa_nil))) rfl))) (fun C s0 H0 fp => (pe_tupS (.cons pe_str (.cons (pv 1) (.cons (pv 0) .nil)))))) po_none (po_some pe_int)))))))
      (pssx_cons (psx_of_i (psi_set (i := 6) scBd.nd rfl (Or.inl rfl) (pei_lst (.cons (pe_tup (pa_cons pe_str (pa_cons pe_int pa_nil))) (.cons (pe_tupS (.cons pe_str (.cons pe_int (.cons pe_int .nil)))) (.cons (pe_tupS (.cons pe_str (.cons pe_int (.cons (pe_un un_neg pe_int) .nil)))) (.cons (pe_tupS (.cons pe_str (.cons (pe_un un_neg pe_int) (.cons pe_int .nil)))) (.cons (pe_tupS (.cons pe_str (.cons (pe_op op_add (pe_op op_pow pe_int pe_int) pe_int) (.cons pe_int .nil)))) (.cons (pe_tup (pa_cons pe_str pa_nil)) .nil)))))))))
      (pssx_cons (psx_of_i (psi_set (i := 6) scBd.nd rfl (Or.inl rfl) (pei_op op_cat (pv 6) (pei_lst (.cons (pe_tupS (.cons pe_str (.cons pe_int (.cons pe_int .nil)))) (.cons (pe_tup (pa_cons pe_str (pa_cons pe_bl pa_nil))) (.cons (pe_tup (pa_cons pe_str (pa_cons (pe_un un_neg pe_int) pa_nil))) (.cons (pe_tup (pa_cons pe_str (pa_cons pe_str pa_nil))) (.cons (pe_tup (pa_cons pe_str (pa_cons pe_int pa_nil))) (.cons (pe_tupS (.cons pe_str (.cons pe_int (.cons pe_bl .nil)))) .nil))))))))))
      (pssx_cons (psx_of_i (psi_set (i := 6) scBd.nd rfl (Or.inl rfl) (pei_op op_cat (pv 6) (pei_lst (.cons (pe_tupS (.cons pe_str (.cons pe_int (.cons pe_int .nil)))) (.cons (pe_lst (pa_cons pe_str (pa_cons pe_int pa_nil))) (.cons pe_non (.cons pe_str (.cons (pe_tup pa_nil) (.cons (pe_tupS (.cons pe_str (.cons pe_int (.cons pe_int (.cons pe_int .nil))))) (.cons (pe_tupS (.cons pe_str (.cons (pe_op op_add (pe_op op_pow pe_int pe_int) pe_int) (.cons pe_int .nil)))) .nil)))))))))))
      (pssx_cons (psx_of (ps_set (i := 7) scBd.nd rfl (Or.inl rfl) (pe_op op_mod (pe_op op_fdivB (pe_bm0 PySem.F.plainAttrs_list PySem.F.slot_list_pop PySem.F.type_list_pop mt_pop (pv 0)) pe_int) pe_int)))
      (pssx_cons (psx_if (pt_cmpR op_eq (pv 7) pe_int (nomark _)) (pssx_one (psx_of (ps_ret (pe_tup (pa_cons (pe_ix ix_list (pv 4) (pe_op op_mod (pe_op op_fdivB (pe_bm0 PySem.F.plainAttrs_list PySem.F.slot_list_pop PySem.F.type_list_pop mt_pop (pv 0)) pe_int) (pe_callB call_len_seq (by rfl) T.len bt_len (pa_cons (pv 4) pa_nil))) (fun _ _ => rfl)) (pa_cons (pe_tup (pa_cons pe_str (pa_cons pe_int pa_nil))) pa_nil)))))) (pssx_nil pss_nil))
      (pssx_cons (psx_if (pt_cmpR op_eq (pv 7) pe_int (nomark _)) (pssx_one (psx_of (ps_ret (pe_tup (pa_cons (pe_tup (pa_cons pe_str (pa_cons pe_int pa_nil))) (pa_cons (pe_ix ix_list (pv 6) (pe_op op_mod (pe_op op_fdivB (pe_bm0 PySem.F.plainAttrs_list PySem.F.slot_list_pop PySem.F.type_list_pop mt_pop (pv 0)) pe_int) (pe_callB call_len_seq (by rfl) T.len bt_len (pa_cons (pv 6) pa_nil))) (fun _ _ => rfl)) pa_nil)))))) (pssx_nil pss_nil))
      (pssx_cons (psx_of (ps_set (i := 8) scBd.nd rfl (Or.inl rfl) (pe_tup (pa_cons (pe_tup (pa_cons pe_str (pa_cons pe_int pa_nil))) (pa_cons (pe_tup (pa_cons pe_str (pa_cons pe_int pa_nil))) pa_nil)))))
      (pssx_one (psx_of_i (psi_ret (pei_ix ix_list (pei_lst (.cons pe_non (.cons (pe_tup pa_nil) (.cons (pe_slice sl_tup (pv 8) po_none (po_some pe_int)) (.cons (pe_op op_catT (pv 8) (pe_slice sl_tup (pv 8) po_none (po_some pe_int))) (.cons (pe_callTy call_list_of (by rfl) T.list bt_list (pa_cons (pv 8) pa_nil)) (.cons pe_int (.cons pe_str .nil)))))))) (pe_op op_mod (pe_op op_fdivB (pe_bm0 PySem.F.plainAttrs_list PySem.F.slot_list_pop PySem.F.type_list_pop mt_pop (pv 0)) pe_int) pe_int) (fun _ _ => rfl)))))))))))))))))) ?_
    refine ⟨_, rfl, lr, _, rfl, .inl (SqL.of hlr), ?_⟩
    show gName _ (.int ((xs.length : Nat) : Int)) _ _ _
    rw [hxl]
    refine ⟨_, rfl, _, rfl, by omega, by omega, fun D nD => ?_⟩
    refine comp_range (lo := 0) (n := ((ds.length : Nat) : Int).toNat) (fun i σ ys G => ∃ (v : Option V) (js : List Int), σ = [v, some (.ref lr)] ∧ ys = js.map V.int ∧ js.length ≤ i ∧ (∀ j ∈ js, hasW (ds.map rowT) j = false) ∧ Same H G ∧ G D = some (.lst ys)) ?_ ?_ ?_
    · exact ⟨none, [], rfl, rfl, Nat.zero_le _, fun j hj => absurd hj List.not_mem_nil, same_new nD, upd_same⟩
    · rintro i σ ys G hi ⟨v, js, rfl, rfl, hjl, hjs, S1, hD⟩
      have hin : i < ds.length := by rw [Int.toNat_natCast] at hi; exact hi
      have e0 : (0 : Int) + (i : Int) = (i : Int) := by omega
      rw [e0]
      obtain ⟨q, u, ts, hxq, hR, h16, hrw⟩ := rowOf i hin
      refine ⟨_, rfl, _, rfl, lr, q, xs, i, u, ts, rfl, SqL.of (S1 _ _ hlr), hxq, hR.same S1, h16, fun l ms1 G1 s1 nl hl hml hmm => ?_⟩
      have S2 := S1.trans s1
      refine ⟨Nat.le_of_ble_eq_true rfl, fun l1 n1 => ?_⟩
      have v1 := same_new (o := .lst []) n1
      have hl1 : upd G1 l1 (.lst []) l1 = _ := upd_same
      have hl2 := v1 _ _ hl
      have S3 := S2.trans v1
      have hD3 := v1 _ _ (s1 _ _ hD)
      generalize upd G1 l1 (.lst []) = G3 at hl1 hl2 S3 hD3 ⊢
      refine ⟨1, l, l1, .lst (ms1.map Da.int), .lst [], rfl, rfl, (HD.lstS hl2 (ints_hd ms1)).da K, (HD.lstS hl1 .nil).da K, .lst (fun d hd => by
        obtain ⟨n, _, rfl⟩ := List.mem_map.mp hd
        exact .int), .lst (fun d hd => by cases hd), by decide, _, rfl, ?_⟩
      by_cases hne : ms1 = []
      · refine iteP (by rw [decide_eq_true (by rw [hne]; rfl)]; rfl) ?_
        refine ⟨_, rfl, hD3, small_lt (by rw [List.length_map]; omega), _, js ++ [(i : Int)], rfl, by rw [List.map_append]; rfl, by rw [List.length_append]; exact Nat.succ_le_succ hjl, ?_, same_put S3 nD, upd_same⟩
        refine fa_app hjs fun j hj => ?_
        rw [List.mem_singleton.mp hj]
        unfold hasW
        rw [Int.toNat_natCast, hrw]
        show (!decide (ts = []) || !decide (u ∈ notOn)) = false
        have e1 : ts = [] := List.eq_nil_iff_forall_not_mem.mpr fun t ht => by
          have := (hmm t).mpr (.inr ht)
          rw [hne] at this
          cases this
        have e2 : u ∈ notOn := Classical.byContradiction fun z => by
          have := (hmm ((i : Int) + 1)).mpr (.inl ⟨z, rfl⟩)
          rw [hne] at this
          cases this
        rw [decide_eq_true e1, decide_eq_true e2]
        rfl
      · refine iteN (by rw [decide_eq_false (fun z => hne (List.map_eq_nil_iff.mp (Da.lst.inj z)))]; decide) ?_
        exact ⟨_, js, rfl, rfl, by omega, hjs, S3, hD3⟩
    rintro σ ys G ⟨v, js, rfl, rfl, hjl, hjs, S1, hle⟩
    rw [Int.toNat_natCast] at hjl
    have hdm : Dm H G := Same.dm S1
    show gName _ _ _ _ _
    first | refine set_next (asg_next ?_) | refine set_next (asg_seq ?_)
    refine lst_goF (H := H) (ta := tAll _) (ds := PL0 ds.length) (haf_cons (hf_tup hdm (haf_cons hf_str (haf_cons (hf_var rfl (.int _)) haf_nil))) (haf_cons (hf_tup hdm (haf_cons hf_str (haf_cons (hf_un (g := fun i => -i) hf_int) haf_nil))) (haf_cons (hf_tup hdm (haf_cons hf_str (haf_cons hf_bl haf_nil))) (haf_cons (hf_tup hdm (haf_cons hf_str haf_nil)) (haf_cons (hf_tup hdm (haf_cons hf_str (haf_cons (hf_var rfl (.int _)) haf_nil))) (haf_cons (hf_tup hdm (haf_cons hf_str (haf_cons hf_int haf_nil))) (haf_cons (hf_tup hdm (haf_cons hf_str (haf_cons (hf_var rfl (.int _)) (haf_cons hf_int haf_nil)))) haf_nil))))))) fun lp zs G2 s2 nlp hlp hzs => ?_
    show gName _ _ _ _ _
    first | refine set_next (asg_next ?_) | refine set_next (asg_seq ?_)
    have S2 := S1.trans s2
    clear hdm
    have hdm : Dm H G2 := Same.dm S2
    have hp0 := np0
    refine ⟨_, rfl, lst_goF (H := H) (ta := tAll _) (ds := PL1 ds.length) (haf_cons (hf_tup hdm (haf_cons hf_str (haf_cons hf_int (haf_cons (hf_var rfl (.int _)) haf_nil)))) (haf_cons (hf_tup hdm (haf_cons hf_str (haf_cons hf_int haf_nil))) (haf_cons (hf_tup hdm (haf_cons hf_str (haf_cons hf_int (haf_cons hf_int haf_nil)))) (haf_cons hf_str (haf_cons hf_non (haf_cons (hf_lst hdm (haf_cons hf_str (haf_cons hf_int haf_nil))) (haf_cons (hf_tup hdm (haf_cons hf_int (haf_cons hf_str haf_nil))) (haf_cons (hf_tup hdm haf_nil) haf_nil)))))))) fun l2 ys2 G3 s3 nl2 hl2 hys2 => ⟨lp, l2, _, _, rfl, rfl, s3 _ _ hlp, hl2, ?_, fun lp2 nlp2 => ?_⟩⟩
    · rw [hzs.len, hys2.len]
      exact Nat.le_of_lt (small1000 (Nat.le_of_ble_eq_true rfl))
    have S3 := S2.trans s3
    have w3 := same_new (o := .lst (zs ++ ys2)) nlp2
    have hlp3 : upd G3 lp2 (.lst (zs ++ ys2)) lp2 = _ := upd_same
    have hz3 := (((hzs.same (fr_same s3)).app hys2).same (fr_same (H := H) w3))
    have nlpH : H lp2 = none := S3.free nlp2
    have S4 := S3.trans w3
    have hle4 := w3 _ _ (s3 _ _ (s2 _ _ hle))
    have hes : ∀ e ∈ PL0 ds.length ++ PL1 ds.length, okP e ∧ placeB (ds.map rowT) e = false := fa_app np0 np1
    have hel : (PL0 ds.length ++ PL1 ds.length).length = 15 := rfl
    generalize upd G3 lp2 (.lst (zs ++ ys2)) = G4 at hlp3 hz3 S4 hle4 ⊢
    generalize zs ++ ys2 = zs4 at hlp3 hz3
    generalize PL0 ds.length ++ PL1 ds.length = es4 at hz3 hes hel
    clear hzs hys2 s3 s2 S3 S2 S1 hle hlp hl2 nlp2 w3 hdm
    show gName _ _ _ _ _
    first | refine set_next (asg_next ?_) | refine set_next (asg_seq ?_)
    refine ⟨_, rfl, _, rfl, D, rfl, ⟨_, SqL.of hle4⟩, fun D2 nD2 => comp_list (K := K) (a := D) (xs := js.map V.int) (fun i σ ys G => ∃ v : Option V, σ = [v] ∧ HDs (fr H G) ys ((js.take i).map fun j => .tup [.str "after", .int j]) ∧ Same G4 G ∧ G D2 = some (.lst ys)) ?_ ?_ ?_ ?_⟩
    · exact ⟨none, rfl, .nil, same_new nD2, upd_same⟩
    · rintro i σ ys G _ ⟨v, rfl, _, s5, _⟩
      exact SqL.of (s5 _ _ hle4)
    · rintro i x σ ys G hx ⟨v, rfl, hys, s5, hD5⟩
      rw [List.getElem?_map] at hx
      obtain ⟨j, hj, rfl⟩ := Option.map_eq_some_iff.mp hx
      have hij := (List.getElem?_eq_some_iff.mp hj).1
      refine ⟨_, rfl, Nat.le_of_ble_eq_true rfl, fun t nt => ?_⟩
      have v5 := same_new (o := .tup [V.str "after", .int j]) nt
      have ht : upd G t (.tup [V.str "after", .int j]) t = _ := upd_same
      have hD6 := v5 _ _ hD5
      have s6 := s5.trans v5
      have hys6 := hys.same (fr_same (H := H) v5)
      have ntH : H t = none := (S4.trans s5).free nt
      generalize upd G t (.tup [V.str "after", .int j]) = G6 at ht hD6 s6 hys6 ⊢
      have nDH : H D2 = none := S4.free nD2
      have hyl := hys.len
      rw [List.length_map, List.length_take] at hyl
      refine ⟨hD6, small_lt (by omega), _, rfl, ?_, same_put s6 nD2, upd_same⟩
      rw [fr_upd nDH, List.take_add_one, hj, List.map_append]
      refine HDs.putT (hys6.app (.cons (.tupS (fr_at ntH ht) (.cons (.str _) (.cons (.int _) .nil))) .nil)) (fr_at nDH hD6) fun e he => ?_
      rcases List.mem_append.mp he with z | z
      · obtain ⟨j', _, rfl⟩ := List.mem_map.mp z
        exact nt2 j'
      · rw [List.mem_singleton.mp z]
        exact nt2 j
    rintro σ ys5 G5 ⟨v5, rfl, hys5, s5, hD5⟩
    rw [List.length_map, List.take_length] at hys5
    have hyl5 := hys5.len
    rw [List.length_map] at hyl5
    have hzl4 := hz3.len
    have S5 := S4.trans s5
    refine ⟨lp2, D2, _, _, rfl, rfl, s5 _ _ hlp3, hD5, Nat.le_of_lt (small_lt (by omega)), fun l6 n6 => ?_⟩
    have w6 := same_new (o := .lst (zs4 ++ ys5)) n6
    have h6 : upd G5 l6 (.lst (zs4 ++ ys5)) l6 = _ := upd_same
    have hz6 := ((hz3.same (fr_same s5)).app hys5).same (fr_same (H := H) w6)
    have S6 := S5.trans w6
    have hes6 : ∀ e ∈ es4 ++ js.map (fun j => Da.tup [.str "after", .int j]), okP e ∧ placeB (ds.map rowT) e = false := fa_app hes fun e he => by
      obtain ⟨j, hj, rfl⟩ := List.mem_map.mp he
      exact ⟨okp (by decide +kernel), np_after (hjs j hj)⟩
    have hel6 : (es4 ++ js.map (fun j => Da.tup [.str "after", .int j])).length ≤ 25 := by rw [List.length_append, List.length_map]; omega
    generalize upd G5 l6 (.lst (zs4 ++ ys5)) = G6 at h6 hz6 S6 ⊢
    generalize zs4 ++ ys5 = zs6 at h6 hz6
    generalize es4 ++ js.map (fun j => Da.tup [.str "after", .int j]) = es6 at hz6 hes6 hel6
    have hdm : Dm H G6 := Same.dm S6
    clear hys5 hD5 hz3 hes hlp3 hle4 s5 S5 S4 w6
    refine lst_goF (H := H) (ta := tAll _) (ds := PL2 ds.length) (haf_cons (hf_tup hdm (haf_cons hf_str (haf_cons hf_str haf_nil))) (haf_cons (hf_tup hdm (haf_cons hf_str (haf_cons hf_int (haf_cons hf_int (haf_cons hf_int haf_nil))))) (haf_cons (hf_tup hdm (haf_cons hf_str (haf_cons hf_int haf_nil))) haf_nil))) fun l7 ys7 G7 s7 nl7 hl7 hys7 => ⟨l6, l7, _, _, rfl, rfl, s7 _ _ h6, hl7, ?_, fun l8 n8 => ?_⟩
    · rw [hz6.len, hys7.len]
      exact Nat.le_of_lt (small_lt (by have : (PL2 ds.length).length = 3 := rfl; omega))
    have w8 := same_new (o := .lst (zs6 ++ ys7)) n8
    have h8 : upd G7 l8 (.lst (zs6 ++ ys7)) l8 = _ := upd_same
    have hz8 := ((hz6.same (fr_same s7)).app hys7).same (fr_same (H := H) w8)
    have S8 := (S6.trans s7).trans w8
    have n8H : H l8 = none := (S6.trans s7).free n8
    have hes8 := fa_app hes6 np2
    have hel8 : (es6 ++ PL2 ds.length).length ≤ 28 ∧ 1 ≤ (es6 ++ PL2 ds.length).length := by
      rw [List.length_append]
      have : (PL2 ds.length).length = 3 := rfl
      omega
    generalize upd G7 l8 (.lst (zs6 ++ ys7)) = G8 at h8 hz8 S8 ⊢
    generalize zs6 ++ ys7 = zs8 at h8 hz8
    generalize es6 ++ PL2 ds.length = es8 at hz8 hes8 hel8
    clear hz6 hes6 hel6 h6 s7 hl7 hys7 S6 hdm w8
    refine ⟨_, rfl, _, rfl, by omega, by omega, ?_⟩
    refine for_range (lo := 0) (n := ((ds.length : Nat) : Int).toNat) (fun i σ G => ∃ (v : Option V) (lp : Addr) (zs : List V) (es : List Da), σ = [some (.ref lx), some (.ref lr), some (.int (ds.length : Int)), some (.ref D), some (.ref lp), v, none, none, none] ∧ Same H G ∧ H lp = none ∧ G lp = some (.lst zs) ∧ HDs (fr H G) zs es ∧ (∀ e ∈ es, okP e ∧ placeB (ds.map rowT) e = false) ∧ es.length ≤ 28 + i ∧ 1 ≤ es.length) ?_ ?_ ?_
    · exact ⟨none, l8, zs8, es8, rfl, S8, n8H, h8, hz8, hes8, by omega, hel8.2⟩
    · rintro r σ G hi ⟨v, lp, zs, es, rfl, S1, nlpH, hlp, hz, hes, hel, hel1⟩
      have hin : r < ds.length := by rw [Int.toNat_natCast] at hi; exact hi
      have e0 : (0 : Int) + (r : Int) = (r : Int) := by omega
      rw [e0]
      obtain ⟨q, u, ts, hxq, hR, h16, hrw⟩ := rowOf r hin
      refine ⟨_, rfl, _, rfl, _, rfl, by omega, by omega, fun D3 nD3 => ?_⟩
      have nDH : H D3 = none := S1.free nD3
      refine comp_range (lo := 0) (n := ((ds.length : Nat) : Int).toNat) (fun i σ ys G' => ∃ (v : Option V) (es2 : List Da), σ = [v, some (.int (r : Int)), some (.ref lr)] ∧ HDs (fr H G') ys es2 ∧ (∀ e ∈ es2, Nt e ∧ okP e ∧ placeB (ds.map rowT) e = false) ∧ es2.length ≤ i ∧ Same G G' ∧ G' D3 = some (.lst ys)) ?_ ?_ ?_
      · exact ⟨none, [], rfl, .nil, fun e he => absurd he List.not_mem_nil, Nat.zero_le _, same_new nD3, upd_same⟩
      · rintro i σ ys G' hi' ⟨v', es2, rfl, hys, hes2, hel2, s2, hD⟩
        have hin' : i < ds.length := by rw [Int.toNat_natCast] at hi'; exact hi'
        have e0' : (0 : Int) + (i : Int) = (i : Int) := by omega
        rw [e0']
        have S2 := S1.trans s2
        refine ⟨_, rfl, _, rfl, _, rfl, lr, q, xs, r, u, ts, rfl, SqL.of (S2 _ _ hlr), hxq, hR.same S2, h16, fun l ms1 G1 s3 nl hl hml hmm => ?_⟩
        refine ⟨l, ms1.map V.int, rfl, .inl (SqL.of hl), rfl, by rw [List.all_map]; exact List.all_eq_true.mpr fun _ _ => rfl, _, rfl, ?_⟩
        have ein : (if true = true then !inV (.int (i : Int)) (ms1.map V.int) else inV (.int (i : Int)) (ms1.map V.int)) = !decide ((i : Int) ∈ ms1) := by rw [if_pos rfl, inV_int]
        rw [ein]
        have hD3 := s3 _ _ hD
        have hys3 := hys.same (fr_same (H := H) s3)
        by_cases hm : (i : Int) ∈ ms1
        · refine iteN (by rw [decide_eq_true hm]; decide) ?_
          exact ⟨_, es2, rfl, hys3, hes2, by omega, s2.trans s3, hD3⟩
        · refine iteP (by rw [decide_eq_false hm]; rfl) ?_
          refine ⟨_, rfl, _, rfl, Nat.le_of_ble_eq_true rfl, fun t nt => ?_⟩
          have v5 := same_new (o := .tup [V.str "way", .int (r : Int), .int (i : Int)]) nt
          have ht : upd G1 t (.tup [V.str "way", .int (r : Int), .int (i : Int)]) t = _ := upd_same
          have hD6 := v5 _ _ hD3
          have s6 := (s2.trans s3).trans v5
          have hys6 := hys3.same (fr_same (H := H) v5)
          have ntH : H t = none := (S2.trans s3).free nt
          generalize upd G1 t (.tup [V.str "way", .int (r : Int), .int (i : Int)]) = G6 at ht hD6 s6 hys6 ⊢
          have hyl := hys.len
          have hes6 : ∀ e ∈ es2 ++ [Da.tup [.str "way", .int (r : Int), .int (i : Int)]], Nt e ∧ okP e ∧ placeB (ds.map rowT) e = false := fa_app hes2 fun e he => by
            rw [List.mem_singleton.mp he]
            refine ⟨nt3 _ _, okp (by decide +kernel), np_wayN (Bool.eq_false_iff.mpr fun z => hm ((hmm _).mpr ((wayI r u ts _ hrw).mp z)))⟩
          refine ⟨hD6, small_lt (by omega), _, es2 ++ [Da.tup [.str "way", .int (r : Int), .int (i : Int)]], rfl, ?_, hes6, by rw [List.length_append]; exact Nat.succ_le_succ hel2, same_put s6 nD3, upd_same⟩
          rw [fr_upd nDH]
          exact HDs.putT (hys6.app (.cons (.tupS (fr_at ntH ht) (.cons (.str _) (.cons (.int _) (.cons (.int _) .nil)))) .nil)) (fr_at nDH hD6) fun e he => (hes6 e he).1
      rintro σ ys G' ⟨v', es2, rfl, hys, hes2, hel2, s2, hD⟩
      rw [Int.toNat_natCast] at hel2
      refine ⟨_, rfl, D3, _, rfl, SqL.of hD, fun lc nlc => ?_⟩
      rw [show cutV ys none (some 1) = ys.take 1 from cut_take ys 1]
      have w3 := same_new (o := .lst (ys.take 1)) nlc
      have hlc : upd G' lc (.lst (ys.take 1)) lc = _ := upd_same
      have hys3 := (HDs.take 1 hys).same (fr_same (H := H) w3)
      have s3 := s2.trans w3
      generalize upd G' lc (.lst (ys.take 1)) = G3 at hlc hys3 s3 ⊢
      have hzl := hz.len
      have hl3 := hys3.len
      have htk : (es2.take 1).length ≤ 1 := by rw [List.length_take]; omega
      refine ⟨lp, lc, _, _, rfl, rfl, s3 _ _ hlp, hlc, Nat.le_of_lt (small_lt (by omega)), fun l4 n4 => ?_⟩
      have w4 := same_new (o := .lst (zs ++ ys.take 1)) n4
      refine ⟨_, l4, zs ++ ys.take 1, es ++ es2.take 1, rfl, (S1.trans s3).trans w4, (S1.trans s3).free n4, upd_same, ((hz.same (fr_same s3)).app hys3).same (fr_same w4), fa_app hes fun e he => (hes2 e (List.mem_of_mem_take he)).2, by rw [List.length_append]; omega, by rw [List.length_append]; omega⟩
    rintro σ G ⟨v, lp, zs, es, rfl, S1, nlpH, hlp, hz, hes, hel, hel1⟩
    rw [Int.toNat_natCast] at hel
    clear hz8 hes8 hel8 h8 S8 n8H n8 nD2 n6 nl7 nl2 nlp hjs hjl
    have hdm : Dm H G := Same.dm S1
    refine asg_next (lst_goF (H := H) (ta := tAll _) (ds := WL0) (haf_cons (hf_tup hdm (haf_cons hf_str (haf_cons hf_int haf_nil))) (haf_cons (hf_tup hdm (haf_cons hf_str (haf_cons hf_int (haf_cons hf_int haf_nil)))) (haf_cons (hf_tup hdm (haf_cons hf_str (haf_cons hf_int (haf_cons (hf_un (g := fun i => -i) hf_int) haf_nil)))) (haf_cons (hf_tup hdm (haf_cons hf_str (haf_cons (hf_un (g := fun i => -i) hf_int) (haf_cons hf_int haf_nil)))) (haf_cons (hf_tup hdm (haf_cons hf_str (haf_cons (hf_op (g := fun i j => i + j) (hf_opC (g := fun i j => i ^ j.toNat) hf_int hf_int cp6) hf_int) (haf_cons hf_int haf_nil)))) (haf_cons (hf_tup hdm (haf_cons hf_str haf_nil)) haf_nil)))))) fun la ya Ga sa na ha hya => ?_)
    show gName _ _ _ _ _
    first | refine set_next (asg_next ?_) | refine set_next (asg_seq ?_)
    clear hdm
    have Sa := S1.trans sa
    have hdm : Dm H Ga := Same.dm Sa
    refine ⟨_, rfl, lst_goF (H := H) (ta := tAll _) (ds := WL1) (haf_cons (hf_tup hdm (haf_cons hf_str (haf_cons hf_int (haf_cons hf_int haf_nil)))) (haf_cons (hf_tup hdm (haf_cons hf_str (haf_cons hf_bl haf_nil))) (haf_cons (hf_tup hdm (haf_cons hf_str (haf_cons (hf_un (g := fun i => -i) hf_int) haf_nil))) (haf_cons (hf_tup hdm (haf_cons hf_str (haf_cons hf_str haf_nil))) (haf_cons (hf_tup hdm (haf_cons hf_str (haf_cons hf_int haf_nil))) (haf_cons (hf_tup hdm (haf_cons hf_str (haf_cons hf_int (haf_cons hf_bl haf_nil)))) haf_nil)))))) fun lb yb Gb sb nb hb hyb => ⟨la, lb, _, _, rfl, rfl, sb _ _ ha, hb, ?_, fun lc nc => ?_⟩⟩
    · rw [hya.len, hyb.len]
      exact Nat.le_of_lt (small1000 (Nat.le_of_ble_eq_true rfl))
    have Sb := Sa.trans sb
    have wc := same_new (o := .lst (ya ++ yb)) nc
    have hc : upd Gb lc (.lst (ya ++ yb)) lc = _ := upd_same
    have hyc := ((hya.same (fr_same sb)).app hyb).same (fr_same (H := H) wc)
    have Sc := Sb.trans wc
    have hlpc := wc _ _ (sb _ _ (sa _ _ hlp))
    have hzc := ((hz.same (fr_same sa)).same (fr_same sb)).same (fr_same (H := H) wc)
    generalize upd Gb lc (.lst (ya ++ yb)) = Gc at hc hyc Sc hlpc hzc ⊢
    clear hdm
    have hdm : Dm H Gc := Same.dm Sc
    show gName _ _ _ _ _
    first | refine set_next (asg_next ?_) | refine set_next (asg_seq ?_)
    refine ⟨_, rfl, lst_goF (H := H) (ta := tAll _) (ds := WL2) (haf_cons (hf_tup hdm (haf_cons hf_str (haf_cons hf_int (haf_cons hf_int haf_nil)))) (haf_cons (hf_lst hdm (haf_cons hf_str (haf_cons hf_int haf_nil))) (haf_cons hf_non (haf_cons hf_str (haf_cons (hf_tup hdm haf_nil) (haf_cons (hf_tup hdm (haf_cons hf_str (haf_cons hf_int (haf_cons hf_int (haf_cons hf_int haf_nil))))) (haf_cons (hf_tup hdm (haf_cons hf_str (haf_cons (hf_op (g := fun i j => i + j) (hf_opC (g := fun i j => i ^ j.toNat) hf_int hf_int cp6) hf_int) (haf_cons hf_int haf_nil)))) haf_nil))))))) fun ld yd Gd sd nd hd hyd => ⟨lc, ld, _, _, rfl, rfl, sd _ _ hc, hd, ?_, fun lw nw => ?_⟩⟩
    · rw [hyc.len, hyd.len]
      exact Nat.le_of_lt (small1000 (Nat.le_of_ble_eq_true rfl))
    have we := same_new (o := .lst ((ya ++ yb) ++ yd)) nw
    have hw : upd Gd lw (.lst ((ya ++ yb) ++ yd)) lw = _ := upd_same
    have hws := ((hyc.same (fr_same sd)).app hyd).same (fr_same (H := H) we)
    have Se := (Sc.trans sd).trans we
    have nwH : H lw = none := (Sc.trans sd).free nw
    have hlpe := we _ _ (sd _ _ hlpc)
    have hze := (hzc.same (fr_same sd)).same (fr_same (H := H) we)
    have hwl := hws.len
    generalize upd Gd lw (.lst ((ya ++ yb) ++ yd)) = Ge at hw hws Se hlpe hze ⊢
    have hwn : ∀ d ∈ WL0 ++ WL1 ++ WL2, okW d ∧ whatB d = false := no_whats
    have hwl : ((ya ++ yb) ++ yd).length = 19 := hwl
    generalize (ya ++ yb) ++ yd = yw at hw hws hwl
    generalize WL0 ++ WL1 ++ WL2 = dw at hws hwn
    clear hdm hya hyb hyd hyc hzc hlpc hz hlp hc hd ha hb sa sb sd wc we Sa Sb Sc nd nc nb na S1 nw
    -- the first pop
    obtain ⟨a1, m1, p1, q1, r1⟩ := pop_go (ms := ms) (by omega)
    have hxe := Se _ _ hxH
    refine ⟨_, rfl, .inl ⟨rfl, _, SqL.of hxe⟩, lx, _, _, rfl, rfl, hxe, p1, ?_⟩
    rw [q1]
    have nep : lp ≠ lx := fun z => by rw [z, hxH] at nlpH; cases nlpH
    have new : lw ≠ lx := fun z => by rw [z, hxH] at nwH; cases nwH
    have hx1 : upd Ge lx (.lst (m1.map V.int)) lx = _ := upd_same
    have hp1 : upd Ge lx (.lst (m1.map V.int)) lp = _ := (upd_ne nep).trans hlpe
    have hw1 : upd Ge lx (.lst (m1.map V.int)) lw = _ := (upd_ne new).trans hw
    have hz1 := hze.same (fr_old (o := .lst (m1.map V.int)) hxH)
    have hws1 := hws.same (fr_old (o := .lst (m1.map V.int)) hxH)
    have T1 := (same_del (l := lx) Se).trans (del_put (o := .lst (m1.map V.int)))
    have dm1 : Dm H (upd Ge lx (.lst (m1.map V.int))) := (Same.dm Se).put
    generalize upd Ge lx (.lst (m1.map V.int)) = G1 at hx1 hp1 hw1 hz1 hws1 T1 dm1 ⊢
    refine ⟨_, _, rfl, rfl, ⟨by show (0 : Int) < 3; decide, by show (3 : Int) < _; decide⟩, _, _, rfl, rfl, (by show (0 : Int) < 3; decide), ?_⟩
    have hzl := hz1.len
    have fin : ∀ (b : Da) (v : V) (t : Addr) (G G' : Hp) (m2 : List Int) (xs : List V), Same G1 G → True → True := fun _ _ _ _ _ _ _ _ _ => trivial
    clear fin
    refine ⟨_, rfl, rfl, _, rfl, ite2 (fun _ => ?_) (fun _ => ?_)⟩
    · -- a place
      obtain ⟨a2, m2, p2, q2, r2⟩ := pop_go (ms := m1) (by omega)
      refine ⟨_, rfl, _, rfl, .inl ⟨rfl, _, SqL.of hx1⟩, lx, _, _, rfl, rfl, hx1, p2, ?_⟩
      rw [q2]
      have hx2 : upd G1 lx (.lst (m2.map V.int)) lx = _ := upd_same
      have hp2 : upd G1 lx (.lst (m2.map V.int)) lp = _ := (upd_ne nep).trans hp1
      have hz2 := hz1.same (fr_old (o := .lst (m2.map V.int)) hxH)
      have T2 := T1.trans (del_put (o := .lst (m2.map V.int)))
      have dm2 : Dm H (upd G1 lx (.lst (m2.map V.int))) := dm1.put
      generalize upd G1 lx (.lst (m2.map V.int)) = G2 at hx2 hp2 hz2 T2 dm2 ⊢
      obtain ⟨c, hc, hcl⟩ := modN (a2 / 3) (n := zs.length) (by omega)
      obtain ⟨y, e, hy, he, hye⟩ := get_of hz2 hcl
      refine ⟨_, _, rfl, rfl, ⟨by show (0 : Int) < 3; decide, by show (3 : Int) < _; decide⟩, _, rfl, lp, _, rfl, .inl (SqL.of hp2), _, _, rfl, rfl, (by show (0 : Int) < ((zs.length : Nat) : Int); omega), lp, _, _, y, rfl, rfl, SqL.of hp2, ?_, Nat.le_of_ble_eq_true rfl, fun tc ntc => ?_⟩
      · show atI _ (a2 / 3 % ((zs.length : Nat) : Int)) = _
        rw [hc]
        exact atI_nat hy
      have w3 := same_new (o := .tup [V.str "count", .int 5]) ntc
      have h3 : upd G2 tc (.tup [V.str "count", .int 5]) tc = _ := upd_same
      have hx3 := w3 _ _ hx2
      have hye3 := hye.same (fr_same (H := H) w3)
      have T3 := T2.trans (same_del (l := lx) w3)
      have dm3 := dm2.same w3
      have ntH := dm2 _ ntc
      generalize upd G2 tc (.tup [V.str "count", .int 5]) = G3 at h3 hx3 hye3 T3 dm3 ⊢
      refine ⟨Nat.le_of_ble_eq_true rfl, fun tr ntr => ?_⟩
      have w4 := same_new (o := .tup [y, V.ref tc]) ntr
      refine k (.ref tr) (.tup [e, .tup [.str "count", .int 5]]) m2 _ (T3.trans (same_del w4)) (w4 _ _ hx3) (by omega) (.tupS (fr_at (dm3 _ ntr) upd_same) (.cons (hye3.same (fr_same w4)) (.cons (.tupS (fr_at ntH (w4 _ _ h3)) (.cons (.str _) (.cons (.int _) .nil))) .nil))) ?_ ⟨(hes e he).1, count5.2⟩
      show (placeB (ds.map rowT) e && _) = false
      rw [(hes e he).2]
      rfl
    refine ⟨_, rfl, rfl, _, rfl, ite2 (fun _ => ?_) (fun _ => ?_)⟩
    · -- a what
      refine ⟨Nat.le_of_ble_eq_true rfl, fun tc ntc => ?_⟩
      have w3 := same_new (o := .tup [V.str "before", .int 0]) ntc
      have h3 : upd G1 tc (.tup [V.str "before", .int 0]) tc = _ := upd_same
      have hx3 := w3 _ _ hx1
      have hw3 := w3 _ _ hw1
      have hws3 := hws1.same (fr_same (H := H) w3)
      have T3 := T1.trans (same_del (l := lx) w3)
      have dm3 := dm1.same w3
      have ntH := dm1 _ ntc
      generalize upd G1 tc (.tup [V.str "before", .int 0]) = G3 at h3 hx3 hw3 hws3 T3 dm3 ⊢
      obtain ⟨a2, m2, p2, q2, r2⟩ := pop_go (ms := m1) (by omega)
      refine ⟨_, rfl, _, rfl, .inl ⟨rfl, _, SqL.of hx3⟩, lx, _, _, rfl, rfl, hx3, p2, ?_⟩
      rw [q2]
      have net : tc ≠ lx := fun z => by rw [z, hxH] at ntH; cases ntH
      have hx2 : upd G3 lx (.lst (m2.map V.int)) lx = _ := upd_same
      have hw2 : upd G3 lx (.lst (m2.map V.int)) lw = _ := (upd_ne new).trans hw3
      have h2 : upd G3 lx (.lst (m2.map V.int)) tc = _ := (upd_ne net).trans h3
      have hws2 := hws3.same (fr_old (o := .lst (m2.map V.int)) hxH)
      have T2 := T3.trans (del_put (o := .lst (m2.map V.int)))
      have dm2 : Dm H (upd G3 lx (.lst (m2.map V.int))) := dm3.put
      generalize upd G3 lx (.lst (m2.map V.int)) = G2 at hx2 hw2 h2 hws2 T2 dm2 ⊢
      obtain ⟨c, hc, hcl⟩ := modN (a2 / 3) (n := yw.length) (by omega)
      obtain ⟨y, e, hy, he, hye⟩ := get_of hws2 hcl
      refine ⟨_, _, rfl, rfl, ⟨by show (0 : Int) < 3; decide, by show (3 : Int) < _; decide⟩, _, rfl, lw, _, rfl, .inl (SqL.of hw2), _, _, rfl, rfl, (by show (0 : Int) < ((yw.length : Nat) : Int); omega), lw, _, _, y, rfl, rfl, SqL.of hw2, ?_, Nat.le_of_ble_eq_true rfl, fun tr ntr => ?_⟩
      · show atI _ (a2 / 3 % ((yw.length : Nat) : Int)) = _
        rw [hc]
        exact atI_nat hy
      have w4 := same_new (o := .tup [V.ref tc, y]) ntr
      refine k (.ref tr) (.tup [.tup [.str "before", .int 0], e]) m2 _ (T2.trans (same_del w4)) (w4 _ _ hx2) (by omega) (.tupS (fr_at (dm2 _ ntr) upd_same) (.cons (.tupS (fr_at ntH (w4 _ _ h2)) (.cons (.str _) (.cons (.int _) .nil))) (.cons (hye.same (fr_same w4)) .nil))) ?_ ⟨before0, (hwn e he).1⟩
      show (_ && whatB e) = false
      rw [(hwn e he).2]
      exact Bool.and_false _
    -- no pair
    refine ⟨Nat.le_of_ble_eq_true rfl, fun tb ntb => ?_⟩
    have w3 := same_new (o := .tup [V.str "before", .int 0]) ntb
    have h3 : upd G1 tb (.tup [V.str "before", .int 0]) tb = _ := upd_same
    have hx3 := w3 _ _ hx1
    have T3 := T1.trans (same_del (l := lx) w3)
    have dm3 := dm1.same w3
    have nbH := dm1 _ ntb
    generalize upd G1 tb (.tup [V.str "before", .int 0]) = G3 at h3 hx3 T3 dm3 ⊢
    refine ⟨Nat.le_of_ble_eq_true rfl, fun tc ntc => ?_⟩
    have w4 := same_new (o := .tup [V.str "count", .int 5]) ntc
    have h4 : upd G3 tc (.tup [V.str "count", .int 5]) tc = _ := upd_same
    have h34 := w4 _ _ h3
    have hx4 := w4 _ _ hx3
    have T4 := T3.trans (same_del (l := lx) w4)
    have dm4 := dm3.same w4
    have ncH := dm3 _ ntc
    generalize upd G3 tc (.tup [V.str "count", .int 5]) = G4 at h4 h34 hx4 T4 dm4 ⊢
    refine ⟨Nat.le_of_ble_eq_true rfl, fun tg ntg => ?_⟩
    have w5 := same_new (o := .tup [V.ref tb, V.ref tc]) ntg
    have hx5 := w5 _ _ hx4
    have T5 := T4.trans (same_del (l := lx) w5)
    have hdm := dm4.same w5
    have ngH := dm4 _ ntg
    have hg : HD (fr H (upd G4 tg (.tup [V.ref tb, V.ref tc]))) (.ref tg) (.tup [.tup [.str "before", .int 0], .tup [.str "count", .int 5]]) := .tupS (fr_at ngH upd_same) (.cons (.tupS (fr_at nbH (w5 _ _ h34)) (.cons (.str _) (.cons (.int _) .nil))) (.cons (.tupS (fr_at ncH (w5 _ _ h4)) (.cons (.str _) (.cons (.int _) .nil))) .nil))
    generalize upd G4 tg (.tup [V.ref tb, V.ref tc]) = G5 at hx5 T5 hdm hg ⊢
    clear hze hws hw hlpe hz1 hws1 hw1 hp1 h34 h3 h4
    show gName _ _ _ _ _
    first | refine set_next (ret_next ?_) | refine set_next (ret_seq ?_)
    refine lst_goF (H := H) (ta := tAll _) (ds := [.non, .tup [], .tup [.tup [.str "before", .int 0]], .tup [.tup [.str "before", .int 0], .tup [.str "count", .int 5], .tup [.str "before", .int 0]], .lst [.tup [.str "before", .int 0], .tup [.str "count", .int 5]], .int 7, .str "wish"]) (haf_cons hf_non (haf_cons (hf_tup hdm haf_nil) (haf_cons (hf_slT hdm (hf_var rfl hg)) (haf_cons (hf_catT hdm (hf_var rfl hg) (hf_slT hdm (hf_var rfl hg)) (Nat.le_of_ble_eq_true rfl)) (haf_cons (hf_list hdm (haf_cons (hf_var rfl hg) haf_nil)) (haf_cons hf_int (haf_cons hf_str haf_nil))))))) fun ll yl G6 s6 nl6 hl6 hyl => ?_
    have hll := hyl.len
    have hll : yl.length = 7 := hll
    have nlH := hdm _ nl6
    have nel : ll ≠ lx := fun z => by rw [z, hxH] at nlH; cases nlH
    have hx6 := s6 _ _ hx5
    have T6 := T5.trans (same_del (l := lx) s6)
    obtain ⟨a2, m2, p2, q2, r2⟩ := pop_go (ms := m1) (by omega)
    refine ⟨_, rfl, .inl ⟨rfl, _, SqL.of hx6⟩, lx, _, _, rfl, rfl, hx6, p2, ?_⟩
    rw [q2]
    have hl7 : upd G6 lx (.lst (m2.map V.int)) ll = _ := (upd_ne nel).trans hl6
    have hyl7 := hyl.same (fr_old (o := .lst (m2.map V.int)) hxH)
    have T7 := T6.trans (del_put (o := .lst (m2.map V.int)))
    have hx7 : upd G6 lx (.lst (m2.map V.int)) lx = _ := upd_same
    generalize upd G6 lx (.lst (m2.map V.int)) = G7 at hl7 hyl7 T7 hx7 ⊢
    obtain ⟨c, hc, hcl⟩ := modN (a2 / 3) (n := 7) (by decide)
    obtain ⟨y, e, hy, he, hye⟩ := get_of hyl7 (c := c) (by omega)
    refine ⟨_, _, rfl, rfl, ⟨by show (0 : Int) < 3; decide, by show (3 : Int) < _; decide⟩, _, _, rfl, rfl, (by show (0 : Int) < 7; decide), ll, _, _, y, rfl, rfl, SqL.of hl7, ?_, ?_⟩
    · show atI _ (a2 / 3 % 7) = _
      rw [show a2 / 3 % 7 = (c : Int) from hc]
      exact atI_nat hy
    obtain ⟨b1, b2⟩ := no_pair (ds.map rowT) e he
    exact k y e m2 G7 T7 hx7 (by omega) hye b1 b2
end
end My


namespace My
open PySem L2
def rIsi (K : PySem.W.Frag) : List V → Hp → VK → Prop := fun xs H Q => ∃ (x : V) (n : String) (t : Value) (b : Bool), xs = [x, .ty n] ∧ TyOf K H x t ∧ PySem.W.kitOne K t (.type n) = some b ∧ Q (.bl b) H
/-- what the top tells of the classes of exceptions -/
structure Ys (K : PySem.W.Frag) (mg : Str → Option Value) (cNoRows cNoWish cRowError cEnded cNoFree cNoLayout cNoLine cNoPaper cNoText cNoUnits cTooMuch fI fJ : Addr) : Prop where
  mNoRows : mg "NoRows" = some (.ref cNoRows)
  mNoWish : mg "NoWish" = some (.ref cNoWish)
  mRowError : mg "RowError" = some (.ref cRowError)
  mEnded : mg "Ended" = some (.ref cEnded)
  mNoFree : mg "NoFree" = some (.ref cNoFree)
  mNoLayout : mg "NoLayout" = some (.ref cNoLayout)
  mNoLine : mg "NoLine" = some (.ref cNoLine)
  mNoPaper : mg "NoPaper" = some (.ref cNoPaper)
  mNoText : mg "NoText" = some (.ref cNoText)
  mNoUnits : mg "NoUnits" = some (.ref cNoUnits)
  mTooMuch : mg "TooMuch" = some (.ref cTooMuch)
  mValueError : mg "ValueError" = none
  cxNoRows : XIni K cNoRows cRowError fI
  kCNoRows : PySem.W.keepIn K (.ref cNoRows) = true
  exmNoRows : PySem.W.exmOne K (.ref cNoRows) (.ref cRowError) = some true
  valNoRows : PySem.W.kitOne K (.ref cNoRows) (.type "ValueError") = some true
  kNoRows_Ended : PySem.W.kitOne K (.ref cNoRows) (.ref cEnded) = some false
  kNoRows_NoFree : PySem.W.kitOne K (.ref cNoRows) (.ref cNoFree) = some false
  kNoRows_NoLayout : PySem.W.kitOne K (.ref cNoRows) (.ref cNoLayout) = some false
  kNoRows_NoLine : PySem.W.kitOne K (.ref cNoRows) (.ref cNoLine) = some false
  kNoRows_NoPaper : PySem.W.kitOne K (.ref cNoRows) (.ref cNoPaper) = some false
  kNoRows_NoText : PySem.W.kitOne K (.ref cNoRows) (.ref cNoText) = some false
  kNoRows_NoUnits : PySem.W.kitOne K (.ref cNoRows) (.ref cNoUnits) = some false
  kNoRows_TooMuch : PySem.W.kitOne K (.ref cNoRows) (.ref cTooMuch) = some false
  kNoRows_NoRows : PySem.W.kitOne K (.ref cNoRows) (.ref cNoRows) = some true
  kNoRows_NoWish : PySem.W.kitOne K (.ref cNoRows) (.ref cNoWish) = some false
  cxNoWish : XIni K cNoWish cRowError fJ
  kCNoWish : PySem.W.keepIn K (.ref cNoWish) = true
  exmNoWish : PySem.W.exmOne K (.ref cNoWish) (.ref cRowError) = some true
  valNoWish : PySem.W.kitOne K (.ref cNoWish) (.type "ValueError") = some true
  kNoWish_Ended : PySem.W.kitOne K (.ref cNoWish) (.ref cEnded) = some false
  kNoWish_NoFree : PySem.W.kitOne K (.ref cNoWish) (.ref cNoFree) = some false
  kNoWish_NoLayout : PySem.W.kitOne K (.ref cNoWish) (.ref cNoLayout) = some false
  kNoWish_NoLine : PySem.W.kitOne K (.ref cNoWish) (.ref cNoLine) = some false
  kNoWish_NoPaper : PySem.W.kitOne K (.ref cNoWish) (.ref cNoPaper) = some false
  kNoWish_NoText : PySem.W.kitOne K (.ref cNoWish) (.ref cNoText) = some false
  kNoWish_NoUnits : PySem.W.kitOne K (.ref cNoWish) (.ref cNoUnits) = some false
  kNoWish_TooMuch : PySem.W.kitOne K (.ref cNoWish) (.ref cTooMuch) = some false
  kNoWish_NoRows : PySem.W.kitOne K (.ref cNoWish) (.ref cNoRows) = some false
  kNoWish_NoWish : PySem.W.kitOne K (.ref cNoWish) (.ref cNoWish) = some true
theorem bt_ve : bootBuiltins "ValueError" = some (.type "ValueError") := by decide +kernel
section
variable {P : Program} {w : World} {K : PySem.W.Frag} {mg : Str → Option Value} {base : Heap}
variable {cNoRows cNoWish cRowError cEnded cNoFree cNoLayout cNoLine cNoPaper cNoText cNoUnits cTooMuch fI fJ : Addr}
def RowsBad (K : PySem.W.Frag) (H : Hp) (v : V) (e : Nat) : Prop := (e = 0 ∧ ∃ t, TyOf K H v t ∧ PySem.W.kitOne K t (.type "list") = some false) ∨ ∃ (p : Addr) (xs : List V) (ds : List Da), v = .ref p ∧ H p = some (.lst xs) ∧ HDs H xs ds ∧ (∀ d ∈ ds, okR d) ∧ xs.length ≤ 1000 ∧ ckBad ds = some e
def WishBad (K : PySem.W.Frag) (H : Hp) (rs : List (Str × List Int)) (v : V) (e : Nat) : Prop := (e = 0 ∧ ∃ t, TyOf K H v t ∧ PySem.W.kitOne K t (.type "list") = some false) ∨ ∃ (p : Addr) (xs : List V) (ds : List Da), v = .ref p ∧ H p = some (.lst xs) ∧ HDs H xs ds ∧ (∀ d ∈ ds, okI d) ∧ xs.length ≤ 1000 ∧ wsBad rs ds = some e
theorem ErrW.same {c : Addr} {e : Nat} {H H' : Hp} {E : XK} (h : ErrW c e H E) (s : Same H H') : ErrW c e H' E := fun G d t hd => h G d (s.trans t) hd
theorem RowsBad.go {c : Addr} {H : Hp} {v : V} {e : Nat} {Q : VK} {E : XK} (h : RowsBad K H v e) (k : ErrW c e H E) : spCk (K := K) c [v] H Q E := by
  rcases h with ⟨rfl, t, ht, hk⟩ | ⟨p, xs, ds, rfl, h1, h2, h3, h4, h5⟩
  · exact ⟨v, rfl, .inl ⟨t, ht, hk, k⟩⟩
  · exact ⟨_, rfl, .inr ⟨p, xs, ds, rfl, h1, h2, h3, h4, by rw [h5]; exact k⟩⟩
theorem WishBad.go {c lr : Addr} {H : Hp} {rs : List (Str × List Int)} {v : V} {e : Nat} {Q : VK} {E : XK} (h : WishBad K H rs v e) (hR : RowsT H lr rs) (k : ErrW c e H E) : spCw (K := K) c [.ref lr, v] H Q E := by
  rcases h with ⟨rfl, t, ht, hk⟩ | ⟨p, xs, ds, rfl, h1, h2, h3, h4, h5⟩
  · exact ⟨lr, rs, v, rfl, hR, .inl ⟨t, ht, hk, k⟩⟩
  · exact ⟨lr, rs, _, rfl, hR, .inr ⟨p, xs, ds, rfl, h1, h2, h3, h4, by rw [h5]; exact k⟩⟩
theorem ty_same {K : PySem.W.Frag} {H G : Hp} {v : V} {t : Value} (h : TyOf K H v t) (s : Same H G) : TyOf K G v t := by
  cases h with
  | non => exact .non
  | bl x => exact .bl x
  | int i => exact .int i
  | str x => exact .str x
  | flt x => exact .flt x
  | lst e => exact .lst (s _ _ e)
  | frz e => exact .frz (s _ _ e)
  | tup e => exact .tup (s _ _ e)
  | dK e => exact .dK (s _ _ e)
  | dT e => exact .dT (s _ _ e)
  | ins e a b c d g => exact .ins (s _ _ e) a b c d g
theorem WishBad.same {H H' : Hp} {rs : List (Str × List Int)} {v : V} {e : Nat} (h : WishBad K H rs v e) (s : Same H H') : WishBad K H' rs v e := by
  rcases h with ⟨rfl, t, ht, hk⟩ | ⟨p, xs, ds, rfl, h1, h2, h3, h4, h5⟩
  · exact .inl ⟨rfl, t, ty_same ht s, hk⟩
  · exact .inr ⟨p, xs, ds, rfl, s _ _ h1, h2.same s, h3, h4, h5⟩
def spWd (cNR cNW : Addr) : Sp := fun vs H _ E => ∃ (vr vw : V) (e : Nat), vs = [vr, vw] ∧ ((RowsBad K H vr e ∧ ErrW cNR e H E) ∨ ∃ (p : Addr) (xs : List V) (ds : List Da), vr = .ref p ∧ H p = some (.lst xs) ∧ HDs H xs ds ∧ (∀ d ∈ ds, okR d) ∧ xs.length ≤ 1000 ∧ ckBad ds = none ∧ RowsT H p (ds.map rowT) ∧ WishBad K H (ds.map rowT) vw e ∧ ErrW cNW e H E)
theorem scWd : FnScope ["rows", "wishes", "counted", "asides", "counts", "sheet", "paper"] ["rows", "wishes"] (defScope s_widened) := ⟨rfl, rfl, rfl, by decide +kernel, rfl, by decide +kernel, by decide +kernel⟩
theorem ok_widened {f fC fW : Addr} {fd fdC fdW : FuncData} (F : Fun K "widened" "widened" s_widened f fd) (T : Txt K w.params mg) (GC : FnOk P w K mg base (CX2 P w) 7 fC fdC ["rows"] (spCk (K := K) cNoRows)) (kC : PySem.W.keepIn K (.ref fC) = true) (bC : Binds K fdC ["rows"] []) (mC : mg "check_rows" = some (.ref fC))(GW : FnOk P w K mg base (CX2 P w) 7 fW fdW ["rows", "wishes"] (spCw (K := K) cNoWish)) (kW : PySem.W.keepIn K (.ref fW) = true) (bW : Binds K fdW ["rows", "wishes"] []) (mW : mg "check_wishes" = some (.ref fW)) : FnOk P w K mg base (CX2 P w) 8 f fd ["rows", "wishes"] (spWd (K := K) cNoRows cNoWish) := by
  refine F.okX scWd (fun vs H Q E h => ?_) (fun cdv A outer s H vs Q E hr h => ?_)
  · obtain ⟨vr, vw, e, rfl, _⟩ := h
    rfl
  · obtain ⟨vr, vw, e, rfl, h⟩ := h
    refine ⟨_, (pss_cons (ps_expr (pe_call GC hr (by rfl) mC kC bC .nil pass22 (pa_cons (pv 0) pa_nil)))
      (pss_cons (ps_expr (pe_call GW hr (by rfl) mW kW bW .nil pass22 (pa_cons (pv 0) (pa_cons (pv 1) pa_nil)))) pss_never)), ?_⟩
    rcases h with ⟨h, k⟩ | ⟨p, xs, ds, rfl, h1, h2, h3, h4, h5, hR, hw, k⟩
    · exact ⟨_, rfl, h.go k⟩
    · refine ⟨_, rfl, _, rfl, .inr ⟨p, xs, ds, rfl, h1, h2, h3, h4, ?_⟩⟩
      rw [h5]
      intro G s1
      exact ⟨_, rfl, _, rfl, (hw.same s1).go (hR.same s1) (ErrW.same k s1)⟩
def To (u : Str) (e : Nat) (H : Hp) (Q : VK) : Prop := ∀ (t : Addr) (H' : Hp), Same H H' → H t = none → H' t = some (.tup [.str u, .int (e : Int), .bl false]) → Q (.ref t) H'
def spTd : Sp := fun vs H Q _ => ∃ (vr vw : V), (vs = [vr, vw, .bl true] ∧ ∃ e, (RowsBad K H vr e ∧ To "rows" e H Q) ∨ ∃ (p : Addr) (xs : List V) (ds : List Da), vr = .ref p ∧ H p = some (.lst xs) ∧ HDs H xs ds ∧ (∀ d ∈ ds, okR d) ∧ xs.length ≤ 1000 ∧ ckBad ds = none ∧ RowsT H p (ds.map rowT) ∧ WishBad K H (ds.map rowT) vw e ∧ To "wish" e H Q) ∨ (vs = [vr, vw, .bl false] ∧ ∃ (lr : Addr) (rs : List (Str × List Int)), vr = .ref lr ∧ RowsT H lr rs ∧ ((∃ e, WishBad K H rs vw e ∧ To "wish" e H Q) ∨ ∃ (p : Addr) (xs : List V) (ds : List Da), vw = .ref p ∧ H p = some (.lst xs) ∧ HDs H xs ds ∧ (∀ d ∈ ds, okI d) ∧ xs.length ≤ 1000 ∧ wsBad rs ds = none ∧ ∀ H', Same H H' → Q .non H'))
theorem scTd : FnScope ["_law_rows_here", "_law_wishes", "_law_wide", "_law_found", "e", "_law_others"] ["_law_rows_here", "_law_wishes", "_law_wide"] (defScope s_law_told) := ⟨rfl, rfl, rfl, by decide +kernel, rfl, by decide +kernel, by decide +kernel⟩
theorem ok_law_told {f fD fW : Addr} {fd fdD fdW : FuncData} (F : Fun K "_law_told" "_law_told" s_law_told f fd) (T : Txt K w.params mg) (GD : FnOk P w K mg base (CX2 P w) 8 fD fdD ["rows", "wishes"] (spWd (K := K) cNoRows cNoWish)) (kD : PySem.W.keepIn K (.ref fD) = true) (bD : Binds K fdD ["rows", "wishes"] []) (mD : mg "widened" = some (.ref fD))(GW : FnOk P w K mg base (CX2 P w) 7 fW fdW ["rows", "wishes"] (spCw (K := K) cNoWish)) (kW : PySem.W.keepIn K (.ref fW) = true) (bW : Binds K fdW ["rows", "wishes"] []) (mW : mg "check_wishes" = some (.ref fW)) (Y : Ys K mg cNoRows cNoWish cRowError cEnded cNoFree cNoLayout cNoLine cNoPaper cNoText cNoUnits cTooMuch fI fJ) : FnOk P w K mg base CX0 9 f fd ["_law_rows_here", "_law_wishes", "_law_wide"] (spTd (K := K)) := by
  refine F.ok scTd (fun vs H Q E h => ?_) (fun cdv A outer s H vs Q E hr h => ?_)
  · obtain ⟨vr, vw, ⟨rfl, _⟩ | ⟨rfl, _⟩⟩ := h <;> rfl
  · obtain ⟨vr, vw, ⟨rfl, e, ⟨h, k⟩ | ⟨p, xs, ds, hv, h1, h2, h3, h4, h5, hR, hw, k⟩⟩ | ⟨rfl, lr, rs, rfl, hR, ⟨e, hw, k⟩ | ⟨p, xs, ds, rfl, h1, h2, h3, h4, h5, k⟩⟩⟩ := h
    · refine ⟨_, (pss_cons (ps_set (i := 3) scTd.nd rfl (Or.inl rfl) pe_non)
      (pss_cons (ps_tryZ (i := 4) (n := "e") (psz_if (pt_val (pv 2)) (psz_of (psr_set (i := 3) scTd.nd rfl (Or.inl rfl) (per_call (pa_cons (pv 0) (pa_cons (pv 1) pa_nil)) (by rfl) mD kD)) GD hr bD .nil) (psz_of (psr_set (i := 3) scTd.nd rfl (Or.inl rfl) (per_call (pa_cons (pv 0) (pa_cons (pv 1) pa_nil)) (by rfl) mW kW)) GW (hr.mono (by decide)) bW .nil)) rfl rfl rfl rfl (by rfl) Y.mRowError scTd.nd rfl rfl (fun ea => (pss_cons (ps_set (i := 5) scTd.nd rfl (Or.inl rfl) (pe_or (pe_callB (r := rIsD K cNoRows) (call_isd Y.cxNoRows.rd PySem.F.attr_ValueError) (by rfl) T.isi bt_isi (pa_cons (pv 4) (pa_cons (pe_glob (v := .ref cEnded) (by rfl) Y.mEnded rfl) pa_nil))) (pe_or (pe_callB (r := rIsD K cNoRows) (call_isd Y.cxNoRows.rd PySem.F.attr_ValueError) (by rfl) T.isi bt_isi (pa_cons (pv 4) (pa_cons (pe_glob (v := .ref cNoFree) (by rfl) Y.mNoFree rfl) pa_nil))) (pe_or (pe_callB (r := rIsD K cNoRows) (call_isd Y.cxNoRows.rd PySem.F.attr_ValueError) (by rfl) T.isi bt_isi (pa_cons (pv 4) (pa_cons (pe_glob (v := .ref cNoLayout) (by rfl) Y.mNoLayout rfl) pa_nil))) (pe_one (pe_callB (r := rIsD K cNoRows) (call_isd Y.cxNoRows.rd PySem.F.attr_ValueError) (by rfl) T.isi bt_isi (pa_cons (pv 4) (pa_cons (pe_glob (v := .ref cNoLine) (by rfl) Y.mNoLine rfl) pa_nil))))))))
      (pss_cons (ps_set (i := 5) scTd.nd rfl (Or.inl rfl) (pe_or (pv 5) (pe_or (pe_callB (r := rIsD K cNoRows) (call_isd Y.cxNoRows.rd PySem.F.attr_ValueError) (by rfl) T.isi bt_isi (pa_cons (pv 4) (pa_cons (pe_glob (v := .ref cNoPaper) (by rfl) Y.mNoPaper rfl) pa_nil))) (pe_or (pe_callB (r := rIsD K cNoRows) (call_isd Y.cxNoRows.rd PySem.F.attr_ValueError) (by rfl) T.isi bt_isi (pa_cons (pv 4) (pa_cons (pe_glob (v := .ref cNoText) (by rfl) Y.mNoText rfl) pa_nil))) (pe_one (pe_callB (r := rIsD K cNoRows) (call_isd Y.cxNoRows.rd PySem.F.attr_ValueError) (by rfl) T.isi bt_isi (pa_cons (pv 4) (pa_cons (pe_glob (v := .ref cNoUnits) (by rfl) Y.mNoUnits rfl) pa_nil))))))))
      (pss_one (ps_if (pw_or (pt_val (pv 5)) (pw_or (pt_val (pe_callB (r := rIsD K cNoRows) (call_isd Y.cxNoRows.rd PySem.F.attr_ValueError) (by rfl) T.isi bt_isi (pa_cons (pv 4) (pa_cons (pe_glob (v := .ref cTooMuch) (by rfl) Y.mTooMuch rfl) pa_nil)))) (pw_or1 (pt_not (pt_val (pe_callB (r := rIsD K cNoRows) (call_isd Y.cxNoRows.rd PySem.F.attr_ValueError) (by rfl) T.isi bt_isi (pa_cons (pv 4) (pa_cons (pe_bltn (v := .ty "ValueError") (by rfl) Y.mValueError bt_ve rfl) pa_nil)))))))).pt (pss_one (ps_set (i := 3) scTd.nd rfl (Or.inl rfl) pe_str)) (pss_one (ps_if (pt_val (pe_callB (r := rIsD K cNoRows) (call_isd Y.cxNoRows.rd PySem.F.attr_ValueError) (by rfl) T.isi bt_isi (pa_cons (pv 4) (pa_cons (pe_glob (v := .ref cNoRows) (by rfl) Y.mNoRows rfl) pa_nil)))) (pss_one (ps_set (i := 3) scTd.nd rfl (Or.inl rfl) (pe_tup (pa_cons pe_str (pa_cons (pe_xat Y.cxNoRows (pv 4)) (pa_cons (pe_callB (r := rIsD K cNoRows) (call_isd Y.cxNoRows.rd PySem.F.attr_ValueError) (by rfl) T.isi bt_isi (pa_cons (pv 4) (pa_cons (pe_glob (v := .ref cNoWish) (by rfl) Y.mNoWish rfl) pa_nil))) pa_nil)))))) (pss_one (ps_set (i := 3) scTd.nd rfl (Or.inl rfl) (pe_tup (pa_cons pe_str (pa_cons (pe_xat Y.cxNoRows (pv 4)) (pa_cons (pe_or (pe_not (pe_callB (r := rIsD K cNoRows) (call_isd Y.cxNoRows.rd PySem.F.attr_ValueError) (by rfl) T.isi bt_isi (pa_cons (pv 4) (pa_cons (pe_glob (v := .ref cNoWish) (by rfl) Y.mNoWish rfl) pa_nil)))) (pe_one (pe_callB (r := rIsi K) call_isinst (by rfl) T.isi bt_isi (pa_cons (pe_xat Y.cxNoRows (pv 4)) (pa_cons (pe_bltn (v := .ty "bool") (by rfl) T.bool bt_bool rfl) pa_nil))))) pa_nil))))))))))))))
      (pss_one (ps_ret (pv 3))))), ?_⟩
      refine ⟨_, rfl, _, rfl, iteP rfl ⟨_, rfl, _, rfl, vr, vw, e, rfl, .inl ⟨h, fun H7 d7 s7 hd => ?_⟩⟩⟩
      refine ⟨Y.exmNoRows, fun ea hea => ?_⟩
      have s8 := same_new (o := excD ea (.ref cNoRows) (some d7)) hea
      have e8 : upd H7 ea (excD ea (.ref cNoRows) (some d7)) ea = _ := upd_same
      have d8 := s8 _ _ hd
      generalize upd H7 ea (excD ea (.ref cNoRows) (some d7)) = H8 at s8 e8 d8 ⊢
      refine ⟨_, rfl, ea, _, .ref cEnded, false, rfl, e8, (fun cv hc => by cases hc; exact Y.kNoRows_Ended), _, rfl, iteN (by decide) ⟨_, rfl, ea, _, .ref cNoFree, false, rfl, e8, (fun cv hc => by cases hc; exact Y.kNoRows_NoFree), _, rfl, iteN (by decide) ⟨_, rfl, ea, _, .ref cNoLayout, false, rfl, e8, (fun cv hc => by cases hc; exact Y.kNoRows_NoLayout), _, rfl, iteN (by decide) ⟨_, rfl, ea, _, .ref cNoLine, false, rfl, e8, (fun cv hc => by cases hc; exact Y.kNoRows_NoLine), ?_⟩⟩⟩⟩
      refine ⟨_, rfl, _, rfl, iteN (by decide) ⟨_, rfl, ea, _, .ref cNoPaper, false, rfl, e8, (fun cv hc => by cases hc; exact Y.kNoRows_NoPaper), _, rfl, iteN (by decide) ⟨_, rfl, ea, _, .ref cNoText, false, rfl, e8, (fun cv hc => by cases hc; exact Y.kNoRows_NoText), _, rfl, iteN (by decide) ⟨_, rfl, ea, _, .ref cNoUnits, false, rfl, e8, (fun cv hc => by cases hc; exact Y.kNoRows_NoUnits), ?_⟩⟩⟩⟩
      refine ⟨_, rfl, _, rfl, iteN (by decide) ⟨_, rfl, ea, _, .ref cTooMuch, false, rfl, e8, (fun cv hc => by cases hc; exact Y.kNoRows_TooMuch), _, rfl, iteN (by decide) ⟨_, rfl, ea, _, .ty "ValueError", true, rfl, e8, (fun cv hc => by cases hc; exact Y.valNoRows), _, rfl, iteN (by decide) ?_⟩⟩⟩
      refine ⟨_, rfl, ea, _, .ref cNoRows, true, rfl, e8, (fun cv hc => by cases hc; exact Y.kNoRows_NoRows), _, rfl, iteP rfl ?_⟩
      refine ⟨_, rfl, ea, d7, (e : Int), rfl, e8, d8, _, rfl, ea, _, .ref cNoWish, false, rfl, e8, (fun cv hc => by cases hc; exact Y.kNoRows_NoWish), Nat.le_of_ble_eq_true rfl, fun t nt => ?_⟩
      exact ⟨_, rfl, k t _ ((s7.trans s8).trans (same_new nt)) ((s7.trans s8).free nt) upd_same⟩
    · refine ⟨_, (pss_cons (ps_set (i := 3) scTd.nd rfl (Or.inl rfl) pe_non)
      (pss_cons (ps_tryZ (i := 4) (n := "e") (psz_if (pt_val (pv 2)) (psz_of (psr_set (i := 3) scTd.nd rfl (Or.inl rfl) (per_call (pa_cons (pv 0) (pa_cons (pv 1) pa_nil)) (by rfl) mD kD)) GD hr bD .nil) (psz_of (psr_set (i := 3) scTd.nd rfl (Or.inl rfl) (per_call (pa_cons (pv 0) (pa_cons (pv 1) pa_nil)) (by rfl) mW kW)) GW (hr.mono (by decide)) bW .nil)) rfl rfl rfl rfl (by rfl) Y.mRowError scTd.nd rfl rfl (fun ea => (pss_cons (ps_set (i := 5) scTd.nd rfl (Or.inl rfl) (pe_or (pe_callB (r := rIsD K cNoWish) (call_isd Y.cxNoWish.rd PySem.F.attr_ValueError) (by rfl) T.isi bt_isi (pa_cons (pv 4) (pa_cons (pe_glob (v := .ref cEnded) (by rfl) Y.mEnded rfl) pa_nil))) (pe_or (pe_callB (r := rIsD K cNoWish) (call_isd Y.cxNoWish.rd PySem.F.attr_ValueError) (by rfl) T.isi bt_isi (pa_cons (pv 4) (pa_cons (pe_glob (v := .ref cNoFree) (by rfl) Y.mNoFree rfl) pa_nil))) (pe_or (pe_callB (r := rIsD K cNoWish) (call_isd Y.cxNoWish.rd PySem.F.attr_ValueError) (by rfl) T.isi bt_isi (pa_cons (pv 4) (pa_cons (pe_glob (v := .ref cNoLayout) (by rfl) Y.mNoLayout rfl) pa_nil))) (pe_one (pe_callB (r := rIsD K cNoWish) (call_isd Y.cxNoWish.rd PySem.F.attr_ValueError) (by rfl) T.isi bt_isi (pa_cons (pv 4) (pa_cons (pe_glob (v := .ref cNoLine) (by rfl) Y.mNoLine rfl) pa_nil))))))))
      (pss_cons (ps_set (i := 5) scTd.nd rfl (Or.inl rfl) (pe_or (pv 5) (pe_or (pe_callB (r := rIsD K cNoWish) (call_isd Y.cxNoWish.rd PySem.F.attr_ValueError) (by rfl) T.isi bt_isi (pa_cons (pv 4) (pa_cons (pe_glob (v := .ref cNoPaper) (by rfl) Y.mNoPaper rfl) pa_nil))) (pe_or (pe_callB (r := rIsD K cNoWish) (call_isd Y.cxNoWish.rd PySem.F.attr_ValueError) (by rfl) T.isi bt_isi (pa_cons (pv 4) (pa_cons (pe_glob (v := .ref cNoText) (by rfl) Y.mNoText rfl) pa_nil))) (pe_one (pe_callB (r := rIsD K cNoWish) (call_isd Y.cxNoWish.rd PySem.F.attr_ValueError) (by rfl) T.isi bt_isi (pa_cons (pv 4) (pa_cons (pe_glob (v := .ref cNoUnits) (by rfl) Y.mNoUnits rfl) pa_nil))))))))
      (pss_one (ps_if (pw_or (pt_val (pv 5)) (pw_or (pt_val (pe_callB (r := rIsD K cNoWish) (call_isd Y.cxNoWish.rd PySem.F.attr_ValueError) (by rfl) T.isi bt_isi (pa_cons (pv 4) (pa_cons (pe_glob (v := .ref cTooMuch) (by rfl) Y.mTooMuch rfl) pa_nil)))) (pw_or1 (pt_not (pt_val (pe_callB (r := rIsD K cNoWish) (call_isd Y.cxNoWish.rd PySem.F.attr_ValueError) (by rfl) T.isi bt_isi (pa_cons (pv 4) (pa_cons (pe_bltn (v := .ty "ValueError") (by rfl) Y.mValueError bt_ve rfl) pa_nil)))))))).pt (pss_one (ps_set (i := 3) scTd.nd rfl (Or.inl rfl) pe_str)) (pss_one (ps_if (pt_val (pe_callB (r := rIsD K cNoWish) (call_isd Y.cxNoWish.rd PySem.F.attr_ValueError) (by rfl) T.isi bt_isi (pa_cons (pv 4) (pa_cons (pe_glob (v := .ref cNoRows) (by rfl) Y.mNoRows rfl) pa_nil)))) (pss_one (ps_set (i := 3) scTd.nd rfl (Or.inl rfl) (pe_tup (pa_cons pe_str (pa_cons (pe_xat Y.cxNoWish (pv 4)) (pa_cons (pe_callB (r := rIsD K cNoWish) (call_isd Y.cxNoWish.rd PySem.F.attr_ValueError) (by rfl) T.isi bt_isi (pa_cons (pv 4) (pa_cons (pe_glob (v := .ref cNoWish) (by rfl) Y.mNoWish rfl) pa_nil))) pa_nil)))))) (pss_one (ps_set (i := 3) scTd.nd rfl (Or.inl rfl) (pe_tup (pa_cons pe_str (pa_cons (pe_xat Y.cxNoWish (pv 4)) (pa_cons (pe_or (pe_not (pe_callB (r := rIsD K cNoWish) (call_isd Y.cxNoWish.rd PySem.F.attr_ValueError) (by rfl) T.isi bt_isi (pa_cons (pv 4) (pa_cons (pe_glob (v := .ref cNoWish) (by rfl) Y.mNoWish rfl) pa_nil)))) (pe_one (pe_callB (r := rIsi K) call_isinst (by rfl) T.isi bt_isi (pa_cons (pe_xat Y.cxNoWish (pv 4)) (pa_cons (pe_bltn (v := .ty "bool") (by rfl) T.bool bt_bool rfl) pa_nil))))) pa_nil))))))))))))))
      (pss_one (ps_ret (pv 3))))), ?_⟩
      refine ⟨_, rfl, _, rfl, iteP rfl ⟨_, rfl, _, rfl, vr, vw, e, rfl, .inr ⟨p, xs, ds, hv, h1, h2, h3, h4, h5, hR, hw, fun H7 d7 s7 hd => ?_⟩⟩⟩
      refine ⟨Y.exmNoWish, fun ea hea => ?_⟩
      have s8 := same_new (o := excD ea (.ref cNoWish) (some d7)) hea
      have e8 : upd H7 ea (excD ea (.ref cNoWish) (some d7)) ea = _ := upd_same
      have d8 := s8 _ _ hd
      generalize upd H7 ea (excD ea (.ref cNoWish) (some d7)) = H8 at s8 e8 d8 ⊢
      refine ⟨_, rfl, ea, _, .ref cEnded, false, rfl, e8, (fun cv hc => by cases hc; exact Y.kNoWish_Ended), _, rfl, iteN (by decide) ⟨_, rfl, ea, _, .ref cNoFree, false, rfl, e8, (fun cv hc => by cases hc; exact Y.kNoWish_NoFree), _, rfl, iteN (by decide) ⟨_, rfl, ea, _, .ref cNoLayout, false, rfl, e8, (fun cv hc => by cases hc; exact Y.kNoWish_NoLayout), _, rfl, iteN (by decide) ⟨_, rfl, ea, _, .ref cNoLine, false, rfl, e8, (fun cv hc => by cases hc; exact Y.kNoWish_NoLine), ?_⟩⟩⟩⟩
      refine ⟨_, rfl, _, rfl, iteN (by decide) ⟨_, rfl, ea, _, .ref cNoPaper, false, rfl, e8, (fun cv hc => by cases hc; exact Y.kNoWish_NoPaper), _, rfl, iteN (by decide) ⟨_, rfl, ea, _, .ref cNoText, false, rfl, e8, (fun cv hc => by cases hc; exact Y.kNoWish_NoText), _, rfl, iteN (by decide) ⟨_, rfl, ea, _, .ref cNoUnits, false, rfl, e8, (fun cv hc => by cases hc; exact Y.kNoWish_NoUnits), ?_⟩⟩⟩⟩
      refine ⟨_, rfl, _, rfl, iteN (by decide) ⟨_, rfl, ea, _, .ref cTooMuch, false, rfl, e8, (fun cv hc => by cases hc; exact Y.kNoWish_TooMuch), _, rfl, iteN (by decide) ⟨_, rfl, ea, _, .ty "ValueError", true, rfl, e8, (fun cv hc => by cases hc; exact Y.valNoWish), _, rfl, iteN (by decide) ?_⟩⟩⟩
      refine ⟨_, rfl, ea, _, .ref cNoRows, false, rfl, e8, (fun cv hc => by cases hc; exact Y.kNoWish_NoRows), _, rfl, iteN (by decide) ?_⟩
      refine ⟨_, rfl, ea, d7, (e : Int), rfl, e8, d8, _, rfl, ea, _, .ref cNoWish, true, rfl, e8, (fun cv hc => by cases hc; exact Y.kNoWish_NoWish), _, rfl, _, rfl, iteN (by decide) ⟨_, rfl, ea, d7, (e : Int), rfl, e8, d8, _, _, _, _, rfl, .int _, k_int_bool, Nat.le_of_ble_eq_true rfl, fun t nt => ?_⟩⟩
      exact ⟨_, rfl, k t _ ((s7.trans s8).trans (same_new nt)) ((s7.trans s8).free nt) upd_same⟩
    · refine ⟨_, (pss_cons (ps_set (i := 3) scTd.nd rfl (Or.inl rfl) pe_non)
      (pss_cons (ps_tryZ (i := 4) (n := "e") (psz_if (pt_val (pv 2)) (psz_of (psr_set (i := 3) scTd.nd rfl (Or.inl rfl) (per_call (pa_cons (pv 0) (pa_cons (pv 1) pa_nil)) (by rfl) mD kD)) GD hr bD .nil) (psz_of (psr_set (i := 3) scTd.nd rfl (Or.inl rfl) (per_call (pa_cons (pv 0) (pa_cons (pv 1) pa_nil)) (by rfl) mW kW)) GW (hr.mono (by decide)) bW .nil)) rfl rfl rfl rfl (by rfl) Y.mRowError scTd.nd rfl rfl (fun ea => (pss_cons (ps_set (i := 5) scTd.nd rfl (Or.inl rfl) (pe_or (pe_callB (r := rIsD K cNoWish) (call_isd Y.cxNoWish.rd PySem.F.attr_ValueError) (by rfl) T.isi bt_isi (pa_cons (pv 4) (pa_cons (pe_glob (v := .ref cEnded) (by rfl) Y.mEnded rfl) pa_nil))) (pe_or (pe_callB (r := rIsD K cNoWish) (call_isd Y.cxNoWish.rd PySem.F.attr_ValueError) (by rfl) T.isi bt_isi (pa_cons (pv 4) (pa_cons (pe_glob (v := .ref cNoFree) (by rfl) Y.mNoFree rfl) pa_nil))) (pe_or (pe_callB (r := rIsD K cNoWish) (call_isd Y.cxNoWish.rd PySem.F.attr_ValueError) (by rfl) T.isi bt_isi (pa_cons (pv 4) (pa_cons (pe_glob (v := .ref cNoLayout) (by rfl) Y.mNoLayout rfl) pa_nil))) (pe_one (pe_callB (r := rIsD K cNoWish) (call_isd Y.cxNoWish.rd PySem.F.attr_ValueError) (by rfl) T.isi bt_isi (pa_cons (pv 4) (pa_cons (pe_glob (v := .ref cNoLine) (by rfl) Y.mNoLine rfl) pa_nil))))))))
      (pss_cons (ps_set (i := 5) scTd.nd rfl (Or.inl rfl) (pe_or (pv 5) (pe_or (pe_callB (r := rIsD K cNoWish) (call_isd Y.cxNoWish.rd PySem.F.attr_ValueError) (by rfl) T.isi bt_isi (pa_cons (pv 4) (pa_cons (pe_glob (v := .ref cNoPaper) (by rfl) Y.mNoPaper rfl) pa_nil))) (pe_or (pe_callB (r := rIsD K cNoWish) (call_isd Y.cxNoWish.rd PySem.F.attr_ValueError) (by rfl) T.isi bt_isi (pa_cons (pv 4) (pa_cons (pe_glob (v := .ref cNoText) (by rfl) Y.mNoText rfl) pa_nil))) (pe_one (pe_callB (r := rIsD K cNoWish) (call_isd Y.cxNoWish.rd PySem.F.attr_ValueError) (by rfl) T.isi bt_isi (pa_cons (pv 4) (pa_cons (pe_glob (v := .ref cNoUnits) (by rfl) Y.mNoUnits rfl) pa_nil))))))))
      (pss_one (ps_if (pw_or (pt_val (pv 5)) (pw_or (pt_val (pe_callB (r := rIsD K cNoWish) (call_isd Y.cxNoWish.rd PySem.F.attr_ValueError) (by rfl) T.isi bt_isi (pa_cons (pv 4) (pa_cons (pe_glob (v := .ref cTooMuch) (by rfl) Y.mTooMuch rfl) pa_nil)))) (pw_or1 (pt_not (pt_val (pe_callB (r := rIsD K cNoWish) (call_isd Y.cxNoWish.rd PySem.F.attr_ValueError) (by rfl) T.isi bt_isi (pa_cons (pv 4) (pa_cons (pe_bltn (v := .ty "ValueError") (by rfl) Y.mValueError bt_ve rfl) pa_nil)))))))).pt (pss_one (ps_set (i := 3) scTd.nd rfl (Or.inl rfl) pe_str)) (pss_one (ps_if (pt_val (pe_callB (r := rIsD K cNoWish) (call_isd Y.cxNoWish.rd PySem.F.attr_ValueError) (by rfl) T.isi bt_isi (pa_cons (pv 4) (pa_cons (pe_glob (v := .ref cNoRows) (by rfl) Y.mNoRows rfl) pa_nil)))) (pss_one (ps_set (i := 3) scTd.nd rfl (Or.inl rfl) (pe_tup (pa_cons pe_str (pa_cons (pe_xat Y.cxNoWish (pv 4)) (pa_cons (pe_callB (r := rIsD K cNoWish) (call_isd Y.cxNoWish.rd PySem.F.attr_ValueError) (by rfl) T.isi bt_isi (pa_cons (pv 4) (pa_cons (pe_glob (v := .ref cNoWish) (by rfl) Y.mNoWish rfl) pa_nil))) pa_nil)))))) (pss_one (ps_set (i := 3) scTd.nd rfl (Or.inl rfl) (pe_tup (pa_cons pe_str (pa_cons (pe_xat Y.cxNoWish (pv 4)) (pa_cons (pe_or (pe_not (pe_callB (r := rIsD K cNoWish) (call_isd Y.cxNoWish.rd PySem.F.attr_ValueError) (by rfl) T.isi bt_isi (pa_cons (pv 4) (pa_cons (pe_glob (v := .ref cNoWish) (by rfl) Y.mNoWish rfl) pa_nil)))) (pe_one (pe_callB (r := rIsi K) call_isinst (by rfl) T.isi bt_isi (pa_cons (pe_xat Y.cxNoWish (pv 4)) (pa_cons (pe_bltn (v := .ty "bool") (by rfl) T.bool bt_bool rfl) pa_nil))))) pa_nil))))))))))))))
      (pss_one (ps_ret (pv 3))))), ?_⟩
      refine ⟨_, rfl, _, rfl, iteN (by decide) ⟨_, rfl, _, rfl, hw.go hR fun H7 d7 s7 hd => ?_⟩⟩
      refine ⟨Y.exmNoWish, fun ea hea => ?_⟩
      have s8 := same_new (o := excD ea (.ref cNoWish) (some d7)) hea
      have e8 : upd H7 ea (excD ea (.ref cNoWish) (some d7)) ea = _ := upd_same
      have d8 := s8 _ _ hd
      generalize upd H7 ea (excD ea (.ref cNoWish) (some d7)) = H8 at s8 e8 d8 ⊢
      refine ⟨_, rfl, ea, _, .ref cEnded, false, rfl, e8, (fun cv hc => by cases hc; exact Y.kNoWish_Ended), _, rfl, iteN (by decide) ⟨_, rfl, ea, _, .ref cNoFree, false, rfl, e8, (fun cv hc => by cases hc; exact Y.kNoWish_NoFree), _, rfl, iteN (by decide) ⟨_, rfl, ea, _, .ref cNoLayout, false, rfl, e8, (fun cv hc => by cases hc; exact Y.kNoWish_NoLayout), _, rfl, iteN (by decide) ⟨_, rfl, ea, _, .ref cNoLine, false, rfl, e8, (fun cv hc => by cases hc; exact Y.kNoWish_NoLine), ?_⟩⟩⟩⟩
      refine ⟨_, rfl, _, rfl, iteN (by decide) ⟨_, rfl, ea, _, .ref cNoPaper, false, rfl, e8, (fun cv hc => by cases hc; exact Y.kNoWish_NoPaper), _, rfl, iteN (by decide) ⟨_, rfl, ea, _, .ref cNoText, false, rfl, e8, (fun cv hc => by cases hc; exact Y.kNoWish_NoText), _, rfl, iteN (by decide) ⟨_, rfl, ea, _, .ref cNoUnits, false, rfl, e8, (fun cv hc => by cases hc; exact Y.kNoWish_NoUnits), ?_⟩⟩⟩⟩
      refine ⟨_, rfl, _, rfl, iteN (by decide) ⟨_, rfl, ea, _, .ref cTooMuch, false, rfl, e8, (fun cv hc => by cases hc; exact Y.kNoWish_TooMuch), _, rfl, iteN (by decide) ⟨_, rfl, ea, _, .ty "ValueError", true, rfl, e8, (fun cv hc => by cases hc; exact Y.valNoWish), _, rfl, iteN (by decide) ?_⟩⟩⟩
      refine ⟨_, rfl, ea, _, .ref cNoRows, false, rfl, e8, (fun cv hc => by cases hc; exact Y.kNoWish_NoRows), _, rfl, iteN (by decide) ?_⟩
      refine ⟨_, rfl, ea, d7, (e : Int), rfl, e8, d8, _, rfl, ea, _, .ref cNoWish, true, rfl, e8, (fun cv hc => by cases hc; exact Y.kNoWish_NoWish), _, rfl, _, rfl, iteN (by decide) ⟨_, rfl, ea, d7, (e : Int), rfl, e8, d8, _, _, _, _, rfl, .int _, k_int_bool, Nat.le_of_ble_eq_true rfl, fun t nt => ?_⟩⟩
      exact ⟨_, rfl, k t _ ((s7.trans s8).trans (same_new nt)) ((s7.trans s8).free nt) upd_same⟩
    · refine ⟨_, (pss_cons (ps_set (i := 3) scTd.nd rfl (Or.inl rfl) pe_non)
      (pss_cons (ps_tryZ (i := 4) (n := "e") (psz_if (pt_val (pv 2)) (psz_of (psr_set (i := 3) scTd.nd rfl (Or.inl rfl) (per_call (pa_cons (pv 0) (pa_cons (pv 1) pa_nil)) (by rfl) mD kD)) GD hr bD .nil) (psz_of (psr_set (i := 3) scTd.nd rfl (Or.inl rfl) (per_call (pa_cons (pv 0) (pa_cons (pv 1) pa_nil)) (by rfl) mW kW)) GW (hr.mono (by decide)) bW .nil)) rfl rfl rfl rfl (by rfl) Y.mRowError scTd.nd rfl rfl (fun ea => (pss_cons (ps_set (i := 5) scTd.nd rfl (Or.inl rfl) (pe_or (pe_callB (r := rIsD K cNoWish) (call_isd Y.cxNoWish.rd PySem.F.attr_ValueError) (by rfl) T.isi bt_isi (pa_cons (pv 4) (pa_cons (pe_glob (v := .ref cEnded) (by rfl) Y.mEnded rfl) pa_nil))) (pe_or (pe_callB (r := rIsD K cNoWish) (call_isd Y.cxNoWish.rd PySem.F.attr_ValueError) (by rfl) T.isi bt_isi (pa_cons (pv 4) (pa_cons (pe_glob (v := .ref cNoFree) (by rfl) Y.mNoFree rfl) pa_nil))) (pe_or (pe_callB (r := rIsD K cNoWish) (call_isd Y.cxNoWish.rd PySem.F.attr_ValueError) (by rfl) T.isi bt_isi (pa_cons (pv 4) (pa_cons (pe_glob (v := .ref cNoLayout) (by rfl) Y.mNoLayout rfl) pa_nil))) (pe_one (pe_callB (r := rIsD K cNoWish) (call_isd Y.cxNoWish.rd PySem.F.attr_ValueError) (by rfl) T.isi bt_isi (pa_cons (pv 4) (pa_cons (pe_glob (v := .ref cNoLine) (by rfl) Y.mNoLine rfl) pa_nil))))))))
      (pss_cons (ps_set (i := 5) scTd.nd rfl (Or.inl rfl) (pe_or (pv 5) (pe_or (pe_callB (r := rIsD K cNoWish) (call_isd Y.cxNoWish.rd PySem.F.attr_ValueError) (by rfl) T.isi bt_isi (pa_cons (pv 4) (pa_cons (pe_glob (v := .ref cNoPaper) (by rfl) Y.mNoPaper rfl) pa_nil))) (pe_or (pe_callB (r := rIsD K cNoWish) (call_isd Y.cxNoWish.rd PySem.F.attr_ValueError) (by rfl) T.isi bt_isi (pa_cons (pv 4) (pa_cons (pe_glob (v := .ref cNoText) (by rfl) Y.mNoText rfl) pa_nil))) (pe_one (pe_callB (r := rIsD K cNoWish) (call_isd Y.cxNoWish.rd PySem.F.attr_ValueError) (by rfl) T.isi bt_isi (pa_cons (pv 4) (pa_cons (pe_glob (v := .ref cNoUnits) (by rfl) Y.mNoUnits rfl) pa_nil))))))))
      (pss_one (ps_if (pw_or (pt_val (pv 5)) (pw_or (pt_val (pe_callB (r := rIsD K cNoWish) (call_isd Y.cxNoWish.rd PySem.F.attr_ValueError) (by rfl) T.isi bt_isi (pa_cons (pv 4) (pa_cons (pe_glob (v := .ref cTooMuch) (by rfl) Y.mTooMuch rfl) pa_nil)))) (pw_or1 (pt_not (pt_val (pe_callB (r := rIsD K cNoWish) (call_isd Y.cxNoWish.rd PySem.F.attr_ValueError) (by rfl) T.isi bt_isi (pa_cons (pv 4) (pa_cons (pe_bltn (v := .ty "ValueError") (by rfl) Y.mValueError bt_ve rfl) pa_nil)))))))).pt (pss_one (ps_set (i := 3) scTd.nd rfl (Or.inl rfl) pe_str)) (pss_one (ps_if (pt_val (pe_callB (r := rIsD K cNoWish) (call_isd Y.cxNoWish.rd PySem.F.attr_ValueError) (by rfl) T.isi bt_isi (pa_cons (pv 4) (pa_cons (pe_glob (v := .ref cNoRows) (by rfl) Y.mNoRows rfl) pa_nil)))) (pss_one (ps_set (i := 3) scTd.nd rfl (Or.inl rfl) (pe_tup (pa_cons pe_str (pa_cons (pe_xat Y.cxNoWish (pv 4)) (pa_cons (pe_callB (r := rIsD K cNoWish) (call_isd Y.cxNoWish.rd PySem.F.attr_ValueError) (by rfl) T.isi bt_isi (pa_cons (pv 4) (pa_cons (pe_glob (v := .ref cNoWish) (by rfl) Y.mNoWish rfl) pa_nil))) pa_nil)))))) (pss_one (ps_set (i := 3) scTd.nd rfl (Or.inl rfl) (pe_tup (pa_cons pe_str (pa_cons (pe_xat Y.cxNoWish (pv 4)) (pa_cons (pe_or (pe_not (pe_callB (r := rIsD K cNoWish) (call_isd Y.cxNoWish.rd PySem.F.attr_ValueError) (by rfl) T.isi bt_isi (pa_cons (pv 4) (pa_cons (pe_glob (v := .ref cNoWish) (by rfl) Y.mNoWish rfl) pa_nil)))) (pe_one (pe_callB (r := rIsi K) call_isinst (by rfl) T.isi bt_isi (pa_cons (pe_xat Y.cxNoWish (pv 4)) (pa_cons (pe_bltn (v := .ty "bool") (by rfl) T.bool bt_bool rfl) pa_nil))))) pa_nil))))))))))))))
      (pss_one (ps_ret (pv 3))))), ?_⟩
      refine ⟨_, rfl, _, rfl, iteN (by decide) ⟨_, rfl, _, rfl, lr, rs, _, rfl, hR, .inr ⟨p, xs, ds, rfl, h1, h2, h3, h4, ?_⟩⟩⟩
      rw [h5]
      intro G s1
      exact ⟨_, rfl, k G s1⟩
end
end My


namespace My
open PySem L2
theorem pass2 {X : Cx} : Passes (CX2 X.prog X.w) X E0 := fun _ _ _ _ _ _ _ ⟨_, _, _, _, _, _, _, _, _, _, _, _, _, _, _, h⟩ => h.elim
theorem HD.el {H : Hp} {v : V} {d : Da} (h : HD H v d) : ElM v := by
  cases h with
  | non => exact .inl (.inl (.inl rfl))
  | bl b => exact .inl (.inr ⟨b, rfl⟩)
  | int i => exact .inl (.inl (.inr (.inl ⟨i, rfl⟩)))
  | str s => exact .inl (.inl (.inr (.inr ⟨s, rfl⟩)))
  | tup h l e => exact .inr ⟨_, rfl⟩
  | lst h l e => exact .inr ⟨_, rfl⟩
theorem HDs.el {H : Hp} {xs : List V} {ds : List Da} (h : HDs H xs ds) : ∀ z ∈ xs, ElM z := by
  induction h with
  | nil => exact fun z hz => absurd hz List.not_mem_nil
  | cons h r ih => exact fun z hz => (List.mem_cons.mp hz).elim (fun e => by rw [e]; exact HD.el h) (ih z)
theorem fBad_snoc {rs : List (Str × List Int)} (d : Da) : ∀ (l : List Da) (i : Nat), fBad rs i (l ++ [d]) = match fBad rs i l with
    | some e => some e
    | none => if wishB rs d = true then none else some (i + l.length)
  | [], i => by
    show (if wishB rs d = true then none else some i) = _
    rfl
  | a :: l, i => by
    show (if wishB rs a = true then fBad rs (i + 1) (l ++ [d]) else some i) = _
    show _ = match (if wishB rs a = true then fBad rs (i + 1) l else some i) with | some e => some e | none => if wishB rs d = true then none else some (i + (a :: l).length)
    by_cases c : wishB rs a = true
    · rw [if_pos c, if_pos c, fBad_snoc d l (i + 1), List.length_cons, show i + 1 + l.length = i + (l.length + 1) by omega]
    · rw [if_neg c, if_neg c]
/-- what is due of the first twelve -/
def due12 (rs : List (Str × List Int)) (ds : List Da) : Option Nat := fBad rs 0 (ds.take 12)
theorem due_snoc {rs : List (Str × List Int)} {ds : List Da} {d : Da} : due12 rs (ds ++ [d]) = match due12 rs ds with
    | some e => some e
    | none => if wishB rs d = false ∧ ds.length < 12 then some ds.length else none := by
  unfold due12
  by_cases c : ds.length < 12
  · rw [List.take_of_length_le (by rw [List.length_append]; exact c : (ds ++ [d]).length ≤ 12), List.take_of_length_le (by omega : ds.length ≤ 12), fBad_snoc]
    cases fBad rs 0 ds with
    | some e => rfl
    | none =>
      show (if wishB rs d = true then none else some (0 + ds.length)) = if wishB rs d = false ∧ ds.length < 12 then some ds.length else none
      cases wishB rs d with
      | true => rw [if_pos rfl, if_neg (fun z => absurd z.1 (by decide))]
      | false => rw [if_neg (by decide), if_pos ⟨rfl, c⟩, Nat.zero_add]
  · rw [List.take_append_of_le_length (by omega)]
    cases fBad rs 0 (ds.take 12) with
    | some e => rfl
    | none => exact (if_neg (fun z => c z.2)).symm
theorem ws_due {rs : List (Str × List Int)} {ds : List Da} : wsBad rs ds = match due12 rs ds with
    | some e => some e
    | none => if 12 < ds.length then some 12 else none := rfl
def DueV (G : Hp) (v : V) : Option Nat → Prop
  | none => v = .non
  | some e => ∃ t, v = .ref t ∧ G t = some (.tup [.str "wish", .int (e : Int), .bl false])
theorem DueV.same {G G' : Hp} {v : V} {o : Option Nat} (h : DueV G v o) (s : Same G G') : DueV G' v o := by
  cases o with
  | none => exact h
  | some e =>
    obtain ⟨t, h1, h2⟩ := h
    exact ⟨t, h1, s _ _ h2⟩
/-- spoilt rows -/
theorem ck_snoc {ds : List Da} {e : Da} (h : ∀ d ∈ ds, GR ds.length d) (he : ckB (ds.length + 1) e = false ∨ goesD e = true) : ckBad (ds ++ [e]) = some ds.length := by
  have key : ∀ (l : List Da) (i : Nat), (∀ d ∈ l, GR ds.length d) → ckF (ds.length + 1) i (l ++ [e]) = if ckB (ds.length + 1) e = true then none else some (i + l.length) := fun l => by
    induction l with
    | nil => intro i _; rfl
    | cons d l ih =>
      intro i hl
      have hd := hl d List.mem_cons_self
      show (if ckB (ds.length + 1) d = true then ckF (ds.length + 1) (i + 1) (l ++ [e]) else some i) = _
      rw [if_pos, ih (i + 1) (fun e he => hl e (List.mem_cons_of_mem _ he)), List.length_cons, show i + 1 + l.length = i + (l.length + 1) by omega]
      unfold ckB
      rw [hd.row, Bool.true_and, List.all_eq_true]
      intro t ht
      have := (hd.tg t ht).2
      exact decide_eq_true (by omega)
  have hk := key ds 0 h
  unfold ckBad
  rw [List.getLast?_append, List.length_append]
  show (match ckF (ds.length + 1) 0 (ds ++ [e]) with | some i => some i | none => if goesD e = true then some (ds.length + 1 - 1) else none) = _
  rw [hk]
  by_cases c : ckB (ds.length + 1) e = true
  · rw [if_pos c]
    rcases he with z | z
    · rw [z] at c; cases c
    · show (if goesD e = true then some (ds.length + 1 - 1) else none) = _
      rw [if_pos z]
      rfl
  · rw [if_neg c, Nat.zero_add]
theorem ckb_no {n : Nat} {e : Da} (h : rowB e = false) : ckB n e = false := by
  unfold ckB
  rw [h]
  rfl
def spoilD (n : Nat) : List Da := [.tup [.str "more", .int 0, .int 1], .tup [.str "tell", .int 8], .tup [.str "jump", .int ((n : Int) + 1), .int 0], .tup [.str "jump", .int 0, .bl true], .lst [.str "stop"], .non, .tup [.str "Stop"]] ++ [.tup [.str "halt", .int (-1)]]
theorem spoil_ok {n : Nat} : ∀ e ∈ spoilD n, okR e ∧ (ckB (n + 1) e = false ∨ goesD e = true) := by
  refine fa_cons ⟨?_, .inr (by decide +kernel)⟩ (fa_cons ⟨?_, .inl (ckb_no (by decide +kernel))⟩ (fa_cons ⟨?_, .inl ?_⟩ (fa_cons ⟨?_, .inl (ckb_no (by decide +kernel))⟩ (fa_cons ⟨?_, .inl (ckb_no rfl)⟩ (fa_cons ⟨?_, .inl (ckb_no rfl)⟩ (fa_cons ⟨?_, .inl (ckb_no (by decide +kernel))⟩ (fa_cons ⟨?_, .inl (ckb_no (by decide +kernel))⟩ fa_nil)))))))
  · exact fun u hu => by cases hu; exact .inl (by decide +kernel)
  · exact fun u hu => by cases hu; exact .inl (by decide +kernel)
  · exact fun u hu => by cases hu; exact .inl (by decide +kernel)
  · unfold ckB
    have e : tgD (.tup [.str "jump", .int ((n : Int) + 1), .int 0]) = [(n : Int) + 1] := by
      show (if ("jump" : Str) = "table" then ([] : List Int) else if ("jump" : Str) ∈ jcm then [(n : Int) + 1] else if ("jump" : Str) ∈ zb then [] else []) = _
      rw [if_neg (by decide), if_pos (by decide +kernel)]
    rw [e]
    show (_ && (decide ((n : Int) + 1 < ((n + 1 : Nat) : Int)) && true)) = false
    rw [decide_eq_false (by omega)]
    simp
  · exact fun u hu => by cases hu; exact .inl (by decide +kernel)
  · exact fun u hu => by cases hu
  · exact fun u hu => by cases hu
  · exact fun u hu => by cases hu; exact .inr (by decide +kernel)
  · exact fun u hu => by cases hu; exact .inl (by decide +kernel)
theorem fr_del2 {H G : Hp} {l k : Addr} {x y : HO} (h : H l = some x) (h2 : H k = some y) : Same (fr H G) (del (del G l) k) := fun b o e => by
  have c : b ≠ l := fun z => by unfold fr at e; rw [z, h] at e; cases e
  have c2 : b ≠ k := fun z => by unfold fr at e; rw [z, h2] at e; cases e
  rw [del_ne c2, del_ne c]
  exact fr_le _ _ e
structure Fa (lx lr lw : Addr) (G : Hp) (m : List Int) (rx : List V) (ds : List Da) (wv : List V) (wd : List Da) : Prop where
  x : G lx = some (.lst (m.map V.int))
  r : G lr = some (.lst rx)
  w : G lw = some (.lst wv)
  rd : HDs (del (del G lx) lw) rx ds
  wd : HDs (del (del G lx) lw) wv wd
  n1 : lr ≠ lx
  n2 : lw ≠ lx
section
variable {lx lr lw : Addr} {G G' : Hp} {m m' : List Int} {rx : List V} {ds : List Da} {wv : List V} {wd : List Da}
theorem Fa.step (h : Fa lx lr lw G m rx ds wv wd) (s : Same (del G lx) (del G' lx)) (hx : G' lx = some (.lst (m'.map V.int))) : Fa lx lr lw G' m' rx ds wv wd :=
  ⟨hx, by have := s _ _ (del_at h.r h.n1); rwa [del_ne h.n1] at this, by have := s _ _ (del_at h.w h.n2); rwa [del_ne h.n2] at this, h.rd.same (same_del s), h.wd.same (same_del s), h.n1, h.n2⟩
theorem Fa.app (h : Fa lx lr lw G m rx ds wv wd) (n3 : lr ≠ lw) {v : V} {d : Da} (hv : HD (del (del G lx) lw) v d) : Fa lx lr lw (upd G lw (.lst (wv ++ [v]))) m rx ds (wv ++ [v]) (wd ++ [d]) := by
  have s : Same (del (del G lx) lw) (del (del (upd G lw (.lst (wv ++ [v]))) lx) lw) := by
    rw [del_updE h.n2]
    exact del_put
  exact ⟨(upd_ne (Ne.symm h.n2)).trans h.x, (upd_ne n3).trans h.r, upd_same, h.rd.same s, (h.wd.app (.cons hv .nil)).same s, h.n1, h.n2⟩
theorem app_same (n2 : lw ≠ lx) {o : HO} : Same (del (del G lx) lw) (del (del (upd G lw o) lx) lw) := by
  rw [del_updE n2]
  exact del_put
end
theorem ref_non {t : Addr} : ¬ decide (V.ref t = V.non) = true := fun z => by have := of_decide_eq_true z; cases this
theorem el3 (u : Str) (e : Int) (b : Bool) : ∀ z ∈ [V.str u, .int e, .bl b], ElM z :=
  fa_cons (.inl (.inl (.inr (.inr ⟨_, rfl⟩)))) (fa_cons (.inl (.inl (.inr (.inl ⟨_, rfl⟩)))) (fa_cons (.inl (.inr ⟨_, rfl⟩)) fa_nil))
theorem due_eq {H : Hp} {v u : V} {o : Option Nat} (h : DueV H v o) (k : DueV H u o) : (v = .non ∧ u = .non) ∨ EqB H v u ∨ EqL H v u := by
  cases o with
  | none => exact .inl ⟨h, k⟩
  | some e =>
    obtain ⟨t, rfl, h2⟩ := h
    obtain ⟨t', rfl, k2⟩ := k
    exact .inr (.inl ⟨t, t', _, rfl, rfl, h2, k2, el3 _ _ _⟩)
section
variable {P : Program} {w : World} {K : PySem.W.Frag} {mg : Str → Option Value} {base : Heap}
variable {cNoWish : Addr}
theorem told_w {H : Hp} {lr p : Addr} {rs : List (Str × List Int)} {xs : List V} {ds : List Da} {Q : VK} (hR : RowsT H lr rs) (h1 : H p = some (.lst xs)) (h2 : HDs H xs ds) (h3 : ∀ d ∈ ds, okI d) (h4 : xs.length ≤ 1000) (k : ∀ v H', Same H H' → DueV H' v (wsBad rs ds) → Q v H') : spTd (K := K) [.ref lr, .ref p, .bl false] H Q E0 := by
  refine ⟨.ref lr, .ref p, .inr ⟨rfl, lr, rs, rfl, hR, ?_⟩⟩
  cases hb : wsBad rs ds with
  | some e =>
    rw [hb] at k
    exact .inl ⟨e, .inr ⟨p, xs, ds, rfl, h1, h2, h3, h4, hb⟩, fun t H' s _ ht => k _ _ s ⟨t, rfl, ht⟩⟩
  | none =>
    rw [hb] at k
    exact .inr ⟨p, xs, ds, rfl, h1, h2, h3, h4, hb, fun H' s => k _ _ s rfl⟩
theorem told_f {H : Hp} {lr : Addr} {rs : List (Str × List Int)} {v : V} {t : Value} {Q : VK} (hR : RowsT H lr rs) (h1 : TyOf K H v t) (h2 : PySem.W.kitOne K t (.type "list") = some false) (k : ∀ t H', Same H H' → H' t = some (.tup [.str "wish", .int 0, .bl false]) → Q (.ref t) H') : spTd (K := K) [.ref lr, v, .bl false] H Q E0 :=
  ⟨.ref lr, v, .inr ⟨rfl, lr, rs, rfl, hR, .inl ⟨0, .inl ⟨rfl, t, h1, h2⟩, fun t H' s _ ht => k t H' s ht⟩⟩⟩
theorem told_n {H : Hp} {vr vw : V} {e : Nat} {Q : VK} (h : RowsBad K H vr e) (k : ∀ t H', Same H H' → H' t = some (.tup [.str "rows", .int (e : Int), .bl false]) → Q (.ref t) H') : spTd (K := K) [vr, vw, .bl true] H Q E0 :=
  ⟨vr, vw, .inl ⟨rfl, e, .inl ⟨h, fun t H' s _ ht => k t H' s ht⟩⟩⟩
structure Rw (H : Hp) (lr : Addr) (rx : List V) (ds : List Da) : Prop where
  r : H lr = some (.lst rx)
  d : HDs H rx ds
  len : ds.length ≤ 10
  pos : 1 ≤ ds.length
  gr : ∀ d ∈ ds, GR ds.length d
  fin : EndsOk ds
theorem Rw.same {H H' : Hp} {lr : Addr} {rx : List V} {ds : List Da} (h : Rw H lr rx ds) (s : Same H H') : Rw H' lr rx ds := ⟨s _ _ h.r, h.d.same s, h.len, h.pos, h.gr, h.fin⟩
theorem Rw.t {H : Hp} {lr : Addr} {rx : List V} {ds : List Da} (h : Rw H lr rx ds) : RowsT H lr (ds.map rowT) := rows_t h.r h.d h.gr
theorem told_t {H : Hp} {lr : Addr} {vw : V} {rx : List V} {ds : List Da} {e : Nat} {Q : VK} (h : Rw H lr rx ds) (hw : WishBad K H (ds.map rowT) vw e) (k : ∀ t H', Same H H' → H' t = some (.tup [.str "wish", .int (e : Int), .bl false]) → Q (.ref t) H') : spTd (K := K) [.ref lr, vw, .bl true] H Q E0 :=
  ⟨.ref lr, vw, .inl ⟨rfl, e, .inr ⟨lr, rx, ds, rfl, h.r, h.d, (fun d hd => gr_okR (h.gr d hd)), (by have := h.d.len; have := h.len; omega), rows_ck (fun z => by have := h.pos; rw [z] at this; cases this) h.gr h.fin, h.t, hw, fun t H' s _ ht => k t H' s ht⟩⟩⟩
def spLaw : Sp := fun vs H Q _ => ∃ (a : Addr) (ns : List Int), vs = [.ref a] ∧ SqL K H a (ns.map V.int) ∧ ns.length ≤ 63 ∧ ∀ H', Q (.bl true) H'
theorem scL : FnScope ["_law_script", "_law_xs", "_law_rows_here", "_law_wishes", "_law_due", "_law_k", "_law_wish_here", "_law_handed", "_law_other", "_law_n", "_law_spoilt", "_law_bad_here"] ["_law_script"] (defScope s_law) := ⟨rfl, rfl, rfl, by decide +kernel, rfl, by decide +kernel, by decide +kernel⟩
theorem ok_law {f fSt fCe fRs fWi fBd fTo fCw : Addr} {fd fdSt fdCe fdRs fdWi fdBd fdTo fdCw : FuncData} (F : Fun K "law" "law" s_law f fd) (T : Txt K w.params mg) (GSt : FnOk P w K mg base CX0 1 fSt fdSt ["_law_cell", "_law_size"] spSt) (kSt : PySem.W.keepIn K (.ref fSt) = true) (bSt : Binds K fdSt ["_law_cell", "_law_size"] []) (mSt : mg "_law_stream" = some (.ref fSt))(GCe : FnOk P w K mg base CX0 1 fCe fdCe ["_law_script", "_law_k"] (spCell (K := K))) (kCe : PySem.W.keepIn K (.ref fCe) = true) (bCe : Binds K fdCe ["_law_script", "_law_k"] []) (mCe : mg "_law_cell_at" = some (.ref fCe))(GRs : FnOk P w K mg base CX0 3 fRs fdRs ["_law_xs", "_law_most"] spRs) (kRs : PySem.W.keepIn K (.ref fRs) = true) (bRs : Binds K fdRs ["_law_xs", "_law_most"] []) (mRs : mg "_law_rows" = some (.ref fRs))(GWi : FnOk P w K mg base CX0 3 fWi fdWi ["_law_xs", "_law_rows_here", "_law_guards"] spLw) (kWi : PySem.W.keepIn K (.ref fWi) = true) (bWi : Binds K fdWi ["_law_xs", "_law_rows_here", "_law_guards"] []) (mWi : mg "_law_wish" = some (.ref fWi))(GBd : FnOk P w K mg base CX0 2 fBd fdBd ["_law_xs", "_law_rows_here"] spBd) (kBd : PySem.W.keepIn K (.ref fBd) = true) (bBd : Binds K fdBd ["_law_xs", "_law_rows_here"] []) (mBd : mg "_law_bad" = some (.ref fBd))(GTo : FnOk P w K mg base CX0 9 fTo fdTo ["_law_rows_here", "_law_wishes", "_law_wide"] (spTd (K := K))) (kTo : PySem.W.keepIn K (.ref fTo) = true) (bTo : Binds K fdTo ["_law_rows_here", "_law_wishes", "_law_wide"] []) (mTo : mg "_law_told" = some (.ref fTo))(GCw : FnOk P w K mg base (CX2 P w) 7 fCw fdCw ["rows", "wishes"] (spCw (K := K) cNoWish)) (kCw : PySem.W.keepIn K (.ref fCw) = true) (bCw : Binds K fdCw ["rows", "wishes"] []) (mCw : mg "check_wishes" = some (.ref fCw)) : FnOk P w K mg base CX0 10 f fd ["_law_script"] (spLaw (K := K)) := by
  refine F.ok scL (fun vs H Q E h => ?_) (fun cdv A outer s H vs Q E hr h => ?_)
  · obtain ⟨a, ns, rfl, _⟩ := h
    rfl
  · obtain ⟨a, ns, rfl, hS, hns, k⟩ := h
    have hu2 : (A.deeper (PyProof.Rows.envOfC "law" (defScope s_law) s.heap.objs.size f cdv)).units + 2 < cLine := Nat.lt_of_le_of_lt (Nat.add_le_add_left (by decide : 2 ≤ 64) _) hr.units
    refine wrapX (pssx_cons (psx_of (ps_set (i := 1) scL.nd rfl (Or.inl rfl) (pe_call GSt (hr.mono (by decide)) (by rfl) mSt kSt bSt .nil pass0 (pa_cons (pe_call GCe (hr.mono (by decide)) (by rfl) mCe kCe bCe .nil pass0 (pa_cons (pv 0) (pa_cons pe_int pa_nil))) (pa_cons pe_int pa_nil)))))
      (pssx_cons (psx_of (ps_set (i := 2) scL.nd rfl (Or.inl rfl) (pe_call GRs (hr.mono (by decide)) (by rfl) mRs kRs bRs .nil pass0 (pa_cons (pv 1) (pa_cons pe_int pa_nil)))))
      (pssx_cons (psx_of (ps_set (i := 3) scL.nd rfl (Or.inl rfl) (pe_lst pa_nil)))
      (pssx_cons (psx_of (ps_set (i := 4) scL.nd rfl (Or.inl rfl) pe_non))
      (pssx_cons (psx_of (ps_for PassesOwn.never rfl (pi_range1 rfl T.range (pa_cons (pe_op op_mod (pe_op op_fdivB (pe_bm0 PySem.F.plainAttrs_list PySem.F.slot_list_pop PySem.F.type_list_pop mt_pop (pv 1)) pe_int) pe_int) pa_nil)) (pg_name (i := 5) scL.nd rfl (Or.inl rfl)) (pss_cons (ps_set (i := 6) scL.nd rfl (Or.inl rfl) (pe_call GWi (hr.mono (by decide)) (by rfl) mWi kWi bWi .nil pass0 (pa_cons (pv 1) (pa_cons (pv 2) (pa_cons pe_bl pa_nil)))))
      (pss_mid (ps_if (pt_cmpR op_eq (pe_op op_mod (pe_op op_fdivB (pe_bm0 PySem.F.plainAttrs_list PySem.F.slot_list_pop PySem.F.type_list_pop mt_pop (pv 1)) pe_int) pe_int) pe_int (nomark _)) (pss_cons (ps_set (i := 6) scL.nd rfl (Or.inl rfl) (pe_call GBd (hr.mono (by decide)) (by rfl) mBd kBd bBd .nil pass0 (pa_cons (pv 1) (pa_cons (pv 2) pa_nil))))
      (pss_one (ps_if (pw_and (pt_cmpR op_isN (pv 4) pe_non (nomark _)) (pw_and1 (pt_cmpR op_lt (pv 5) pe_int (nomark _)))).pt (pss_one (ps_set (i := 4) scL.nd rfl (Or.inl rfl) (pe_tup (pa_cons pe_str (pa_cons (pv 5) (pa_cons pe_bl pa_nil)))))) pss_nil))) pss_nil)
      (pss_one (ps_expr (pe_bm PySem.F.plainAttrs_list PySem.F.slot_list_append PySem.F.type_list_append mt_append (pv 3) (pa_cons (pv 6) pa_nil))))))))
      (pssx_mid (psx_if (pw_and (pt_cmpR op_isN (pv 4) pe_non (nomark _)) (pw_and1 (pt_cmpR op_gt (pe_callB call_len_seq (by rfl) T.len bt_len (pa_cons (pv 3) pa_nil)) pe_int (nomark _)))).pt (pssx_one (psx_of (ps_set (i := 4) scL.nd rfl (Or.inl rfl) (pe_tup (pa_cons pe_str (pa_cons pe_int (pa_cons pe_bl pa_nil))))))) (pssx_nil pss_nil))
      (pssx_cons (psx_of (ps_set (i := 7) scL.nd rfl (Or.inl rfl) (pe_callTy call_list_of (by rfl) T.list bt_list (pa_cons (pv 3) pa_nil))))
      (pssx_cons (psx_if (pw_or (pt_cmpR (op_neM hu2) (pe_call GTo hr (by rfl) mTo kTo bTo .nil pass0 (pa_cons (pv 2) (pa_cons (pv 7) (pa_cons pe_bl pa_nil)))) (pv 4) (nomark _)) (pw_or1 (pt_cmpR (op_neM hu2) (pv 7) (pv 3) (nomark _)))).pt (pssx_one (psx_of (ps_ret pe_bl))) (pssx_nil pss_nil))
      (pssx_mid (psx_if (pw_and (pt_cmpR op_notN (pv 4) pe_non (nomark _)) (pw_and1 (pt_cmpR (op_neM hu2) (pe_call GTo hr (by rfl) mTo kTo bTo .nil pass0 (pa_cons (pv 2) (pa_cons (pv 3) (pa_cons pe_bl pa_nil)))) (pv 4) (nomark _)))).pt (pssx_one (psx_of (ps_ret pe_bl))) (pssx_nil pss_nil))
      (pssx_cons (psx_of (ps_for PassesOwn.never rfl (pi_list (pe_lstS (.cons pe_non (.cons (pe_callTy call_tuple_of (by rfl) T.tuple bt_tuple (pa_cons (pv 3) pa_nil)) (.cons pe_dnewK (.cons pe_str (.cons pe_int .nil))))))) (pg_name (i := 8) scL.nd rfl (Or.inl rfl)) (pss_one (ps_if (pt_cmpR (op_neM hu2) (pe_call GTo hr (by rfl) mTo kTo bTo .nil pass0 (pa_cons (pv 2) (pa_cons (pv 8) (pa_cons pe_bl pa_nil)))) (pe_tup (pa_cons pe_str (pa_cons pe_int (pa_cons pe_bl pa_nil)))) (nomark _)) (pss_one (ps_ret pe_bl)) pss_nil))))
      (pssx_cons (psx_of (ps_set (i := 9) scL.nd rfl (Or.inl rfl) (pe_callB call_len_seq (by rfl) T.len bt_len (pa_cons (pv 2) pa_nil))))
      (pssx_cons (psx_of_i (psi_set (i := 10) scL.nd rfl (Or.inl rfl) (pei_lst (.cons (pe_tup (pa_cons pe_str (pa_cons pe_int (pa_cons pe_int pa_nil)))) (.cons (pe_tup (pa_cons pe_str (pa_cons pe_int pa_nil))) (.cons (pe_tup (pa_cons pe_str (pa_cons (pe_op op_add (pv 9) pe_int) (pa_cons pe_int pa_nil)))) (.cons (pe_tup (pa_cons pe_str (pa_cons pe_int (pa_cons pe_bl pa_nil)))) (.cons (pe_lst (pa_cons pe_str pa_nil)) (.cons pe_non (.cons (pe_tup (pa_cons pe_str pa_nil)) .nil))))))))))
      (pssx_cons (psx_of (ps_for PassesOwn.never rfl (pi_list (pe_op op_cat (pv 10) (pe_lst (pa_cons (pe_tup (pa_cons pe_str (pa_cons (pe_un un_neg pe_int) pa_nil))) pa_nil)))) (pg_name (i := 11) scL.nd rfl (Or.inl rfl)) (pss_one (ps_for PassesOwn.never rfl (pi_list (pe_lst (pa_cons pe_non (pa_cons (pv 3) pa_nil)))) (pg_name (i := 8) scL.nd rfl (Or.inl rfl)) (pss_one (ps_if (pt_cmpR (op_neM hu2) (pe_call GTo hr (by rfl) mTo kTo bTo .nil pass0 (pa_cons (pe_op op_cat (pv 2) (pe_lst (pa_cons (pv 11) pa_nil))) (pa_cons (pv 8) (pa_cons pe_bl pa_nil)))) (pe_tup (pa_cons pe_str (pa_cons (pv 9) (pa_cons pe_bl pa_nil)))) (nomark _)) (pss_one (ps_ret pe_bl)) pss_nil))))))
      (pssx_cons (psx_if (pw_or (pt_cmpR (op_neM hu2) (pe_call GTo hr (by rfl) mTo kTo bTo .nil pass0 (pa_cons (pv 2) (pa_cons pe_non (pa_cons pe_bl pa_nil)))) (pe_tup (pa_cons pe_str (pa_cons pe_int (pa_cons pe_bl pa_nil)))) (nomark _)) (pw_or1 (pt_cmpR (op_neM hu2) (pe_call GTo hr (by rfl) mTo kTo bTo .nil pass0 (pa_cons (pe_callTy call_tuple_of (by rfl) T.tuple bt_tuple (pa_cons (pv 2) pa_nil)) (pa_cons (pe_lst pa_nil) (pa_cons pe_bl pa_nil)))) (pe_tup (pa_cons pe_str (pa_cons pe_int (pa_cons pe_bl pa_nil)))) (nomark _)))).pt (pssx_one (psx_of (ps_ret pe_bl))) (pssx_nil pss_nil))
      (pssx_one (psx_of (ps_ret (pe_and (pe_cmpR (op_eqM hu2) (pe_call GTo hr (by rfl) mTo kTo bTo .nil pass0 (pa_cons (pe_lst pa_nil) (pa_cons (pv 3) (pa_cons pe_bl pa_nil)))) (pe_tup (pa_cons pe_str (pa_cons pe_int (pa_cons pe_bl pa_nil)))) (nomark _)) (pe_one (pe_cmpR op_isN (pe_call GCw (hr.mono (by decide)) (by rfl) mCw kCw bCw .nil pass2 (pa_cons (pv 2) (pa_cons (pe_lst pa_nil) pa_nil))) pe_non (nomark _))))))))))))))))))))) ?_
    refine ⟨_, rfl, a, ns, 0, rfl, hS, by decide, fun c => ⟨c, 300, rfl, by decide, fun lx ms0 G0 s0 nlx hx0 hml => ?_⟩⟩
    refine ⟨_, rfl, lx, ms0, rfl, hx0, by omega, fun lr rx ds m0 G1 s1 nlr n1 hr1 hrd1 hd1 hdn hgr hend hx1 hm0 => ?_⟩
    refine ⟨Nat.le_of_ble_eq_true rfl, fun lw nlw => ?_⟩
    have n2 : lw ≠ lx := fun z => by rw [z, hx1] at nlw; cases nlw
    have n3 : lr ≠ lw := fun z => by rw [← z, hr1] at nlw; cases nlw
    have v2 := same_new (o := .lst []) nlw
    have F2 : Fa lx lr lw (upd G1 lw (.lst [])) m0 rx ds [] [] := ⟨v2 _ _ hx1, v2 _ _ hr1, upd_same, hrd1.same (fun b o hb => by
      have c : b ≠ lw := fun z => by rw [z, del_ne n2, nlw] at hb; cases hb
      rw [del_ne c, del_updE n2, upd_ne c]
      exact hb), .nil, n1, n2⟩
    generalize upd G1 lw (.lst []) = G2 at F2 ⊢
    clear v2
    obtain ⟨a1, m1, p1, q1, r1⟩ := pop_go (ms := m0) (by omega)
    refine ⟨_, rfl, .inl ⟨rfl, _, SqL.of F2.x⟩, lx, _, _, rfl, rfl, F2.x, p1, ?_⟩
    rw [q1]
    have F3 : Fa lx lr lw (upd G2 lx (.lst (m1.map V.int))) m1 rx ds [] [] := F2.step del_put upd_same
    generalize upd G2 lx (.lst (m1.map V.int)) = G3 at F3 ⊢
    obtain ⟨n, hn, hnl⟩ := modN (a1 / 3) (n := 15) (by decide)
    refine ⟨_, _, rfl, rfl, ⟨by show (0 : Int) < 3; decide, by show (3 : Int) < _; decide⟩, _, _, rfl, rfl, (by show (0 : Int) < 15; decide), _, rfl, ?_⟩
    rw [show a1 / 3 % 15 = (n : Int) from hn]
    refine ⟨by omega, by omega, ?_⟩
    refine for_range (lo := 0) (n := ((n : Nat) : Int).toNat) (fun i σ G => ∃ (dv : V) (v5 v6 : Option V) (m : List Int) (wv : List V) (wd : List Da), σ = [some (.ref a), some (.ref lx), some (.ref lr), some (.ref lw), some dv, v5, v6, none, none, none, none, none] ∧ Fa lx lr lw G m rx ds wv wd ∧ wd.length = i ∧ (∀ d ∈ wd, okI d) ∧ DueV (del (del G lx) lw) dv (due12 (ds.map rowT) wd) ∧ 206 ≤ m.length + 11 * i) ?_ ?_ ?_
    · exact ⟨.non, none, none, m1, [], [], rfl, F3, rfl, fun d hd => absurd hd List.not_mem_nil, rfl, by omega⟩
    · rintro i σ G hi ⟨dv, v5, v6, m, wv, wd, rfl, F, hwl, hok, hdue, hm⟩
      have hin : i < n := by rw [Int.toNat_natCast] at hi; exact hi
      have e0 : (0 : Int) + (i : Int) = (i : Int) := by omega
      rw [e0]
      refine ⟨_, rfl, _, rfl, lx, lr, m, rx, ds, rfl, F.x, by omega, n1, F.r, F.rd.same del_le, hd1, by omega, hgr, fun v d m2 G4 s4 hx4 hm2 hv hwb hoi hnt => ?_⟩
      have F4 := F.step s4 hx4
      have hv4 := HD.delT hv (del_at F4.w n2) hnt
      have hdue4 := hdue.same (same_del (l := lw) s4)
      refine ⟨fun σ G => ∃ (dv v : V) (d : Da) (m : List Int), σ = [some (.ref a), some (.ref lx), some (.ref lr), some (.ref lw), some dv, some (.int (i : Int)), some v, none, none, none, none, none] ∧ Fa lx lr lw G m rx ds wv wd ∧ HD (del (del G lx) lw) v d ∧ okI d ∧ DueV (del (del G lx) lw) dv (due12 (ds.map rowT) (wd ++ [d])) ∧ 206 ≤ m.length + 11 * (i + 1), ?_, ?_⟩
      · obtain ⟨a3, m3, p3, q3, r3⟩ := pop_go (ms := m2) (by omega)
        refine ⟨_, rfl, .inl ⟨rfl, _, SqL.of F4.x⟩, lx, _, _, rfl, rfl, F4.x, p3, ?_⟩
        rw [q3]
        have F5 : Fa lx lr lw (upd G4 lx (.lst (m3.map V.int))) m3 rx ds wv wd := F4.step del_put upd_same
        have hv5 := hv4.same (same_del (l := lw) (del_put (H := G4) (l := lx) (o := .lst (m3.map V.int))))
        have hdue5 := hdue4.same (same_del (l := lw) (del_put (H := G4) (l := lx) (o := .lst (m3.map V.int))))
        generalize upd G4 lx (.lst (m3.map V.int)) = G5 at F5 hv5 hdue5 ⊢
        refine ⟨_, _, rfl, rfl, ⟨by show (0 : Int) < 3; decide, by show (3 : Int) < _; decide⟩, _, _, rfl, rfl, (by show (0 : Int) < 12; decide), rfl, _, rfl, ite2 (fun _ => ?_) (fun _ => ?_)⟩
        rotate_left
        · refine ⟨dv, v, d, m3, rfl, F5, hv5, hoi, ?_, by omega⟩
          rw [due_snoc]
          cases hdu : due12 (ds.map rowT) wd with
          | some e => rw [hdu] at hdue5; exact hdue5
          | none =>
            rw [hdu] at hdue5
            show DueV _ dv (if wishB (ds.map rowT) d = false ∧ wd.length < 12 then some wd.length else none)
            rw [if_neg (fun z => by rw [hwb] at z; cases z.1)]
            exact hdue5
        clear hv hv4 hwb hoi hnt hv5 d
        refine ⟨_, rfl, _, rfl, lx, lr, m3, rx, ds, rfl, F5.x, by omega, n1, F5.r, F5.rd.same del_le, hd1, hdn, hgr, hend, fun v d m6 G6 s6 hx6 hm6 hv hwb hoi => ?_⟩
        have F6 := F5.step s6 hx6
        have hv6 := hv.same (fr_del2 (G := G6) F5.x F5.w)
        have hdue6 := hdue5.same (same_del (l := lw) s6)
        cases hdu : due12 (ds.map rowT) wd with
        | some e =>
          rw [hdu] at hdue6
          obtain ⟨t, rfl, ht⟩ := hdue6
          refine ⟨_, rfl, rfl, _, rfl, iteN ref_non (iteN (by decide) ?_)⟩
          refine ⟨_, v, d, m6, rfl, F6, hv6, hoi, ?_, by omega⟩
          rw [due_snoc, hdu]
          exact ⟨t, rfl, ht⟩
        | none =>
          rw [hdu] at hdue6
          have hdue6 : dv = .non := hdue6
          subst hdue6
          refine ⟨_, rfl, rfl, _, rfl, iteP rfl ⟨_, rfl, _, _, rfl, rfl, _, rfl, ite2 (fun h => ?_) (fun h => ?_)⟩⟩
          · have h := of_decide_eq_true h
            refine ⟨_, rfl, Nat.le_of_ble_eq_true rfl, fun t nt => ?_⟩
            have v7 := same_new (o := .tup [V.str "wish", .int (i : Int), .bl false]) nt
            have net : t ≠ lx := fun z => by rw [z, F6.x] at nt; cases nt
            have new : t ≠ lw := fun z => by rw [z, F6.w] at nt; cases nt
            refine ⟨.ref t, v, d, m6, rfl, F6.step (same_del v7) (v7 _ _ F6.x), hv6.same (same_del (same_del v7)), hoi, ?_, by omega⟩
            rw [due_snoc, hdu]
            show DueV _ (.ref t) (if wishB (ds.map rowT) d = false ∧ wd.length < 12 then some wd.length else none)
            rw [if_pos ⟨hwb, by omega⟩, hwl]
            exact ⟨t, rfl, by rw [del_ne new, del_ne net, upd_same]⟩
          · have h := of_decide_eq_false (Bool.eq_false_iff.mpr h)
            refine ⟨.non, v, d, m6, rfl, F6, hv6, hoi, ?_, by omega⟩
            rw [due_snoc, hdu]
            show DueV _ V.non (if wishB (ds.map rowT) d = false ∧ wd.length < 12 then some wd.length else none)
            rw [if_neg (fun z => by omega)]
            rfl
      clear hv hv4 hwb hoi hnt hdue4 F4 hdue hm2 hx4 s4 hm F d v
      rintro σ G5 ⟨dv, v, d, m5, rfl, F, hv, hoi, hdue, hm⟩
      have hwvl := F.wd.len
      refine ⟨_, rfl, .inl ⟨rfl, _, SqL.of F.w⟩, _, rfl, lw, _, _, rfl, rfl, F.w, small_lt (by omega), ?_⟩
      exact ⟨dv, _, _, m5, wv ++ [v], wd ++ [d], rfl, F.app n3 hv, by rw [List.length_append, hwl]; rfl, fa_app hok fun e he => by rw [List.mem_singleton.mp he]; exact hoi, hdue.same (app_same n2), hm⟩
    rintro σ G ⟨dv, v5, v6, m, wv, wd, rfl, F, hwl, hok, hdue, hm⟩
    rw [Int.toNat_natCast] at hwl
    have hwvl := F.wd.len
    refine ⟨fun σ G' => ∃ (dv : V), σ = [some (.ref a), some (.ref lx), some (.ref lr), some (.ref lw), some dv, v5, v6, none, none, none, none, none] ∧ Same G G' ∧ DueV G' dv (wsBad (ds.map rowT) wd), ?_, ?_⟩
    · have hdue := hdue.same ((del_le (H := del G lx) (l := lw)).trans del_le)
      rw [ws_due]
      cases hdu : due12 (ds.map rowT) wd with
      | some e =>
        rw [hdu] at hdue
        obtain ⟨t, rfl, ht⟩ := hdue
        exact ⟨_, rfl, rfl, _, rfl, iteN ref_non (iteN (by decide) ⟨_, rfl, .refl _, t, rfl, ht⟩)⟩
      | none =>
        rw [hdu] at hdue
        have hdue : dv = .non := hdue
        subst hdue
        refine ⟨_, rfl, rfl, _, rfl, iteP rfl ⟨_, rfl, lw, _, rfl, .inl (SqL.of F.w), _, _, rfl, rfl, _, rfl, ite2 (fun h => ?_) (fun h => ?_)⟩⟩
        · have h := of_decide_eq_true h
          refine ⟨Nat.le_of_ble_eq_true rfl, fun t nt => ⟨.ref t, rfl, same_new nt, ?_⟩⟩
          show DueV _ (.ref t) (if 12 < wd.length then some 12 else none)
          rw [if_pos (by omega)]
          exact ⟨t, rfl, upd_same⟩
        · have h := of_decide_eq_false (Bool.eq_false_iff.mpr h)
          refine ⟨.non, rfl, .refl _, ?_⟩
          show DueV _ V.non (if 12 < wd.length then some 12 else none)
          rw [if_neg (by omega)]
          rfl
    clear hdue dv
    rintro σ G' ⟨dv, rfl, s1', hdue⟩
    have hsub : Same (del (del G lx) lw) G := del_le.trans del_le
    have R0 : Rw G' lr rx ds := ⟨s1' _ _ F.r, (F.rd.same hsub).same s1', hdn, hd1, hgr, hend⟩
    have W0 := s1' _ _ F.w
    have D0 : HDs G' wv wd := (F.wd.same hsub).same s1'
    have hwv : wv.length ≤ 1000 := by omega
    clear F hsub s1' hm hx0 hx1 hr1 hrd1 s0 s1 F2 F3
    generalize G' = G at R0 W0 D0 hdue ⊢
    -- from here on the heap but grows
    refine ⟨_, rfl, lw, _, rfl, .inl (SqL.of W0), fun lh nh => ?_⟩
    have v1 := same_new (o := .lst wv) nh
    have hlh : upd G lh (.lst wv) lh = some (.lst wv) := upd_same
    have R1 := R0.same v1
    have W1 := v1 _ _ W0
    have D1 := D0.same v1
    have due1 := hdue.same v1
    generalize upd G lh (.lst wv) = G1 at hlh R1 W1 D1 due1 ⊢
    clear R0 W0 D0 hdue v1 nh
    refine ⟨_, rfl, _, rfl, told_w R1.t hlh D1 hok hwv fun v G2 s2 hv => ⟨_, rfl, due_eq hv (due1.same s2), _, rfl, iteN (by decide) ?_⟩⟩
    refine ⟨_, rfl, _, rfl, .inr (.inr ⟨lh, lw, wv, rfl, rfl, s2 _ _ hlh, s2 _ _ W1, HDs.el D1⟩), _, rfl, iteN (by decide) ?_⟩
    have R2 := R1.same s2
    have W2 := s2 _ _ W1
    have D2 := D1.same s2
    have due2 := due1.same s2
    clear hv v R1 W1 D1 due1 hlh s2
    refine ⟨fun σ G' => σ = [some (.ref a), some (.ref lx), some (.ref lr), some (.ref lw), some dv, v5, v6, some (.ref lh), none, none, none, none] ∧ Same G2 G', ?_, ?_⟩
    · cases hb : wsBad (ds.map rowT) wd with
      | none =>
        rw [hb] at due2
        have due2 : dv = .non := due2
        subst due2
        exact ⟨_, rfl, rfl, _, rfl, iteN (by decide) (iteN (by decide) ⟨rfl, .refl _⟩)⟩
      | some e =>
        rw [hb] at due2
        obtain ⟨td, rfl, htd⟩ := due2
        refine ⟨_, rfl, rfl, _, rfl, iteP (by rw [Bool.eq_false_iff.mpr ref_non]; rfl) ⟨_, rfl, _, rfl, told_t R2 (.inr ⟨lw, wv, wd, rfl, W2, D2, hok, hwv, hb⟩) fun t H' s ht => ⟨_, rfl, .inr (.inl ⟨t, td, _, rfl, rfl, ht, s _ _ htd, el3 _ _ _⟩), _, rfl, iteN (by decide) ⟨rfl, s⟩⟩⟩⟩
    rintro σ G3 ⟨rfl, s3⟩
    have R3 := R2.same s3
    have W3 := s3 _ _ W2
    have D3 := D2.same s3
    clear R2 W2 D2 due2 s3
    refine ⟨_, rfl, lw, _, rfl, .inl ⟨SqL.of W3, fun lt nlt => ?_⟩⟩
    have v4 := same_new (o := .tup wv) nlt
    have hlt : upd G3 lt (.tup wv) lt = _ := upd_same
    have R4 := R3.same v4
    have W4 := v4 _ _ W3
    have D4 := D3.same v4
    generalize upd G3 lt (.tup wv) = G4 at hlt R4 W4 D4 ⊢
    refine fun ld nld => ?_
    have v5' := same_new (o := .dK []) nld
    have hld : upd G4 ld (.dK []) ld = _ := upd_same
    have hlt5 := v5' _ _ hlt
    have R5 := R4.same v5'
    have W5 := v5' _ _ W4
    have D5 := D4.same v5'
    generalize upd G4 ld (.dK []) = G5 at hld hlt5 R5 W5 D5 ⊢
    refine ⟨Nat.le_of_ble_eq_true rfl, fun lo nlo => ?_⟩
    have v6' := same_new (o := .lst [V.non, .ref lt, .ref ld, .str "wishes", .int 7]) nlo
    have hlo : upd G5 lo (.lst [V.non, .ref lt, .ref ld, .str "wishes", .int 7]) lo = _ := upd_same
    have hlt6 := v6' _ _ hlt5
    have hld6 := v6' _ _ hld
    have R6 := R5.same v6'
    have W6 := v6' _ _ W5
    have D6 := D5.same v6'
    generalize upd G5 lo (.lst [V.non, .ref lt, .ref ld, .str "wishes", .int 7]) = G6 at hlo hlt6 hld6 R6 W6 D6 ⊢
    clear R3 W3 D3 R4 W4 D4 R5 W5 D5 hlt hlt5 hld v4 v5' v6'
    refine ⟨lo, rfl, ⟨_, SqL.of hlo⟩, for_list (K := K) (a := lo) (xs := [V.non, .ref lt, .ref ld, .str "wishes", .int 7]) (fun i σ G' => ∃ v8 : Option V, σ = [some (.ref a), some (.ref lx), some (.ref lr), some (.ref lw), some dv, v5, v6, some (.ref lh), v8, none, none, none] ∧ Same G6 G') ?_ ?_ ?_ ?_⟩
    · exact ⟨none, rfl, .refl _⟩
    · rintro i σ G' _ ⟨v8, rfl, s⟩
      exact SqL.of (s _ _ hlo)
    · rintro i x σ G' hx ⟨v8, rfl, s⟩
      obtain ⟨t, hty, hki⟩ : ∃ t, TyOf K G6 x t ∧ PySem.W.kitOne K t (.type "list") = some false := by
        match i, hx with
        | 0, hx => cases hx; exact ⟨_, .non, kD_list .non⟩
        | 1, hx => cases hx; exact ⟨_, .tup hlt6, kD_list (.tup [])⟩
        | 2, hx => cases hx; exact ⟨_, .dK hld6, kit_ty (by decide) (by decide +kernel) (by decide +kernel)⟩
        | 3, hx => cases hx; exact ⟨_, .str _, kD_list (.str "")⟩
        | 4, hx => cases hx; exact ⟨_, .int _, kD_list (.int 0)⟩
      refine ⟨_, rfl, _, rfl, told_f (R6.same s).t (ty_same hty s) hki fun t H' s' ht => ⟨Nat.le_of_ble_eq_true rfl, fun t2 n2 => ⟨.inr (.inl ⟨t, t2, _, rfl, rfl, same_new n2 _ _ ht, upd_same, el3 _ _ _⟩), _, rfl, iteN (by decide) ⟨_, rfl, (s.trans s').trans (same_new n2)⟩⟩⟩⟩
    rintro σ G7 ⟨v8, rfl, s7⟩
    have R7 := R6.same s7
    have W7 := s7 _ _ W6
    have D7 := D6.same s7
    clear R6 W6 D6 hlo hlt6 hld6 s7
    refine ⟨_, rfl, lr, _, rfl, .inl (SqL.of R7.r), ?_⟩
    have hxl := R7.d.len
    show gName _ (.int ((rx.length : Nat) : Int)) _ _ _
    rw [hxl]
    first | refine set_next (asg_next ?_) | refine set_next (asg_seq ?_)
    refine lst_goN (ta := tAll _) (ds := [.tup [.str "more", .int 0, .int 1], .tup [.str "tell", .int 8], .tup [.str "jump", .int ((ds.length : Int) + 1), .int 0], .tup [.str "jump", .int 0, .bl true], .lst [.str "stop"], .non, .tup [.str "Stop"]]) (ha_cons (ht_tup (ha_cons ht_str (ha_cons ht_int (ha_cons ht_int ha_nil)))) (ha_cons (ht_tup (ha_cons ht_str (ha_cons ht_int ha_nil))) (ha_cons (ht_tup (ha_cons ht_str (ha_cons (ht_op (g := fun i j => i + j) (ht_var rfl (.int _)) ht_int) (ha_cons ht_int ha_nil)))) (ha_cons (ht_tup (ha_cons ht_str (ha_cons ht_int (ha_cons ht_bl ha_nil)))) (ha_cons (ht_lst (ha_cons ht_str ha_nil)) (ha_cons ht_non (ha_cons (ht_tup (ha_cons ht_str ha_nil)) ha_nil))))))) fun ls ys G8 s8 nls hls hys => ?_
    have R8 := R7.same s8
    have W8 := s8 _ _ W7
    have hyl : ys.length = 7 := hys.len
    clear R7 W7
    refine ⟨_, rfl, _, rfl, Nat.le_of_ble_eq_true rfl, fun th nth => ?_⟩
    have v9 := same_new (o := .tup [V.str "halt", .int (-1)]) nth
    have hth : upd G8 th (.tup [V.str "halt", .int (-1)]) th = _ := upd_same
    have hls9 := v9 _ _ hls
    have hys9 := hys.same v9
    have R9 := R8.same v9
    have W9 := v9 _ _ W8
    generalize upd G8 th (.tup [V.str "halt", .int (-1)]) = G9 at hth hls9 hys9 R9 W9 ⊢
    refine ⟨Nat.le_of_ble_eq_true rfl, fun l1 n1' => ?_⟩
    have v10 := same_new (o := .lst [V.ref th]) n1'
    have hl1 : upd G9 l1 (.lst [V.ref th]) l1 = _ := upd_same
    have hls10 := v10 _ _ hls9
    have hys10 := (hys9.app (.cons (.tupS hth (.cons (.str _) (.cons (.int _) .nil))) .nil)).same v10
    have R10 := R9.same v10
    have W10 := v10 _ _ W9
    generalize upd G9 l1 (.lst [V.ref th]) = G10 at hl1 hls10 hys10 R10 W10 ⊢
    refine ⟨ls, l1, _, _, rfl, rfl, hls10, hl1, Nat.le_of_lt (small_lt (by rw [hyl]; exact Nat.le_of_ble_eq_true rfl)), fun l2 n2' => ?_⟩
    have v11 := same_new (o := .lst (ys ++ [V.ref th])) n2'
    have hl2 : upd G10 l2 (.lst (ys ++ [V.ref th])) l2 = _ := upd_same
    have hys11 : HDs _ (ys ++ [V.ref th]) (spoilD ds.length) := hys10.same v11
    have R11 := R10.same v11
    have W11 := v11 _ _ W10
    generalize upd G10 l2 (.lst (ys ++ [V.ref th])) = G11 at hl2 hys11 R11 W11 ⊢
    generalize ys ++ [V.ref th] = zs at hl2 hys11
    clear R8 W8 R9 W9 R10 W10 hys hys9 hys10 hls hls9 hls10 hl1 hth v9 v10 v11 s8
    refine ⟨l2, rfl, ⟨_, SqL.of hl2⟩, for_list (K := K) (a := l2) (xs := zs) (fun i σ G' => ∃ v8 v11 : Option V, σ = [some (.ref a), some (.ref lx), some (.ref lr), some (.ref lw), some dv, v5, v6, some (.ref lh), v8, some (.int (ds.length : Int)), some (.ref ls), v11] ∧ Same G11 G') ?_ ?_ ?_ ?_⟩
    · exact ⟨_, none, rfl, .refl _⟩
    · rintro i σ G' _ ⟨v8, v11, rfl, s⟩
      exact SqL.of (s _ _ hl2)
    · rintro i x σ G' hx ⟨v8', v11, rfl, s⟩
      obtain ⟨y, e, hy, he, hye⟩ := get_of hys11 (c := i) (List.getElem?_eq_some_iff.mp hx).1
      rw [hx] at hy
      cases hy
      obtain ⟨hoe, hbe⟩ := spoil_ok e he
      refine ⟨_, rfl, Nat.le_of_ble_eq_true rfl, fun l3 n3' => ?_⟩
      have w1 := same_new (o := .lst [V.non, .ref lw]) n3'
      have hl3 : upd G' l3 (.lst [V.non, .ref lw]) l3 = _ := upd_same
      have s12 := s.trans w1
      generalize upd G' l3 (.lst [V.non, .ref lw]) = G12 at hl3 s12 ⊢
      have R12 := R11.same s12
      have hye12 := hye.same s12
      refine ⟨l3, rfl, ⟨_, SqL.of hl3⟩, for_list (K := K) (a := l3) (xs := [V.non, .ref lw]) (fun i σ G' => ∃ v8 : Option V, σ = [some (.ref a), some (.ref lx), some (.ref lr), some (.ref lw), some dv, v5, v6, some (.ref lh), v8, some (.int (ds.length : Int)), some (.ref ls), some x] ∧ Same G12 G') ?_ ?_ ?_ ?_⟩
      · exact ⟨_, rfl, .refl _⟩
      · rintro i' σ G' _ ⟨v8, rfl, s⟩
        exact SqL.of (s _ _ hl3)
      · rintro i' x' σ G13 hx' ⟨v8, rfl, s13⟩
        refine ⟨_, rfl, _, rfl, Nat.le_of_ble_eq_true rfl, fun l4 n4 => ?_⟩
        have w4 := same_new (o := .lst [x]) n4
        have hl4 : upd G13 l4 (.lst [x]) l4 = _ := upd_same
        have s14 := s13.trans w4
        generalize upd G13 l4 (.lst [x]) = G14 at hl4 s14 ⊢
        have R14 := R12.same s14
        have hlen := R14.d.len
        refine ⟨lr, l4, _, _, rfl, rfl, R14.r, hl4, Nat.le_of_lt (small_lt (by rw [hlen]; show ds.length + 1 ≤ 1000000; omega)), fun l5 n5 => ?_⟩
        have w5 := same_new (o := .lst (rx ++ [x])) n5
        have hl5 : upd G14 l5 (.lst (rx ++ [x])) l5 = _ := upd_same
        have s15 := s14.trans w5
        generalize upd G14 l5 (.lst (rx ++ [x])) = G15 at hl5 s15 ⊢
        have R15 := R12.same s15
        refine ⟨_, rfl, told_n (.inr ⟨l5, rx ++ [x], ds ++ [e], rfl, hl5, R15.d.app (.cons (hye12.same s15) .nil), fa_app (fun d hd => gr_okR (hgr d hd)) (fun d hd => by rw [List.mem_singleton.mp hd]; exact hoe), by rw [List.length_append, hlen]; show ds.length + 1 ≤ 1000; omega, ck_snoc hgr hbe⟩) fun t H' s' ht => ⟨_, rfl, Nat.le_of_ble_eq_true rfl, fun t2 n2 => ⟨.inr (.inl ⟨t, t2, _, rfl, rfl, same_new n2 _ _ ht, upd_same, el3 _ _ _⟩), _, rfl, iteN (by decide) ⟨_, rfl, (s15.trans s').trans (same_new n2)⟩⟩⟩⟩
      rintro σ G16 ⟨v8, rfl, s16⟩
      exact ⟨_, _, rfl, s12.trans s16⟩
    rintro σ G17 ⟨v8', v11, rfl, s17⟩
    have R17 := R11.same s17
    have W17 := s17 _ _ W11
    clear R11 W11 hl2 hys11 s17
    refine ⟨_, rfl, told_t R17 (.inl ⟨rfl, _, .non, kD_list .non⟩) fun t H1 s1 ht => ⟨Nat.le_of_ble_eq_true rfl, fun t2 n2 => ⟨.inr (.inl ⟨t, t2, _, rfl, rfl, same_new n2 _ _ ht, upd_same, el3 _ _ _⟩), _, rfl, iteN (by decide) ?_⟩⟩⟩
    have s18 := s1.trans (same_new (o := .tup [V.str "wish", .int 0, .bl false]) n2)
    generalize upd H1 t2 (.tup [V.str "wish", .int 0, .bl false]) = G18 at s18 ⊢
    have R18 := R17.same s18
    have W18 := s18 _ _ W17
    refine ⟨_, rfl, lr, _, rfl, .inl ⟨SqL.of R18.r, fun lq nlq => ?_⟩⟩
    have w19 := same_new (o := .tup rx) nlq
    have hlq : upd G18 lq (.tup rx) lq = _ := upd_same
    have R19 := R18.same w19
    have W19 := w19 _ _ W18
    generalize upd G18 lq (.tup rx) = G19 at hlq R19 W19 ⊢
    refine ⟨Nat.le_of_ble_eq_true rfl, fun l6 n6 => ?_⟩
    have w20 := same_new (o := .lst []) n6
    have hlq20 := w20 _ _ hlq
    have R20 := R19.same w20
    have W20 := w20 _ _ W19
    generalize upd G19 l6 (.lst []) = G20 at hlq20 R20 W20 ⊢
    refine told_n (.inl ⟨rfl, _, .tup hlq20, kD_list (.tup [])⟩) fun t H1 s1 ht => ⟨Nat.le_of_ble_eq_true rfl, fun t3 n3 => ⟨.inr (.inl ⟨t, t3, _, rfl, rfl, same_new n3 _ _ ht, upd_same, el3 _ _ _⟩), _, rfl, iteN (by decide) ?_⟩⟩
    have s21 := s1.trans (same_new (o := .tup [V.str "rows", .int 0, .bl false]) n3)
    have R21 := R20.same s21
    have W21 := s21 _ _ W20
    generalize upd H1 t3 (.tup [V.str "rows", .int 0, .bl false]) = G21 at R21 W21 ⊢
    refine ⟨Nat.le_of_ble_eq_true rfl, fun l7 n7 => ?_⟩
    have w22 := same_new (o := .lst []) n7
    have hl7 : upd G21 l7 (.lst []) l7 = _ := upd_same
    have R22 := R21.same w22
    generalize upd G21 l7 (.lst []) = G22 at hl7 R22 ⊢
    refine ⟨_, rfl, told_n (.inr ⟨l7, [], [], rfl, hl7, .nil, fa_nil, Nat.zero_le _, rfl⟩) fun t H1 s1 ht => ⟨Nat.le_of_ble_eq_true rfl, fun t4 n4 => ⟨⟨t, t4, _, rfl, rfl, same_new n4 _ _ ht, upd_same, el3 _ _ _⟩, _, rfl, iteP rfl ?_⟩⟩⟩
    have R23 := R22.same (s1.trans (same_new (o := .tup [V.str "rows", .int 0, .bl false]) n4))
    generalize upd H1 t4 (.tup [V.str "rows", .int 0, .bl false]) = G23 at R23 ⊢
    refine ⟨_, rfl, Nat.le_of_ble_eq_true rfl, fun l8 n8 => ?_⟩
    have w24 := same_new (o := .lst []) n8
    have hl8 : upd G23 l8 (.lst []) l8 = _ := upd_same
    have R24 := R23.same w24
    generalize upd G23 l8 (.lst []) = G24 at hl8 R24 ⊢
    refine ⟨lr, _, _, rfl, R24.t, .inr ⟨l8, [], [], rfl, hl8, .nil, fa_nil, Nat.zero_le _, ?_⟩⟩
    show WRes _ none _ _ _
    intro H' _
    exact ⟨rfl, k H'⟩
end
end My


namespace My
open PySem L2
abbrev sXI : Stmt := inClass (top 2) 0
section
variable {P : Program} {w : World} {K : PySem.W.Frag} {mg : Str → Option Value} {base : Heap}
theorem scXI : FnScope ["self", "at"] ["self", "at"] (defScope sXI) := ⟨rfl, rfl, rfl, by decide +kernel, rfl, by decide +kernel, by decide +kernel⟩
theorem ok_xi {f C R : Addr} {fd : FuncData} (F : Fun K "__init__" "NoRows.__init__" sXI f fd) (c : XIni K C R f) (hm : mg "RowError" = some (.ref R)) : FnOk P w K mg base CX0 1 f fd ["self", "at"] (spXI C) := by
  refine F.ok scXI (fun vs H Q E h => ?_) (fun cdv A outer s H vs Q E hr h => ?_)
  · obtain ⟨e, i, rfl, _⟩ := h
    rfl
  · obtain ⟨e, i, rfl, he, hi, k⟩ := h
    refine ⟨_, pss_cons (ps_expr (pe_xini c (by rfl) hm (pa_cons (pv 0) (pa_cons (pe_fstr (pv 1) (by decide)) pa_nil)))) (pss_one (ps_xat c (pv 0) (pv 1) rfl)), ?_⟩
    refine ⟨_, rfl, _, rfl, i, rfl, hi, fun u => ⟨e, _, rfl, he, ?_⟩⟩
    refine ⟨_, rfl, _, rfl, e, rfl, upd_same, fun d nd de => ?_⟩
    rw [upd3 de]
    rw [upd_ne de] at nd
    exact k d nd de
end
abbrev sXI1 : Stmt := inClass (top 7) 0
section
variable {P : Program} {w : World} {K : PySem.W.Frag} {mg : Str → Option Value} {base : Heap}
theorem scXI1 : FnScope ["self", "at"] ["self", "at"] (defScope sXI1) := ⟨rfl, rfl, rfl, by decide +kernel, rfl, by decide +kernel, by decide +kernel⟩
theorem ok_xi1 {f C R : Addr} {fd : FuncData} (F : Fun K "__init__" "NoWish.__init__" sXI1 f fd) (c : XIni K C R f) (hm : mg "RowError" = some (.ref R)) : FnOk P w K mg base CX0 1 f fd ["self", "at"] (spXI C) := by
  refine F.ok scXI1 (fun vs H Q E h => ?_) (fun cdv A outer s H vs Q E hr h => ?_)
  · obtain ⟨e, i, rfl, _⟩ := h
    rfl
  · obtain ⟨e, i, rfl, he, hi, k⟩ := h
    refine ⟨_, pss_cons (ps_expr (pe_xini c (by rfl) hm (pa_cons (pv 0) (pa_cons (pe_fstr (pv 1) (by decide)) pa_nil)))) (pss_one (ps_xat c (pv 0) (pv 1) rfl)), ?_⟩
    refine ⟨_, rfl, _, rfl, i, rfl, hi, fun u => ⟨e, _, rfl, he, ?_⟩⟩
    refine ⟨_, rfl, _, rfl, e, rfl, upd_same, fun d nd de => ?_⟩
    rw [upd3 de]
    rw [upd_ne de] at nd
    exact k d nd de
end
end My


set_option maxHeartbeats 8000000
namespace PySem.W.Fast
def tw7166977690556751719 : Nat := 0
def tw4440908435610120070 : Nat := 0
def tw666572807877520113 : Nat := 0
def tw16030856630999554524 : Nat := 0
def tw6311163226561020103 : Nat := 0
def tw15685253054670150992 : Nat := 0
def tw13896102948260249865 : Nat := 0
def tw13253427494938169481 : Nat := 0
def tw13998286972756260043 : Nat := 0
def tw13441251781108097694 : Nat := 0
def tw8899337839297058040 : Nat := 0
def tw12797864827973773543 : Nat := 0
def tw3366809673743516550 : Nat := 0
def tw7688575680266177164 : Nat := 0
def tw9004576225624909460 : Nat := 0
def tw16340868253345301989 : Nat := 0
def tw7758657159033413019 : Nat := 0
def tw16201010279939670976 : Nat := 0
def tw7019384643216711815 : Nat := 0
def tw3510971035096885448 : Nat := 0
def tw4874395581988198295 : Nat := 0
def tw4399748206660993858 : Nat := 0
def tw13769382684474628025 : Nat := 0
def tw7789378942639629237 : Nat := 0
def tw9057563742877515700 : Nat := 0
def tw2274100370094208242 : Nat := 0
def tw12804117027381148215 : Nat := 0
def tw16737029327960195975 : Nat := 0
def tw10623928803599924587 : Nat := 0
def tw14519542593445159157 : Nat := 0
def tw1959784293575148861 : Nat := 0
def tw9810956106476751865 : Nat := 0
def tw16485520710777880925 : Nat := 0
def tw2998241148170953927 : Nat := 0
def tw15350223559657039335 : Nat := 0
def tw18041338168363269531 : Nat := 0
def tw11611251512763618454 : Nat := 0
def tw14113290576813980543 : Nat := 0
def tw10419527619564190397 : Nat := 0
def tw7498252113285535797 : Nat := 0
def tw13178795334193498757 : Nat := 0
def tw8979674225346163661 : Nat := 0
def tw15738333849693356306 : Nat := 0
def tw11986583678477207884 : Nat := 0
def tw10103232611780474705 : Nat := 0
def tw11247878591316188349 : Nat := 0
def tw12311609706794243390 : Nat := 0
def tw10815721270485623371 : Nat := 0
end PySem.W.Fast
namespace My
open PySem L2
/-! ### what the top has written, and the law's own head -/
theorem all_mk {l : PySem.W.OpenLaw} {w : World} {K : PySem.W.Frag} {h : Heap} {mg : Str → Option Value} {fa f0 f1 f2 f3 f4 f5 f6 f7 f8 f9 f10 f11 f12 f13 f14 f15 f16 f17 f18 f19 f20 f21 f22 f23 f24 f25 f26 : Addr} (X : K.In h) (G : h.Ns mainGlobals mg) (hfa : mg "law" = some (.ref fa))
    {od0 an0 od1 an1 od2 an2 od3 an3 od4 an4 od5 an5 od6 an6 od7 an7 od8 an8 od9 an9 od10 an10 od11 an11 od12 an12 od13 an13 od14 an14 od15 an15 od16 an16 od17 an17 od18 an18 od19 an19 od20 an20 od21 an21 od22 an22 od23 an23 od24 an24 od25 an25 od26 an26 : Option Addr} {sl0 sl1 sl2 sl3 sl4 sl5 sl6 sl7 sl8 sl9 sl10 sl11 sl12 sl13 sl14 sl15 sl16 sl17 sl18 sl19 sl20 sl21 sl22 sl23 sl24 sl25 sl26 : Array (Option Value)} {oc0 kV0 dc0 pm0 cd0 ct0 oc1 kV1 dc1 pm1 cd1 ct1 oc2 kV2 dc2 pm2 cd2 ct2 oc3 kV3 dc3 pm3 cd3 ct3 oc4 kV4 dc4 pm4 cd4 ct4 oc5 kV5 dc5 pm5 cd5 ct5 oc6 kV6 dc6 pm6 cd6 ct6 oc7 kV7 dc7 pm7 cd7 ct7 oc8 kV8 dc8 pm8 cd8 ct8 oc9 kV9 dc9 pm9 cd9 ct9 oc10 kV10 dc10 pm10 cd10 ct10 oc11 kV11 dc11 pm11 cd11 ct11 oc12 kV12 dc12 pm12 cd12 ct12 oc13 kV13 dc13 pm13 cd13 ct13 oc14 kV14 dc14 pm14 cd14 ct14 oc15 kV15 dc15 pm15 cd15 ct15 oc16 kV16 dc16 pm16 cd16 ct16 oc17 kV17 dc17 pm17 cd17 ct17 oc18 kV18 dc18 pm18 cd18 ct18 oc19 kV19 dc19 pm19 cd19 ct19 oc20 kV20 dc20 pm20 cd20 ct20 oc21 kV21 dc21 pm21 cd21 ct21 oc22 kV22 dc22 pm22 cd22 ct22 oc23 kV23 dc23 pm23 cd23 ct23 oc24 kV24 dc24 pm24 cd24 ct24 oc25 kV25 dc25 pm25 cd25 ct25 oc26 kV26 dc26 pm26 cd26 ct26 : Value}
    (a0 : PySem.W.nsIn K mainGlobals "goes_on" = some (some (.ref f0))) (l0 : K.lookup f0 = some ⟨oc0, od0, .func (PySem.W.fnOf "goes_on" "goes_on" (defArgs s_goes_on) (defBody s_goes_on) (defScope s_goes_on) .none kV0 dc0 pm0 an0 cd0 ct0), sl0⟩) (c0 : PySem.W.codeIn K cd0 "goes_on" = true) (k0 : PySem.W.keepIn K (.ref f0) = true)
    (a1 : PySem.W.nsIn K mainGlobals "targets_of" = some (some (.ref f1))) (l1 : K.lookup f1 = some ⟨oc1, od1, .func (PySem.W.fnOf "targets_of" "targets_of" (defArgs s_targets_of) (defBody s_targets_of) (defScope s_targets_of) .none kV1 dc1 pm1 an1 cd1 ct1), sl1⟩) (c1 : PySem.W.codeIn K cd1 "targets_of" = true) (k1 : PySem.W.keepIn K (.ref f1) = true)
    (a2 : PySem.W.nsIn K mainGlobals "ways_of" = some (some (.ref f2))) (l2 : K.lookup f2 = some ⟨oc2, od2, .func (PySem.W.fnOf "ways_of" "ways_of" (defArgs s_ways_of) (defBody s_ways_of) (defScope s_ways_of) .none kV2 dc2 pm2 an2 cd2 ct2), sl2⟩) (c2 : PySem.W.codeIn K cd2 "ways_of" = true) (k2 : PySem.W.keepIn K (.ref f2) = true)
    (a3 : PySem.W.nsIn K mainGlobals "is_whole" = some (some (.ref f3))) (l3 : K.lookup f3 = some ⟨oc3, od3, .func (PySem.W.fnOf "is_whole" "is_whole" (defArgs s_is_whole) (defBody s_is_whole) (defScope s_is_whole) .none kV3 dc3 pm3 an3 cd3 ct3), sl3⟩) (c3 : PySem.W.codeIn K cd3 "is_whole" = true) (k3 : PySem.W.keepIn K (.ref f3) = true)
    (a4 : PySem.W.nsIn K mainGlobals "is_number_of" = some (some (.ref f4))) (l4 : K.lookup f4 = some ⟨oc4, od4, .func (PySem.W.fnOf "is_number_of" "is_number_of" (defArgs s_is_number_of) (defBody s_is_number_of) (defScope s_is_number_of) .none kV4 dc4 pm4 an4 cd4 ct4), sl4⟩) (c4 : PySem.W.codeIn K cd4 "is_number_of" = true) (k4 : PySem.W.keepIn K (.ref f4) = true)
    (a5 : PySem.W.nsIn K mainGlobals "is_targets" = some (some (.ref f5))) (l5 : K.lookup f5 = some ⟨oc5, od5, .func (PySem.W.fnOf "is_targets" "is_targets" (defArgs s_is_targets) (defBody s_is_targets) (defScope s_is_targets) .none kV5 dc5 pm5 an5 cd5 ct5), sl5⟩) (c5 : PySem.W.codeIn K cd5 "is_targets" = true) (k5 : PySem.W.keepIn K (.ref f5) = true)
    (a6 : PySem.W.nsIn K mainGlobals "is_part" = some (some (.ref f6))) (l6 : K.lookup f6 = some ⟨oc6, od6, .func (PySem.W.fnOf "is_part" "is_part" (defArgs s_is_part) (defBody s_is_part) (defScope s_is_part) .none kV6 dc6 pm6 an6 cd6 ct6), sl6⟩) (c6 : PySem.W.codeIn K cd6 "is_part" = true) (k6 : PySem.W.keepIn K (.ref f6) = true)
    (a7 : PySem.W.nsIn K mainGlobals "are_parts" = some (some (.ref f7))) (l7 : K.lookup f7 = some ⟨oc7, od7, .func (PySem.W.fnOf "are_parts" "are_parts" (defArgs s_are_parts) (defBody s_are_parts) (defScope s_are_parts) .none kV7 dc7 pm7 an7 cd7 ct7), sl7⟩) (c7 : PySem.W.codeIn K cd7 "are_parts" = true) (k7 : PySem.W.keepIn K (.ref f7) = true)
    (a8 : PySem.W.nsIn K mainGlobals "word_of" = some (some (.ref f8))) (l8 : K.lookup f8 = some ⟨oc8, od8, .func (PySem.W.fnOf "word_of" "word_of" (defArgs s_word_of) (defBody s_word_of) (defScope s_word_of) .none kV8 dc8 pm8 an8 cd8 ct8), sl8⟩) (c8 : PySem.W.codeIn K cd8 "word_of" = true) (k8 : PySem.W.keepIn K (.ref f8) = true)
    (a9 : PySem.W.nsIn K mainGlobals "is_row" = some (some (.ref f9))) (l9 : K.lookup f9 = some ⟨oc9, od9, .func (PySem.W.fnOf "is_row" "is_row" (defArgs s_is_row) (defBody s_is_row) (defScope s_is_row) .none kV9 dc9 pm9 an9 cd9 ct9), sl9⟩) (c9 : PySem.W.codeIn K cd9 "is_row" = true) (k9 : PySem.W.keepIn K (.ref f9) = true)
    (a10 : PySem.W.nsIn K mainGlobals "stays_within" = some (some (.ref f10))) (l10 : K.lookup f10 = some ⟨oc10, od10, .func (PySem.W.fnOf "stays_within" "stays_within" (defArgs s_stays_within) (defBody s_stays_within) (defScope s_stays_within) .none kV10 dc10 pm10 an10 cd10 ct10), sl10⟩) (c10 : PySem.W.codeIn K cd10 "stays_within" = true) (k10 : PySem.W.keepIn K (.ref f10) = true)
    (a11 : PySem.W.nsIn K mainGlobals "check_rows" = some (some (.ref f11))) (l11 : K.lookup f11 = some ⟨oc11, od11, .func (PySem.W.fnOf "check_rows" "check_rows" (defArgs s_check_rows) (defBody s_check_rows) (defScope s_check_rows) .none kV11 dc11 pm11 an11 cd11 ct11), sl11⟩) (c11 : PySem.W.codeIn K cd11 "check_rows" = true) (k11 : PySem.W.keepIn K (.ref f11) = true)
    (a12 : PySem.W.nsIn K mainGlobals "is_place" = some (some (.ref f12))) (l12 : K.lookup f12 = some ⟨oc12, od12, .func (PySem.W.fnOf "is_place" "is_place" (defArgs s_is_place) (defBody s_is_place) (defScope s_is_place) .none kV12 dc12 pm12 an12 cd12 ct12), sl12⟩) (c12 : PySem.W.codeIn K cd12 "is_place" = true) (k12 : PySem.W.keepIn K (.ref f12) = true)
    (a13 : PySem.W.nsIn K mainGlobals "is_what" = some (some (.ref f13))) (l13 : K.lookup f13 = some ⟨oc13, od13, .func (PySem.W.fnOf "is_what" "is_what" (defArgs s_is_what) (defBody s_is_what) (defScope s_is_what) .none kV13 dc13 pm13 an13 cd13 ct13), sl13⟩) (c13 : PySem.W.codeIn K cd13 "is_what" = true) (k13 : PySem.W.keepIn K (.ref f13) = true)
    (a14 : PySem.W.nsIn K mainGlobals "is_wish" = some (some (.ref f14))) (l14 : K.lookup f14 = some ⟨oc14, od14, .func (PySem.W.fnOf "is_wish" "is_wish" (defArgs s_is_wish) (defBody s_is_wish) (defScope s_is_wish) .none kV14 dc14 pm14 an14 cd14 ct14), sl14⟩) (c14 : PySem.W.codeIn K cd14 "is_wish" = true) (k14 : PySem.W.keepIn K (.ref f14) = true)
    (a15 : PySem.W.nsIn K mainGlobals "check_wishes" = some (some (.ref f15))) (l15 : K.lookup f15 = some ⟨oc15, od15, .func (PySem.W.fnOf "check_wishes" "check_wishes" (defArgs s_check_wishes) (defBody s_check_wishes) (defScope s_check_wishes) .none kV15 dc15 pm15 an15 cd15 ct15), sl15⟩) (c15 : PySem.W.codeIn K cd15 "check_wishes" = true) (k15 : PySem.W.keepIn K (.ref f15) = true)
    (a16 : PySem.W.nsIn K mainGlobals "widened" = some (some (.ref f16))) (l16 : K.lookup f16 = some ⟨oc16, od16, .func (PySem.W.fnOf "widened" "widened" (defArgs s_widened) (defBody s_widened) (defScope s_widened) .none kV16 dc16 pm16 an16 cd16 ct16), sl16⟩) (c16 : PySem.W.codeIn K cd16 "widened" = true) (k16 : PySem.W.keepIn K (.ref f16) = true)
    (a17 : PySem.W.nsIn K mainGlobals "_law_cell_at" = some (some (.ref f17))) (l17 : K.lookup f17 = some ⟨oc17, od17, .func (PySem.W.fnOf "_law_cell_at" "_law_cell_at" (defArgs s_law_cell_at) (defBody s_law_cell_at) (defScope s_law_cell_at) .none kV17 dc17 pm17 an17 cd17 ct17), sl17⟩) (c17 : PySem.W.codeIn K cd17 "_law_cell_at" = true) (k17 : PySem.W.keepIn K (.ref f17) = true)
    (a18 : PySem.W.nsIn K mainGlobals "_law_stream" = some (some (.ref f18))) (l18 : K.lookup f18 = some ⟨oc18, od18, .func (PySem.W.fnOf "_law_stream" "_law_stream" (defArgs s_law_stream) (defBody s_law_stream) (defScope s_law_stream) .none kV18 dc18 pm18 an18 cd18 ct18), sl18⟩) (c18 : PySem.W.codeIn K cd18 "_law_stream" = true) (k18 : PySem.W.keepIn K (.ref f18) = true)
    (a19 : PySem.W.nsIn K mainGlobals "_law_box" = some (some (.ref f19))) (l19 : K.lookup f19 = some ⟨oc19, od19, .func (PySem.W.fnOf "_law_box" "_law_box" (defArgs s_law_box) (defBody s_law_box) (defScope s_law_box) .none kV19 dc19 pm19 an19 cd19 ct19), sl19⟩) (c19 : PySem.W.codeIn K cd19 "_law_box" = true) (k19 : PySem.W.keepIn K (.ref f19) = true)
    (a20 : PySem.W.nsIn K mainGlobals "_law_row" = some (some (.ref f20))) (l20 : K.lookup f20 = some ⟨oc20, od20, .func (PySem.W.fnOf "_law_row" "_law_row" (defArgs s_law_row) (defBody s_law_row) (defScope s_law_row) .none kV20 dc20 pm20 an20 cd20 ct20), sl20⟩) (c20 : PySem.W.codeIn K cd20 "_law_row" = true) (k20 : PySem.W.keepIn K (.ref f20) = true)
    (a21 : PySem.W.nsIn K mainGlobals "_law_rows" = some (some (.ref f21))) (l21 : K.lookup f21 = some ⟨oc21, od21, .func (PySem.W.fnOf "_law_rows" "_law_rows" (defArgs s_law_rows) (defBody s_law_rows) (defScope s_law_rows) .none kV21 dc21 pm21 an21 cd21 ct21), sl21⟩) (c21 : PySem.W.codeIn K cd21 "_law_rows" = true) (k21 : PySem.W.keepIn K (.ref f21) = true)
    (a22 : PySem.W.nsIn K mainGlobals "_law_wish" = some (some (.ref f22))) (l22 : K.lookup f22 = some ⟨oc22, od22, .func (PySem.W.fnOf "_law_wish" "_law_wish" (defArgs s_law_wish) (defBody s_law_wish) (defScope s_law_wish) .none kV22 dc22 pm22 an22 cd22 ct22), sl22⟩) (c22 : PySem.W.codeIn K cd22 "_law_wish" = true) (k22 : PySem.W.keepIn K (.ref f22) = true)
    (a23 : PySem.W.nsIn K mainGlobals "_law_ways" = some (some (.ref f23))) (l23 : K.lookup f23 = some ⟨oc23, od23, .func (PySem.W.fnOf "_law_ways" "_law_ways" (defArgs s_law_ways) (defBody s_law_ways) (defScope s_law_ways) .none kV23 dc23 pm23 an23 cd23 ct23), sl23⟩) (c23 : PySem.W.codeIn K cd23 "_law_ways" = true) (k23 : PySem.W.keepIn K (.ref f23) = true)
    (a24 : PySem.W.nsIn K mainGlobals "_law_bad" = some (some (.ref f24))) (l24 : K.lookup f24 = some ⟨oc24, od24, .func (PySem.W.fnOf "_law_bad" "_law_bad" (defArgs s_law_bad) (defBody s_law_bad) (defScope s_law_bad) .none kV24 dc24 pm24 an24 cd24 ct24), sl24⟩) (c24 : PySem.W.codeIn K cd24 "_law_bad" = true) (k24 : PySem.W.keepIn K (.ref f24) = true)
    (a25 : PySem.W.nsIn K mainGlobals "_law_told" = some (some (.ref f25))) (l25 : K.lookup f25 = some ⟨oc25, od25, .func (PySem.W.fnOf "_law_told" "_law_told" (defArgs s_law_told) (defBody s_law_told) (defScope s_law_told) .none kV25 dc25 pm25 an25 cd25 ct25), sl25⟩) (c25 : PySem.W.codeIn K cd25 "_law_told" = true) (k25 : PySem.W.keepIn K (.ref f25) = true)
    (a26 : PySem.W.nsIn K mainGlobals "law" = some (some (.ref f26))) (l26 : K.lookup f26 = some ⟨oc26, od26, .func (PySem.W.fnOf "law" "law" (defArgs s_law) (defBody s_law) (defScope s_law) .none kV26 dc26 pm26 an26 cd26 ct26), sl26⟩) (c26 : PySem.W.codeIn K cd26 "law" = true) (k26 : PySem.W.keepIn K (.ref f26) = true)
    (z_len : PySem.W.nsIn K mainGlobals "len" = some none)
    (z_list : PySem.W.nsIn K mainGlobals "list" = some none)
    (z_tuple : PySem.W.nsIn K mainGlobals "tuple" = some none)
    (z_int : PySem.W.nsIn K mainGlobals "int" = some none)
    (z_bool : PySem.W.nsIn K mainGlobals "bool" = some none)
    (z_str : PySem.W.nsIn K mainGlobals "str" = some none)
    (z_dict : PySem.W.nsIn K mainGlobals "dict" = some none)
    (z_isinstance : PySem.W.nsIn K mainGlobals "isinstance" = some none)
    (z_enumerate : PySem.W.nsIn K mainGlobals "enumerate" = some none)
    (z_range : PySem.W.nsIn K mainGlobals "range" = some none)
    (z_min : PySem.W.nsIn K mainGlobals "min" = some none)
    (z_max : PySem.W.nsIn K mainGlobals "max" = some none)
    (z_all : PySem.W.nsIn K mainGlobals "all" = some none)
    (z_zip : PySem.W.nsIn K mainGlobals "zip" = some none)
    (z_sorted : PySem.W.nsIn K mainGlobals "sorted" = some none)
    (z_set : PySem.W.nsIn K mainGlobals "set" = some none)
    (z_abs : PySem.W.nsIn K mainGlobals "abs" = some none)
    (z_ValueError : PySem.W.nsIn K mainGlobals "ValueError" = some none)
    {pNOT_GOING_ON : Addr} {odNOT_GOING_ON : Option Addr} {slNOT_GOING_ON : Array (Option Value)} {nNOT_GOING_ON : Nat} {tNOT_GOING_ON0 tNOT_GOING_ON1 tNOT_GOING_ON2 tNOT_GOING_ON3 : Tok} (aNOT_GOING_ON : PySem.W.nsIn K mainGlobals "NOT_GOING_ON" = some (some (.ref pNOT_GOING_ON))) (lNOT_GOING_ON : K.lookup pNOT_GOING_ON = some ⟨.type "tuple", odNOT_GOING_ON, .seq #[.str "stop" tNOT_GOING_ON0, .str "back" tNOT_GOING_ON1, .str "halt" tNOT_GOING_ON2, .str "jump" tNOT_GOING_ON3] nNOT_GOING_ON, slNOT_GOING_ON⟩)
    {tMOST_ROWS : Tok} (aMOST_ROWS : PySem.W.nsIn K mainGlobals "MOST_ROWS" = some (some (.int (4000) tMOST_ROWS)))
    {tMOST_TARGETS : Tok} (aMOST_TARGETS : PySem.W.nsIn K mainGlobals "MOST_TARGETS" = some (some (.int (16) tMOST_TARGETS)))
    {pBOUNDS : Addr} {esBOUNDS : Array DictEntry} {nBOUNDS : Nat} (aBOUNDS : PySem.W.nsIn K mainGlobals "BOUNDS" = some (some (.ref pBOUNDS))) (lBOUNDS : K.lookup pBOUNDS = some ⟨.type "dict", none, .dict esBOUNDS nBOUNDS, #[]⟩) (kBOUNDS : PySem.W.KeysLit w.params esBOUNDS.toList) (oBOUNDS : (pBOUNDS == sysModules) = false)
    {qBOUNDS0 : Addr} {slBOUNDS0 : Array (Option Value)} {nBOUNDS0 : Nat} {tBOUNDS0_0 tBOUNDS0_1 : Tok} (eBOUNDS0 : PySem.W.nsIn K pBOUNDS "box" = some (some (.ref qBOUNDS0))) (lBOUNDS0 : K.lookup qBOUNDS0 = some ⟨.type "tuple", none, .seq #[.int (0) tBOUNDS0_0, .int (7) tBOUNDS0_1] nBOUNDS0, slBOUNDS0⟩)
    {qBOUNDS1 : Addr} {slBOUNDS1 : Array (Option Value)} {nBOUNDS1 : Nat} {tBOUNDS1_0 tBOUNDS1_1 : Tok} (eBOUNDS1 : PySem.W.nsIn K pBOUNDS "aside" = some (some (.ref qBOUNDS1))) (lBOUNDS1 : K.lookup qBOUNDS1 = some ⟨.type "tuple", none, .seq #[.int (0) tBOUNDS1_0, .int (1000000) tBOUNDS1_1] nBOUNDS1, slBOUNDS1⟩)
    {qBOUNDS2 : Addr} {slBOUNDS2 : Array (Option Value)} {nBOUNDS2 : Nat} {tBOUNDS2_0 tBOUNDS2_1 : Tok} (eBOUNDS2 : PySem.W.nsIn K pBOUNDS "target" = some (some (.ref qBOUNDS2))) (lBOUNDS2 : K.lookup qBOUNDS2 = some ⟨.type "tuple", none, .seq #[.int (0) tBOUNDS2_0, .int (1000000000) tBOUNDS2_1] nBOUNDS2, slBOUNDS2⟩)
    {qBOUNDS3 : Addr} {slBOUNDS3 : Array (Option Value)} {nBOUNDS3 : Nat} {tBOUNDS3_0 tBOUNDS3_1 : Tok} (eBOUNDS3 : PySem.W.nsIn K pBOUNDS "number" = some (some (.ref qBOUNDS3))) (lBOUNDS3 : K.lookup qBOUNDS3 = some ⟨.type "tuple", none, .seq #[.int (0) tBOUNDS3_0, .int (1000000) tBOUNDS3_1] nBOUNDS3, slBOUNDS3⟩)
    {qBOUNDS4 : Addr} {slBOUNDS4 : Array (Option Value)} {nBOUNDS4 : Nat} {tBOUNDS4_0 tBOUNDS4_1 : Tok} (eBOUNDS4 : PySem.W.nsIn K pBOUNDS "value" = some (some (.ref qBOUNDS4))) (lBOUNDS4 : K.lookup qBOUNDS4 = some ⟨.type "tuple", none, .seq #[.int (-1000000000) tBOUNDS4_0, .int (1000000000) tBOUNDS4_1] nBOUNDS4, slBOUNDS4⟩)
    {qBOUNDS5 : Addr} {slBOUNDS5 : Array (Option Value)} {nBOUNDS5 : Nat} {tBOUNDS5_0 tBOUNDS5_1 : Tok} (eBOUNDS5 : PySem.W.nsIn K pBOUNDS "far" = some (some (.ref qBOUNDS5))) (lBOUNDS5 : K.lookup qBOUNDS5 = some ⟨.type "tuple", none, .seq #[.int (0) tBOUNDS5_0, .int (1) tBOUNDS5_1] nBOUNDS5, slBOUNDS5⟩)
    {pPARTS : Addr} {esPARTS : Array DictEntry} {nPARTS : Nat} (aPARTS : PySem.W.nsIn K mainGlobals "PARTS" = some (some (.ref pPARTS))) (lPARTS : K.lookup pPARTS = some ⟨.type "dict", none, .dict esPARTS nPARTS, #[]⟩) (kPARTS : PySem.W.KeysLit w.params esPARTS.toList) (oPARTS : (pPARTS == sysModules) = false)
    {qPARTS0 : Addr} {slPARTS0 : Array (Option Value)} {nPARTS0 : Nat} (ePARTS0 : PySem.W.nsIn K pPARTS "stop" = some (some (.ref qPARTS0))) (lPARTS0 : K.lookup qPARTS0 = some ⟨.type "tuple", none, .seq #[] nPARTS0, slPARTS0⟩)
    {qPARTS1 : Addr} {slPARTS1 : Array (Option Value)} {nPARTS1 : Nat} (ePARTS1 : PySem.W.nsIn K pPARTS "back" = some (some (.ref qPARTS1))) (lPARTS1 : K.lookup qPARTS1 = some ⟨.type "tuple", none, .seq #[] nPARTS1, slPARTS1⟩)
    {qPARTS2 : Addr} {slPARTS2 : Array (Option Value)} {nPARTS2 : Nat} {tPARTS2_0 : Tok} (ePARTS2 : PySem.W.nsIn K pPARTS "halt" = some (some (.ref qPARTS2))) (lPARTS2 : K.lookup qPARTS2 = some ⟨.type "tuple", none, .seq #[.str "number" tPARTS2_0] nPARTS2, slPARTS2⟩)
    {qPARTS3 : Addr} {slPARTS3 : Array (Option Value)} {nPARTS3 : Nat} {tPARTS3_0 tPARTS3_1 : Tok} (ePARTS3 : PySem.W.nsIn K pPARTS "set" = some (some (.ref qPARTS3))) (lPARTS3 : K.lookup qPARTS3 = some ⟨.type "tuple", none, .seq #[.str "box" tPARTS3_0, .str "value" tPARTS3_1] nPARTS3, slPARTS3⟩)
    {qPARTS4 : Addr} {slPARTS4 : Array (Option Value)} {nPARTS4 : Nat} {tPARTS4_0 tPARTS4_1 : Tok} (ePARTS4 : PySem.W.nsIn K pPARTS "more" = some (some (.ref qPARTS4))) (lPARTS4 : K.lookup qPARTS4 = some ⟨.type "tuple", none, .seq #[.str "box" tPARTS4_0, .str "value" tPARTS4_1] nPARTS4, slPARTS4⟩)
    {qPARTS5 : Addr} {slPARTS5 : Array (Option Value)} {nPARTS5 : Nat} {tPARTS5_0 tPARTS5_1 : Tok} (ePARTS5 : PySem.W.nsIn K pPARTS "copy" = some (some (.ref qPARTS5))) (lPARTS5 : K.lookup qPARTS5 = some ⟨.type "tuple", none, .seq #[.str "box" tPARTS5_0, .str "box" tPARTS5_1] nPARTS5, slPARTS5⟩)
    {qPARTS6 : Addr} {slPARTS6 : Array (Option Value)} {nPARTS6 : Nat} {tPARTS6_0 tPARTS6_1 : Tok} (ePARTS6 : PySem.W.nsIn K pPARTS "add" = some (some (.ref qPARTS6))) (lPARTS6 : K.lookup qPARTS6 = some ⟨.type "tuple", none, .seq #[.str "box" tPARTS6_0, .str "box" tPARTS6_1] nPARTS6, slPARTS6⟩)
    {qPARTS7 : Addr} {slPARTS7 : Array (Option Value)} {nPARTS7 : Nat} {tPARTS7_0 tPARTS7_1 : Tok} (ePARTS7 : PySem.W.nsIn K pPARTS "less" = some (some (.ref qPARTS7))) (lPARTS7 : K.lookup qPARTS7 = some ⟨.type "tuple", none, .seq #[.str "box" tPARTS7_0, .str "box" tPARTS7_1] nPARTS7, slPARTS7⟩)
    {qPARTS8 : Addr} {slPARTS8 : Array (Option Value)} {nPARTS8 : Nat} {tPARTS8_0 tPARTS8_1 : Tok} (ePARTS8 : PySem.W.nsIn K pPARTS "load" = some (some (.ref qPARTS8))) (lPARTS8 : K.lookup qPARTS8 = some ⟨.type "tuple", none, .seq #[.str "box" tPARTS8_0, .str "box" tPARTS8_1] nPARTS8, slPARTS8⟩)
    {qPARTS9 : Addr} {slPARTS9 : Array (Option Value)} {nPARTS9 : Nat} {tPARTS9_0 tPARTS9_1 : Tok} (ePARTS9 : PySem.W.nsIn K pPARTS "keep" = some (some (.ref qPARTS9))) (lPARTS9 : K.lookup qPARTS9 = some ⟨.type "tuple", none, .seq #[.str "box" tPARTS9_0, .str "box" tPARTS9_1] nPARTS9, slPARTS9⟩)
    {qPARTS10 : Addr} {slPARTS10 : Array (Option Value)} {nPARTS10 : Nat} {tPARTS10_0 : Tok} (ePARTS10 : PySem.W.nsIn K pPARTS "tell" = some (some (.ref qPARTS10))) (lPARTS10 : K.lookup qPARTS10 = some ⟨.type "tuple", none, .seq #[.str "box" tPARTS10_0] nPARTS10, slPARTS10⟩)
    {qPARTS11 : Addr} {slPARTS11 : Array (Option Value)} {nPARTS11 : Nat} {tPARTS11_0 tPARTS11_1 : Tok} (ePARTS11 : PySem.W.nsIn K pPARTS "see" = some (some (.ref qPARTS11))) (lPARTS11 : K.lookup qPARTS11 = some ⟨.type "tuple", none, .seq #[.str "box" tPARTS11_0, .str "number" tPARTS11_1] nPARTS11, slPARTS11⟩)
    {qPARTS12 : Addr} {slPARTS12 : Array (Option Value)} {nPARTS12 : Nat} {tPARTS12_0 tPARTS12_1 : Tok} (ePARTS12 : PySem.W.nsIn K pPARTS "put" = some (some (.ref qPARTS12))) (lPARTS12 : K.lookup qPARTS12 = some ⟨.type "tuple", none, .seq #[.str "box" tPARTS12_0, .str "aside" tPARTS12_1] nPARTS12, slPARTS12⟩)
    {qPARTS13 : Addr} {slPARTS13 : Array (Option Value)} {nPARTS13 : Nat} {tPARTS13_0 tPARTS13_1 : Tok} (ePARTS13 : PySem.W.nsIn K pPARTS "take" = some (some (.ref qPARTS13))) (lPARTS13 : K.lookup qPARTS13 = some ⟨.type "tuple", none, .seq #[.str "box" tPARTS13_0, .str "aside" tPARTS13_1] nPARTS13, slPARTS13⟩)
    {qPARTS14 : Addr} {slPARTS14 : Array (Option Value)} {nPARTS14 : Nat} {tPARTS14_0 tPARTS14_1 : Tok} (ePARTS14 : PySem.W.nsIn K pPARTS "jump" = some (some (.ref qPARTS14))) (lPARTS14 : K.lookup qPARTS14 = some ⟨.type "tuple", none, .seq #[.str "target" tPARTS14_0, .str "far" tPARTS14_1] nPARTS14, slPARTS14⟩)
    {qPARTS15 : Addr} {slPARTS15 : Array (Option Value)} {nPARTS15 : Nat} {tPARTS15_0 tPARTS15_1 tPARTS15_2 : Tok} (ePARTS15 : PySem.W.nsIn K pPARTS "zero" = some (some (.ref qPARTS15))) (lPARTS15 : K.lookup qPARTS15 = some ⟨.type "tuple", none, .seq #[.str "box" tPARTS15_0, .str "target" tPARTS15_1, .str "far" tPARTS15_2] nPARTS15, slPARTS15⟩)
    {qPARTS16 : Addr} {slPARTS16 : Array (Option Value)} {nPARTS16 : Nat} {tPARTS16_0 tPARTS16_1 tPARTS16_2 : Tok} (ePARTS16 : PySem.W.nsIn K pPARTS "below" = some (some (.ref qPARTS16))) (lPARTS16 : K.lookup qPARTS16 = some ⟨.type "tuple", none, .seq #[.str "box" tPARTS16_0, .str "target" tPARTS16_1, .str "far" tPARTS16_2] nPARTS16, slPARTS16⟩)
    {qPARTS17 : Addr} {slPARTS17 : Array (Option Value)} {nPARTS17 : Nat} {tPARTS17_0 tPARTS17_1 : Tok} (ePARTS17 : PySem.W.nsIn K pPARTS "call" = some (some (.ref qPARTS17))) (lPARTS17 : K.lookup qPARTS17 = some ⟨.type "tuple", none, .seq #[.str "target" tPARTS17_0, .str "far" tPARTS17_1] nPARTS17, slPARTS17⟩)
    {qPARTS18 : Addr} {slPARTS18 : Array (Option Value)} {nPARTS18 : Nat} {tPARTS18_0 tPARTS18_1 : Tok} (ePARTS18 : PySem.W.nsIn K pPARTS "mark" = some (some (.ref qPARTS18))) (lPARTS18 : K.lookup qPARTS18 = some ⟨.type "tuple", none, .seq #[.str "target" tPARTS18_0, .str "far" tPARTS18_1] nPARTS18, slPARTS18⟩)
    {qPARTS19 : Addr} {slPARTS19 : Array (Option Value)} {nPARTS19 : Nat} {tPARTS19_0 tPARTS19_1 : Tok} (ePARTS19 : PySem.W.nsIn K pPARTS "table" = some (some (.ref qPARTS19))) (lPARTS19 : K.lookup qPARTS19 = some ⟨.type "tuple", none, .seq #[.str "box" tPARTS19_0, .str "targets" tPARTS19_1] nPARTS19, slPARTS19⟩)
    (xPARTS0 : PySem.W.nsIn K pPARTS "Stop" = some none)
    {tMOST_WISHES : Tok} (aMOST_WISHES : PySem.W.nsIn K mainGlobals "MOST_WISHES" = some (some (.int (12) tMOST_WISHES)))
    {pPLACES : Addr} {esPLACES : Array DictEntry} {nPLACES : Nat} (aPLACES : PySem.W.nsIn K mainGlobals "PLACES" = some (some (.ref pPLACES))) (lPLACES : K.lookup pPLACES = some ⟨.type "dict", none, .dict esPLACES nPLACES, #[]⟩) (kPLACES : PySem.W.KeysLit w.params esPLACES.toList) (oPLACES : (pPLACES == sysModules) = false)
    {tPLACES0 : Tok} (ePLACES0 : PySem.W.nsIn K pPLACES "before" = some (some (.int 2 tPLACES0)))
    {tPLACES1 : Tok} (ePLACES1 : PySem.W.nsIn K pPLACES "after" = some (some (.int 2 tPLACES1)))
    {tPLACES2 : Tok} (ePLACES2 : PySem.W.nsIn K pPLACES "way" = some (some (.int 3 tPLACES2)))
    (xPLACES0 : PySem.W.nsIn K pPLACES "at" = some none)
    (xPLACES1 : PySem.W.nsIn K pPLACES "" = some none)
    {pWHATS : Addr} {esWHATS : Array DictEntry} {nWHATS : Nat} (aWHATS : PySem.W.nsIn K mainGlobals "WHATS" = some (some (.ref pWHATS))) (lWHATS : K.lookup pWHATS = some ⟨.type "dict", none, .dict esWHATS nWHATS, #[]⟩) (kWHATS : PySem.W.KeysLit w.params esWHATS.toList) (oWHATS : (pWHATS == sysModules) = false)
    {qWHATS0 : Addr} {slWHATS0 : Array (Option Value)} {nWHATS0 : Nat} {tWHATS0_0 tWHATS0_1 : Tok} (eWHATS0 : PySem.W.nsIn K pWHATS "look" = some (some (.ref qWHATS0))) (lWHATS0 : K.lookup qWHATS0 = some ⟨.type "tuple", none, .seq #[.str "number" tWHATS0_0, .str "box" tWHATS0_1] nWHATS0, slWHATS0⟩)
    {qWHATS1 : Addr} {slWHATS1 : Array (Option Value)} {nWHATS1 : Nat} {tWHATS1_0 : Tok} (eWHATS1 : PySem.W.nsIn K pWHATS "count" = some (some (.ref qWHATS1))) (lWHATS1 : K.lookup qWHATS1 = some ⟨.type "tuple", none, .seq #[.str "number" tWHATS1_0] nWHATS1, slWHATS1⟩)
    {qWHATS2 : Addr} {slWHATS2 : Array (Option Value)} {nWHATS2 : Nat} {tWHATS2_0 tWHATS2_1 : Tok} (eWHATS2 : PySem.W.nsIn K pWHATS "guard" = some (some (.ref qWHATS2))) (lWHATS2 : K.lookup qWHATS2 = some ⟨.type "tuple", none, .seq #[.str "number" tWHATS2_0, .str "box" tWHATS2_1] nWHATS2, slWHATS2⟩)
    (xWHATS0 : PySem.W.nsIn K pWHATS "see" = some none)
    {cNoRows : Addr} (xNoRows : PySem.W.nsIn K mainGlobals "NoRows" = some (some (.ref cNoRows)))
    {cNoWish : Addr} (xNoWish : PySem.W.nsIn K mainGlobals "NoWish" = some (some (.ref cNoWish)))
    {cRowError : Addr} (xRowError : PySem.W.nsIn K mainGlobals "RowError" = some (some (.ref cRowError)))
    {cEnded : Addr} (xEnded : PySem.W.nsIn K mainGlobals "Ended" = some (some (.ref cEnded)))
    {cNoFree : Addr} (xNoFree : PySem.W.nsIn K mainGlobals "NoFree" = some (some (.ref cNoFree)))
    {cNoLayout : Addr} (xNoLayout : PySem.W.nsIn K mainGlobals "NoLayout" = some (some (.ref cNoLayout)))
    {cNoLine : Addr} (xNoLine : PySem.W.nsIn K mainGlobals "NoLine" = some (some (.ref cNoLine)))
    {cNoPaper : Addr} (xNoPaper : PySem.W.nsIn K mainGlobals "NoPaper" = some (some (.ref cNoPaper)))
    {cNoText : Addr} (xNoText : PySem.W.nsIn K mainGlobals "NoText" = some (some (.ref cNoText)))
    {cNoUnits : Addr} (xNoUnits : PySem.W.nsIn K mainGlobals "NoUnits" = some (some (.ref cNoUnits)))
    {cTooMuch : Addr} (xTooMuch : PySem.W.nsIn K mainGlobals "TooMuch" = some (some (.ref cTooMuch)))
    {gI : Addr} {odgI angI : Option Addr} {slgI : Array (Option Value)} {ocgI kVgI dcgI pmgI cdgI ctgI : Value} (agI : PySem.W.findIn K (.ref cNoRows) "__init__" = some (some (.ref gI))) (igI : PySem.W.typeIn K (.ref gI) = some (.type "function")) (lgI : K.lookup gI = some ⟨ocgI, odgI, .func (PySem.W.fnOf "__init__" "NoRows.__init__" (defArgs sXI) (defBody sXI) (defScope sXI) .none kVgI dcgI pmgI angI cdgI ctgI), slgI⟩) (cgI : PySem.W.codeIn K cdgI "NoRows.__init__" = true) (kgI : PySem.W.keepIn K (.ref gI) = true)
    {ddC : Option Addr} {nmC qnC : Str} {bsC subC : List Value} {nsC : Addr} {snC : List Str} {abC : Bool} {colC : Option Bool} {k0C k1C k2C k3C k5C : Option Value} {cdE : ClassData} (xlk : K.lookup cNoRows = some ⟨.type "type", ddC, .cls ⟨nmC, bsC, .ref cNoRows :: .ref cRowError :: vmVE, nsC, qnC, true, snC, subC, abC, colC, false⟩, #[k0C, k1C, k2C, k3C, some (.builtin "ValueError.__new__"), k5C]⟩) (xq : PySem.W.excIn K cRowError vmVE "ValueError.__new__" = true) (xrt : PySem.W.mroIn K cRowError (.type "object") = some true) (xsa : PySem.W.findIn K (.ref cNoRows) "__setattr__" = some (some (.builtin "object.__setattr__"))) (xna : PySem.W.takerIn K cNoRows "at" = some none) (xnt : PySem.W.findIn K (.ref cNoRows) "at" = some none) (xhd : PySem.W.hasDictIn K cNoRows = true) (xga : PySem.W.findIn K (.ref cNoRows) "__getattribute__" = some (some (.builtin "BaseException.__getattribute__"))) (xgh : PySem.W.findIn K (.ref cNoRows) "__getattr__" = some none) (xcl : PySem.W.findIn K (.ref cNoRows) "__class__" = some (some (.builtin "object.__class__"))) (xgt : PySem.W.specialIn K (.builtin "object.__class__") "__get__" = some (some (.builtin "getset_descriptor.__get__"))) (xtk : PySem.W.takesIn K (.builtin "object.__class__") = some true) (xob : PySem.W.mroIn K cNoRows (.type "object") = some true) (xbx : PySem.W.mroIn K cNoRows (.type "BaseException") = some true) (xci : PySem.W.clsIn K cNoRows = some cdE) (xsg : PySem.W.specialIn K (.ref cRowError) "__getattribute__" = some (some (.builtin "type.__getattribute__"))) (xrr : PySem.W.readsIn K cRowError (.type "type") = true) (xfi : PySem.W.findCls K (.ref cRowError) (.type "type") "__init__" = some (.val (.builtin "ValueError.__init__"))) (xkc : PySem.W.keepIn K (.ref cNoRows) = true) (xexm : PySem.W.exmOne K (.ref cNoRows) (.ref cRowError) = some true) (xown : PySem.W.kitOne K (.ref cNoRows) (.ref cNoRows) = some true) (xval : PySem.W.kitOne K (.ref cNoRows) (.type "ValueError") = some true)
    {gI1 : Addr} {odgI1 angI1 : Option Addr} {slgI1 : Array (Option Value)} {ocgI1 kVgI1 dcgI1 pmgI1 cdgI1 ctgI1 : Value} (agI1 : PySem.W.findIn K (.ref cNoWish) "__init__" = some (some (.ref gI1))) (igI1 : PySem.W.typeIn K (.ref gI1) = some (.type "function")) (lgI1 : K.lookup gI1 = some ⟨ocgI1, odgI1, .func (PySem.W.fnOf "__init__" "NoWish.__init__" (defArgs sXI1) (defBody sXI1) (defScope sXI1) .none kVgI1 dcgI1 pmgI1 angI1 cdgI1 ctgI1), slgI1⟩) (cgI1 : PySem.W.codeIn K cdgI1 "NoWish.__init__" = true) (kgI1 : PySem.W.keepIn K (.ref gI1) = true)
    {ddC1 : Option Addr} {nmC1 qnC1 : Str} {bsC1 subC1 : List Value} {nsC1 : Addr} {snC1 : List Str} {abC1 : Bool} {colC1 : Option Bool} {k0C1 k1C1 k2C1 k3C1 k5C1 : Option Value} {cdE1 : ClassData} (xlk1 : K.lookup cNoWish = some ⟨.type "type", ddC1, .cls ⟨nmC1, bsC1, .ref cNoWish :: .ref cRowError :: vmVE, nsC1, qnC1, true, snC1, subC1, abC1, colC1, false⟩, #[k0C1, k1C1, k2C1, k3C1, some (.builtin "ValueError.__new__"), k5C1]⟩) (xq1 : PySem.W.excIn K cRowError vmVE "ValueError.__new__" = true) (xrt1 : PySem.W.mroIn K cRowError (.type "object") = some true) (xsa1 : PySem.W.findIn K (.ref cNoWish) "__setattr__" = some (some (.builtin "object.__setattr__"))) (xna1 : PySem.W.takerIn K cNoWish "at" = some none) (xnt1 : PySem.W.findIn K (.ref cNoWish) "at" = some none) (xhd1 : PySem.W.hasDictIn K cNoWish = true) (xga1 : PySem.W.findIn K (.ref cNoWish) "__getattribute__" = some (some (.builtin "BaseException.__getattribute__"))) (xgh1 : PySem.W.findIn K (.ref cNoWish) "__getattr__" = some none) (xcl1 : PySem.W.findIn K (.ref cNoWish) "__class__" = some (some (.builtin "object.__class__"))) (xgt1 : PySem.W.specialIn K (.builtin "object.__class__") "__get__" = some (some (.builtin "getset_descriptor.__get__"))) (xtk1 : PySem.W.takesIn K (.builtin "object.__class__") = some true) (xob1 : PySem.W.mroIn K cNoWish (.type "object") = some true) (xbx1 : PySem.W.mroIn K cNoWish (.type "BaseException") = some true) (xci1 : PySem.W.clsIn K cNoWish = some cdE1) (xsg1 : PySem.W.specialIn K (.ref cRowError) "__getattribute__" = some (some (.builtin "type.__getattribute__"))) (xrr1 : PySem.W.readsIn K cRowError (.type "type") = true) (xfi1 : PySem.W.findCls K (.ref cRowError) (.type "type") "__init__" = some (.val (.builtin "ValueError.__init__"))) (xkc1 : PySem.W.keepIn K (.ref cNoWish) = true) (xexm1 : PySem.W.exmOne K (.ref cNoWish) (.ref cRowError) = some true) (xown1 : PySem.W.kitOne K (.ref cNoWish) (.ref cNoWish) = some true) (xval1 : PySem.W.kitOne K (.ref cNoWish) (.type "ValueError") = some true)
    (kNoRows_Ended : PySem.W.kitOne K (.ref cNoRows) (.ref cEnded) = some false)
    (kNoRows_NoFree : PySem.W.kitOne K (.ref cNoRows) (.ref cNoFree) = some false)
    (kNoRows_NoLayout : PySem.W.kitOne K (.ref cNoRows) (.ref cNoLayout) = some false)
    (kNoRows_NoLine : PySem.W.kitOne K (.ref cNoRows) (.ref cNoLine) = some false)
    (kNoRows_NoPaper : PySem.W.kitOne K (.ref cNoRows) (.ref cNoPaper) = some false)
    (kNoRows_NoText : PySem.W.kitOne K (.ref cNoRows) (.ref cNoText) = some false)
    (kNoRows_NoUnits : PySem.W.kitOne K (.ref cNoRows) (.ref cNoUnits) = some false)
    (kNoRows_TooMuch : PySem.W.kitOne K (.ref cNoRows) (.ref cTooMuch) = some false)
    (kNoRows_NoWish : PySem.W.kitOne K (.ref cNoRows) (.ref cNoWish) = some false)
    (kNoWish_Ended : PySem.W.kitOne K (.ref cNoWish) (.ref cEnded) = some false)
    (kNoWish_NoFree : PySem.W.kitOne K (.ref cNoWish) (.ref cNoFree) = some false)
    (kNoWish_NoLayout : PySem.W.kitOne K (.ref cNoWish) (.ref cNoLayout) = some false)
    (kNoWish_NoLine : PySem.W.kitOne K (.ref cNoWish) (.ref cNoLine) = some false)
    (kNoWish_NoPaper : PySem.W.kitOne K (.ref cNoWish) (.ref cNoPaper) = some false)
    (kNoWish_NoText : PySem.W.kitOne K (.ref cNoWish) (.ref cNoText) = some false)
    (kNoWish_NoUnits : PySem.W.kitOne K (.ref cNoWish) (.ref cNoUnits) = some false)
    (kNoWish_TooMuch : PySem.W.kitOne K (.ref cNoWish) (.ref cTooMuch) = some false)
    (kNoWish_NoRows : PySem.W.kitOne K (.ref cNoWish) (.ref cNoRows) = some false)
    : ∃ fd : FuncData, (∀ (s : Shared) (v : Value), BindsTo s fd ⟨[v], []⟩ [("_law_script", v)]) ∧ ∀ base : Heap, K.In base → base.Ns mainGlobals mg → FnOk l.prog w K mg base CX0 10 fa fd ["_law_script"] (spLaw (K := K)) := by
  have e := hfa.symm.trans (PySem.W.mg_of X G a26)
  cases e
  have F0 := fun_mk (st := s_goes_on) l0 c0 k0
  have b0 := F0.binds (ps := ["row"]) fun _ _ _ _ _ _ us hl => match us, hl with | [_], _ => rfl
  have m0 := PySem.W.mg_of X G a0
  have F1 := fun_mk (st := s_targets_of) l1 c1 k1
  have b1 := F1.binds (ps := ["row"]) fun _ _ _ _ _ _ us hl => match us, hl with | [_], _ => rfl
  have m1 := PySem.W.mg_of X G a1
  have F2 := fun_mk (st := s_ways_of) l2 c2 k2
  have b2 := F2.binds (ps := ["rows", "r"]) fun _ _ _ _ _ _ us hl => match us, hl with | [_, _], _ => rfl
  have m2 := PySem.W.mg_of X G a2
  have F3 := fun_mk (st := s_is_whole) l3 c3 k3
  have b3 := F3.binds (ps := ["thing"]) fun _ _ _ _ _ _ us hl => match us, hl with | [_], _ => rfl
  have m3 := PySem.W.mg_of X G a3
  have F4 := fun_mk (st := s_is_number_of) l4 c4 k4
  have b4 := F4.binds (ps := ["kind", "thing"]) fun _ _ _ _ _ _ us hl => match us, hl with | [_, _], _ => rfl
  have m4 := PySem.W.mg_of X G a4
  have F5 := fun_mk (st := s_is_targets) l5 c5 k5
  have b5 := F5.binds (ps := ["thing"]) fun _ _ _ _ _ _ us hl => match us, hl with | [_], _ => rfl
  have m5 := PySem.W.mg_of X G a5
  have F6 := fun_mk (st := s_is_part) l6 c6 k6
  have b6 := F6.binds (ps := ["kind", "thing"]) fun _ _ _ _ _ _ us hl => match us, hl with | [_, _], _ => rfl
  have m6 := PySem.W.mg_of X G a6
  have F7 := fun_mk (st := s_are_parts) l7 c7 k7
  have b7 := F7.binds (ps := ["kinds", "things"]) fun _ _ _ _ _ _ us hl => match us, hl with | [_, _], _ => rfl
  have m7 := PySem.W.mg_of X G a7
  have F8 := fun_mk (st := s_word_of) l8 c8 k8
  have b8 := F8.binds (ps := ["thing"]) fun _ _ _ _ _ _ us hl => match us, hl with | [_], _ => rfl
  have m8 := PySem.W.mg_of X G a8
  have F9 := fun_mk (st := s_is_row) l9 c9 k9
  have b9 := F9.binds (ps := ["row"]) fun _ _ _ _ _ _ us hl => match us, hl with | [_], _ => rfl
  have m9 := PySem.W.mg_of X G a9
  have F10 := fun_mk (st := s_stays_within) l10 c10 k10
  have b10 := F10.binds (ps := ["row", "how_many"]) fun _ _ _ _ _ _ us hl => match us, hl with | [_, _], _ => rfl
  have m10 := PySem.W.mg_of X G a10
  have F11 := fun_mk (st := s_check_rows) l11 c11 k11
  have b11 := F11.binds (ps := ["rows"]) fun _ _ _ _ _ _ us hl => match us, hl with | [_], _ => rfl
  have m11 := PySem.W.mg_of X G a11
  have F12 := fun_mk (st := s_is_place) l12 c12 k12
  have b12 := F12.binds (ps := ["rows", "place"]) fun _ _ _ _ _ _ us hl => match us, hl with | [_, _], _ => rfl
  have m12 := PySem.W.mg_of X G a12
  have F13 := fun_mk (st := s_is_what) l13 c13 k13
  have b13 := F13.binds (ps := ["what"]) fun _ _ _ _ _ _ us hl => match us, hl with | [_], _ => rfl
  have m13 := PySem.W.mg_of X G a13
  have F14 := fun_mk (st := s_is_wish) l14 c14 k14
  have b14 := F14.binds (ps := ["rows", "wish"]) fun _ _ _ _ _ _ us hl => match us, hl with | [_, _], _ => rfl
  have m14 := PySem.W.mg_of X G a14
  have F15 := fun_mk (st := s_check_wishes) l15 c15 k15
  have b15 := F15.binds (ps := ["rows", "wishes"]) fun _ _ _ _ _ _ us hl => match us, hl with | [_, _], _ => rfl
  have m15 := PySem.W.mg_of X G a15
  have F16 := fun_mk (st := s_widened) l16 c16 k16
  have b16 := F16.binds (ps := ["rows", "wishes"]) fun _ _ _ _ _ _ us hl => match us, hl with | [_, _], _ => rfl
  have m16 := PySem.W.mg_of X G a16
  have F17 := fun_mk (st := s_law_cell_at) l17 c17 k17
  have b17 := F17.binds (ps := ["_law_script", "_law_k"]) fun _ _ _ _ _ _ us hl => match us, hl with | [_, _], _ => rfl
  have m17 := PySem.W.mg_of X G a17
  have F18 := fun_mk (st := s_law_stream) l18 c18 k18
  have b18 := F18.binds (ps := ["_law_cell", "_law_size"]) fun _ _ _ _ _ _ us hl => match us, hl with | [_, _], _ => rfl
  have m18 := PySem.W.mg_of X G a18
  have F19 := fun_mk (st := s_law_box) l19 c19 k19
  have b19 := F19.binds (ps := ["_law_xs"]) fun _ _ _ _ _ _ us hl => match us, hl with | [_], _ => rfl
  have m19 := PySem.W.mg_of X G a19
  have F20 := fun_mk (st := s_law_row) l20 c20 k20
  have b20 := F20.binds (ps := ["_law_xs", "_law_n"]) fun _ _ _ _ _ _ us hl => match us, hl with | [_, _], _ => rfl
  have m20 := PySem.W.mg_of X G a20
  have F21 := fun_mk (st := s_law_rows) l21 c21 k21
  have b21 := F21.binds (ps := ["_law_xs", "_law_most"]) fun _ _ _ _ _ _ us hl => match us, hl with | [_, _], _ => rfl
  have m21 := PySem.W.mg_of X G a21
  have F22 := fun_mk (st := s_law_wish) l22 c22 k22
  have b22 := F22.binds (ps := ["_law_xs", "_law_rows_here", "_law_guards"]) fun _ _ _ _ _ _ us hl => match us, hl with | [_, _, _], _ => rfl
  have m22 := PySem.W.mg_of X G a22
  have F23 := fun_mk (st := s_law_ways) l23 c23 k23
  have b23 := F23.binds (ps := ["_law_rows_here", "_law_r"]) fun _ _ _ _ _ _ us hl => match us, hl with | [_, _], _ => rfl
  have m23 := PySem.W.mg_of X G a23
  have F24 := fun_mk (st := s_law_bad) l24 c24 k24
  have b24 := F24.binds (ps := ["_law_xs", "_law_rows_here"]) fun _ _ _ _ _ _ us hl => match us, hl with | [_, _], _ => rfl
  have m24 := PySem.W.mg_of X G a24
  have F25 := fun_mk (st := s_law_told) l25 c25 k25
  have b25 := F25.binds (ps := ["_law_rows_here", "_law_wishes", "_law_wide"]) fun _ _ _ _ _ _ us hl => match us, hl with | [_, _, _], _ => rfl
  have m25 := PySem.W.mg_of X G a25
  have F26 := fun_mk (st := s_law) l26 c26 k26
  have T : Txt K w.params mg := ⟨⟨pNOT_GOING_ON, PySem.W.mg_of X G aNOT_GOING_ON, fun H => .inr ⟨_, _, _, lNOT_GOING_ON, rfl, rfl, (by show 4 ≤ sizeLine; decide), .cons ⟨_, rfl⟩ (.cons ⟨_, rfl⟩ (.cons ⟨_, rfl⟩ (.cons ⟨_, rfl⟩ (.nil))))⟩⟩,
    ⟨tMOST_ROWS, PySem.W.mg_of X G aMOST_ROWS⟩,
    ⟨tMOST_TARGETS, PySem.W.mg_of X G aMOST_TARGETS⟩,
    ⟨pBOUNDS, PySem.W.mg_of X G aBOUNDS, ⟨esBOUNDS, nBOUNDS, lBOUNDS, kBOUNDS, oBOUNDS⟩, ⟨qBOUNDS0, ⟨esBOUNDS, nBOUNDS, lBOUNDS, kBOUNDS, oBOUNDS, _, eBOUNDS0, rfl⟩, fun H => .inr ⟨_, _, _, lBOUNDS0, rfl, rfl, (by show 2 ≤ sizeLine; decide), .cons ⟨_, rfl⟩ (.cons ⟨_, rfl⟩ (.nil))⟩⟩,
      ⟨qBOUNDS1, ⟨esBOUNDS, nBOUNDS, lBOUNDS, kBOUNDS, oBOUNDS, _, eBOUNDS1, rfl⟩, fun H => .inr ⟨_, _, _, lBOUNDS1, rfl, rfl, (by show 2 ≤ sizeLine; decide), .cons ⟨_, rfl⟩ (.cons ⟨_, rfl⟩ (.nil))⟩⟩,
      ⟨qBOUNDS2, ⟨esBOUNDS, nBOUNDS, lBOUNDS, kBOUNDS, oBOUNDS, _, eBOUNDS2, rfl⟩, fun H => .inr ⟨_, _, _, lBOUNDS2, rfl, rfl, (by show 2 ≤ sizeLine; decide), .cons ⟨_, rfl⟩ (.cons ⟨_, rfl⟩ (.nil))⟩⟩,
      ⟨qBOUNDS3, ⟨esBOUNDS, nBOUNDS, lBOUNDS, kBOUNDS, oBOUNDS, _, eBOUNDS3, rfl⟩, fun H => .inr ⟨_, _, _, lBOUNDS3, rfl, rfl, (by show 2 ≤ sizeLine; decide), .cons ⟨_, rfl⟩ (.cons ⟨_, rfl⟩ (.nil))⟩⟩,
      ⟨qBOUNDS4, ⟨esBOUNDS, nBOUNDS, lBOUNDS, kBOUNDS, oBOUNDS, _, eBOUNDS4, rfl⟩, fun H => .inr ⟨_, _, _, lBOUNDS4, rfl, rfl, (by show 2 ≤ sizeLine; decide), .cons ⟨_, rfl⟩ (.cons ⟨_, rfl⟩ (.nil))⟩⟩,
      ⟨qBOUNDS5, ⟨esBOUNDS, nBOUNDS, lBOUNDS, kBOUNDS, oBOUNDS, _, eBOUNDS5, rfl⟩, fun H => .inr ⟨_, _, _, lBOUNDS5, rfl, rfl, (by show 2 ≤ sizeLine; decide), .cons ⟨_, rfl⟩ (.cons ⟨_, rfl⟩ (.nil))⟩⟩⟩,
    ⟨pPARTS, PySem.W.mg_of X G aPARTS, ⟨esPARTS, nPARTS, lPARTS, kPARTS, oPARTS⟩, ⟨qPARTS0, ⟨esPARTS, nPARTS, lPARTS, kPARTS, oPARTS, _, ePARTS0, rfl⟩, fun H => .inr ⟨_, _, _, lPARTS0, rfl, rfl, (by show 0 ≤ sizeLine; decide), .nil⟩⟩,
      ⟨qPARTS1, ⟨esPARTS, nPARTS, lPARTS, kPARTS, oPARTS, _, ePARTS1, rfl⟩, fun H => .inr ⟨_, _, _, lPARTS1, rfl, rfl, (by show 0 ≤ sizeLine; decide), .nil⟩⟩,
      ⟨qPARTS2, ⟨esPARTS, nPARTS, lPARTS, kPARTS, oPARTS, _, ePARTS2, rfl⟩, fun H => .inr ⟨_, _, _, lPARTS2, rfl, rfl, (by show 1 ≤ sizeLine; decide), .cons ⟨_, rfl⟩ (.nil)⟩⟩,
      ⟨qPARTS3, ⟨esPARTS, nPARTS, lPARTS, kPARTS, oPARTS, _, ePARTS3, rfl⟩, fun H => .inr ⟨_, _, _, lPARTS3, rfl, rfl, (by show 2 ≤ sizeLine; decide), .cons ⟨_, rfl⟩ (.cons ⟨_, rfl⟩ (.nil))⟩⟩,
      ⟨qPARTS4, ⟨esPARTS, nPARTS, lPARTS, kPARTS, oPARTS, _, ePARTS4, rfl⟩, fun H => .inr ⟨_, _, _, lPARTS4, rfl, rfl, (by show 2 ≤ sizeLine; decide), .cons ⟨_, rfl⟩ (.cons ⟨_, rfl⟩ (.nil))⟩⟩,
      ⟨qPARTS5, ⟨esPARTS, nPARTS, lPARTS, kPARTS, oPARTS, _, ePARTS5, rfl⟩, fun H => .inr ⟨_, _, _, lPARTS5, rfl, rfl, (by show 2 ≤ sizeLine; decide), .cons ⟨_, rfl⟩ (.cons ⟨_, rfl⟩ (.nil))⟩⟩,
      ⟨qPARTS6, ⟨esPARTS, nPARTS, lPARTS, kPARTS, oPARTS, _, ePARTS6, rfl⟩, fun H => .inr ⟨_, _, _, lPARTS6, rfl, rfl, (by show 2 ≤ sizeLine; decide), .cons ⟨_, rfl⟩ (.cons ⟨_, rfl⟩ (.nil))⟩⟩,
      ⟨qPARTS7, ⟨esPARTS, nPARTS, lPARTS, kPARTS, oPARTS, _, ePARTS7, rfl⟩, fun H => .inr ⟨_, _, _, lPARTS7, rfl, rfl, (by show 2 ≤ sizeLine; decide), .cons ⟨_, rfl⟩ (.cons ⟨_, rfl⟩ (.nil))⟩⟩,
      ⟨qPARTS8, ⟨esPARTS, nPARTS, lPARTS, kPARTS, oPARTS, _, ePARTS8, rfl⟩, fun H => .inr ⟨_, _, _, lPARTS8, rfl, rfl, (by show 2 ≤ sizeLine; decide), .cons ⟨_, rfl⟩ (.cons ⟨_, rfl⟩ (.nil))⟩⟩,
      ⟨qPARTS9, ⟨esPARTS, nPARTS, lPARTS, kPARTS, oPARTS, _, ePARTS9, rfl⟩, fun H => .inr ⟨_, _, _, lPARTS9, rfl, rfl, (by show 2 ≤ sizeLine; decide), .cons ⟨_, rfl⟩ (.cons ⟨_, rfl⟩ (.nil))⟩⟩,
      ⟨qPARTS10, ⟨esPARTS, nPARTS, lPARTS, kPARTS, oPARTS, _, ePARTS10, rfl⟩, fun H => .inr ⟨_, _, _, lPARTS10, rfl, rfl, (by show 1 ≤ sizeLine; decide), .cons ⟨_, rfl⟩ (.nil)⟩⟩,
      ⟨qPARTS11, ⟨esPARTS, nPARTS, lPARTS, kPARTS, oPARTS, _, ePARTS11, rfl⟩, fun H => .inr ⟨_, _, _, lPARTS11, rfl, rfl, (by show 2 ≤ sizeLine; decide), .cons ⟨_, rfl⟩ (.cons ⟨_, rfl⟩ (.nil))⟩⟩,
      ⟨qPARTS12, ⟨esPARTS, nPARTS, lPARTS, kPARTS, oPARTS, _, ePARTS12, rfl⟩, fun H => .inr ⟨_, _, _, lPARTS12, rfl, rfl, (by show 2 ≤ sizeLine; decide), .cons ⟨_, rfl⟩ (.cons ⟨_, rfl⟩ (.nil))⟩⟩,
      ⟨qPARTS13, ⟨esPARTS, nPARTS, lPARTS, kPARTS, oPARTS, _, ePARTS13, rfl⟩, fun H => .inr ⟨_, _, _, lPARTS13, rfl, rfl, (by show 2 ≤ sizeLine; decide), .cons ⟨_, rfl⟩ (.cons ⟨_, rfl⟩ (.nil))⟩⟩,
      ⟨qPARTS14, ⟨esPARTS, nPARTS, lPARTS, kPARTS, oPARTS, _, ePARTS14, rfl⟩, fun H => .inr ⟨_, _, _, lPARTS14, rfl, rfl, (by show 2 ≤ sizeLine; decide), .cons ⟨_, rfl⟩ (.cons ⟨_, rfl⟩ (.nil))⟩⟩,
      ⟨qPARTS15, ⟨esPARTS, nPARTS, lPARTS, kPARTS, oPARTS, _, ePARTS15, rfl⟩, fun H => .inr ⟨_, _, _, lPARTS15, rfl, rfl, (by show 3 ≤ sizeLine; decide), .cons ⟨_, rfl⟩ (.cons ⟨_, rfl⟩ (.cons ⟨_, rfl⟩ (.nil)))⟩⟩,
      ⟨qPARTS16, ⟨esPARTS, nPARTS, lPARTS, kPARTS, oPARTS, _, ePARTS16, rfl⟩, fun H => .inr ⟨_, _, _, lPARTS16, rfl, rfl, (by show 3 ≤ sizeLine; decide), .cons ⟨_, rfl⟩ (.cons ⟨_, rfl⟩ (.cons ⟨_, rfl⟩ (.nil)))⟩⟩,
      ⟨qPARTS17, ⟨esPARTS, nPARTS, lPARTS, kPARTS, oPARTS, _, ePARTS17, rfl⟩, fun H => .inr ⟨_, _, _, lPARTS17, rfl, rfl, (by show 2 ≤ sizeLine; decide), .cons ⟨_, rfl⟩ (.cons ⟨_, rfl⟩ (.nil))⟩⟩,
      ⟨qPARTS18, ⟨esPARTS, nPARTS, lPARTS, kPARTS, oPARTS, _, ePARTS18, rfl⟩, fun H => .inr ⟨_, _, _, lPARTS18, rfl, rfl, (by show 2 ≤ sizeLine; decide), .cons ⟨_, rfl⟩ (.cons ⟨_, rfl⟩ (.nil))⟩⟩,
      ⟨qPARTS19, ⟨esPARTS, nPARTS, lPARTS, kPARTS, oPARTS, _, ePARTS19, rfl⟩, fun H => .inr ⟨_, _, _, lPARTS19, rfl, rfl, (by show 2 ≤ sizeLine; decide), .cons ⟨_, rfl⟩ (.cons ⟨_, rfl⟩ (.nil))⟩⟩,
      ⟨esPARTS, nPARTS, lPARTS, kPARTS, oPARTS, none, xPARTS0, trivial⟩⟩,
    ⟨tMOST_WISHES, PySem.W.mg_of X G aMOST_WISHES⟩,
    ⟨pPLACES, PySem.W.mg_of X G aPLACES, ⟨esPLACES, nPLACES, lPLACES, kPLACES, oPLACES⟩, ⟨esPLACES, nPLACES, lPLACES, kPLACES, oPLACES, _, ePLACES0, ⟨_, rfl⟩⟩,
      ⟨esPLACES, nPLACES, lPLACES, kPLACES, oPLACES, _, ePLACES1, ⟨_, rfl⟩⟩,
      ⟨esPLACES, nPLACES, lPLACES, kPLACES, oPLACES, _, ePLACES2, ⟨_, rfl⟩⟩,
      ⟨esPLACES, nPLACES, lPLACES, kPLACES, oPLACES, none, xPLACES0, trivial⟩,
      ⟨esPLACES, nPLACES, lPLACES, kPLACES, oPLACES, none, xPLACES1, trivial⟩⟩,
    ⟨pWHATS, PySem.W.mg_of X G aWHATS, ⟨esWHATS, nWHATS, lWHATS, kWHATS, oWHATS⟩, ⟨qWHATS0, ⟨esWHATS, nWHATS, lWHATS, kWHATS, oWHATS, _, eWHATS0, rfl⟩, fun H => .inr ⟨_, _, _, lWHATS0, rfl, rfl, (by show 2 ≤ sizeLine; decide), .cons ⟨_, rfl⟩ (.cons ⟨_, rfl⟩ (.nil))⟩⟩,
      ⟨qWHATS1, ⟨esWHATS, nWHATS, lWHATS, kWHATS, oWHATS, _, eWHATS1, rfl⟩, fun H => .inr ⟨_, _, _, lWHATS1, rfl, rfl, (by show 1 ≤ sizeLine; decide), .cons ⟨_, rfl⟩ (.nil)⟩⟩,
      ⟨qWHATS2, ⟨esWHATS, nWHATS, lWHATS, kWHATS, oWHATS, _, eWHATS2, rfl⟩, fun H => .inr ⟨_, _, _, lWHATS2, rfl, rfl, (by show 2 ≤ sizeLine; decide), .cons ⟨_, rfl⟩ (.cons ⟨_, rfl⟩ (.nil))⟩⟩,
      ⟨esWHATS, nWHATS, lWHATS, kWHATS, oWHATS, none, xWHATS0, trivial⟩⟩,
    PySem.W.mg_none_of X G z_len,
    PySem.W.mg_none_of X G z_list,
    PySem.W.mg_none_of X G z_tuple,
    PySem.W.mg_none_of X G z_int,
    PySem.W.mg_none_of X G z_bool,
    PySem.W.mg_none_of X G z_str,
    PySem.W.mg_none_of X G z_dict,
    PySem.W.mg_none_of X G z_isinstance,
    PySem.W.mg_none_of X G z_enumerate,
    PySem.W.mg_none_of X G z_range,
    PySem.W.mg_none_of X G z_min,
    PySem.W.mg_none_of X G z_max,
    PySem.W.mg_none_of X G z_all,
    PySem.W.mg_none_of X G z_zip,
    PySem.W.mg_none_of X G z_sorted,
    PySem.W.mg_none_of X G z_set,
    PySem.W.mg_none_of X G z_abs⟩
  refine ⟨PySem.W.fnOf "law" "law" (defArgs s_law) (defBody s_law) (defScope s_law) .none kV26 dc26 pm26 an26 cd26 ct26, fun s v => .of_eq rfl, fun base _ _ => ?_⟩
  have FI := fun_mk (st := sXI) lgI cgI kgI
  have bI := FI.binds (ps := ["self", "at"]) fun _ _ _ _ _ _ us hl => match us, hl with | [_, _], _ => rfl
  have CX : XIni K cNoRows cRowError gI := ⟨⟨_, _, _, _, _, _, _, _, _, _, _, _, _, _, xlk⟩, agI, igI, ⟨xq⟩, xrt, xsa, xna, xnt, xhd, ⟨xga, xgh, xcl, xgt, xtk, xob, xbx, by rw [xci]; rfl⟩, xsg, xrr, xfi⟩
  have FI1 := fun_mk (st := sXI1) lgI1 cgI1 kgI1
  have bI1 := FI1.binds (ps := ["self", "at"]) fun _ _ _ _ _ _ us hl => match us, hl with | [_, _], _ => rfl
  have CX1 : XIni K cNoWish cRowError gI1 := ⟨⟨_, _, _, _, _, _, _, _, _, _, _, _, _, _, xlk1⟩, agI1, igI1, ⟨xq1⟩, xrt1, xsa1, xna1, xnt1, xhd1, ⟨xga1, xgh1, xcl1, xgt1, xtk1, xob1, xbx1, by rw [xci1]; rfl⟩, xsg1, xrr1, xfi1⟩
  have YX : Ys K mg cNoRows cNoWish cRowError cEnded cNoFree cNoLayout cNoLine cNoPaper cNoText cNoUnits cTooMuch gI gI1 := ⟨PySem.W.mg_of X G xNoRows, PySem.W.mg_of X G xNoWish, PySem.W.mg_of X G xRowError, PySem.W.mg_of X G xEnded, PySem.W.mg_of X G xNoFree, PySem.W.mg_of X G xNoLayout, PySem.W.mg_of X G xNoLine, PySem.W.mg_of X G xNoPaper, PySem.W.mg_of X G xNoText, PySem.W.mg_of X G xNoUnits, PySem.W.mg_of X G xTooMuch, PySem.W.mg_none_of X G z_ValueError, CX, xkc, xexm, xval, kNoRows_Ended, kNoRows_NoFree, kNoRows_NoLayout, kNoRows_NoLine, kNoRows_NoPaper, kNoRows_NoText, kNoRows_NoUnits, kNoRows_TooMuch, xown, kNoRows_NoWish, CX1, xkc1, xexm1, xval1, kNoWish_Ended, kNoWish_NoFree, kNoWish_NoLayout, kNoWish_NoLine, kNoWish_NoPaper, kNoWish_NoText, kNoWish_NoUnits, kNoWish_TooMuch, kNoWish_NoRows, xown1⟩
  have mRE := YX.mRowError
  have mNR := YX.mNoRows
  have mNW := YX.mNoWish
  have GI := ok_xi (P := l.prog) (w := w) (base := base) FI CX mRE
  have GI1 := ok_xi1 (P := l.prog) (w := w) (base := base) FI1 CX1 mRE
  have Gx_is_whole := ok_is_whole (P := l.prog) (w := w) (base := base) F3 T
  have Gx_word_of := ok_word_of (P := l.prog) (w := w) (base := base) F8 T
  have Gx_is_number_of := ok_is_number_of (P := l.prog) (w := w) (base := base) F4 T Gx_is_whole F3.kp b3 m3
  have Gx_goes_on := ok_goes_on (P := l.prog) (w := w) (base := base) F0 T
  have Gx_targets_of := ok_targets_of (P := l.prog) (w := w) (base := base) F1 T
  have Gx_ways_of := ok_ways_of (P := l.prog) (w := w) (base := base) F2 T Gx_goes_on F0.kp b0 m0 Gx_targets_of F1.kp b1 m1
  have Gx_is_part := ok_is_part (P := l.prog) (w := w) (base := base) F6 T Gx_is_number_of F4.kp b4 m4
  have Gx_are_parts := ok_are_parts (P := l.prog) (w := w) (base := base) F7 T Gx_is_part F6.kp b6 m6
  have Gx_is_what := ok_is_what (P := l.prog) (w := w) (base := base) F13 T Gx_word_of F8.kp b8 m8 Gx_are_parts F7.kp b7 m7
  have Gx_is_place := ok_is_place (P := l.prog) (w := w) (base := base) F12 T Gx_word_of F8.kp b8 m8 Gx_is_whole F3.kp b3 m3 Gx_ways_of F2.kp b2 m2
  have Gx_is_wish := ok_is_wish (P := l.prog) (w := w) (base := base) F14 T Gx_is_place F12.kp b12 m12 Gx_is_what F13.kp b13 m13
  have Gx_check_wishes := ok_check_wishes (P := l.prog) (w := w) (base := base) F15 T Gx_is_wish F14.kp b14 m14 CX1 xkc1 GI1 bI1 mNW
  have Gx_is_targets := ok_is_targets (P := l.prog) (w := w) (base := base) F5 T Gx_is_number_of F4.kp b4 m4
  have Gx_is_part := ok_is_part2 (P := l.prog) (w := w) (base := base) F6 T Gx_is_number_of F4.kp b4 m4 Gx_is_targets F5.kp b5 m5
  have Gx_are_parts := ok_are_parts2 (P := l.prog) (w := w) (base := base) F7 T Gx_is_part F6.kp b6 m6
  have Gx_is_row := ok_is_row (P := l.prog) (w := w) (base := base) F9 T Gx_word_of F8.kp b8 m8 Gx_are_parts F7.kp b7 m7
  have Gx_stays_within := ok_stays_within (P := l.prog) (w := w) (base := base) F10 T Gx_targets_of F1.kp b1 m1
  have Gx_check_rows := ok_check_rows (P := l.prog) (w := w) (base := base) F11 T Gx_is_row F9.kp b9 m9 Gx_stays_within F10.kp b10 m10 Gx_goes_on F0.kp b0 m0 CX xkc GI bI mNR
  have Gx__law_cell_at := ok_law_cell_at (P := l.prog) (w := w) (base := base) F17 T
  have Gx__law_stream := ok_law_stream (P := l.prog) (w := w) (base := base) F18 T
  have Gx__law_box := ok_law_box (P := l.prog) (w := w) (base := base) F19 T
  have Gx__law_row := ok_law_row (P := l.prog) (w := w) (base := base) F20 T Gx__law_box F19.kp b19 m19
  have Gx__law_rows := ok_law_rows (P := l.prog) (w := w) (base := base) F21 T Gx__law_row F20.kp b20 m20
  have Gx__law_wish := ok_law_wish (P := l.prog) (w := w) (base := base) F22 T Gx__law_box F19.kp b19 m19 Gx_ways_of F2.kp b2 m2
  have Gx__law_ways := ok_law_ways (P := l.prog) (w := w) (base := base) F23 T
  have Gx__law_bad := ok_law_bad (P := l.prog) (w := w) (base := base) F24 T Gx__law_ways F23.kp b23 m23
  have Gx_widened := ok_widened (P := l.prog) (w := w) (base := base) F16 T Gx_check_rows F11.kp b11 m11 Gx_check_wishes F15.kp b15 m15
  have Gx__law_told := ok_law_told (P := l.prog) (w := w) (base := base) F25 T Gx_widened F16.kp b16 m16 Gx_check_wishes F15.kp b15 m15 YX
  exact ok_law F26 T Gx__law_stream F18.kp b18 m18 Gx__law_cell_at F17.kp b17 m17 Gx__law_rows F21.kp b21 m21 Gx__law_wish F22.kp b22 m22 Gx__law_bad F24.kp b24 m24 Gx__law_told F25.kp b25 m25 Gx_check_wishes F15.kp b15 m15
theorem walk {l : PySem.W.OpenLaw} {q : Program} {loose : List Str} {XP : (Str → Option Value) → Heap → Prop} {YP : World → Heap → Prop} {d : DefRec} {K : Params → PySem.W.Frag} (hn : l.most = some 63) (hdf : d.params.defaults = [])
    (hY : ∀ (w : World) (h : Heap), YP w h → (K w.params).In h)
    (F : ∀ (w : World) (mg : Str → Option Value) (fa : Addr) (h : Heap), (K w.params).In h → h.Ns mainGlobals mg → mg d.name = some (.ref fa) →
      ∃ fd : FuncData, (∀ (s : Shared) (u : Value), BindsTo s fd ⟨[u], []⟩ [("_law_script", u)]) ∧ ∀ base : Heap, (K w.params).In base → base.Ns mainGlobals mg → FnOk l.prog w (K w.params) mg base CX0 10 fa fd ["_law_script"] (spLaw (K := K w.params))) :
    PySem.W.WalkO q loose XP YP l.row.toRowW d [] (fun f vs => PySem.call f vs) :=
  L2.walk_of (n := 63) (k := 10) (x := "_law_script") (CX := fun _ => CX0) (sp := fun w => spLaw (K := K w.params)) hn (by decide) hdf ⟨rfl, by decide, by decide⟩ hY F (fun _ _ a ns hl _ hS => ⟨a, ns, rfl, hS, hl, fun _ => rfl⟩) fun _ _ _ _ _ z => z
end My
open PySem PySem.W PyProof.Rows
set_option maxRecDepth 100000 in
set_option maxHeartbeats 0 in
theorem PySem.Challenge.cw_widenrows_k41_what_is_no_wish_holds : PySem.Challenge.rw_widenrows_k41_what_is_no_wish.Holds := by
  w_on; o_law; k_head; (case hw => w_witness2)
  k_fill
  refine My.walk (l := PySem.Challenge.rw_widenrows_k41_what_is_no_wish) rfl rfl (fun w h Y => PySem.W.kIn_of Y) ?F
  case F =>
    intro w mg fa h KX G hmg
    refine' My.all_mk KX G hmg ?a0 ?l0 ?c0 ?k0 ?a1 ?l1 ?c1 ?k1 ?a2 ?l2 ?c2 ?k2 ?a3 ?l3 ?c3 ?k3 ?a4 ?l4 ?c4 ?k4 ?a5 ?l5 ?c5 ?k5 ?a6 ?l6 ?c6 ?k6 ?a7 ?l7 ?c7 ?k7 ?a8 ?l8 ?c8 ?k8 ?a9 ?l9 ?c9 ?k9 ?a10 ?l10 ?c10 ?k10 ?a11 ?l11 ?c11 ?k11 ?a12 ?l12 ?c12 ?k12 ?a13 ?l13 ?c13 ?k13 ?a14 ?l14 ?c14 ?k14 ?a15 ?l15 ?c15 ?k15 ?a16 ?l16 ?c16 ?k16 ?a17 ?l17 ?c17 ?k17 ?a18 ?l18 ?c18 ?k18 ?a19 ?l19 ?c19 ?k19 ?a20 ?l20 ?c20 ?k20 ?a21 ?l21 ?c21 ?k21 ?a22 ?l22 ?c22 ?k22 ?a23 ?l23 ?c23 ?k23 ?a24 ?l24 ?c24 ?k24 ?a25 ?l25 ?c25 ?k25 ?a26 ?l26 ?c26 ?k26 ?z_len ?z_list ?z_tuple ?z_int ?z_bool ?z_str ?z_dict ?z_isinstance ?z_enumerate ?z_range ?z_min ?z_max ?z_all ?z_zip ?z_sorted ?z_set ?z_abs ?z_ValueError ?aNOT_GOING_ON ?lNOT_GOING_ON ?aMOST_ROWS ?aMOST_TARGETS ?aBOUNDS ?lBOUNDS ?kBOUNDS ?oBOUNDS ?eBOUNDS0 ?lBOUNDS0 ?eBOUNDS1 ?lBOUNDS1 ?eBOUNDS2 ?lBOUNDS2 ?eBOUNDS3 ?lBOUNDS3 ?eBOUNDS4 ?lBOUNDS4 ?eBOUNDS5 ?lBOUNDS5 ?aPARTS ?lPARTS ?kPARTS ?oPARTS ?ePARTS0 ?lPARTS0 ?ePARTS1 ?lPARTS1 ?ePARTS2 ?lPARTS2 ?ePARTS3 ?lPARTS3 ?ePARTS4 ?lPARTS4 ?ePARTS5 ?lPARTS5 ?ePARTS6 ?lPARTS6 ?ePARTS7 ?lPARTS7 ?ePARTS8 ?lPARTS8 ?ePARTS9 ?lPARTS9 ?ePARTS10 ?lPARTS10 ?ePARTS11 ?lPARTS11 ?ePARTS12 ?lPARTS12 ?ePARTS13 ?lPARTS13 ?ePARTS14 ?lPARTS14 ?ePARTS15 ?lPARTS15 ?ePARTS16 ?lPARTS16 ?ePARTS17 ?lPARTS17 ?ePARTS18 ?lPARTS18 ?ePARTS19 ?lPARTS19 ?xPARTS0 ?aMOST_WISHES ?aPLACES ?lPLACES ?kPLACES ?oPLACES ?ePLACES0 ?ePLACES1 ?ePLACES2 ?xPLACES0 ?xPLACES1 ?aWHATS ?lWHATS ?kWHATS ?oWHATS ?eWHATS0 ?lWHATS0 ?eWHATS1 ?lWHATS1 ?eWHATS2 ?lWHATS2 ?xWHATS0 ?xNoRows ?xNoWish ?xRowError ?xEnded ?xNoFree ?xNoLayout ?xNoLine ?xNoPaper ?xNoText ?xNoUnits ?xTooMuch ?agI ?igI ?lgI ?cgI ?kgI ?xlk ?xq ?xrt ?xsa ?xna ?xnt ?xhd ?xga ?xgh ?xcl ?xgt ?xtk ?xob ?xbx ?xci ?xsg ?xrr ?xfi ?xkc ?xexm ?xown ?xval ?agI1 ?igI1 ?lgI1 ?cgI1 ?kgI1 ?xlk1 ?xq1 ?xrt1 ?xsa1 ?xna1 ?xnt1 ?xhd1 ?xga1 ?xgh1 ?xcl1 ?xgt1 ?xtk1 ?xob1 ?xbx1 ?xci1 ?xsg1 ?xrr1 ?xfi1 ?xkc1 ?xexm1 ?xown1 ?xval1 ?kNoRows_Ended ?kNoRows_NoFree ?kNoRows_NoLayout ?kNoRows_NoLine ?kNoRows_NoPaper ?kNoRows_NoText ?kNoRows_NoUnits ?kNoRows_TooMuch ?kNoRows_NoWish ?kNoWish_Ended ?kNoWish_NoFree ?kNoWish_NoLayout ?kNoWish_NoLine ?kNoWish_NoPaper ?kNoWish_NoText ?kNoWish_NoUnits ?kNoWish_TooMuch ?kNoWish_NoRows
    (case a0 => k_is)
    (case l0 => k_is)
    (case c0 => k_is)
    (case k0 => k_is)
    (case a1 => k_is)
    (case l1 => k_is)
    (case c1 => k_is)
    (case k1 => k_is)
    (case a2 => k_is)
    (case l2 => k_is)
    (case c2 => k_is)
    (case k2 => k_is)
    (case a3 => k_is)
    (case l3 => k_is)
    (case c3 => k_is)
    (case k3 => k_is)
    (case a4 => k_is)
    (case l4 => k_is)
    (case c4 => k_is)
    (case k4 => k_is)
    (case a5 => k_is)
    (case l5 => k_is)
    (case c5 => k_is)
    (case k5 => k_is)
    (case a6 => k_is)
    (case l6 => k_is)
    (case c6 => k_is)
    (case k6 => k_is)
    (case a7 => k_is)
    (case l7 => k_is)
    (case c7 => k_is)
    (case k7 => k_is)
    (case a8 => k_is)
    (case l8 => k_is)
    (case c8 => k_is)
    (case k8 => k_is)
    (case a9 => k_is)
    (case l9 => k_is)
    (case c9 => k_is)
    (case k9 => k_is)
    (case a10 => k_is)
    (case l10 => k_is)
    (case c10 => k_is)
    (case k10 => k_is)
    (case a11 => k_is)
    (case l11 => k_is)
    (case c11 => k_is)
    (case k11 => k_is)
    (case a12 => k_is)
    (case l12 => k_is)
    (case c12 => k_is)
    (case k12 => k_is)
    (case a13 => k_is)
    (case l13 => k_is)
    (case c13 => k_is)
    (case k13 => k_is)
    (case a14 => k_is)
    (case l14 => k_is)
    (case c14 => k_is)
    (case k14 => k_is)
    (case a15 => k_is)
    (case l15 => k_is)
    (case c15 => k_is)
    (case k15 => k_is)
    (case a16 => k_is)
    (case l16 => k_is)
    (case c16 => k_is)
    (case k16 => k_is)
    (case a17 => k_is)
    (case l17 => k_is)
    (case c17 => k_is)
    (case k17 => k_is)
    (case a18 => k_is)
    (case l18 => k_is)
    (case c18 => k_is)
    (case k18 => k_is)
    (case a19 => k_is)
    (case l19 => k_is)
    (case c19 => k_is)
    (case k19 => k_is)
    (case a20 => k_is)
    (case l20 => k_is)
    (case c20 => k_is)
    (case k20 => k_is)
    (case a21 => k_is)
    (case l21 => k_is)
    (case c21 => k_is)
    (case k21 => k_is)
    (case a22 => k_is)
    (case l22 => k_is)
    (case c22 => k_is)
    (case k22 => k_is)
    (case a23 => k_is)
    (case l23 => k_is)
    (case c23 => k_is)
    (case k23 => k_is)
    (case a24 => k_is)
    (case l24 => k_is)
    (case c24 => k_is)
    (case k24 => k_is)
    (case a25 => k_is)
    (case l25 => k_is)
    (case c25 => k_is)
    (case k25 => k_is)
    (case a26 => k_is)
    (case l26 => k_is)
    (case c26 => k_is)
    (case k26 => k_is)
    (case z_len => k_is)
    (case z_list => k_is)
    (case z_tuple => k_is)
    (case z_int => k_is)
    (case z_bool => k_is)
    (case z_str => k_is)
    (case z_dict => k_is)
    (case z_isinstance => k_is)
    (case z_enumerate => k_is)
    (case z_range => k_is)
    (case z_min => k_is)
    (case z_max => k_is)
    (case z_all => k_is)
    (case z_zip => k_is)
    (case z_sorted => k_is)
    (case z_set => k_is)
    (case z_abs => k_is)
    (case z_ValueError => k_is)
    (case aNOT_GOING_ON => k_is)
    (case lNOT_GOING_ON => k_is)
    (case aMOST_ROWS => k_is)
    (case aMOST_TARGETS => k_is)
    (case aBOUNDS => k_is)
    (case lBOUNDS => k_is)
    (case kBOUNDS => k_keys)
    (case oBOUNDS => first | exact rfl | decide | k_is)
    (case eBOUNDS0 => k_is)
    (case lBOUNDS0 => k_is)
    (case eBOUNDS1 => k_is)
    (case lBOUNDS1 => k_is)
    (case eBOUNDS2 => k_is)
    (case lBOUNDS2 => k_is)
    (case eBOUNDS3 => k_is)
    (case lBOUNDS3 => k_is)
    (case eBOUNDS4 => k_is)
    (case lBOUNDS4 => k_is)
    (case eBOUNDS5 => k_is)
    (case lBOUNDS5 => k_is)
    (case aPARTS => k_is)
    (case lPARTS => k_is)
    (case kPARTS => k_keys)
    (case oPARTS => first | exact rfl | decide | k_is)
    (case ePARTS0 => k_is)
    (case lPARTS0 => k_is)
    (case ePARTS1 => k_is)
    (case lPARTS1 => k_is)
    (case ePARTS2 => k_is)
    (case lPARTS2 => k_is)
    (case ePARTS3 => k_is)
    (case lPARTS3 => k_is)
    (case ePARTS4 => k_is)
    (case lPARTS4 => k_is)
    (case ePARTS5 => k_is)
    (case lPARTS5 => k_is)
    (case ePARTS6 => k_is)
    (case lPARTS6 => k_is)
    (case ePARTS7 => k_is)
    (case lPARTS7 => k_is)
    (case ePARTS8 => k_is)
    (case lPARTS8 => k_is)
    (case ePARTS9 => k_is)
    (case lPARTS9 => k_is)
    (case ePARTS10 => k_is)
    (case lPARTS10 => k_is)
    (case ePARTS11 => k_is)
    (case lPARTS11 => k_is)
    (case ePARTS12 => k_is)
    (case lPARTS12 => k_is)
    (case ePARTS13 => k_is)
    (case lPARTS13 => k_is)
    (case ePARTS14 => k_is)
    (case lPARTS14 => k_is)
    (case ePARTS15 => k_is)
    (case lPARTS15 => k_is)
    (case ePARTS16 => k_is)
    (case lPARTS16 => k_is)
    (case ePARTS17 => k_is)
    (case lPARTS17 => k_is)
    (case ePARTS18 => k_is)
    (case lPARTS18 => k_is)
    (case ePARTS19 => k_is)
    (case lPARTS19 => k_is)
    (case xPARTS0 => k_is)
    (case aMOST_WISHES => k_is)
    (case aPLACES => k_is)
    (case lPLACES => k_is)
    (case kPLACES => k_keys)
    (case oPLACES => first | exact rfl | decide | k_is)
    (case ePLACES0 => k_is)
    (case ePLACES1 => k_is)
    (case ePLACES2 => k_is)
    (case xPLACES0 => k_is)
    (case xPLACES1 => k_is)
    (case aWHATS => k_is)
    (case lWHATS => k_is)
    (case kWHATS => k_keys)
    (case oWHATS => first | exact rfl | decide | k_is)
    (case eWHATS0 => k_is)
    (case lWHATS0 => k_is)
    (case eWHATS1 => k_is)
    (case lWHATS1 => k_is)
    (case eWHATS2 => k_is)
    (case lWHATS2 => k_is)
    (case xWHATS0 => k_is)
    (case xNoRows => k_is)
    (case xNoWish => k_is)
    (case xRowError => k_is)
    (case xEnded => k_is)
    (case xNoFree => k_is)
    (case xNoLayout => k_is)
    (case xNoLine => k_is)
    (case xNoPaper => k_is)
    (case xNoText => k_is)
    (case xNoUnits => k_is)
    (case xTooMuch => k_is)
    (case agI => k_is)
    (case igI => k_is)
    (case lgI => k_is)
    (case cgI => k_is)
    (case kgI => k_is)
    (case xlk => k_is)
    (case xq => k_exc)
    (case xrt => k_is)
    (case xsa => k_is)
    (case xna => k_is)
    (case xnt => k_is)
    (case xhd => k_is)
    (case xga => k_is)
    (case xgh => k_is)
    (case xcl => k_is)
    (case xgt => k_is)
    (case xtk => k_is)
    (case xob => k_is)
    (case xbx => k_is)
    (case xci => k_is)
    (case xsg => k_is)
    (case xrr => k_is)
    (case xfi => k_is)
    (case xkc => k_is)
    (case xexm => kts_exm)
    (case xown => kit_is)
    (case xval => kit_is)
    (case agI1 => k_is)
    (case igI1 => k_is)
    (case lgI1 => k_is)
    (case cgI1 => k_is)
    (case kgI1 => k_is)
    (case xlk1 => k_is)
    (case xq1 => k_exc)
    (case xrt1 => k_is)
    (case xsa1 => k_is)
    (case xna1 => k_is)
    (case xnt1 => k_is)
    (case xhd1 => k_is)
    (case xga1 => k_is)
    (case xgh1 => k_is)
    (case xcl1 => k_is)
    (case xgt1 => k_is)
    (case xtk1 => k_is)
    (case xob1 => k_is)
    (case xbx1 => k_is)
    (case xci1 => k_is)
    (case xsg1 => k_is)
    (case xrr1 => k_is)
    (case xfi1 => k_is)
    (case xkc1 => k_is)
    (case xexm1 => kts_exm)
    (case xown1 => kit_is)
    (case xval1 => kit_is)
    (case kNoRows_Ended => kit_is)
    (case kNoRows_NoFree => kit_is)
    (case kNoRows_NoLayout => kit_is)
    (case kNoRows_NoLine => kit_is)
    (case kNoRows_NoPaper => kit_is)
    (case kNoRows_NoText => kit_is)
    (case kNoRows_NoUnits => kit_is)
    (case kNoRows_TooMuch => kit_is)
    (case kNoRows_NoWish => kit_is)
    (case kNoWish_Ended => kit_is)
    (case kNoWish_NoFree => kit_is)
    (case kNoWish_NoLayout => kit_is)
    (case kNoWish_NoLine => kit_is)
    (case kNoWish_NoPaper => kit_is)
    (case kNoWish_NoText => kit_is)
    (case kNoWish_NoUnits => kit_is)
    (case kNoWish_TooMuch => kit_is)
    (case kNoWish_NoRows => kit_is)
#print axioms PySem.Challenge.cw_widenrows_k41_what_is_no_wish_holds

