import PyProof.Rows.All
import Wide.All
import OpenK.AllK
import Wide.FinOn
import Lean
import PyProof.EqAt
import PyProof.EqKinds
import PyProof.TupleCall
import PyProof.NeKinds
import PyProof.ListRange
import KE.KDictSum
import Wide.Seal
import PyProof.EnumIter
import PyProof.EnumFor
import PyProof.EnumMake
import PyProof.EnumStmt
import PyProof.ConsumeWalk
import KE.KPairComp
import PyProof.DictItemsLoops
import KE.KEqDict
import PyProof.AttrMissSeq
import PyProof.CollectWalk
import OpenK.KTop
import PyProof.TupleOps
import PyProof.ListMulRoad
import PyProof.FactsAll.tuple_2
import PyProof.ZipIter
import PyProof.TupleIter
import PyProof.WalksMore
import KE.KTurns
import PyProof.StationsW
import PyProof.Rows.OwnQ
import OpenK.KOwn
import KE.KTryMore
import PyProof.NsDelKeeps
import PyProof.ExcArgsOwn
import PyProof.ExcAttrAll.ValueError
import PyProof.InstStoreFacts
import PyProof.ExcBaseAll.ValueError
import PyProof.Rows.FStr
import OpenK.KCls
import KE.KIntText
import PyProof.StrWalks
import PyProof.Draws
import PyProof.StrBlock2
import PySem.Challenge.RW_widenrows_k05_texts_bent
set_option Elab.async false
set_option linter.all false
set_option maxRecDepth 100000
/-! THE HAND LAYER, for ints, bools, texts, own classes, LISTS and tuples (index, slices, in, append, pop ..), calls, loops. Paste it whole ahead of your own text; what your proof does not reach may be deleted. -/
namespace L2
open PySem PySem.Spec PyProof.Rows

/-- a key: an int or a str -/
abbrev Key := Sum Int Str
def keyIs : Key → Value → Bool
  | .inl k, v => Value.isInt k v
  | .inr x, v => Value.isStrOf x v
def keyH (w : World) : Key → Int
  | .inl k => hashInt k
  | .inr x => hashStr w x
theorem keyIs_shape : ∀ {k : Key} {v : Value}, keyIs k v = true → (∃ i t, k = Sum.inl i ∧ v = Value.int i t) ∨ (∃ x t, k = Sum.inr x ∧ v = Value.str x t)
  | .inl i, v, h => by
    obtain ⟨t, e⟩ := Value.isInt_shape (k := i) (v := v) h
    exact .inl ⟨i, t, rfl, e⟩
  | .inr x, v, h => by
    obtain ⟨t, e⟩ := Value.isStrOf_shape (x := x) (v := v) h
    exact .inr ⟨x, t, rfl, e⟩
theorem key_ll (a b : Int) : decide ((Sum.inl a : Key) = Sum.inl b) = (a == b) := by
  by_cases e : a = b
  · subst e; simp
  · have h : ¬ (Sum.inl a : Key) = Sum.inl b := fun q => e (Sum.inl.inj q)
    rw [decide_eq_false h]
    exact (beq_eq_false_iff_ne.mpr e).symm
theorem key_rr (a b : Str) : decide ((Sum.inr a : Key) = Sum.inr b) = decide (a = b) := by
  by_cases e : a = b
  · subst e; simp
  · have h : ¬ (Sum.inr a : Key) = Sum.inr b := fun q => e (Sum.inr.inj q)
    rw [decide_eq_false h, decide_eq_false e]
theorem key_lr (a : Int) (b : Str) : decide ((Sum.inl a : Key) = Sum.inr b) = false := decide_eq_false (fun q => nomatch q)
theorem key_rl (a : Str) (b : Int) : decide ((Sum.inr a : Key) = Sum.inl b) = false := decide_eq_false (fun q => nomatch q)

def mixKind (prog : Program) (w : World) : PySem.KeyKind prog w Key where
  is := keyIs
  hash := keyH w
  inj := fun v a b ha hb => by
    rcases keyIs_shape ha with ⟨i, t, rfl, rfl⟩ | ⟨x, t, rfl, rfl⟩
    · rcases keyIs_shape hb with ⟨j, u, rfl, e⟩ | ⟨y, u, rfl, e⟩
      · injection e with e1 _; rw [e1]
      · exact nomatch e
    · rcases keyIs_shape hb with ⟨j, u, rfl, e⟩ | ⟨y, u, rfl, e⟩
      · exact nomatch e
      · injection e with e1 _; rw [e1]
  byValue := fun k v h => by
    rcases keyIs_shape h with ⟨i, t, rfl, rfl⟩ | ⟨x, t, rfl, rfl⟩ <;> rfl
  pyHash := fun hv h => by
    rcases keyIs_shape hv with ⟨i, t, rfl, rfl⟩ | ⟨x, t, rfl, rfl⟩
    · exact wpAny_pyHash_int h
    · exact wpAny_pyHash_str h
  eqBool := fun hu hv h => by
    rcases keyIs_shape hu with ⟨i, t, rfl, rfl⟩ | ⟨x, t, rfl, rfl⟩
    · rcases keyIs_shape hv with ⟨j, u, rfl, rfl⟩ | ⟨y, u, rfl, rfl⟩
      · rw [key_ll] at h; exact wpAny_eqBool_int h
      · rw [key_lr] at h; exact SeqAt.EqAt.int_str i t y u _ _ _ _ h
    · rcases keyIs_shape hv with ⟨j, u, rfl, rfl⟩ | ⟨y, u, rfl, rfl⟩
      · rw [key_rl] at h; exact SeqAt.EqAt.str_int x t j u _ _ _ _ h
      · rw [key_rr] at h; exact wpAny_eqBool_str h
  «strs» := fun k x t v h => by
    rcases keyIs_shape h with ⟨i, u, rfl, e⟩ | ⟨y, u, rfl, e⟩
    · exact nomatch e
    · injection e with e1 _
      subst e1
      cases v <;> rfl

end L2

namespace L2
open PySem PySem.Spec PyProof.Rows

/-- a value, without the heap -/
inductive V where
  | non | bl (b : Bool) | int (i : Int) | str (x : Str) | byt (b : Array UInt8) | flt (b : UInt64) | ref (a : Addr) | ty (n : String)
  deriving DecidableEq

def RelV : V → Value → Prop
  | .non, u => u = Value.none
  | .bl b, u => u = Value.bool b
  | .int i, u => ∃ t, u = Value.int i t
  | .str x, u => ∃ t, u = Value.str x t
  | .byt b, u => ∃ t, u = Value.bytes b t
  | .flt b, u => ∃ t, u = Value.float b t
  | .ref a, u => u = Value.ref a
  | .ty n, u => u = Value.type n

abbrev Vals : List V → List Value → Prop := Paired RelV
theorem Vals.length {xs : List V} {us : List Value} (r : Vals xs us) : xs.length = us.length := Paired.length r
theorem Vals.get : ∀ {xs : List V} {us : List Value} {i : Nat} {x : V}, Vals xs us → xs[i]? = some x → ∃ u, us[i]? = some u ∧ RelV x u
  | _, _, _, _, .nil, e => by simp at e
  | _, _, 0, _, .cons r _, e => by simp at e; subst e; exact ⟨_, rfl, r⟩
  | _, _, i + 1, x, .cons _ t, e => by
    obtain ⟨u, h1, h2⟩ := Vals.get (i := i) (x := x) t (by simpa using e)
    exact ⟨u, by simpa using h1, h2⟩
theorem Vals.set {x : V} {u : Value} (r : RelV x u) : ∀ {xs : List V} {us : List Value} (i : Nat), Vals xs us → Vals (xs.set i x) (us.set i u)
  | _, _, _, .nil => .nil
  | _, _, 0, .cons _ t => .cons r t
  | _, _, i + 1, .cons q t => .cons q (Vals.set r i t)
theorem Vals.append : ∀ {xs ys : List V} {us ws : List Value}, Vals xs us → Vals ys ws → Vals (xs ++ ys) (us ++ ws)
  | _, _, _, _, .nil, s => s
  | _, _, _, _, .cons r t, s => .cons r (Vals.append t s)
theorem Vals.take : ∀ {xs : List V} {us : List Value} (n : Nat), Vals xs us → Vals (xs.take n) (us.take n)
  | _, _, 0, _ => .nil
  | _, _, _ + 1, .nil => .nil
  | _, _, n + 1, .cons r t => .cons r (Vals.take n t)
theorem Vals.drop : ∀ {xs : List V} {us : List Value} (n : Nat), Vals xs us → Vals (xs.drop n) (us.drop n)
  | _, _, 0, r => r
  | _, _, _ + 1, .nil => .nil
  | _, _, n + 1, .cons _ t => Vals.drop n t

def RelO : Option V → Option Value → Prop
  | some v, some u => RelV v u
  | none, none => True
  | _, _ => False
def KV {κ : Type} : List (κ × V) → List (κ × Value) → Prop := Paired fun (p : κ × V) (q : κ × Value) => p.1 = q.1 ∧ RelV p.2 q.2

/-- a key of a dict (00_mix): an int or a text -/
def kV : Key → V
  | .inl i => .int i
  | .inr x => .str x

/-- what stands at a tracked address -/
inductive HO where
  /-- a list -/
  | lst (xs : List V)
  /-- a tuple (never changes) -/
  | tup (xs : List V)
  /-- a dict whose keys are ints and texts; one whose keys are tuples of ints and texts (the empty one is both) -/
  | dK (kvs : List (Key × V)) | dT (kvs : List (List Key × V))
  /-- a set of ints: its members, its size -/
  | set (S : Int → Bool) (n : Nat)
  /-- an instance of the class at C, its dict at dx, its attributes -/
  | ins (C dx : Addr) (fs : List (Str × V))
  /-- the dict of the instance at x -/
  | own (x : Addr)
  /-- the dict of an exception -/
  | xd (fs : List (Str × V))
  /-- a bound method, f of x -/
  | met (f x : Addr)
  /-- a range object lo, lo + 1, .. below hi -/
  | rng (lo hi : Int)
  /-- a thing that is known to the object (the script; a dict while a loop walks it): read, never written while it is so -/
  | frz (o : Obj) (u : HO)
  /-- a code object's table -/
  | tbl (ps : Array Value)
  /-- any other thing, by what is true of its one object (a def of one's own: SetO a S n := HO.ext fun h => ..) -/
  | ext (φ : Heap → Prop)

abbrev Hp := Addr → Option HO
def upd (H : Hp) (a : Addr) (o : HO) : Hp := fun b => if b = a then some o else H b
theorem upd_same {H : Hp} {a : Addr} {o : HO} : upd H a o a = some o := by unfold upd; rw [if_pos rfl]
theorem upd_ne {H : Hp} {a b : Addr} {o : HO} (h : b ≠ a) : upd H a o b = H b := by unfold upd; rw [if_neg h]
theorem ne_of_none {H : Hp} {a b : Addr} {o : HO} (h : H a = some o) (h' : H b = none) : a ≠ b := by
  intro e; subst e; rw [h] at h'; cases h'

section
variable (P : Program) (w : World)
def ObjOk (H : Hp) (h : Heap) (a : Addr) : HO → Prop
  | .lst xs => xs.length ≤ sizeLine ∧ ∃ (its : List Value) (n : Nat), Vals xs its ∧ h.get? a = some { cls := .type "list", data := .seq its.toArray n }
  | .tup xs => xs.length ≤ sizeLine ∧ ∃ its : List Value, Vals xs its ∧ IsTup h a its.toArray
  | .dK kvs => kvs.length ≤ sizeLine ∧ (a == sysModules) = false ∧ ∃ vs, KV kvs vs ∧ h.DictOf (mixKind P w) a vs
  | .dT kvs => kvs.length ≤ sizeLine ∧ (a == sysModules) = false ∧ ∃ xs : List (List Key × Addr × Value),
      Paired (fun (p : List Key × V) (q : List Key × Addr × Value) => p.1 = q.1 ∧ H q.2.1 = some (.tup (p.1.map kV)) ∧ RelV p.2 q.2.2) kvs xs ∧
      ∃ o es ep, h.get? a = some o ∧ o.ExactDict ∧ o.data = .dict es ep ∧ es.toList = xs.map (entryOfKey (tupleKind (mixKind P w))) ∧ (xs.map (·.1)).Nodup
  | .set S n => h.SetOf (intKind P w) a S n
  | .ins C dx fs => H dx = some (.own a) ∧ fs.length ≤ 1000 ∧ dx ≠ a ∧ h.get? a = some (PySem.W.instObj C dx) ∧
      ∃ mA, h.Ns1 dx mA ∧ (∀ f, RelO (fs.lookup f) (mA f)) ∧ PySem.Within mA (fs.map (·.1))
  | .own _ => ∃ o, h.get? a = some o
  | .xd fs => ∃ mA, h.Ns1 a mA ∧ ∀ f, RelO (fs.lookup f) (mA f)
  | .rng lo hi => ∃ t u v, h.get? a = some { cls := .type "range", data := .fields #[.int lo t, .int hi u, .int 1 v] }
  | .frz o u => h.get? a = some o ∧ ObjOk H h a u
  | .tbl ps => h.get? a = some { cls := .none, data := .fields ps }
  | .met f x => h.get? a = some (PySem.W.methodObj (.ref f) (.ref x))
  | .ext φ => φ h ∧ (∃ o, h.get? a = some o) ∧ ∀ h1 h2 : Heap, φ h1 → (∀ o, h1.get? a = some o → h2.get? a = some o) → φ h2
/-- the abstract heap is held -/
def HOk (H : Hp) (h : Heap) : Prop := ∀ a o, H a = some o → ObjOk P w H h a o
end

section
variable {P : Program} {w : World} {H H' : Hp} {h h' : Heap} {a : Addr} {o : HO}
theorem ObjOk.lt (x : ObjOk P w H h a o) : a < h.objs.size := by
  cases o with
  | lst xs => obtain ⟨_, _, _, _, e⟩ := x; exact Heap.lt_size e
  | tup xs => obtain ⟨_, _, _, p⟩ := x; exact p.lt
  | dK kvs => obtain ⟨_, _, _, _, o, _, _, e, _⟩ := x; exact Heap.lt_size e
  | dT kvs => obtain ⟨_, _, _, _, o, _, _, e, _⟩ := x; exact Heap.lt_size e
  | set S n => obtain ⟨o, _, _, _, e, _⟩ := x; exact Heap.lt_size e
  | ins C dx fs => obtain ⟨_, _, _, e, _⟩ := x; exact Heap.lt_size e
  | own y => obtain ⟨_, e⟩ := x; exact Heap.lt_size e
  | xd fs => obtain ⟨_, ⟨_, _, _, e, _⟩, _⟩ := x; exact Heap.lt_size e
  | rng lo hi => obtain ⟨_, _, _, e⟩ := x; exact Heap.lt_size e
  | frz ob u => obtain ⟨e, _⟩ := x; exact Heap.lt_size e
  | tbl ps => exact Heap.lt_size (show h.get? a = some _ from x)
  | met f y => exact Heap.lt_size (show h.get? a = some _ from x)
  | ext φ => obtain ⟨_, ⟨_, e⟩, _⟩ := x; exact Heap.lt_size e
theorem Paired.mapP {α β : Type} {F G : α → β → Prop} : ∀ {l₁ : List α} {l₂ : List β}, Paired F l₁ l₂ → (∀ a b, F a b → G a b) → Paired G l₁ l₂
  | _, _, .nil, _ => .nil
  | _, _, .cons r t, f => .cons (f _ _ r) (Paired.mapP t f)
/-- what an object's description leans on: its own object, its own dict, the tuples -/
theorem ObjOk.stay (x : ObjOk P w H h a o) (k : ∀ b u, (b = a ∨ H b = some (.own a)) → h.get? b = some u → h'.get? b = some u)
    (ho : ∀ b, H b = some (.own a) → H' b = some (.own a)) (ht : ∀ b xs, H b = some (.tup xs) → H' b = some (.tup xs)) : ObjOk P w H' h' a o := by
  induction o with
  | lst xs => obtain ⟨z, its, n, r, e⟩ := x; exact ⟨z, its, n, r, k _ _ (.inl rfl) e⟩
  | tup xs => obtain ⟨z, its, r, ob, e, c⟩ := x; exact ⟨z, its, r, ob, k _ _ (.inl rfl) e, c⟩
  | dK kvs => obtain ⟨z, y, vs, r, ob, es, ep, e, c⟩ := x; exact ⟨z, y, vs, r, ob, es, ep, k _ _ (.inl rfl) e, c⟩
  | dT kvs =>
    obtain ⟨z, y, xs, r, ob, es, ep, e, c⟩ := x
    exact ⟨z, y, xs, Paired.mapP r fun p q z => ⟨z.1, ht _ _ z.2.1, z.2.2⟩, ob, es, ep, k _ _ (.inl rfl) e, c⟩
  | set S n => obtain ⟨ob, es, ep, t, e, c⟩ := x; exact ⟨ob, es, ep, t, k _ _ (.inl rfl) e, c⟩
  | ins C dx fs =>
    obtain ⟨d, z, ne, e, mA, ⟨od, es, ep, e2, c⟩, r⟩ := x
    exact ⟨ho _ d, z, ne, k _ _ (.inl rfl) e, mA, ⟨od, es, ep, k _ _ (.inr d) e2, c⟩, r⟩
  | own y => obtain ⟨ob, e⟩ := x; exact ⟨ob, k _ _ (.inl rfl) e⟩
  | xd fs => obtain ⟨mA, ⟨od, es, ep, e, c⟩, r⟩ := x; exact ⟨mA, ⟨od, es, ep, k _ _ (.inl rfl) e, c⟩, r⟩
  | rng lo hi => obtain ⟨t, u, v, e⟩ := x; exact ⟨t, u, v, k _ _ (.inl rfl) e⟩
  | frz ob u ih => obtain ⟨e, q⟩ := x; exact ⟨k _ _ (.inl rfl) e, ih q⟩
  | tbl ps =>
    have e : h.get? a = some { cls := .none, data := .fields ps } := x
    show h'.get? a = some { cls := .none, data := .fields ps }
    exact k a _ (.inl rfl) e
  | met f y =>
    have e : h.get? a = some (PySem.W.methodObj (.ref f) (.ref y)) := x
    show h'.get? a = some (PySem.W.methodObj (.ref f) (.ref y))
    exact k a _ (.inl rfl) e
  | ext φ => obtain ⟨p, ⟨o, e⟩, st⟩ := x; exact ⟨st _ _ p fun o q => k _ _ (.inl rfl) q, ⟨o, k _ _ (.inl rfl) e⟩, st⟩
theorem HOk.lt (x : HOk P w H h) (e : H a = some o) : a < h.objs.size := (x a o e).lt
theorem HOk.fresh (x : HOk P w H h) (e : h.objs.size ≤ a) : H a = none := by
  cases q : H a with
  | none => rfl
  | some u => exact absurd (Nat.lt_of_lt_of_le (x.lt q) e) (Nat.lt_irrefl _)
/-- every object of the heap is kept -/
theorem HOk.kept (x : HOk P w H h) (k : ∀ b u, h.get? b = some u → h'.get? b = some u) : HOk P w H h' := fun a o e =>
  (x a o e).stay (fun b u _ q => k b u q) (fun _ q => q) fun _ _ q => q
/-- a new object is laid and tracked -/
theorem HOk.laid (x : HOk P w H h) (k : ∀ b u, h.get? b = some u → h'.get? b = some u) (hp : h.objs.size ≤ a) (new : ObjOk P w (upd H a o) h' a o) : HOk P w (upd H a o) h' := fun b u e => by
  have hn := x.fresh hp
  by_cases hb : b = a
  · subst hb; rw [upd_same] at e; cases e; exact new
  · rw [upd_ne hb] at e
    exact (x b u e).stay (fun c v _ q => k c v q) (fun c q => by rw [upd_ne (ne_of_none q hn)]; exact q) fun c xs q => by rw [upd_ne (ne_of_none q hn)]; exact q
end

/-- what may be read as u: it is u, or a known u -/
def Rd (H : Hp) (a : Addr) (u : HO) : Prop := H a = some u ∨ ∃ o, H a = some (.frz o u)
theorem Rd.ok {P : Program} {w : World} {H : Hp} {h : Heap} {a : Addr} {u : HO} (r : Rd H a u) (x : HOk P w H h) : ObjOk P w H h a u := by
  rcases r with r | ⟨o, r⟩
  · exact x a u r
  · obtain ⟨_, q⟩ := x a _ r
    exact q
/-- what may be written -/
def Mut : Option HO → Prop
  | some (.lst _) => True
  | some (.dK _) => True
  | some (.dT _) => True
  | some (.set _ _) => True
  | some (.ins _ _ _) => True
  | some (.ext _) => True
  | _ => False
section
variable {P : Program} {w : World} {H : Hp} {h h' : Heap} {x e : Addr} {o' : HO}
/-- the object at e is changed: x itself, or the dict of the instance x -/
theorem HOk.write (ok : HOk P w H h) (mu : Mut (H x)) (he : e = x ∨ H e = some (.own x)) (k : ∀ b u, b ≠ e → h.get? b = some u → h'.get? b = some u) (heo : ∃ u, h'.get? e = some u)
    (new : ObjOk P w (upd H x o') h' x o') : HOk P w (upd H x o') h' := fun b u q => by
  have nown : ∀ c y, H c = some (.own y) → c ≠ x := fun c y r z => by subst z; rw [r] at mu; exact mu
  have ntup : ∀ c xs, H c = some (.tup xs) → c ≠ x := fun c xs r z => by subst z; rw [r] at mu; exact mu
  by_cases hb : b = x
  · subst hb; rw [upd_same] at q; cases q; exact new
  · rw [upd_ne hb] at q
    by_cases hbe : b = e
    · have q' : H b = some (.own x) := by
        rcases he with z | z
        · exact absurd (hbe.trans z) hb
        · rw [hbe]; exact z
      rw [q] at q'; cases q'
      obtain ⟨v, hv⟩ := heo
      exact ⟨v, by rw [hbe]; exact hv⟩
    · refine (ok b u q).stay (fun c v hc r => k c v ?_ r) (fun c r => by rw [upd_ne (nown c b r)]; exact r) fun c xs r => by rw [upd_ne (ntup c xs r)]; exact r
      rcases hc with rfl | hc
      · exact hbe
      · rintro rfl
        rcases he with z | z
        · exact nown c b hc z
        · rw [hc] at z; cases z; exact hb rfl
end

/-! ### kept unless tracked; of the frames at fs (the callers') the slots may change (an exception that passes writes there); of the records at ex (iterators) nothing is said -/
structure Un (fs ex : List Addr) (H H' : Hp) (h h' : Heap) : Prop where
  keep : ∀ b o, h.get? b = some o → H b = none → b ∉ fs → b ∉ ex → h'.get? b = some o
  slot : ∀ b o, h.get? b = some o → H b = none → b ∈ fs → b ∉ ex → ∃ sl, h'.get? b = some { o with slots := sl }
  free : ∀ b o, h.get? b = some o → H b = none → b ∉ ex → H' b = none
  there : ∀ b o, h.get? b = some o → b ∉ ex → ∃ o', h'.get? b = some o'
  tups : ∀ b xs, H b = some (.tup xs) → H' b = some (.tup xs)
  frzs : ∀ b o u, H b = some (.frz o u) → H' b = some (.frz o u)
  tbls : ∀ b ps, H b = some (.tbl ps) → ∃ more, H' b = some (.tbl (ps ++ more))
section
variable {fs fs' ex ex' : List Addr} {H H1 H2 : Hp} {h h1 h2 h' : Heap} {a x e : Addr} {o : HO}
theorem Un.any (u : Un fs ex H H1 h h1) {b : Addr} {ob : Obj} (q : h.get? b = some ob) (n : H b = none) (hx : b ∉ ex) : ∃ sl, h1.get? b = some { ob with slots := sl } := by
  by_cases hb : b ∈ fs
  · exact u.slot b ob q n hb hx
  · exact ⟨ob.slots, u.keep b ob q n hb hx⟩
theorem Un.kept (k : ∀ b u, h.get? b = some u → h'.get? b = some u) : Un fs ex H H h h' :=
  ⟨fun b ob q _ _ _ => k b ob q, fun b ob q _ _ _ => ⟨ob.slots, k b ob q⟩, fun _ _ _ n _ => n, fun b ob q _ => ⟨ob, k b ob q⟩, fun _ _ q => q, fun _ _ _ q => q, fun _ ps q => ⟨#[], by rw [q]; simp⟩⟩
theorem Un.refl : Un fs ex H H h h := Un.kept fun _ _ q => q
theorem Un.laid (k : ∀ b u, h.get? b = some u → h'.get? b = some u) (hp : h.objs.size ≤ a) (hn : H a = none) : Un fs ex H (upd H a o) h h' where
  keep := fun b u q _ _ _ => k b u q
  slot := fun b u q _ _ _ => ⟨u.slots, k b u q⟩
  free := fun b u q n _ => by rw [upd_ne (Nat.ne_of_lt (Nat.lt_of_lt_of_le (Heap.lt_size q) hp))]; exact n
  there := fun b u q _ => ⟨u, k b u q⟩
  tups := fun b xs q => by rw [upd_ne (ne_of_none q hn)]; exact q
  frzs := fun b u xs q => by rw [upd_ne (ne_of_none q hn)]; exact q
  tbls := fun b ps q => ⟨#[], by rw [upd_ne (ne_of_none q hn), q]; simp⟩
theorem Un.write (mu : Mut (H x)) (he : e = x ∨ H e = some (.own x)) (k : ∀ b u, b ≠ e → h.get? b = some u → h'.get? b = some u) (heo : ∃ u, h'.get? e = some u) : Un fs ex H (upd H x o) h h' := by
  have hx : ∀ b, H b = none → b ≠ x := fun b n z => by subst z; rw [n] at mu; exact mu
  have hb : ∀ b, H b = none → b ≠ e := fun b n z => by
    subst z
    rcases he with r | r
    · exact hx b n r
    · rw [n] at r; cases r
  have hm : ∀ b u, H b = some u → ¬ Mut (some u) → b ≠ x := fun b u q nm z => by subst z; rw [q] at mu; exact nm mu
  refine ⟨fun b u q n _ _ => k b u (hb b n) q, fun b u q n _ _ => ⟨u.slots, k b u (hb b n) q⟩, fun b u q n _ => by rw [upd_ne (hx b n)]; exact n, fun b u q _ => ?_,
    fun b xs q => by rw [upd_ne (hm b _ q fun z => z)]; exact q, fun b u xs q => by rw [upd_ne (hm b _ q fun z => z)]; exact q, fun b ps q => ⟨#[], by rw [upd_ne (hm b _ q fun z => z), q]; simp⟩⟩
  by_cases hbe : b = e
  · subst hbe; exact heo
  · exact ⟨u, k b u hbe q⟩
end

/-! ### the heap without what is tracked -/
def trk (h : Heap) (H : Hp) : List Addr := (List.range h.objs.size).filter fun a => (H a).isSome
def hidT (h : Heap) (H : Hp) : Heap := PySem.W.hideAll h (trk h H)
theorem hidT_size (h : Heap) (H : Hp) : (hidT h H).objs.size = h.objs.size := PySem.W.hideAll_size _ _
theorem hidT_get {h : Heap} {H : Hp} {b : Addr} {o : Obj} (e : h.get? b = some o) (n : H b = none) : (hidT h H).get? b = some o :=
  PySem.W.hideAll_get _ e fun hm => by
    have q : (H b).isSome = true := (List.mem_filter.mp hm).2
    rw [n] at q; simp at q
theorem of_hidT {h : Heap} {H : Hp} {b : Addr} {o : Obj} (e : (hidT h H).get? b = some o) : h.get? b = some o ∧ H b = none := by
  have e' : h.get? b = some o := PySem.W.of_hideAll (trk h H) e
  refine ⟨e', ?_⟩
  cases q : H b with
  | none => rfl
  | some x =>
    have hm : b ∈ trk h H := List.mem_filter.mpr ⟨List.mem_range.mpr (Heap.lt_size e'), by simp [q]⟩
    have z : (hidT h H).get? b = none := PySem.W.hideAll_none (trk h H) hm
    rw [z] at e; cases e

/-! ### OpenK's ledger, filled with every new object but one -/
end L2

namespace L2
open PySem PySem.Spec PyProof.Rows

/-- the module's facts, over the base: the heap at the law's entry without what is tracked there -/
structure Mod (K : PySem.W.Frag) (mg : Str → Option Value) (base : Heap) : Prop where
  kin : K.In base
  glob : base.Ns mainGlobals mg
  blt : ∃ mb, base.Ns builtinsNs mb ∧ ∀ x : Str, x ≠ "__name__" → mb x = bootBuiltins x
  nolimit : base.NoLimit

/-- the context: a def's body (or a comprehension's block) running. base: fixed through the whole law; s₀, H₀: the entry; outer: the frames whose slots others may change (a def's callers); stack: all frames that run;
   ex: iterators that were made ahead of the entry and are walked here (a comprehension's); fn: the names whose cells were made at the entry (a def: all; a comprehension's block: its own); calm: not within an except suite; pn: pins that every state bears; xe: what is wanted of an exception that leaves the code -/
structure Cx where
  prog : Program
  w : World
  K : PySem.W.Frag
  mg : Str → Option Value
  base : Heap
  A : Around
  N : List Str
  s₀ : Shared
  H₀ : Hp
  env : Env
  outer : List Env
  stack : List Env
  ex : List Addr
  fn : Str → Bool
  calm : Bool
  pn : List (Addr × Obj)
  xe : Value → Shared → Prop
/-- the callers' frames -/
def frs (l : List Env) : List Addr := l.filterMap (·.frame)
abbrev Cx.fs (X : Cx) : List Addr := frs X.outer

def Vis (sc : Scope) (x : Str) : Prop := sc.names.lookup x = some .local ∨ sc.names.lookup x = some .cell ∨ sc.names.lookup x = some .free
def Loc (sc : Scope) (x : Str) : Prop := sc.names.lookup x = some .local ∨ sc.names.lookup x = some .cell
def Look (env : Env) (h : Heap) (m : Str → Option Value) (x : Str) (u : Value) : Prop :=
  (env.kindOf x = some .local ∧ m x = some u) ∨ ((env.kindOf x = some .cell ∨ env.kindOf x = some .free) ∧ ∃ c, env.cells.lookup x = some c ∧ h.IsCell c (some u))

structure Cx.Ok (X : Cx) : Prop where
  mod : Mod X.K X.mg X.base
  kind : X.env.scope.kind = .function
  glob : X.env.globals = mainGlobals
  blt : X.env.builtins = builtinsNs
  above : X.s₀.heap.objs.size ≤ X.env.locals
  inj : ∀ x y c, X.env.cells.lookup x = some c → X.env.cells.lookup y = some c → x = y
  has : ∀ x, (X.env.kindOf x = some .cell ∨ X.env.kindOf x = some .free) → ∃ c, X.env.cells.lookup x = some c
  cab : ∀ x c, X.fn x = true → X.env.cells.lookup x = some c → X.s₀.heap.objs.size ≤ c
  hd : X.calm = true → X.A.handled = none
  frames : X.A.frames = some X.stack
  stk : X.stack = X.outer ∨ (X.stack = X.env :: X.outer ∧ X.env.frame = some X.env.locals)
  exf : ∀ b ∈ X.ex, b ≠ X.env.locals ∧ ∀ x c, X.env.cells.lookup x = some c → c ≠ b
  bs : ∀ b o, X.base.get? b = some o → X.s₀.heap.get? b = some o ∧ X.H₀ b = none
  bsz : X.base.objs.size ≤ X.s₀.heap.objs.size
  noex : ∀ b o, X.base.get? b = some o → b ∉ X.ex
  exfs : ∀ b ∈ X.ex, b ∉ X.fs
  funs : X.s₀.heap.FunFrames X.base X.outer
  frf : ∀ b ∈ X.fs, X.H₀ b = none

structure Inv (X : Cx) (pins : List (Addr × Obj)) (σ : List (Option V)) (H : Hp) (s : Shared) : Prop where
  ok : X.Ok
  os : s.os = X.s₀.os
  bare : AllBare s.gens
  base : Un X.fs X.ex X.H₀ H X.s₀.heap s.heap
  loc : ∃ m, s.heap.Ns X.env.locals m ∧ ∀ (i : Nat) (x : Str) (v : V), X.N[i]? = some x → σ[i]? = some (some v) → Vis X.env.scope x → ∃ u, RelV v u ∧ Look X.env s.heap m x u
  cell : ∀ x c, X.env.cells.lookup x = some c → ∃ v, s.heap.IsCell c v
  free : H X.env.locals = none
  freeC : ∀ x c, X.env.cells.lookup x = some c → H c = none
  pin : ∀ p ∈ X.pn ++ pins, s.heap.get? p.1 = some p.2 ∧ H p.1 = none ∧ p.1 ≠ X.env.locals ∧ p.1 ∉ X.fs ∧ ∀ v, p.2.data ≠ .cell v
  hok : HOk X.prog X.w H s.heap
  len : σ.length = X.N.length

section
variable {X : Cx} {pins : List (Addr × Obj)} {σ : List (Option V)} {H H' : Hp} {s : Shared} {h' : Heap}

theorem Cx.Ok.nofr (ok : X.Ok) {b : Addr} {o : Obj} (e : X.base.get? b = some o) : b ∉ X.fs := fun hb => by
  have := (ok.funs.mem hb).1
  rw [e] at this; cases this
theorem Inv.bs (I : Inv X pins σ H s) : ∀ b o, X.base.get? b = some o → s.heap.get? b = some o ∧ H b = none := fun b o e =>
  ⟨I.base.keep b o (I.ok.bs b o e).1 (I.ok.bs b o e).2 (I.ok.nofr e) (I.ok.noex b o e), I.base.free b o (I.ok.bs b o e).1 (I.ok.bs b o e).2 (I.ok.noex b o e)⟩
theorem Inv.bk (I : Inv X pins σ H s) : ∀ b o, X.base.get? b = some o → s.heap.get? b = some o := fun b o e => (I.bs b o e).1
theorem Inv.mod (I : Inv X pins σ H s) : Mod X.K X.mg X.base := I.ok.mod
theorem Inv.kIn (I : Inv X pins σ H s) : X.K.In s.heap := I.ok.mod.kin.keeps I.bk
theorem Inv.lt (I : Inv X pins σ H s) : X.env.locals < s.heap.objs.size := let ⟨_, hn, _⟩ := I.loc; hn.lt
theorem Inv.sz (I : Inv X pins σ H s) : X.s₀.heap.objs.size ≤ s.heap.objs.size := Nat.le_trans I.ok.above (Nat.le_of_lt I.lt)
theorem Inv.nofs (I : Inv X pins σ H s) {a : Addr} (h : s.heap.objs.size ≤ a) : a ∉ X.fs := fun hb => by
  obtain ⟨_, o, ho, _⟩ := I.ok.funs.mem hb
  exact absurd (Nat.lt_of_lt_of_le (Heap.lt_size ho) (Nat.le_trans I.sz h)) (Nat.lt_irrefl _)
theorem Inv.cne (I : Inv X pins σ H s) : ∀ x c, X.env.cells.lookup x = some c → c ≠ X.env.locals := fun x c e z => by
  obtain ⟨v, o, ho, hd⟩ := I.cell x c e
  obtain ⟨m, ⟨o', es, ep, ho', hd', _⟩, _⟩ := I.loc
  rw [z, ho'] at ho; cases ho; rw [hd'] at hd; cases hd
theorem Inv.funs (I : Inv X pins σ H s) : s.heap.FunFrames X.base X.outer := by
  have all : ∀ (l : List Env), (∀ b ∈ frs l, b ∈ X.fs) → X.s₀.heap.FunFrames X.base l → s.heap.FunFrames X.base l := by
    intro l
    induction l with
    | nil => intro _ _; trivial
    | cons env r ih =>
      intro hs hl
      obtain ⟨hk, ⟨L, o, hf, hn, ho, hd⟩, hr⟩ := hl
      have hL : L ∈ X.fs := hs L (by unfold frs; rw [List.filterMap_cons, hf]; exact List.mem_cons_self)
      obtain ⟨sl, e⟩ := I.base.slot L o ho (I.ok.frf L hL) hL fun z => I.ok.exfs L z hL
      exact ⟨hk, ⟨L, _, hf, hn, e, hd⟩, ih (fun b hb => hs b (by unfold frs; rw [List.filterMap_cons, hf]; exact List.mem_cons_of_mem _ hb)) hr⟩
  exact all X.outer (fun _ hb => hb) I.ok.funs

/-- the frames that run, for a call -/
theorem Inv.stack (I : Inv X pins σ H s) : s.heap.FunFrames X.base X.stack := by
  rcases I.ok.stk with e | ⟨e, hf⟩
  · rw [e]; exact I.funs
  · rw [e]
    obtain ⟨m, hn, _⟩ := I.loc
    refine .cons (by rw [I.ok.kind]; decide) hf hn ?_ I.funs
    exact Heap.get?_none_of_le (Nat.le_trans I.ok.bsz I.ok.above)
theorem Inv.stkSub (I : Inv X pins σ H s) : ∀ b ∈ frs X.stack, b ∈ X.env.locals :: X.fs := fun b hb => by
  rcases I.ok.stk with e | ⟨e, hf⟩
  · rw [e] at hb; exact List.mem_cons_of_mem _ hb
  · rw [e] at hb
    unfold frs at hb
    rw [List.filterMap_cons, hf] at hb
    exact hb
theorem Inv.stkFree (I : Inv X pins σ H s) : ∀ b ∈ frs X.stack, H b = none := fun b hb => by
  rcases List.mem_cons.mp (I.stkSub b hb) with e | hb
  · rw [e]; exact I.free
  · obtain ⟨_, o, ho, _⟩ := I.ok.funs.mem hb
    exact I.base.free b o ho (I.ok.frf b hb) fun z => I.ok.exfs b z hb

/-- THE STEP: the untracked objects but the frame and the records at ch are kept (the callers' frames up to slots), the frame's map is kept, the new abstract heap is held -/
theorem Inv.step {g' : Array GenState} {t' : Nat} {d' : Drawn} {ch : List Addr} (I : Inv X pins σ H s)
    (hch : ∀ b ∈ ch, (b ∈ X.ex ∨ X.s₀.heap.objs.size ≤ b) ∧ b ≠ X.env.locals ∧ (∀ x c, X.env.cells.lookup x = some c → c ≠ b) ∧ ∀ p ∈ X.pn ++ pins, p.1 ≠ b)
    (keep : ∀ b o, b ≠ X.env.locals → b ∉ X.fs → b ∉ ch → s.heap.get? b = some o → H b = none → h'.get? b = some o)
    (slot : ∀ b o, b ≠ X.env.locals → b ∈ X.fs → b ∉ ch → s.heap.get? b = some o → H b = none → ∃ sl, h'.get? b = some { o with slots := sl }) (free : ∀ b o, b ∉ ch → s.heap.get? b = some o → H b = none → H' b = none)
    (there : ∀ b o, b ∉ ch → s.heap.get? b = some o → ∃ o', h'.get? b = some o')
    (tups : ∀ b xs, H b = some (.tup xs) → H' b = some (.tup xs)) (frzs : ∀ b o u, H b = some (.frz o u) → H' b = some (.frz o u)) (tbls : ∀ b ps, H b = some (.tbl ps) → ∃ more, H' b = some (.tbl (ps ++ more)))
    (ns : ∀ m, s.heap.Ns X.env.locals m → h'.Ns X.env.locals m) (hok : HOk X.prog X.w H' h') (hg : AllBare g') :
    Inv X pins σ H' { s with heap := h', gens := g', drawn := d', toks := t' } := by
  have neL : ∀ b o, X.s₀.heap.get? b = some o → b ≠ X.env.locals := fun b o e => Nat.ne_of_lt (Nat.lt_of_lt_of_le (Heap.lt_size e) I.ok.above)
  have neC : ∀ b o, X.s₀.heap.get? b = some o → b ∉ X.ex → b ∉ ch := fun b o e hx hb => by
    rcases (hch b hb).1 with z | z
    · exact hx z
    · exact absurd (Nat.lt_of_lt_of_le (Heap.lt_size e) z) (Nat.lt_irrefl _)
  have cellK : ∀ x c, X.env.cells.lookup x = some c → ∀ v, s.heap.IsCell c v → h'.IsCell c v := fun x c e v ⟨o, ho, hd⟩ => by
    have nch : c ∉ ch := fun z => (hch c z).2.2.1 x c e rfl
    by_cases hc : c ∈ X.fs
    · obtain ⟨sl, q⟩ := slot c o (I.cne x c e) hc nch ho (I.freeC x c e)
      exact ⟨_, q, hd⟩
    · exact ⟨o, keep c o (I.cne x c e) hc nch ho (I.freeC x c e), hd⟩
  refine ⟨I.ok, I.os, hg, ⟨fun b o e n hb hx => ?_, fun b o e n hb hx => ?_, fun b o e n hx => ?_, fun b o e hx => ?_, fun b xs e => tups b xs (I.base.tups b xs e), fun b o xs e => frzs b o xs (I.base.frzs b o xs e), fun b ps e => ?_⟩, ?_, fun x c e => ?_, ?_, fun x c e => ?_, fun p hp => ?_, hok, I.len⟩
  · exact keep b o (neL b o e) hb (neC b o e hx) (I.base.keep b o e n hb hx) (I.base.free b o e n hx)
  · obtain ⟨sl, e1⟩ := I.base.slot b o e n hb hx
    obtain ⟨sl', e2⟩ := slot b _ (neL b o e) hb (neC b o e hx) e1 (I.base.free b o e n hx)
    exact ⟨sl', e2⟩
  · obtain ⟨o', e1⟩ := I.base.there b o e hx
    exact free b o' (neC b o e hx) e1 (I.base.free b o e n hx)
  · obtain ⟨o', e1⟩ := I.base.there b o e hx
    exact there b o' (neC b o e hx) e1
  · obtain ⟨m1, e1⟩ := I.base.tbls b ps e
    obtain ⟨m2, e2⟩ := tbls b _ e1
    exact ⟨m1 ++ m2, by rw [e2, Array.append_assoc]⟩
  · obtain ⟨m, hn, hl⟩ := I.loc
    refine ⟨m, ns m hn, fun i x v e1 e2 e3 => ?_⟩
    obtain ⟨u, r, l⟩ := hl i x v e1 e2 e3
    refine ⟨u, r, ?_⟩
    rcases l with l | ⟨k, c, e, z⟩
    · exact .inl l
    · exact .inr ⟨k, c, e, cellK x c e _ z⟩
  · obtain ⟨v, z⟩ := I.cell x c e
    exact ⟨v, cellK x c e v z⟩
  · obtain ⟨m, ⟨o, _, _, ho, _⟩, _⟩ := I.loc
    exact free _ o (fun z => (hch _ z).2.1 rfl) ho I.free
  · obtain ⟨v, o, ho, hd⟩ := I.cell x c e
    exact free c o (fun z => (hch c z).2.2.1 x c e rfl) ho (I.freeC x c e)
  · obtain ⟨e, n, ne, nf, d⟩ := I.pin p hp
    have nch : p.1 ∉ ch := fun z => (hch p.1 z).2.2.2 p hp rfl
    exact ⟨keep p.1 p.2 ne nf nch e n, free p.1 p.2 nch e n, ne, nf, d⟩
/-- .. where the frame's own object is kept too -/
theorem Inv.un {t' : Nat} (I : Inv X pins σ H s) (u : Un X.fs [] H H' s.heap h') (hok : HOk X.prog X.w H' h') : Inv X pins σ H' { s with heap := h', toks := t' } := by
  obtain ⟨m, ⟨o, es, ep, ho, r⟩, _⟩ := id I.loc
  obtain ⟨sl, hL⟩ := u.any ho I.free (by simp)
  exact I.step (g' := s.gens) (d' := s.drawn) (ch := []) (fun _ z => nomatch z) (fun b o _ hb _ e n => u.keep b o e n hb (by simp)) (fun b o _ hb _ e n => u.slot b o e n hb (by simp)) (fun b o _ e n => u.free b o e n (by simp)) (fun b o _ e => u.there b o e (by simp)) u.tups u.frzs u.tbls (fun m' hm => by
    obtain ⟨o', es', ep', ho', r'⟩ := hm
    rw [ho] at ho'; cases ho'
    exact ⟨_, es', ep', hL, r'⟩) hok I.bare
/-- behind a call (or a comprehension's block): the slots of this frame may have changed too, the records at ch may have turned -/
theorem Inv.call {g' : Array GenState} {t' : Nat} {d' : Drawn} {ch : List Addr} (I : Inv X pins σ H s) (u : Un (frs X.stack) ch H H' s.heap h') (hok : HOk X.prog X.w H' h') (hg : AllBare g')
    (hch : ∀ b ∈ ch, (b ∈ X.ex ∨ X.s₀.heap.objs.size ≤ b) ∧ b ≠ X.env.locals ∧ (∀ x c, X.env.cells.lookup x = some c → c ≠ b) ∧ ∀ p ∈ X.pn ++ pins, p.1 ≠ b) :
    Inv X pins σ H' { s with heap := h', gens := g', drawn := d', toks := t' } := by
  obtain ⟨m, ⟨o, es, ep, ho, r⟩, _⟩ := id I.loc
  obtain ⟨sl, hL⟩ := u.any ho I.free fun z => (hch _ z).2.1 rfl
  exact I.step (ch := ch) hch (fun b o hL hb hc e n => u.keep b o e n (fun z => (List.mem_cons.mp (I.stkSub b z)).elim hL hb) hc) (fun b o _ _ hc e n => u.any e n hc) (fun b o hc e n => u.free b o e n hc) (fun b o hc e => u.there b o e hc) u.tups u.frzs u.tbls (fun m' hm => by
    obtain ⟨o', es', ep', ho', r'⟩ := hm
    rw [ho] at ho'; cases ho'
    exact ⟨_, es', ep', hL, r'⟩) hok hg
/-- an untracked record of ours (an iterator) has turned -/
theorem Inv.turned {t' : Nat} {it : Addr} (I : Inv X pins σ H s) (k : ∀ b o, b ≠ it → s.heap.get? b = some o → h'.get? b = some o) (hn : H it = none) (hL : it ≠ X.env.locals)
    (h1 : it ∈ X.ex ∨ X.s₀.heap.objs.size ≤ it) (h2 : ∀ x c, X.env.cells.lookup x = some c → c ≠ it) (h3 : ∀ p ∈ X.pn ++ pins, p.1 ≠ it) : Inv X pins σ H { s with heap := h', toks := t' } := by
  have nit : ∀ b u, H b = some u → b ≠ it := fun b u e z => by rw [z, hn] at e; cases e
  refine I.step (g' := s.gens) (d' := s.drawn) (ch := [it]) (fun b hb => ?_) (fun b o _ _ hc e _ => k b o (fun z => hc (by simp [z])) e) (fun b o _ _ hc e _ => ⟨o.slots, k b o (fun z => hc (by simp [z])) e⟩) (fun _ _ _ _ n => n)
    (fun b o hc e => ⟨o, k b o (fun z => hc (by simp [z])) e⟩) (fun _ _ e => e) (fun _ _ _ e => e) (fun b ps e => ⟨#[], by rw [e]; simp⟩) (fun m hm => ?_) (fun b u e => ?_) I.bare
  · have e : b = it := by simpa using hb
    subst e
    exact ⟨h1, hL, h2, h3⟩
  · obtain ⟨o, es, ep, ho, r⟩ := hm
    exact ⟨o, es, ep, k _ o (Ne.symm hL) ho, r⟩
  · refine (I.hok b u e).stay (fun c v hc q => k c v ?_ q) (fun _ q => q) fun _ _ q => q
    rcases hc with z | z
    · rw [z]; exact nit b u e
    · exact nit c _ z
theorem Inv.tok (I : Inv X pins σ H s) (t : Nat) : Inv X pins σ H { s with toks := t } := I.un (h' := s.heap) (t' := t) Un.refl I.hok
/-- all objects kept -/
theorem Inv.kept {t' : Nat} (I : Inv X pins σ H s) (k : ∀ b u, s.heap.get? b = some u → h'.get? b = some u) : Inv X pins σ H { s with heap := h', toks := t' } := I.un (Un.kept k) (I.hok.kept k)
/-- a new object laid and tracked -/
theorem Inv.laid {a : Addr} {o : HO} {t' : Nat} (I : Inv X pins σ H s) (k : ∀ b u, s.heap.get? b = some u → h'.get? b = some u) (hp : s.heap.objs.size ≤ a) (new : ObjOk X.prog X.w (upd H a o) h' a o) :
    Inv X pins σ (upd H a o) { s with heap := h', toks := t' } := I.un (Un.laid k hp (I.hok.fresh hp)) (I.hok.laid k hp new)
/-- an object written -/
theorem Inv.write {x e : Addr} {o : HO} {t' : Nat} (I : Inv X pins σ H s) (mu : Mut (H x)) (he : e = x ∨ H e = some (.own x)) (k : ∀ b u, b ≠ e → s.heap.get? b = some u → h'.get? b = some u) (heo : ∃ u, h'.get? e = some u)
    (new : ObjOk X.prog X.w (upd H x o) h' x o) : Inv X pins σ (upd H x o) { s with heap := h', toks := t' } := I.un (Un.write mu he k heo) (I.hok.write mu he k heo new)
theorem Inv.pins_of {pins' : List (Addr × Obj)} (I : Inv X pins σ H s) (h : ∀ p ∈ pins', s.heap.get? p.1 = some p.2 ∧ H p.1 = none ∧ p.1 ≠ X.env.locals ∧ p.1 ∉ X.fs ∧ ∀ v, p.2.data ≠ .cell v) : Inv X pins' σ H s :=
  ⟨I.ok, I.os, I.bare, I.base, I.loc, I.cell, I.free, I.freeC, fun p hp => (List.mem_append.mp hp).elim (fun z => I.pin p (List.mem_append_left _ z)) (h p), I.hok, I.len⟩

theorem nodup_ix {N : List Str} (hN : N.Nodup) {i j : Nat} {x : Str} (a : N[i]? = some x) (b : N[j]? = some x) : i = j := by
  obtain ⟨h1, e1⟩ := List.getElem?_eq_some_iff.mp a
  obtain ⟨h2, e2⟩ := List.getElem?_eq_some_iff.mp b
  exact (List.getElem_inj hN).mp (e1.trans e2.symm)

/-- a name is stored; what changed -/
theorem store_ok2 {M : Model} {A : Around} {E : Value → Shared → Prop} {i : Nat} {x : Str} {v : V} {u : Value} {Q : Unit → Shared → Prop} (I : Inv X pins σ H s) (hN : X.N.Nodup) (hi : X.N[i]? = some x) (hx : Loc X.env.scope x) (r : RelV v u)
    (h : ∀ s', Inv X pins (σ.set i (some v)) H s' → (∃ a, Heap.SameBut a s.heap s'.heap ∧ (a = X.env.locals ∨ X.env.cells.lookup x = some a)) → Q () s') (hf : X.fn x = true ∨ X.env.scope.names.lookup x = some .local := by first | exact .inl rfl | exact .inr rfl | assumption) : wpAny M A (storeName X.env x u) Q E s := by
  obtain ⟨m, hn, hl⟩ := id I.loc
  have hcls : (X.env.scope.kind == .class || (X.env.scope.kind == .module && X.env.locals != X.env.globals)) = false := by rw [I.ok.kind]; rfl
  have hiσ : i < σ.length := by rw [I.len]; exact (List.getElem?_eq_some_iff.mp hi).1
  have cne := I.cne
  have tracked : ∀ {a : Addr} {h' : Heap}, (∃ o, s.heap.get? a = some o ∧ H a = none) → Heap.SameBut a s.heap h' → HOk X.prog X.w H h' := fun {a h'} ha hs b ob e => by
    obtain ⟨_, _, hfree⟩ := ha
    refine (I.hok b ob e).stay (fun c w' hc q => (hs.2 c ?_).trans q) (fun _ q => q) fun _ _ q => q
    rintro rfl
    rcases hc with rfl | hc
    · rw [hfree] at e; cases e
    · rw [hfree] at hc; cases hc
  rcases hx with hk | hk
  · refine wpAny_storeName_local hk hn (fun h' hn' hs => ?_) hcls
    obtain ⟨oL, _, _, hoL, _⟩ := id hn
    refine h _ ⟨I.ok, I.os, I.bare, ⟨fun b o e n hb hx => ?_, fun b o e n hb hx => ?_, I.base.free, fun b o e hx => ?_, I.base.tups, I.base.frzs, I.base.tbls⟩, ⟨_, hn', fun j y v' e1 e2 e3 => ?_⟩, fun y c e => ?_, I.free, I.freeC, fun p hp => ?_, tracked ⟨oL, hoL, I.free⟩ hs, by simpa using I.len⟩ ⟨_, hs, .inl rfl⟩
    · exact (hs.2 b (Nat.ne_of_lt (Nat.lt_of_lt_of_le (Heap.lt_size e) I.ok.above))).trans (I.base.keep b o e n hb hx)
    · obtain ⟨sl, e1⟩ := I.base.slot b o e n hb hx
      exact ⟨sl, (hs.2 b (Nat.ne_of_lt (Nat.lt_of_lt_of_le (Heap.lt_size e) I.ok.above))).trans e1⟩
    · obtain ⟨o', e1⟩ := I.base.there b o e hx
      exact ⟨o', (hs.2 b (Nat.ne_of_lt (Nat.lt_of_lt_of_le (Heap.lt_size e) I.ok.above))).trans e1⟩
    · by_cases hj : j = i
      · subst hj
        rw [hi] at e1; cases e1
        rw [List.getElem?_set_self hiσ] at e2
        cases e2
        exact ⟨u, r, .inl ⟨hk, by simp⟩⟩
      · rw [List.getElem?_set_ne (Ne.symm hj)] at e2
        obtain ⟨u', r', q⟩ := hl j y v' e1 e2 e3
        refine ⟨u', r', ?_⟩
        rcases q with ⟨k, e⟩ | ⟨k, c, e, z⟩
        · refine .inl ⟨k, ?_⟩
          have : y ≠ x := fun e => hj (nodup_ix hN e1 (e ▸ hi))
          simp [this, e]
        · exact .inr ⟨k, c, e, z.sameBut hs (cne y c e)⟩
    · obtain ⟨w', z⟩ := I.cell y c e
      exact ⟨w', z.sameBut hs (cne y c e)⟩
    · obtain ⟨e, n, ne, nf, d⟩ := I.pin p hp
      exact ⟨(hs.2 p.1 ne).trans e, n, ne, nf, d⟩
  · have hfn : X.fn x = true := by
      rcases hf with z | z
      · exact z
      · rw [z] at hk; cases hk
    obtain ⟨c, hc⟩ := I.ok.has x (.inl hk)
    obtain ⟨w', z⟩ := I.cell x c hc
    refine wpAny_storeName_cell I.ok.kind hk hc z (fun h' hc' hs => ?_)
    obtain ⟨oc, hoc, hocd⟩ := id z
    refine h { s with heap := h' } ⟨I.ok, I.os, I.bare, ⟨fun b o e n hb hx => ?_, fun b o e n hb hx => ?_, I.base.free, fun b o e hx => ?_, I.base.tups, I.base.frzs, I.base.tbls⟩, ⟨m, hn.sameBut hs (Ne.symm (cne x c hc)), fun j y v' e1 e2 e3 => ?_⟩, fun y c' e => ?_, I.free, I.freeC, fun p hp => ?_, tracked ⟨oc, hoc, I.freeC x c hc⟩ hs, by simpa using I.len⟩ ⟨c, hs, .inr hc⟩
    · exact (hs.2 b (Nat.ne_of_lt (Nat.lt_of_lt_of_le (Heap.lt_size e) (I.ok.cab x c hfn hc)))).trans (I.base.keep b o e n hb hx)
    · obtain ⟨sl, e1⟩ := I.base.slot b o e n hb hx
      exact ⟨sl, (hs.2 b (Nat.ne_of_lt (Nat.lt_of_lt_of_le (Heap.lt_size e) (I.ok.cab x c hfn hc)))).trans e1⟩
    · obtain ⟨o', e1⟩ := I.base.there b o e hx
      exact ⟨o', (hs.2 b (Nat.ne_of_lt (Nat.lt_of_lt_of_le (Heap.lt_size e) (I.ok.cab x c hfn hc)))).trans e1⟩
    · by_cases hj : j = i
      · subst hj
        rw [hi] at e1; cases e1
        rw [List.getElem?_set_self hiσ] at e2
        cases e2
        exact ⟨u, r, .inr ⟨.inl hk, c, hc, hc'⟩⟩
      · rw [List.getElem?_set_ne (Ne.symm hj)] at e2
        obtain ⟨u', r', q⟩ := hl j y v' e1 e2 e3
        refine ⟨u', r', ?_⟩
        rcases q with q | ⟨k, c', e, z'⟩
        · exact .inl q
        · refine .inr ⟨k, c', e, z'.sameBut hs ?_⟩
          rintro rfl
          exact hj (nodup_ix hN e1 (I.ok.inj _ _ _ e hc ▸ hi))
    · by_cases hcc : c' = c
      · subst hcc; exact ⟨_, hc'⟩
      · obtain ⟨w2, z2⟩ := I.cell y c' e
        exact ⟨w2, z2.sameBut hs hcc⟩
    · obtain ⟨e, n, ne, nf, d⟩ := I.pin p hp
      refine ⟨(hs.2 p.1 ?_).trans e, n, ne, nf, d⟩
      intro q
      rw [q, hoc] at e
      have q' : oc = p.2 := Option.some.inj e
      exact d w' (by rw [← q']; exact hocd)
theorem store_ok {M : Model} {A : Around} {E : Value → Shared → Prop} {i : Nat} {x : Str} {v : V} {u : Value} {Q : Unit → Shared → Prop} (I : Inv X pins σ H s) (hN : X.N.Nodup) (hi : X.N[i]? = some x) (hx : Loc X.env.scope x) (r : RelV v u)
    (h : ∀ s', Inv X pins (σ.set i (some v)) H s' → Q () s') (hf : X.fn x = true ∨ X.env.scope.names.lookup x = some .local := by first | exact .inl rfl | exact .inr rfl | assumption) : wpAny M A (storeName X.env x u) Q E s :=
  store_ok2 I hN hi hx r (fun s' I' _ => h s' I') hf
/-- behind a call or a block, the state as it is -/
theorem Inv.call' {s' : Shared} {ch : List Addr} (I : Inv X pins σ H s) (ho : s'.os = s.os) (u : Un (frs X.stack) ch H H' s.heap s'.heap) (hok : HOk X.prog X.w H' s'.heap) (hg : AllBare s'.gens)
    (hch : ∀ b ∈ ch, (b ∈ X.ex ∨ X.s₀.heap.objs.size ≤ b) ∧ b ≠ X.env.locals ∧ (∀ x c, X.env.cells.lookup x = some c → c ≠ b) ∧ ∀ p ∈ X.pn ++ pins, p.1 ≠ b) : Inv X pins σ H' s' := by
  obtain ⟨h', g', d', t', o'⟩ := s'
  have e : o' = s.os := ho
  subst e
  exact I.call (g' := g') (t' := t') (d' := d') u hok hg hch
end

/-! ### the judgements -/
/-- an exception: its class, its own dict's address (where it has one), the abstract heap behind it -/
abbrev XK := Value → Option Addr → Hp → Prop
abbrev St := List (Option V)
abbrev VK := V → Hp → Prop
/-- an expression's reading; a test's; an argument list's -/
abbrev TE := St → Hp → VK → Prop
abbrev TT := St → Hp → (Bool → Hp → Prop) → Prop
abbrev TA := St → Hp → (List V → Hp → Prop) → Prop
/-- what is wanted behind a statement -/
structure Ends where
  nx : St → Hp → Prop
  rt : VK
  bk : St → Hp → Prop := fun _ _ => False
  ct : St → Hp → Prop := fun _ _ => False
abbrev TS := Ends → St → Hp → Prop

def EP (X : Cx) (pins : List (Addr × Obj)) (σ : St) (Q : VK) (u : Value) (s' : Shared) : Prop := ∃ v H', Inv X pins σ H' s' ∧ RelV v u ∧ Q v H'
def TP (X : Cx) (pins : List (Addr × Obj)) (σ : St) (Q : Bool → Hp → Prop) (b : Bool) (s' : Shared) : Prop := ∃ H', Inv X pins σ H' s' ∧ Q b H'
def AP (X : Cx) (pins : List (Addr × Obj)) (σ : St) (Q : List V → Hp → Prop) (us : List Value) (s' : Shared) : Prop := ∃ vs H', Inv X pins σ H' s' ∧ Vals vs us ∧ Q vs H'
def SP (X : Cx) (pins : List (Addr × Obj)) (D : Ends) (f : Flow) (s' : Shared) : Prop :=
  match f with
  | .next => ∃ σ' H', Inv X pins σ' H' s' ∧ D.nx σ' H'
  | .brk => ∃ σ' H', Inv X pins σ' H' s' ∧ D.bk σ' H'
  | .cont => ∃ σ' H', Inv X pins σ' H' s' ∧ D.ct σ' H'
  | .ret u => ∃ v σ' H', Inv X pins σ' H' s' ∧ RelV v u ∧ D.rt v H'

def PE (X : Cx) (e : Expr) (t : TE) : Prop :=
  ∀ (pins : List (Addr × Obj)) (s : Shared) (σ : St) (H : Hp) (Q : VK), Inv X pins σ H s → t σ H Q → wpAny (model X.prog X.w) X.A (eval e X.env) (EP X pins σ Q) X.xe s
def PT (X : Cx) (e : Expr) (t : TT) : Prop :=
  ∀ (pins : List (Addr × Obj)) (s : Shared) (σ : St) (H : Hp) (Q : Bool → Hp → Prop), Inv X pins σ H s → t σ H Q → wpAny (model X.prog X.w) X.A (isTrue e X.env (eval e X.env)) (TP X pins σ Q) X.xe s
/-- a test whatever its 'whole' is (and, or) -/
def PW (X : Cx) (e : Expr) (t : TT) : Prop :=
  ∀ (whole : Sem Value) (pins : List (Addr × Obj)) (s : Shared) (σ : St) (H : Hp) (Q : Bool → Hp → Prop), Inv X pins σ H s → t σ H Q → wpAny (model X.prog X.w) X.A (isTrue e X.env whole) (TP X pins σ Q) X.xe s
theorem PW.pt {X : Cx} {e : Expr} {t : TT} (h : PW X e t) : PT X e t := h _
/-- an argument list (no star), from the left -/
def PA (X : Cx) (es : List Expr) (t : TA) : Prop :=
  ∀ (pos : Pos) (pins : List (Addr × Obj)) (s : Shared) (σ : St) (H : Hp) (Q : List V → Hp → Prop), Inv X pins σ H s → t σ H Q → wpAny (model X.prog X.w) X.A (spliced (backTo pos (starEach es X.env))) (AP X pins σ Q) X.xe s
def PS (X : Cx) (st : Stmt) (t : TS) : Prop :=
  ∀ (pins : List (Addr × Obj)) (s : Shared) (σ : St) (H : Hp) (D : Ends), Inv X pins σ H s → t D σ H → wpAny (model X.prog X.w) X.A (exec st X.env) (SP X pins D) X.xe s
def PSs (X : Cx) (st : List Stmt) (t : TS) : Prop :=
  ∀ (pins : List (Addr × Obj)) (s : Shared) (σ : St) (H : Hp) (D : Ends), Inv X pins σ H s → t D σ H → wpAny (model X.prog X.w) X.A (execs st X.env) (SP X pins D) X.xe s
/-- weaken the end -/
theorem thn {α : Type} {t : Sem α} {Q Q' : α → Shared → Prop} {M : Model} {A : Around} {E : Value → Shared → Prop} {s : Shared} (h : wpAny M A t Q E s) (hQ : ∀ a s, Q a s → Q' a s) : wpAny M A t Q' E s := wpAny_mono h hQ fun _ _ x => x
end L2

namespace L2
open PySem PySem.Spec PyProof.Rows
section
variable {X : Cx}


/-! ### names and constants -/
def tVar (i : Nat) : TE := fun σ H Q => ∃ v, σ[i]? = some (some v) ∧ Q v H
def tC (v : V) : TE := fun _ H Q => Q v H
theorem pe_var {i : Nat} {x : Str} {pos : Pos} (hN : X.N[i]? = some x) (hv : Vis X.env.scope x) (hd : (x == ("__debug__" : Str)) = false := by decide) (hcd : (x == ("__classdict__" : Str)) = false := by decide) : PE X (.Name x pos) (tVar i) := by
  intro pins s σ H Q I h
  obtain ⟨v, e, h⟩ := h
  obtain ⟨m, hn, hl⟩ := I.loc
  obtain ⟨u, r, l⟩ := hl i x v hN e hv
  have fin : EP X pins σ Q u s := ⟨v, H, I, r, h⟩
  rcases l with ⟨hk, hm⟩ | ⟨hk, c, hc, hcell⟩
  · exact wpAny_Name (wpAny_loadName_local I.ok.kind hk hn hm fin) hd
  · rcases hk with hk | hk
    · exact wpAny_Name (wpAny_loadName_cell I.ok.kind hk hc hcell fin) hd
    · exact wpAny_Name (wpAny_loadName_free I.ok.kind hk hc hcell fin hcd) hd
theorem pe_int {i j pos} : PE X (.Constant (.int i) j pos) (tC (.int i)) := fun _ _ _ H _ I h => wpAny_Constant_int ⟨.int i, H, I.tok _, ⟨_, rfl⟩, h⟩
theorem pe_bl {b j pos} : PE X (.Constant (.bool b) j pos) (tC (.bl b)) := fun _ _ _ H _ I h => Constant_bool ⟨.bl b, H, I, rfl, h⟩
theorem pe_non {j pos} : PE X (.Constant .none j pos) (tC .non) := fun _ _ _ H _ I h => Constant_none ⟨.non, H, I, rfl, h⟩
theorem pe_str {x j pos} : PE X (.Constant (.str x) j pos) (tC (.str x)) := fun _ _ _ H _ I h => Calls.Constant_str ⟨.str x, H, I.tok _, ⟨_, rfl⟩, h⟩

/-- a global name of the def -/
def Gl (X : Cx) (x : Str) : Prop := X.env.kindOf x = some .globalImplicit
theorem ld_glob {E : Value → Shared → Prop} {pins : List (Addr × Obj)} {s : Shared} {σ : St} {H : Hp} {x : Str} {u : Value} {pos : Pos} {Q : Value → Shared → Prop} (I : Inv X pins σ H s) (hg : Gl X x) (hm : X.mg x = some u) (h : Q u s)
    (hd : (x == ("__debug__" : Str)) = false := by decide) : wpAny (model X.prog X.w) X.A (eval (.Name x pos) X.env) Q E s :=
  Calls.Name_function_global I.ok.kind hg (Calls.loadGlobal_global (by rw [I.ok.glob]; exact I.mod.glob.keeps I.bk) hm h) hd
theorem ld_blt {E : Value → Shared → Prop} {pins : List (Addr × Obj)} {s : Shared} {σ : St} {H : Hp} {x : Str} {u : Value} {pos : Pos} {Q : Value → Shared → Prop} (I : Inv X pins σ H s) (hg : Gl X x) (hm : X.mg x = none) (hv : bootBuiltins x = some u) (h : Q u s)
    (hn : x ≠ "__name__" := by decide) (hd : (x == ("__debug__" : Str)) = false := by decide) : wpAny (model X.prog X.w) X.A (eval (.Name x pos) X.env) Q E s := by
  obtain ⟨mb, h1, h2⟩ := I.mod.blt
  exact Calls.Name_function_global I.ok.kind hg (Calls.loadGlobal_builtin (by rw [I.ok.glob]; exact I.mod.glob.keeps I.bk) hm (by rw [I.ok.blt]; exact h1.keeps I.bk) ((h2 x hn).trans hv) h) hd
/-- a module's constant, a class, a function, as a value -/
theorem pe_glob {x : Str} {v : V} {u : Value} {pos : Pos} (hg : Gl X x) (hm : X.mg x = some u) (r : RelV v u) (hd : (x == ("__debug__" : Str)) = false := by decide) : PE X (.Name x pos) (tC v) :=
  fun _ _ _ H _ I h => ld_glob I hg hm ⟨v, H, I, r, h⟩ hd
theorem pe_bltn {x : Str} {v : V} {u : Value} {pos : Pos} (hg : Gl X x) (hm : X.mg x = none) (hv : bootBuiltins x = some u) (r : RelV v u) (hn : x ≠ "__name__" := by decide) (hd : (x == ("__debug__" : Str)) = false := by decide) : PE X (.Name x pos) (tC v) :=
  fun _ _ _ H _ I h => ld_blt I hg hm hv ⟨v, H, I, r, h⟩ hn hd

/-! ### arithmetic -/
variable {a b : Expr} {ta tb : TE} {pos : Pos}

/-! ### comparisons -/
def PC (X : Cx) (op : CmpOp) (a b : Expr) (t : TE) : Prop :=
  ∀ (pins : List (Addr × Obj)) (s : Shared) (σ : St) (H : Hp) (Q : VK), Inv X pins σ H s → t σ H Q →
    wpAny (model X.prog X.w) X.A (eval a X.env) (fun v s₁ => wpAny (model X.prog X.w) X.A (eval b X.env) (fun u s₂ => wpAny (model X.prog X.w) X.A (compareOp op v u) (EP X pins σ Q) X.xe s₂) X.xe s₁) X.xe s
/-- a comparison as a value, as a test -/
def tB (t : TE) : TT := fun σ H Q => t σ H fun x H1 => ∃ c, x = .bl c ∧ Q c H1
theorem pe_cmp {op : CmpOp} {t : TE} (h : PC X op a b t) (h1 : behindInMarks op b = false := by first | exact nobehind _ (by decide) (by decide) | rfl) : PE X (.Compare a [op] [b] pos) t := fun pins s σ H Q I hw => wpAny_Compare1 (h pins s σ H Q I hw) h1
theorem pt_cmp {op : CmpOp} {t : TE} (h : PC X op a b t) (h1 : behindInMarks op b = false := by first | exact nobehind _ (by decide) (by decide) | rfl) : PT X (.Compare a [op] [b] pos) (tB t) := by
  intro pins s σ H Q I hw
  refine wpAny_isTrue_Compare1 (thn (h pins s σ H _ I hw) fun v s1 h1 => thn h1 fun u s2 h2 => thn h2 fun c s3 ⟨x, H1, I1, r1, q1⟩ => ?_) h1
  obtain ⟨d, rfl, q⟩ := q1
  cases r1
  exact wpAny_truthy_bool ⟨H1, I1, q⟩
/-- an expression whose value is a bool, as a test -/
theorem pt_val {e : Expr} {t : TE} (h : PE X e t) (he : ∀ whole, isTrue e X.env whole = (do let v ← whole; standAt e.pos; holding [v] (truthy v)) := by intro _; rfl) : PT X e (tB t) := by
  intro pins s σ H Q I hw
  refine isTrue_plain (thn (h pins s σ H _ I hw) fun v s1 ⟨x, H1, I1, r1, q1⟩ => ?_) (he _)
  obtain ⟨d, rfl, q⟩ := q1
  cases r1
  exact wpAny_truthy_bool ⟨H1, I1, q⟩

/-! ### and, or, not -/
variable {tA tB' : TT} {rest : List Expr}
def tAnd (t u : TT) : TT := fun σ H Q => t σ H fun c H1 => if c = true then u σ H1 Q else Q false H1
def tOr (t u : TT) : TT := fun σ H Q => t σ H fun c H1 => if c = true then Q true H1 else u σ H1 Q
def tNot (t : TT) : TT := fun σ H Q => t σ H fun c H1 => Q (!c) H1
theorem pw_and1 (ha : PT X a tA) : PW X (.BoolOp .And [a] pos) tA := by
  intro wh pins s σ H Q I h
  refine isTrue_and (thn (ha pins s σ H Q I h) fun c s1 e => ?_)
  cases c with
  | true => exact isTrue_and_nil e
  | false => exact e
theorem pw_or1 (ha : PT X a tA) : PW X (.BoolOp .Or [a] pos) tA := by
  intro wh pins s σ H Q I h
  refine isTrue_or (thn (ha pins s σ H Q I h) fun c s1 e => ?_)
  cases c with
  | false => exact isTrue_or_nil e
  | true => exact e
theorem pw_and (ha : PT X a tA) (hb : PW X (.BoolOp .And (b :: rest) pos) tB') : PW X (.BoolOp .And (a :: b :: rest) pos) (tAnd tA tB') := by
  intro wh pins s σ H Q I h
  refine isTrue_and (thn (ha pins s σ H _ I h) fun c s1 ⟨H1, I1, q1⟩ => ?_)
  cases c with
  | true => exact hb wh pins s1 σ H1 Q I1 q1
  | false => exact ⟨H1, I1, q1⟩
theorem pw_or (ha : PT X a tA) (hb : PW X (.BoolOp .Or (b :: rest) pos) tB') : PW X (.BoolOp .Or (a :: b :: rest) pos) (tOr tA tB') := by
  intro wh pins s σ H Q I h
  refine isTrue_or (thn (ha pins s σ H _ I h) fun c s1 ⟨H1, I1, q1⟩ => ?_)
  cases c with
  | true => exact ⟨H1, I1, q1⟩
  | false => exact hb wh pins s1 σ H1 Q I1 q1
theorem pt_not (ha : PT X a tA) : PT X (.UnaryOp .Not a pos) (tNot tA) := by
  intro pins s σ H Q I h
  exact isTrue_not (ha pins s σ H (fun c H1 => Q (!c) H1) I h)
/-- .. as values (bools) -/
def tAndV (ta tb : TE) : TE := fun σ H Q => ta σ H fun x H1 => ∃ c, x = .bl c ∧ if c = true then tb σ H1 Q else Q (.bl false) H1
def tOrV (ta tb : TE) : TE := fun σ H Q => ta σ H fun x H1 => ∃ c, x = .bl c ∧ if c = true then Q (.bl true) H1 else tb σ H1 Q
def tNotV (ta : TE) : TE := fun σ H Q => ta σ H fun x H1 => ∃ c, x = .bl c ∧ Q (.bl (!c)) H1
theorem pe_one {op} {t : TE} (h : PE X a t) : PE X (.BoolOp op [a] pos) t := fun pins s σ H Q I hw => BoolOp_one (h pins s σ H Q I hw)
theorem pe_and (ha : PE X a ta) (hb : PE X (.BoolOp .And (b :: rest) pos) tb) : PE X (.BoolOp .And (a :: b :: rest) pos) (tAndV ta tb) := by
  intro pins s σ H Q I h
  refine BoolOp_and (thn (ha pins s σ H _ I h) fun v s1 ⟨x, H1, I1, r1, q1⟩ => ?_)
  obtain ⟨c, rfl, q1⟩ := q1
  cases r1
  refine wpAny_truthy_bool ?_
  cases c with
  | true => exact hb pins s1 σ H1 Q I1 q1
  | false => exact ⟨.bl false, H1, I1, rfl, q1⟩
theorem pe_or (ha : PE X a ta) (hb : PE X (.BoolOp .Or (b :: rest) pos) tb) : PE X (.BoolOp .Or (a :: b :: rest) pos) (tOrV ta tb) := by
  intro pins s σ H Q I h
  refine BoolOp_or (thn (ha pins s σ H _ I h) fun v s1 ⟨x, H1, I1, r1, q1⟩ => ?_)
  obtain ⟨c, rfl, q1⟩ := q1
  cases r1
  refine wpAny_truthy_bool ?_
  cases c with
  | false => exact hb pins s1 σ H1 Q I1 q1
  | true => exact ⟨.bl true, H1, I1, rfl, q1⟩
theorem pe_not (ha : PE X a ta) : PE X (.UnaryOp .Not a pos) (tNotV ta) := by
  intro pins s σ H Q I h
  refine UnaryOp_ (thn (ha pins s σ H _ I h) fun v s1 ⟨x, H1, I1, r1, q1⟩ => ?_)
  obtain ⟨c, rfl, q1⟩ := q1
  cases r1
  exact not_of (wpAny_truthy_bool ⟨.bl (!c), H1, I1, rfl, q1⟩)
/-- a if t else b -/
def tIf (t : TT) (ta tb : TE) : TE := fun σ H Q => t σ H fun c H1 => if c = true then ta σ H1 Q else tb σ H1 Q
theorem pe_ifExp {c : Expr} (hc : PT X c tA) (ha : PE X a ta) (hb : PE X b tb) : PE X (.IfExp c a b pos) (tIf tA ta tb) := by
  intro pins s σ H Q I h
  refine wpAny_IfExp (thn (hc pins s σ H _ I h) fun d s1 ⟨H1, I1, q1⟩ => ?_)
  cases d with
  | true => exact ha pins s1 σ H1 Q I1 q1
  | false => exact hb pins s1 σ H1 Q I1 q1
end
end L2

namespace L2
open PySem PySem.Spec PyProof.Rows

/-! ### a list, a tuple that is read: tracked, frozen, or an object of the module -/
def SqL (K : PySem.W.Frag) (H : Hp) (a : Addr) (xs : List V) : Prop :=
  Rd H a (.lst xs) ∨
    ∃ (o : Obj) (its : Array Value) (n : Nat), K.lookup a = some o ∧ o.cls = .type "list" ∧ o.dict = none ∧ o.data = .seq its n ∧ its.size ≤ sizeLine ∧ Vals xs its.toList
def SqT (K : PySem.W.Frag) (H : Hp) (a : Addr) (xs : List V) : Prop :=
  Rd H a (.tup xs) ∨
    ∃ (o : Obj) (its : Array Value) (n : Nat), K.lookup a = some o ∧ o.cls = .type "tuple" ∧ o.data = .seq its n ∧ its.size ≤ sizeLine ∧ Vals xs its.toList
def absV : Value → Option V
  | .none => some .non
  | .bool b => some (.bl b)
  | .int i _ => some (.int i)
  | .str x _ => some (.str x)
  | .bytes b _ => some (.byt b)
  | .float b _ => some (.flt b)
  | .ref a => some (.ref a)
  | .type n => some (.ty n)
  | _ => none
theorem RelV.abs {x : V} {u : Value} (r : RelV x u) : absV u = some x := by
  cases x with
  | non => cases r; rfl
  | bl _ => cases r; rfl
  | int _ => obtain ⟨t, rfl⟩ := r; rfl
  | str _ => obtain ⟨t, rfl⟩ := r; rfl
  | byt _ => obtain ⟨t, rfl⟩ := r; rfl
  | flt _ => obtain ⟨t, rfl⟩ := r; rfl
  | ref _ => cases r; rfl
  | ty _ => cases r; rfl
theorem RelV.inj {x y : V} {u : Value} (r : RelV x u) (q : RelV y u) : x = y := Option.some.inj (r.abs.symm.trans q.abs)
theorem Vals.inj : ∀ {xs ys : List V} {us : List Value}, Vals xs us → Vals ys us → xs = ys
  | _, _, _, .nil, .nil => rfl
  | _, _, _, .cons r t, .cons r' t' => by rw [r.inj r', Vals.inj t t']
section
variable {X : Cx} {pins : List (Addr × Obj)} {σ : St} {H : Hp} {s : Shared} {a : Addr} {xs ys : List V}
theorem SqL.of {K : PySem.W.Frag} (h : H a = some (.lst xs)) : SqL K H a xs := .inl (.inl h)
theorem SqT.of {K : PySem.W.Frag} (h : H a = some (.tup xs)) : SqT K H a xs := .inl (.inl h)
theorem Inv.list (I : Inv X pins σ H s) (h : SqL X.K H a xs) : ∃ its : List Value, Vals xs its ∧ PlainL s.heap a its.toArray ∧ xs.length ≤ sizeLine := by
  rcases h with h | ⟨o, its, n, hk, hc, hd, hs, hz, r⟩
  · obtain ⟨z, its, n, r, e⟩ := h.ok I.hok
    exact ⟨its, r, ⟨_, n, e, rfl, rfl, rfl⟩, z⟩
  · refine ⟨its.toList, r, ⟨o, n, I.kIn a o hk, hc, hd, by simpa using hs⟩, ?_⟩
    have e := r.length
    simp only [Array.length_toList] at e
    omega
theorem Inv.tuple (I : Inv X pins σ H s) (h : SqT X.K H a xs) : ∃ its : List Value, Vals xs its ∧ IsTup s.heap a its.toArray ∧ xs.length ≤ sizeLine := by
  rcases h with h | ⟨o, its, n, hk, hc, hs, hz, r⟩
  · obtain ⟨z, its, r, p⟩ := h.ok I.hok
    exact ⟨its, r, p, z⟩
  · refine ⟨its.toList, r, ⟨o, I.kIn a o hk, hc, n, by simpa using hs⟩, ?_⟩
    have e := r.length
    simp only [Array.length_toList] at e
    omega
theorem Inv.list_inj (I : Inv X pins σ H s) (h : SqL X.K H a xs) (h' : SqL X.K H a ys) : xs = ys := by
  obtain ⟨its, r, ⟨o, n, e, _, _, d⟩, _⟩ := I.list h
  obtain ⟨its', r', ⟨o', n', e', _, _, d'⟩, _⟩ := I.list h'
  rw [e] at e'; cases e'
  rw [d] at d'
  injection d' with d1 _
  have : its = its' := by simpa using congrArg Array.toList d1
  subst this
  exact r.inj r'
theorem Inv.tuple_inj (I : Inv X pins σ H s) (h : SqT X.K H a xs) (h' : SqT X.K H a ys) : xs = ys := by
  obtain ⟨its, r, ⟨o, e, _, n, d⟩, _⟩ := I.tuple h
  obtain ⟨its', r', ⟨o', e', _, n', d'⟩, _⟩ := I.tuple h'
  rw [e] at e'; cases e'
  rw [d] at d'
  injection d' with d1 _
  have : its = its' := by simpa using congrArg Array.toList d1
  subst this
  exact r.inj r'
end

/-! ### another wish about exceptions -/
abbrev Cx.wish (X : Cx) (E : Value → Shared → Prop) : Cx := { X with xe := E }
/-- no exception leaves -/
abbrev Cx.nox (X : Cx) : Cx := X.wish fun _ _ => False
theorem Cx.Ok.wish {X : Cx} (ok : X.Ok) (E : Value → Shared → Prop) : (X.wish E).Ok :=
  ⟨ok.mod, ok.kind, ok.glob, ok.blt, ok.above, ok.inj, ok.has, ok.cab, ok.hd, ok.frames, ok.stk, ok.exf, ok.bs, ok.bsz, ok.noex, ok.exfs, ok.funs, ok.frf⟩
theorem Cx.Ok.unwish {X : Cx} {E : Value → Shared → Prop} (ok : (X.wish E).Ok) : X.Ok :=
  ⟨ok.mod, ok.kind, ok.glob, ok.blt, ok.above, ok.inj, ok.has, ok.cab, ok.hd, ok.frames, ok.stk, ok.exf, ok.bs, ok.bsz, ok.noex, ok.exfs, ok.funs, ok.frf⟩
section
variable {X : Cx} {pins : List (Addr × Obj)} {σ : St} {H : Hp} {s : Shared} {E : Value → Shared → Prop}
theorem Inv.wish (I : Inv X pins σ H s) (E : Value → Shared → Prop) : Inv (X.wish E) pins σ H s := ⟨I.ok.wish E, I.os, I.bare, I.base, I.loc, I.cell, I.free, I.freeC, I.pin, I.hok, I.len⟩
theorem Inv.unwish (I : Inv (X.wish E) pins σ H s) : Inv X pins σ H s := ⟨I.ok.unwish, I.os, I.bare, I.base, I.loc, I.cell, I.free, I.freeC, I.pin, I.hok, I.len⟩
theorem SP.unwish {D : Ends} {f : Flow} {s' : Shared} (h : SP (X.wish E) pins D f s') : SP X pins D f s' := by
  cases f with
  | next => obtain ⟨σ', H', I, q⟩ := h; exact ⟨σ', H', I.unwish, q⟩
  | brk => obtain ⟨σ', H', I, q⟩ := h; exact ⟨σ', H', I.unwish, q⟩
  | cont => obtain ⟨σ', H', I, q⟩ := h; exact ⟨σ', H', I.unwish, q⟩
  | ret u => obtain ⟨v, σ', H', I, r, q⟩ := h; exact ⟨v, σ', H', I.unwish, r, q⟩
theorem PSs.nox {st : List Stmt} {t : TS} (h : PSs X.nox st t) : PSs X st t := fun pins s σ H D I hw =>
  wpAny_mono (h pins s σ H D (I.wish _) hw) (fun _ _ q => q.unwish) fun _ _ z => False.elim z
end

/-! ### blocks and small statements -/
section
variable {X : Cx} {st : Stmt} {rest : List Stmt} {t u : TS} {e : Expr} {te : TE} {pos : Pos}
def tNext : TS := fun D σ H => D.nx σ H
def tSeq (t u : TS) : TS := fun D σ H => t { D with nx := u D } σ H
theorem pss_nil : PSs X [] tNext := fun _ _ σ H _ I h => wpAny_execs_nil ⟨σ, H, I, h⟩
theorem pss_cons (h1 : PS X st t) (h2 : PSs X rest u) : PSs X (st :: rest) (tSeq t u) := by
  intro pins s σ H D I h
  refine wpAny_execs_cons (thn (h1 pins s σ H { D with nx := u D } I h) fun f s1 q => ?_)
  cases f with
  | next =>
    obtain ⟨σ', H', I', q⟩ := q
    exact h2 pins s1 σ' H' D I' q
  | ret v => exact q
  | brk => exact q
  | cont => exact q
theorem pss_one (h1 : PS X st t) : PSs X [st] t := by
  intro pins s σ H D I h
  refine wpAny_execs_cons (thn (h1 pins s σ H D I h) fun f s1 q => ?_)
  cases f with
  | next => exact wpAny_execs_nil q
  | ret v => exact q
  | brk => exact q
  | cont => exact q
/-- in a def's body nothing is shown -/
theorem Inv.quiet {pins : List (Addr × Obj)} {σ : St} {H : Hp} {s : Shared} (I : Inv X pins σ H s) : interactive X.env = false := by simp [interactive, I.ok.kind]
/-- an expression whose value is dropped -/
def tDrop (te : TE) : TS := fun D σ H => te σ H fun _ H1 => D.nx σ H1
theorem ps_expr (he : PE X e te) (hs : swapsWith e none pos.line X.env = pure false := by rfl) : PS X (.Expr e pos) (tDrop te) := by
  intro pins s σ H D I h
  exact wpAny_Expr_any (thn (he pins s σ H _ I h) fun v s1 ⟨x, H1, I1, r1, q1⟩ => ⟨σ, H1, I1, q1⟩) I.quiet hs
def tRet (te : TE) : TS := fun D σ H => te σ H D.rt
theorem ps_ret (he : PE X e te) : PS X (.Return (some e) pos) (tRet te) := by
  intro pins s σ H D I h
  exact wpAny_Return_some (thn (he pins s σ H _ I h) fun v s1 ⟨x, H1, I1, r1, q1⟩ => ⟨x, σ, H1, I1, r1, q1⟩)
def tIfS (c : TT) (t u : TS) : TS := fun D σ H => c σ H fun b H1 => if b = true then t D σ H1 else u D σ H1
theorem ps_if {c : Expr} {a b : List Stmt} {tc : TT} (hc : PT X c tc) (ha : PSs X a t) (hb : PSs X b u) : PS X (.If c a b pos) (tIfS tc t u) := by
  intro pins s σ H D I h
  refine wpAny_If (thn (hc pins s σ H _ I h) fun d s1 ⟨H1, I1, q1⟩ => ?_)
  cases d with
  | true => exact ha pins s1 σ H1 D I1 q1
  | false => exact hb pins s1 σ H1 D I1 q1
end

/-! ### targets -/
abbrev TG := V → St → Hp → (St → Hp → Prop) → Prop
abbrev TGs := List V → St → Hp → (St → Hp → Prop) → Prop
def PG (X : Cx) (target : Expr) (t : TG) : Prop :=
  ∀ (pins : List (Addr × Obj)) (s : Shared) (σ : St) (H : Hp) (v : V) (u : Value) (Q : St → Hp → Prop), Inv X pins σ H s → RelV v u → t v σ H Q →
    wpAny (model X.prog X.w) X.A (assign target X.env u) (fun _ s' => ∃ σ' H', Inv X pins σ' H' s' ∧ Q σ' H') X.xe s
/-- several targets, one after another -/
def PGs (X : Cx) (ts : List Expr) (t : TGs) : Prop :=
  ∀ (pins : List (Addr × Obj)) (s : Shared) (σ : St) (H : Hp) (vs : List V) (us : List Value) (Q : St → Hp → Prop), Inv X pins σ H s → Vals vs us → t vs σ H Q →
    wpAny (model X.prog X.w) X.A (assignInOrder ((assignEach ts X.env).map (·.2)) us) (fun _ s' => ∃ σ' H', Inv X pins σ' H' s' ∧ Q σ' H') X.xe s
/-- o[i] = v, by values -/
abbrev TSet := V → V → V → Hp → (Hp → Prop) → Prop
def PSet (X : Cx) (t : TSet) : Prop :=
  ∀ (pins : List (Addr × Obj)) (s : Shared) (σ : St) (H : Hp) (o i v : V) (ov iv u : Value) (Q : Hp → Prop), Inv X pins σ H s → RelV o ov → RelV i iv → RelV v u → t o i v H Q →
    wpAny (model X.prog X.w) X.A (setItem ov iv u) (fun _ s' => ∃ H', Inv X pins σ H' s' ∧ Q H') X.xe s
section
variable {X : Cx} {pos : Pos}
def gName (i : Nat) : TG := fun v σ H Q => Q (σ.set i (some v)) H
theorem pg_name {i : Nat} {x : Str} (hN : X.N.Nodup) (hi : X.N[i]? = some x) (hx : Loc X.env.scope x) (hf : X.fn x = true ∨ X.env.scope.names.lookup x = some .local := by first | exact .inl rfl | exact .inr rfl | assumption) : PG X (.Name x pos) (gName i) := by
  intro pins s σ H v u Q I r h
  exact wpAny_assign_Name (store_ok I hN hi hx r (fun s' I' => ⟨_, H, I', h⟩) hf)
def gNil : TGs := fun vs σ H Q => vs = [] ∧ Q σ H
def gCons (t : TG) (u : TGs) : TGs := fun vs σ H Q => ∃ v r, vs = v :: r ∧ t v σ H fun σ' H' => u r σ' H' Q
theorem pgs_nil : PGs X [] gNil := by
  intro pins s σ H vs us Q I r h
  obtain ⟨e, h⟩ := h
  subst e
  cases r
  exact assignInOrder_nil ⟨σ, H, I, h⟩
theorem pgs_cons {e : Expr} {es : List Expr} {t : TG} {u : TGs} (h1 : PG X e t) (h2 : PGs X es u)
    (hs : (assignEach (e :: es) X.env).map (·.2) = assign e X.env :: (assignEach es X.env).map (·.2) := by rfl) : PGs X (e :: es) (gCons t u) := by
  intro pins s σ H vs us Q I r h
  obtain ⟨v, vr, e1, h⟩ := h
  subst e1
  cases r with
  | cons r rr =>
    rw [hs]
    refine assignInOrder_cons (thn (h1 pins s σ H _ _ _ I r h) fun _ s1 ⟨σ1, H1, I1, q1⟩ => ?_)
    exact h2 pins s1 σ1 H1 _ _ Q I1 rr q1
/-- (a, b, ..) = a tuple of that length -/
def gTup (K : PySem.W.Frag) (n : Nat) (t : TGs) : TG := fun v σ H Q => ∃ a xs, v = .ref a ∧ SqT K H a xs ∧ xs.length = n ∧ t xs σ H Q
theorem pg_tup {es : List Expr} {k : Nat} {t : TGs} {n : Nat} (hc : X.calm = true) (h : PGs X es t)
    (hn : (assignEach es X.env).length = n := by rfl) (hst : (assignEach es X.env).findIdx? (·.1) = none := by rfl) : PG X (.Tuple es k pos) (gTup X.K n t) := by
  intro pins s σ H v u Q I r hw
  obtain ⟨a, xs, e1, hq, hl, hw⟩ := hw
  subst e1
  cases r
  obtain ⟨its, rv, ht, hz⟩ := I.tuple hq
  refine assign_Tuple_tuple (I.ok.hd hc) ht (by simp [hn, ← hl, rv.length]) hst fun h' hx => ?_
  have I1 : Inv X pins σ H { s with heap := h' } := I.kept (t' := s.toks) fun b o e => hx b o (Nat.ne_of_lt (Heap.lt_size e)) e
  exact h pins _ σ H xs _ Q I1 (by simpa using rv) hw
/-- o[i] = .. -/
def gSub (to ti : TE) (t : TSet) : TG := fun v σ H Q => to σ H fun o H1 => ti σ H1 fun i H2 => t o i v H2 fun H3 => Q σ H3
theorem pg_sub {o i : Expr} {to ti : TE} {t : TSet} (ho : PE X o to) (hi : PE X i ti) (hs : PSet X t)
    (ha : ∀ v, assign (.Subscript o i pos) X.env v = (do
      let ov ← holding [v] (eval o X.env)
      let iv ← holding [v, ov] (eval i X.env)
      standAt pos
      holding [v, ov, iv] (setItem ov iv v)
      release [v, ov, iv] []) := by intro _; rfl) : PG X (.Subscript o i pos) (gSub to ti t) := by
  intro pins s σ H v u Q I r h
  rw [ha]
  refine wpAny_bind (wpAny_holding (thn (ho pins s σ H _ I h) fun ov s1 ⟨x, H1, I1, r1, q1⟩ => ?_))
  refine wpAny_bind (wpAny_holding (thn (hi pins s1 σ H1 _ I1 q1) fun iv s2 ⟨y, H2, I2, r2, q2⟩ => ?_))
  refine wpAny_bind (wpAny_standAt (wpAny_bind (wpAny_holding (thn (hs pins s2 σ H2 x y v ov iv u _ I2 r1 r2 r q2) fun _ s3 ⟨H3, I3, q3⟩ => ?_))))
  exact wpAny_release ⟨σ, H3, I3, q3⟩
/-- target = value -/
def tAsg (te : TE) (g : TG) : TS := fun D σ H => te σ H fun x H1 => g x σ H1 D.nx
theorem ps_asg {tg e : Expr} {te : TE} {g : TG} (he : PE X e te) (hg : PG X tg g) (hs : swapsWithSole [tg] e pos.line X.env = pure false := by rfl) (hw : swappedStores [tg] e X.env = pure none := by rfl)
    (h1 : (assignEach [tg] X.env).map (·.2) = [assign tg X.env] := by rfl) : PS X (.Assign [tg] e pos) (tAsg te g) := by
  intro pins s σ H D I h
  refine wpAny_Assign_stores (thn (he pins s σ H _ I h) fun v s1 ⟨x, H1, I1, r1, q1⟩ => ?_) hs hw
  rw [h1]
  exact thn (hg pins s1 σ H1 x v _ I1 r1 q1) fun _ s2 q => q
/-- name = value -/
theorem ps_set {i : Nat} {x : Str} {e : Expr} {te : TE} {pos' : Pos} (hN : X.N.Nodup) (hi : X.N[i]? = some x) (hx : Loc X.env.scope x) (he : PE X e te) (hs : swapsWith e (some (.Name x pos')) pos.line X.env = pure false := by rfl) (hf : X.fn x = true ∨ X.env.scope.names.lookup x = some .local := by first | exact .inl rfl | exact .inr rfl | assumption) :
    PS X (.Assign [.Name x pos'] e pos) (tAsg te (gName i)) := by
  intro pins s σ H D I h
  refine wpAny_Assign_Name (thn (he pins s σ H _ I h) fun v s1 ⟨y, H1, I1, r1, q1⟩ => ?_) hs
  exact store_ok I1 hN hi hx r1 (fun s2 I2 => ⟨_, H1, I2, q1⟩) hf
end

/-! ### while -/
section
variable {X : Cx} {pos : Pos}
end

/-! ### what a loop or a comprehension walks -/
/-- at turn i: it yields x (the heap may grow), or it stops -/
structure It where
  go : Nat → Hp → Prop
  yld : Nat → Hp → V → Hp → Prop
  stop : Nat → Hp → Prop
/-- the iterator's own objects may turn: they are not the frame's, not pinned, younger than the entry (or a comprehension's own) -/
def FpOk (X : Cx) (pins : List (Addr × Obj)) (H : Hp) (b : Addr) : Prop :=
  H b = none ∧ b ≠ X.env.locals ∧ b ∉ X.fs ∧ (b ∈ X.ex ∨ X.s₀.heap.objs.size ≤ b) ∧ (∀ x c, X.env.cells.lookup x = some c → c ≠ b) ∧ ∀ p ∈ X.pn ++ pins, p.1 ≠ b
theorem Inv.fpOk {X : Cx} {pins : List (Addr × Obj)} {σ : St} {H H' : Hp} {s : Shared} {b : Addr} (I : Inv X pins σ H s) (hb : s.heap.objs.size ≤ b) (hn : H' b = none) : FpOk X pins H' b := by
  refine ⟨hn, Nat.ne_of_gt (Nat.lt_of_lt_of_le I.lt hb), I.nofs hb, .inr (Nat.le_trans I.sz hb), fun x c e z => ?_, fun p hp z => ?_⟩
  · obtain ⟨v, q⟩ := I.cell x c e
    exact absurd (Nat.lt_of_lt_of_le q.lt (by rw [z]; exact hb)) (Nat.lt_irrefl _)
  · exact absurd (Nat.lt_of_lt_of_le (Heap.lt_size (I.pin p hp).1) (by rw [z]; exact hb)) (Nat.lt_irrefl _)
structure Turn (P : Program) (w : World) (K : PySem.W.Frag) (tg : Expr) (J : It) (fp : List Addr) (it : Addr) (tn : Nat → Heap → Prop) : Prop where
  mem : it ∈ fp
  obj : ∀ i h, tn i h → ∀ b ∈ fp, ∃ o, h.get? b = some o ∧ ∀ v, o.data ≠ .cell v
  keep : ∀ i h h', tn i h → (∀ b ∈ fp, ∀ o, h.get? b = some o → h'.get? b = some o) → tn i h'
  item : ∀ (X : Cx), X.prog = P → X.w = w → X.K = K → X.calm = true → ∀ (i : Nat) (pins : List (Addr × Obj)) (s : Shared) (σ : St) (H : Hp) (E : Value → Shared → Prop), Inv X pins σ H s → (∀ b ∈ fp, FpOk X pins H b) → tn i s.heap → J.go i H →
    wpAny (model P w) X.A (pyNext (.ref it)) (fun r s1 => ∃ u, r = some u ∧
      wpAny (model P w) X.A (letOwnedTupleGo tg (.ref it) u) (fun _ s2 => ∃ x H', Inv X pins σ H' s2 ∧ RelV x u ∧ J.yld i H x H' ∧ tn (i + 1) s2.heap ∧ ∀ b ∈ fp, H' b = none) E s1) E s
  done : ∀ (X : Cx), X.prog = P → X.w = w → X.K = K → X.calm = true → ∀ (i : Nat) (pins : List (Addr × Obj)) (s : Shared) (σ : St) (H : Hp) (E : Value → Shared → Prop), Inv X pins σ H s → (∀ b ∈ fp, FpOk X pins H b) → tn i s.heap → J.stop i H →
    wpAny (model P w) X.A (pyNext (.ref it)) (fun r s1 => r = none ∧ Inv X pins σ H s1) E s
  self : ∀ (A : Around) (i : Nat) (s : Shared) (Q : Value → Shared → Prop) (E : Value → Shared → Prop), tn i s.heap → Q (.ref it) s → wpAny (model P w) A (pyIter (.ref it)) Q E s
abbrev TI := St → Hp → (It → Hp → Prop) → Prop
/-- an iterator has come -/
def PIE (X : Cx) (pins : List (Addr × Obj)) (σ : St) (tg : Expr) (R : It → Hp → Prop) (itv : Value) (s2 : Shared) : Prop :=
  ∃ (it : Addr) (fp : List Addr) (tn : Nat → Heap → Prop) (J : It) (H' : Hp), itv = .ref it ∧ Inv X pins σ H' s2 ∧ Turn X.prog X.w X.K tg J fp it tn ∧ tn 0 s2.heap ∧ (∀ b ∈ fp, FpOk X pins H' b) ∧ R J H'
def PI (X : Cx) (tg iter : Expr) (wi : TI) : Prop :=
  ∀ (pins : List (Addr × Obj)) (s : Shared) (σ : St) (H : Hp) (R : It → Hp → Prop), Inv X pins σ H s → wi σ H R →
    wpAny (model X.prog X.w) X.A (eval iter X.env) (fun v s1 => wpAny (model X.prog X.w) X.A (pyIter v) (PIE X pins σ tg R) X.xe s1) X.xe s

/-- the step ahead of the store is nothing for an iterator that keeps no tuple -/
theorem go_of {M : Model} {A : Around} {E : Value → Shared → Prop} {s : Shared} {tg : Expr} {it : Addr} {u : Value} {o : Obj} {n : String} {vs : Array Value} {Q : Unit → Shared → Prop} (ho : s.heap.get? it = some o) (hc : o.cls = .type n) (hd : o.data = .fields vs)
    (hn : ["enumerate", "zip", "dict_itemiterator", "dict_reverseitemiterator", "odict_iterator", "itertools.zip_longest", "itertools.pairwise"].contains n = false) (hQ : Q () s) : wpAny M A (letOwnedTupleGo tg (.ref it) u) Q E s := by
  unfold letOwnedTupleGo
  cases tg <;> first
    | exact wpAny_pure hQ
    | (cases u <;> first
        | exact wpAny_pure hQ
        | (refine wpAny_bind (wpAny_load ho ?_)
           rw [hc, hd]
           show wpAny M A (if (["enumerate", "zip", "dict_itemiterator", "dict_reverseitemiterator", "odict_iterator", "itertools.zip_longest", "itertools.pairwise"].contains n && vs[0]? == some (rawInt _)) = true then _ else _) Q E s
           rw [if_neg (by intro h; rw [hn, Bool.false_and] at h; cases h)]
           exact wpAny_pure hQ))

/-- the list at a, as it stands at each turn (a loop may append to it) -/
def Itl (K : PySem.W.Frag) (a : Addr) : It :=
  ⟨fun i H => ∃ xs x, SqL K H a xs ∧ xs[i]? = some x, fun i H x H' => H' = H ∧ ∀ xs, SqL K H a xs → xs[i]? = some x, fun i H => ∃ xs, SqL K H a xs ∧ xs.length ≤ i⟩
def Itt (K : PySem.W.Frag) (a : Addr) : It :=
  ⟨fun i H => ∃ xs x, SqT K H a xs ∧ xs[i]? = some x, fun i H x H' => H' = H ∧ ∀ xs, SqT K H a xs → xs[i]? = some x, fun i H => ∃ xs, SqT K H a xs ∧ xs.length ≤ i⟩
/-- lo, lo + 1, .. (n of them) -/
def Itr (lo : Int) (n : Nat) : It := ⟨fun i _ => i < n, fun i H x H' => H' = H ∧ x = .int (lo + i), fun i _ => n ≤ i⟩
theorem turn_list {P : Program} {w : World} {K : PySem.W.Frag} {tg : Expr} (a it : Addr) : Turn P w K tg (Itl K a) [it] it (fun i h => h.IsListIter it a i) where
  mem := by simp
  obj := fun i h st b hb => by
    have e : b = it := by simpa using hb
    subst e
    obtain ⟨o, e, c, d⟩ := st
    exact ⟨o, e, fun v z => by rw [d] at z; cases z⟩
  keep := fun i h h' st k => st.at fun o e => k it (by simp) o e
  item := by
    intro X hP hw hK hc i pins s σ H E I hf st hg
    subst hP hw hK
    obtain ⟨xs, x, hq, hx⟩ := hg
    obtain ⟨its, rv, p, hz⟩ := I.list hq
    obtain ⟨u, hu, ru⟩ := rv.get hx
    obtain ⟨f0, f1, f2, f3, f4, f5⟩ := hf it (by simp)
    refine wpAny_pyNext_list_item st p.isList (x := u) (by simpa using hu) fun h' st' sb => ?_
    have I1 : Inv X pins σ H { s with heap := h' } := I.turned (t' := s.toks) (fun b o hb e => (sb.2 b hb).trans e) f0 f1 f3 f4 f5
    obtain ⟨o, e, c, d⟩ := id st'
    exact ⟨u, rfl, go_of (s := { s with heap := h' }) e c d (by decide) ⟨x, H, I1, ru, ⟨rfl, fun ys hy => by rw [I.list_inj hy hq]; exact hx⟩, st', fun b hb => (hf b hb).1⟩⟩
  done := by
    intro X hP hw hK hc i pins s σ H E I hf st hg
    subst hP hw hK
    obtain ⟨xs, hq, hx⟩ := hg
    obtain ⟨its, rv, p, hz⟩ := I.list hq
    obtain ⟨f0, f1, f2, f3, f4, f5⟩ := hf it (by simp)
    have hl := rv.length
    exact wpAny_pyNext_list_end (I.ok.hd hc) st p.isList (by simp; omega) fun h' eb => ⟨rfl, I.turned (t' := s.toks) (fun b o hb e => eb b o hb e) f0 f1 f3 f4 f5⟩
  self := fun _ _ _ _ _ st h => wpAny_pyIter_listiter st h
theorem turn_tuple {P : Program} {w : World} {K : PySem.W.Frag} {tg : Expr} (a it : Addr) : Turn P w K tg (Itt K a) [it] it (fun i h => h.IsTupleIter it a i) where
  mem := by simp
  obj := fun i h st b hb => by
    have e : b = it := by simpa using hb
    subst e
    obtain ⟨o, e, c, d⟩ := st
    exact ⟨o, e, fun v z => by rw [d] at z; cases z⟩
  keep := fun i h h' st k => st.at fun o e => k it (by simp) o e
  item := by
    intro X hP hw hK hc i pins s σ H E I hf st hg
    subst hP hw hK
    obtain ⟨xs, x, hq, hx⟩ := hg
    obtain ⟨its, rv, p, hz⟩ := I.tuple hq
    obtain ⟨u, hu, ru⟩ := rv.get hx
    obtain ⟨f0, f1, f2, f3, f4, f5⟩ := hf it (by simp)
    refine wpAny_pyNext_tuple_item st (show s.heap.IsTuple a its.toArray from p) (x := u) (by simpa using hu) fun h' st' sb => ?_
    have I1 : Inv X pins σ H { s with heap := h' } := I.turned (t' := s.toks) (fun b o hb e => (sb.2 b hb).trans e) f0 f1 f3 f4 f5
    obtain ⟨o, e, c, d⟩ := id st'
    exact ⟨u, rfl, go_of (s := { s with heap := h' }) e c d (by decide) ⟨x, H, I1, ru, ⟨rfl, fun ys hy => by rw [I.tuple_inj hy hq]; exact hx⟩, st', fun b hb => (hf b hb).1⟩⟩
  done := by
    intro X hP hw hK hc i pins s σ H E I hf st hg
    subst hP hw hK
    obtain ⟨xs, hq, hx⟩ := hg
    obtain ⟨its, rv, p, hz⟩ := I.tuple hq
    obtain ⟨f0, f1, f2, f3, f4, f5⟩ := hf it (by simp)
    have hl := rv.length
    exact wpAny_pyNext_tuple_end (I.ok.hd hc) st (show s.heap.IsTuple a its.toArray from p) (by simp; omega) fun h' eb => ⟨rfl, I.turned (t' := s.toks) (fun b o hb e => eb b o hb e) f0 f1 f3 f4 f5⟩
  self := fun _ _ _ _ _ st h => wpAny_pyIter_tupleiter st h
theorem turn_range {P : Program} {w : World} {K : PySem.W.Frag} {tg : Expr} (it : Addr) (lo : Int) (n : Nat) : Turn P w K tg (Itr lo n) [it] it (fun i h => IsRangeIter h it (lo + (i : Nat) * 1) ((n : Int) - (i : Nat)) 1) where
  mem := by simp
  obj := fun i h st b hb => by
    have e : b = it := by simpa using hb
    subst e
    exact ⟨_, st, fun v z => by
      have z' : Data.fields _ = Data.cell v := z
      cases z'⟩
  keep := fun i h h' st k => k it (by simp) _ st
  item := by
    intro X hP hw hK hc i pins s σ H E I hf st hg
    subst hP hw hK
    obtain ⟨f0, f1, f2, f3, f4, f5⟩ := hf it (by simp)
    have W := Walks.range (prog := X.prog) (w := X.w) (I.ok.hd hc) it lo 1 n
    refine W.item i s _ _ hg st fun v h' tk hv st' kk => ?_
    obtain ⟨t, rfl⟩ := hv
    have I1 : Inv X pins σ H { s with heap := h', toks := tk } := I.turned (fun b o hb e => kk b o (by simpa using hb) e) f0 f1 f3 f4 f5
    refine ⟨_, rfl, go_of (s := { s with heap := h', toks := tk }) (n := "range_iterator") st' rfl rfl (by decide) ⟨.int (lo + i), H, I1, ⟨t, ?_⟩, ⟨rfl, rfl⟩, st', fun b hb => (hf b hb).1⟩⟩
    rw [Int.mul_one]
  done := by
    intro X hP hw hK hc i pins s σ H E I hf st hg
    subst hP hw hK
    obtain ⟨f0, f1, f2, f3, f4, f5⟩ := hf it (by simp)
    exact wpAny_pyNext_range_end (I.ok.hd hc) st (by have : n ≤ i := hg; omega) fun h' eb => ⟨rfl, I.turned (t' := s.toks) (fun b o hb e => eb b o hb e) f0 f1 f3 f4 f5⟩
  self := fun _ _ _ _ _ st h => wpAny_pyIter_rangeiter st h
end L2

namespace L2
open PySem PySem.Spec PyProof.Rows
section
variable {X : Cx} {tg : Expr}
def iList (K : PySem.W.Frag) (tl : TE) : TI := fun σ H R => tl σ H fun x H1 => ∃ a, x = .ref a ∧ (∃ xs, SqL K H1 a xs) ∧ R (Itl K a) H1
def iTup (K : PySem.W.Frag) (tl : TE) : TI := fun σ H R => tl σ H fun x H1 => ∃ a, x = .ref a ∧ (∃ xs, SqT K H1 a xs) ∧ R (Itt K a) H1
theorem pi_list {l : Expr} {tl : TE} (hl : PE X l tl) : PI X tg l (iList X.K tl) := by
  intro pins s σ H R I h
  refine thn (hl pins s σ H _ I h) fun v s1 ⟨x, H1, I1, r1, q1⟩ => ?_
  obtain ⟨a, e, ⟨xs, hq⟩, q⟩ := q1
  subst e
  cases r1
  obtain ⟨its, rv, p, hz⟩ := I1.list hq
  refine wpAny_pyIter_list p.isList ?_
  refine ⟨s1.heap.objs.size, [s1.heap.objs.size], _, _, H1, rfl, I1.kept (t' := s1.toks) fun b o e => Heap.get?_push_of_some _ e, turn_list a _, ⟨_, Heap.get?_push_size _ rfl, rfl, rfl⟩, fun b hb => ?_, q⟩
  have e : b = s1.heap.objs.size := by simpa using hb
  subst e
  exact I1.fpOk (Nat.le_refl _) (I1.hok.fresh (Nat.le_refl _))
theorem pi_tup {l : Expr} {tl : TE} (hl : PE X l tl) : PI X tg l (iTup X.K tl) := by
  intro pins s σ H R I h
  refine thn (hl pins s σ H _ I h) fun v s1 ⟨x, H1, I1, r1, q1⟩ => ?_
  obtain ⟨a, e, ⟨xs, hq⟩, q⟩ := q1
  subst e
  cases r1
  obtain ⟨its, rv, p, hz⟩ := I1.tuple hq
  refine wpAny_pyIter_tuple (show s1.heap.IsTuple a its.toArray from p) ?_
  refine ⟨s1.heap.objs.size, [s1.heap.objs.size], _, _, H1, rfl, I1.kept (t' := s1.toks) fun b o e => Heap.get?_push_of_some _ e, turn_tuple a _, ⟨_, Heap.get?_push_size _ rfl, rfl, rfl⟩, fun b hb => ?_, q⟩
  have e : b = s1.heap.objs.size := by simpa using hb
  subst e
  exact I1.fpOk (Nat.le_refl _) (I1.hok.fresh (Nat.le_refl _))
/-- a range object just made, walked -/
theorem range_it {pins : List (Addr × Obj)} {σ : St} {H : Hp} {s : Shared} {R : It → Hp → Prop} {E : Value → Shared → Prop} {lo hi : Int} {t u v : Tok} {tk : Nat} (I : Inv X pins σ H s) (h1 : -(2 ^ 62) ≤ lo) (h2 : lo < 2 ^ 62) (h3 : -(2 ^ 62) ≤ hi) (h4 : hi < 2 ^ 62)
    (q : R (Itr lo (hi - lo).toNat) H) : wpAny (model X.prog X.w) X.A (pyIter (.ref s.heap.objs.size)) (PIE X pins σ tg R) E { s with heap := s.heap.push { cls := .type "range", data := .fields #[.int lo t, .int hi u, .int 1 v] }, toks := tk } := by
  refine wpAny_pyIter_range (IsRange.new ..) (small_one h1 h2 h3 h4) ?_
  have I1 : Inv X pins σ H { s with heap := s.heap.push { cls := .type "range", data := .fields #[.int lo t, .int hi u, .int 1 v] }, toks := tk } := I.kept fun b o e => Heap.get?_push_of_some _ e
  refine ⟨(s.heap.push { cls := .type "range", data := .fields #[.int lo t, .int hi u, .int 1 v] }).objs.size, [(s.heap.push { cls := .type "range", data := .fields #[.int lo t, .int hi u, .int 1 v] }).objs.size], _, _, H, rfl,
    I1.kept (t' := tk) fun b o e => Heap.get?_push_of_some _ e, turn_range _ lo (hi - lo).toNat, ?_, fun b hb => ?_, q⟩
  · have e1 : lo + ((0 : Nat) : Int) * 1 = lo := by simp
    have e2 : (((hi - lo).toNat : Nat) : Int) - ((0 : Nat) : Int) = Builtin.Range.rangeSize lo hi 1 := by rw [rangeSize_one]; split <;> omega
    show IsRangeIter _ _ (lo + ((0 : Nat) : Int) * 1) ((((hi - lo).toNat : Nat) : Int) - ((0 : Nat) : Int)) 1
    rw [e1, e2]
    exact Heap.get?_push_size _ rfl
  · have e : b = (s.heap.push { cls := .type "range", data := .fields #[.int lo t, .int hi u, .int 1 v] }).objs.size := by simpa using hb
    subst e
    exact I1.fpOk (Nat.le_refl _) (I1.hok.fresh (Nat.le_refl _))
def iRng1 (ta : TA) : TI := fun σ H R => ta σ H fun vs H1 => ∃ j : Int, vs = [.int j] ∧ -(2 ^ 62) ≤ j ∧ j < 2 ^ 62 ∧ R (Itr 0 j.toNat) H1
theorem pi_range1 {a : Expr} {ta : TA} {p pos : Pos} (hg : Gl X "range") (hm : X.mg "range" = none) (ha : PA X [a] ta) (hs : starEach [a] X.env = [(false, eval a X.env)] := by rfl) : PI X tg (.Call (.Name "range" p) [a] [] pos) (iRng1 ta) := by
  intro pins s σ H R I h
  refine Call_ (ld_blt I hg hm boot_range (PyProof.Rows.callWith_type1 (thn (ha pos pins s σ H _ I h) fun us s1 ⟨vs, H1, I1, r1, q1⟩ => ?_) hs rfl))
  obtain ⟨j, e, q1, q2, q⟩ := q1
  subst e
  cases r1 with
  | cons r rr =>
    cases rr
    obtain ⟨t, rfl⟩ := r
    exact call_range_1 (range_it I1 (by omega) (by omega) q1 q2 (by simpa using q))

/-! ### for -/
/-- W: the invariant by the turn and a measure; N: what the body is to reach -/
def tFor (wi : TI) (g : TG) (tb : TS) : TS := fun D σ H => wi σ H fun J H1 => ∃ W : Nat → Nat → St → Hp → Prop, (∃ m, W 0 m σ H1) ∧ ∀ i m σ H, W i m σ H →
  (J.stop i H ∧ D.nx σ H) ∨ (J.go i H ∧ ∃ N : St → Hp → Prop, (∀ σ' H', N σ' H' → ∃ m', m' < m ∧ W (i + 1) m' σ' H') ∧ ∀ x H', J.yld i H x H' → g x σ H' fun σ2 H2 => tb { D with nx := N, ct := N, bk := D.nx } σ2 H2)
/-- the records at fp as they stand -/
def pinsAt (fp : List Addr) (h : Heap) : List (Addr × Obj) := fp.filterMap fun b => (h.get? b).map fun o => (b, o)
theorem mem_pinsAt {fp : List Addr} {h : Heap} {b : Addr} {o : Obj} (hb : b ∈ fp) (e : h.get? b = some o) : (b, o) ∈ pinsAt fp h := List.mem_filterMap.mpr ⟨b, hb, by rw [e]; rfl⟩
theorem of_pinsAt {fp : List Addr} {h : Heap} {p : Addr × Obj} (hp : p ∈ pinsAt fp h) : p.1 ∈ fp ∧ h.get? p.1 = some p.2 := by
  obtain ⟨b, hb, e⟩ := List.mem_filterMap.mp hp
  cases q : h.get? b with
  | none => rw [q] at e; cases e
  | some o =>
    rw [q] at e
    have e' : (b, o) = p := Option.some.inj e
    subst e'
    exact ⟨hb, q⟩
theorem Inv.pinned {pins : List (Addr × Obj)} {σ : St} {H : Hp} {s : Shared} {fp : List Addr} (I : Inv X pins σ H s) (hf : ∀ b ∈ fp, FpOk X pins H b) (ho : ∀ b ∈ fp, ∃ o, s.heap.get? b = some o ∧ ∀ v, o.data ≠ .cell v) : Inv X (pins ++ pinsAt fp s.heap) σ H s :=
  I.pins_of fun p hp => (List.mem_append.mp hp).elim (fun z => I.pin p (List.mem_append_right _ z)) fun z => by
    obtain ⟨hb, e⟩ := of_pinsAt z
    obtain ⟨f0, f1, f2, _⟩ := hf p.1 hb
    obtain ⟨o, e', d⟩ := ho p.1 hb
    rw [e] at e'; cases e'
    exact ⟨e, f0, f1, f2, d⟩
theorem Inv.unpinned {pins pl : List (Addr × Obj)} {σ : St} {H : Hp} {s : Shared} (I : Inv X (pins ++ pl) σ H s) : Inv X pins σ H s := I.pins_of fun p hp => I.pin p (List.mem_append_right _ (List.mem_append_left _ hp))
theorem ps_for {iter : Expr} {body : List Stmt} {wi : TI} {g : TG} {tb : TS} {pos : Pos} (hp : PassesOwn (model X.prog X.w) X.A X.env X.xe) (hc : X.calm = true) (hi : PI X tg iter wi) (hg : PG X tg g) (hb : PSs X body tb)
    (hs : ∀ x, foldedSetIterable iter X.env x = pure x := by intro _; rfl) : PS X (.For tg iter body [] pos) (tFor wi g tb) := by
  intro pins s σ H D I h
  refine wpAny_For (thn (hi pins s σ H _ I h) fun v s1 h1 => thn h1 fun itv s2 h2 => ?_) hs
  obtain ⟨it, fp, tn, J, H2, e, I2, T, st2, f2, W, ⟨m0, w0⟩, turn⟩ := h2
  subst e
  -- what stays true of the iterator's objects through the loop
  have stat : ∀ {H' : Hp}, (∀ b ∈ fp, H' b = none) → ∀ b ∈ fp, FpOk X pins H' b := fun hn b hb => ⟨hn b hb, (f2 b hb).2⟩
  refine codeAny_forLoop_any (fun n s' => ∃ i σ' H', Inv X pins σ' H' s' ∧ tn i s'.heap ∧ (∀ b ∈ fp, H' b = none) ∧ W i n σ' H') ?_ m0 ⟨0, σ, H2, I2, st2, fun b hb => (f2 b hb).1, w0⟩
  rintro n s3 ⟨i, σ3, H3, I3, st3, fr3, w3⟩
  rcases turn i n σ3 H3 w3 with ⟨stop, qn⟩ | ⟨go, N, hN, step⟩
  · refine wpAny_passesOwn hp (thn (T.done X rfl rfl rfl hc i pins s3 σ3 H3 X.xe I3 (stat fr3) st3 stop) fun r s4 ⟨hr, I4⟩ => ?_)
    subst hr
    exact wpAny_execs_nil ⟨σ3, H3, I4, qn⟩
  · refine wpAny_passesOwn hp (thn (T.item X rfl rfl rfl hc i pins s3 σ3 H3 X.xe I3 (stat fr3) st3 go) fun r s4 ⟨u, hr, h4⟩ => ?_)
    subst hr
    refine wpAny_passesOwn hp (thn h4 fun _ s5 ⟨x, H5, I5, r5, y5, st5, fr5⟩ => ?_)
    have I5' := I5.pinned (stat fr5) (T.obj _ _ st5)
    refine wpAny_passesOwn hp (thn (hg _ s5 σ3 H5 x u _ I5' r5 (step x H5 y5)) fun _ s6 ⟨σ6, H6, I6, q6⟩ => ?_)
    refine wpAny_passesOwn hp (thn (hb _ s6 σ6 H6 _ I6 q6) fun f s7 q7 => ?_)
    have again : ∀ {σ7 : St} {H7 : Hp}, Inv X (pins ++ pinsAt fp s5.heap) σ7 H7 s7 → N σ7 H7 → ∃ m, m < n ∧ ∃ i σ' H', Inv X pins σ' H' s7 ∧ tn i s7.heap ∧ (∀ b ∈ fp, H' b = none) ∧ W i m σ' H' := fun {σ7 H7} I7 n7 => by
      obtain ⟨m', hm, w7⟩ := hN σ7 H7 n7
      refine ⟨m', hm, i + 1, σ7, H7, I7.unpinned, T.keep _ _ _ st5 fun b hb o e => (I7.pin (b, o) (List.mem_append_right _ (List.mem_append_right _ (mem_pinsAt hb e)))).1, fun b hb => ?_, w7⟩
      obtain ⟨o, e, d⟩ := T.obj _ _ st5 b hb
      exact (I7.pin (b, o) (List.mem_append_right _ (List.mem_append_right _ (mem_pinsAt hb e)))).2.1
    cases f with
    | next => obtain ⟨σ7, H7, I7, n7⟩ := q7; exact again I7 n7
    | cont => obtain ⟨σ7, H7, I7, n7⟩ := q7; exact again I7 n7
    | brk => obtain ⟨σ7, H7, I7, q7⟩ := q7; exact ⟨σ7, H7, I7.unpinned, q7⟩
    | ret v => obtain ⟨x7, σ7, H7, I7, r7, q7⟩ := q7; exact ⟨x7, σ7, H7, I7.unpinned, r7, q7⟩
end

/-! ### the forms one uses -/
theorem for_range {lo : Int} {n : Nat} {g : TG} {tb : TS} {D : Ends} {σ : St} {H : Hp} (Pv : Nat → St → Hp → Prop) (h0 : Pv 0 σ H)
    (hs : ∀ i σ H, i < n → Pv i σ H → g (.int (lo + i)) σ H fun σ2 H2 => tb { D with nx := Pv (i + 1), ct := Pv (i + 1), bk := D.nx } σ2 H2) (hd : ∀ σ H, Pv n σ H → D.nx σ H) :
    ∃ W : Nat → Nat → St → Hp → Prop, (∃ m, W 0 m σ H) ∧ ∀ i m σ H, W i m σ H →
      ((Itr lo n).stop i H ∧ D.nx σ H) ∨ ((Itr lo n).go i H ∧ ∃ N : St → Hp → Prop, (∀ σ' H', N σ' H' → ∃ m', m' < m ∧ W (i + 1) m' σ' H') ∧ ∀ x H', (Itr lo n).yld i H x H' → g x σ H' fun σ2 H2 => tb { D with nx := N, ct := N, bk := D.nx } σ2 H2) := by
  refine ⟨fun i m σ H => m = n - i ∧ i ≤ n ∧ Pv i σ H, ⟨n, by simp, Nat.zero_le _, h0⟩, ?_⟩
  rintro i m σ H ⟨rfl, hi, p⟩
  by_cases hlt : i < n
  · refine .inr ⟨hlt, Pv (i + 1), fun σ' H' p' => ⟨n - (i + 1), by omega, rfl, hlt, p'⟩, fun x H' y => ?_⟩
    obtain ⟨e, y⟩ := y
    subst e y
    exact hs i σ _ hlt p
  · have e : i = n := by omega
    subst e
    exact .inl ⟨Nat.le_refl _, hd σ H p⟩
end L2

namespace L2
open PySem PySem.Spec PyProof.Rows

abbrev R2 := V → V → Hp → VK → Prop
/-- a two-place operation on values: f is binaryOp op, inplaceOp op or compareOp op -/
def OpR (X : Cx) (f : Value → Value → Sem Value) (r : R2) : Prop :=
  ∀ (pins : List (Addr × Obj)) (s : Shared) (σ : St) (H : Hp) (x y : V) (v u : Value) (Q : VK), Inv X pins σ H s → RelV x v → RelV y u → r x y H Q →
    wpAny (model X.prog X.w) X.A (f v u) (EP X pins σ Q) X.xe s
/-- a one-place operation -/
def UnR (X : Cx) (f : Value → Sem Value) (r : V → Hp → VK → Prop) : Prop :=
  ∀ (pins : List (Addr × Obj)) (s : Shared) (σ : St) (H : Hp) (x : V) (v : Value) (Q : VK), Inv X pins σ H s → RelV x v → r x H Q →
    wpAny (model X.prog X.w) X.A (f v) (EP X pins σ Q) X.xe s
/-- a call of a value that is known (a builtin, a type) with values -/
def CallR (X : Cx) (f : Value) (r : List V → Hp → VK → Prop) : Prop :=
  ∀ (pins : List (Addr × Obj)) (s : Shared) (σ : St) (H : Hp) (xs : List V) (us : List Value) (Q : VK), Inv X pins σ H s → Vals xs us → r xs H Q →
    wpAny (model X.prog X.w) X.A (call f us) (EP X pins σ Q) X.xe s

def tOp (r : R2) (ta tb : TE) : TE := fun σ H Q => ta σ H fun x H1 => tb σ H1 fun y H2 => r x y H2 Q
def tUn (r : V → Hp → VK → Prop) (ta : TE) : TE := fun σ H Q => ta σ H fun x H1 => r x H1 Q
/-- ints in, under C, and a value out -/
def rI (C : Int → Int → Prop) (g : Int → Int → V) : R2 := fun x y H Q => ∃ i j, x = .int i ∧ y = .int j ∧ C i j ∧ Q (g i j) H
def rI0 (g : Int → Int → V) : R2 := fun x y H Q => ∃ i j, x = .int i ∧ y = .int j ∧ Q (g i j) H
def rU (g : Int → V) : V → Hp → VK → Prop := fun x H Q => ∃ i, x = .int i ∧ Q (g i) H

section
variable {X : Cx} {a b c : Expr} {ta tb tc : TE} {pos : Pos}

theorem binT (ha : PE X a ta) (hb : PE X b tb) {pins : List (Addr × Obj)} {s : Shared} {σ : St} {H : Hp} {R : V → V → Hp → Prop} (I : Inv X pins σ H s)
    (h : ta σ H fun x H1 => tb σ H1 fun y H2 => R x y H2) {Q : Value → Shared → Prop} {f : Value → Value → Sem Value}
    (hf : ∀ v u s2 x y H2, Inv X pins σ H2 s2 → RelV x v → RelV y u → R x y H2 → wpAny (model X.prog X.w) X.A (f v u) Q X.xe s2) :
    wpAny (model X.prog X.w) X.A (eval a X.env) (fun v s₁ => wpAny (model X.prog X.w) X.A (eval b X.env) (fun u s₂ => wpAny (model X.prog X.w) X.A (f v u) Q X.xe s₂) X.xe s₁) X.xe s := by
  refine thn (ha pins s σ H _ I h) fun v s1 ⟨x, H1, I1, r1, q1⟩ => ?_
  refine thn (hb pins s1 σ H1 _ I1 q1) fun u s2 ⟨y, H2, I2, r2, q2⟩ => ?_
  exact hf v u s2 x y H2 I2 r1 r2 q2

theorem pe_op {op : Operator} {r : R2} (ho : OpR X (binaryOp op) r) (ha : PE X a ta) (hb : PE X b tb) : PE X (.BinOp a op b pos) (tOp r ta tb) := by
  intro pins s σ H Q I h
  exact wpAny_BinOp (binT ha hb I h fun v u s2 x y H2 I2 rx ry q => ho pins s2 σ H2 x y v u Q I2 rx ry q)
theorem pe_un {op : UnaryOp} {r : V → Hp → VK → Prop} (ho : UnR X (unaryOp op) r) (ha : PE X a ta) : PE X (.UnaryOp op a pos) (tUn r ta) := by
  intro pins s σ H Q I h
  exact UnaryOp_ (thn (ha pins s σ H _ I h) fun v s1 ⟨x, H1, I1, r1, q1⟩ => ho pins s1 σ H1 x v Q I1 r1 q1)

/-! ### ints -/
theorem opI {f : Value → Value → Sem Value} {C : Int → Int → Prop} {g : Int → Int → Int}
    (rule : ∀ (i j : Int) (t u : Tok) (s : Shared) (Q : Value → Shared → Prop) (E : Value → Shared → Prop), C i j → Q (.int (g i j) s.toks) { s with toks := s.toks + 1 } → wpAny (model X.prog X.w) X.A (f (.int i t) (.int j u)) Q E s) :
    OpR X f (rI C fun i j => .int (g i j)) := by
  intro pins s σ H x y v u Q I rx ry h
  obtain ⟨i, j, rfl, rfl, hc, q⟩ := h
  obtain ⟨t, rfl⟩ := rx
  obtain ⟨t', rfl⟩ := ry
  exact rule i j t t' s _ _ hc ⟨.int (g i j), H, I.tok _, ⟨_, rfl⟩, q⟩
theorem opI0 {f : Value → Value → Sem Value} {g : Int → Int → Int}
    (rule : ∀ (i j : Int) (t u : Tok) (s : Shared) (Q : Value → Shared → Prop) (E : Value → Shared → Prop), Q (.int (g i j) s.toks) { s with toks := s.toks + 1 } → wpAny (model X.prog X.w) X.A (f (.int i t) (.int j u)) Q E s) :
    OpR X f (rI0 fun i j => .int (g i j)) := by
  intro pins s σ H x y v u Q I rx ry h
  obtain ⟨i, j, rfl, rfl, q⟩ := h
  obtain ⟨t, rfl⟩ := rx
  obtain ⟨t', rfl⟩ := ry
  exact rule i j t t' s _ _ ⟨.int (g i j), H, I.tok _, ⟨_, rfl⟩, q⟩
theorem opB0 {f : Value → Value → Sem Value} {g : Int → Int → Bool}
    (rule : ∀ (i j : Int) (t u : Tok) (s : Shared) (Q : Value → Shared → Prop) (E : Value → Shared → Prop), Q (.bool (g i j)) s → wpAny (model X.prog X.w) X.A (f (.int i t) (.int j u)) Q E s) :
    OpR X f (rI0 fun i j => .bl (g i j)) := by
  intro pins s σ H x y v u Q I rx ry h
  obtain ⟨i, j, rfl, rfl, q⟩ := h
  obtain ⟨t, rfl⟩ := rx
  obtain ⟨t', rfl⟩ := ry
  exact rule i j t t' s _ _ ⟨.bl (g i j), H, I, rfl, q⟩

def CPow (i j : Int) : Prop := 0 ≤ j ∧ j ≤ 1000000 ∧ i.natAbs < 2 ^ 64
def CMul (i j : Int) : Prop := (-(2 ^ 64) < i ∧ i < 2 ^ 64) ∨ (-(2 ^ 64) < j ∧ j < 2 ^ 64)
theorem CMul.ok {i j : Int} (h : CMul i j) : IntMulOk i j := by
  rcases h with ⟨h1, h2⟩ | ⟨h1, h2⟩
  · exact .of_left (intBits_le_64 h1 h2)
  · exact .of_right (intBits_le_64 h1 h2)

theorem op_add : OpR X (binaryOp .Add) (rI0 fun i j => .int (i + j)) := opI0 fun _ _ _ _ _ _ _ q => add_int q
theorem op_sub : OpR X (binaryOp .Sub) (rI0 fun i j => .int (i - j)) := opI0 fun _ _ _ _ _ _ _ q => sub_int q
theorem op_mul : OpR X (binaryOp .Mult) (rI CMul fun i j => .int (i * j)) := opI fun _ _ _ _ _ _ _ hc q => mul_int q hc.ok
/-- % by a positive divisor of any size -/
theorem op_mod : OpR X (binaryOp .Mod) (rI (fun _ j => 0 < j) fun i j => .int (i % j)) := opI fun i j _ _ _ _ _ hc q => by
  have h1 : (0 : Int) < j := hc
  exact mod_int' (by omega) (by rw [Int.fmod_eq_emod_of_nonneg i (by omega)]; exact q)
theorem op_pow : OpR X (binaryOp .Pow) (rI CPow fun i j => .int (i ^ j.toNat)) := opI fun _ _ _ _ _ _ _ hc q => pow_int_small hc.1 hc.2.1 hc.2.2 q


theorem unI {f : Value → Sem Value} {g : Int → Int}
    (rule : ∀ (i : Int) (t : Tok) (s : Shared) (Q : Value → Shared → Prop) (E : Value → Shared → Prop), Q (.int (g i) s.toks) { s with toks := s.toks + 1 } → wpAny (model X.prog X.w) X.A (f (.int i t)) Q E s) :
    UnR X f (rU fun i => .int (g i)) := by
  intro pins s σ H x v Q I rx h
  obtain ⟨i, rfl, q⟩ := h
  obtain ⟨t, rfl⟩ := rx
  exact rule i t s _ _ ⟨.int (g i), H, I.tok _, ⟨_, rfl⟩, q⟩
theorem un_neg : UnR X (unaryOp .USub) (rU fun i => .int (-i)) := unI fun _ _ _ _ _ q => neg_int q

/-! ### bools among ints: n += (a < b) -/
end

/-! ### comparisons -/
/-- the scalars that == tells apart as data does -/
def scal : V → V → Bool
  | .non, .non => true | .non, .int _ => true | .int _, .non => true | .non, .bl _ => true | .bl _, .non => true | .non, .str _ => true | .str _, .non => true
  | .int _, .int _ => true | .bl _, .bl _ => true | .str _, .str _ => true | .byt _, .byt _ => true
  | .int _, .str _ => true | .str _, .int _ => true | .bl _, .str _ => true | .str _, .bl _ => true
  | _, _ => false
def rEq : R2 := fun x y H Q => scal x y = true ∧ Q (.bl (decide (x = y))) H
def rNe : R2 := fun x y H Q => scal x y = true ∧ Q (.bl (!decide (x = y))) H

theorem dec_int {i j : Int} : decide (V.int i = V.int j) = (i == j) := by
  rw [Bool.eq_iff_iff]
  simp
theorem dec_bl {i j : Bool} : decide (V.bl i = V.bl j) = (i == j) := by
  rw [Bool.eq_iff_iff]
  simp
theorem dec_str {i j : Str} : decide (V.str i = V.str j) = (i == j) := by
  rw [Bool.eq_iff_iff]
  simp
theorem dec_byt {i j : Array UInt8} : decide (V.byt i = V.byt j) = (i.toList == j.toList) := by
  rw [Bool.eq_iff_iff]
  cases i
  cases j
  simp

section
variable {X : Cx} {a b c : Expr} {ta tb tc : TE} {pos : Pos}
theorem fin_bl {pins : List (Addr × Obj)} {σ : St} {H : Hp} {s : Shared} {Q : VK} {k k' : Bool} (I : Inv X pins σ H s) (q : Q (.bl k) H) (e : k = k') : EP X pins σ Q (.bool k') s := by
  subst e
  exact ⟨.bl k, H, I, rfl, q⟩
theorem op_eq : OpR X (compareOp .Eq) rEq := by
  intro pins s σ H x y v u Q I rx ry h
  obtain ⟨hs, q⟩ := h
  cases x with
  | non =>
    cases rx
    cases y with
    | non => cases ry; exact PySem.EqNone.eq_none_none (fin_bl I q (by simp))
    | bl j => cases ry; exact PySem.EqNone.eq_none_bool (fin_bl I q (by simp))
    | int j => obtain ⟨t', rfl⟩ := ry; exact PySem.EqNone.eq_none_int (fin_bl I q (by simp))
    | str j => obtain ⟨t', rfl⟩ := ry; exact PySem.EqNone.eq_none_str (fin_bl I q (by simp))
    | _ => exact absurd (show false = true from hs) Bool.false_ne_true
  | bl i =>
    cases rx
    cases y with
    | non => cases ry; exact PySem.EqNone.eq_bool_none (fin_bl I q (by simp))
    | bl j => cases ry; exact eq_bool (fin_bl I q dec_bl)
    | str j => obtain ⟨t', rfl⟩ := ry; exact PySem.EqMixed.eq_bool_str (fin_bl I q (by simp))
    | _ => exact absurd (show false = true from hs) Bool.false_ne_true
  | int i =>
    obtain ⟨t, rfl⟩ := rx
    cases y with
    | non => cases ry; exact PySem.EqNone.eq_int_none (fin_bl I q (by simp))
    | int j => obtain ⟨t', rfl⟩ := ry; exact eq_int (fin_bl I q dec_int)
    | str j => obtain ⟨t', rfl⟩ := ry; exact PySem.EqMixed.eq_int_str (fin_bl I q (by simp))
    | _ => exact absurd (show false = true from hs) Bool.false_ne_true
  | str i =>
    obtain ⟨t, rfl⟩ := rx
    cases y with
    | non => cases ry; exact PySem.EqNone.eq_str_none (fin_bl I q (by simp))
    | bl j => cases ry; exact PySem.EqMixed.eq_str_bool (fin_bl I q (by simp))
    | int j => obtain ⟨t', rfl⟩ := ry; exact PySem.EqMixed.eq_str_int (fin_bl I q (by simp))
    | str j => obtain ⟨t', rfl⟩ := ry; exact eq_str (fin_bl I q dec_str)
    | _ => exact absurd (show false = true from hs) Bool.false_ne_true
  | byt i =>
    obtain ⟨t, rfl⟩ := rx
    cases y with
    | byt j => obtain ⟨t', rfl⟩ := ry; exact PySem.W.eq_bytes (fin_bl I q dec_byt)
    | _ => exact absurd (show false = true from hs) Bool.false_ne_true
  | _ => cases y <;> exact absurd (show false = true from hs) Bool.false_ne_true
theorem op_ne : OpR X (compareOp .NotEq) rNe := by
  intro pins s σ H x y v u Q I rx ry h
  obtain ⟨hs, q⟩ := h
  cases x with
  | non =>
    cases rx
    cases y with
    | non => cases ry; exact PySem.EqNone.ne_none_none (fin_bl I q (by simp))
    | bl j => cases ry; exact PySem.EqNone.ne_none_bool (fin_bl I q (by simp))
    | int j => obtain ⟨t', rfl⟩ := ry; exact PySem.EqNone.ne_none_int (fin_bl I q (by simp))
    | str j => obtain ⟨t', rfl⟩ := ry; exact PySem.EqNone.ne_none_str (fin_bl I q (by simp))
    | _ => exact absurd (show false = true from hs) Bool.false_ne_true
  | bl i =>
    cases rx
    cases y with
    | non => cases ry; exact PySem.EqNone.ne_bool_none (fin_bl I q (by simp))
    | bl j => cases ry; exact ne_bool (fin_bl I q (congrArg not dec_bl))
    | str j => obtain ⟨t', rfl⟩ := ry; exact PySem.EqMixed.ne_bool_str (fin_bl I q (by simp))
    | _ => exact absurd (show false = true from hs) Bool.false_ne_true
  | int i =>
    obtain ⟨t, rfl⟩ := rx
    cases y with
    | non => cases ry; exact PySem.EqNone.ne_int_none (fin_bl I q (by simp))
    | int j => obtain ⟨t', rfl⟩ := ry; exact ne_int (fin_bl I q (congrArg not dec_int))
    | str j => obtain ⟨t', rfl⟩ := ry; exact PySem.EqMixed.ne_int_str (fin_bl I q (by simp))
    | _ => exact absurd (show false = true from hs) Bool.false_ne_true
  | str i =>
    obtain ⟨t, rfl⟩ := rx
    cases y with
    | non => cases ry; exact PySem.EqNone.ne_str_none (fin_bl I q (by simp))
    | bl j => cases ry; exact PySem.EqMixed.ne_str_bool (fin_bl I q (by simp))
    | int j => obtain ⟨t', rfl⟩ := ry; exact PySem.EqMixed.ne_str_int (fin_bl I q (by simp))
    | str j => obtain ⟨t', rfl⟩ := ry; exact ne_str (fin_bl I q (congrArg not dec_str))
    | _ => exact absurd (show false = true from hs) Bool.false_ne_true
  | byt i =>
    obtain ⟨t, rfl⟩ := rx
    cases y with
    | byt j => obtain ⟨t', rfl⟩ := ry; exact PySem.W.ne_bytes (fin_bl I q (congrArg not dec_byt))
    | _ => exact absurd (show false = true from hs) Bool.false_ne_true
  | _ => cases y <;> exact absurd (show false = true from hs) Bool.false_ne_true

theorem op_lt : OpR X (compareOp .Lt) (rI0 fun i j => .bl (decide (i < j))) := opB0 fun _ _ _ _ _ _ _ q => lt_int q
theorem op_le : OpR X (compareOp .LtE) (rI0 fun i j => .bl (decide (i ≤ j))) := opB0 fun _ _ _ _ _ _ _ q => le_int q
theorem op_gt : OpR X (compareOp .Gt) (rI0 fun i j => .bl (decide (j < i))) := opB0 fun _ _ _ _ _ _ _ q => gt_int q
/-- the one string within the other -/
theorem op_in_str : OpR X (compareOp .In) (fun x y H Q => ∃ i j, x = .str i ∧ y = .str j ∧ Q (.bl (!(Builtin.Str.occurrences j i 0 j.length 1).isEmpty)) H) := by
  intro pins s σ H x y v u Q I rx ry h
  obtain ⟨i, j, rfl, rfl, q⟩ := h
  obtain ⟨t, rfl⟩ := rx
  obtain ⟨t', rfl⟩ := ry
  exact in_str (fin_bl I q rfl)

/-- is None, is not None: the right side a value none -/
theorem op_isN : OpR X (compareOp .Is) (fun x y H Q => y = .non ∧ Q (.bl (decide (x = .non))) H) := by
  intro pins s σ H x y v u Q I rx ry h
  obtain ⟨rfl, q⟩ := h
  cases ry
  refine is_none_gen (fin_bl I q ?_)
  cases x <;> first
    | (cases rx; rfl)
    | (obtain ⟨t, rfl⟩ := rx; rfl)

theorem op_notin_str : OpR X (compareOp .NotIn) (fun x y H Q => ∃ i j, x = .str i ∧ y = .str j ∧ Q (.bl (!(!(Builtin.Str.occurrences j i 0 j.length 1).isEmpty))) H) := by
  intro pins s σ H x y v u Q I rx ry h
  obtain ⟨i, j, rfl, rfl, q⟩ := h
  obtain ⟨t, rfl⟩ := rx
  obtain ⟨t', rfl⟩ := ry
  exact notIn_str (fin_bl I q rfl)


theorem nomark (b : Expr) {op : CmpOp} (h : op ≠ .In := by decide) (h2 : op ≠ .NotIn := by decide) : behindInMarks op b = false := by
  have e1 : (op == CmpOp.In) = false := by cases op <;> first | rfl | exact absurd rfl h
  have e2 : (op == CmpOp.NotIn) = false := by cases op <;> first | rfl | exact absurd rfl h2
  cases b <;> simp [behindInMarks, e1, e2]
/-- a comparison as a value; hm: nomark b, or (for in, not in) by with_unfolding_all rfl -/
theorem pe_cmpR {op : CmpOp} {r : R2} (ho : OpR X (compareOp op) r) (ha : PE X a ta) (hb : PE X b tb) (hm : behindInMarks op b = false) : PE X (.Compare a [op] [b] pos) (tOp r ta tb) := by
  intro pins s σ H Q I h
  exact wpAny_Compare1 (binT ha hb I h fun v u s2 x y H2 I2 rx ry q => ho pins s2 σ H2 x y v u Q I2 rx ry q) hm
/-- a reading of a value as a test -/
def tTest (t : TE) : TT := fun σ H Q => t σ H fun x H' => ∃ k, x = .bl k ∧ Q k H'
theorem pt_cmpR {op : CmpOp} {r : R2} (ho : OpR X (compareOp op) r) (ha : PE X a ta) (hb : PE X b tb) (hm : behindInMarks op b = false) : PT X (.Compare a [op] [b] pos) (tTest (tOp r ta tb)) := by
  intro pins s σ H Q I h
  refine wpAny_isTrue_Compare1 (thn (ha pins s σ H _ I h) fun v s1 ⟨x, H1, I1, r1, q1⟩ => thn (hb pins s1 σ H1 _ I1 q1) fun u s2 ⟨y, H2, I2, r2, q2⟩ =>
    thn (ho pins s2 σ H2 x y v u _ I2 r1 r2 q2) fun c s3 ⟨z, H3, I3, r3, k, e, q3⟩ => ?_) hm
  subst e
  cases r3
  exact wpAny_truthy_bool ⟨H3, I3, q3⟩
/-- a op1 b op2 c -/
def tChain (r r' : R2) (ta tb tc : TE) : TE := fun σ H Q => ta σ H fun x H1 => tb σ H1 fun y H2 => r x y H2 fun z H3 => ∃ k, z = .bl k ∧
  (if k = true then tc σ H3 fun w' H4 => r' y w' H4 Q else Q (.bl false) H3)
theorem pe_chain {op op' : CmpOp} {r r' : R2} (ho : OpR X (compareOp op) r) (ho' : OpR X (compareOp op') r') (ha : PE X a ta) (hb : PE X b tb) (hc : PE X c tc)
    (hm : lastMarks [op, op'] [b, c] = false := by with_unfolding_all rfl) : PE X (.Compare a [op, op'] [b, c] pos) (tChain r r' ta tb tc) := by
  intro pins s σ H Q I h
  refine Compare_chain (thn (ha pins s σ H _ I h) fun v s1 ⟨x, H1, I1, r1, q1⟩ => chain_link (thn (hb pins s1 σ H1 _ I1 q1) fun u s2 ⟨y, H2, I2, r2, q2⟩ =>
    thn (ho pins s2 σ H2 x y v u _ I2 r1 r2 q2) fun d s3 ⟨z, H3, I3, r3, k, e, q3⟩ => ?_)) hm
  subst e
  cases r3
  refine wpAny_truthy_bool ?_
  cases k with
  | false => exact ite_ff ⟨.bl false, H3, I3, rfl, q3⟩
  | true => exact ite_tt (chain_last (thn (hc pins s3 σ H3 _ I3 q3) fun w' s4 ⟨z', H4, I4, r4, q4⟩ => ho' pins s4 σ H4 y z' u w' Q I4 r2 r4 q4))
theorem pt_chain {op op' : CmpOp} {r r' : R2} (ho : OpR X (compareOp op) r) (ho' : OpR X (compareOp op') r') (ha : PE X a ta) (hb : PE X b tb) (hc : PE X c tc)
    (hm : lastMarks [op, op'] [b, c] = false := by with_unfolding_all rfl) : PT X (.Compare a [op, op'] [b, c] pos) (tTest (tChain r r' ta tb tc)) := by
  intro pins s σ H Q I h
  refine isTrue_chain (thn (ha pins s σ H _ I h) fun v s1 ⟨x, H1, I1, r1, q1⟩ => test_link (thn (hb pins s1 σ H1 _ I1 q1) fun u s2 ⟨y, H2, I2, r2, q2⟩ =>
    thn (ho pins s2 σ H2 x y v u _ I2 r1 r2 q2) fun d s3 ⟨z, H3, I3, r3, k, e, q3⟩ => ?_)) hm
  subst e
  cases r3
  refine wpAny_truthy_bool ?_
  cases k with
  | false =>
    obtain ⟨k', e', q'⟩ := q3
    cases e'
    exact ite_ff ⟨H3, I3, q'⟩
  | true =>
    refine ite_tt (test_last (thn (hc pins s3 σ H3 _ I3 q3) fun w' s4 ⟨z', H4, I4, r4, q4⟩ => thn (ho' pins s4 σ H4 y z' u w' _ I4 r2 r4 q4) fun d' s5 ⟨z2, H5, I5, r5, k2, e2, q5⟩ => ?_))
    subst e2
    cases r5
    exact wpAny_truthy_bool ⟨H5, I5, q5⟩

/-! ### truth -/
theorem line63 : (sizeLine : Nat) < 2 ^ 63 := by rw [sizeLine_eq]; decide

/-! ### strs and bytes -/
theorem op_add_str : OpR X (binaryOp .Add) (fun x y H Q => ∃ i j, x = .str i ∧ y = .str j ∧ i.length + j.length ≤ sizeLine ∧ Q (.str (i ++ j)) H) := by
  intro pins s σ H x y v u Q I rx ry h
  obtain ⟨i, j, rfl, rfl, hz, q⟩ := h
  obtain ⟨t, rfl⟩ := rx
  obtain ⟨t', rfl⟩ := ry
  exact add_str (fun t' tk => ⟨.str (i ++ j), H, I.tok _, ⟨_, rfl⟩, q⟩) hz


/-! ### scalar builtins, by CallR -/
theorem vals1 {x : V} {us : List Value} (r : Vals [x] us) : ∃ u, us = [u] ∧ RelV x u := by
  cases r with
  | cons r1 r2 => cases r2; exact ⟨_, rfl, r1⟩
theorem vals2 {x y : V} {us : List Value} (r : Vals [x, y] us) : ∃ u w', us = [u, w'] ∧ RelV x u ∧ RelV y w' := by
  cases r with
  | cons r1 r2 =>
    cases r2 with
    | cons r3 r4 => cases r4; exact ⟨_, _, rfl, r1, r3⟩
theorem call_max2 (hc : X.calm = true) : CallR X (.builtin "max") (fun xs H Q => ∃ i j, xs = [.int i, .int j] ∧ Q (.int (if j > i then j else i)) H) := by
  intro pins s σ H xs us Q I r h
  obtain ⟨i, j, rfl, q⟩ := h
  obtain ⟨u, w', rfl, ⟨t, rfl⟩, ⟨t', rfl⟩⟩ := vals2 r
  refine max_two_ints (I.ok.hd hc) fun h' tk k => ⟨_, H, I.kept k, ?_, q⟩
  by_cases hj : j > i
  · rw [if_pos hj, if_pos hj]; exact ⟨_, rfl⟩
  · rw [if_neg hj, if_neg hj]; exact ⟨_, rfl⟩
theorem call_int1 : CallR X (.type "int") (fun xs H Q => (∃ i, xs = [.int i] ∧ Q (.int i) H) ∨ ∃ k, xs = [.bl k] ∧ Q (.int (if k then 1 else 0)) H) := by
  intro pins s σ H xs us Q I r h
  rcases h with ⟨i, rfl, q⟩ | ⟨k, rfl, q⟩
  · obtain ⟨u, rfl, t, rfl⟩ := vals1 r
    exact call_int_int ⟨.int i, H, I, ⟨_, rfl⟩, q⟩
  · obtain ⟨u, rfl, r1⟩ := vals1 r
    cases r1
    exact call_int_bool ⟨.int (if k then 1 else 0), H, I.tok _, ⟨_, rfl⟩, q⟩
theorem call_str_int : CallR X (.type "str") (fun xs H Q => ∃ i, xs = [.int i] ∧ i.natAbs.log2 < 1920 ∧ Q (.str (toString i)) H) := by
  intro pins s σ H xs us Q I r h
  obtain ⟨i, rfl, hz, q⟩ := h
  obtain ⟨u, rfl, t, rfl⟩ := vals1 r
  exact PySem.P.str_of_int hz ⟨.str _, H, I.tok _, ⟨_, rfl⟩, q⟩
end
end L2

namespace L2
open PySem PySem.Spec PyProof.Rows

/-! ### an instance, its attributes a map -/
structure ObjM (h : Heap) (x dx C : Addr) (mA : Str → Option Value) : Prop where
  obj : h.get? x = some (PySem.W.instObj C dx)
  ns : h.Ns1 dx mA
  ne : dx ≠ x

theorem lookIn_ns {h : Heap} {dx : Addr} {mA : Str → Option Value} (n : h.Ns1 dx mA) : ∃ od, h.get? dx = some od ∧ ∀ name, PySem.W.lookIn name od = some (mA name) := by
  obtain ⟨o, es, ep, ho, hd, hk, _, hm⟩ := n
  refine ⟨o, ho, fun name => ?_⟩
  have e := hm name
  unfold nsFind findBy at e
  rw [← Array.find?_toList] at e
  unfold PySem.W.lookIn
  rw [hd]
  dsimp only
  split
  · rename_i y q
    rw [q] at e
    exact congrArg some e
  · rename_i q
    rw [q] at e
    have a : es.toList.any (·.refKey) = false := by
      rw [List.any_eq_false]
      intro y hy
      obtain ⟨z, t, hkey⟩ := hk y (Array.mem_toList_iff.mp hy)
      simp [DictEntry.refKey, hkey]
    have a' : ¬ es.toList.any (·.refKey) = true := by rw [a]; exact Bool.false_ne_true
    rw [if_neg a']
    exact congrArg some e

theorem ObjM.look {h : Heap} {x dx C : Addr} {mA : Str → Option Value} (I : ObjM h x dx C mA) : ∃ od, PySem.W.InstAt h x (PySem.W.instObj C dx) C (some od) ∧ ∀ name, PySem.W.lookIn name od = some (mA name) :=
  let ⟨od, ho, hl⟩ := lookIn_ns I.ns
  ⟨od, ⟨I.obj, rfl, rfl, ho⟩, hl⟩

section
variable {prog : Program} {w : World} {A : Around} {E : Value → Shared → Prop} {s : Shared} {K : PySem.W.Frag} {x dx C f : Addr} {mA : Str → Option Value} {name : Str} {v : Value}





end

/-! ### the attributes as a list of pairs -/

theorem RelO.some_of {v : V} {o : Option Value} (r : RelO (some v) o) : ∃ u, o = some u ∧ RelV v u := by
  cases o with
  | none => exact (show False from r).elim
  | some u => exact ⟨u, rfl, r⟩

section
variable {P : Program} {w : World} {H H' : Hp} {h h' : Heap} {a C dx : Addr} {fs fs' : List (Str × V)}
theorem ins_get (hok : HOk P w H h) (e : H a = some (.ins C dx fs)) : ∃ mA, ObjM h a dx C mA ∧ (∀ f, RelO (fs.lookup f) (mA f)) ∧ PySem.Within mA (fs.map (·.1)) ∧ fs.length ≤ 1000 ∧ H dx = some (.own a) := by
  obtain ⟨d, z, ne, ob, mA, n, r, q⟩ := (show ObjOk P w H h a (.ins C dx fs) from hok a _ e)
  exact ⟨mA, ⟨ob, n, ne⟩, r, q, z, d⟩
end

/-! ### what of the text a class must have -/
structure Cls (K : PySem.W.Frag) (C : Addr) : Prop where
  pg : PySem.W.plainGet K C Str.empty = true
  hd : PySem.W.hasDictIn K C = true
  po : PySem.W.plainOver K C = true
  sa : PySem.W.findIn K (.ref C) "__setattr__" = some (some (.builtin "object.__setattr__"))
theorem Cls.get {K : PySem.W.Frag} {C : Addr} (c : Cls K C) (f : Str) : PySem.W.plainGet K C f = true := c.pg

section
variable {X : Cx} {pins : List (Addr × Obj)} {σ : St} {H : Hp} {s : Shared} {a C dx : Addr} {fs : List (Str × V)} {f : Str} {v : V} {A : Around} {E : Value → Shared → Prop}






/-- e.f where nothing but the object is asked: through attributeBase (super) and the last hold -/
theorem attr_of {prog : Program} {w : World} {env : Env} {e : Expr} {f : Str} {pos : Pos} {s : Shared} {Q : Value → Shared → Prop} (hb : attributeBase e f env (eval e env) = eval e env)
    (h : wpAny (model prog w) A (eval e env) (fun o s₁ => wpAny (model prog w) A (getAttr o f true) Q E s₁) E s) : wpAny (model prog w) A (eval (.Attribute e f pos) env) Q E s :=
  Attribute_any_ h (by rw [arm_eval_Attribute, hb])
end

/-! ### readings and rules -/

section
variable {X : Cx} {o e value : Expr} {f : Str} {pos pos' tpos : Pos} {ta tv : TE}

end

/-! ### isinstance -/
section
variable {X : Cx} {pins : List (Addr × Obj)} {σ : St} {H : Hp} {s : Shared} {A : Around} {E : Value → Shared → Prop} {Q : Value → Shared → Prop} {c : Value} {b : Bool}
/-- the type of a value, as the fragment's deciders take it; for an instance its class -/
inductive TyOf (K : PySem.W.Frag) (H : Hp) : V → Value → Prop where
  | non : TyOf K H .non (.type "NoneType")
  | bl (x : Bool) : TyOf K H (.bl x) (.type "bool")
  | int (i : Int) : TyOf K H (.int i) (.type "int")
  | str (x : Str) : TyOf K H (.str x) (.type "str")
  | flt (x : UInt64) : TyOf K H (.flt x) (.type "float")
  | lst {a : Addr} {xs : List V} (e : H a = some (.lst xs)) : TyOf K H (.ref a) (.type "list")
  | frz {a : Addr} {o : Obj} {xs : List V} (e : H a = some (.frz o (.lst xs))) : TyOf K H (.ref a) (.type "list")
  | tup {a : Addr} {xs : List V} (e : H a = some (.tup xs)) : TyOf K H (.ref a) (.type "tuple")
  | dK {a : Addr} {kvs : List (Key × V)} (e : H a = some (.dK kvs)) : TyOf K H (.ref a) (.type "dict")
  | dT {a : Addr} {kvs : List (List Key × V)} (e : H a = some (.dT kvs)) : TyOf K H (.ref a) (.type "dict")
  | ins {a C dx : Addr} {fs : List (Str × V)} (e : H a = some (.ins C dx fs)) (cl : Cls K C) (ha : PySem.W.findIn K (.ref C) "__class__" = some (some (.builtin "object.__class__")))
      (hn : PySem.W.specialIn K (.builtin "object.__class__") "__get__" = some (some (.builtin "getset_descriptor.__get__"))) (htk : PySem.W.takesIn K (.builtin "object.__class__") = some true)
      (hm : PySem.W.mroIn K C (.type "object") = some true) : TyOf K H (.ref a) (.ref C)
/-- isinstance(x, c) for one class c, a built-in or an own one: kitOne's answer -/
theorem isinst_ok {x : V} {u t : Value} (I : Inv X pins σ H s) (rx : RelV x u) (ty : TyOf X.K H x t) (e : PySem.W.kitOne X.K t c = some b) (h : ∀ tk, Q (.bool b) { s with toks := tk }) :
    wpAny (model X.prog X.w) A (call (.builtin "isinstance") [u, c]) Q E s := by
  cases ty with
  | non => cases (show u = Value.none from rx); exact PySem.W.kia_one PySem.W.kitx_none I.kIn True.intro e (fun z => nomatch z) h
  | bl y => cases (show u = Value.bool y from rx); exact PySem.W.kia_one PySem.W.kitx_bool I.kIn True.intro e (fun z => nomatch z) h
  | int i => obtain ⟨t, q⟩ := (show ∃ t, u = Value.int i t from rx); cases q; exact PySem.W.kia_one PySem.W.kitx_int I.kIn True.intro e (fun z => nomatch z) h
  | str y => obtain ⟨t, q⟩ := (show ∃ t, u = Value.str y t from rx); cases q; exact PySem.W.kia_one PySem.W.kitx_str I.kIn True.intro e (fun z => nomatch z) h
  | flt y => obtain ⟨t, q⟩ := (show ∃ t, u = Value.float y t from rx); cases q; exact PySem.W.kia_one PySem.W.kitx_float I.kIn True.intro e (fun z => nomatch z) h
  | @lst a xs ea =>
    cases (show u = Value.ref a from rx)
    obtain ⟨_, _, n, _, h1⟩ := (show ObjOk X.prog X.w H s.heap a (.lst xs) from I.hok a _ ea)
    exact PySem.W.kia_one PySem.W.kitx_list I.kIn ⟨_, h1, rfl⟩ e (fun z => nomatch z) h
  | @frz a ob xs ea =>
    cases (show u = Value.ref a from rx)
    obtain ⟨_, _, _, n, _, h1⟩ := (show ObjOk X.prog X.w H s.heap a (.frz ob (.lst xs)) from I.hok a _ ea)
    exact PySem.W.kia_one PySem.W.kitx_list I.kIn ⟨_, h1, rfl⟩ e (fun z => nomatch z) h
  | @tup a xs ea =>
    cases (show u = Value.ref a from rx)
    obtain ⟨_, _, _, p⟩ := (show ObjOk X.prog X.w H s.heap a (.tup xs) from I.hok a _ ea)
    obtain ⟨o, h1, h2, _⟩ := p
    exact PySem.W.kia_one PySem.W.kitx_tuple I.kIn ⟨o, h1, h2⟩ e (fun z => nomatch z) h
  | @dK a kvs ea =>
    cases (show u = Value.ref a from rx)
    obtain ⟨_, _, vs, _, p⟩ := (show ObjOk X.prog X.w H s.heap a (.dK kvs) from I.hok a _ ea)
    obtain ⟨o, es, ep, h1, h2, _⟩ := p
    exact PySem.W.kia_one PySem.W.kitx_dict I.kIn ⟨o, h1, h2.1⟩ e (fun z => nomatch z) h
  | @dT a kvs ea =>
    cases (show u = Value.ref a from rx)
    obtain ⟨_, _, xs, _, o, es, ep, h1, h2, _⟩ := (show ObjOk X.prog X.w H s.heap a (.dT kvs) from I.hok a _ ea)
    exact PySem.W.kia_one PySem.W.kitx_dict I.kIn ⟨o, h1, h2.1⟩ e (fun z => nomatch z) h
  | @ins a C dx fs ea cl ha hn htk hm =>
    cases (show u = Value.ref a from rx)
    obtain ⟨mA, O, _⟩ := ins_get I.hok ea
    obtain ⟨od, J, _⟩ := O.look
    exact PySem.W.kia_one (PySem.W.kitx_own (cl.get _) cl.hd ha hn htk hm) I.kIn J e (fun z => nomatch z) h
end
end L2

namespace L2
open PySem PySem.Spec PyProof.Rows

/-! ### room -/
structure Room (k : Nat) (A : Around) : Prop where
  hd : A.handled = none
  dp : A.depth + 3 * k + 5 < recursionLimit
  un : A.units + 16 * k + 200 < cLine
theorem Room.mono {j k : Nat} {A : Around} (r : Room k A) (h : j ≤ k) : Room j A := ⟨r.hd, by have := r.dp; omega, by have := r.un; omega⟩
theorem Room.deeper {k : Nat} {A : Around} (r : Room (k + 1) A) (env : Env) : Room k (A.deeper env) :=
  ⟨r.hd, by have := r.dp; show A.depth + 1 + 3 * k + 5 < _; omega, by have := r.un; show A.units + 3 + 16 * k + 200 < _; omega⟩
theorem make_depth {A : Around} {C : Addr} {us : List Value} {kw : List (Str × Value)} : (A.under (.builtin "type.__call__" ⟨.ref C :: us, kw⟩)).depth = A.depth + 1 := by
  first | rfl | simp [Around.under, Code.weight, Code.isCreation, Code.isGuard, Code.isCaller, Code.frames, Code.isFrame, guardIds]
theorem make_units {A : Around} {C : Addr} {us : List Value} {kw : List (Str × Value)} : (A.under (.builtin "type.__call__" ⟨.ref C :: us, kw⟩)).units = A.units + 1 := by
  first | rfl | simp [Around.under, Code.cUnits, Code.frames, Code.isFrame]
theorem Room.make {k : Nat} {A : Around} (r : Room (k + 1) A) (C : Addr) (us : List Value) (kw : List (Str × Value)) : Room k (A.under (.builtin "type.__call__" ⟨.ref C :: us, kw⟩)) :=
  ⟨r.hd, by have := r.dp; rw [make_depth]; omega, by have := r.un; rw [make_units]; omega⟩
theorem Room.depth {k : Nat} {A : Around} (r : Room k A) : A.depth < recursionLimit := by have := r.dp; omega
theorem Room.units {k : Nat} {A : Around} (r : Room k A) : A.units + 64 < cLine := by have := r.un; omega

/-! ### argument lists and displays -/
def tNil : TA := fun _ H Q => Q [] H
def tCons (ta : TE) (tr : TA) : TA := fun σ H Q => ta σ H fun x H1 => tr σ H1 fun xs H2 => Q (x :: xs) H2
section
variable {X : Cx} {e : Expr} {es : List Expr} {te : TE} {t : TA} {pos : Pos}
theorem pa_nil : PA X [] tNil := fun _ _ _ _ H Q I h => Calls.spliced_nil ⟨[], H, I, .nil, h⟩
theorem pa_cons (ha : PE X e te) (hr : PA X es t) (hs : starEach (e :: es) X.env = (false, eval e X.env) :: starEach es X.env := by rfl) : PA X (e :: es) (tCons te t) := by
  intro pos pins s σ H Q I h
  rw [hs]
  show wpAny _ _ (spliced ((false, eval e X.env) :: backTo pos (starEach es X.env))) _ _ s
  refine Calls.spliced_cons (thn (ha pins s σ H _ I h) fun u s1 ⟨x, H1, I1, r1, q1⟩ => ?_)
  exact thn (hr pos pins s1 σ H1 _ I1 q1) fun us s2 ⟨xs, H2, I2, r2, q2⟩ => ⟨x :: xs, H2, I2, .cons r1 r2, q2⟩

/-- a tuple, a list of written items -/
def tTup (t : TA) : TE := fun σ H Q => t σ H fun xs H1 => xs.length ≤ sizeLine ∧ ∀ p, H1 p = none → Q (.ref p) (upd H1 p (.tup xs))
def tLst (t : TA) : TE := fun σ H Q => t σ H fun xs H1 => xs.length ≤ sizeLine ∧ ∀ p, H1 p = none → Q (.ref p) (upd H1 p (.lst xs))
theorem pe_tup {x1} (h : PA X es t) : PE X (.Tuple es x1 pos) (tTup t) := by
  intro pins s σ H Q I hq
  refine wpAny_Tuple_spliced (thn (h pos pins s σ H _ I hq) fun us s1 ⟨xs, H1, I1, r, z, q⟩ => ⟨by rw [← r.length]; exact z, ?_⟩)
  have hf : H1 s1.heap.objs.size = none := I1.hok.fresh (Nat.le_refl _)
  refine ⟨.ref s1.heap.objs.size, upd H1 s1.heap.objs.size (.tup xs), I1.laid (t' := s1.toks) (fun b u e => Heap.get?_push_of_some _ e) (Nat.le_refl _) ?_, rfl, q _ hf⟩
  exact ⟨z, us, r, ⟨_, Heap.get?_push_size _ rfl, rfl, _, rfl⟩⟩
theorem pe_lst (h : PA X es t) : PE X (.List es pos) (tLst t) := by
  intro pins s σ H Q I hq
  refine wpAny_List_spliced (thn (h pos pins s σ H _ I hq) fun us s1 ⟨xs, H1, I1, r, z, q⟩ => ⟨by rw [← r.length]; exact z, ?_⟩)
  have hf : H1 s1.heap.objs.size = none := I1.hok.fresh (Nat.le_refl _)
  refine ⟨.ref s1.heap.objs.size, upd H1 s1.heap.objs.size (.lst xs), I1.laid (t' := s1.toks) (fun b u e => Heap.get?_push_of_some _ e) (Nat.le_refl _) ?_, rfl, q _ hf⟩
  exact ⟨z, us, 0, r, Heap.get?_push_size _ rfl⟩
end

/-! ### what a def promises -/
/-- a def's promise: the bound arguments in the parameters' order, the heap, the wanted end, the wanted exception -/
abbrev Sp := List V → Hp → VK → XK → Prop
/-- how an exception lies behind a call (file 08 gives it): the callers' frames, abstract heap and state ahead of the call, the wish, the exception, the state -/
abbrev CXT := List Env → Hp → Shared → XK → Value → Shared → Prop

/-- the state at a call -/
structure Env0 (P : Program) (w : World) (K : PySem.W.Frag) (mg : Str → Option Value) (base : Heap) (A : Around) (outer : List Env) (s : Shared) (H : Hp) : Prop where
  frames : A.frames = some outer
  mod : Mod K mg base
  bs : ∀ b o, base.get? b = some o → s.heap.get? b = some o ∧ H b = none
  bsz : base.objs.size ≤ s.heap.objs.size
  funs : s.heap.FunFrames base outer
  frf : ∀ b ∈ frs outer, H b = none
  hok : HOk P w H s.heap
  bare : AllBare s.gens
/-- a call's end -/
def CE (outer : List Env) (P : Program) (w : World) (H : Hp) (s : Shared) (Q : VK) (u : Value) (s' : Shared) : Prop :=
  ∃ v H', s'.os = s.os ∧ AllBare s'.gens ∧ Un (frs outer) [] H H' s.heap s'.heap ∧ HOk P w H' s'.heap ∧ RelV v u ∧ Q v H'
def CR (CX : CXT) (outer : List Env) (P : Program) (w : World) (H : Hp) (s : Shared) (Q : VK) (E : XK) (r : Result) (s' : Shared) : Prop :=
  match r with
  | .ok (.ret u) => CE outer P w H s Q u s'
  | .ok _ => False
  | .error e => CX outer H s E e s'
structure FnOk (P : Program) (w : World) (K : PySem.W.Frag) (mg : Str → Option Value) (base : Heap) (CX : CXT) (k : Nat) (f : Addr) (fd : FuncData) (ps : List Str) (sp : Sp) : Prop where
  len : ∀ vs H Q E, sp vs H Q E → vs.length = ps.length
  run : ∀ (A : Around) (outer : List Env) (s : Shared) (H : Hp) (args : Args) (us : List Value) (vs : List V) (Q : VK) (E : XK), Room k A → Env0 P w K mg base A outer s H → BindsTo s fd args (ps.zip us) → Vals vs us → sp vs H Q E →
    codeAny (model P w) A (.call (.ref f) args) (CR CX outer P w H s Q E) s

theorem Env0.make {P : Program} {w : World} {K : PySem.W.Frag} {mg : Str → Option Value} {base : Heap} {A : Around} {outer : List Env} {s : Shared} {H : Hp} (e : Env0 P w K mg base A outer s H) (C : Addr) (us : List Value) (kw : List (Str × Value)) :
    Env0 P w K mg base (A.under (.builtin "type.__call__" ⟨.ref C :: us, kw⟩)) outer s H := ⟨by first | exact e.frames | (simpa [Around.under, Code.envs, Code.isFrame, pushEnvs] using e.frames), e.mod, e.bs, e.bsz, e.funs, e.frf, e.hok, e.bare⟩

section
variable {X : Cx} {pins : List (Addr × Obj)} {σ : St} {H : Hp} {s s' : Shared}
/-- from a body: what a callee wants -/
theorem Inv.env0 (I : Inv X pins σ H s) : Env0 X.prog X.w X.K X.mg X.base X.A X.stack s H :=
  ⟨I.ok.frames, I.ok.mod, I.bs, Nat.le_trans I.ok.bsz I.sz, I.stack, I.stkFree, I.hok, I.bare⟩
/-- behind a call -/
theorem Inv.after {Q : VK} {u : Value} (I : Inv X pins σ H s) (h : CE X.stack X.prog X.w H s Q u s') : EP X pins σ Q u s' := by
  obtain ⟨v, H', os, bare, un, hok, r, q⟩ := h
  obtain ⟨hh, g, d, t, os'⟩ := s'
  obtain rfl : os' = s.os := os
  exact ⟨v, H', I.call (h' := hh) (g' := g) (d' := d) (t' := t) (ch := []) un hok bare (fun b z => absurd z (by simp)), r, q⟩
end

/-! ### calls -/
/-- f(..): the written arguments, then the defaults dvs; E: what is wanted of an exception -/
def tCall (sp : Sp) (dvs : List V) (E : XK) (t : TA) : TE := fun σ H Q => t σ H fun vs H1 => sp (vs ++ dvs) H1 Q E

/-- how the parameters are bound: us the positional arguments, kw the keywords' values by name, ds the defaults that fill up -/
def Binds (K : PySem.W.Frag) (fd : FuncData) (ps : List Str) (ds : List Value) : Prop :=
  ∀ (s : Shared) (us : List Value), K.In s.heap → (us ++ ds).length = ps.length → BindsTo s fd ⟨us, []⟩ (ps.zip (us ++ ds))
/-- every parameter is given -/
theorem Binds.all {K : PySem.W.Frag} {fd : FuncData} {ps : List Str} (h : ∀ us : List Value, us.length = ps.length → bindArgs fd ⟨us, []⟩ = pure (ps.zip us)) : Binds K fd ps [] := fun s us _ hl => by
  rw [List.append_nil] at hl ⊢
  exact .of_eq (h us hl)

/-- an exception of a callee reaches what this body wants of exceptions -/
def Passes (CX : CXT) (X : Cx) (E : XK) : Prop := ∀ (pins : List (Addr × Obj)) (σ : St) (H : Hp) (s : Shared) (e : Value) (s' : Shared), Inv X pins σ H s → CX X.stack H s E e s' → X.xe e s'

section
variable {X : Cx} {CX : CXT} {k : Nat} {f C : Addr} {fd : FuncData} {ps : List Str} {sp : Sp} {dvs : List V} {ds : List Value} {E : XK} {x m : Str} {p pos apos : Pos} {e o : Expr} {es : List Expr} {ta : TE} {t : TA}

/-- the callee runs -/
theorem run_fn {pins : List (Addr × Obj)} {σ : St} {H : Hp} {s : Shared} {Q : VK} {us : List Value} {vs : List V} (F : FnOk X.prog X.w X.K X.mg X.base CX k f fd ps sp) (hr : Room k X.A) (hb : Binds X.K fd ps ds) (hd : Vals dvs ds) (hx : Passes CX X E)
    (I : Inv X pins σ H s) (r : Vals vs us) (h : sp (vs ++ dvs) H Q E) : wpAny (model X.prog X.w) X.A (call (.ref f) us) (EP X pins σ Q) X.xe s := by
  have r2 : Vals (vs ++ dvs) (us ++ ds) := r.append hd
  have hl : (us ++ ds).length = ps.length := by rw [← r2.length]; exact F.len _ _ _ _ h
  refine wpAny_call (codeAny_mono (F.run X.A X.stack s H ⟨us, []⟩ (us ++ ds) (vs ++ dvs) Q E hr I.env0 (hb s us I.kIn hl) r2 h) fun r s' hq => ?_)
  cases r with
  | error e => exact hx pins σ H s e s' I hq
  | ok fl =>
    cases fl with
    | ret u => exact I.after hq
    | next => exact False.elim hq
    | brk => exact False.elim hq
    | cont => exact False.elim hq

theorem pe_call (F : FnOk X.prog X.w X.K X.mg X.base CX k f fd ps sp) (hr : Room k X.A) (hg : Gl X x) (hm : X.mg x = some (.ref f)) (hk : PySem.W.keepIn X.K (.ref f) = true) (hb : Binds X.K fd ps ds) (hd : Vals dvs ds) (hx : Passes CX X E)
    (ha : PA X (e :: es) t) (hdb : (x == ("__debug__" : Str)) = false := by decide) (he : starEach (e :: es) X.env = (false, eval e X.env) :: starEach es X.env := by rfl) (hpl : (backTo pos (starEach es X.env)).any (·.1) = false := by rfl) :
    PE X (.Call (.Name x p) (e :: es) [] pos) (tCall sp dvs E t) := by
  intro pins s σ H Q I h
  refine wpAny_Call_Name_kw (ld_glob I hg hm ?_ hdb)
  refine PySem.W.callWith_K (h₀ := X.base) I.ok.mod.kin hk (thn (ha pos pins s σ H _ I h) fun us s1 ⟨vs, H1, I1, r, q⟩ => ⟨I1.kIn, ?_⟩) he hpl
  exact run_fn F hr hb hd hx I1 r q



end

/-! ### keywords -/
section
variable {X : Cx} {CX : CXT} {k : Nat} {f C : Addr} {fd : FuncData} {ps ks : List Str} {sp : Sp} {E : XK} {x m : Str} {p pos apos kpos : Pos} {e o : Expr} {es : List Expr} {kws : List Keyword} {te ta : TE} {t tk : TA} {nm : Option Str}

variable {g : List Value → List Value → List Value} {gV : List V → List V → List V}
end

/-! ### a def's body keeps its promise -/
/-- names: the parameters first -/
structure FnScope (N P : List Str) (sc : Scope) : Prop where
  kind : sc.kind = .function
  co : sc.isCoroutine = false
  gen : sc.isGenerator = false
  nd : N.Nodup
  pre : N.take P.length = P
  par : ∀ x ∈ P, sc.names.lookup x = some .local ∨ sc.names.lookup x = some .cell
  nofree : ∀ y ∈ sc.names, y.2 ≠ .free

theorem bindL_out {kindOf : Str → Option NameKind} {x : Str} : ∀ {binds : List (Str × Value)} {m : Str → Option Value}, (∀ v, (x, v) ∉ binds) → bindL kindOf binds m x = m x
  | [], _, _ => rfl
  | (n, v) :: r, m, h => by
    unfold bindL
    rw [bindL_out fun w hw => h w (List.mem_cons_of_mem _ hw)]
    split
    · have : x ≠ n := by rintro rfl; exact h v List.mem_cons_self
      simp [this]
    · rfl
theorem bindC_out {kindOf : Str → Option NameKind} {x : Str} : ∀ {binds : List (Str × Value)} {m : Str → Option Value}, (∀ v, (x, v) ∉ binds) → bindC kindOf binds m x = m x
  | [], _, _ => rfl
  | (n, v) :: r, m, h => by
    unfold bindC
    rw [bindC_out fun w hw => h w (List.mem_cons_of_mem _ hw)]
    split
    · rfl
    · have : x ≠ n := by rintro rfl; exact h v List.mem_cons_self
      simp [this]
theorem bindL_get {kindOf : Str → Option NameKind} {x : Str} {v : Value} : ∀ {P : List Str} {vs : List Value} {i : Nat} {m : Str → Option Value}, P.Nodup → P[i]? = some x → vs[i]? = some v → kindOf x = some .local →
    bindL kindOf (P.zip vs) m x = some v
  | [], _, _, _, _, h, _, _ => by simp at h
  | _ :: _, [], _, _, _, _, h, _ => by simp at h
  | p :: P, w :: vs, 0, m, nd, h1, h2, hk => by
    simp at h1 h2; subst h1; subst h2
    show bindL kindOf ((p, w) :: P.zip vs) m p = _
    unfold bindL
    rw [bindL_out fun v hv => (List.nodup_cons.mp nd).1 (List.of_mem_zip hv).1, if_pos hk]
    simp
  | p :: P, w :: vs, i + 1, m, nd, h1, h2, hk => by
    show bindL kindOf ((p, w) :: P.zip vs) m x = _
    unfold bindL
    exact bindL_get (i := i) (List.nodup_cons.mp nd).2 (by simpa using h1) (by simpa using h2) hk
theorem bindC_get {kindOf : Str → Option NameKind} {x : Str} {v : Value} : ∀ {P : List Str} {vs : List Value} {i : Nat} {m : Str → Option Value}, P.Nodup → P[i]? = some x → vs[i]? = some v → kindOf x ≠ some .local →
    bindC kindOf (P.zip vs) m x = some v
  | [], _, _, _, _, h, _, _ => by simp at h
  | _ :: _, [], _, _, _, _, h, _ => by simp at h
  | p :: P, w :: vs, 0, m, nd, h1, h2, hk => by
    simp at h1 h2; subst h1; subst h2
    show bindC kindOf ((p, w) :: P.zip vs) m p = _
    unfold bindC
    rw [bindC_out fun v hv => (List.nodup_cons.mp nd).1 (List.of_mem_zip hv).1, if_neg hk]
    simp
  | p :: P, w :: vs, i + 1, m, nd, h1, h2, hk => by
    show bindC kindOf ((p, w) :: P.zip vs) m x = _
    unfold bindC
    exact bindC_get (i := i) (List.nodup_cons.mp nd).2 (by simpa using h1) (by simpa using h2) hk

/-- the names' values at the entry -/
def start (N : List Str) (vs : List V) : St := vs.map some ++ List.replicate (N.length - vs.length) none

/-- the context of a def's body, at its entry; an exception leaves the frame, then lies as CX says -/
def cxOf (CX : CXT) (P : Program) (w : World) (K : PySem.W.Frag) (mg : Str → Option Value) (base : Heap) (N : List Str) (qual : Str) (scope : Scope) (f : Addr) (cd : Value) (A : Around) (outer : List Env) (s : Shared) (H : Hp) (E : XK) : Cx where
  prog := P
  w := w
  K := K
  mg := mg
  base := base
  A := A.deeper (envOfC qual scope s.heap.objs.size f cd)
  N := N
  s₀ := s
  H₀ := H
  env := envOfC qual scope s.heap.objs.size f cd
  outer := outer
  stack := envOfC qual scope s.heap.objs.size f cd :: outer
  ex := []
  calm := true
  fn := fun _ => true
  pn := []
  xe := fun e s' => wpAny (model P w) (A.deeper (envOfC qual scope s.heap.objs.size f cd)) (leaving (envOfC qual scope s.heap.objs.size f cd) e) (fun _ s'' => CX outer H s E e s'') (fun e' s'' => CX outer H s E e' s'') s'

theorem cell_has {sc : Scope} {n : Nat} {x : Str} (h : sc.names.lookup x = some .cell) : ∃ c, (cellsFrom n sc.names []).lookup x = some c := by
  have q := PySem.W.cellsFrom_some sc.names n [] (.inl h)
  exact Option.isSome_iff_exists.mp q

theorem inv_start {CX : CXT} {P : Program} {w : World} {K : PySem.W.Frag} {mg : Str → Option Value} {base : Heap} {N ps : List Str} {qual : Str} {scope : Scope} {f : Addr} {cd : Value} {A : Around} {outer : List Env} {s s1 : Shared} {H : Hp} {E : XK} {us : List Value} {vs : List V}
    (S : FnScope N ps scope) (hd : A.handled = none) (e0 : Env0 P w K mg base A outer s H) (hl : vs.length = ps.length) (r : Vals vs us)
    (x : InCallC s s.heap.objs.size (bindL (envOfC qual scope s.heap.objs.size f cd).kindOf (ps.zip us) fun _ => none) (cellsFrom (s.heap.objs.size + 1) scope.names []) (bindC (envOfC qual scope s.heap.objs.size f cd).kindOf (ps.zip us) fun _ => none) s1) :
    Inv (cxOf CX P w K mg base N qual scope f cd A outer s H E) [] (start N vs) H s1 := by
  have hpl : ps.length ≤ N.length := by have := congrArg List.length S.pre; rw [List.length_take] at this; omega
  obtain ⟨h1, tk, rfl, hk⟩ := x.done
  have noA : ∀ b : Addr, b ∉ (cxOf CX P w K mg base N qual scope f cd A outer s H E).ex := fun b z => absurd (show b ∈ ([] : List Addr) from z) (by simp)
  refine ⟨⟨e0.mod, S.kind, rfl, rfl, Nat.le_refl _, fun y z c h1 h2 => ?_, fun y hy => ?_, fun y c _ h => ?_, fun _ => hd, Around.frames_deeper e0.frames, .inr ⟨rfl, rfl⟩, fun b z => absurd z (noA b), e0.bs, e0.bsz, fun b _ _ => noA b, fun b z => absurd z (noA b), e0.funs, e0.frf⟩,
    rfl, e0.bare, Un.kept hk, ⟨_, x.toInCall.ns, fun i y v h1 h2 h3 => ?_⟩, fun y c h => ⟨_, x.cell y c h⟩, e0.hok.fresh (Nat.le_refl _), fun y c h => ?_, fun p hp => absurd (show p ∈ ([] : List (Addr × Obj)) from hp) (by simp), e0.hok.kept hk, ?_⟩
  · exact name_of_addr x.apart (PySem.mem_of_lookup h1) (PySem.mem_of_lookup h2)
  · have hy : scope.names.lookup y = some .cell ∨ scope.names.lookup y = some .free := hy
    rcases hy with hy | hy
    · exact cell_has hy
    · exact absurd rfl (S.nofree _ (PySem.mem_of_lookup hy))
  · exact Nat.le_of_lt (x.above y c (PySem.mem_of_lookup h))
  · have hi : i < vs.length := by
      unfold start at h2
      by_cases hi : i < vs.length
      · exact hi
      · rw [List.getElem?_append_right (by simpa using hi)] at h2
        rw [List.getElem?_replicate] at h2
        split at h2 <;> cases h2
    have ha : vs[i]? = some v := by
      unfold start at h2
      rw [List.getElem?_append_left (by simpa using hi), List.getElem?_map] at h2
      cases e : vs[i]? with
      | none => rw [e] at h2; cases h2
      | some a => rw [e] at h2; cases h2; rfl
    obtain ⟨u, hu, rv⟩ := r.get ha
    have hp : ps[i]? = some y := by
      rw [← S.pre, List.getElem?_take_of_lt (by omega)]; exact h1
    have ndP : ps.Nodup := by rw [← S.pre]; exact S.nd.sublist (List.take_sublist _ _)
    refine ⟨u, rv, ?_⟩
    rcases S.par y (List.mem_of_getElem? hp) with k | k
    · exact .inl ⟨k, bindL_get ndP hp hu k⟩
    · obtain ⟨c, e⟩ := cell_has (n := s.heap.objs.size + 1) k
      refine .inr ⟨.inl k, c, e, ?_⟩
      have q := x.cell y c e
      rw [bindC_get ndP hp hu (by show scope.names.lookup y ≠ _; rw [k]; decide)] at q
      exact q
  · exact e0.hok.fresh (Nat.le_of_lt (x.above y c (PySem.mem_of_lookup h)))
  · unfold start
    show _ = N.length
    rw [List.length_append, List.length_map, List.length_replicate]
    omega

/-- THE RULE: a def (or a method) of the text, by its body. The body's reading t is chosen for each entry; it is run at the parameters' values -/
theorem fn_of {CX : CXT} {P : Program} {w : World} {K : PySem.W.Frag} {mg : Str → Option Value} {base : Heap} {k : Nat} {f : Addr} {name qual : Str} {params : Arguments} {body : List Stmt} {scope : Scope} {dV kV doc pm cdv ct oc : Value} {an od : Option Addr}
    {osl : Array (Option Value)} {N ps : List Str} {sp : Sp} (lk : K.lookup f = some ⟨oc, od, .func (PySem.W.fnOf name qual params body scope dV kV doc pm an cdv ct), osl⟩) (hcd : PySem.W.codeIn K cdv qual = true) (S : FnScope N ps scope)
    (len : ∀ vs H Q E, sp vs H Q E → vs.length = ps.length)
    (hbody : ∀ (A : Around) (outer : List Env) (s : Shared) (H : Hp) (vs : List V) (Q : VK) (E : XK), Room k (A.deeper (envOfC qual scope s.heap.objs.size f cdv)) → sp vs H Q E →
      ∃ t, PSs (cxOf CX P w K mg base N qual scope f cdv A outer s H E) body t ∧ t { nx := fun _ H' => Q .non H', rt := Q } (start N vs) H) :
    FnOk P w K mg base CX (k + 1) f (PySem.W.fnOf name qual params body scope dV kV doc pm an cdv ct) ps sp := by
  refine ⟨len, fun A outer s H args us vs Q E hr e0 hb r hsp => ?_⟩
  have hl := len _ _ _ _ hsp
  have KX : K.In s.heap := e0.mod.kin.keeps fun b o e => (e0.bs b o e).1
  have lim : s.heap.NoLimit := e0.mod.nolimit.keeps fun b o e => (e0.bs b o e).1
  have hkind : ∀ y ∈ ps.zip us, scope.names.lookup y.1 = some .local ∨ (scope.names.lookup y.1 = some .cell ∧ ((cellsFrom (s.heap.objs.size + 1) scope.names []).lookup y.1).isSome = true) := fun ⟨n, v⟩ hy => by
    rcases S.par n (List.of_mem_zip hy).1 with q | q
    · exact .inl q
    · exact .inr ⟨q, PySem.W.cellsFrom_some _ _ _ (.inl q)⟩
  refine codeAny_call_function hr.depth (KX _ _ lk) rfl S.co S.gen rfl (PySem.W.codeRec_of KX hcd) (hb _ _ _ _ ?_)
  refine wpAny_newFunctionEnv_cells S.kind hkind fun env he s1 x => ?_
  subst he
  refine ⟨lim.keeps x.toInCall.keep, codeAny_func ?_⟩
  obtain ⟨t, ht, hq⟩ := hbody A outer s H vs Q E (hr.deeper _) hsp
  have I : Inv (cxOf CX P w K mg base N qual scope f cdv A outer s H E) [] (start N vs) H s1 := inv_start S hr.hd e0 hl r x
  refine wpAny_mono (ht [] s1 (start N vs) H _ I hq) (fun fl s' hs => ?_) fun e s' hs => hs
  have fin : ∀ {σ' : St} {H' : Hp} {v : V} {u : Value}, Inv (cxOf CX P w K mg base N qual scope f cdv A outer s H E) [] σ' H' s' → RelV v u → Q v H' → CE outer P w H s Q u s' :=
    fun {σ' H' v u} J rv q => ⟨v, H', J.os, J.bare, J.base, J.hok, rv, q⟩
  cases fl with
  | ret u =>
    obtain ⟨v, σ', H', J, rv, q⟩ := hs
    exact fin J rv q
  | next =>
    obtain ⟨σ', H', J, q⟩ := hs
    exact fin (v := V.non) (u := Value.none) J rfl q
  | brk =>
    obtain ⟨_, _, _, q⟩ := hs
    exact False.elim q
  | cont =>
    obtain ⟨_, _, _, q⟩ := hs
    exact False.elim q
end L2

namespace L2
open PySem PySem.Spec PyProof.Rows
section
variable {X : Cx} {x : Str} {p pos : Pos} {e : Expr} {es : List Expr} {t : TA} {id T : String} {r : List V → Hp → VK → Prop}

def tCB (r : List V → Hp → VK → Prop) (t : TA) : TE := fun σ H Q => t σ H fun vs H1 => r vs H1 Q
/-- f(e, ..), f a built-in function -/
theorem pe_callB (hc : CallR X (.builtin id) r) (hg : Gl X x) (hm : X.mg x = none) (hv : bootBuiltins x = some (.builtin id)) (ha : PA X (e :: es) t) (hn : x ≠ "__name__" := by decide) (hdb : (x == ("__debug__" : Str)) = false := by decide)
    (he : starEach (e :: es) X.env = (false, eval e X.env) :: starEach es X.env := by rfl) (hpl : (backTo pos (starEach es X.env)).any (·.1) = false := by rfl) : PE X (.Call (.Name x p) (e :: es) [] pos) (tCB r t) := by
  intro pins s σ H Q I h
  refine wpAny_Call_Name_kw (ld_blt I hg hm hv ?_ hn hdb)
  exact PyProof.Rows.callWith_builtin1 (thn (ha pos pins s σ H _ I h) fun us s1 ⟨vs, H1, I1, r1, q1⟩ => hc pins s1 σ H1 vs us Q I1 r1 q1) he hpl
/-- T(e, ..), T a built-in type -/
theorem pe_callTy (hc : CallR X (.type T) r) (hg : Gl X x) (hm : X.mg x = none) (hv : bootBuiltins x = some (.type T)) (ha : PA X (e :: es) t) (hn : x ≠ "__name__" := by decide) (hdb : (x == ("__debug__" : Str)) = false := by decide)
    (he : starEach (e :: es) X.env = (false, eval e X.env) :: starEach es X.env := by rfl) (hpl : (backTo pos (starEach es X.env)).any (·.1) = false := by rfl) : PE X (.Call (.Name x p) (e :: es) [] pos) (tCB r t) := by
  intro pins s σ H Q I h
  refine wpAny_Call_Name_kw (ld_blt I hg hm hv ?_ hn hdb)
  exact PyProof.Rows.callWith_type1 (thn (ha pos pins s σ H _ I h) fun us s1 ⟨vs, H1, I1, r1, q1⟩ => hc pins s1 σ H1 vs us Q I1 r1 q1) he hpl
end
end L2

namespace HT
open PySem PyProof.Rows



section
open PySem.SeqAt
open PySem.AutoSeq1 (wpAny_loadPart')
open PySem.MeetsSeq PySem.MeetsSeq2 PySem.MeetsSeq3

end

section
variable {prog : Program} {w : World} {A : Around} {E : Value → Shared → Prop} {s : Shared}


/-- t + u, t not empty -/
theorem cat_tup {t b : Addr} {vs ws : List Value} {Q : Value → Shared → Prop} (ht : IsTup s.heap t vs.toArray) (hb : IsTup s.heap b ws.toArray) (hv : vs ≠ [])
    (h1 : ws = [] → Q (.ref t) s) (h2 : ws ≠ [] → Q (.ref s.heap.objs.size) { s with heap := s.heap.push { cls := .type "tuple", data := .seq (vs ++ ws).toArray } })
    (hsz : vs.length + ws.length ≤ sizeLine) : wpAny (model prog w) A (binaryOp .Add (.ref t) (.ref b)) Q E s := by
  obtain ⟨⟨cls, dd, data, sl⟩, ho, hc, n, hd⟩ := id ht
  obtain ⟨⟨cls2, dd2, data2, sl2⟩, ho2, hc2, n2, hd2⟩ := id hb
  simp only at hc hd hc2 hd2
  subst hc hd hc2 hd2
  have e : vs.toArray ++ ws.toArray = (vs ++ ws).toArray := by simp
  by_cases hw : ws = []
  · exact concat_meets ⟨_, ho, rfl⟩ ⟨_, ho2, rfl⟩ noFill_tuple_add seq_tuple_add PySem.F.slot_tuple_add PySem.F.entry_tuple_add (PySem.F.args_tuple_add_2 _ _)
      (tuple_addW1 t b vs.toArray ws.toArray n n2 dd dd2 sl sl2 (by simpa using hv) (by simp [hw])) ⟨ho, ho2, h1 hw⟩
  · refine concat_meets ⟨_, ho, rfl⟩ ⟨_, ho2, rfl⟩ noFill_tuple_add seq_tuple_add PySem.F.slot_tuple_add PySem.F.entry_tuple_add (PySem.F.args_tuple_add_2 _ _)
      (tuple_addW2 t b vs.toArray ws.toArray n n2 dd dd2 sl sl2 (by simpa using hv) (by simpa using hw) (by rw [List.size_toArray, List.size_toArray]; exact hsz)) ⟨ho, ho2, ?_⟩
    rw [e]
    exact h2 hw

/-! ### t[a:b], not the whole -/
/-- a slice's bound as a place among n (d where it is left out) -/
def sIx (n d : Nat) : Option Int → Nat
  | none => d
  | some v => if v < 0 then (v + (n : Int)).toNat else min v.toNat n
theorem sIx_none (n d : Nat) : sIx n d none = d := rfl
theorem sIx_nat (n d k : Nat) : sIx n d (some (k : Int)) = min k n := by
  show (if (k : Int) < 0 then ((k : Int) + (n : Int)).toNat else min (k : Int).toNat n) = min k n
  rw [if_neg (by omega), Int.toNat_natCast]
theorem sIx_le (n d : Nat) (hd : d ≤ n) (o : Option Int) : sIx n d o ≤ n := by
  cases o with
  | none => exact hd
  | some v =>
    show (if v < 0 then (v + (n : Int)).toNat else min v.toNat n) ≤ n
    by_cases hv : v < 0
    · rw [if_pos hv]; omega
    · rw [if_neg hv]; exact Nat.min_le_right _ _
theorem clip_eq (v : Int) (n d : Nat) : (if v < 0 then max (v + (n : Int)) 0 else min v (n : Int)) = ((sIx n d (some v) : Nat) : Int) := by
  show (if v < 0 then max (v + (n : Int)) 0 else min v (n : Int)) = (((if v < 0 then (v + (n : Int)).toNat else min v.toNat n) : Nat) : Int)
  by_cases hv : v < 0
  · simp only [if_pos hv]; omega
  · simp only [if_neg hv]; omega
theorem adjust_gen (lo hi : Option Int) (n : Nat) : Builtin.Slice.sliceAdjust lo hi 1 (n : Int) = (((sIx n 0 lo : Nat) : Int), ((sIx n n hi : Nat) : Int)) := by
  have h1 : ¬ ((1 : Int) < 0) := by omega
  unfold Builtin.Slice.sliceAdjust
  simp only [h1, if_false]
  refine Prod.ext ?_ ?_
  · cases lo with
    | none => rfl
    | some v => exact clip_eq v n 0
  · cases hi with
    | none => rfl
    | some v => exact clip_eq v n n
theorem places_gen (i j : Nat) : Builtin.Slice.slicePlaces (i : Int) (j : Int) 1 = j - i := by
  unfold Builtin.Slice.slicePlaces
  have h1 : (1 : Int) > 0 := by omega
  simp only [h1, if_true, Int.ediv_one]
  split <;> omega
theorem slicePart_ {v : Value} {o : Option Int} {Q : Option Int → Shared → Prop} (p : IsPart v o) (h : Q o s) : wpAny (model prog w) A (Builtin.Slice.slicePartIndex v) Q E s := by
  cases p with
  | none => exact slicePart_none h
  | int i t => exact slicePart_int h
theorem sliceApplied_gen {sl : Addr} {vl vu : Value} {lo hi : Option Int} {n : Nat} {Q : Int × Int × Nat → Shared → Prop} (hs : s.heap.IsSliceOf sl vl vu .none) (pl : IsPart vl lo) (pu : IsPart vu hi)
    (h : Q (((sIx n 0 lo : Nat) : Int), 1, sIx n n hi - sIx n 0 lo) s) : wpAny (model prog w) A (Builtin.Slice.sliceApplied (.ref sl) (pure (n : Int))) Q E s := by
  obtain ⟨os, hos, hcs, hds⟩ := id hs
  unfold Builtin.Slice.sliceApplied Builtin.Slice.sliceFields
  refine wpAny_bind (wpAny_bind (wpAny_field hos hds (x := vl) rfl (wpAny_bind (wpAny_field hos hds (x := vu) rfl (wpAny_bind (wpAny_field hos hds (x := .none) rfl (wpAny_pure ?_)))))))
  refine wpAny_bind (slicePart_none ?_)
  show wpAny _ _ (if ((1 : Int) == 0) = true then _ else _) _ _ s
  rw [if_neg (by decide)]
  refine wpAny_bind (slicePart_ pl (wpAny_bind (slicePart_ pu (wpAny_bind (wpAny_pure ?_)))))
  show wpAny _ _ (match Builtin.Slice.sliceAdjust lo hi 1 (n : Int) with | (lo, hi) => pure (lo, (1 : Int), Builtin.Slice.slicePlaces lo hi 1)) _ _ s
  rw [adjust_gen lo hi n]
  show wpAny _ _ (pure (((sIx n 0 lo : Nat) : Int), (1 : Int), Builtin.Slice.slicePlaces ((sIx n 0 lo : Nat) : Int) ((sIx n n hi : Nat) : Int) 1)) _ _ s
  rw [places_gen]
  exact wpAny_pure h
theorem pick_gen (xs : Array Value) (i k : Nat) : ((List.range k).filterMap fun (m : Nat) => xs[((i : Int) + (m : Int) * 1).toNat]?).toArray = ((xs.toList.drop i).take k).toArray := by
  have e : (fun (m : Nat) => xs[((i : Int) + (m : Int) * 1).toNat]?) = fun m => xs[i + m]? := by
    funext m
    have : ((i : Int) + (m : Int) * 1).toNat = i + m := by omega
    rw [this]
  rw [e]
  have := pick_run xs i k
  rw [List.filterMap_map] at this
  have e2 : ((fun x => xs[x]?) ∘ fun x => i + x) = fun m => xs[i + m]? := rfl
  rw [e2] at this
  rw [this]

theorem getItem_tuple_cut {t sl : Addr} {items : Array Value} {vl vu : Value} {lo hi : Option Int} {Q : Value → Shared → Prop} (ht : IsTup s.heap t items) (hs : s.heap.IsSliceOf sl vl vu .none) (pl : IsPart vl lo) (pu : IsPart vu hi)
    (hw : ¬ (sIx items.size 0 lo = 0 ∧ sIx items.size items.size hi = items.size))
    (h : Q (.ref s.heap.objs.size) { s with heap := s.heap.push { cls := .type "tuple", data := .seq ((items.toList.drop (sIx items.size 0 lo)).take (sIx items.size items.size hi - sIx items.size 0 lo)).toArray } })
    (hsz : items.size ≤ sizeLine) : wpAny (model prog w) A (getItem (.ref t) (.ref sl)) Q E s := by
  have htake : sizeOk (.seq ((items.toList.drop (sIx items.size 0 lo)).take (sIx items.size items.size hi - sIx items.size 0 lo)).toArray) := by
    show ((items.toList.drop (sIx items.size 0 lo)).take (sIx items.size items.size hi - sIx items.size 0 lo)).toArray.size ≤ sizeLine
    rw [List.size_toArray, List.length_take, List.length_drop, Array.length_toList]
    omega
  have hj : sIx items.size items.size hi ≤ items.size := sIx_le _ _ (Nat.le_refl _) hi
  obtain ⟨os, hos, hcs, hds⟩ := id hs
  have hTs : s.TypeIs (.ref sl) "slice" := ⟨os, hos, hcs⟩
  unfold getItem
  try with_reducible refine wpAny_holding ?_
  first | refine wpAny_bind (wpAny_pure ?_) | skip
  refine wpAny_bind (wpAny_sequenceKey ht.typeIs (by decide) ?_)
  refine wpAny_bind (wpAny_callSpecial?_slot (name := Str.ofString "__getitem__") ht.typeIs PyProof.Rows.slot_tuple_getitem
    (wpAny_call_entry PyProof.Rows.slot_tuple_getitem ht.typeIs entry_tuple_getitem ?_ (args_tuple_getitem _ _)))
  show wpAny _ _ (Builtin.Tuple.tupleItemsOf (.ref t) >>= _) _ _ s
  refine wpAny_bind (tupleItemsOf_ ht ?_)
  refine wpAny_bind (wpAny_typeOf hTs ?_)
  rw [if_pos (by decide)]
  refine wpAny_bind (sliceApplied_gen hs pl pu ?_)
  have hno : ¬ ((((sIx items.size 0 lo : Nat) : Int) == 0 && (1 : Int) == 1 && (sIx items.size items.size hi - sIx items.size 0 lo) == items.size) = true) := by
    intro q
    rw [Bool.and_eq_true, Bool.and_eq_true] at q
    have q1 : ((sIx items.size 0 lo : Nat) : Int) = 0 := eq_of_beq q.1.1
    have q2 : sIx items.size items.size hi - sIx items.size 0 lo = items.size := eq_of_beq q.2
    exact hw ⟨by omega, by omega⟩
  show wpAny _ _ (if (((sIx items.size 0 lo : Nat) : Int) == 0 && (1 : Int) == 1 && (sIx items.size items.size hi - sIx items.size 0 lo) == items.size) = true then _ else _) _ _ s
  rw [if_neg hno, pick_gen]
  first
    | exact wpAny_bind (m := Builtin.Tuple.tupleExact _) (wpAny_newObj_type (wpAny_pure ⟨_, rfl, wpAny_pure h⟩) htake)
    | exact wpAny_bind (m := Builtin.Tuple.tupleExact _) (wpAny_newObj_type (wpAny_bind (wpAny_pure (wpAny_pure ⟨_, rfl, wpAny_pure h⟩))) htake)
    | exact wpAny_bind (wpAny_bind (m := Builtin.Tuple.tupleExact _) (wpAny_newObj_type (wpAny_pure (wpAny_pure ⟨_, rfl, wpAny_pure h⟩)) htake))
    | exact wpAny_bind (wpAny_bind (m := Builtin.Tuple.tupleExact _) (wpAny_newObj_type (wpAny_pure ⟨_, rfl, wpAny_pure h⟩) htake))
end
end HT

namespace L2
open PySem PySem.Spec PyProof.Rows

/-! ### the parts of a slice -/
abbrev TO := St → Hp → (Option Int → Hp → Prop) → Prop
/-- a slice's part (left out, or an int) -/
def PO (X : Cx) (e : Option Expr) (t : TO) : Prop :=
  ∀ (pins : List (Addr × Obj)) (s : Shared) (σ : St) (H : Hp) (Q : Option Int → Hp → Prop), Inv X pins σ H s → t σ H Q →
    wpAny (model X.prog X.w) X.A (evalPart e X.env) (fun u s' => ∃ o H', Inv X pins σ H' s' ∧ IsPart u o ∧ Q o H') X.xe s
def tNoPart : TO := fun _ H Q => Q none H
def tPart (t : TE) : TO := fun σ H Q => t σ H fun x H1 => ∃ i, x = .int i ∧ Q (some i) H1


section
variable {X : Cx} {e : Expr} {te : TE} {lo hi : Option Expr} {tl th : TO} {pos p2 : Pos}

theorem po_none : PO X none tNoPart := by
  intro pins s σ H Q I h
  rw [evalPart_none]
  exact wpAny_pure ⟨none, H, I, .none, h⟩
theorem po_some (h : PE X e te) : PO X (some e) (tPart te) := by
  intro pins s σ H Q I hw
  rw [evalPart_some]
  refine thn (h pins s σ H _ I hw) fun u s1 ⟨x, H1, I1, r1, q1⟩ => ?_
  obtain ⟨i, rfl, q⟩ := q1
  obtain ⟨t, rfl⟩ := r1
  exact ⟨some i, H1, I1, .int i t, q⟩

/-- what a slice of a value is, by values: the slice object stands at sl -/
def SlR (X : Cx) (r : V → Option Int → Option Int → Hp → VK → Prop) : Prop :=
  ∀ (pins : List (Addr × Obj)) (s : Shared) (σ : St) (H : Hp) (x : V) (v vl vu : Value) (lo hi : Option Int) (sl : Addr) (Q : VK), Inv X pins σ H s → RelV x v → s.heap.IsSliceOf sl vl vu .none → IsPart vl lo → IsPart vu hi → r x lo hi H Q →
    ∃ T id, typeLookup (.type T) "__getitem__" = pure (some (.builtin id)) ∧ s.TypeIs v T ∧ wpAny (model X.prog X.w) X.A (getItem v (.ref sl)) (EP X pins σ Q) X.xe s
def tSl (r : V → Option Int → Option Int → Hp → VK → Prop) (te : TE) (tl th : TO) : TE := fun σ H Q => te σ H fun x H1 => tl σ H1 fun l H2 => th σ H2 fun u H3 => r x l u H3 Q
/-- a[lo:hi], any a -/
theorem pe_slice {r : V → Option Int → Option Int → Hp → VK → Prop} (hr : SlR X r) (he : PE X e te) (hl : PO X lo tl) (hu : PO X hi th) : PE X (.Subscript e (.Slice lo hi none p2) pos) (tSl r te tl th) := by
  intro pins s σ H Q I h
  refine Subscript_ (thn (he pins s σ H _ I h) fun v s1 ⟨x, H1, I1, r1, q1⟩ => ?_)
  refine wpAny_Slice (thn (hl pins s1 σ H1 _ I1 q1) fun vl s2 ⟨l, H2, I2, pl, q2⟩ => thn (hu pins s2 σ H2 _ I2 q2) fun vu s3 ⟨u, H3, I3, pu, q3⟩ => ?_)
  rw [evalPart_none]
  refine wpAny_pure ?_
  have I4 : Inv X pins σ H3 { s3 with heap := s3.heap.push { cls := .type "slice", data := .fields #[vl, vu, .none] } } := I3.kept (t' := s3.toks) fun b ob q => Heap.get?_push_of_some _ q
  obtain ⟨T, id, hT, ht, hg⟩ := hr pins { s3 with heap := s3.heap.push { cls := .type "slice", data := .fields #[vl, vu, .none] } } σ H3 x v vl vu l u s3.heap.objs.size Q I4 r1 (Heap.IsSliceOf.new ..) pl pu q3
  show wpAny (model X.prog X.w) X.A (subscriptTail e (.Slice lo hi none p2) v (.ref s3.heap.objs.size)) (EP X pins σ Q) X.xe { s3 with heap := s3.heap.push { cls := .type "slice", data := .fields #[vl, vu, .none] } }
  exact tail_any (ops := [.ref s3.heap.objs.size, v]) ht hT hg (by with_unfolding_all rfl)

/-- the items of xs[lo:hi] -/
def cutV (xs : List V) (lo hi : Option Int) : List V := (xs.drop (HT.sIx xs.length 0 lo)).take (HT.sIx xs.length xs.length hi - HT.sIx xs.length 0 lo)
theorem cutV_length (xs : List V) (lo hi : Option Int) : (cutV xs lo hi).length ≤ xs.length := by
  unfold cutV
  rw [List.length_take, List.length_drop]
  omega
/-- t[lo:hi], not the whole of it (the whole would be t itself) -/
def rSlT (K : PySem.W.Frag) : V → Option Int → Option Int → Hp → VK → Prop := fun x lo hi H Q => ∃ a xs, x = .ref a ∧ SqT K H a xs ∧
  ¬ (HT.sIx xs.length 0 lo = 0 ∧ HT.sIx xs.length xs.length hi = xs.length) ∧ ∀ p, H p = none → Q (.ref p) (upd H p (.tup (cutV xs lo hi)))
theorem sl_tup : SlR X (rSlT X.K) := by
  intro pins s σ H x v vl vu lo hi sl Q I rx hs pl pu h
  obtain ⟨a, xs, rfl, hx, hw, q⟩ := h
  cases rx
  obtain ⟨its, r, ht, hz⟩ := I.tuple hx
  have hlen : its.toArray.size = xs.length := by rw [List.size_toArray]; exact r.length.symm
  refine ⟨"tuple", _, PyProof.Rows.slot_tuple_getitem.lookup, ht.typeIs, ?_⟩
  refine HT.getItem_tuple_cut ht hs pl pu (by rw [hlen]; exact hw) ?_ (by rw [hlen]; exact hz)
  rw [hlen]
  refine ⟨.ref s.heap.objs.size, _, I.laid (t' := s.toks) (o := .tup (cutV xs lo hi)) (fun b ob q => Heap.get?_push_of_some _ q) (Nat.le_refl _) ?_, rfl, q _ (I.hok.fresh (Nat.le_refl _))⟩
  exact ⟨Nat.le_trans (cutV_length xs lo hi) hz, _, (r.drop (HT.sIx xs.length 0 lo)).take (HT.sIx xs.length xs.length hi - HT.sIx xs.length 0 lo), IsTup.new _ _⟩

/-! ### t < u, t + u -/
/-- t + u, t not empty: u empty gives t itself -/
def rCatT (K : PySem.W.Frag) : R2 := fun x y H Q => ∃ a b xs ys, x = .ref a ∧ y = .ref b ∧ SqT K H a xs ∧ SqT K H b ys ∧ xs ≠ [] ∧ xs.length + ys.length ≤ sizeLine ∧
  (ys = [] → Q (.ref a) H) ∧ (ys ≠ [] → ∀ p, H p = none → Q (.ref p) (upd H p (.tup (xs ++ ys))))
theorem Vals.nil_iff {xs : List V} {us : List Value} (r : Vals xs us) : us = [] ↔ xs = [] := by
  cases r with
  | nil => simp
  | cons _ _ => simp
theorem op_catT : OpR X (binaryOp .Add) (rCatT X.K) := by
  intro pins s σ H x y v u Q I rx ry h
  obtain ⟨a, b, xs, ys, rfl, rfl, ha, hb, hx, hz, q1, q2⟩ := h
  cases rx
  cases ry
  obtain ⟨its, r1, p1, _⟩ := I.tuple ha
  obtain ⟨its2, r2, p2, _⟩ := I.tuple hb
  refine HT.cat_tup p1 p2 (fun z => hx (r1.nil_iff.mp z)) (fun z => ⟨.ref a, H, I, rfl, q1 (r2.nil_iff.mp z)⟩) (fun z => ?_) (by rw [← r1.length, ← r2.length]; exact hz)
  refine ⟨.ref s.heap.objs.size, _, I.laid (t' := s.toks) (o := .tup (xs ++ ys)) (fun b ob q => Heap.get?_push_of_some _ q) (Nat.le_refl _) ?_, rfl, q2 (fun w => z (r2.nil_iff.mpr w)) _ (I.hok.fresh (Nat.le_refl _))⟩
  exact ⟨by rw [List.length_append]; exact hz, _, r1.append r2, IsTup.new _ _⟩
end
end L2

namespace L2
open PySem PySem.Spec PyProof.Rows

/-! ### places -/
/-- the place that an index of any sign means -/
def ixN (n : Nat) (i : Int) : Option Nat := if 0 ≤ i then (if i < n then some i.toNat else none) else if -(n : Int) ≤ i then some (i + n).toNat else none
def atI {α : Type} (xs : List α) (i : Int) : Option α := (ixN xs.length i).bind fun j => xs[j]?
theorem ixN_seq {n : Nat} {i : Int} {j : Nat} (h : ixN n i = some j) : seqIndex? i n = some j ∧ j < n ∧ -(n : Int) ≤ i ∧ i < n := by
  unfold ixN at h
  by_cases h0 : 0 ≤ i
  · rw [if_pos h0] at h
    by_cases h1 : i < n
    · rw [if_pos h1] at h
      have e : i.toNat = j := Option.some.inj h
      exact ⟨by rw [seqIndex_of h0 h1, e], by omega, by omega, h1⟩
    · rw [if_neg h1] at h; cases h
  · rw [if_neg h0] at h
    by_cases h1 : -(n : Int) ≤ i
    · rw [if_pos h1] at h
      have e : (i + n).toNat = j := Option.some.inj h
      exact ⟨by rw [seqIndex_neg (by omega) h1, e], by omega, h1, by omega⟩
    · rw [if_neg h1] at h; cases h
theorem atI_get {α : Type} {xs : List α} {i : Int} {v : α} (h : atI xs i = some v) : ∃ j, seqIndex? i xs.length = some j ∧ xs[j]? = some v ∧ j < xs.length ∧ -(xs.length : Int) ≤ i ∧ i < xs.length := by
  unfold atI at h
  cases e : ixN xs.length i with
  | none => rw [e] at h; cases h
  | some j =>
    rw [e] at h
    obtain ⟨h1, h2, h3, h4⟩ := ixN_seq e
    exact ⟨j, h1, h, h2, h3, h4⟩
theorem atI_nat {α : Type} {xs : List α} {j : Nat} {v : α} (h : xs[j]? = some v) : atI xs (j : Int) = some v := by
  have hj : j < xs.length := (List.getElem?_eq_some_iff.mp h).1
  have e : ixN xs.length (j : Int) = some j := by
    unfold ixN
    rw [if_pos (by omega), if_pos (by omega)]; simp
  unfold atI; rw [e]; exact h

/-! ### what may be subscripted -/
/-- what stands as an index of a plain subscript -/
def PlainIx (b : Expr) : Prop := ∀ o i, subscripted b false o i = operate [o, i] (getItem o i)
/-- a subscript by values -/
def IxR (X : Cx) (r : R2) : Prop :=
  ∀ (value slice : Expr) (pins : List (Addr × Obj)) (s : Shared) (σ : St) (H : Hp) (x y : V) (v u : Value) (Q : VK), Inv X pins σ H s → RelV x v → RelV y u → r x y H Q →
    subscripted slice false v u = operate [v, u] (getItem v u) → wpAny (model X.prog X.w) X.A (subscriptTail value slice v u) (EP X pins σ Q) X.xe s
/-- a call of a builtin's method by values: the receiver, the arguments -/
def MtR (X : Cx) (id : String) (r : V → List V → Hp → VK → Prop) : Prop :=
  ∀ (pins : List (Addr × Obj)) (s : Shared) (σ : St) (H : Hp) (x : V) (xs : List V) (v : Value) (us : List Value) (Q : VK), Inv X pins σ H s → RelV x v → Vals xs us → r x xs H Q →
    wpAny (model X.prog X.w) X.A (call (.builtin id) (v :: us)) (EP X pins σ Q) X.xe s
section
variable {X : Cx} {a b : Expr} {ta tb : TE} {pos : Pos}
/-- a[b] -/
theorem pe_ix {r : R2} (hr : IxR X r) (ha : PE X a ta) (hb : PE X b tb) (hs : PlainIx b) : PE X (.Subscript a b pos) (tOp r ta tb) := by
  intro pins s σ H Q I h
  exact Subscript_ (binT ha hb I h fun v u s2 x y H2 I2 rx ry q => hr a b pins s2 σ H2 x y v u Q I2 rx ry q (hs _ _))

def rIxL (K : PySem.W.Frag) : R2 := fun x y H Q => ∃ p xs i v, x = .ref p ∧ y = .int i ∧ SqL K H p xs ∧ atI xs i = some v ∧ Q v H
def rIxT (K : PySem.W.Frag) : R2 := fun x y H Q => ∃ p xs i v, x = .ref p ∧ y = .int i ∧ SqT K H p xs ∧ atI xs i = some v ∧ Q v H
def rIxS : R2 := fun x y H Q => ∃ z i c, x = .str z ∧ y = .int i ∧ z.length ≤ sizeLine ∧ atI z.cps.toList i = some c ∧ Q (.str ⟨#[c]⟩) H
theorem ix_list : IxR X (rIxL X.K) := by
  intro value slice pins s σ H x y v u Q I rx ry h hs
  obtain ⟨p, xs, i, z, rfl, rfl, hq, he, q⟩ := h
  cases rx
  obtain ⟨t, rfl⟩ := ry
  obtain ⟨its, r, pl, hz⟩ := I.list hq
  obtain ⟨j, h1, h2, h3, h4, h5⟩ := atI_get he
  obtain ⟨w, ew, rw'⟩ := r.get h2
  have hl := r.length
  have hn := line63
  have fin : EP X pins σ Q w s := ⟨z, H, I, rw', q⟩
  by_cases h0 : 0 ≤ i
  · have hj : i.toNat = j := by
      rw [seqIndex_of h0 h5] at h1
      exact Option.some.inj h1
    exact item_listR pl.isList h0 (by omega) (by rw [hj]; simpa using ew) fin hs
  · have hj : (i + (its.toArray.size : Int)).toNat = j := by
      rw [seqIndex_neg (by omega) h4] at h1
      rw [List.size_toArray, ← hl]
      exact Option.some.inj h1
    exact subscriptTail_builtinR (x := w) pl.isList.typeIs slot_list_getitem.lookup
      (wpAny_getItem_list_neg (Q := fun r s' => r = w ∧ EP X pins σ Q r s') pl.isList (by omega) (by rw [List.size_toArray] <;> omega) (by omega) (by rw [hj]; simpa using ew) ⟨rfl, fin⟩) hs
theorem ix_tup : IxR X (rIxT X.K) := by
  intro value slice pins s σ H x y v u Q I rx ry h hs
  obtain ⟨p, xs, i, z, rfl, rfl, hq, he, q⟩ := h
  cases rx
  obtain ⟨t, rfl⟩ := ry
  obtain ⟨its, r, pl, hz⟩ := I.tuple hq
  obtain ⟨j, h1, h2, h3, h4, h5⟩ := atI_get he
  obtain ⟨w, ew, rw'⟩ := r.get h2
  have hl := r.length
  have hn := line63
  have fin : EP X pins σ Q w s := ⟨z, H, I, rw', q⟩
  exact subscriptTail_builtinR (x := w) pl.typeIs slot_tuple_getitem.lookup
    (getItem_tuple (j := j) (Q := fun r s' => r = w ∧ EP X pins σ Q r s') pl (by omega) (by omega) (by rw [List.size_toArray, ← hl]; exact h1) (by simpa using ew) ⟨rfl, fin⟩) hs
theorem ix_str : IxR X rIxS := by
  intro value slice pins s σ H x y v u Q I rx ry h hs
  obtain ⟨z, i, c, rfl, rfl, hz, he, q⟩ := h
  obtain ⟨t, rfl⟩ := rx
  obtain ⟨t', rfl⟩ := ry
  obtain ⟨j, h1, h2, h3, h4, h5⟩ := atI_get he
  have hl : z.cps.toList.length = z.length := by simp [Str.length]
  rw [hl] at h1 h4 h5
  have hn := line63
  exact tail_any (typeIs_str s z t) slot_str_getitem.lookup (getItem_str (c := c) (by
    have e1 : decide (i < -(2 ^ 63 : Int)) = false := decide_eq_false (by omega)
    have e2 : decide (i ≥ 2 ^ 63) = false := decide_eq_false (by omega)
    rw [e1, e2, Bool.or_false]) (by rw [h1]; simpa using h2) ⟨.str ⟨#[c]⟩, H, I.tok _, ⟨_, rfl⟩, q⟩) hs

/-! ### xs[i] = v, any sign -/
/-- the list's object behind a store -/
theorem mapSeq_set (its : List Value) (n j : Nat) (u : Value) : Obj.mapSeq (·.setIfInBounds j u) { cls := .type "list", data := .seq its.toArray n } = { cls := .type "list", data := .seq (its.set j u).toArray n } := by
  simp [Obj.mapSeq]
theorem Inv.lst {pins : List (Addr × Obj)} {σ : St} {H : Hp} {s : Shared} {p : Addr} {xs : List V} (I : Inv X pins σ H s) (h : H p = some (.lst xs)) :
    ∃ (its : List Value) (n : Nat), Vals xs its ∧ s.heap.get? p = some { cls := .type "list", data := .seq its.toArray n } ∧ xs.length ≤ sizeLine := by
  obtain ⟨z, its, n, r, e⟩ := I.hok p _ h
  exact ⟨its, n, r, e, z⟩
/-- the list at p is written by an update of its object -/
theorem Inv.lstUpd {pins : List (Addr × Obj)} {σ : St} {H : Hp} {s : Shared} {p : Addr} {xs ys : List V} {its its' : List Value} {n n' : Nat} {f : Obj → Obj} (I : Inv X pins σ H s) (h : H p = some (.lst xs))
    (ho : s.heap.get? p = some { cls := .type "list", data := .seq its.toArray n }) (hf : f { cls := .type "list", data := .seq its.toArray n } = { cls := .type "list", data := .seq its'.toArray n' }) (r : Vals ys its') (hz : ys.length ≤ sizeLine) (t : Nat) :
    Inv X pins σ (upd H p (.lst ys)) { s with heap := s.heap.update p f, toks := t } := by
  have e : (s.heap.update p f).get? p = some { cls := .type "list", data := .seq its'.toArray n' } := by
    rw [Heap.get?_update_self f ho (by rw [hf] <;> rfl), hf]
  refine I.write (x := p) (e := p) (by rw [h]; trivial) (.inl rfl) (fun b u hb q => (Heap.get?_update_other _ _ (Ne.symm hb)).trans q) ⟨_, e⟩ ?_
  exact ⟨hz, its', n', r, e⟩
def rSetL : V → V → V → Hp → (Hp → Prop) → Prop := fun o i v H Q => ∃ p xs k j, o = .ref p ∧ i = .int k ∧ H p = some (.lst xs) ∧ ixN xs.length k = some j ∧ Q (upd H p (.lst (xs.set j v)))
theorem set_list : PSet X rSetL := by
  intro pins s σ H o i v ov iv u Q I ro ri rv h
  obtain ⟨p, xs, k, j, rfl, rfl, hp, hj, q⟩ := h
  cases ro
  obtain ⟨t, rfl⟩ := ri
  obtain ⟨its, n, r, ho, hz⟩ := I.lst hp
  obtain ⟨h1, h2, h3, h4⟩ := ixN_seq hj
  have hl := r.length
  have hn := line63
  have I' : Inv X pins σ (upd H p (.lst (xs.set j v))) { s with heap := s.heap.update p (Obj.mapSeq (·.setIfInBounds j u)) } :=
    I.lstUpd hp ho (mapSeq_set its n j u) (r.set rv j) (by rw [List.length_set]; exact hz) s.toks
  by_cases h0 : 0 ≤ k
  · have hk : k.toNat = j := by
      rw [seqIndex_of h0 h4] at h1
      exact Option.some.inj h1
    exact PySem.W.ki_setAt ho h0 (by omega) (by rw [List.size_toArray, ← hl]; exact h4) (by rw [hk]; exact ⟨_, I', q⟩)
  · have hk : (k + (its.toArray.size : Int)).toNat = j := by
      rw [seqIndex_neg (by omega) h3] at h1
      rw [List.size_toArray, ← hl]
      exact Option.some.inj h1
    exact PySem.W.ki_setBack ho (by omega) (by rw [List.size_toArray, ← hl]; exact h3) (by omega) (by rw [hk]; exact ⟨_, I', q⟩)

/-! ### slices -/
theorem slice_bounds (lo hi : Option Int) (n : Nat) : (sliceBounds lo hi none n).1 = ((HT.sIx n 0 lo : Nat) : Int) ∧ (sliceBounds lo hi none n).2.1 = ((HT.sIx n n hi : Nat) : Int) ∧ (sliceBounds lo hi none n).2.2 = 1 := by
  refine ⟨?_, ?_, rfl⟩
  · cases lo with
    | none => simp [sliceBounds, HT.sIx]
    | some i =>
      simp only [sliceBounds, HT.sIx, Option.getD_none, show (1 : Int) > 0 by decide, if_true]
      by_cases h : i < 0
      · simp only [h, if_true] <;> omega
      · simp only [h, if_false] <;> omega
  · cases hi with
    | none => simp [sliceBounds, HT.sIx]
    | some i =>
      simp only [sliceBounds, HT.sIx, Option.getD_none, show (1 : Int) > 0 by decide, if_true]
      by_cases h : i < 0
      · simp only [h, if_true] <;> omega
      · simp only [h, if_false] <;> omega
theorem slicePick_cut (its : List Value) (lo hi : Option Int) : slicePick its.toArray lo hi none = ((its.drop (HT.sIx its.length 0 lo)).take (HT.sIx its.length its.length hi - HT.sIx its.length 0 lo)).toArray := by
  obtain ⟨h1, h2, h3⟩ := slice_bounds lo hi its.toArray.size
  unfold slicePick
  rw [h1, h2, h3]
  simp only [sliceRange_one, pick_run, List.size_toArray] <;> rfl
/-- xs[lo:hi] of a list: a new list -/
def rSlL (K : PySem.W.Frag) : V → Option Int → Option Int → Hp → VK → Prop := fun x lo hi H Q => ∃ a xs, x = .ref a ∧ SqL K H a xs ∧ ∀ p, H p = none → Q (.ref p) (upd H p (.lst (cutV xs lo hi)))
theorem sl_list : SlR X (rSlL X.K) := by
  intro pins s σ H x v vl vu lo hi sl Q I rx hs pl pu h
  obtain ⟨a, xs, rfl, hx, q⟩ := h
  cases rx
  obtain ⟨its, r, ht, hz⟩ := I.list hx
  have hlen := r.length
  refine ⟨"list", _, slot_list_getitem.lookup, ht.isList.typeIs, ?_⟩
  refine wpAny_getItem_list_slice ht.isList hs pl pu .none (by simp) ?_ (by rw [List.size_toArray] <;> omega)
  rw [slicePick_cut, ← hlen]
  refine ⟨.ref s.heap.objs.size, _, I.laid (t' := s.toks) (o := .lst (cutV xs lo hi)) (fun b ob q => Heap.get?_push_of_some _ q) (Nat.le_refl _) ?_, rfl, q _ (I.hok.fresh (Nat.le_refl _))⟩
  exact ⟨Nat.le_trans (cutV_length xs lo hi) hz, _, 0, (r.drop (HT.sIx xs.length 0 lo)).take (HT.sIx xs.length xs.length hi - HT.sIx xs.length 0 lo), Heap.get?_push_size _ rfl⟩

/-! ### in, not in: flat items -/
def flatV : V → Bool
  | .non => true
  | .bl _ => true
  | .int _ => true
  | .str _ => true
  | _ => false
/-- == of flat values -/
def eqV : V → V → Bool
  | .non, .non => true
  | .bl a, .bl b => a == b
  | .bl a, .int b => (if a then 1 else 0) == b
  | .int a, .bl b => a == (if b then 1 else 0)
  | .int a, .int b => a == b
  | .str a, .str b => a == b
  | _, _ => false
theorem eqAt_V {A : Around} {s : Shared} {y x : V} {u v : Value} (ry : RelV y u) (rx : RelV x v) (fy : flatV y = true) (fx : flatV x = true) : SeqAt.EqAt A s u v (eqV y x) := by
  cases y with
  | non =>
    cases ry
    cases x with
    | non => cases rx; exact SeqAt.EqAt.same _
    | bl b => cases rx; exact SeqAt.EqAt.none_bool b
    | int b => obtain ⟨t, rfl⟩ := rx; exact SeqAt.EqAt.none_int b t
    | str b => obtain ⟨t, rfl⟩ := rx; exact SeqAt.EqAt.none_str b t
    | _ => exact absurd (show false = true from fx) Bool.false_ne_true
  | bl a =>
    cases ry
    cases x with
    | non => cases rx; exact SeqAt.EqAt.bool_none a
    | bl b => cases rx; exact SeqAt.EqAt.bool_bool a b
    | int b => obtain ⟨t, rfl⟩ := rx; exact SeqAt.EqAt.bool_int a b t
    | str b => obtain ⟨t, rfl⟩ := rx; exact SeqAt.EqAt.bool_str a b t
    | _ => exact absurd (show false = true from fx) Bool.false_ne_true
  | int a =>
    obtain ⟨t', rfl⟩ := ry
    cases x with
    | non => cases rx; exact SeqAt.EqAt.int_none a t'
    | bl b => cases rx; exact SeqAt.EqAt.int_bool a t' b
    | int b => obtain ⟨t, rfl⟩ := rx; exact SeqAt.EqAt.int_int a t' b t
    | str b => obtain ⟨t, rfl⟩ := rx; exact SeqAt.EqAt.int_str a t' b t
    | _ => exact absurd (show false = true from fx) Bool.false_ne_true
  | str a =>
    obtain ⟨t', rfl⟩ := ry
    cases x with
    | non => cases rx; exact SeqAt.EqAt.str_none a t'
    | bl b => cases rx; exact SeqAt.EqAt.str_bool a t' b
    | int b => obtain ⟨t, rfl⟩ := rx; exact SeqAt.EqAt.str_int a t' b t
    | str b => obtain ⟨t, rfl⟩ := rx; exact SeqAt.EqAt.str_str a t' b t
    | _ => exact absurd (show false = true from fx) Bool.false_ne_true
  | _ => exact absurd (show false = true from fy) Bool.false_ne_true
/-- the items' answers, read off the values (a value's own answer does not lean on its token) -/
def eqU (x : V) (u : Value) : Bool := match u with
  | .none => eqV .non x
  | .bool b => eqV (.bl b) x
  | .int i _ => eqV (.int i) x
  | .str z _ => eqV (.str z) x
  | _ => false
theorem eqU_of {x y : V} {u : Value} (r : RelV y u) (f : flatV y = true) : eqU x u = eqV y x := by
  cases y with
  | non => cases r; rfl
  | bl b => cases r; rfl
  | int i => obtain ⟨t, rfl⟩ := r; rfl
  | str z => obtain ⟨t, rfl⟩ := r; rfl
  | _ => exact absurd (show false = true from f) Bool.false_ne_true
theorem any_eqU {x : V} : ∀ {xs : List V} {us : List Value}, Vals xs us → xs.all flatV = true → us.any (eqU x) = xs.any fun y => eqV y x
  | _, _, .nil, _ => rfl
  | y :: xs, u :: us, .cons r t, f => by
    rw [List.all_cons, Bool.and_eq_true] at f
    rw [List.any_cons, List.any_cons, eqU_of r f.1, any_eqU t f.2]
theorem mem_eqAt {A : Around} {s : Shared} {x : V} {v : Value} (rx : RelV x v) (fx : flatV x = true) : ∀ {xs : List V} {us : List Value}, Vals xs us → xs.all flatV = true → ∀ u ∈ us, SeqAt.EqAt A s u v (eqU x u)
  | _, _, .nil, _ => fun u hu => by cases hu
  | y :: xs, u :: us, .cons r t, f => fun u' hu => by
    rw [List.all_cons, Bool.and_eq_true] at f
    rcases List.mem_cons.mp hu with rfl | hu
    · rw [eqU_of r f.1]; exact eqAt_V r rx f.1 fx
    · exact mem_eqAt rx fx t f.2 u' hu
def inV (x : V) (xs : List V) : Bool := xs.any fun y => eqV y x
/-- x in a list or tuple of flat items -/
def rIn (K : PySem.W.Frag) (neg : Bool) : R2 := fun x y H Q => ∃ p xs, y = .ref p ∧ (SqL K H p xs ∨ SqT K H p xs) ∧ flatV x = true ∧ xs.all flatV = true ∧ Q (.bl (if neg then !inV x xs else inV x xs)) H
theorem op_in_seq : OpR X (compareOp .In) (rIn X.K false) := by
  intro pins s σ H x y v u Q I rx ry h
  obtain ⟨p, xs, rfl, hq, fx, fs, q⟩ := h
  cases ry
  rcases hq with hq | hq
  · obtain ⟨its, r, pl, hz⟩ := I.list hq
    refine SeqAt.in_listAt (eqU x) pl.isList (fun w hw => mem_eqAt rx fx r fs w (by simpa using hw)) ⟨.bl _, H, I, rfl, ?_⟩
    rw [show its.toArray.any (eqU x) = its.any (eqU x) by simp, any_eqU r fs]
    exact q
  · obtain ⟨its, r, pl, hz⟩ := I.tuple hq
    refine SeqAt.in_tupleAt (eqU x) pl (fun w hw => mem_eqAt rx fx r fs w (by simpa using hw)) ⟨.bl _, H, I, rfl, ?_⟩
    rw [show its.toArray.any (eqU x) = its.any (eqU x) by simp, any_eqU r fs]
    exact q

/-! ### len, list(x), tuple(x) of any list or tuple that is read -/
theorem call_len_seq : CallR X (.builtin "len") (fun xs H Q => ∃ p ys, xs = [.ref p] ∧ (SqL X.K H p ys ∨ SqT X.K H p ys) ∧ Q (.int ys.length) H) := by
  intro pins s σ H xs us Q I r h
  obtain ⟨p, ys, rfl, hq, q⟩ := h
  obtain ⟨u, rfl, rx⟩ := vals1 r
  cases rx
  have hn := line63
  rcases hq with hq | hq
  · obtain ⟨its, r', pl, hz⟩ := I.list hq
    have hlen := r'.length
    exact Calls.call_len_list pl.isList (by simp only [List.size_toArray] <;> omega) ⟨.int ys.length, H, I.tok _, ⟨s.toks + 1, by rw [List.size_toArray, hlen]⟩, q⟩
  · obtain ⟨its, r', pl, hz⟩ := I.tuple hq
    have hlen := r'.length
    exact len_tuple pl (by simp only [List.size_toArray] <;> omega) ⟨.int ys.length, H, I.tok _, ⟨s.toks + 1, by rw [List.size_toArray, hlen]⟩, q⟩
theorem call_len_str : CallR X (.builtin "len") (fun xs H Q => ∃ z, xs = [.str z] ∧ z.length ≤ sizeLine ∧ Q (.int z.length) H) := by
  intro pins s σ H xs us Q I r h
  obtain ⟨z, rfl, hz, q⟩ := h
  obtain ⟨u, rfl, t, rfl⟩ := vals1 r
  have hn := line63
  exact len_str (by omega) ⟨.int z.length, H, I.tok _, ⟨_, rfl⟩, q⟩
theorem call_list_of : CallR X (.type "list") (fun xs H Q => ∃ p ys, xs = [.ref p] ∧ (SqL X.K H p ys ∨ SqT X.K H p ys) ∧ ∀ l, H l = none → Q (.ref l) (upd H l (.lst ys))) := by
  intro pins s σ H xs us Q I r h
  obtain ⟨p, ys, rfl, hq, q⟩ := h
  obtain ⟨u, rfl, rx⟩ := vals1 r
  cases rx
  have fin : ∀ (its : List Value), Vals ys its → ys.length ≤ sizeLine → ∀ (h' : Heap) (c' : Nat), (∀ b o', s.heap.get? b = some o' → h'.get? b = some o') →
      h'.get? s.heap.objs.size = some { cls := .type "list", dict := none, data := .seq its.toArray c', slots := #[] } → EP X pins σ Q (.ref s.heap.objs.size) { s with heap := h' } := fun its r' hz h' c' kp e =>
    ⟨.ref s.heap.objs.size, _, I.laid (t' := s.toks) kp (Nat.le_refl _) (show ObjOk X.prog X.w _ h' _ (.lst ys) from ⟨hz, its, c', r', e⟩), rfl, q _ (I.hok.fresh (Nat.le_refl _))⟩
  rcases hq with hq | hq
  · obtain ⟨its, r', pl, hz⟩ := I.list hq
    have hlen := r'.length
    obtain ⟨o, ho, hc, n, hd⟩ := pl.isList
    exact call_list_seq p (.inl rfl) ho hc hd (fun h' c' kp e => fin its r' hz h' c' kp e) (by simp only [List.size_toArray] <;> omega)
  · obtain ⟨its, r', pl, hz⟩ := I.tuple hq
    have hlen := r'.length
    obtain ⟨o, ho, hc, n, hd⟩ := pl
    exact call_list_seq p (.inr rfl) ho hc hd (fun h' c' kp e => fin its r' hz h' c' kp e) (by simp only [List.size_toArray] <;> omega)
theorem call_tuple_of : CallR X (.type "tuple") (fun xs H Q => ∃ p ys, xs = [.ref p] ∧ ((SqL X.K H p ys ∧ ∀ l, H l = none → Q (.ref l) (upd H l (.tup ys))) ∨ (SqT X.K H p ys ∧ Q (.ref p) H))) := by
  intro pins s σ H xs us Q I r h
  obtain ⟨p, ys, rfl, h⟩ := h
  obtain ⟨u, rfl, rx⟩ := vals1 r
  cases rx
  rcases h with ⟨hq, q⟩ | ⟨hq, q⟩
  · obtain ⟨its, r', pl, hz⟩ := I.list hq
    have hlen := r'.length
    refine call_tuple_list pl.isList (fun h' kp => ?_) (by simp only [List.size_toArray] <;> omega)
    have I1 : Inv X pins σ H { s with heap := h' } := I.kept (t' := s.toks) kp
    have I2 : Inv X pins σ (upd H h'.objs.size (.tup ys)) { s with heap := h'.push { cls := .type "tuple", data := .seq its.toArray } } :=
      I1.laid (t' := s.toks) (fun b o e => Heap.get?_push_of_some _ e) (Nat.le_refl _) (show ObjOk X.prog X.w _ _ _ (.tup ys) from ⟨hz, its, r', IsTup.new _ _⟩)
    exact ⟨.ref h'.objs.size, _, I2, rfl, q _ (I1.hok.fresh (Nat.le_refl _))⟩
  · obtain ⟨its, r', pl, hz⟩ := I.tuple hq
    exact call_tuple_same pl ⟨.ref p, H, I, rfl, q⟩

/-! ### the call of a builtin's method: o.m(..) -/
/-- the value is of that builtin type -/
def tyV (K : PySem.W.Frag) (T : String) (x : V) (H : Hp) : Prop := match x with
  | .str _ => T = "str"
  | .int _ => T = "int"
  | .ref p => (T = "list" ∧ ∃ xs, SqL K H p xs) ∨ (T = "tuple" ∧ ∃ o, K.lookup p = some o ∧ o.cls = .type "tuple" ∧ o.dict = none) ∨
      (T = "dict" ∧ ((∃ kvs, H p = some (.dK kvs)) ∨ ∃ kvs, H p = some (.dT kvs))) ∨ (T = "set" ∧ ∃ S n, H p = some (.set S n))
  | _ => False
theorem tyV_is {pins : List (Addr × Obj)} {σ : St} {H : Hp} {s : Shared} {T : String} {x : V} {v : Value} (I : Inv X pins σ H s) (r : RelV x v) (ty : tyV X.K T x H) :
    s.TypeIs v T ∧ ∀ a, v = .ref a → ∃ ob, s.heap.get? a = some ob ∧ ob.dict = none := by
  cases x with
  | str z =>
    obtain ⟨t, rfl⟩ := r
    cases (show T = "str" from ty)
    exact ⟨typeIs_str s z t, fun _ e => nomatch e⟩
  | int i =>
    obtain ⟨t, rfl⟩ := r
    cases (show T = "int" from ty)
    exact ⟨typeIs_int s i t, fun _ e => nomatch e⟩
  | ref p =>
    cases r
    rcases ty with ⟨rfl, xs, hq⟩ | ⟨rfl, o, hk, hc, hd⟩ | ⟨rfl, hk⟩ | ⟨rfl, S, n, hk⟩
    · obtain ⟨its, _, pl, _⟩ := I.list hq
      refine ⟨pl.isList.typeIs, fun a e => ?_⟩
      cases e
      obtain ⟨o, n, e, c, hd, _⟩ := pl
      exact ⟨o, e, hd⟩
    · refine ⟨⟨o, I.kIn p o hk, hc⟩, fun a e => ?_⟩
      cases e
      exact ⟨o, I.kIn _ o hk, hd⟩
    · have z : ∃ o, s.heap.get? p = some o ∧ o.ExactDict := by
        rcases hk with ⟨kvs, hk⟩ | ⟨kvs, hk⟩
        · obtain ⟨_, _, _, _, o, _, _, e, ex, _⟩ := I.hok p _ hk
          exact ⟨o, e, ex⟩
        · obtain ⟨_, _, _, _, o, _, _, e, ex, _⟩ := I.hok p _ hk
          exact ⟨o, e, ex⟩
      obtain ⟨o, e, ex⟩ := z
      refine ⟨⟨o, e, ex.1⟩, fun a e2 => ?_⟩
      cases e2
      exact ⟨o, e, ex.2.1⟩
    · obtain ⟨o, _, _, _, e, ex, _⟩ := I.hok p _ hk
      refine ⟨⟨o, e, ex.1⟩, fun a e2 => ?_⟩
      cases e2
      exact ⟨o, e, ex.2.1⟩
  | _ => exact False.elim ty
def tBM (K : PySem.W.Frag) (T : String) (r : V → List V → Hp → VK → Prop) (to : TE) (t : TA) : TE := fun σ H Q => to σ H fun x H1 => tyV K T x H1 ∧ t σ H1 fun xs H2 => r x xs H2 Q
variable {o e : Expr} {es : List Expr} {to : TE} {t : TA} {name : Str} {apos cpos : Pos} {T id : String} {r : V → List V → Hp → VK → Prop}
theorem pe_bm (pa : PlainAttrs T) (slot : Slot T name id) (hty : typeOf (.builtin id) = pure (.type "method_descriptor")) (hm : MtR X id r) (ho : PE X o to) (ha : PA X (e :: es) t)
    (hbase : attributeBase o name X.env (eval o X.env) = eval o X.env := by rfl)
    (hfew : ((backTo cpos (starEach (e :: es) X.env)).all (fun x => !x.1) && (backToKw cpos (keywordEach [] X.env)).all (fun x => x.1.isSome)
      && decide ((e :: es).length + ([] : List Keyword).length + (if ([] : List Keyword).isEmpty then 0 else 1) < 30)) = true := by rfl)
    (hline : (apos.endLine == cpos.line) = true := by rfl) (hs : starEach (e :: es) X.env = (false, eval e X.env) :: starEach es X.env := by rfl) (hplain : (backTo cpos (starEach es X.env)).any (·.1) = false := by rfl) :
    PE X (.Call (.Attribute o name apos) (e :: es) [] cpos) (tBM X.K T r to t) := by
  intro pins s σ H Q I h
  refine wpAny_Call_method_late hbase hfew hline rfl (thn (ho pins s σ H _ I h) fun v s1 ⟨x, H1, I1, r1, ty, q1⟩ => ?_)
  obtain ⟨h1, h2⟩ := tyV_is I1 r1 ty
  refine ⟨T, id, pa, slot, hty, h1, h2, ?_⟩
  have hA := ha cpos pins s1 σ H1 _ I1 q1
  rw [hs] at hA ⊢
  refine Calls.callWith_builtin (by show (false || (backTo cpos (starEach es X.env)).any (·.1)) = false; rw [hplain] <;> rfl) (Calls.evalArgs_plain ?_)
  exact thn hA fun us s2 ⟨vs, H2, I2, r2, q2⟩ => hm pins s2 σ H2 x vs v us Q I2 r1 r2 q2
/- xs.append(e), list.index on a module's tuple .. are MtR facts of 06m -/
end
end L2

namespace L2
open PySem PySem.Spec PyProof.Rows

def MtM (X : Cx) (id : String) (r : V → List V → Hp → VK → Prop) : Prop :=
  ∀ (pins : List (Addr × Obj)) (s : Shared) (σ : St) (H : Hp) (x : V) (xs : List V) (v : Value) (us : List Value) (Q : VK), Inv X pins σ H s → RelV x v → Vals xs us → r x xs H Q →
    wpAny (model X.prog X.w) X.A (call (.builtin id) (v :: us)) (EP X pins σ Q) X.xe s

/-! ### lists of values -/
theorem Vals.one : ∀ {x : V} {us : List Value}, Vals [x] us → ∃ u, us = [u] ∧ RelV x u
  | _, _, .cons r .nil => ⟨_, rfl, r⟩

section
variable {X : Cx} {pins : List (Addr × Obj)} {σ : St} {H : Hp} {s : Shared} {l b : Addr} {xs ys zs : List V}

/-! ### the two steps: a tracked list is rewritten, a new list is laid -/
theorem Inv.lset {its its' : List Value} {n : Nat} {f : Array Value → Array Value} {t' : Nat} (I : Inv X pins σ H s) (hH : H l = some (.lst xs))
    (e : s.heap.get? l = some { cls := .type "list", data := .seq its.toArray n }) (hf : f its.toArray = its'.toArray) (hv : Vals ys its') (hz : ys.length ≤ sizeLine) :
    Inv X pins σ (upd H l (.lst ys)) { s with heap := s.heap.update l (Obj.mapSeq f), toks := t' } := by
  have q := PySem.IsL.update e f
  rw [hf] at q
  refine I.write (x := l) (e := l) (by rw [hH]; exact trivial) (.inl rfl) (fun b' u hb hu => (Heap.get?_update_other s.heap (Obj.mapSeq f) (Ne.symm hb)).trans hu) ⟨_, q⟩ ?_
  exact ⟨hz, its', _, hv, q⟩
theorem Inv.lnew {its : List Value} {t' : Nat} (I : Inv X pins σ H s) (hv : Vals ys its) (hz : ys.length ≤ sizeLine) :
    Inv X pins σ (upd H s.heap.objs.size (.lst ys)) { s with heap := s.heap.push { cls := .type "list", data := .seq its.toArray }, toks := t' } :=
  I.laid (fun _ _ q => Heap.get?_push_of_some _ q) (Nat.le_refl _) ⟨hz, its, 0, hv, Heap.get?_push_size _ rfl⟩
theorem Inv.fresh (I : Inv X pins σ H s) : H s.heap.objs.size = none := I.hok.fresh (Nat.le_refl _)
theorem Inv.lstM (I : Inv X pins σ H s) (hH : H l = some (.lst xs)) : xs.length ≤ sizeLine ∧ ∃ (its : List Value) (n : Nat), Vals xs its ∧ xs.length = its.length ∧ s.heap.get? l = some { cls := .type "list", data := .seq its.toArray n } := by
  obtain ⟨z, its, n, r, e⟩ := I.hok l _ hH
  exact ⟨z, its, n, r, r.length, e⟩

end

section
variable {X : Cx}

/-! ### methods -/
def rAppend : V → List V → Hp → VK → Prop := fun x vs H Q => ∃ l xs y, x = .ref l ∧ vs = [y] ∧ H l = some (.lst xs) ∧ xs.length < sizeLine ∧ Q .non (upd H l (.lst (xs ++ [y])))
theorem mt_append : MtM X "list.append" rAppend := by
  intro pins s σ H x vs v us Q I rx rv h
  obtain ⟨l, xs, y, rfl, rfl, hH, hz, q⟩ := h
  cases rx
  obtain ⟨u, rfl, ru⟩ := rv.one
  obtain ⟨z, its, n, r, hl, e⟩ := I.lstM hH
  refine call_meets F.slot_list_append ⟨_, e, rfl⟩ F.entry_list_append (F.args_list_append_2 _ _) (PySem.list_append l its.toArray n u (by rw [List.size_toArray]; omega)) ⟨e, ?_⟩
  refine ⟨.non, _, I.lset (its' := its ++ [u]) hH e (by simp) (r.append (.cons ru .nil)) ?_, rfl, q⟩
  rw [List.length_append, List.length_singleton]
  omega






/-! ### list + list, list += list, list * int -/
def rCat : R2 := fun x y H Q => ∃ l b xs zs, x = .ref l ∧ y = .ref b ∧ H l = some (.lst xs) ∧ H b = some (.lst zs) ∧ xs.length + zs.length ≤ sizeLine ∧ ∀ p, H p = none → Q (.ref p) (upd H p (.lst (xs ++ zs)))
theorem op_cat : OpR X (binaryOp .Add) rCat := by
  intro pins s σ H x y v u Q I rx ry h
  obtain ⟨l, b, xs, zs, rfl, rfl, hH, hB, hz, q⟩ := h
  cases rx
  cases ry
  obtain ⟨z, its, n, r, hl, e⟩ := I.lstM hH
  obtain ⟨z2, its2, n2, r2, hl2, e2⟩ := I.lstM hB
  refine PySem.P.add_list e e2 ?_ (by rw [List.size_toArray, List.size_toArray]; omega)
  have ea : its.toArray ++ its2.toArray = (its ++ its2).toArray := by simp
  rw [ea]
  exact ⟨.ref _, _, I.lnew (t' := s.toks) (r.append r2) (by rw [List.length_append]; omega), rfl, q _ I.fresh⟩

/-! ### del xs[i] -/
end

/-! ### xs[a:b] = ys -/
section
variable {prog : Program} {w : World} {A : Around} {E : Value → Shared → Prop} {s : Shared}
set_option maxRecDepth 100000 in
end

section
variable {X : Cx}
end
end L2

namespace L2
open PySem PySem.Spec PyProof.Rows

/-! ### lists of pairs as tables -/
section
variable {κ : Type} [DecidableEq κ]


theorem RelO.isSome_eq {o : Option V} {u : Option Value} (r : RelO o u) : o.isSome = u.isSome := by
  cases o with
  | none => cases u with
    | none => rfl
    | some _ => exact (show False from r).elim
  | some _ => cases u with
    | none => exact (show False from r).elim
    | some _ => rfl

end


/-! ### a tracked dict, its keys ints and texts or tuples of these -/


section
variable {P : Program} {w : World} {H : Hp} {h : Heap} {a : Addr}
end



section
variable {X : Cx} {pins : List (Addr × Obj)} {σ : St} {H : Hp} {s : Shared} {a : Addr} {y v : V} {u r : Value} {o : Option V} {A : Around} {E : Value → Shared → Prop}


end

section
variable {X : Cx} {pins : List (Addr × Obj)} {σ : St} {H : Hp} {s : Shared} {a : Addr} {kvs : List (Key × V)} {k : Key} {u : Value} {A : Around} {E : Value → Shared → Prop}
end


/-! ### readings and rules -/
/-- the element of a subscription, not a slice -/
def NoSl (i : Expr) : Prop := ∀ ov iv, subscripted i false ov iv = operate [ov, iv] (getItem ov iv)
theorem subD_of {prog : Program} {w : World} {A : Around} {E : Value → Shared → Prop} {s : Shared} {env : Env} {value slice : Expr} {pos : Pos} {T id : String} {Q : Value → Shared → Prop}
    (hl : typeLookup (.type T) "__getitem__" = pure (some (.builtin id))) (hs : NoSl slice)
    (h : wpAny (model prog w) A (eval value env) (fun o s₁ => wpAny (model prog w) A (eval slice env) (fun i s₂ => s₂.TypeIs o T ∧ wpAny (model prog w) A (getItem o i) Q E s₂) E s₁) E s) :
    wpAny (model prog w) A (eval (.Subscript value slice pos) env) Q E s := by
  refine Subscript_ (wpAny_mono h (fun o s₁ h₁ => wpAny_mono h₁ (fun i s₂ h₂ => ?_) fun _ _ x => x) fun _ _ x => x)
  obtain ⟨hT, h₂⟩ := h₂
  unfold subscriptTail
  refine wpAny_bind ?_
  rw [getitemInPython_of_ne hT.not_modules]
  refine wpAny_bind (wpAny_specialOf hT hl ?_)
  have fin : wpAny (model prog w) A (subscripted slice false o i) (fun r s₃ => wpAny (model prog w) A (letTemporaryGo value o r >>= fun _ => pure r) Q E s₃) E s₂ := by
    rw [hs o i]
    exact wpAny_operating (wpAny_mono h₂ (fun r s₃ h₃ => wpAny_bind (wpAny_letTemporaryGo (wpAny_pure h₃))) fun _ _ x => x)
  first
    | exact wpAny_pure (wpAny_bind fin)
    | exact wpAny_bind (wpAny_pure (wpAny_bind fin))
    | exact wpAny_bind fin



section
variable {X : Cx} {o i e value : Expr} {pos pos' tpos : Pos} {td ty tv : TE}
end


/-! ### displays -/
section
variable {X : Cx} {pos : Pos}
end




/-! ### methods -/


section
variable {X : Cx} {pins : List (Addr × Obj)} {σ : St} {H : Hp} {s : Shared} {a : Addr} {y d : V} {u r : Value} {o : Option V} {A : Around} {E : Value → Shared → Prop}
end

section
variable {X : Cx} {o e f : Expr} {apos cpos : Pos} {td ty tx : TE}
end

/-! ### dict(d): a copy -/
section
variable {X : Cx} {pins : List (Addr × Obj)} {σ : St} {H : Hp} {s : Shared} {a : Addr} {kvs : List (Key × V)} {A : Around} {E : Value → Shared → Prop}
end


section
variable {X : Cx} {pins : List (Addr × Obj)} {σ : St} {H : Hp} {s : Shared} {a : Addr} {y : V} {u : Value} {A : Around} {E : Value → Shared → Prop}
end
end L2

namespace Att
open PySem PySem.W PySem.Calls PyProof.Rows

/-! ### the script -/
theorem ints_of_wellAll {P : Params} {h : Heap} : ∀ (ns : List Int) (vs : List Value), WellAll P h vs (ns.map WData.int) → IntsAre vs ns := by
  intro ns
  induction ns with
  | nil =>
    intro vs w
    rw [List.map_nil] at w
    cases w
    exact .nil
  | cons n ns ih =>
    intro vs w
    rw [List.map_cons] at w
    cases w with
    | cons a b =>
      cases a
      exact .cons _ _ (ih _ b)

theorem script_of {l : OpenLaw} {n : Nat} (hn : l.most = some n) {P : Params} {h : Heap} {args : List WData} {vals : List Value}
    (hpre : l.row.toRowW.claim.pre args = true) (hwl : WellAll P h vals args) :
    ∃ a vs ns, vals = [Value.ref a] ∧ args = [WData.list (ns.map WData.int)] ∧ h.get? a = some { cls := .type "list", data := .seq vs.toArray } ∧ IntsAre vs ns ∧ ns.length ≤ n := by
  have hsh : WShape.hasAll [] args [.list .int] = true := (pre_splitW hpre).1
  have hc : l.pre.holds [] { args := args } = true := (pre_splitW hpre).2
  obtain ⟨d, r, rfl, h1, h2⟩ := hasAllW_cons hsh
  obtain rfl := hasAllW_nil h2
  obtain ⟨xs, rfl, h3⟩ := hasW_list h1
  obtain ⟨ns, rfl⟩ := items_int h3
  have hlen : ns.length ≤ n := by
    unfold OpenLaw.pre at hc
    have h4 : (WTm.not (.lt (.lit (.int (n : Int))) (.len (.arg 0)))).holds [] { args := [.list (ns.map .int)] } = true := by
      have h4 := (holds_andW hc).1
      rw [hn] at h4
      exact h4
    have h5 := condW_of h4 (w_not (w_lt w_lit (w_len_list (w_arg rfl))))
    rw [List.length_map] at h5
    refine Nat.le_of_not_lt fun q => ?_
    have q' : (n : Int) < ((ns.length : Nat) : Int) := by omega
    first
      | (rw [decide_eq_true q'] at h5; exact absurd h5 (by decide))
      | (simp at h5; omega)
  cases hwl with
  | cons w1 w2 =>
    cases w2
    cases w1 with
    | list ho hall => exact ⟨_, _, ns, rfl, rfl, ho, ints_of_wellAll ns _ hall, hlen⟩

theorem post_true (l : OpenLaw) (args : List WData) : l.row.toRowW.claim.post args (.bool true) args = true :=
  postW_of (r := l.row.toRowW) (X := (true == true))
    (show WShape.has [] (.bool true) .bool = true by first | rfl | decide | simp [WShape.has, WShape.arms, WShape.armsAll])
    (show (WTm.eq .res (.lit (.bool true))).value [] { args := args, res := some (.bool true), after := args } = some (.bool (true == true)) from w_eq_bool (w_res rfl) w_lit) rfl

/-! ### the attachment: holds_open's last premise (the goal 'hc' behind k_head) from a wpAny of the law's body -/

/-- the same from a codeAny of the CALL (for a layer whose function contracts speak of calls) -/
theorem attach_call {l : OpenLaw} {n : Nat} {q : Program} {loose : List Str} {XP : (Str → Option Value) → Heap → Prop} {YP : World → Heap → Prop} {d : DefRec}
    (hn : l.most = some n) (hdf : d.params.defaults = [])
    (call : ∀ (w : World) (s₀ s₁ : Shared) (mg mb : Str → Option Value) (fa : Addr) (o : Obj) (pm cd doc : Value) (a : Addr) (vs : List Value) (ns : List Int),
      Ground q loose [] XP w s₀ mg mb s₁.heap → YP w s₁.heap →
      s₁.heap.get? fa = some o → o.data = .func (docDef d.name d.params d.body d.scope pm cd doc) → s₁.heap.CodeRec cd d.name → mg d.name = some (.ref fa) →
      s₁.heap.get? a = some { cls := .type "list", data := .seq vs.toArray } → IntsAre vs ns → ns.length ≤ n → s₁.gens = #[] →
      codeAny (model l.prog w) callerA (.call (.ref fa) ⟨[.ref a], []⟩) (fun r s' => r = .ok (.ret (.bool true)) ∧ OldK s₁.heap s'.heap ∧ s'.os = s₁.os ∧ AllBare s'.gens) s₁) :
    WalkO q loose XP YP l.row.toRowW d [] (fun f vs => PySem.call f vs) := by
  intro w s₀ s₁ mg mb G Y fa o pm cd doc dV kV ho hd hcd hD hmg hg args vals as hpre hlay hrd hwl hlo
  obtain rfl : dV = .none := Dflts.none hD hdf
  obtain rfl : kV = .none := Dflts.noKw hD
  obtain ⟨a, vs, ns, rfl, rfl, hobj, hints, hlen⟩ := script_of hn hpre hwl
  refine enter_call (codeAny_mono (call w s₀ s₁ mg mb fa o pm cd doc a vs ns G Y ho (fd_plain hd) hcd hmg hobj hints hlen hg) fun r s' hq => ?_)
  obtain ⟨rfl, h2, h3, h4⟩ := hq
  exact ⟨.inl ⟨.bool true, .bool true, [], rfl, fun _ => rfl, .bool true, post_true l _, fun _ => ⟨List.Pairwise.nil, fun _ hm => (nomatch hm)⟩⟩, h2, h3, h4⟩


/-! ### rules over ANY heap (no ledger) from facts about the written part K: the library's own take a ledger (News) for what they write -/
section
variable {prog : Program} {w : World} {A : Around} {E : Value → Shared → Prop} {s : Shared} {K : Frag}





/-! the whole heap as the ledger: makes every rule that writes through a ledger a rule over any heap -/

end
end Att

namespace L2
open PySem PySem.Spec PyProof.Rows

theorem vals_ints : ∀ {vs : List Value} {ns : List Int}, IntsAre vs ns → Vals (ns.map V.int) vs
  | _, _, .nil => .nil
  | _, _, .cons n t h => .cons ⟨t, rfl⟩ (vals_ints h)

/-- nothing is tracked but the script, known to the object (or it is an object of the module) -/
def Only (H : Hp) : Prop := ∀ b, H b = none ∨ ∃ o xs, H b = some (.frz o (.lst xs))

/-- THE HEAD: the law's promise, at the heap behind the top. F, the promise of the law's def, may use that base is part of the heap (so K.In base, base.Ns mainGlobals mg stand in Mod) -/
theorem law_call {P : Program} {w : World} {K : PySem.W.Frag} {mg mb : Str → Option Value} {CX : CXT} {k : Nat} {fa a : Addr} {fd : FuncData} {x : Str} {sp : Sp} {s₁ : Shared} {vs : List Value} {ns : List Int}
    (KX : K.In s₁.heap) (hns : s₁.heap.Ns mainGlobals mg) (hb : s₁.heap.Ns builtinsNs mb) (hbb : ∀ x : Str, x ≠ "__name__" → mb x = bootBuiltins x) (hlim : s₁.heap.NoLimit) (hg : s₁.gens = #[])
    (ha : s₁.heap.get? a = some { cls := .type "list", data := .seq vs.toArray }) (hi : IntsAre vs ns) (hl : ns.length ≤ sizeLine) (hr : Room k callerA)
    (F : ∀ base : Heap, K.In base → base.Ns mainGlobals mg → FnOk P w K mg base CX k fa fd [x] sp) (hbind : ∀ (s : Shared) (u : Value), BindsTo s fd ⟨[u], []⟩ [(x, u)])
    (hsp : ∀ H : Hp, Only H → SqL K H a (ns.map V.int) → sp [.ref a] H (fun v _ => v = .bl true) fun _ _ _ => False)
    (hCX : ∀ H e s', CX [] H s₁ (fun _ _ _ => False) e s' → False) :
    codeAny (model P w) callerA (.call (.ref fa) ⟨[.ref a], []⟩) (fun r s' => r = .ok (.ret (.bool true)) ∧ OldK s₁.heap s'.heap ∧ s'.os = s₁.os ∧ AllBare s'.gens) s₁ := by
  have rv := vals_ints hi
  have lenV := hi.length
  -- from an abstract heap in which nothing but the script may be tracked
  have core : ∀ H : Hp, Only H → SqL K H a (ns.map V.int) → HOk P w H s₁.heap → (∀ b, H b ≠ none → b = a) → (H a ≠ none → K.lookup a = none) →
      codeAny (model P w) callerA (.call (.ref fa) ⟨[.ref a], []⟩) (fun r s' => r = .ok (.ret (.bool true)) ∧ OldK s₁.heap s'.heap ∧ s'.os = s₁.os ∧ AllBare s'.gens) s₁ := by
    intro H hO hS hok hA hK
    have base_of : ∀ {b : Addr} {o : Obj}, s₁.heap.get? b = some o → H b = none → (hidT s₁.heap H).get? b = some o := fun e n => hidT_get e n
    have noA : ∀ {b : Addr} {o : Obj} {es : Array DictEntry} {ep : Nat}, s₁.heap.get? b = some o → o.data = .dict es ep → H b = none := fun {b o es ep} e d => by
      cases q : H b with
      | none => rfl
      | some u =>
        have e' : b = a := hA b (by rw [q]; simp)
        subst e'
        rw [ha] at e; cases e
        have d' : Data.seq vs.toArray _ = Data.dict es ep := d
        cases d'
    have nsK : ∀ {b : Addr} {m : Str → Option Value}, s₁.heap.Ns b m → (hidT s₁.heap H).Ns b m := fun {b m} ⟨o, es, ep, e, d, r⟩ => ⟨o, es, ep, base_of e (noA e d), d, r⟩
    have hKb : K.In (hidT s₁.heap H) := fun b o e => base_of (KX b o e) (by
      cases q : H b with
      | none => rfl
      | some u =>
        have e' : b = a := hA b (by rw [q]; simp)
        subst e'
        rw [hK (by rw [q]; simp)] at e; cases e)
    have hM : Mod K mg (hidT s₁.heap H) := ⟨hKb, nsK hns, ⟨mb, nsK hb, hbb⟩, let ⟨mc, h1, h2⟩ := hlim; ⟨mc, nsK h1, h2⟩⟩
    have e0 : Env0 P w K mg (hidT s₁.heap H) callerA [] s₁ H := ⟨rfl, hM, fun b o e => of_hidT e, Nat.le_of_eq (hidT_size _ _), trivial, fun b hb => absurd (show b ∈ ([] : List Addr) from hb) (by simp), hok, .of_eq hg⟩
    refine codeAny_mono ((F _ hKb (nsK hns)).run callerA [] s₁ H ⟨[.ref a], []⟩ [.ref a] [.ref a] _ _ hr e0 (hbind s₁ (.ref a)) (.cons rfl .nil) (hsp H hO hS)) fun r s' h => ?_
    cases r with
    | error e => exact (hCX H e s' h).elim
    | ok fl =>
      cases fl with
      | next => exact False.elim h
      | brk => exact False.elim h
      | cont => exact False.elim h
      | ret u =>
        obtain ⟨v, H', os, bare, un, hok', r', q⟩ := h
        have q' : v = .bl true := q
        subst q'
        obtain rfl : u = Value.bool true := r'
        refine ⟨rfl, OldK.of_keep fun b o e => ?_, os, bare⟩
        cases q : H b with
        | none => exact un.keep b o e q (by intro z; exact absurd (show b ∈ ([] : List Addr) from z) (by simp)) (by simp)
        | some u =>
          rcases hO b with z | ⟨ob, xs, z⟩
          · rw [q] at z; cases z
          · have z2 := un.frzs b ob _ z
            obtain ⟨e1, _⟩ := hok b _ z
            obtain ⟨e2, _⟩ := hok' b _ z2
            rw [e] at e1; cases e1
            exact e2
  cases hk : K.lookup a with
  | some o =>
    -- the script is one of the module's own objects
    have e := KX a o hk
    rw [ha] at e
    cases e
    refine core (fun _ => none) (fun _ => .inl rfl) (.inr ⟨_, vs.toArray, _, hk, rfl, rfl, rfl, by rw [List.size_toArray, lenV]; exact hl, by simpa using rv⟩) (fun b u z => by have z' : (none : Option HO) = some u := z; cases z') (fun b z => absurd rfl z) fun z => absurd rfl z
  | none =>
    refine core (fun b => if b = a then some (.frz { cls := .type "list", data := .seq vs.toArray } (.lst (ns.map V.int))) else none) (fun b => ?_) (.inl (.inr ⟨{ cls := .type "list", data := .seq vs.toArray }, if_pos rfl⟩)) (fun b u z => ?_) (fun b z => ?_) fun _ => hk
    · by_cases hb : b = a
      · exact .inr ⟨_, _, if_pos hb⟩
      · exact .inl (if_neg hb)
    · by_cases hb : b = a
      · have z' := (if_pos hb).symm.trans z
        cases z'
        subst hb
        exact ⟨ha, by rw [List.length_map]; exact hl, vs, _, rv, ha⟩
      · have z' := (if_neg hb).symm.trans z
        cases z'
    · by_cases hb : b = a
      · exact hb
      · exact absurd (if_neg hb) z
end L2

namespace L2
open PySem PySem.Spec PyProof.Rows


/-- the goal that k_head leaves (case hc), from the law's promise. F gives the function object fd (K's own) once, then the promise over every base -/
theorem walk_of {l : PySem.W.OpenLaw} {n k : Nat} {q : Program} {loose : List Str} {XP : (Str → Option Value) → Heap → Prop} {YP : World → Heap → Prop} {d : DefRec} {K : Params → PySem.W.Frag} {CX : World → CXT} {sp : World → Sp} {x : Str}
    (hn : l.most = some n) (hn2 : n ≤ sizeLine) (hdf : d.params.defaults = []) (hr : Room k callerA)
    (hY : ∀ (w : World) (h : Heap), YP w h → (K w.params).In h)
    (F : ∀ (w : World) (mg : Str → Option Value) (fa : Addr) (h : Heap), (K w.params).In h → h.Ns mainGlobals mg → mg d.name = some (.ref fa) →
      ∃ fd : FuncData, (∀ (s : Shared) (u : Value), BindsTo s fd ⟨[u], []⟩ [(x, u)]) ∧
        ∀ base : Heap, (K w.params).In base → base.Ns mainGlobals mg → FnOk l.prog w (K w.params) mg base (CX w) k fa fd [x] (sp w))
    (hsp : ∀ (w : World) (H : Hp) (a : Addr) (ns : List Int), ns.length ≤ n → Only H → SqL (K w.params) H a (ns.map V.int) → sp w [.ref a] H (fun v _ => v = .bl true) fun _ _ _ => False)
    (hCX : ∀ (w : World) (H : Hp) (s : Shared) (e : Value) (s' : Shared), CX w [] H s (fun _ _ _ => False) e s' → False) :
    PySem.W.WalkO q loose XP YP l.row.toRowW d [] (fun f vs => PySem.call f vs) := by
  refine Att.attach_call hn hdf fun w s₀ s₁ mg mb fa o pm cd doc a vs ns G Y ho hd hcd hmg hobj hints hlen hg => ?_
  have KX := hY w _ Y
  obtain ⟨fd, hb, hF⟩ := F w mg fa _ KX G.T.g hmg
  exact law_call KX G.T.g G.T.b G.T.builtins G.T.nolimit hg hobj hints (Nat.le_trans hlen hn2) hr hF hb (fun H hO hS => hsp w H a ns hlen hO hS) fun H e s' => hCX w H s₁ e s'
end L2

/- THE LAST THEOREM (shape; LID, My.* are yours):
   My.Adr: a structure of the addresses that your layer names (classes, functions); My.Txt K t: a structure (Prop) of the equations over K;
   My.txt_mk : {K} {implicit addresses ..} (e1 : nsIn K mainGlobals "law" = some (some (.ref f))) (e2 : K.lookup f = some ⟨oc, od, .func (fnOf "law" "law" params body scope dV kV doc pm an cdv ct), sl⟩) (e3 : codeIn K cdv "law" = true) .. : ∃ t, My.Txt K t

set_option maxRecDepth 100000 in
set_option maxHeartbeats 0 in
theorem PySem.Challenge.cw_LID_holds : PySem.Challenge.rw_LID.Holds := by
  w_on; o_law; k_head; (case hw => w_witness2)
  k_fill
  refine L2.walk_of (l := PySem.Challenge.rw_LID) (n := 63) (k := 40) (x := "script") (CX := fun w => ..) (sp := fun _ => My.sp_law) rfl (by decide) rfl ⟨rfl, by decide, by decide⟩ (fun w h Y => PySem.W.kIn_of Y) ?F ?S ?C
  case F =>
    intro w mg fa h KX G hmg
    have T : ∃ t, My.Txt (L2.KOf KX) t := by
      dsimp only [L2.KOf]                          -- K must stand as «<heap const> w.params» for k_is
      refine' My.txt_mk ?e1 ?e2 ?e3 ..
      (case e1 => PySem.W.k_is)                    -- in the order: a name -> its address -> its object -> its parts
      (case e2 => PySem.W.k_is)
      ..
    obtain ⟨t, T⟩ := T
    have e0 := hmg.symm.trans (PySem.W.mg_of KX G T.law)
    cases e0                                       -- fa is the law's own address
    exact ⟨_, fun s u => .of_eq rfl, fun base kb nb => My.law_fn T kb nb⟩     -- if «.of_eq rfl» comes too early: refine' ⟨_, ?b, fun base kb nb => My.law_fn T kb nb⟩; exact fun s u => .of_eq rfl
  case S => exact fun w H a ns hl hO hS => ..
  case C => exact ..
(the tactic k_is has no namespace: write k_is) -/

/-! SHORT WORDS over the layer: a def of the text, its body, what a loop and a test want. -/
namespace L2
open PySem PySem.Spec PyProof.Rows

/-! ### the text by places -/
/-- the j-th statement of a class's body -/
def inClass (s : Stmt) (j : Nat) : Stmt := match s with
  | .ClassDef _ _ _ body _ _ _ _ _ _ _ => body.getD j (.Pass ⟨0, 0, 0, 0⟩)
  | _ => .Pass ⟨0, 0, 0, 0⟩
def defArgs (s : Stmt) : Arguments := match s with
  | .FunctionDef _ a _ _ _ _ _ _ _ _ => a
  | _ => { posonlyargs := [], args := [], vararg := none, kwonlyargs := [], kw_defaults := [], kwarg := none, defaults := [] }
def defBody (s : Stmt) : List Stmt := match s with
  | .FunctionDef _ _ b _ _ _ _ _ _ _ => b
  | _ => []
def defScope (s : Stmt) : Scope := match s with
  | .FunctionDef _ _ _ _ _ _ sc _ _ _ => sc
  | _ => { kind := .function, names := [], isGenerator := false, isCoroutine := false }

/-! ### no exception leaves a def -/
abbrev CX0 : CXT := fun _ _ _ _ _ _ => False
abbrev E0 : XK := fun _ _ _ => False
theorem pass0 {X : Cx} : Passes CX0 X E0 := fun _ _ _ _ _ _ _ h => h.elim

/-! ### a def (or method) of the text as it stands behind the top -/
structure Fun (K : PySem.W.Frag) (x qual : Str) (st : Stmt) (f : Addr) (fd : FuncData) : Prop where
  ex : ∃ (oc : Value) (od : Option Addr) (kV doc pm : Value) (an : Option Addr) (cdv ct : Value) (osl : Array (Option Value)),
    fd = PySem.W.fnOf x qual (defArgs st) (defBody st) (defScope st) .none kV doc pm an cdv ct ∧ K.lookup f = some ⟨oc, od, .func fd, osl⟩ ∧ PySem.W.codeIn K cdv qual = true
  kp : PySem.W.keepIn K (.ref f) = true
section
variable {P : Program} {w : World} {K : PySem.W.Frag} {mg : Str → Option Value} {base : Heap}
/-- THE RULE for a def: its body as a term of rules, and the reading of that term -/
theorem Fun.ok {x qual : Str} {st : Stmt} {f : Addr} {fd : FuncData} {N ps : List Str} {k : Nat} {sp : Sp} (F : Fun K x qual st f fd) (S : FnScope N ps (defScope st)) (len : ∀ vs H Q E, sp vs H Q E → vs.length = ps.length)
    (hbody : ∀ (cdv : Value) (A : Around) (outer : List Env) (s : Shared) (H : Hp) (vs : List V) (Q : VK) (E : XK), Room k (A.deeper (envOfC qual (defScope st) s.heap.objs.size f cdv)) → sp vs H Q E →
      ∃ t, PSs (cxOf CX0 P w K mg base N qual (defScope st) f cdv A outer s H E).nox (defBody st) t ∧ t { nx := fun _ H' => Q .non H', rt := Q } (start N vs) H) : FnOk P w K mg base CX0 (k + 1) f fd ps sp := by
  obtain ⟨oc, od, kV, doc, pm, an, cdv, ct, osl, rfl, lk, hcd⟩ := F.ex
  refine fn_of lk hcd S len fun A outer s H vs Q E hr hsp => ?_
  obtain ⟨t, h, q⟩ := hbody cdv A outer s H vs Q E hr hsp
  exact ⟨t, h.nox, q⟩
/-- how its arguments bind (no defaults): h is «fun _ _ _ _ _ _ us hl => match us, hl with | [_, _], _ => rfl», one _ a parameter -/
theorem Fun.binds {x qual : Str} {st : Stmt} {f : Addr} {fd : FuncData} {ps : List Str} (F : Fun K x qual st f fd)
    (h : ∀ (kV doc pm : Value) (an : Option Addr) (cdv ct : Value) (us : List Value), us.length = ps.length → bindArgs (PySem.W.fnOf x qual (defArgs st) (defBody st) (defScope st) .none kV doc pm an cdv ct) ⟨us, []⟩ = pure (ps.zip us)) : Binds K fd ps [] := by
  obtain ⟨oc, od, kV, doc, pm, an, cdv, ct, osl, rfl, lk, hcd⟩ := F.ex
  exact .all (h kV doc pm an cdv ct)
theorem fun_mk {x qual : Str} {st : Stmt} {f : Addr} {oc : Value} {od an : Option Addr} {osl : Array (Option Value)} {kV doc pm cdv ct : Value} (l : K.lookup f = some ⟨oc, od, .func (PySem.W.fnOf x qual (defArgs st) (defBody st) (defScope st) .none kV doc pm an cdv ct), osl⟩)
    (c : PySem.W.codeIn K cdv qual = true) (k : PySem.W.keepIn K (.ref f) = true) : Fun K x qual st f (PySem.W.fnOf x qual (defArgs st) (defBody st) (defScope st) .none kV doc pm an cdv ct) := ⟨⟨oc, od, kV, doc, pm, an, cdv, ct, osl, rfl, l, c⟩, k⟩
end
theorem small1000 {n : Nat} (h : n ≤ 1000) : n < sizeLine := Nat.lt_of_le_of_lt h (by decide)

/-! ### expressions in short: the name that stands in the i-th slot -/
section
variable {X : Cx}
theorem pv (i : Nat) {x : Str} {pos : Pos} (hN : X.N[i]? = some x := by rfl) (hv : Vis X.env.scope x := by first | exact Or.inl rfl | exact Or.inr (Or.inl rfl) | exact Or.inr (Or.inr rfl)) (hd : (x == ("__debug__" : Str)) = false := by decide)
    (hcd : (x == ("__classdict__" : Str)) = false := by decide) : PE X (.Name x pos) (tVar i) := pe_var hN hv hd hcd
end

/-! ### tests -/
theorem ite2 {c A B : Prop} [Decidable c] (h1 : c → A) (h2 : ¬ c → B) : if c then A else B := by
  by_cases h : c
  · rw [if_pos h]
    exact h1 h
  · rw [if_neg h]
    exact h2 h

/-! ### heaps -/
/-- all that was tracked is as it was -/
def Same (H H' : Hp) : Prop := ∀ b o, H b = some o → H' b = some o
theorem Same.refl (H : Hp) : Same H H := fun _ _ h => h
theorem Same.trans {H H1 H2 : Hp} (a : Same H H1) (b : Same H1 H2) : Same H H2 := fun c o h => b c o (a c o h)
/-! dict words -/
section
variable {X : Cx}
end

/-! ### a dict's pairs: keys that differ -/
section
variable {κ : Type} [DecidableEq κ]
end
end L2


set_option Elab.async false
set_option linter.all false
set_option maxRecDepth 100000
set_option maxHeartbeats 4000000
namespace L2
open PySem PySem.Spec PyProof.Rows

/-! ### a list comprehension of one clause, as a block of its own -/
def clStep (env : Env) (cs : List (Str × Addr)) (nk : Str × NameKind) : List (Str × Addr) :=
  if nk.2 == .free then (nk.1, (env.cells.lookup nk.1).getD 0) :: cs else cs
def clOf (scope : Scope) (env : Env) : List (Str × Addr) := scope.names.foldl (clStep env) []
theorem clos_of {scope : Scope} {env : Env} (h : ∀ y ∈ scope.names, y.2 = .free → ∃ c, env.cells.lookup y.1 = some c) : closureFor scope env = pure (clOf scope env) := by
  have all : ∀ (l : List (Str × NameKind)) (cs : List (Str × Addr)), (∀ y ∈ l, y.2 = .free → ∃ c, env.cells.lookup y.1 = some c) →
      (forIn l cs (fun x r => if (x.2 == NameKind.free) = true then do let a ← cellOf env x.1; pure (ForInStep.yield ((x.1, a) :: r)) else pure (ForInStep.yield r)) : Sem (List (Str × Addr))) = pure (l.foldl (clStep env) cs) := by
    intro l
    induction l with
    | nil => intro cs _; rfl
    | cons y r ih =>
      intro cs hy
      obtain ⟨n, k⟩ := y
      rw [List.forIn_cons, List.foldl_cons]
      by_cases hk : (k == NameKind.free) = true
      · obtain ⟨c, hc⟩ := hy (n, k) List.mem_cons_self (by simpa using hk)
        have e1 : cellOf env n = pure c := by unfold cellOf; rw [hc]
        have e2 : clStep env cs (n, k) = (n, c) :: cs := by unfold clStep; rw [if_pos hk, hc]; rfl
        rw [e2, ← ih _ fun z hz => hy z (List.mem_cons_of_mem _ hz)]
        dsimp only
        rw [if_pos hk, e1]
        rfl
      · have e2 : clStep env cs (n, k) = cs := by unfold clStep; rw [if_neg hk]
        rw [e2, ← ih _ fun z hz => hy z (List.mem_cons_of_mem _ hz)]
        dsimp only
        rw [if_neg hk]
        rfl
  have e := all scope.names [] h
  unfold closureFor clOf
  rw [← e]
  simp only [bind_pure]
theorem clOf_mem {env : Env} : ∀ {l : List (Str × NameKind)} {cs : List (Str × Addr)} {n : Str} {c : Addr}, (∀ y ∈ l, y.2 = .free → ∃ c, env.cells.lookup y.1 = some c) → (n, c) ∈ l.foldl (clStep env) cs → (n, c) ∈ cs ∨ env.cells.lookup n = some c
  | [], cs, n, c, _, m => .inl m
  | (y, k) :: r, cs, n, c, h, m => by
    rcases clOf_mem (fun z hz => h z (List.mem_cons_of_mem _ hz)) (show (n, c) ∈ r.foldl (clStep env) (clStep env cs (y, k)) from m) with q | q
    · unfold clStep at q
      by_cases hk : (k == NameKind.free) = true
      · rw [if_pos hk] at q
        rcases List.mem_cons.mp q with q | q
        · obtain ⟨d, hd⟩ := h (y, k) List.mem_cons_self (by simpa using hk)
          have hd : env.cells.lookup y = some d := hd
          injection q with q1 q2
          subst q1
          rw [hd] at q2
          subst q2
          exact .inr hd
        · exact .inl q
      · rw [if_neg hk] at q
        exact .inl q
    · exact .inr q
theorem clStep_sub {env : Env} : ∀ {l : List (Str × NameKind)} {cs : List (Str × Addr)} {p : Str × Addr}, p ∈ cs → p ∈ l.foldl (clStep env) cs
  | [], _, _, m => m
  | (y, k) :: r, cs, p, m => by
    refine clStep_sub (l := r) (cs := clStep env cs (y, k)) ?_
    unfold clStep
    split
    · exact List.mem_cons_of_mem _ m
    · exact m
theorem clOf_has {env : Env} : ∀ {l : List (Str × NameKind)} {cs : List (Str × Addr)} {n : Str}, (n, NameKind.free) ∈ l → ∃ c, (n, c) ∈ l.foldl (clStep env) cs
  | (y, k) :: r, cs, n, m => by
    rcases List.mem_cons.mp m with q | q
    · cases q
      exact ⟨(env.cells.lookup y).getD 0, clStep_sub (l := r) (by simp [clStep])⟩
    · exact clOf_has (l := r) q
theorem lookup_has {β : Type} : ∀ {l : List (Str × β)} {n : Str} {c : β}, (n, c) ∈ l → ∃ d, l.lookup n = some d
  | (k, v) :: r, n, c, m => by
    rw [List.lookup_cons]
    cases e : n == k with
    | true => exact ⟨v, rfl⟩
    | false =>
      rcases List.mem_cons.mp m with q | q
      · cases q
        simp at e
      · exact lookup_has q
theorem lookup_relabel_cell {env : Env} (hf : env.scope.kind = .function) : ∀ {names : List (Str × NameKind)} {x : Str}, names.lookup x = some .free → env.kindOf x = some .cell →
    (names.map fun (n, k) => if (k == NameKind.free && env.scope.kind == .function && env.kindOf n == some .cell) then (n, NameKind.cell) else (n, k)).lookup x = some .cell
  | [], _, h, _ => by simp at h
  | (n, k) :: r, x, h, hc => by
    have ih := @lookup_relabel_cell env hf r x
    show List.lookup x ((if (k == NameKind.free && env.scope.kind == .function && env.kindOf n == some .cell) = true then (n, NameKind.cell) else (n, k)) :: _) = _
    cases hx : x == n with
    | true =>
      have e : x = n := by simpa using hx
      subst e
      simp only [List.lookup_cons, hx] at h
      cases h
      rw [if_pos (by rw [hf, hc]; rfl)]
      simp [List.lookup_cons]
    | false =>
      simp only [List.lookup_cons, hx] at h
      by_cases hc' : (k == NameKind.free && env.scope.kind == .function && env.kindOf n == some .cell) = true
      · rw [if_pos hc']; simp only [List.lookup_cons, hx]; exact ih h hc
      · rw [if_neg hc']; simp only [List.lookup_cons, hx]; exact ih h hc

/-- the block's names N', each its own (none) or that of a slot around -/
def frOk (sc scope : Scope) (N : List Str) : List Str → List (Option Nat) → Bool
  | [], [] => true
  | _ :: r, none :: f => frOk sc scope N r f
  | y :: r, some i :: f => (N[i]? == some y) && (scope.names.lookup y == some .free) && (sc.names.lookup y == some .cell) && frOk sc scope N r f
  | _, _ => false
structure CompSc (sc scope : Scope) (N N' : List Str) (fr : List (Option Nat)) : Prop where
  kind : scope.kind = .function
  nocell : ∀ y ∈ scope.names, y.2 ≠ .cell
  names : ∀ y ∈ scope.names, y.2 = .local → scope.names.lookup y.1 = some .local
  free : ∀ y ∈ scope.names, y.2 = .free → sc.names.lookup y.1 = some .cell
  nd : N'.Nodup
  fr : frOk sc scope N N' fr = true
def frSt (fr : List (Option Nat)) (σ : St) : St := fr.map fun o => o.bind fun i => (σ[i]?).join
theorem frOk_len {sc scope : Scope} {N : List Str} : ∀ {N' : List Str} {fr : List (Option Nat)}, frOk sc scope N N' fr = true → fr.length = N'.length
  | [], [], _ => rfl
  | _ :: r, none :: f, h => by simp only [List.length_cons]; rw [frOk_len (N' := r) (fr := f) h]
  | y :: r, some i :: f, h => by
    unfold frOk at h
    simp only [Bool.and_eq_true] at h
    simp only [List.length_cons]; rw [frOk_len (N' := r) (fr := f) h.2]
  | [], _ :: _, h => by simp [frOk] at h
  | _ :: _, [], h => by simp [frOk] at h
theorem frOk_at {sc scope : Scope} {N : List Str} : ∀ {N' : List Str} {fr : List (Option Nat)} {j i : Nat} {y : Str}, frOk sc scope N N' fr = true → N'[j]? = some y → fr[j]? = some (some i) → N[i]? = some y ∧ scope.names.lookup y = some .free ∧ sc.names.lookup y = some .cell
  | [], [], _, _, _, _, h, _ => by simp at h
  | _ :: r, none :: f, 0, i, y, _, _, h => by simp at h
  | _ :: r, none :: f, j + 1, i, y, h, h1, h2 => frOk_at (N' := r) (fr := f) (j := j) h (by simpa using h1) (by simpa using h2)
  | z :: r, some k :: f, 0, i, y, h, h1, h2 => by
    unfold frOk at h
    simp only [Bool.and_eq_true, beq_iff_eq] at h
    have e1 : z = y := by simpa using h1
    have e2 : k = i := by simpa using h2
    subst e1 e2
    exact ⟨h.1.1.1, h.1.1.2, h.1.2⟩
  | z :: r, some k :: f, j + 1, i, y, h, h1, h2 => by
    unfold frOk at h
    simp only [Bool.and_eq_true] at h
    exact frOk_at (N' := r) (fr := f) (j := j) h.2 (by simpa using h1) (by simpa using h2)
  | [], _ :: _, _, _, _, h, _, _ => by simp [frOk] at h
  | _ :: _, [], _, _, _, h, _, _ => by simp [frOk] at h

def cxComp (X : Cx) (scope : Scope) (C : Addr) (N' : List Str) (s₀ : Shared) (H₀ : Hp) (fp : List Addr) : Cx where
  prog := X.prog
  w := X.w
  K := X.K
  mg := X.mg
  base := X.base
  A := X.A
  N := N'
  s₀ := s₀
  H₀ := H₀
  env := compEnvC scope (clOf scope X.env) C X.env
  outer := X.stack
  stack := X.stack
  ex := fp
  calm := true
  fn := fun _ => false
  pn := []
  xe := fun _ _ => False

section
variable {X : Cx} {scope : Scope} {N' : List Str} {fr : List (Option Nat)} {pins : List (Addr × Obj)} {σ : St} {H : Hp} {s : Shared} {fp : List Addr}

theorem Inv.block {h1 : Heap} {t1 : Nat} {m : Str → Option Value} (S : CompSc X.env.scope scope X.N N' fr) (hc : X.calm = true) (I : Inv X pins σ H s) (hf : ∀ b ∈ fp, FpOk X pins H b) (hlt : ∀ b ∈ fp, b < s.heap.objs.size)
    (hns : h1.Ns s.heap.objs.size m) (old : ∀ b o, s.heap.get? b = some o → h1.get? b = some o) :
    Inv (cxComp X scope s.heap.objs.size N' s H fp) [] (frSt fr σ) H { s with heap := h1, toks := t1 } := by
  have hfree : ∀ y ∈ scope.names, y.2 = .free → ∃ c, X.env.cells.lookup y.1 = some c := fun y hy e => I.ok.has y.1 (.inl (S.free y hy e))
  have cl1 : ∀ y c, (clOf scope X.env).lookup y = some c → X.env.cells.lookup y = some c := fun y c e => by
    rcases clOf_mem (cs := []) hfree (PySem.mem_of_lookup e) with q | q
    · exact absurd q (by simp)
    · exact q
  have has : ∀ y, ((relabel scope X.env).names.lookup y = some .cell ∨ (relabel scope X.env).names.lookup y = some .free) → ∃ c, (clOf scope X.env).lookup y = some c := fun y hy => by
    have q : (y, NameKind.free) ∈ scope.names := by
      have m : ∃ k, (k = NameKind.cell ∨ k = NameKind.free) ∧ (y, k) ∈ (relabel scope X.env).names := by
        rcases hy with hy | hy
        · exact ⟨_, .inl rfl, PySem.mem_of_lookup hy⟩
        · exact ⟨_, .inr rfl, PySem.mem_of_lookup hy⟩
      obtain ⟨k, hk, m⟩ := m
      obtain ⟨⟨n, k0⟩, hm, e⟩ := List.mem_map.mp m
      dsimp only at e
      by_cases hq : (k0 == NameKind.free && X.env.scope.kind == .function && X.env.kindOf n == some .cell) = true
      · rw [if_pos hq] at e
        simp only [Bool.and_eq_true, beq_iff_eq] at hq
        injection e with e1 e2
        rw [← e1, ← hq.1.1]
        exact hm
      · rw [if_neg hq] at e
        injection e with e1 e2
        subst e1 e2
        rcases hk with hk | hk
        · exact absurd hk (S.nocell _ hm)
        · rw [← hk]; exact hm
    obtain ⟨c, mc⟩ := clOf_has (env := X.env) (cs := []) q
    exact lookup_has mc
  have ltC : ∀ y c, X.env.cells.lookup y = some c → c < s.heap.objs.size := fun y c e => by
    obtain ⟨v, q⟩ := I.cell y c e
    exact q.lt
  refine ⟨⟨I.ok.mod, S.kind, I.ok.glob, I.ok.blt, Nat.le_refl _, fun x y c e1 e2 => I.ok.inj x y c (cl1 x c e1) (cl1 y c e2), has, fun x c e _ => absurd e (by simp [cxComp]), fun _ => I.ok.hd hc, I.ok.frames, .inl rfl,
      fun b hb => ⟨Nat.ne_of_lt (hlt b hb), fun x c e => (hf b hb).2.2.2.2.1 x c (cl1 x c e)⟩, I.bs, Nat.le_trans I.ok.bsz I.sz, fun b o e hb => ?_, fun b hb z => ?_, I.stack, I.stkFree⟩,
    rfl, I.bare, Un.kept old, ⟨m, hns, fun i x v e1 e2 e3 => ?_⟩, fun x c e => ?_, I.fresh, fun x c e => I.freeC x c (cl1 x c e), fun p hp => absurd hp (by simp [cxComp]), I.hok.kept old, ?_⟩
  · rcases (hf b hb).2.2.2.1 with z | z
    · exact I.ok.noex b o e z
    · exact absurd (Nat.lt_of_lt_of_le (Heap.lt_size e) (Nat.le_trans I.ok.bsz z)) (Nat.lt_irrefl _)
  · rcases List.mem_cons.mp (I.stkSub b z) with q | q
    · exact (hf b hb).2.1 q
    · exact (hf b hb).2.2.1 q
  · -- a name of the block at its entry: one from around
    have e2 : (frSt fr σ)[i]? = some (some v) := e2
    unfold frSt at e2
    rw [List.getElem?_map] at e2
    cases q : fr[i]? with
    | none => rw [q] at e2; cases e2
    | some o =>
      rw [q] at e2
      cases o with
      | none => cases e2
      | some j =>
        have e2 : (σ[j]?).join = some v := Option.some.inj e2
        have e4 : σ[j]? = some (some v) := by
          cases r : σ[j]? with
          | none => rw [r] at e2; cases e2
          | some w => rw [r] at e2; exact congrArg some e2
        obtain ⟨f1, f2, f3⟩ := frOk_at S.fr e1 q
        obtain ⟨m0, _, hl⟩ := I.loc
        obtain ⟨u, r, l⟩ := hl j x v f1 e4 (.inr (.inl f3))
        refine ⟨u, r, .inr ⟨.inl (lookup_relabel_cell I.ok.kind f2 f3), ?_⟩⟩
        obtain ⟨c, hc⟩ := has x (.inl (lookup_relabel_cell I.ok.kind f2 f3))
        rcases l with ⟨k, _⟩ | ⟨_, c', hc', ho⟩
        · have k : X.env.scope.names.lookup x = some .local := k
          rw [f3] at k; cases k
        · have e : c = c' := Option.some.inj ((cl1 x c hc).symm.trans hc')
          subst e
          obtain ⟨o, ho, hd⟩ := ho
          exact ⟨c, hc, o, old c o ho, hd⟩
  · obtain ⟨v, o, ho, hd⟩ := I.cell x c (cl1 x c e)
    exact ⟨v, o, old c o ho, hd⟩
  · show (frSt fr σ).length = N'.length
    unfold frSt
    rw [List.length_map]
    exact frOk_len S.fr
end

def PTs (X : Cx) (ifs : List Expr) (t : TT) : Prop :=
  ∀ (pins : List (Addr × Obj)) (s : Shared) (σ : St) (H : Hp) (Q : Bool → Hp → Prop), Inv X pins σ H s → t σ H Q →
    wpAny (model X.prog X.w) X.A (forIn ifs true fun c r => if r = true then do let ok ← isTrue c X.env (eval c X.env); pure (ForInStep.yield ok) else pure (ForInStep.yield r)) (TP X pins σ Q) X.xe s
def tYes : TT := fun _ H Q => Q true H
theorem pts_nil {X : Cx} : PTs X [] tYes := fun _ _ _ H _ I q => wpAny_tests_nil ⟨H, I, q⟩
theorem pts_one {X : Cx} {c : Expr} {t : TT} (h : PT X c t) : PTs X [c] t := fun pins s σ H Q I q => wpAny_tests_one (h pins s σ H Q I q)

theorem compLoop_any {prog : Program} {w : World} {A : Around} {R : Result → Shared → Prop} {s : Shared} {elt target iter : Expr} {ifs : List Expr} {scope : Scope} {pos : Pos} {it acc : Value} {env : Env} (I : Nat → Shared → Prop)
    (turn : ∀ n s, I n s → wpAny (model prog w) A (pyNext it) (fun r s₁ => match r with
      | none => R (.ok .next) s₁
      | some v => wpAny (model prog w) A (letOwnedTupleGo target it v) (fun _ s₀ => wpAny (model prog w) A (assign target env v) (fun _ s₂ =>
          wpAny (model prog w) A (forIn ifs true fun c r => if r = true then do let ok ← isTrue c env (eval c env); pure (ForInStep.yield ok) else pure (ForInStep.yield r)) (fun ok s₃ =>
            if ok = true then wpAny (model prog w) A (eval elt env) (fun x s₄ =>
              wpAny (model prog w) A (call (.builtin "list.append") [acc, x]) (fun _ s₅ => ∃ m, m < n ∧ I m s₅) (fun _ _ => False) s₄) (fun _ _ => False) s₃
            else ∃ m, m < n ∧ I m s₃) (fun _ _ => False) s₂) (fun _ _ => False) s₀) (fun _ _ => False) s₁) (fun _ _ => False) s)
    (n : Nat) (h : I n s) :
    codeAny (model prog w) A (.compLoop (.ListComp elt [⟨target, iter, ifs, 0⟩] scope pos) 0 it acc env) R s := by
  refine codeAny_loop rfl I (fun n s hI => ?_) n h
  show wpAny _ A ((compTurn (.ListComp elt [⟨target, iter, ifs, 0⟩] scope pos) 0 it acc env).onRaise (fun x => do noteFrame x env; theTreesLotGoes x)) _ _ s
  refine wpAny_noted ?_
  rw [compTurn_list]
  refine wpAny_bind (wpAny_standAt (wpAny_bind (wpAny_mono (turn n s hI) (fun r s₁ h₁ => ?_) fun _ _ h' => h'.elim)))
  cases r with
  | none => exact wpAny_pure h₁
  | some v =>
    refine wpAny_bind (wpAny_mono h₁ (fun _ s₀ h₀ => ?_) fun _ _ h' => h'.elim)
    refine wpAny_bind (wpAny_mono h₀ (fun _ s₂ h₂ => wpAny_bind (wpAny_mono h₂ (fun ok s₃ h₃ => ?_) fun _ _ h' => h'.elim)) fun _ _ h' => h'.elim)
    cases ok with
    | false => exact wpAny_pure ⟨rfl, h₃⟩
    | true =>
      exact wpAny_bind (wpAny_bind (wpAny_mono h₃ (fun x s₄ h₄ => wpAny_bind (wpAny_mono h₄ (fun _ s₅ h₅ => wpAny_pure (wpAny_pure ⟨rfl, h₅⟩)) fun _ _ h' => h'.elim)) fun _ _ h' => h'.elim))

/-- W: by the turn, a measure, the block's names, what has come, the heap -/
def tComp (fr : List (Option Nat)) (wi : TI) (g : TG) (tt : TT) (te : TE) : TE := fun σ H Q => wi σ H fun J H1 => ∀ D, H1 D = none →
  ∃ W : Nat → Nat → St → List V → Hp → Prop, (∃ m, W 0 m (frSt fr σ) [] (upd H1 D (.lst []))) ∧ ∀ i m σ ys H, W i m σ ys H →
    (J.stop i H ∧ Q (.ref D) H) ∨ (J.go i H ∧ ∃ N : St → List V → Hp → Prop, (∀ σ' ys' H', N σ' ys' H' → ∃ m', m' < m ∧ W (i + 1) m' σ' ys' H') ∧ ∀ x H', J.yld i H x H' → g x σ H' fun σ2 H2 => tt σ2 H2 fun b H3 =>
      if b = true then te σ2 H3 fun v H4 => H4 D = some (.lst ys) ∧ ys.length < sizeLine ∧ N σ2 (ys ++ [v]) (upd H4 D (.lst (ys ++ [v])))
      else N σ2 ys H3)

theorem comp_run {X : Cx} {elt tg iter : Expr} {ifs : List Expr} {scope : Scope} {pos cpos : Pos} {wi : TI} {g : TG} {tt : TT} {te : TE} {N' : List Str} {fr : List (Option Nat)} (S : CompSc X.env.scope scope X.N N' fr) (hc : X.calm = true) (hi : PI X tg iter wi)
    (hg : ∀ C s0 H0 fp, PG (cxComp X scope C N' s0 H0 fp) tg g) (ht : ∀ C s0 H0 fp, PTs (cxComp X scope C N' s0 H0 fp) ifs tt) (he : ∀ C s0 H0 fp, PE (cxComp X scope C N' s0 H0 fp) elt te)
    (hs : ∀ x, foldedSetIterable iter X.env x = pure x) {pins : List (Addr × Obj)} {s : Shared} {σ : St} {H : Hp} {Q : VK} (I : Inv X pins σ H s) (h : tComp fr wi g tt te σ H Q) (use : Option (Value → Sem Unit)) (QQ : Value → Shared → Prop)
    (fin : ∀ (D C : Addr) (H5 : Hp) (s6 : Shared), Inv X pins σ H5 s6 → Q (.ref D) H5 → H5 C = none → C ≠ X.env.locals → X.s₀.heap.objs.size ≤ C → (∀ x c, X.env.cells.lookup x = some c → c ≠ C) → (∀ p ∈ X.pn ++ pins, p.1 ≠ C) → (∃ m, s6.heap.Ns C m) →
      compPost (model X.prog X.w) X.A X.xe use QQ (.ref D) C (.ok .next) s6) :
    wpAny (model X.prog X.w) X.A (comprehension (.ListComp elt [⟨tg, iter, ifs, 0⟩] scope pos) scope X.env cpos (newList []) false (eval iter X.env) use) QQ X.xe s := by
  have hfree : ∀ y ∈ scope.names, y.2 = .free → ∃ c, X.env.cells.lookup y.1 = some c := fun y hy e => I.ok.has y.1 (.inl (S.free y hy e))
  refine wpAny_comprehension_free (use := use) rfl hs (clos_of hfree) S.kind S.names (thn (hi pins s σ H _ I h) fun v s1 h1 => thn h1 fun itv s2 h2 => ?_)
  obtain ⟨it, fp, tn, J, H2, e, I2, T, st2, f2, hD⟩ := h2
  subst e
  obtain ⟨W, ⟨m0, w0⟩, turn⟩ := hD s2.heap.objs.size I2.fresh
  -- the new list
  refine wpAny_newObj_type ?_
  have I3 : Inv X pins σ (upd H2 s2.heap.objs.size (.lst [])) { s2 with heap := s2.heap.push { cls := .type "list", data := .seq ([] : List Value).toArray }, toks := s2.toks } := I2.lnew (ys := []) .nil (Nat.zero_le _)
  revert I3
  generalize eD : s2.heap.objs.size = D at *
  generalize e3 : ({ s2 with heap := s2.heap.push { cls := .type "list", data := .seq ([] : List Value).toArray }, toks := s2.toks } : Shared) = s3
  intro I3
  have k3 : ∀ b o, s2.heap.get? b = some o → s3.heap.get? b = some o := fun b o e => by rw [← e3]; exact Heap.get?_push_of_some _ e
  refine wpAny_newFunctionEnv S.nocell (by intro y hy; simp at hy) (fun h4 hns hsb => ?_) S.kind
  have old : ∀ b o, s3.heap.get? b = some o → h4.get? b = some o := fun b o e => hsb.extBut b o (Nat.ne_of_lt (Heap.lt_size e)) (Heap.get?_push_of_some _ e)
  have fD : ∀ b ∈ fp, b ≠ D := fun b hb z => by
    obtain ⟨o, ho, _⟩ := T.obj _ _ st2 b hb
    exact absurd (Heap.lt_size ho) (by rw [z, eD]; exact Nat.lt_irrefl _)
  have f3 : ∀ b ∈ fp, FpOk X pins (upd H2 D (.lst [])) b := fun b hb => ⟨by rw [upd_ne (fD b hb)]; exact (f2 b hb).1, (f2 b hb).2⟩
  have l3 : ∀ b ∈ fp, b < s3.heap.objs.size := fun b hb => by
    obtain ⟨o, ho, _⟩ := T.obj _ _ st2 b hb
    exact Heap.lt_size (k3 b o ho)
  have I4 := Inv.block (t1 := s3.toks + ([] : List (Str × Value)).length) (scope := scope) S hc I3 f3 l3 hns old
  generalize eX : cxComp X scope s3.heap.objs.size N' s3 (upd H2 D (.lst [])) fp = X' at I4
  have st4 : tn 0 h4 := T.keep _ _ _ st2 fun b hb o e => old b o (k3 b o e)
  have stat : ∀ {H' : Hp}, (∀ b ∈ fp, H' b = none) → ∀ b ∈ fp, FpOk X' [] H' b := fun {H'} hn b hb => by
    subst eX
    refine ⟨hn b hb, Nat.ne_of_lt (l3 b hb), ?_, .inl hb, ?_, fun p hp => absurd hp (by simp [cxComp])⟩
    · exact I4.ok.exfs b hb
    · exact (I4.ok.exf b hb).2
  show codeAny _ _ (.compStart _ 0 (.ref it) (.ref D) (compEnvC scope (clOf scope X.env) s3.heap.objs.size X.env)) (compPost _ _ _ use _ (.ref D) s3.heap.objs.size) _
  have hX : X'.prog = X.prog ∧ X'.w = X.w ∧ X'.K = X.K ∧ X'.A = X.A ∧ X'.calm = true ∧ X'.env = compEnvC scope (clOf scope X.env) s3.heap.objs.size X.env ∧ X'.xe = (fun _ _ => False) ∧ X'.s₀ = s3 ∧ X'.H₀ = upd H2 D (.lst []) ∧ X'.fs = frs X.stack ∧ X'.ex = fp := by
    subst eX
    exact ⟨rfl, rfl, rfl, rfl, rfl, rfl, rfl, rfl, rfl, rfl, rfl⟩
  have hg' : PG X' tg g := by subst eX; exact hg _ _ _ _
  have ht' : PTs X' ifs tt := by subst eX; exact ht _ _ _ _
  have he' : PE X' elt te := by subst eX; exact he _ _ _ _
  clear eX
  obtain ⟨x1, x2, x3, x4, x5, x6, x7, x8, x9, x10, x11⟩ := hX
  have loop : codeAny (model X.prog X.w) X.A (.compLoop (.ListComp elt [⟨tg, iter, ifs, 0⟩] scope pos) 0 (.ref it) (.ref D) (compEnvC scope (clOf scope X.env) s3.heap.objs.size X.env))
      (compPost (model X.prog X.w) X.A X.xe use QQ (.ref D) s3.heap.objs.size) { s3 with heap := h4, toks := s3.toks + ([] : List (Str × Value)).length } := by
    refine compLoop_any (fun n s' => ∃ i σ' ys H', Inv X' [] σ' H' s' ∧ tn i s'.heap ∧ (∀ b ∈ fp, H' b = none) ∧ W i n σ' ys H') ?_ m0 ⟨0, _, [], _, I4, st4, fun b hb => (f3 b hb).1, w0⟩
    rintro n s5 ⟨i, σ5, ys, H5, I5, st5, fr5, w5⟩
    rcases turn i n σ5 ys H5 w5 with ⟨stop, qn⟩ | ⟨go, N, hN, step⟩
    · have z := T.done X' x1 x2 x3 x5 i [] s5 σ5 H5 (fun _ _ => False) I5 (stat fr5) st5 stop
      rw [x4] at z
      refine thn z fun r s6 ⟨hr, I6⟩ => ?_
      subst hr
      -- the end
      obtain ⟨mm, hn6, _⟩ := I6.loc
      have hL : X'.env.locals = s3.heap.objs.size := by rw [x6]; rfl
      rw [hL] at hn6
      have nC : H5 s3.heap.objs.size = none := by have := I6.free; rw [hL] at this; exact this
      have base := I6.base
      rw [x8, x9, x10, x11] at base
      have hok : HOk X.prog X.w H5 s6.heap := by have q := I6.hok; rw [x1, x2] at q; exact q
      have os : s6.os = s3.os := by have := I6.os; rw [x8] at this; exact this
      have IX : Inv X pins σ H5 s6 := I3.call' os base hok I6.bare fun b hb => ⟨(f3 b hb).2.2.2.1, (f3 b hb).2.1, (f3 b hb).2.2.2.2.1, (f3 b hb).2.2.2.2.2⟩
      refine fin D s3.heap.objs.size H5 s6 IX qn nC (Nat.ne_of_gt I3.lt) I3.sz (fun x c e => ?_) (fun p hp => ?_) ⟨mm, hn6⟩
      · obtain ⟨v, q⟩ := I3.cell x c e
        exact Nat.ne_of_lt q.lt
      · exact Nat.ne_of_lt (Heap.lt_size (I3.pin p hp).1)
    · have z := T.item X' x1 x2 x3 x5 i [] s5 σ5 H5 (fun _ _ => False) I5 (stat fr5) st5 go
      rw [x4] at z
      refine thn z fun r s6 ⟨u, hr, h6⟩ => ?_
      subst hr
      refine thn h6 fun _ s7 ⟨x, H7, I7, r7, y7, st7, fr7⟩ => ?_
      have I7' := I7.pinned (stat fr7) (T.obj _ _ st7)
      have again : ∀ {σ' : St} {H' : Hp} {s' : Shared}, Inv X' ([] ++ pinsAt fp s7.heap) σ' H' s' → Inv X' [] σ' H' s' ∧ tn (i + 1) s'.heap ∧ ∀ b ∈ fp, H' b = none := fun {σ' H' s'} J => by
        refine ⟨J.unpinned, T.keep _ _ _ st7 fun b hb o e => (J.pin (b, o) (List.mem_append_right _ (List.mem_append_right _ (mem_pinsAt hb e)))).1, fun b hb => ?_⟩
        obtain ⟨o, e, d⟩ := T.obj _ _ st7 b hb
        exact (J.pin (b, o) (List.mem_append_right _ (List.mem_append_right _ (mem_pinsAt hb e)))).2.1
      have z := hg' _ s7 σ5 H7 x u _ I7' r7 (step x H7 y7)
      rw [x1, x2, x4, x6, x7] at z
      refine thn z fun _ s8 ⟨σ8, H8, I8, q8⟩ => ?_
      have z := ht' _ s8 σ8 H8 _ I8 q8
      rw [x1, x2, x4, x6, x7] at z
      refine thn z fun b s9 ⟨H9, I9, q9⟩ => ?_
      cases b with
      | false =>
        rw [if_neg Bool.false_ne_true] at q9 ⊢
        obtain ⟨m', hm, w9⟩ := hN _ _ _ q9
        obtain ⟨a1, a2, a3⟩ := again I9
        exact ⟨m', hm, i + 1, σ8, ys, H9, a1, a2, a3, w9⟩
      | true =>
        rw [if_pos rfl] at q9 ⊢
        have z := he' _ s9 σ8 H9 _ I9 q9
        rw [x1, x2, x4, x6, x7] at z
        refine thn z fun v' s10 ⟨y, H10, I10, r10, hD10, hz, w10⟩ => ?_
        have z := mt_append (X := X') _ s10 σ8 H10 (.ref D) [y] (.ref D) [v'] (fun _ H' => N σ8 (ys ++ [y]) H') I10 rfl (.cons r10 .nil) ⟨D, ys, y, rfl, rfl, hD10, hz, w10⟩
        rw [x1, x2, x4, x7] at z
        refine thn z fun _ s11 ⟨_, H11, I11, _, w11⟩ => ?_
        obtain ⟨m', hm, w11⟩ := hN _ _ _ w11
        obtain ⟨a1, a2, a3⟩ := again I11
        exact ⟨m', hm, i + 1, σ8, _, H11, a1, a2, a3, w11⟩
  exact codeAny_compStart_list loop (T.self _ 0 _ _ _ st4 loop)
theorem pe_comp {X : Cx} {elt tg iter : Expr} {ifs : List Expr} {scope : Scope} {pos : Pos} {wi : TI} {g : TG} {tt : TT} {te : TE} {N' : List Str} {fr : List (Option Nat)} (S : CompSc X.env.scope scope X.N N' fr) (hc : X.calm = true) (hi : PI X tg iter wi)
    (hg : ∀ C s0 H0 fp, PG (cxComp X scope C N' s0 H0 fp) tg g) (ht : ∀ C s0 H0 fp, PTs (cxComp X scope C N' s0 H0 fp) ifs tt) (he : ∀ C s0 H0 fp, PE (cxComp X scope C N' s0 H0 fp) elt te)
    (hs : ∀ x, foldedSetIterable iter X.env x = pure x := by intro _; rfl) : PE X (.ListComp elt [⟨tg, iter, ifs, 0⟩] scope pos) (tComp fr wi g tt te) := by
  intro pins s σ H Q I h
  rw [eval_ListComp]
  refine comp_run S hc hi hg ht he hs I h none _ fun D C H5 s6 IX q nC c1 c2 c3 c4 hm => ?_
  obtain ⟨m, hm⟩ := hm
  refine ⟨m, hm, fun h' hs' => ⟨.ref D, H5, IX.turned (t' := s6.toks) (it := C) (fun b o hb e => hs'.extBut b o hb e) nC c1 (.inr c2) c3 c4, rfl, q⟩⟩
/-- name = [..], the name a local one -/
theorem ps_comp {X : Cx} {elt tg iter : Expr} {ifs : List Expr} {scope : Scope} {pos spos py : Pos} {y : Str} {i : Nat} {wi : TI} {g : TG} {tt : TT} {te : TE} {N' : List Str} {fr : List (Option Nat)} (hN : X.N.Nodup) (hy : X.N[i]? = some y) (hl : X.env.scope.names.lookup y = some .local)
    (S : CompSc X.env.scope scope X.N N' fr) (hc : X.calm = true) (hi : PI X tg iter wi)
    (hg : ∀ C s0 H0 fp, PG (cxComp X scope C N' s0 H0 fp) tg g) (ht : ∀ C s0 H0 fp, PTs (cxComp X scope C N' s0 H0 fp) ifs tt) (he : ∀ C s0 H0 fp, PE (cxComp X scope C N' s0 H0 fp) elt te)
    (hs : ∀ x, foldedSetIterable iter X.env x = pure x := by intro _; rfl) (hsw : swapsWith (.ListComp elt [⟨tg, iter, ifs, 0⟩] scope pos) (some (.Name y py)) spos.line X.env = pure true := by rfl) :
    PS X (.Assign [.Name y py] (.ListComp elt [⟨tg, iter, ifs, 0⟩] scope pos) spos) (tAsg (tComp fr wi g tt te) (gName i)) := by
  intro pins s σ H D I h
  rw [exec_Assign_Name_used _ _ _ _ hsw]
  refine wpAny_bind (wpAny_standAt (wpAny_bind ?_))
  show wpAny _ X.A (do let _ ← comprehension (.ListComp elt [⟨tg, iter, ifs, 0⟩] scope pos) scope X.env _ (newList []) false (eval iter X.env) (some (assign (.Name y py) X.env))) _ _ s
  refine wpAny_bind (thn (comp_run S hc hi hg ht he hs I h (some (assign (.Name y py) X.env)) (fun _ s' => SP X pins D .next s') fun L C H5 s6 IX q nC c1 c2 c3 c4 hm => ?_) fun _ s' hq => wpAny_pure (wpAny_pure hq))
  obtain ⟨m, hm⟩ := hm
  show wpAny _ X.A (assign (.Name y py) X.env (.ref L)) _ _ _
  refine wpAny_assign_Name (store_ok2 IX hN hy (.inl hl) (show RelV (.ref L) (Value.ref L) from rfl) (fun s7 I7 hch => ?_) (.inr hl))
  obtain ⟨a, hsb, ha⟩ := hch
  have hCa : C ≠ a := by
    rcases ha with ha | ha
    · rw [ha]; exact c1
    · exact (c3 _ _ ha).symm
  refine ⟨m, hm.at' (fun o e => (hsb.2 C hCa).trans e), fun h' hs' => ⟨_, H5, I7.turned (t' := s7.toks) (it := C) (fun b o hb e => hs'.extBut b o hb e) nC c1 (.inr c2) c3 c4, q⟩⟩

/-! ### the forms one uses -/
theorem comp_range {lo : Int} {n : Nat} {g : TG} {tt : TT} {te : TE} {R : Hp → Prop} {D : Addr} {σ0 : St} {H0 : Hp} (Pv : Nat → St → List V → Hp → Prop) (h0 : Pv 0 σ0 [] H0)
    (hs : ∀ i σ ys H, i < n → Pv i σ ys H → g (.int (lo + i)) σ H fun σ2 H2 => tt σ2 H2 fun b H3 =>
      if b = true then te σ2 H3 fun v H4 => H4 D = some (.lst ys) ∧ ys.length < sizeLine ∧ Pv (i + 1) σ2 (ys ++ [v]) (upd H4 D (.lst (ys ++ [v]))) else Pv (i + 1) σ2 ys H3)
    (hd : ∀ σ ys H, Pv n σ ys H → R H) :
    ∃ W : Nat → Nat → St → List V → Hp → Prop, (∃ m, W 0 m σ0 [] H0) ∧ ∀ i m σ ys H, W i m σ ys H →
      ((Itr lo n).stop i H ∧ R H) ∨ ((Itr lo n).go i H ∧ ∃ N : St → List V → Hp → Prop, (∀ σ' ys' H', N σ' ys' H' → ∃ m', m' < m ∧ W (i + 1) m' σ' ys' H') ∧ ∀ x H', (Itr lo n).yld i H x H' → g x σ H' fun σ2 H2 => tt σ2 H2 fun b H3 =>
        if b = true then te σ2 H3 fun v H4 => H4 D = some (.lst ys) ∧ ys.length < sizeLine ∧ N σ2 (ys ++ [v]) (upd H4 D (.lst (ys ++ [v]))) else N σ2 ys H3) := by
  refine ⟨fun i m σ ys H => m = n - i ∧ i ≤ n ∧ Pv i σ ys H, ⟨n, by simp, Nat.zero_le _, h0⟩, ?_⟩
  rintro i m σ ys H ⟨rfl, hi, p⟩
  by_cases hlt : i < n
  · refine .inr ⟨hlt, Pv (i + 1), fun σ' ys' H' p' => ⟨n - (i + 1), by omega, rfl, hlt, p'⟩, fun x H' y => ?_⟩
    obtain ⟨e, y⟩ := y
    subst e y
    exact hs i σ ys _ hlt p
  · have e : i = n := by omega
    subst e
    exact .inl ⟨Nat.le_refl _, hd σ ys H p⟩
theorem comp_list {K : PySem.W.Frag} {a : Addr} {xs : List V} {g : TG} {tt : TT} {te : TE} {R : Hp → Prop} {D : Addr} {σ0 : St} {H0 : Hp} (Pv : Nat → St → List V → Hp → Prop) (h0 : Pv 0 σ0 [] H0) (hl : ∀ i σ ys H, i ≤ xs.length → Pv i σ ys H → SqL K H a xs)
    (hs : ∀ i x σ ys H, xs[i]? = some x → Pv i σ ys H → g x σ H fun σ2 H2 => tt σ2 H2 fun b H3 =>
      if b = true then te σ2 H3 fun v H4 => H4 D = some (.lst ys) ∧ ys.length < sizeLine ∧ Pv (i + 1) σ2 (ys ++ [v]) (upd H4 D (.lst (ys ++ [v]))) else Pv (i + 1) σ2 ys H3)
    (hd : ∀ σ ys H, Pv xs.length σ ys H → R H) :
    ∃ W : Nat → Nat → St → List V → Hp → Prop, (∃ m, W 0 m σ0 [] H0) ∧ ∀ i m σ ys H, W i m σ ys H →
      ((Itl K a).stop i H ∧ R H) ∨ ((Itl K a).go i H ∧ ∃ N : St → List V → Hp → Prop, (∀ σ' ys' H', N σ' ys' H' → ∃ m', m' < m ∧ W (i + 1) m' σ' ys' H') ∧ ∀ x H', (Itl K a).yld i H x H' → g x σ H' fun σ2 H2 => tt σ2 H2 fun b H3 =>
        if b = true then te σ2 H3 fun v H4 => H4 D = some (.lst ys) ∧ ys.length < sizeLine ∧ N σ2 (ys ++ [v]) (upd H4 D (.lst (ys ++ [v]))) else N σ2 ys H3) := by
  refine ⟨fun i m σ ys H => m = xs.length - i ∧ i ≤ xs.length ∧ Pv i σ ys H, ⟨xs.length, by simp, Nat.zero_le _, h0⟩, ?_⟩
  rintro i m σ ys H ⟨rfl, hi, p⟩
  have q := hl i σ ys H hi p
  by_cases hlt : i < xs.length
  · refine .inr ⟨⟨xs, xs[i], q, by simp [hlt]⟩, Pv (i + 1), fun σ' ys' H' p' => ⟨xs.length - (i + 1), by omega, rfl, hlt, p'⟩, fun x H' y => ?_⟩
    obtain ⟨e, y⟩ := y
    subst e
    exact hs i x σ ys _ (y xs q) p
  · have e : i = xs.length := by omega
    subst e
    exact .inl ⟨⟨xs, q, Nat.le_refl _⟩, hd σ ys H p⟩
end L2


set_option Elab.async false
set_option linter.all false
set_option maxRecDepth 100000
set_option maxHeartbeats 4000000
namespace SF
open PySem

/-! ### a table of a set: its places rise -/


/-! ### the order by the text -/
end SF


set_option Elab.async false
set_option linter.all false
set_option maxRecDepth 100000
set_option maxHeartbeats 4000000
namespace SF
open PySem PySem.Calls PyProof.Rows


section
variable {prog : Program} {w : World} {A : Around} {E : Value → Shared → Prop} {s : Shared}



/-! ### the next place -/

/-! ### iter(set) -/
end
end SF


set_option Elab.async false
set_option linter.all false
set_option maxRecDepth 100000
set_option maxHeartbeats 4000000
namespace SF
open PySem PySem.Calls PyProof.Rows
section
variable {prog : Program} {w : World} {A : Around} {E : Value → Shared → Prop} {s : Shared}


end
end SF


set_option Elab.async false
set_option linter.all false
set_option maxRecDepth 100000
set_option maxHeartbeats 4000000
namespace SF
open PySem PySem.Calls PyProof.Rows

section
variable {prog : Program} {w : World} {A : Around} {E : Value → Shared → Prop} {s : Shared}

set_option maxHeartbeats 8000000 in
end
end SF


set_option Elab.async false
set_option linter.all false
set_option maxRecDepth 100000
set_option maxHeartbeats 4000000
namespace L2
open PySem PySem.Spec PyProof.Rows

/-! ### sets of ints: made of a list, sorted -/
section
variable {X : Cx}
/-! ### isinstance against a built-in type -/
theorem call_isinst : CallR X (.builtin "isinstance") (fun xs H Q => ∃ (x : V) (n : String) (t : Value) (b : Bool), xs = [x, .ty n] ∧ TyOf X.K H x t ∧ PySem.W.kitOne X.K t (.type n) = some b ∧ Q (.bl b) H) := by
  intro pins s σ H xs us Q I r h
  obtain ⟨x, n, t, b, rfl, ht, hk, q⟩ := h
  obtain ⟨u, v, rfl, ru, rv⟩ := vals2 r
  cases rv
  exact isinst_ok I ru ht hk fun tk => ⟨.bl b, H, I.tok tk, rfl, q⟩
/-! ### lists that differ -/
end
end L2


set_option Elab.async false
set_option linter.all false
set_option maxRecDepth 100000
set_option maxHeartbeats 4000000
namespace L2
open PySem PySem.Spec PyProof.Rows
section
variable {X : Cx}
end
end L2


set_option Elab.async false
set_option linter.all false
set_option maxRecDepth 100000
set_option maxHeartbeats 4000000
namespace L2
open PySem PySem.W PySem.Spec PySem.Calls PyProof.Rows
/-! ### a dict keyed by None and ints, its values all True -/
section
variable {X : Cx} {pos pos' : Pos} {o i value : Expr} {td ty tv : TE}
/-! ### lists that are alike -/
end
end L2


set_option Elab.async false
set_option linter.all false
set_option maxRecDepth 100000
set_option maxHeartbeats 4000000
namespace L2
open PySem PySem.Spec PyProof.Rows
section
variable {X : Cx} {pins : List (Addr × Obj)} {σ : St} {H : Hp} {s : Shared} {h' : Heap}
/-- records of ours have turned, and a new object came -/
theorem Inv.turnedNew {t' : Nat} {its : List Addr} {a : Addr} {o : HO} (I : Inv X pins σ H s) (k : ∀ b u, b ∉ its → s.heap.get? b = some u → h'.get? b = some u) (hf : ∀ b ∈ its, FpOk X pins H b)
    (hp : s.heap.objs.size ≤ a) (new : ObjOk X.prog X.w (upd H a o) h' a o) : Inv X pins σ (upd H a o) { s with heap := h', toks := t' } := by
  have hn : H a = none := I.hok.fresh hp
  have nit : ∀ b u, H b = some u → b ∉ its := fun b u e z => by rw [(hf b z).1] at e; cases e
  have nea : ∀ b u, s.heap.get? b = some u → b ≠ a := fun b u e => Nat.ne_of_lt (Nat.lt_of_lt_of_le (Heap.lt_size e) hp)
  refine I.step (g' := s.gens) (d' := s.drawn) (ch := its) (fun b hb => ?_) (fun b o _ _ hc e _ => k b o hc e) (fun b o _ _ hc e _ => ⟨o.slots, k b o hc e⟩) (fun b u _ e n => ?_)
    (fun b o hc e => ⟨o, k b o hc e⟩) (fun b xs e => ?_) (fun b u v e => ?_) (fun b ps e => ⟨#[], ?_⟩) (fun m hm => ?_) (fun b u e => ?_) I.bare
  · obtain ⟨_, f1, f2, f3, f4, f5⟩ := hf b hb
    exact ⟨f3, f1, f4, f5⟩
  · rw [upd_ne (nea b u e)]; exact n
  · rw [upd_ne (ne_of_none e hn)]; exact e
  · rw [upd_ne (ne_of_none e hn)]; exact e
  · rw [upd_ne (ne_of_none e hn), e]; simp
  · obtain ⟨o, es, ep, ho, r⟩ := hm
    exact ⟨o, es, ep, k _ o (fun z => (hf _ z).2.1 rfl) ho, r⟩
  · by_cases hb : b = a
    · subst hb
      rw [upd_same] at e
      cases e
      exact new
    · rw [upd_ne hb] at e
      refine (I.hok b u e).stay (fun c v hc q => k c v ?_ q) (fun c q => by rw [upd_ne (ne_of_none q hn)]; exact q) fun c xs q => by rw [upd_ne (ne_of_none q hn)]; exact q
      rcases hc with z | z
      · rw [z]; exact nit b u e
      · exact nit c _ z
/-- records of ours have turned -/
theorem Inv.turnedL {t' : Nat} {its : List Addr} (I : Inv X pins σ H s) (k : ∀ b u, b ∉ its → s.heap.get? b = some u → h'.get? b = some u) (hf : ∀ b ∈ its, FpOk X pins H b) : Inv X pins σ H { s with heap := h', toks := t' } := by
  have nit : ∀ b u, H b = some u → b ∉ its := fun b u e z => by rw [(hf b z).1] at e; cases e
  refine I.step (g' := s.gens) (d' := s.drawn) (ch := its) (fun b hb => ?_) (fun b o _ _ hc e _ => k b o hc e) (fun b o _ _ hc e _ => ⟨o.slots, k b o hc e⟩) (fun b u _ e n => n)
    (fun b o hc e => ⟨o, k b o hc e⟩) (fun b xs e => e) (fun b u v e => e) (fun b ps e => ⟨#[], by rw [e]; simp⟩) (fun m hm => ?_) (fun b u e => ?_) I.bare
  · obtain ⟨_, f1, f2, f3, f4, f5⟩ := hf b hb
    exact ⟨f3, f1, f4, f5⟩
  · obtain ⟨o, es, ep, ho, r⟩ := hm
    exact ⟨o, es, ep, k _ o (fun z => (hf _ z).2.1 rfl) ho, r⟩
  · refine (I.hok b u e).stay (fun c v hc q => k c v ?_ q) (fun _ q => q) fun _ _ q => q
    rcases hc with z | z
    · rw [z]; exact nit b u e
    · exact nit c _ z
end
/-- i and the list's item there, as a new pair -/
def Ite (K : PySem.W.Frag) (a : Addr) : It :=
  ⟨fun i H => ∃ xs x, SqL K H a xs ∧ xs[i]? = some x,
   fun i H x H' => ∃ t y, H t = none ∧ x = .ref t ∧ H' = upd H t (.tup [.int i, y]) ∧ ∀ xs, SqL K H a xs → xs[i]? = some y,
   fun i H => ∃ xs, SqL K H a xs ∧ xs.length ≤ i⟩
theorem turn_enum {P : Program} {w : World} {K : PySem.W.Frag} {elts : List Expr} {x1} {pos : Pos} (a e it : Addr) (hne : e ≠ it) :
    Turn P w K (.Tuple elts x1 pos) (Ite K a) [e, it] e (fun i h => (∃ old, IsEnum h e it i old) ∧ h.IsListIter it a i) where
  mem := by simp
  obj := fun i h st b hb => by
    obtain ⟨⟨old, he⟩, o, eo, c, d⟩ := st
    rcases List.mem_cons.mp hb with rfl | hb
    · exact ⟨_, he, fun v z => by
        have z' : Data.fields _ = Data.cell v := z
        cases z'⟩
    · rw [List.mem_singleton.mp hb]
      exact ⟨o, eo, fun v z => by rw [d] at z; cases z⟩
  keep := fun i h h' st k => ⟨st.1.elim fun old he => ⟨old, k e (by simp) _ he⟩, st.2.at fun o eo => k it (by simp) o eo⟩
  item := by
    intro X hP hw hK hc i pins s σ H E I hf st hg
    subst hP hw hK
    obtain ⟨xs, x, hq, hx⟩ := hg
    obtain ⟨⟨old, he⟩, hit⟩ := st
    obtain ⟨its, rv, p, hz⟩ := I.list hq
    obtain ⟨u, hu, ru⟩ := rv.get hx
    refine wpAny_pyNext_enum_item he hit p.isList (x := u) (by simpa using hu) hne fun h1 he1 hit1 ht1 hz1 k1 => ?_
    refine ⟨_, rfl, wpAny_letOwnedTupleGo_enum he1 fun h2 he2 hs2 => ?_⟩
    have hne2 : s.heap.objs.size ≠ e := Nat.ne_of_gt (Heap.lt_size he)
    have ht2 := (hs2.2 s.heap.objs.size hne2).trans ht1
    have hk : ∀ b o, b ∉ [e, it] → s.heap.get? b = some o → h2.get? b = some o := fun b o hb e' => by
      have hb' : b ≠ e ∧ b ≠ it := by simpa using hb
      exact (hs2.2 b hb'.1).trans (k1 b o hb'.1 hb'.2 e')
    have hfr : H s.heap.objs.size = none := I.hok.fresh (Nat.le_refl _)
    refine ⟨.ref s.heap.objs.size, upd H s.heap.objs.size (.tup [.int i, x]), I.turnedNew (t' := s.toks + 1) hk hf (Nat.le_refl _) ?_, rfl, ⟨_, x, hfr, rfl, rfl, fun ys hy => by rw [I.list_inj hy hq]; exact hx⟩, ⟨⟨u, ?_⟩, ?_⟩, fun b hb => ?_⟩
    · exact ⟨by show 2 ≤ sizeLine; decide, [.int i s.toks, u], .cons ⟨_, rfl⟩ (.cons ru .nil), ⟨_, ht2, rfl, _, rfl⟩⟩
    · exact he2
    · obtain ⟨o, e1, e2⟩ := hit1
      exact ⟨o, (hs2.2 it (Ne.symm hne)).trans e1, e2⟩
    · have : b ≠ s.heap.objs.size := by
        rcases List.mem_cons.mp hb with rfl | hb
        · exact Ne.symm hne2
        · rw [List.mem_singleton.mp hb]
          obtain ⟨o, e1, _⟩ := hit
          exact Nat.ne_of_lt (Heap.lt_size e1)
      rw [upd_ne this]
      exact (hf b hb).1
  done := by
    intro X hP hw hK hc i pins s σ H E I hf st hg
    subst hP hw hK
    obtain ⟨xs, hq, hx⟩ := hg
    obtain ⟨⟨old, he⟩, hit⟩ := st
    obtain ⟨its, rv, p, hz⟩ := I.list hq
    obtain ⟨f0, f1, f2, f3, f4, f5⟩ := hf it (by simp)
    have hl := rv.length
    exact wpAny_pyNext_enum_end (I.ok.hd hc) he hit p.isList (by simp; omega) fun h' eb => ⟨rfl, I.turned (t' := s.toks) (fun b o hb e => eb b o hb e) f0 f1 f3 f4 f5⟩
  self := fun _ _ _ _ _ st h => st.1.elim fun _ he => wpAny_pyIter_enum he h
section
variable {X : Cx}
def iEnum (K : PySem.W.Frag) (ta : TA) : TI := fun σ H R => ta σ H fun vs H1 => ∃ a, vs = [.ref a] ∧ (∃ xs, SqL K H1 a xs) ∧ R (Ite K a) H1
theorem bt_enum : bootBuiltins "enumerate" = some (.type "enumerate") := by decide +kernel
theorem pi_enum {a : Expr} {ta : TA} {p pos : Pos} {elts : List Expr} {x1} {tpos : Pos} (hg : Gl X "enumerate") (hm : X.mg "enumerate" = none) (ha : PA X [a] ta) (hs : starEach [a] X.env = [(false, eval a X.env)] := by rfl) :
    PI X (.Tuple elts x1 tpos) (.Call (.Name "enumerate" p) [a] [] pos) (iEnum X.K ta) := by
  intro pins s σ H R I h
  refine Call_ (ld_blt I hg hm bt_enum (PyProof.Rows.callWith_type1 (thn (ha pos pins s σ H _ I h) fun us s1 ⟨vs, H1, I1, r1, q1⟩ => ?_) hs rfl))
  obtain ⟨a, e, ⟨xs, hq⟩, q⟩ := q1
  subst e
  obtain ⟨u, rfl, ru⟩ := vals1 r1
  cases ru
  obtain ⟨its, rv, p, hz⟩ := I1.list hq
  refine call_enumerate_list p.isList fun h' he hit hsz hk => ?_
  refine wpAny_pyIter_enum he ?_
  refine ⟨s1.heap.objs.size + 1, [s1.heap.objs.size + 1, s1.heap.objs.size], _, _, H1, rfl, I1.kept (t' := s1.toks) hk, turn_enum a _ _ (Nat.succ_ne_self _), ⟨⟨_, he⟩, hit⟩, fun b hb => ?_, q⟩
  have hb' : s1.heap.objs.size ≤ b := by
    rcases List.mem_cons.mp hb with rfl | hb
    · exact Nat.le_succ _
    · rw [List.mem_singleton.mp hb]; exact Nat.le_refl _
  exact I1.fpOk hb' (I1.hok.fresh hb')
/-- over enumerate of a list that the body leaves as it is -/
theorem for_enum {K : PySem.W.Frag} {a : Addr} {xs : List V} {g : TG} {tb : TS} {D : Ends} {σ : St} {H : Hp} (Pv : Nat → St → Hp → Prop) (h0 : Pv 0 σ H) (hl : ∀ i σ H, i ≤ xs.length → Pv i σ H → SqL K H a xs)
    (hs : ∀ i x σ H t, xs[i]? = some x → H t = none → Pv i σ H → g (.ref t) σ (upd H t (.tup [.int i, x])) fun σ2 H2 => tb { D with nx := Pv (i + 1), ct := Pv (i + 1), bk := D.nx } σ2 H2) (hd : ∀ σ H, Pv xs.length σ H → D.nx σ H) :
    ∃ W : Nat → Nat → St → Hp → Prop, (∃ m, W 0 m σ H) ∧ ∀ i m σ H, W i m σ H →
      ((Ite K a).stop i H ∧ D.nx σ H) ∨ ((Ite K a).go i H ∧ ∃ N : St → Hp → Prop, (∀ σ' H', N σ' H' → ∃ m', m' < m ∧ W (i + 1) m' σ' H') ∧ ∀ x H', (Ite K a).yld i H x H' → g x σ H' fun σ2 H2 => tb { D with nx := N, ct := N, bk := D.nx } σ2 H2) := by
  refine ⟨fun i m σ H => m = xs.length - i ∧ i ≤ xs.length ∧ Pv i σ H, ⟨xs.length, by simp, Nat.zero_le _, h0⟩, ?_⟩
  rintro i m σ H ⟨rfl, hi, p⟩
  have q := hl i σ H hi p
  by_cases hlt : i < xs.length
  · refine .inr ⟨⟨xs, xs[i], q, by simp [hlt]⟩, Pv (i + 1), fun σ' H' p' => ⟨xs.length - (i + 1), by omega, rfl, hlt, p'⟩, fun x H' y => ?_⟩
    obtain ⟨t, y, hn, e1, e2, hy⟩ := y
    subst e1 e2
    exact hs i y σ _ t (hy xs q) hn p
  · have e : i = xs.length := by omega
    subst e
    exact .inl ⟨⟨xs, q, Nat.le_refl _⟩, hd σ H p⟩
end
end L2


set_option Elab.async false
set_option linter.all false
set_option maxRecDepth 100000
set_option maxHeartbeats 4000000
namespace L2
open PySem PySem.W PySem.Spec PySem.Calls PyProof.Rows
/-! ### a dict that is walked: frozen while it is so -/
section
variable {X : Cx} {pins : List (Addr × Obj)} {σ : St} {H : Hp} {s : Shared} {a : Addr} {kvs : List (Key × V)}
end
section
variable {X : Cx}
/-! ### loops and comprehensions over them -/
end
end L2


set_option Elab.async false
set_option linter.all false
set_option maxRecDepth 100000
set_option maxHeartbeats 4000000
namespace L2
open PySem PySem.W PySem.Spec PySem.Calls PyProof.Rows
/-! ### == of a list of ints, None, lists, tuples and dicts: what is alike -/
section
variable {X : Cx} {pins : List (Addr × Obj)} {σ : St} {H : Hp} {s : Shared} {A : Around}
end
end L2


set_option Elab.async false
set_option linter.all false
set_option maxRecDepth 100000
set_option maxHeartbeats 4000000
namespace L2
open PySem PySem.W PySem.Spec PySem.Calls PyProof.Rows
section
variable {prog : Program} {w : World} {K : Type} [DecidableEq K] {knd : KeyKind prog w K} {A : Around} {R : Result → Shared → Prop}
end
end L2


set_option Elab.async false
set_option linter.all false
set_option maxRecDepth 100000
set_option maxHeartbeats 4000000
namespace L2
open PySem PySem.W PySem.Spec PySem.Calls PyProof.Rows
/-! ### d.update(e): other keys -/
/-! ### x in range(n) -/
end L2


set_option Elab.async false
set_option linter.all false
set_option maxRecDepth 100000
set_option maxHeartbeats 4000000
namespace L2
open PySem PySem.Spec PyProof.Rows
/-! ### the call of what an expression tells -/
section
variable {X : Cx} {k : Nat} {e a : Expr} {es : List Expr} {pos : Pos} {te : TE} {t : TA}
end
end L2


set_option Elab.async false
set_option linter.all false
set_option maxRecDepth 100000
set_option maxHeartbeats 4000000
namespace L2
open PySem PySem.Spec PyProof.Rows
/-- a dict of the top, keyed by texts: what it holds at x -/
def KHas (K : PySem.W.Frag) (P : Params) (a : Addr) (x : Str) (r : Option V) : Prop :=
  ∃ (es : Array DictEntry) (n : Nat), K.lookup a = some ⟨.type "dict", none, .dict es n, #[]⟩ ∧ PySem.W.KeysLit P es.toList ∧ (a == sysModules) = false ∧ ∃ q, PySem.W.nsIn K a x = some q ∧ RelO r q
def tKGet (K : PySem.W.Frag) (P : Params) (td ty : TE) : TE := fun σ H Q => td σ H fun x H1 => ty σ H1 fun y H2 => ∃ a k v, x = .ref a ∧ y = .str k ∧ KHas K P a k (some v) ∧ Q v H2
section
variable {X : Cx} {o i : Expr} {pos : Pos} {td ty : TE}
theorem pe_kget (ho : PE X o td) (hi : PE X i ty) (hs : NoSl i) : PE X (.Subscript o i pos) (tKGet X.K X.w.params td ty) := by
  intro pins s σ H Q I h
  refine subD_of PySem.F.slot_dict_getitem.lookup hs (thn (ho pins s σ H _ I h) fun u s1 ⟨x, H1, I1, rx, q1⟩ => thn (hi pins s1 σ H1 _ I1 q1) fun iv s2 ⟨y, H2, I2, ry, a, k, v, ex, ey, g, q2⟩ => ?_)
  subst ex ey
  obtain rfl : u = Value.ref a := rx
  obtain ⟨t, rfl⟩ := ry
  obtain ⟨es, n, hl, hk, hm, q, hq, rq⟩ := g
  obtain ⟨w', hw, rw'⟩ := RelO.some_of (v := v) (o := q) rq
  subst hw
  have mo := PySem.W.mapOf_K (prog := X.prog) (w := X.w) I2.kIn hl hk
  exact ⟨mo.typeIs, wpAny_getItem_of (strKind_is X.prog X.w k t) mo (PySem.W.find_K hl hq) ⟨v, H2, I2.tok _, rw', q2⟩⟩
end
end L2


set_option Elab.async false
set_option linter.all false
set_option maxRecDepth 100000
set_option maxHeartbeats 4000000
namespace L2
open PySem PySem.Spec PyProof.Rows
/-! ### d.get(k, x) of a dict of the top -/
section
variable {X : Cx} {o e f : Expr} {apos cpos : Pos} {td ty tx : TE}
end
end L2


set_option Elab.async false
set_option linter.all false
set_option maxRecDepth 100000
set_option maxHeartbeats 4000000
namespace L2
open PySem PySem.Spec PyProof.Rows
/-! ### t * n -/
end L2


set_option Elab.async false
set_option linter.all false
set_option maxRecDepth 100000
set_option maxHeartbeats 4000000
namespace L2
open PySem PySem.Spec PyProof.Rows
end L2


set_option Elab.async false
set_option linter.all false
set_option maxRecDepth 100000
set_option maxHeartbeats 4000000
namespace L2
open PySem PySem.Spec PyProof.Rows
theorem rng_all {f : Nat → Bool} : ∀ (bs : List Bool), (∀ i b, bs[i]? = some b → f i = b) → (List.range bs.length).all f = bs.all id := by
  intro bs h
  rw [Bool.eq_iff_iff, List.all_eq_true, List.all_eq_true]
  constructor
  · intro k b hb
    obtain ⟨i, hi, e⟩ := List.getElem_of_mem hb
    have := k i (List.mem_range.mpr hi)
    rw [h i b (by rw [List.getElem?_eq_getElem hi, e])] at this
    exact this
  · intro k i hi
    have hi := List.mem_range.mp hi
    rw [h i bs[i] (List.getElem?_eq_getElem hi)]
    exact k _ (List.getElem_mem hi)
section
variable {X : Cx}
theorem bl_at {bs : List Bool} {its : List Value} (rv : Vals (bs.map V.bl) its) {i : Nat} {v : Value} (h : its.toArray[i]? = some v) : ∃ b, bs[i]? = some b ∧ v = .bool b := by
  have h : its[i]? = some v := by simpa using h
  have hl := rv.length
  rw [List.length_map] at hl
  have hi : i < bs.length := by
    rw [hl]
    exact (List.getElem?_eq_some_iff.mp h).1
  obtain ⟨u, hu, ru⟩ := rv.get (i := i) (x := V.bl bs[i]) (by rw [List.getElem?_map, List.getElem?_eq_getElem hi]; rfl)
  rw [h] at hu
  cases hu
  exact ⟨bs[i], List.getElem?_eq_getElem hi, ru⟩
theorem call_allB (hc : X.calm = true) : CallR X (.builtin "all") (fun xs H Q => ∃ (a : Addr) (bs : List Bool), xs = [.ref a] ∧ SqL X.K H a (bs.map V.bl) ∧ Q (.bl (bs.all id)) H) := by
  intro pins s σ H xs us Q I r h
  obtain ⟨a, bs, rfl, hq, q⟩ := h
  obtain ⟨u, rfl, ru⟩ := vals1 r
  cases ru
  obtain ⟨its, rv, p, hz⟩ := I.list hq
  have hl := p.isList
  have hlt : a < s.heap.objs.size := by obtain ⟨_, e, _⟩ := hl; exact Heap.lt_size e
  have hlen := rv.length
  rw [List.length_map] at hlen
  refine call_all_walk (wpAny_pyIter_list hl ?_)
  refine ⟨s.heap.objs.size, [s.heap.objs.size, a], [s.heap.objs.size], its.toArray.size, _, _, fun i => (bs[i]?).getD true, rfl, Walks.list (A := X.A.in1) (I.ok.hd hc) _ a (Nat.ne_of_lt hlt) its.toArray,
    ⟨⟨_, Heap.get?_push_size _ rfl, rfl, rfl⟩, hl.push _⟩, fun i v s' Q' E' hP hQ => ?_, fun h' tk hk => ?_⟩
  · obtain ⟨b, e, rfl⟩ := bl_at rv hP
    simp only [e, Option.getD_some] at hQ
    exact wpAny_truthy_bool hQ
  · rw [List.size_toArray, ← hlen, rng_all bs (fun i b e => by rw [e]; rfl)]
    exact ⟨.bl _, H, I.kept (t' := tk) (fun b x e => hk b x (fun hm => by rw [List.mem_singleton.mp hm] at e; exact Nat.lt_irrefl _ (Heap.lt_size e)) (Heap.get?_push_of_some _ e)), rfl, q⟩
end
end L2


set_option Elab.async false
set_option linter.all false
set_option maxRecDepth 100000
set_option maxHeartbeats 4000000
namespace L2
open PySem PySem.Spec PyProof.Rows
section
variable {prog : Program} {w : World} {A : Around} {E : Value → Shared → Prop} {s : Shared}
theorem nxT_item {it t : Addr} {i : Nat} {els : Array Value} {x : Value} {Q : Value → Shared → Prop} (ti : s.heap.IsTupleIter it t i) (tt : s.heap.IsTuple t els) (gx : els[i]? = some x)
    (k : ∀ h', h'.IsTupleIter it t (i + 1) → Heap.SameBut it s.heap h' → Q x { s with heap := h' }) : wpAny (model prog w) A (Builtin.SmallTypes.nextOf (.ref it)) Q E s := by
  obtain ⟨o, go, gc, gd⟩ := id ti
  obtain ⟨ol, gol, _, nl, gdl⟩ := tt
  unfold Builtin.SmallTypes.nextOf
  refine wpAny_bind (wpAny_callSpecial?_slot (name := Str.ofString "__next__") ti.typeIs F.slot_tuple_iterator_next (wpAny_call_entry F.slot_tuple_iterator_next ti.typeIs F.entry_tuple_iterator_next ?_ (F.args_tuple_iterator_next_1 _)))
  show wpAny _ _ (field (.ref it) 0 >>= _) _ _ s; refine wpAny_bind (wpAny_field go gd (x := .ref t) rfl ?_)
  show wpAny _ _ (if (Value.ref t == Value.none) = true then _ else _) _ _ s; rw [if_neg (show ¬ ((Value.ref t == Value.none) = true) from Bool.false_ne_true)]
  show wpAny _ _ (field (.ref it) 1 >>= _) _ _ s; refine wpAny_bind (wpAny_field go gd (x := .int i 0) rfl ?_)
  show wpAny _ _ (seqItems? (.ref t) >>= _) _ _ s; refine wpAny_bind (wpAny_seqItems gol gdl ?_); simp only [Int.toNat_natCast, gx]
  refine wpAny_bind (wpAny_setField go gd (by simp) (wpAny_pure ⟨x, rfl, wpAny_pure (k _ ?_ (Heap.SameBut.update ..))⟩))
  exact ⟨_, Heap.get?_update_self _ go (Obj.isFreed_of_fields (Obj.data_mapFields gd _)), (Obj.cls_mapFields ..).trans gc, by rw [Obj.data_mapFields gd]; simp [rawInt]⟩
theorem nxT_end {it t : Addr} {i : Nat} {els : Array Value} {Q : Value → Shared → Prop} (hh : A.handled = none) (ti : s.heap.IsTupleIter it t i) (tt : s.heap.IsTuple t els) (gx : els[i]? = none)
    (k : ∀ h' e, Heap.ExtBut it s.heap h' → (∃ o, h'.get? e = some o ∧ o.cls = .type "StopIteration") → E (.ref e) { s with heap := h' }) : wpAny (model prog w) A (Builtin.SmallTypes.nextOf (.ref it)) Q E s := by
  obtain ⟨o, go, gc, gd⟩ := id ti
  obtain ⟨ol, gol, _, nl, gdl⟩ := tt
  unfold Builtin.SmallTypes.nextOf
  refine wpAny_bind (wpAny_callSpecial?_slot (name := Str.ofString "__next__") ti.typeIs F.slot_tuple_iterator_next (wpAny_call_entry F.slot_tuple_iterator_next ti.typeIs F.entry_tuple_iterator_next ?_ (F.args_tuple_iterator_next_1 _)))
  show wpAny _ _ (field (.ref it) 0 >>= _) _ _ s; refine wpAny_bind (wpAny_field go gd (x := .ref t) rfl ?_)
  show wpAny _ _ (if (Value.ref t == Value.none) = true then _ else _) _ _ s; rw [if_neg (show ¬ ((Value.ref t == Value.none) = true) from Bool.false_ne_true)]
  show wpAny _ _ (field (.ref it) 1 >>= _) _ _ s; refine wpAny_bind (wpAny_field go gd (x := .int i 0) rfl ?_)
  show wpAny _ _ (seqItems? (.ref t) >>= _) _ _ s; refine wpAny_bind (wpAny_seqItems gol gdl ?_); simp only [Int.toNat_natCast, gx]
  refine wpAny_bind (wpAny_rule (wpAny_bind (wpAny_setField go gd (by simp) ?_)))
  show wpAny _ _ (newExc (.type "StopIteration") [] >>= _) _ _ _; refine wpAny_bind ?_; simp only [newExc, newTuple]; refine wpAny_bind (wpAny_newObj_type ?_ (by size_fits))
  refine wpAny_bind (m := firstArgMember _ _) (wpAny_of_eq (a := Value.none) (by first | rfl | (simp only [firstArgMember]; rfl)) ?_); refine wpAny_newObj_type ?_ (by size_fits)
  simp only [raiseNew]; refine wpAny_bind (wpAny_handled ?_); (first | rw [show A.in1.handled = none from hh] | rw [hh]); refine wpAny_bind (wpAny_pure (wpAny_throw ?_))
  exact k _ _ (((Heap.SameBut.update ..).extBut.push _).push _) ⟨_, Heap.get?_push_size _ rfl, rfl⟩
theorem zipT_item {z TI TO i1 i2 l1 l2 : Addr} {k : Nat} {xs ys : Array Value} {x y a b : Value} {Q : Option Value → Shared → Prop} (D : ZipApart z TI TO i1 i2 l1 l2)
    (gz : IsZip s.heap z TI TO .none) (gI : IsPair s.heap TI (.ref i1) (.ref i2)) (gO : IsPair s.heap TO a b)
    (t1 : s.heap.IsTupleIter i1 l1 k) (t2 : s.heap.IsTupleIter i2 l2 k) (m1 : s.heap.IsTuple l1 xs) (m2 : s.heap.IsTuple l2 ys) (gx : xs[k]? = some x) (gy : ys[k]? = some y)
    (q : ∀ h', IsZip h' z TI TO (rawInt s.heap.objs.size) → IsPair h' TO x y → h'.IsTupleIter i1 l1 (k + 1) → h'.IsTupleIter i2 l2 (k + 1) → IsPair h' s.heap.objs.size x y → h'.objs.size = s.heap.objs.size + 1 →
      (∀ c o, c ≠ z → c ≠ TO → c ≠ i1 → c ≠ i2 → s.heap.get? c = some o → h'.get? c = some o) → Q (some (.ref s.heap.objs.size)) { s with heap := h' }) : wpAny (model prog w) A (pyNext (.ref z)) Q E s := by
  have hT : s.TypeIs (.ref z) "zip" := ⟨_, gz, rfl⟩
  unfold pyNext
  refine wpAny_bind (wpAny_attempt (wpAny_callSpecial?_slot (name := Str.ofString "__next__") hT F.slot_zip_next (wpAny_call_entry F.slot_zip_next hT F.entry_zip_next ?_ (F.args_zip_next_1 _))))
  show wpAny _ _ (field (.ref z) 2 >>= _) _ _ _; refine wpAny_bind (wpAny_field gz rfl (x := .bool false) rfl ?_)
  show wpAny _ _ (field (.ref z) 3 >>= _) _ _ _; refine wpAny_bind (wpAny_field gz rfl (x := .ref TI) rfl ?_); refine wpAny_bind (wpAny_seqItems gI rfl ?_)
  show wpAny _ _ (Builtin.SmallTypes.ownedTupleIsFree (.ref z) >>= _) _ _ _; refine wpAny_bind ?_; unfold Builtin.SmallTypes.ownedTupleIsFree
  refine wpAny_bind (wpAny_field gz rfl (x := .none) rfl (wpAny_pure ?_)); simp only [if_true]; refine wpAny_bind (wpAny_rule ?_); refine wpAny_bind (wpAny_field gz rfl (x := .ref TO) rfl ?_)
  refine wpAny_bind (wpAny_setField_rec gz (by simp) fun g1 z1 e1 => ?_); replace z1 : IsZip g1 z TI TO .ellipsis := z1; refine wpAny_bind ?_
  simp only [List.zipIdx_cons, List.zipIdx_nil, List.forIn_cons, List.forIn_nil]; refine wpAny_bind (wpAny_bind (wpAny_onRaise ?_))
  show wpAny _ _ (Builtin.SmallTypes.nextOf (.ref i1) >>= _) _ _ _; refine wpAny_bind (nxT_item (t1.extBut e1.extBut D.i1z) (m1.extBut e1.extBut D.l1z) gx fun g2 t1' e2 => wpAny_pure ?_)
  have o2 : IsPair g2 TO a b := e2.extBut _ _ D.TOi1 (e1.extBut _ _ D.TOz gO)
  refine wpAny_bind (wpAny_seqItems o2 rfl ?_); refine wpAny_bind (wpAny_updateSeq_pair o2 fun g3 o3 e3 => ?_); replace o3 : IsPair g3 TO x b := o3; refine wpAny_bind (wpAny_letGo (wpAny_pure ?_)); refine wpAny_bind (wpAny_bind (wpAny_onRaise ?_))
  show wpAny _ _ (Builtin.SmallTypes.nextOf (.ref i2) >>= _) _ _ _; refine wpAny_bind (nxT_item (((t2.extBut e1.extBut D.i2z).extBut e2.extBut D.i12.symm).extBut e3.extBut D.TOi2.symm) (((m2.extBut e1.extBut D.l2z).extBut e2.extBut D.l2i1).extBut e3.extBut D.l2TO) gy fun g4 t2' e4 => wpAny_pure ?_)
  have o4 : IsPair g4 TO x b := e4.extBut _ _ D.TOi2 o3
  refine wpAny_bind (wpAny_seqItems o4 rfl ?_); refine wpAny_bind (wpAny_updateSeq_pair o4 fun g5 o5 e5 => ?_); replace o5 : IsPair g5 TO x y := o5; refine wpAny_bind (wpAny_letGo (wpAny_pure (wpAny_pure ?_)))
  refine wpAny_bind (wpAny_seqItems o5 rfl ?_); refine wpAny_bind (wpAny_newTuple ?_)
  have sz : g5.objs.size = s.heap.objs.size := by rw [e5.1, e4.1, e3.1, e2.1, e1.1]
  have z5 : IsZip g5 z TI TO .ellipsis := e5.extBut _ _ D.TOz.symm (e4.extBut _ _ D.i2z.symm (e3.extBut _ _ D.TOz.symm (e2.extBut _ _ D.i1z.symm z1)))
  have kp : ∀ c o, c ≠ z → c ≠ TO → c ≠ i1 → c ≠ i2 → s.heap.get? c = some o → g5.get? c = some o := fun c o c1 c2 c3 c4 e => e5.extBut _ _ c2 (e4.extBut _ _ c4 (e3.extBut _ _ c2 (e2.extBut _ _ c3 (e1.extBut _ _ c1 e))))
  have u1 : g5.IsTupleIter i1 l1 (k + 1) := ((t1'.extBut e3.extBut D.TOi1.symm).extBut e4.extBut D.i12).extBut e5.extBut D.TOi1.symm
  have u2 : g5.IsTupleIter i2 l2 (k + 1) := t2'.extBut e5.extBut D.TOi2.symm
  have zl : z < g5.objs.size := Heap.lt_size z5
  show wpAny _ _ (Builtin.SmallTypes.ownedTupleHandOut (.ref z) (.ref g5.objs.size) >>= _) _ _ _; refine wpAny_bind ?_; unfold Builtin.SmallTypes.ownedTupleHandOut
  have z6 : IsZip (g5.push { cls := .type "tuple", data := .seq #[x, y] }) z TI TO .ellipsis := Heap.get?_push_of_some _ z5
  refine wpAny_bind (wpAny_setField_rec z6 (by simp) fun g7 z7 e7 => ?_); replace z7 : IsZip g7 z TI TO (rawInt g5.objs.size) := z7
  refine wpAny_setField_rec z7 (by simp) fun g8 z8 e8 => ?_; replace z8 : IsZip g8 z TI TO (rawInt g5.objs.size) := z8
  have up : ∀ c o, c ≠ z → g5.get? c = some o → g8.get? c = some o := fun c o c1 e => e8.extBut _ _ c1 (e7.extBut _ _ c1 (Heap.get?_push_of_some _ e))
  have n8 : IsPair g8 g5.objs.size x y := e8.extBut _ _ (Nat.ne_of_gt zl) (e7.extBut _ _ (Nat.ne_of_gt zl) (Heap.get?_push_size _ rfl))
  have s8 : g8.objs.size = g5.objs.size + 1 := by rw [e8.1, e7.1, Heap.size_push]
  rw [sz] at z8 n8 s8
  refine wpAny_pure ⟨.ref g5.objs.size, rfl, wpAny_pure ?_⟩
  rw [sz]
  exact q g8 z8 (up _ _ D.TOz o5) (u1.at fun o e => up _ o D.i1z e) (u2.at fun o e => up _ o D.i2z e) n8 s8 fun c o c1 c2 c3 c4 e => up c o c1 (kp c o c1 c2 c3 c4 e)
/-- the end where the first of the two ends -/
theorem zipT_end {z TI TO i1 i2 l1 l2 : Addr} {k : Nat} {xs : Array Value} {Q : Option Value → Shared → Prop} (hh : A.handled = none) (D : ZipApart z TI TO i1 i2 l1 l2)
    (gz : IsZip s.heap z TI TO .none) (gI : IsPair s.heap TI (.ref i1) (.ref i2)) (t1 : s.heap.IsTupleIter i1 l1 k) (m1 : s.heap.IsTuple l1 xs) (gx : xs[k]? = none)
    (q : ∀ h', (∀ c o, c ≠ z → c ≠ TO → c ≠ i1 → c ≠ i2 → s.heap.get? c = some o → h'.get? c = some o) → Q none { s with heap := h' }) : wpAny (model prog w) A (pyNext (.ref z)) Q E s := by
  have hT : s.TypeIs (.ref z) "zip" := ⟨_, gz, rfl⟩
  unfold pyNext
  refine wpAny_bind (wpAny_attempt (wpAny_callSpecial?_slot (name := Str.ofString "__next__") hT F.slot_zip_next (wpAny_call_entry F.slot_zip_next hT F.entry_zip_next ?_ (F.args_zip_next_1 _))))
  show wpAny _ _ (field (.ref z) 2 >>= _) _ _ _; refine wpAny_bind (wpAny_field gz rfl (x := .bool false) rfl ?_)
  show wpAny _ _ (field (.ref z) 3 >>= _) _ _ _; refine wpAny_bind (wpAny_field gz rfl (x := .ref TI) rfl ?_); refine wpAny_bind (wpAny_seqItems gI rfl ?_)
  show wpAny _ _ (Builtin.SmallTypes.ownedTupleIsFree (.ref z) >>= _) _ _ _; refine wpAny_bind ?_; unfold Builtin.SmallTypes.ownedTupleIsFree
  refine wpAny_bind (wpAny_field gz rfl (x := .none) rfl (wpAny_pure ?_)); simp only [if_true]; refine wpAny_bind (wpAny_rule ?_); refine wpAny_bind (wpAny_field gz rfl (x := .ref TO) rfl ?_)
  refine wpAny_bind (wpAny_setField_rec gz (by simp) fun g1 z1 e1 => ?_); replace z1 : IsZip g1 z TI TO .ellipsis := z1; refine wpAny_bind ?_
  simp only [List.zipIdx_cons, List.zipIdx_nil, List.forIn_cons, List.forIn_nil]; refine wpAny_bind (wpAny_bind (wpAny_onRaise ?_))
  show wpAny _ _ (Builtin.SmallTypes.nextOf (.ref i1) >>= _) _ _ _; refine wpAny_bind (nxT_end hh (t1.extBut e1.extBut D.i1z) (m1.extBut e1.extBut D.l1z) gx fun g2 e e2 he => ?_)
  obtain ⟨oe, hoe, hce⟩ := he
  have z2 : IsZip g2 z TI TO .ellipsis := e2 _ _ D.i1z.symm z1
  have ne : e ≠ z := fun x => by subst x; rw [z2] at hoe; cases hoe; simp at hce
  refine wpAny_setField_rec z2 (by simp) fun g3 _ e3 => ?_
  refine wpAny_bind (wpAny_isInstance (T := "StopIteration") (b := true) ⟨oe, e3.extBut _ _ ne hoe, hce⟩ isSubtype_stop ?_)
  exact wpAny_pure (q g3 fun c o c1 _ c3 _ x => e3.extBut _ _ c1 (e2 _ _ c3 (e1.extBut _ _ c1 x)))
end
end L2


set_option Elab.async false
set_option linter.all false
set_option maxRecDepth 100000
set_option maxHeartbeats 4000000
namespace L2
open PySem PySem.Spec PyProof.Rows
abbrev zT1 (h : Heap) (a : Addr) : Heap := h.push { cls := .type "tuple_iterator", data := .fields #[.ref a, .int 0 0] }
abbrev zT2 (h : Heap) (a b : Addr) : Heap := (zT1 h a).push { cls := .type "tuple_iterator", data := .fields #[.ref b, .int 0 0] }
abbrev zT3 (h : Heap) (a b : Addr) : Heap := (zT2 h a b).push { cls := .type "tuple", data := .seq #[.ref h.objs.size, .ref (zT1 h a).objs.size] }
abbrev zT4 (h : Heap) (a b : Addr) : Heap := (zT3 h a b).push { cls := .type "tuple", data := .seq #[.none, .none] }
abbrev zT5 (h : Heap) (a b : Addr) : Heap := (zT4 h a b).push { cls := .type "zip", data := .fields #[.none, .bool false, .bool false, .ref (zT2 h a b).objs.size, .ref (zT3 h a b).objs.size] }
theorem mzT (a b : Addr) (xs ys : Array Value) : Meets (Builtin.«zip.__new__» ⟨[.type "zip", .ref a, .ref b], []⟩) (fun _ R s => s.heap.IsTuple a xs ∧ s.heap.IsTuple b ys ∧ R (.ok (.ret (.ref (zT4 s.heap a b).objs.size))) { s with heap := zT5 s.heap a b }) :=
  .of_wp fun prog w A R s h => by
    obtain ⟨hp, g, d, tk, os⟩ := s; obtain ⟨m1, m2, h⟩ := h
    have hsub := sub_zip
    have n1 : Heap.IsTuple (Shared.heap ⟨hp, g, d, tk, os⟩) a xs := m1
    have n2 : Heap.IsTuple (Shared.heap ⟨hp.push { cls := .type "tuple_iterator", data := .fields #[.ref a, .int 0 0] }, g, d, tk, os⟩) b ys := Heap.IsTuple.push m2 _
    wp_walk using wpAny_pyIter_tuple n1, wpAny_pyIter_tuple n2
    exact ⟨_, rfl, h⟩
section
variable {prog : Program} {w : World} {A : Around} {E : Value → Shared → Prop} {s : Shared}
theorem call_zipT {a b : Addr} {xs ys : Array Value} {Q : Value → Shared → Prop} (m1 : s.heap.IsTuple a xs) (m2 : s.heap.IsTuple b ys)
    (h : ∀ h', IsZip h' (s.heap.objs.size + 4) (s.heap.objs.size + 2) (s.heap.objs.size + 3) .none → IsPair h' (s.heap.objs.size + 2) (.ref s.heap.objs.size) (.ref (s.heap.objs.size + 1)) →
      IsPair h' (s.heap.objs.size + 3) .none .none → h'.IsTupleIter s.heap.objs.size a 0 → h'.IsTupleIter (s.heap.objs.size + 1) b 0 → (∀ c o, s.heap.get? c = some o → h'.get? c = some o) → Q (.ref (s.heap.objs.size + 4)) { s with heap := h' }) :
    wpAny (model prog w) A (call (.type "zip") [.ref a, .ref b]) Q E s := by
  refine callType_new F.called_zip (by decide) (F.typeCall_zip_2 _ _) (F.newCall_zip_2 _ _) (fun obj => F.args_object_init_3 obj _ _) F.entry_zip_new (mzT a b xs ys) ⟨m1, m2, ?_⟩
  have z1 : (zT1 s.heap a).objs.size = s.heap.objs.size + 1 := Heap.size_push ..
  have z2 : (zT2 s.heap a b).objs.size = s.heap.objs.size + 2 := by rw [Heap.size_push, z1]
  have z3 : (zT3 s.heap a b).objs.size = s.heap.objs.size + 3 := by rw [Heap.size_push, z2]
  have z4 : (zT4 s.heap a b).objs.size = s.heap.objs.size + 4 := by rw [Heap.size_push, z3]
  have g5 : (zT5 s.heap a b).get? (zT4 s.heap a b).objs.size = some _ := Heap.get?_push_size _ rfl
  have g4 : (zT5 s.heap a b).get? (zT3 s.heap a b).objs.size = some _ := Heap.get?_push_of_some _ (Heap.get?_push_size _ rfl)
  have g3 : (zT5 s.heap a b).get? (zT2 s.heap a b).objs.size = some _ := Heap.get?_push_of_some _ (Heap.get?_push_of_some _ (Heap.get?_push_size _ rfl))
  have g2 : (zT5 s.heap a b).get? (zT1 s.heap a).objs.size = some _ := Heap.get?_push_of_some _ (Heap.get?_push_of_some _ (Heap.get?_push_of_some _ (Heap.get?_push_size _ rfl)))
  have g1 : (zT5 s.heap a b).get? s.heap.objs.size = some _ := Heap.get?_push_of_some _ (Heap.get?_push_of_some _ (Heap.get?_push_of_some _ (Heap.get?_push_of_some _ (Heap.get?_push_size _ rfl))))
  show _ ∧ _
  rw [z2, z3, z4] at g5
  rw [z1, z2] at g3
  rw [z3] at g4
  rw [z1] at g2
  rw [z4]
  refine ⟨⟨_, g5, rfl⟩, h _ g5 g3 g4 ⟨_, g1, rfl, rfl⟩ ⟨_, g2, rfl, rfl⟩ fun c o x => ?_⟩
  exact Heap.get?_push_of_some _ (Heap.get?_push_of_some _ (Heap.get?_push_of_some _ (Heap.get?_push_of_some _ (Heap.get?_push_of_some _ x))))
end
/-- the items of two tuples, as new pairs; the first one's length counts -/
def Itz (K : PySem.W.Frag) (a b : Addr) : It :=
  ⟨fun i H => ∃ xs x ys y, SqT K H a xs ∧ xs[i]? = some x ∧ SqT K H b ys ∧ ys[i]? = some y,
   fun i H v H' => ∃ t x y, H t = none ∧ v = .ref t ∧ H' = upd H t (.tup [x, y]) ∧ (∀ xs, SqT K H a xs → xs[i]? = some x) ∧ ∀ ys, SqT K H b ys → ys[i]? = some y,
   fun i H => ∃ xs, SqT K H a xs ∧ xs.length ≤ i⟩
theorem turn_zip {P : Program} {w : World} {K : PySem.W.Frag} {elts : List Expr} {x1} {pos : Pos} (a b z TI TO i1 i2 : Addr) (D : ZipApart z TI TO i1 i2 a b) :
    Turn P w K (.Tuple elts x1 pos) (Itz K a b) [z, TI, TO, i1, i2] z (fun i h => IsZip h z TI TO .none ∧ IsPair h TI (.ref i1) (.ref i2) ∧ (∃ u v, IsPair h TO u v) ∧ h.IsTupleIter i1 a i ∧ h.IsTupleIter i2 b i) where
  mem := by simp
  obj := fun i h st c hc => by
    obtain ⟨s1, s2, ⟨u, v, s3⟩, ⟨o4, s4, _, d4⟩, ⟨o5, s5, _, d5⟩⟩ := st
    have hc' : c = z ∨ c = TI ∨ c = TO ∨ c = i1 ∨ c = i2 := by simpa using hc
    rcases hc' with rfl | rfl | rfl | rfl | rfl
    · exact ⟨_, s1, fun v q => by have q' : Data.fields _ = Data.cell v := q; cases q'⟩
    · exact ⟨_, s2, fun v q => by have q' : Data.seq _ _ = Data.cell v := q; cases q'⟩
    · exact ⟨_, s3, fun v q => by have q' : Data.seq _ _ = Data.cell v := q; cases q'⟩
    · exact ⟨o4, s4, fun v q => by rw [d4] at q; cases q⟩
    · exact ⟨o5, s5, fun v q => by rw [d5] at q; cases q⟩
  keep := fun i h h' st k => ⟨k z (by simp) _ st.1, k TI (by simp) _ st.2.1, st.2.2.1.elim fun u q => q.elim fun v q => ⟨u, v, k TO (by simp) _ q⟩, st.2.2.2.1.at fun o e => k i1 (by simp) o e, st.2.2.2.2.at fun o e => k i2 (by simp) o e⟩
  item := by
    intro X hP hw hK hc i pins s σ H E I hf st hg
    subst hP hw hK
    obtain ⟨xs, x, ys, y, hq, hx, hq2, hy⟩ := hg
    obtain ⟨s1, s2, ⟨u, v, s3⟩, s4, s5⟩ := st
    obtain ⟨its, rv, p, hz⟩ := I.tuple hq
    obtain ⟨its2, rv2, p2, hz2⟩ := I.tuple hq2
    obtain ⟨ux, hux, rux⟩ := rv.get hx
    obtain ⟨uy, huy, ruy⟩ := rv2.get hy
    refine zipT_item D s1 s2 s3 s4 s5 (show s.heap.IsTuple a its.toArray from p) (show s.heap.IsTuple b its2.toArray from p2) (x := ux) (y := uy) (by simpa using hux) (by simpa using huy) fun h1 a1 a2 a3 a4 a5 a6 k1 => ?_
    refine ⟨_, rfl, wpAny_letOwnedTupleGo_zip a1 fun h2 b1 b2 => ?_⟩
    have nz : s.heap.objs.size ≠ z := Nat.ne_of_gt (Heap.lt_size s1)
    have ht2 := (b2.2 s.heap.objs.size nz).trans a5
    have hk : ∀ c o, c ∉ [z, TO, i1, i2] → s.heap.get? c = some o → h2.get? c = some o := fun c o hb e' => by
      have hb' : c ≠ z ∧ c ≠ TO ∧ c ≠ i1 ∧ c ≠ i2 := by simpa using hb
      exact (b2.2 c hb'.1).trans (k1 c o hb'.1 hb'.2.1 hb'.2.2.1 hb'.2.2.2 e')
    have hfr : H s.heap.objs.size = none := I.hok.fresh (Nat.le_refl _)
    refine ⟨.ref s.heap.objs.size, upd H s.heap.objs.size (.tup [x, y]), I.turnedNew (t' := s.toks) hk (fun c hc => hf c (by simp at hc ⊢; rcases hc with q | q | q | q <;> simp [q])) (Nat.le_refl _) ?_, rfl,
      ⟨_, x, y, hfr, rfl, rfl, fun zs hy' => by rw [I.tuple_inj hy' hq]; exact hx, fun zs hy' => by rw [I.tuple_inj hy' hq2]; exact hy⟩, ⟨b1, ?_, ⟨ux, uy, ?_⟩, a3.at fun o e => (b2.2 i1 D.i1z).trans e, a4.at fun o e => (b2.2 i2 D.i2z).trans e⟩, fun c hc => ?_⟩
    · exact ⟨by show 2 ≤ sizeLine; decide, [ux, uy], .cons rux (.cons ruy .nil), ⟨_, ht2, rfl, _, rfl⟩⟩
    · exact hk TI _ (by simp [D.TIz, D.TITO, D.TIi1, D.TIi2]) s2
    · exact (b2.2 TO D.TOz).trans a2
    · have : c ≠ s.heap.objs.size := by
        have hc' : c = z ∨ c = TI ∨ c = TO ∨ c = i1 ∨ c = i2 := by simpa using hc
        rcases hc' with rfl | rfl | rfl | rfl | rfl
        · exact Ne.symm nz
        · exact Nat.ne_of_lt (Heap.lt_size s2)
        · exact Nat.ne_of_lt (Heap.lt_size s3)
        · obtain ⟨o, e1, _⟩ := s4; exact Nat.ne_of_lt (Heap.lt_size e1)
        · obtain ⟨o, e1, _⟩ := s5; exact Nat.ne_of_lt (Heap.lt_size e1)
      rw [upd_ne this]
      exact (hf c hc).1
  done := by
    intro X hP hw hK hc i pins s σ H E I hf st hg
    subst hP hw hK
    obtain ⟨xs, hq, hx⟩ := hg
    obtain ⟨s1, s2, s3, s4, s5⟩ := st
    obtain ⟨its, rv, p, hz⟩ := I.tuple hq
    have hl := rv.length
    exact zipT_end (I.ok.hd hc) D s1 s2 s4 (show s.heap.IsTuple a its.toArray from p) (by simp; omega) fun h' eb => ⟨rfl, I.turnedL (t' := s.toks) (its := [z, TO, i1, i2]) (fun c o hb e => by
      have hb' : c ≠ z ∧ c ≠ TO ∧ c ≠ i1 ∧ c ≠ i2 := by simpa using hb
      exact eb c o hb'.1 hb'.2.1 hb'.2.2.1 hb'.2.2.2 e) (fun c hc => hf c (by simp at hc ⊢; rcases hc with q | q | q | q <;> simp [q]))⟩
  self := fun _ _ _ _ _ st h => wpAny_pyIter_zip st.1 h
section
variable {X : Cx}
def iZip (K : PySem.W.Frag) (ta : TA) : TI := fun σ H R => ta σ H fun vs H1 => ∃ a b, vs = [.ref a, .ref b] ∧ (∃ xs, SqT K H1 a xs) ∧ (∃ ys, SqT K H1 b ys) ∧ R (Itz K a b) H1
theorem bt_zip : bootBuiltins "zip" = some (.type "zip") := by decide +kernel
theorem pi_zip {a b : Expr} {ta : TA} {p pos : Pos} {elts : List Expr} {x1} {tpos : Pos} (hg : Gl X "zip") (hm : X.mg "zip" = none) (ha : PA X [a, b] ta)
    (hs : starEach [a, b] X.env = [(false, eval a X.env), (false, eval b X.env)] := by rfl) (hs2 : starEach [b] X.env = [(false, eval b X.env)] := by rfl) : PI X (.Tuple elts x1 tpos) (.Call (.Name "zip" p) [a, b] [] pos) (iZip X.K ta) := by
  intro pins s σ H R I h
  refine Call_ (ld_blt I hg hm bt_zip (PyProof.Rows.callWith_type1 (thn (ha pos pins s σ H _ I h) fun us s1 ⟨vs, H1, I1, r1, q1⟩ => ?_) (by rw [hs, hs2]) (by rw [hs2]; rfl)))
  obtain ⟨a, b, e, ⟨xs, hq⟩, ⟨ys, hq2⟩, q⟩ := q1
  subst e
  obtain ⟨u, v, rfl, ru, rv⟩ := vals2 r1
  cases ru
  cases rv
  obtain ⟨its, rv, p, hz⟩ := I1.tuple hq
  obtain ⟨its2, rv2, p2, hz2⟩ := I1.tuple hq2
  have la : a < s1.heap.objs.size := by obtain ⟨o, e, _⟩ := p; exact Heap.lt_size e
  have lb : b < s1.heap.objs.size := by obtain ⟨o, e, _⟩ := p2; exact Heap.lt_size e
  refine call_zipT (show s1.heap.IsTuple a its.toArray from p) (show s1.heap.IsTuple b its2.toArray from p2) fun h' g1 g2 g3 g4 g5 hk => ?_
  refine wpAny_pyIter_zip g1 ?_
  have D : ZipApart (s1.heap.objs.size + 4) (s1.heap.objs.size + 2) (s1.heap.objs.size + 3) s1.heap.objs.size (s1.heap.objs.size + 1) a b := PySem.W.ktu_apart _ _ _ la lb
  refine ⟨s1.heap.objs.size + 4, [s1.heap.objs.size + 4, s1.heap.objs.size + 2, s1.heap.objs.size + 3, s1.heap.objs.size, s1.heap.objs.size + 1], _, _, H1, rfl, I1.kept (t' := s1.toks) hk, turn_zip a b _ _ _ _ _ D, ⟨g1, g2, ⟨_, _, g3⟩, g4, g5⟩, fun c hc => ?_, q⟩
  have hc' : s1.heap.objs.size ≤ c := by
    have hc' : c = s1.heap.objs.size + 4 ∨ c = s1.heap.objs.size + 2 ∨ c = s1.heap.objs.size + 3 ∨ c = s1.heap.objs.size ∨ c = s1.heap.objs.size + 1 := by simpa using hc
    rcases hc' with q | q | q | q | q <;> rw [q]
    · exact Nat.le_add_right _ _
    · exact Nat.le_add_right _ _
    · exact Nat.le_add_right _ _
    · exact Nat.le_refl _
    · exact Nat.le_add_right _ _
  exact I1.fpOk hc' (I1.hok.fresh hc')
end
end L2


set_option Elab.async false
set_option linter.all false
set_option maxRecDepth 100000
set_option maxHeartbeats 4000000
namespace L2
open PySem PySem.Spec PyProof.Rows
theorem comp_tup {K : PySem.W.Frag} {a : Addr} {xs : List V} {g : TG} {tt : TT} {te : TE} {R : Hp → Prop} {D : Addr} {σ0 : St} {H0 : Hp} (Pv : Nat → St → List V → Hp → Prop) (h0 : Pv 0 σ0 [] H0) (hl : ∀ i σ ys H, i ≤ xs.length → Pv i σ ys H → SqT K H a xs)
    (hs : ∀ i x σ ys H, xs[i]? = some x → Pv i σ ys H → g x σ H fun σ2 H2 => tt σ2 H2 fun b H3 =>
      if b = true then te σ2 H3 fun v H4 => H4 D = some (.lst ys) ∧ ys.length < sizeLine ∧ Pv (i + 1) σ2 (ys ++ [v]) (upd H4 D (.lst (ys ++ [v]))) else Pv (i + 1) σ2 ys H3)
    (hd : ∀ σ ys H, Pv xs.length σ ys H → R H) :
    ∃ W : Nat → Nat → St → List V → Hp → Prop, (∃ m, W 0 m σ0 [] H0) ∧ ∀ i m σ ys H, W i m σ ys H →
      ((Itt K a).stop i H ∧ R H) ∨ ((Itt K a).go i H ∧ ∃ N : St → List V → Hp → Prop, (∀ σ' ys' H', N σ' ys' H' → ∃ m', m' < m ∧ W (i + 1) m' σ' ys' H') ∧ ∀ x H', (Itt K a).yld i H x H' → g x σ H' fun σ2 H2 => tt σ2 H2 fun b H3 =>
        if b = true then te σ2 H3 fun v H4 => H4 D = some (.lst ys) ∧ ys.length < sizeLine ∧ N σ2 (ys ++ [v]) (upd H4 D (.lst (ys ++ [v]))) else N σ2 ys H3) := by
  refine ⟨fun i m σ ys H => m = xs.length - i ∧ i ≤ xs.length ∧ Pv i σ ys H, ⟨xs.length, by simp, Nat.zero_le _, h0⟩, ?_⟩
  rintro i m σ ys H ⟨rfl, hi, p⟩
  have q := hl i σ ys H hi p
  by_cases hlt : i < xs.length
  · refine .inr ⟨⟨xs, xs[i], q, by simp [hlt]⟩, Pv (i + 1), fun σ' ys' H' p' => ⟨xs.length - (i + 1), by omega, rfl, hlt, p'⟩, fun x H' y => ?_⟩
    obtain ⟨e, y⟩ := y
    subst e
    exact hs i x σ ys _ (y xs q) p
  · have e : i = xs.length := by omega
    subst e
    exact .inl ⟨⟨xs, q, Nat.le_refl _⟩, hd σ ys H p⟩
theorem comp_zip {K : PySem.W.Frag} {a b : Addr} {xs zs : List V} {g : TG} {tt : TT} {te : TE} {R : Hp → Prop} {D : Addr} {σ0 : St} {H0 : Hp} (hlen : xs.length = zs.length) (Pv : Nat → St → List V → Hp → Prop) (h0 : Pv 0 σ0 [] H0)
    (hl : ∀ i σ ys H, i ≤ xs.length → Pv i σ ys H → SqT K H a xs ∧ SqT K H b zs)
    (hs : ∀ i x z σ ys H t, xs[i]? = some x → zs[i]? = some z → H t = none → Pv i σ ys H → g (.ref t) σ (upd H t (.tup [x, z])) fun σ2 H2 => tt σ2 H2 fun c H3 =>
      if c = true then te σ2 H3 fun v H4 => H4 D = some (.lst ys) ∧ ys.length < sizeLine ∧ Pv (i + 1) σ2 (ys ++ [v]) (upd H4 D (.lst (ys ++ [v]))) else Pv (i + 1) σ2 ys H3)
    (hd : ∀ σ ys H, Pv xs.length σ ys H → R H) :
    ∃ W : Nat → Nat → St → List V → Hp → Prop, (∃ m, W 0 m σ0 [] H0) ∧ ∀ i m σ ys H, W i m σ ys H →
      ((Itz K a b).stop i H ∧ R H) ∨ ((Itz K a b).go i H ∧ ∃ N : St → List V → Hp → Prop, (∀ σ' ys' H', N σ' ys' H' → ∃ m', m' < m ∧ W (i + 1) m' σ' ys' H') ∧ ∀ x H', (Itz K a b).yld i H x H' → g x σ H' fun σ2 H2 => tt σ2 H2 fun c H3 =>
        if c = true then te σ2 H3 fun v H4 => H4 D = some (.lst ys) ∧ ys.length < sizeLine ∧ N σ2 (ys ++ [v]) (upd H4 D (.lst (ys ++ [v]))) else N σ2 ys H3) := by
  refine ⟨fun i m σ ys H => m = xs.length - i ∧ i ≤ xs.length ∧ Pv i σ ys H, ⟨xs.length, by simp, Nat.zero_le _, h0⟩, ?_⟩
  rintro i m σ ys H ⟨rfl, hi, p⟩
  obtain ⟨q, q2⟩ := hl i σ ys H hi p
  by_cases hlt : i < xs.length
  · refine .inr ⟨⟨xs, xs[i], zs, zs[i]'(by omega), q, List.getElem?_eq_getElem hlt, q2, List.getElem?_eq_getElem _⟩, Pv (i + 1), fun σ' ys' H' p' => ⟨xs.length - (i + 1), by omega, rfl, hlt, p'⟩, fun v H' y => ?_⟩
    obtain ⟨t, x, z, hn, e1, e2, y1, y2⟩ := y
    subst e1 e2
    exact hs i x z σ ys _ t (y1 xs q) (y2 zs q2) hn p
  · have e : i = xs.length := by omega
    subst e
    exact .inl ⟨⟨xs, q, Nat.le_refl _⟩, hd σ ys H p⟩
end L2


set_option Elab.async false
set_option linter.all false
set_option maxRecDepth 100000
set_option maxHeartbeats 4000000
namespace L2
open PySem PySem.W PySem.Spec PySem.Calls PyProof.Rows
/-! ### a heap with some of its objects taken away -/
def lessObj (S : List Addr) (i : Nat) (o : Obj) : Obj := if i ∈ S then { o with data := .freed } else o
def less (h : Heap) (S : List Addr) : Heap := { h with objs := h.objs.mapIdx (lessObj S) }
theorem less_in {h : Heap} {S : List Addr} {b : Addr} (hb : b ∈ S) : (less h S).get? b = none := by
  unfold Heap.get? less
  simp only [Array.getElem?_mapIdx]
  cases e : h.objs[b]? with
  | none => rfl
  | some o =>
    simp only [Option.map_some, lessObj, if_pos hb]
theorem less_out {h : Heap} {S : List Addr} {b : Addr} (hb : b ∉ S) : (less h S).get? b = h.get? b := by
  unfold Heap.get? less
  simp only [Array.getElem?_mapIdx]
  cases e : h.objs[b]? with
  | none => rfl
  | some o =>
    simp only [Option.map_some, lessObj, if_neg hb]
theorem less_stays {h : Heap} {S : List Addr} : (less h S).StaysIn h := fun b o e => by
  by_cases hb : b ∈ S
  · rw [less_in hb] at e; cases e
  · rwa [less_out hb] at e
theorem less_funs {h base : Heap} {S : List Addr} : ∀ {l : List Env}, h.FunFrames base l → (∀ b ∈ frs l, b ∈ S) → h.FunFrames (less h S) l
  | [], _, _ => trivial
  | env :: r, ⟨hk, ⟨L, o, hf, hn, ho, hd⟩, hr⟩, hs => by
    have e : frs (env :: r) = L :: frs r := by unfold frs; rw [List.filterMap_cons, hf]
    rw [e] at hs
    exact ⟨hk, ⟨L, o, hf, less_in (hs L (by simp)), ho, hd⟩, less_funs hr fun b hb => hs b (by simp [hb])⟩
/-! ### how an exception lies behind a call -/
theorem ObjOk.some_ {P : Program} {w : World} {H : Hp} {h : Heap} {a : Addr} {o : HO} (x : ObjOk P w H h a o) : ∃ u, h.get? a = some u := by
  cases o with
  | lst xs => obtain ⟨_, _, _, _, e⟩ := x; exact ⟨_, e⟩
  | tup xs => obtain ⟨_, _, _, ob, e, _⟩ := x; exact ⟨_, e⟩
  | dK kvs => obtain ⟨_, _, _, _, o, _, _, e, _⟩ := x; exact ⟨_, e⟩
  | dT kvs => obtain ⟨_, _, _, _, o, _, _, e, _⟩ := x; exact ⟨_, e⟩
  | set S n => obtain ⟨o, _, _, _, e, _⟩ := x; exact ⟨_, e⟩
  | ins C dx fs => obtain ⟨_, _, _, e, _⟩ := x; exact ⟨_, e⟩
  | own y => exact x
  | xd fs => obtain ⟨_, ⟨_, _, _, e, _⟩, _⟩ := x; exact ⟨_, e⟩
  | rng lo hi => obtain ⟨_, _, _, e⟩ := x; exact ⟨_, e⟩
  | frz ob u => obtain ⟨e, _⟩ := x; exact ⟨_, e⟩
  | tbl ps => exact ⟨_, (show h.get? a = some _ from x)⟩
  | met f y => exact ⟨_, (show h.get? a = some _ from x)⟩
  | ext φ => exact x.2.1
/-- an own class of exceptions without an __init__ of its own, as the top has written it -/
structure XCls (K : PySem.W.Frag) (C : Addr) (bmB : List Value) (newId : String) : Prop where
  isIn : excIn K C bmB newId = true
theorem XCls.obj {K : PySem.W.Frag} {C : Addr} {bmB : List Value} {newId : String} {h₀ : Heap} (c : XCls K C bmB newId) (X : K.In h₀) : ∃ bm N nm q bs hdct sn sub ab col dd k0 k1 k2 k3 k5 mN,
      h₀.get? C = some (excClassObj nm q C N bs bm hdct sn sub ab col dd k0 k1 k2 k3 k5 newId) ∧ h₀.Ns N mN ∧ mN (Str.ofString "__init__") = none ∧ OwnTail h₀ bmB bm := by
  have q := c.isIn
  unfold excIn at q
  split at q
  · rename_i dd cd sl ho
    split at q
    · rename_i C' bm k0 k1 k2 k3 n k5 hm hs
      simp only [Bool.and_eq_true, beq_iff_eq, Bool.not_eq_true'] at q
      obtain ⟨⟨⟨⟨⟨rfl, rfl⟩, hdel⟩, ht⟩, hok⟩, hni⟩ := q
      obtain ⟨nm, bs, mro, ns, qn, hd, sn, sub, ab, col, del⟩ := cd
      dsimp only at hm hdel hok hni
      subst hm hdel
      have hsl : sl = #[k0, k1, k2, k3, some (.builtin n), k5] := by
        obtain ⟨l⟩ := sl
        simp only at hs
        rw [hs]
      subst hsl
      exact ⟨bm, ns, nm, qn, bs, hd, sn, sub, ab, col, dd, k0, k1, k2, k3, k5, _, X _ _ ho, .of_isNs (isNs_of_in X hok), nsMap_none_of_in X hok hni, tail_of_in X ht⟩
    · cases q
  · cases q
section
variable {P : Program} {w : World} {K : PySem.W.Frag} {mg : Str → Option Value} {base : Heap} {N : List Str} {qual : Str} {scope : Scope} {f : Addr} {cd : Value} {A : Around} {outer : List Env} {s₀ : Shared} {H₀ : Hp} {E : XK}
end
end L2


set_option Elab.async false
set_option linter.all false
set_option maxRecDepth 100000
set_option maxHeartbeats 4000000
namespace L2
open PySem PySem.W PySem.Spec PySem.Calls PyProof.Rows
/-- a def by its body, exceptions and all -/
theorem Fun.okX {P : Program} {w : World} {K : PySem.W.Frag} {mg : Str → Option Value} {base : Heap} {CX : CXT} {x qual : Str} {st : Stmt} {f : Addr} {fd : FuncData} {N ps : List Str} {k : Nat} {sp : Sp} (F : Fun K x qual st f fd) (S : FnScope N ps (defScope st)) (len : ∀ vs H Q E, sp vs H Q E → vs.length = ps.length)
    (hbody : ∀ (cdv : Value) (A : Around) (outer : List Env) (s : Shared) (H : Hp) (vs : List V) (Q : VK) (E : XK), Room k (A.deeper (envOfC qual (defScope st) s.heap.objs.size f cdv)) → sp vs H Q E →
      ∃ t, PSs (cxOf CX P w K mg base N qual (defScope st) f cdv A outer s H E) (defBody st) t ∧ t { nx := fun _ H' => Q .non H', rt := Q } (start N vs) H) : FnOk P w K mg base CX (k + 1) f fd ps sp := by
  obtain ⟨oc, od, kV, doc, pm, an, cdv, ct, osl, rfl, lk, hcd⟩ := F.ex
  exact fn_of lk hcd S len fun A outer s H vs Q E hr hsp => hbody cdv A outer s H vs Q E hr hsp
section
variable {X : Cx} {pins : List (Addr × Obj)} {σ : St}
/-- what flies stands apart from B: over another heap -/
theorem fly_less {B h : Heap} {l : List Env} {ea : Addr} {cls a0 : Value} (fly : B.FlyingW l ea cls a0 h) : ∃ T, B.get? ea = none ∧ B.get? T = none ∧ (less h (frs l ++ [ea, T])).FlyingW l ea cls a0 h := by
  obtain ⟨f1, f2, f3, oe, vs, T, oT, ts, g1, g2, g3, g4, g5, g6, g7, g8, g9⟩ := fly
  exact ⟨T, f2, g5, less_stays, less_in (by simp), less_funs f3 (fun b hb => by simp [hb]), oe, vs, T, oT, ts, g1, g2, g3, g4, less_in (by simp), g6, g7, g8, g9⟩
end
end L2


set_option Elab.async false
set_option linter.all false
set_option maxRecDepth 100000
set_option maxHeartbeats 4000000
namespace L2
open PySem PySem.W PySem.Spec PySem.Calls PyProof.Rows
section
variable {X : Cx} {pins : List (Addr × Obj)} {σ : St} {H : Hp} {s : Shared}
/-- a name is taken away again (behind an except suite) -/
theorem forget_ok {M : Model} {A : Around} {E : Value → Shared → Prop} {i : Nat} {x : Str} {pos : Pos} {Q : Unit → Shared → Prop} (I : Inv X pins σ H s) (hN : X.N.Nodup) (hi : X.N[i]? = some x) (hk : X.env.kindOf x = some .local)
    (h : ∀ s', Inv X pins (σ.set i none) H s' → Q () s') : wpAny M A (do bindName X.env x .none; unbindBehindTheSuite X.env x pos) Q E s := by
  obtain ⟨m, hn, hl⟩ := id I.loc
  have hcls : (X.env.scope.kind == .class || (X.env.scope.kind == .module && X.env.locals != X.env.globals)) = false := by rw [I.ok.kind]; rfl
  have hiσ : i < σ.length := by rw [I.len]; exact (List.getElem?_eq_some_iff.mp hi).1
  have cne := I.cne
  have tracked : ∀ {a : Addr} {h' : Heap}, (∃ o, s.heap.get? a = some o ∧ H a = none) → Heap.SameBut a s.heap h' → HOk X.prog X.w H h' := fun {a h'} ha hs b ob e => by
    obtain ⟨_, _, hfree⟩ := ha
    refine (I.hok b ob e).stay (fun c w' hc q => (hs.2 c ?_).trans q) (fun _ q => q) fun _ _ q => q
    rintro rfl
    rcases hc with rfl | hc
    · rw [hfree] at e; cases e
    · rw [hfree] at hc; cases hc
  refine wpAny_nameGoes_keeps hk hn hcls fun h' v hn' hs => ?_
  obtain ⟨oL, _, _, hoL, _⟩ := id hn
  refine h _ ⟨I.ok, I.os, I.bare, ⟨fun b o e n hb hx => ?_, fun b o e n hb hx => ?_, I.base.free, fun b o e hx => ?_, I.base.tups, I.base.frzs, I.base.tbls⟩, ⟨_, hn', fun j y v' e1 e2 e3 => ?_⟩, fun y c e => ?_, I.free, I.freeC, fun p hp => ?_, tracked ⟨oL, hoL, I.free⟩ hs, by simpa using I.len⟩
  · exact (hs.2 b (Nat.ne_of_lt (Nat.lt_of_lt_of_le (Heap.lt_size e) I.ok.above))).trans (I.base.keep b o e n hb hx)
  · obtain ⟨sl, e1⟩ := I.base.slot b o e n hb hx
    exact ⟨sl, (hs.2 b (Nat.ne_of_lt (Nat.lt_of_lt_of_le (Heap.lt_size e) I.ok.above))).trans e1⟩
  · obtain ⟨o', e1⟩ := I.base.there b o e hx
    exact ⟨o', (hs.2 b (Nat.ne_of_lt (Nat.lt_of_lt_of_le (Heap.lt_size e) I.ok.above))).trans e1⟩
  · by_cases hj : j = i
    · subst hj
      rw [List.getElem?_set_self hiσ] at e2
      cases e2
    · rw [List.getElem?_set_ne (Ne.symm hj)] at e2
      obtain ⟨u', r', q⟩ := hl j y v' e1 e2 e3
      refine ⟨u', r', ?_⟩
      rcases q with ⟨k, e⟩ | ⟨k, c, e, z⟩
      · refine .inl ⟨k, ?_⟩
        have : y ≠ x := fun e => hj (nodup_ix hN e1 (e ▸ hi))
        simp [this, e]
      · exact .inr ⟨k, c, e, z.sameBut hs (cne y c e)⟩
  · obtain ⟨w', z⟩ := I.cell y c e
    exact ⟨w', z.sameBut hs (cne y c e)⟩
  · obtain ⟨e, n, ne, nf, d⟩ := I.pin p hp
    exact ⟨(hs.2 p.1 ne).trans e, n, ne, nf, d⟩
/-- within an except suite, the exception at ea -/
abbrev Cx.inSuite (X : Cx) (ea : Addr) : Cx := { X with A := X.A.mark (some (.ref ea)), calm := false, xe := fun _ _ => False }
theorem Inv.suite (I : Inv X pins σ H s) (ea : Addr) : Inv (X.inSuite ea) pins σ H s :=
  ⟨⟨I.ok.mod, I.ok.kind, I.ok.glob, I.ok.blt, I.ok.above, I.ok.inj, I.ok.has, I.ok.cab, (fun z => by cases z), I.ok.frames, I.ok.stk, I.ok.exf, I.ok.bs, I.ok.bsz, I.ok.noex, I.ok.exfs, I.ok.funs, I.ok.frf⟩, I.os, I.bare, I.base, I.loc, I.cell, I.free, I.freeC, I.pin, I.hok, I.len⟩
theorem Inv.unsuite {ea : Addr} (ok : X.Ok) (I : Inv (X.inSuite ea) pins σ H s) : Inv X pins σ H s := ⟨ok, I.os, I.bare, I.base, I.loc, I.cell, I.free, I.freeC, I.pin, I.hok, I.len⟩
end
end L2


set_option Elab.async false
set_option linter.all false
set_option maxRecDepth 100000
set_option maxHeartbeats 4000000
namespace L2
open PySem PySem.W PySem.Spec PySem.Calls PyProof.Rows
/-- the ends of an except suite: the name at i goes -/
def Ends.less (D : Ends) (i : Nat) : Ends := { nx := fun σ H => D.nx (σ.set i none) H, rt := D.rt, bk := fun σ H => D.bk (σ.set i none) H, ct := fun σ H => D.ct (σ.set i none) H }
section
variable {X : Cx} {k : Nat} {f C cR : Addr} {fd : FuncData} {ps : List Str} {sp : Sp} {dvs : List V} {ds : List Value} {x m n : Str} {np pos apos p2 p3 p4 : Pos} {o : Expr} {ta : TE} {ts : TS} {i : Nat} {b₀ : Stmt} {suite : List Stmt} {L : Addr}
end
end L2


set_option Elab.async false
set_option linter.all false
set_option maxRecDepth 100000
set_option maxHeartbeats 4000000
namespace L2
open PySem PySem.W PySem.Spec PySem.Calls PyProof.Rows PySem.Builtin PySem.Builtin.ObjectAttr PySem.Builtin.Getset_descriptor
section
variable {prog : Program} {w : World} {A : Around} {E : Value → Shared → Prop} {s : Shared} {K : PySem.W.Frag} {x C : Addr}
/-- what the top tells of a class of exceptions, for reading __class__ -/
structure XRead (K : PySem.W.Frag) (C : Addr) : Prop where
  ga : findIn K (.ref C) "__getattribute__" = some (some (.builtin "BaseException.__getattribute__"))
  gh : findIn K (.ref C) "__getattr__" = some none
  cl : findIn K (.ref C) "__class__" = some (some (.builtin "object.__class__"))
  gt : specialIn K (.builtin "object.__class__") "__get__" = some (some (.builtin "getset_descriptor.__get__"))
  tk : takesIn K (.builtin "object.__class__") = some true
  ob : mroIn K C (.type "object") = some true
  bx : mroIn K C (.type "BaseException") = some true
  ci : (clsIn K C).isSome = true
theorem check_exc {M : Model} {nameV : Value} {Q : Unit → Shared → Prop} (L0 : Looks M s.heap (typeOf (.ref x)) (.ref C)) (L3 : Looks M s.heap (isSubtype (.ref C) (.type "BaseException")) true) (hq : Q () s) : wpAny M A (checkBuiltinCall "BaseException.__getattribute__" ⟨[.ref x, nameV], []⟩) Q E s := by
  have hk : builtinKind "BaseException.__getattribute__" = some .slot := by decide +kernel
  have hsplit : splitId "BaseException.__getattribute__" = some ("BaseException", "__getattribute__") := by decide +kernel
  have ha := F.args_bexc_ga (.ref x) nameV
  obtain ⟨hh, g, d, t, os⟩ := s
  simp only [checkBuiltinCall, hk, hsplit]
  refine wpAny_bind ?_
  · unfold isInstance
    repeat (first | lk | wp_step)
    exact hq
end
end L2


set_option Elab.async false
set_option linter.all false
set_option maxRecDepth 100000
set_option maxHeartbeats 4000000
namespace L2
open PySem PySem.W PySem.Spec PySem.Calls PyProof.Rows
section
variable {X : Cx} {C : Addr} {Bn : String}
end
end L2


set_option Elab.async false
set_option linter.all false
set_option maxRecDepth 100000
set_option maxHeartbeats 4000000
namespace L2
open PySem PySem.W PySem.Spec PySem.Calls PyProof.Rows
/-! ### exceptions with attributes of their own: their dict stays while they fly -/
def Dct (h : Heap) (e : Addr) (od : Option Addr) : Prop := ∃ o, h.get? e = some o ∧ o.dict = od
theorem dict_mapFields (o : Obj) (f : Array Value → Array Value) : (Obj.mapFields f o).dict = o.dict := by
  unfold Obj.mapFields
  split <;> rfl
section
variable {M : Model} {A : Around} {XE : Value → Shared → Prop} {s : Shared} {B : Heap} {env : Env} {outer l : List Env} {L e : Addr} {cls a0 fl : Value} {od : Option Addr} {Q : Unit → Shared → Prop}
theorem noRec {h : Heap} {e b : Addr} {oe o : Obj} {vs : Array Value} (he : h.get? e = some oe) (hd : oe.data = .fields vs) (hb : h.get? b = some o) (n : ∀ vs, o.data ≠ .fields vs) : b ≠ e := fun z => by
  subst z
  cases he.symm.trans hb
  exact n vs hd
theorem entryD {oe : Obj} {vs : Array Value} {head : Value} {hn : Bool} (fr : A.frames = some (env :: outer)) (fu : s.heap.FunFrames B (env :: outer)) (hf : env.frame = some L) (he : s.heap.get? e = some oe) (st : B.StaysIn s.heap) (ne : B.get? e = none)
    (hd : oe.data = .fields vs) (sz : 1 < vs.size) (h0 : vs[0]? = some a0) (k : ∀ h', Heap.NotedW B (env :: outer) e oe.cls a0 (rawInt L) s.heap h' → Dct h' e oe.dict → Q () { s with heap := h' }) :
    wpAny M A (do
      let a ← frameOf env
      let pl ← entryPlaceOf L hn
      let b ← EntryCells.newEntry head a .none (rawInt L) .none pl
      setField (.ref e) 1 b) Q XE s := by
  have nf : e ∉ frs (env :: outer) := fun z => by
    obtain ⟨_, o, ho, n⟩ := fu.mem z
    cases he.symm.trans ho
    exact n vs hd
  refine wpAny_bind (wpAny_frameOf_fun fr fu hf fun g kg => ?_)
  have e1 : g.get? e = some oe := (kg.2.1 e nf).trans he
  have key : ∀ (tb : Obj) (ts : Array Value), tb.data = .fields ts → ts[3]? = some (rawInt L) → wpAny M A (setField (.ref e) 1 (.ref g.objs.size)) Q XE { s with heap := g.push tb } := fun tb ts td t3 => by
    have e2 := Heap.get?_push_of_some tb e1
    have nT : g.objs.size ≠ e := Nat.ne_of_gt (Heap.lt_size e1)
    have d3 := Obj.data_mapFields hd (·.setIfInBounds 1 (Value.ref g.objs.size))
    have e3 := Heap.get?_update_self (Obj.mapFields (·.setIfInBounds 1 (Value.ref g.objs.size))) e2 (Obj.isFreed_of_fields d3)
    have hT : (g.push tb).get? g.objs.size = some tb := Heap.get?_push_size g (Obj.isFreed_of_fields td)
    have hT3 := (Heap.get?_update_other (g.push tb) (Obj.mapFields (·.setIfInBounds 1 (Value.ref g.objs.size))) nT.symm).trans hT
    have keep : ∀ b o, b ≠ e → g.get? b = some o → ((g.push tb).update e (Obj.mapFields (·.setIfInBounds 1 (Value.ref g.objs.size)))).get? b = some o := fun b o n hb => (Heap.get?_update_other _ _ n.symm).trans (Heap.get?_push_of_some _ hb)
    have stg : B.StaysIn g := fun b o hb => (kg.2.1 b fun z => by
      have := (fu.mem z).1
      rw [hb] at this
      cases this).trans (st b o hb)
    refine wpAny_setField e2 hd sz (k _ ⟨fun b o hb => keep b o (fun z => by rw [z, ne] at hb; cases hb) (stg b o hb), fu.of_keeps fun b o hb n => ?_, ?_, fun b o hb n => ?_⟩ ⟨_, e3, dict_mapFields _ _⟩)
    · obtain ⟨sl, hs⟩ := kg.2.2 b o hb
      exact ⟨_, keep b _ (noRec he hd hb n) hs, rfl⟩
    · exact ⟨_, _, g.objs.size, _, _, e3, ⟨Obj.cls_mapFields _ _, by rw [Array.getElem?_setIfInBounds_ne (by decide)]; exact h0⟩, d3, by simp [sz], stg.fresh, nT, hT3, td, t3⟩
    · obtain ⟨sl, hs⟩ := kg.2.2 b o hb
      exact ⟨sl, keep b _ (noRec he hd hb n) hs⟩
  refine wpAny_bind (wpAny_entryPlaceOf fun pl hp => ?_)
  unfold EntryCells.newEntry newFields
  refine wpAny_bind (wpAny_newObj_type ?_ (hp.sizeOk5 _ _ _ _ _))
  exact key _ _ rfl (by first | (simp; done) | (rcases hp with rfl | ⟨_, _, _, _, _, _, _, rfl⟩ <;> simp))
theorem noteFirstD {oe : Obj} {vs : Array Value} (fr : A.frames = some (env :: outer)) (fu : s.heap.FunFrames B (env :: outer)) (hf : env.frame = some L) (he : s.heap.get? e = some oe) (st : B.StaysIn s.heap) (ne : B.get? e = none)
    (hd : oe.data = .fields vs) (h1 : vs[1]? = some .none) (h0 : vs[0]? = some a0) (k : ∀ h', Heap.NotedW B (env :: outer) e oe.cls a0 (rawInt L) s.heap h' → Dct h' e oe.dict → Q () { s with heap := h' }) :
    wpAny M A (noteFrame (.ref e) env) Q XE s := by
  unfold noteFrame
  simp only [hf]
  refine wpAny_bind (wpAny_field he hd h1 ?_)
  rw [if_neg (by decide)]
  exact entryD fr fu hf he st ne hd (Array.getElem?_eq_some_iff.mp h1).1 h0 k
theorem noteNextD (fr : A.frames = some (env :: outer)) (hf : env.frame = some L) (fly : B.FlyingW (env :: outer) e cls a0 s.heap) (dc : Dct s.heap e od)
    (k : ∀ h', Heap.NotedW B (env :: outer) e cls a0 (rawInt L) s.heap h' → Dct h' e od → Q () { s with heap := h' }) : wpAny M A (noteFrame (.ref e) env) Q XE s := by
  obtain ⟨st, ne, fu, oe, vs, T, oT, ts, he, ⟨hc, h0⟩, hd, h1, nT, Te, hT, dT, h3⟩ := fly
  subst hc
  obtain ⟨oe', he', hod⟩ := dc
  cases he.symm.trans he'
  subst hod
  unfold noteFrame
  simp only [hf]
  refine wpAny_bind (wpAny_field he hd h1 ?_)
  rw [if_pos (by simp)]
  refine wpAny_bind (wpAny_field hT dT h3 ?_)
  rw [if_neg (by simp [rawInt])]
  refine wpAny_bind (wpAny_setField hT dT (Array.getElem?_eq_some_iff.mp h3).1 ?_)
  have oth : ∀ b, b ≠ T → (s.heap.update T (Obj.mapFields (·.setIfInBounds 3 Value.none))).get? b = s.heap.get? b := fun b n => Heap.get?_update_other _ _ n.symm
  refine entryD fr (fu.of_keeps fun b o hb n => ⟨o, (oth b (noRec hT dT hb n)).trans hb, rfl⟩) hf ((oth e Te.symm).trans he) (fun b o hb => (oth b fun z => by
    rw [z, nT] at hb
    cases hb).trans (st b o hb)) ne hd (Array.getElem?_eq_some_iff.mp h1).1 h0 fun h' q q2 => k h' ⟨q.1, q.2.1, q.2.2.1, fun b o hb n => q.2.2.2 b o ((oth b (noRec hT dT hb n)).trans hb) n⟩ q2
theorem flightD (st : B.StaysIn s.heap) (fu : s.heap.FunFrames B l) (tr : s.heap.TracedAtW B e cls a0 fl) (dc : Dct s.heap e od)
    (k : ∀ h', B.StaysIn h' → h'.FunFrames B l → h'.TracedW B e cls a0 → (∀ b o, s.heap.get? b = some o → (∀ vs, o.data ≠ .fields vs) → h'.get? b = some o) → Dct h' e od → Q () { s with heap := h' }) : wpAny M A (setFlight (.ref e) none) Q XE s := by
  obtain ⟨oe, vs, T, oT, ts, he, hc, hd, h1, nT, Te, hT, dT, h3⟩ := tr
  obtain ⟨oe', he', hod⟩ := dc
  cases he.symm.trans he'
  have sz : 3 < ts.size := (Array.getElem?_eq_some_iff.mp h3).1
  have oth : ∀ b, b ≠ T → (s.heap.update T (Obj.mapFields (·.setIfInBounds 3 ((none : Option Addr).elim Value.none fun f => rawInt f)))).get? b = s.heap.get? b := fun b n => Heap.get?_update_other _ _ n.symm
  unfold setFlight
  refine wpAny_bind (wpAny_field he hd h1 ?_)
  rw [if_pos (by simp)]
  refine wpAny_setField hT dT sz (k _ (fun b o hb => (oth b fun z => by
    rw [z, nT] at hb
    cases hb).trans (st b o hb)) (fu.of_keeps fun b o hb n => ⟨o, (oth b (noRec hT dT hb n)).trans hb, rfl⟩) ?_ (fun b o hb n => (oth b (noRec hT dT hb n)).trans hb) ⟨oe, (oth e Te.symm).trans he, hod⟩)
  exact ⟨oe, vs, T, _, _, (oth e Te.symm).trans he, hc, hd, h1, nT, Te, Heap.get?_update_self _ hT (Obj.isFreed_of_fields (Obj.data_mapFields dT _)), Obj.data_mapFields dT _, by simp [sz]⟩
/-- it leaves the frame in which it was made -/
theorem leavesD {oe : Obj} {vs : Array Value} (fr : A.frames = some (env :: outer)) (fu : s.heap.FunFrames B (env :: outer)) (hf : env.frame = some L) (he : s.heap.get? e = some oe) (st : B.StaysIn s.heap) (ne : B.get? e = none)
    (hd : oe.data = .fields vs) (h1 : vs[1]? = some .none) (h0 : vs[0]? = some a0) (k : ∀ h', B.FlyingW outer e oe.cls a0 h' → s.heap.UpToSlots h' → Dct h' e oe.dict → Q () { s with heap := h' }) : wpAny M A (leaving env (.ref e)) Q XE s := by
  unfold leaving
  refine wpAny_bind (noteFirstD fr fu hf he st ne hd h1 h0 fun h1 q dc => ?_)
  exact flightD (s := { s with heap := h1 }) q.1 q.2.1 q.2.2.1 dc fun h2 a b c d dc2 => k h2 ⟨a, ne, b.2.2, c⟩ (Heap.UpToSlots.trans q.2.2.2 fun b o hb n => ⟨o.slots, d b o hb n⟩) dc2
/-- it comes to a try, and lands -/
theorem looksD (fr : A.frames = some (env :: outer)) (hf : env.frame = some L) (fly : B.FlyingW (env :: outer) e cls a0 s.heap) (dc : Dct s.heap e od)
    (k : ∀ h', B.HeldW (env :: outer) e cls a0 L h' → s.heap.UpToSlots h' → Dct h' e od → Q () { s with heap := h' }) : wpAny M A (noteFrame (.ref e) env) Q XE s :=
  noteNextD fr hf fly dc fun h1 q dc => k h1 ⟨q.1, fly.2.1, q.2.1, q.2.2.1⟩ q.2.2.2 dc
theorem landsD (h : B.HeldW l e cls a0 L s.heap) (dc : Dct s.heap e od) (k : ∀ h', B.FlyingW l e cls a0 h' → s.heap.UpToSlots h' → Dct h' e od → Q () { s with heap := h' }) : wpAny M A (setFlight (.ref e) none) Q XE s :=
  flightD h.1 h.2.2.1 h.2.2.2 dc fun h2 a b c d dc2 => k h2 ⟨a, h.2.1, b, c⟩ (fun b o hb n => ⟨o.slots, d b o hb n⟩) dc2
theorem againD (h : B.FlyingW l e cls a0 s.heap) (dc : Dct s.heap e od) (k : ∀ h', B.FlyingW l e cls a0 h' → s.heap.UpToSlots h' → Dct h' e od → Q () { s with heap := h' }) : wpAny M A (setFlight (.ref e) none) Q XE s :=
  flightD h.1 h.2.2.1 h.2.2.2.at dc fun h2 a b c d dc2 => k h2 ⟨a, h.2.1, b, c⟩ (fun b o hb n => ⟨o.slots, d b o hb n⟩) dc2
end
end L2


set_option Elab.async false
set_option linter.all false
set_option maxRecDepth 100000
set_option maxHeartbeats 4000000
namespace L2
open PySem PySem.W PySem.Spec PySem.Calls PyProof.Rows
/-! ### own exceptions with an __init__ of their own: made, told of, written to, read -/
abbrev vmVE : List Value := [.type "ValueError", .type "Exception", .type "BaseException", .type "object"]
/-- an exception's object, its arguments at t -/
abbrev eO (C t : Addr) (od : Option Addr) : Obj := { cls := .ref C, dict := od, data := .fields #[.ref t, .none, .none, .none, .bool false, .none] }
/-- the class C, an own one right under the own class R, that under ValueError; its __init__ is its own, R has none -/
structure XIni (K : PySem.W.Frag) (C R fI : Addr) : Prop where
  lk : ∃ dd nm bs ns qn sn sub ab col k0 k1 k2 k3 k5, K.lookup C = some ⟨.type "type", dd, .cls ⟨nm, bs, .ref C :: .ref R :: vmVE, ns, qn, true, sn, sub, ab, col, false⟩, #[k0, k1, k2, k3, some (.builtin "ValueError.__new__"), k5]⟩
  ini : findIn K (.ref C) "__init__" = some (some (.ref fI))
  fn : typeIn K (.ref fI) = some (.type "function")
  row : XCls K R vmVE "ValueError.__new__"
  rtl : mroIn K R (.type "object") = some true
  sa : findIn K (.ref C) "__setattr__" = some (some (.builtin "object.__setattr__"))
  na : takerIn K C "at" = some none
  nat : findIn K (.ref C) "at" = some none
  hd : hasDictIn K C = true
  rd : XRead K C
  sg : specialIn K (.ref R) "__getattribute__" = some (some (.builtin "type.__getattribute__"))
  rr : readsIn K R (.type "type") = true
  fi : findCls K (.ref R) (.type "type") "__init__" = some (.val (.builtin "ValueError.__init__"))
section
variable {K : PySem.W.Frag} {C R fI : Addr} {h : Heap}
theorem XIni.obj (c : XIni K C R fI) (X : K.In h) : ∃ N nm q bs sn sub ab col dd k0 k1 k2 k3 k5, h.get? C = some (excClassObj nm q C N bs (.ref R :: vmVE) true sn sub ab col dd k0 k1 k2 k3 k5 "ValueError.__new__") := by
  obtain ⟨dd, nm, bs, ns, qn, sn, sub, ab, col, k0, k1, k2, k3, k5, e⟩ := c.lk
  exact ⟨ns, nm, qn, bs, sn, sub, ab, col, dd, k0, k1, k2, k3, k5, X _ _ e⟩
theorem XIni.tail (c : XIni K C R fI) (X : K.In h) : OwnTail h vmVE (.ref R :: vmVE) := by
  obtain ⟨bm, N, nm, q, bs, hdct, sn, sub, ab, col, dd, k0, k1, k2, k3, k5, mN, hR, hN, hni, _⟩ := c.row.obj X
  exact .own hR hN hni .base
variable {prog : Program} {w : World} {A : Around} {XE : Value → Shared → Prop} {s : Shared}
theorem type_call_ini (c : XIni K C R fI) (X : K.In s.heap) {rest : List Value} {Q : Fin → Shared → Prop} (hz : rest.length ≤ sizeLine)
    (k : wpAny (model prog w) A (call (.ref fI) (.ref (s.heap.objs.size + 1) :: rest)) (fun r s' => r = .none ∧ Q (.done (.ret (.ref (s.heap.objs.size + 1)))) s') XE { s with heap := (s.heap.push { cls := .type "tuple", data := .seq rest.toArray }).push (eO C s.heap.objs.size none) }) :
    wpAny (model prog w) A (Builtin.«type.__call__» ⟨.ref C :: rest, []⟩) Q XE s := by
  obtain ⟨N, nm, q, bs, sn, sub, ab, col, dd, k0, k1, k2, k3, k5, hC⟩ := c.obj X
  have T := c.tail X
  have F := PySem.F.excBase_ValueError
  obtain ⟨h, g, d, t, os⟩ := s
  dsimp only at hC T X k ⊢
  repeat (first | with_reducible refine wpAny_loadPart_at hC ?_ | with_reducible refine wpAny_madeBy_exc hC ?_ | wp_step)
  refine codeAny_call_builtin_code (Code.quiet_builtin _ F.quiet) (wpAny_check_new_subT F T hC ?_)
  refine codeAny_exc_new_subT F T hC ?_ hz
  show wpAny _ _ _ _ _ _
  have kp : ∀ b o, h.get? b = some o → ((h.push { cls := .type "tuple", data := .seq rest.toArray }).push (eO C h.objs.size none)).get? b = some o := fun b o e => Heap.get?_push_of_some _ (Heap.get?_push_of_some _ e)
  have X1 := X.keeps kp
  have hC1 := kp _ _ hC
  have he : ((h.push { cls := .type "tuple", data := .seq rest.toArray }).push (eO C h.objs.size none)).get? (h.objs.size + 1) = some (eO C h.objs.size none) := by heap_get
  have hcC : (Value.ref C :: .ref R :: vmVE).contains (.ref C) = true := by simp
  unfold isInstance
  repeat (first | with_reducible refine wpAny_loadPart_at he ?_ | (with_reducible refine wpAny_isSubtype_exc hC1 ?_; rw [hcC]) | wp_step)
  show wpAny _ _ (typeLookup (.ref C) _) _ _ _
  refine (looks_findIn X1 c.ini).here ?_
  refine wpAny_holding (wpAny_bind ?_)
  unfold bindSpecial
  refine wpAny_bind ((looks_typeIn X1 c.fn).here ?_)
  rw [if_pos (by decide)]
  refine wpAny_pure (wpAny_bind (wpAny_mono k (fun r s' hr => ?_) fun _ _ x => x))
  obtain ⟨rfl, hQ⟩ := hr
  wp_walk
  exact hQ
theorem call_ini (c : XIni K C R fI) (X : K.In s.heap) {rest : List Value} {Q : Value → Shared → Prop} (hz : rest.length ≤ sizeLine)
    (k : wpAny (model prog w) (A.under (.builtin "type.__call__" ⟨.ref C :: rest, []⟩)) (call (.ref fI) (.ref (s.heap.objs.size + 1) :: rest)) (fun r s' => r = .none ∧ Q (.ref (s.heap.objs.size + 1)) s') XE { s with heap := (s.heap.push { cls := .type "tuple", data := .seq rest.toArray }).push (eO C s.heap.objs.size none) }) :
    wpAny (model prog w) A (call (.ref C) rest) Q XE s := by
  obtain ⟨N, nm, q, bs, sn, sub, ab, col, dd, k0, k1, k2, k3, k5, hC⟩ := c.obj X
  have f1 := tc_lookup
  have f2 := tc_bind (.ref C)
  have hT : s.TypeIs (.ref C) "type" := ⟨_, hC, rfl⟩
  refine wpAny_call (codeAny_of_tree ?_)
  show wpAny _ _ (callAny (.ref C) _) _ _ _
  have k2 := fun Q' k' => type_call_ini (prog := prog) (w := w) (A := A.under (.builtin "type.__call__" ⟨.ref C :: rest, []⟩)) (XE := XE) c X (rest := rest) (Q := Q') hz k'
  obtain ⟨h, g, d, t, os⟩ := s
  dsimp only at hC hT X k k2 ⊢
  repeat (any_goals (first | assumption | with_reducible refine wpAny_loadPart_at hC ?_ | wp_step))
  refine ⟨rfl, ?_⟩
  exact codeAny_call_builtin_at (Code.quiet_builtin _ (by decide +kernel)) entry_typeCall (wpAny_check_type_call_sub hC (k2 _ k))
theorem base_ini (c : XIni K C R fI) (X : K.In s.heap) {e t : Addr} {m : Value} {Q : Value → Shared → Prop} (he : s.heap.get? e = some (eO C t none))
    (k : ∀ h', (∀ b o, b ≠ e → s.heap.get? b = some o → h'.get? b = some o) → h'.get? e = some (eO C s.heap.objs.size none) → Q .none { s with heap := h' }) :
    wpAny (model prog w) A (call (.builtin "ValueError.__init__") [.ref e, m]) Q XE s := by
  obtain ⟨N, nm, q, bs, sn, sub, ab, col, dd, k0, k1, k2, k3, k5, hC⟩ := c.obj X
  have T := c.tail X
  have F := PySem.F.excBase_ValueError
  obtain ⟨h, g, d, tk, os⟩ := s
  dsimp only at hC T X k he ⊢
  refine wpAny_call (codeAny_call_builtin F.init.plain F.initEntry (wpAny_check_init_subT F T hC he rfl ?_))
  have he2 := Heap.get?_push_of_some { cls := .type "tuple", data := .seq #[m] } he
  repeat (first | with_reducible refine wpAny_setField he2 rfl (by decide) ?_ | wp_step)
  refine k _ (fun b o n hb => ?_) ?_
  · rw [Heap.get?_update_other _ _ (Ne.symm n)]
    exact Heap.get?_push_of_some _ hb
  · rw [Heap.get?_update_self _ he2 rfl]
    rfl
/-- x.at = v, the first attribute of an own exception -/
theorem set_at (c : XIni K C R fI) (X : K.In s.heap) {e t : Addr} {v : Value} {Q : Unit → Shared → Prop} (he : s.heap.get? e = some (eO C t none))
    (k : ∀ h' tk', (∀ b o, b ≠ e → s.heap.get? b = some o → h'.get? b = some o) → h'.get? e = some (eO C t (some s.heap.objs.size)) → h'.Ns1 s.heap.objs.size (fun y => if y = "at" then some v else none) → Q () { s with heap := h', toks := tk' }) :
    wpAny (model prog w) A (setAttr (.ref e) "at" v) Q XE s := by
  obtain ⟨N, nm, q, bs, sn, sub, ab, col, dd, k0, k1, k2, k3, k5, hC⟩ := c.obj X
  have SF := PySem.F.store_ValueError
  have J : InstAt s.heap e (eO C t none) C none := ⟨he, rfl, rfl, True.intro⟩
  refine set_plain X J c.sa ?_
  have hm : Looks (model prog w) s.heap (mroOf (.ref C)) (.ref C :: .ref R :: vmVE) := (Looks.ld hC).andThen .now
  have sub' : Looks (model prog w) s.heap (isInstance (.ref e) (.type "object")) true := J.type.andThen (looks_mroIn X c.rd.ob)
  refine codeAny_call_builtin SF.slot.plain SF.entry (@check_slot (model prog w) _ _ { s with toks := s.toks + 1 } "object.__setattr__" "object" "__setattr__" (.ref e) [.str "at" s.toks, v] [] _ SF.kind SF.split sub' (SF.args (.ref e) (.str "at" s.toks) v) ?_)
  rw [osa_eq, refuse_eq]
  refine wpAny_bind (wpAny_bind (Looks.here (s := { s with toks := s.toks + 1 }) J.type (wpAny_bind (Looks.here (s := { s with toks := s.toks + 1 }) hm ?_))))
  rw [refuseLoop_ref, refuseLoop_ref, SF.passes]
  refine wpAny_pure (wpAny_bind (Looks.here (s := { s with toks := s.toks + 1 }) J.type (wpAny_bind (Looks.here (s := { s with toks := s.toks + 1 }) (looks_findIn X c.nat) ?_))))
  refine wpAny_bind (wpAny_pure ?_)
  have hc : clsIn K C = some ⟨nm, bs, .ref C :: .ref R :: vmVE, N, q, true, sn, sub, ab, col, false⟩ := by
    obtain ⟨dd', nm', bs', ns', qn', sn', sub', ab', col', k0', k1', k2', k3', k5', e'⟩ := c.lk
    have := X _ _ e'
    rw [hC] at this
    cases this
    unfold clsIn
    rw [e']
  refine wpAny_bind (wpAny_pure (wpAny_bind (wpAny_bind (wpAny_loadPart he (wpAny_bind (Looks.here (s := { s with toks := s.toks + 1 }) (looks_clsIn X hc) ?_))))))
  rw [if_neg (by simp)]
  show wpAny _ _ (if (!true || !typeHasDict (Value.ref C)) = true then pure none else _) _ _ _
  rw [if_neg (by simp [typeHasDict])]
  have hs0 : e ≠ s.heap.objs.size := Nat.ne_of_lt (Heap.lt_size he)
  have he1 := Heap.get?_push_of_some { cls := .type "dict", data := .dict #[] } he
  refine wpAny_bind (wpAny_alloc' ?_)
  refine wpAny_bind (wpAny_update' he1 ?_)
  refine wpAny_pure ?_
  have he2 : ((s.heap.push { cls := .type "dict", data := .dict #[] }).update e fun o => { cls := o.cls, dict := some s.heap.objs.size, data := o.data, slots := o.slots }).get? e = some (eO C t (some s.heap.objs.size)) := Heap.get?_update_self _ he1 rfl
  have hd2 : ((s.heap.push { cls := .type "dict", data := .dict #[] }).update e fun o => { cls := o.cls, dict := some s.heap.objs.size, data := o.data, slots := o.slots }).get? s.heap.objs.size = some { cls := .type "dict", data := .dict #[] } :=
    (Heap.get?_update_ne _ _ _ _ hs0.symm).trans (Heap.get?_push_at rfl rfl)
  have kp : ∀ b o, b ≠ e → s.heap.get? b = some o → ((s.heap.push { cls := .type "dict", data := .dict #[] }).update e fun o => { cls := o.cls, dict := some s.heap.objs.size, data := o.data, slots := o.slots }).get? b = some o := fun b o n hb =>
    (Heap.get?_update_ne _ _ _ _ n).trans (Heap.get?_push_of_some _ hb)
  generalize ((s.heap.push { cls := .type "dict", data := .dict #[] }).update e fun o => { cls := o.cls, dict := some s.heap.objs.size, data := o.data, slots := o.slots }) = h2 at he2 hd2 kp ⊢
  have nd : h2.Ns s.heap.objs.size (fun _ => none) := ⟨_, #[], _, hd2, rfl, fun e he => absurd he (by simp), fun _ => rfl⟩
  show wpAny _ _ (Builtin.ObjectAttr.storeInDict s.heap.objs.size (.str "at" s.toks) "at" v) _ _ _
  unfold Builtin.ObjectAttr.storeInDict Builtin.ObjectAttr.newKeyGuard
  refine wpAny_bind (wpAny_pure (wpAny_bind (wpAny_nsSet1 (Heap.Ns1.of_empty nd) fun h3 hn3 hs3 => ?_)))
  obtain ⟨oD, esD, epD, hoD, hdD, hcD⟩ := hn3.count (Within.cons "at" v Within.nil)
  refine wpAny_bind (wpAny_lookBehind hoD (by rw [hdD]; exact pastItsLine_dict (Nat.le_trans hcD (by rw [List.length_cons, List.length_nil, sizeLine_eq]; omega))) ?_)
  refine wpAny_pure ?_
  exact k h3 _ (fun b o n hb => (hs3.2 b (Nat.ne_of_lt (Heap.lt_size hb))).trans (kp b o n hb)) ((hs3.2 e hs0).trans he2) hn3
/-- x.at of an own exception, caught or not -/
theorem get_at (c : XIni K C R fI) (X : K.In s.heap) {e d : Addr} {o : Obj} {mA : Str → Option Value} {v : Value} {expr : Bool} {Q : Value → Shared → Prop} (he : s.heap.get? e = some o) (hcl : o.cls = .ref C) (hnc : notCls o = true) (hd : o.dict = some d) (hn : s.heap.Ns1 d mA) (hv : mA "at" = some v) (hh : handedIn v = true)
    (k : Q v { s with toks := s.toks + 1 }) : wpAny (model prog w) A (getAttr (.ref e) "at" expr) Q XE s := by
  obtain ⟨od, hod, hl⟩ := lookIn_ns hn
  have J : InstAt s.heap e o C (some od) := ⟨he, hcl, hnc, by rw [hd]; exact hod⟩
  have hf : findObj K C (some od) "at" = some (.value v) := findObj_own c.hd c.nat rfl (by rw [hl, hv])
  have L0 := J.type (M := model prog w)
  have L1 := looks_findIn (M := model prog w) X c.rd.ga
  have L2 := looks_findIn (M := model prog w) X c.rd.gh
  have L3 := looks_mroIn (M := model prog w) X c.rd.bx
  have L4 := looks_find (M := model prog w) X J hf
  have FB := PySem.F.attr_ValueError
  obtain ⟨h, g, dr, tk, os⟩ := s
  dsimp only at X L0 L1 L2 L3 L4 k ⊢
  unfold getAttr getAttrBy
  refine wpAny_bind (wpAny_mkText (wpAny_holding (wpAny_bind (L0.at (wpAny_bind (L1.at ?_))))))
  show wpAny _ _ (getAttrByItsOwn _ _ _ _ _ _) _ _ _
  unfold getAttrByItsOwn hookBefore
  rw [if_pos (show onTheHeap (Value.ref C) = true from rfl)]
  refine wpAny_bind (L2.at (wpAny_bind (wpAny_attempt (wpAny_holding ?_))))
  unfold callGetattribute
  rw [show (expr && onTheHeap (Value.builtin "BaseException.__getattribute__")) = false from Bool.and_false _, if_neg (by decide)]
  unfold boundAndCalled
  rw [FB.ga.bind (.ref e)]
  refine wpAny_bind (wpAny_pure (wpAny_call ?_))
  refine codeAny_call_builtin FB.ga.plain PySem.F.entry_bexc_ga ?_
  refine check_exc L0 L3 ?_
  unfold Builtin.«object.__getattribute__»
  refine wpAny_bind (wpAny_pure (wpAny_bind (wpAny_pure (wpAny_bind (L0.here (wpAny_bind (L4.here ?_)))))))
  refine wpAny_pure ?_
  show wpAny _ _ (handedOut v) _ _ _
  rw [handedOut_of hh]
  exact wpAny_pure k
end
end L2


set_option Elab.async false
set_option linter.all false
set_option maxRecDepth 100000
set_option maxHeartbeats 4000000
namespace L2
open PySem PySem.W PySem.Spec PySem.Calls PyProof.Rows
/-- an own exception being made: as yet without attributes, or with the dict d -/
def excM (e C : Addr) : HO := .ext fun h => ∃ t, h.get? e = some (eO C t none)
def excN (e C d : Addr) : HO := .ext fun h => ∃ t, h.get? e = some (eO C t (some d))
theorem excM_ok {P : Program} {w : World} {H : Hp} {h : Heap} {e C t : Addr} (x : h.get? e = some (eO C t none)) : ObjOk P w H h e (excM e C) :=
  ⟨⟨t, x⟩, ⟨_, x⟩, fun h1 h2 ⟨t', a⟩ k => ⟨t', k _ a⟩⟩
theorem excN_ok {P : Program} {w : World} {H : Hp} {h : Heap} {e C t d : Addr} (x : h.get? e = some (eO C t (some d))) : ObjOk P w H h e (excN e C d) :=
  ⟨⟨t, x⟩, ⟨_, x⟩, fun h1 h2 ⟨t', a⟩ k => ⟨t', k _ a⟩⟩
section
variable {X : Cx} {C R fI : Addr} {x : Str} {e v2 : Expr} {es : List Expr} {t : TA} {te : TE} {np apos pos p1 p2 p3 : Pos} {cc : Str} {j : Nat}
/-- f'..{e}', e a number -/
def tFstr (te : TE) : TE := fun σ H Q => te σ H fun v H1 => ∃ i : Int, v = .int i ∧ i.natAbs < 10 ^ 12 ∧ ∀ u : Str, Q (.str u) H1
theorem pe_fstr (he : PE X e te) (hc : cc.length ≤ 1000) : PE X (.JoinedStr [.Constant (.str cc) j p1, .FormattedValue e (-1) none p2] p3) (tFstr te) := by
  intro pins s σ H Q I h
  refine JoinedStr_many (joinParts_cons (Constant_str ⟨?_, joinParts_cons (FormattedValue_plain (thn (he pins _ σ H _ (I.tok _) h) fun u s1 ⟨v, H1, I1, r1, i, ev, hi, q⟩ => ?_))⟩))
  · rw [strLen_append]
    have : (Str.empty).length = 0 := rfl
    rw [sizeLine_eq]
    omega
  · subst ev
    obtain ⟨tk, rfl⟩ := (show ∃ tk, u = Value.int i tk from r1)
    have hl : i.natAbs.log2 < 1920 := by
      by_cases z : i.natAbs = 0
      · rw [z]; decide
      · refine (Nat.log2_lt z).mpr (Nat.lt_of_lt_of_le hi ?_)
        exact Nat.le_trans (show 10 ^ 12 ≤ 2 ^ 40 by decide) (Nat.pow_le_pow_right (by decide) (by decide))
    refine formatField_int_small hl ⟨?_, joinParts_nil ⟨.str _, H1, I1.tok _, ⟨_, rfl⟩, q _⟩ ?_⟩
    all_goals
      have h10 := int_text_length_le10 (a := i) (k := 12) (by decide) hi
      have h11 : (Str.ofString (toString i)).length = (toString i).length := PySem.ofString_length _
      have h12 : (Str.empty).length = 0 := rfl
      rw [strLen_append, strLen_append, sizeLine_eq, h11]
      omega
/-- RowError.__init__(self, ..) -/
def tXini (C : Addr) (t : TA) : TE := fun σ H Q => t σ H fun vs H1 => ∃ e y, vs = [.ref e, y] ∧ H1 e = some (excM e C) ∧ Q .non (upd H1 e (excM e C))
theorem pe_xini {pl : Sem Bool} (c : XIni X.K C R fI) (hg : Gl X x) (hm : X.mg x = some (.ref R)) (ha : PA X (e :: es) t)
    (ht : eval (.Call (.Attribute (.Name x np) "__init__" apos) (e :: es) [] pos) X.env = (do
      let ov ← eval (.Name x np) X.env
      standAt apos.atName
      let (f, first) ← holding [ov] (getMethod ov "__init__" pl)
      callWith pos f first (backTo pos (starEach (e :: es) X.env)) (backToKw pos (keywordEach [] X.env))) := by rfl)
    (he : starEach (e :: es) X.env = (false, eval e X.env) :: starEach es X.env := by rfl) (hpl : (backTo pos (starEach es X.env)).any (·.1) = false := by rfl) (hdb : (x == ("__debug__" : Str)) = false := by decide) :
    PE X (.Call (.Attribute (.Name x np) "__init__" apos) (e :: es) [] pos) (tXini C t) := by
  intro pins s σ H Q I h
  refine methodCall_KW (pl := pl) (ld_glob I hg hm ?_ hdb) ht
  refine method_cls I.kIn c.sg (cls_value I.kIn c.rr c.fi rfl ?_)
  refine callWith_builtin1 (thn (ha pos pins _ σ H _ (I.tok _) h) fun us s1 ⟨vs, H1, I1, r1, e0, y, ev, hx, q⟩ => ?_) he hpl
  subst ev
  cases r1 with
  | cons r1 r2 =>
    cases r2 with
    | cons r2 r3 =>
      cases r3
      obtain rfl : _ = Value.ref e0 := r1
      obtain ⟨t0, ht0⟩ := (I1.hok e0 _ hx).1
      exact base_ini c I1.kIn ht0 fun h' kp e2 => ⟨.non, _, I1.write (x := e0) (e := e0) (t' := s1.toks) (by rw [hx]; exact True.intro) (.inl rfl) kp ⟨_, e2⟩ (excM_ok e2), rfl, q⟩
/-- self.at = e -/
def sXat (C : Addr) (ta tv : TE) : TS := fun D σ H => tv σ H fun y H1 => ta σ H1 fun z H2 => ∃ e0, z = .ref e0 ∧ H2 e0 = some (excM e0 C) ∧ ∀ d, H2 d = none → d ≠ e0 → D.nx σ (upd (upd H2 d (.xd [("at", y)])) e0 (excN e0 C d))
theorem RelO_at {y : V} {u : Value} (r : RelV y u) (f : Str) : RelO (([("at", y)] : List (Str × V)).lookup f) (if f = "at" then some u else none) := by
  by_cases h : f = "at"
  · subst h
    rw [if_pos rfl, List.lookup_cons_self]
    exact r
  · rw [if_neg h, List.lookup_cons, show (f == ("at" : Str)) = false from beq_eq_false_iff_ne.mpr h]
    exact True.intro
theorem ps_xat {o value : Expr} {ta tv : TE} {pos' : Pos} (c : XIni X.K C R fI) (ha : PE X o ta) (hv : PE X value tv) (hs : swapsWith value (some (.Attribute o "at" pos')) pos.line X.env = pure false) : PS X (.Assign [.Attribute o "at" pos'] value pos) (sXat C ta tv) := by
  intro pins s σ H D I h
  refine plainObj_wpAny_Assign_Attribute (thn (hv pins s σ H _ I h) fun u s1 ⟨y, H1, I1, ry, q⟩ => thn (ha pins s1 σ H1 _ I1 q) fun ov s2 ⟨z, H2, I2, rz, e0, ez, hx, q2⟩ => ?_) hs
  subst ez
  obtain rfl : ov = Value.ref e0 := rz
  obtain ⟨t0, ht0⟩ := (I2.hok e0 _ hx).1
  refine set_at c I2.kIn ht0 fun h' tk kp e2 ns => ?_
  have n0 : s2.heap.objs.size ≠ e0 := Nat.ne_of_gt (Heap.lt_size ht0)
  obtain ⟨oD, esD, epD, hoD, rD⟩ := id ns
  have fr : oD.isFreed = false := (Heap.get?_some_iff.mp hoD).2
  have g1 : (s2.heap.push oD).get? s2.heap.objs.size = some oD := Heap.get?_push_size s2.heap fr
  have I3 := I2.laid (a := s2.heap.objs.size) (o := .xd [("at", y)]) (h' := s2.heap.push oD) (t' := tk) (fun b u e => Heap.get?_push_of_some _ e) (Nat.le_refl _) ⟨_, ⟨oD, esD, epD, g1, rD⟩, RelO_at ry⟩
  have I4 := I3.write (x := e0) (e := e0) (o := excN e0 C s2.heap.objs.size) (h' := h') (t' := tk) (by rw [upd_ne n0.symm, hx]; exact True.intro) (.inl rfl) (fun b u n e => ?_) ⟨_, e2⟩ (excN_ok e2)
  · exact ⟨σ, _, I4, q2 _ I2.fresh n0⟩
  · by_cases hb : b = s2.heap.objs.size
    · subst hb
      rw [g1] at e
      cases e
      exact hoD
    · refine kp b u n ?_
      rw [← e]
      exact (Heap.get?_push_ne _ _ _ hb).symm
end
end L2


set_option Elab.async false
set_option linter.all false
set_option maxRecDepth 100000
set_option maxHeartbeats 4000000
namespace L2
open PySem PySem.W PySem.Spec PySem.Calls PyProof.Rows
/-- what the __init__ of such a class does -/
def spXI (C : Addr) : Sp := fun vs H Q _ => ∃ (e : Addr) (i : Int), vs = [.ref e, .int i] ∧ H e = some (excM e C) ∧ i.natAbs < 10 ^ 12 ∧ ∀ d, H d = none → d ≠ e → Q .non (upd (upd H d (.xd [("at", .int i)])) e (excN e C d))
theorem upd3 {H : Hp} {e d : Addr} {a b c : HO} (n : d ≠ e) : upd (upd (upd H e a) d b) e c = upd (upd H d b) e c := by
  funext x
  unfold upd
  by_cases h : x = e
  · simp [h]
  · by_cases h2 : x = d
    · simp [h, h2]
    · simp [h, h2]
/-- a heap without e -/
def rm (H : Hp) (e : Addr) : Hp := fun c => if c = e then none else H c
theorem rm_ne {H : Hp} {e c : Addr} (h : c ≠ e) : rm H e c = H c := by
  unfold rm
  rw [if_neg h]
theorem rm_same {H : Hp} {e : Addr} : rm H e e = none := by
  unfold rm
  rw [if_pos rfl]
theorem rm_upd2 {H : Hp} {e d : Addr} {a b : HO} (n : d ≠ e) (he : H e = none) : rm (upd (upd H d a) e b) e = upd H d a := by
  funext x
  by_cases h : x = e
  · subst h
    rw [rm_same, upd_ne n.symm, he]
  · rw [rm_ne h, upd_ne h]
/-- it flies over B; B has all that stood at the call (but the callers' frames) and all that is tracked; od its dict -/
def CX2 (P : Program) (w : World) : CXT := fun outer H s E e s' => ∃ (ea : Addr) (cls a0 : Value) (od : Option Addr) (H' : Hp) (B : Heap), e = .ref ea ∧ B.FlyingW outer ea cls a0 s'.heap ∧ Dct s'.heap ea od ∧
  (∀ b o, s.heap.get? b = some o → b ∉ frs outer → ∃ o', B.get? b = some o') ∧ (∀ b o, H' b = some o → ∃ o', B.get? b = some o') ∧
  s'.os = s.os ∧ AllBare s'.gens ∧ Un (frs outer) [] H H' s.heap s'.heap ∧ HOk P w H' s'.heap ∧ E cls od H'
section
variable {X : Cx} {C R f : Addr} {fd : FuncData} {k : Nat}
/-- C(i), its __init__ run -/
theorem run_mkx {pins : List (Addr × Obj)} {σ : St} {H : Hp} {s : Shared} {i : Int} {us : List Value} {Q : VK} {XE : Value → Shared → Prop} (c : XIni X.K C R f) (F : FnOk X.prog X.w X.K X.mg X.base CX0 k f fd ["self", "at"] (spXI C)) (hr : Room (k + 1) X.A) (hb : Binds X.K fd ["self", "at"] []) (I : Inv X pins σ H s) (r : Vals [.int i] us) (hi : i.natAbs < 10 ^ 12)
    (h : ∀ e d, s.heap.objs.size ≤ e → H e = none → H d = none → d ≠ e → Q (.ref e) (upd (upd H d (.xd [("at", .int i)])) e (excN e C d))) : wpAny (model X.prog X.w) X.A (call (.ref C) us) (EP X pins σ Q) XE s := by
  have hz : us.length ≤ sizeLine := by
    rw [← r.length, sizeLine_eq]
    show 1 ≤ 16777216
    decide
  have I1 := I.kept (t' := s.toks) (h' := s.heap.push { cls := .type "tuple", data := .seq us.toArray }) (fun b u e => Heap.get?_push_of_some _ e)
  have he : ((s.heap.push { cls := .type "tuple", data := .seq us.toArray }).push (eO C s.heap.objs.size none)).get? (s.heap.objs.size + 1) = some (eO C s.heap.objs.size none) := by heap_get
  have I2 := I1.laid (a := s.heap.objs.size + 1) (o := excM (s.heap.objs.size + 1) C) (t' := s.toks) (h' := (s.heap.push { cls := .type "tuple", data := .seq us.toArray }).push (eO C s.heap.objs.size none)) (fun b u e => Heap.get?_push_of_some _ e) (Nat.le_of_eq (Heap.size_push _ _)) (excM_ok he)
  have hn : H (s.heap.objs.size + 1) = none := I.hok.fresh (Nat.le_succ _)
  have r2 : Vals (V.ref (s.heap.objs.size + 1) :: [V.int i]) (Value.ref (s.heap.objs.size + 1) :: us) := .cons rfl r
  have hl : (Value.ref (s.heap.objs.size + 1) :: us ++ []).length = ["self", "at"].length := by
    have e := r2.length
    rw [List.append_nil]
    exact e.symm
  have hq : spXI C [V.ref (s.heap.objs.size + 1), V.int i] (upd H (s.heap.objs.size + 1) (excM (s.heap.objs.size + 1) C)) (fun v H2 => v = .non ∧ Q (.ref (s.heap.objs.size + 1)) H2) E0 := by
    refine ⟨_, i, rfl, upd_same, hi, fun d hd ne => ⟨rfl, ?_⟩⟩
    rw [upd3 ne]
    rw [upd_ne ne] at hd
    exact h _ d (Nat.le_succ _) hn hd ne
  refine call_ini c I.kIn hz (wpAny_call (codeAny_mono (F.run _ X.stack _ _ ⟨Value.ref (s.heap.objs.size + 1) :: us, []⟩ (Value.ref (s.heap.objs.size + 1) :: us) _ _ E0 (hr.make C us []) (I2.env0.make C us []) (by have := hb _ (Value.ref (s.heap.objs.size + 1) :: us) I2.kIn hl; rw [List.append_nil] at this; exact this) r2 hq) fun r s' hq' => ?_))
  cases r with
  | error e => exact False.elim hq'
  | ok fl =>
    cases fl with
    | ret u =>
      obtain ⟨v, H', I3, rv, ev, q3⟩ := I2.after hq'
      subst ev
      exact ⟨rv, ⟨V.ref (s.heap.objs.size + 1), H', I3, rfl, q3⟩⟩
    | next => exact False.elim hq'
    | brk => exact False.elim hq'
    | cont => exact False.elim hq'
theorem raise_made {M : Model} {A : Around} {XE : Value → Shared → Prop} {K : PySem.W.Frag} {s : Shared} {env : Env} {z : Sem Value} {Q : Flow → Shared → Prop} (c : XIni K C R f) (hh : A.handled = none)
    (h : wpAny M A z (fun v s1 => ∃ e t od, v = .ref e ∧ K.In s1.heap ∧ s1.heap.get? e = some (eO C t od) ∧ XE (.ref e) s1) XE s) : wpAny M A (raiseStmt env (some z) none) Q XE s := by
  have hcB : (Value.ref C :: .ref R :: vmVE).contains (.type "BaseException") = true := by simp
  unfold raiseStmt
  refine wpAny_bind (wpAny_mono h (fun v s1 h1 => ?_) fun _ _ x => x)
  obtain ⟨e, t, od, rfl, X, he, hE⟩ := h1
  obtain ⟨N, nm, q, bs, sn, sub, ab, col, dd, k0, k1, k2, k3, k5, hC⟩ := c.obj X
  obtain ⟨hp, g, d, tk, os⟩ := s1
  dsimp only at hC he X
  repeat (first | with_reducible refine wpAny_loadPart_at he ?_ | with_reducible refine wpAny_loadPart_at hC ?_ | (with_reducible refine wpAny_isSubtype_exc hC ?_; rw [hcB]) | wp_step)
  exact wpAny_raiseNew_none hh hE
end
end L2


set_option Elab.async false
set_option linter.all false
set_option maxRecDepth 100000
set_option maxHeartbeats 4000000
namespace L2
open PySem PySem.W PySem.Spec PySem.Calls PyProof.Rows
/-- raise C(i) -/
def sRaiseC (C : Addr) (t : TA) (E : XK) : TS := fun _ σ H => t σ H fun vs H1 => ∃ i : Int, vs = [.int i] ∧ i.natAbs < 10 ^ 12 ∧ ∀ d, H1 d = none → E (.ref C) (some d) (upd H1 d (.xd [("at", .int i)]))
section
variable {P : Program} {w : World} {K : PySem.W.Frag} {mg : Str → Option Value} {base : Heap} {N : List Str} {qual : Str} {scope : Scope} {f : Addr} {cd : Value} {A : Around} {outer : List Env} {s₀ : Shared} {H₀ : Hp} {E : XK}
theorem ps_raiseC {C R fI : Addr} {fd : FuncData} {k : Nat} {x : Str} {np cpos pos : Pos} {a : Expr} {as : List Expr} {t : TA} (c : XIni K C R fI) (kp : keepIn K (.ref C) = true) (F : FnOk P w K mg base CX0 k fI fd ["self", "at"] (spXI C)) (hb : Binds K fd ["self", "at"] []) (hr : Room (k + 1) (A.deeper (envOfC qual scope s₀.heap.objs.size f cd))) (hm : mg x = some (.ref C))
    (hg : Gl (cxOf (CX2 P w) P w K mg base N qual scope f cd A outer s₀ H₀ E) x) (ha : PA (cxOf (CX2 P w) P w K mg base N qual scope f cd A outer s₀ H₀ E) (a :: as) t) (hd : (x == ("__debug__" : Str)) = false := by decide)
    (he : starEach (a :: as) (cxOf (CX2 P w) P w K mg base N qual scope f cd A outer s₀ H₀ E).env = (false, eval a (cxOf (CX2 P w) P w K mg base N qual scope f cd A outer s₀ H₀ E).env) :: starEach as (cxOf (CX2 P w) P w K mg base N qual scope f cd A outer s₀ H₀ E).env := by rfl)
    (hpl : (backTo cpos (starEach as (cxOf (CX2 P w) P w K mg base N qual scope f cd A outer s₀ H₀ E).env)).any (·.1) = false := by rfl) :
    PS (cxOf (CX2 P w) P w K mg base N qual scope f cd A outer s₀ H₀ E) (.Raise (some (.Call (.Name x np) (a :: as) [] cpos)) none pos) (sRaiseC C t E) := by
  intro pins s σ H D I h
  have hr' : Room (k + 1) (cxOf (CX2 P w) P w K mg base N qual scope f cd A outer s₀ H₀ E).A := hr
  rw [arm_exec_Raise]
  refine wpAny_bind (wpAny_standAt (raise_made c (I.ok.hd rfl) (wpAny_bind (wpAny_mono (wpAny_Call_Name_kw (ld_glob I hg hm (callWith_K (h₀ := base) I.ok.mod.kin kp (thn (ha cpos pins s σ H _ I h) fun us s1 ⟨vs, H1, I1, r, i, ev, hi, q⟩ => ⟨I1.kIn, ?_⟩) he hpl) hd)) (fun v s3 h3 => wpAny_bind (wpAny_standAt (wpAny_pure h3))) fun _ _ z => z))))
  subst ev
  refine thn (run_mkx (Q := fun v H2 => ∃ e d, v = .ref e ∧ s1.heap.objs.size ≤ e ∧ H1 e = none ∧ H1 d = none ∧ d ≠ e ∧ H2 = upd (upd H1 d (.xd [("at", .int i)])) e (excN e C d)) c F hr' hb I1 r hi fun e d h0 h1 h2 h3 => ⟨e, d, rfl, h0, h1, h2, h3, rfl⟩) fun v s4 hv => ?_
  obtain ⟨vv, H4, I4, rv, e, d, rfl, ge, ne, nd, de, hH4⟩ := hv
  obtain rfl : v = Value.ref e := rv
  have H4e : H4 e = some (excN e C d) := by rw [hH4, upd_same]
  have hrm : rm H4 e = upd H1 d (.xd [("at", .int i)]) := by rw [hH4]; exact rm_upd2 de ne
  obtain ⟨t0, ht0⟩ := (I4.hok e _ H4e).1
  refine ⟨e, t0, some d, rfl, I4.kIn, ht0, ?_⟩
  have bk := I4.bk
  have stk : ∀ {b o}, s₀.heap.get? b = some o → b ∉ frs outer → b ∉ frs ((envOfC qual scope s₀.heap.objs.size f cd) :: outer) := fun {b o} hb nf hx => by
    rcases List.mem_cons.mp (I4.stkSub b hx) with e | e
    · have h1 := Heap.lt_size hb
      have h2 : s₀.heap.objs.size ≤ (envOfC qual scope s₀.heap.objs.size f cd).locals := I4.ok.above
      have e : b = (envOfC qual scope s₀.heap.objs.size f cd).locals := e
      rw [e] at h1
      exact absurd h1 (Nat.not_lt.mpr h2)
    · exact nf e
  have ub : Un (frs outer) [] H₀ H4 s₀.heap s4.heap := I4.base
  have old : ∀ {b o}, s₀.heap.get? b = some o → b ≠ e := fun {b o} hb z => by
    have h1 := Heap.lt_size hb
    have h2 : s₀.heap.objs.size ≤ s1.heap.objs.size := I1.sz
    exact absurd h1 (Nat.not_lt.mpr (Nat.le_trans h2 (z ▸ ge)))
  have hk : ∀ {b o}, H4 b = some o → b ∉ frs ((envOfC qual scope s₀.heap.objs.size f cd) :: outer) := fun {b o} hb hx => by
    have := I4.stkFree b hx
    rw [hb] at this
    cases this
  have nin : ∀ {b}, b ∉ frs ((envOfC qual scope s₀.heap.objs.size f cd) :: outer) → b ≠ e → b ∉ frs ((envOfC qual scope s₀.heap.objs.size f cd) :: outer) ++ [e] := fun {b} h1 h2 h3 => by
    rcases List.mem_append.mp h3 with h | h
    · exact h1 h
    · exact h2 (by simpa using h)
  refine leavesD (B := less s4.heap (frs ((envOfC qual scope s₀.heap.objs.size f cd) :: outer) ++ [e])) (L := (envOfC qual scope s₀.heap.objs.size f cd).locals) I4.ok.frames (less_funs I4.stack fun b h => List.mem_append_left _ h) rfl ht0 less_stays (less_in (by simp)) rfl rfl rfl fun h'' fly up dc => ?_
  have stay : ∀ {b u}, b ∉ frs ((envOfC qual scope s₀.heap.objs.size f cd) :: outer) → b ≠ e → s4.heap.get? b = some u → h''.get? b = some u := fun {b u} hb hn hu => fly.1 b u (by rw [less_out (nin hb hn)]; exact hu)
  have notE : ∀ {b o}, rm H4 e b = some o → b ≠ e ∧ H4 b = some o := fun {b o} hb => by
    by_cases z : b = e
    · rw [z, rm_same] at hb; cases hb
    · exact ⟨z, by rw [rm_ne z] at hb; exact hb⟩
  have keepH : ∀ {b o}, H4 b = some o → (∀ φ, o ≠ .ext φ) → rm H4 e b = some o := fun {b o} hb n => by
    have z : b ≠ e := fun z => by
      rw [z, H4e] at hb
      cases hb
      exact n _ rfl
    rw [rm_ne z]
    exact hb
  have slots : ∀ b o, s₀.heap.get? b = some o → H₀ b = none → b ∈ frs outer → ∃ sl, h''.get? b = some { o with slots := sl } := fun b o e n hb => by
    obtain ⟨sl, e1⟩ := ub.slot b o e n hb (by simp)
    obtain ⟨_, o2, e2, nf⟩ := I4.funs.mem hb
    rw [e1] at e2
    cases e2
    obtain ⟨sl', e3⟩ := up b _ e1 nf
    exact ⟨sl', e3⟩
  refine ⟨e, .ref C, .ref t0, some d, rm H4 e, _, rfl, fly, dc, fun b o hb nf => ?_, fun b o hb => ?_, I4.os, I4.bare, ⟨fun b o e n nf nx => stay (stk e nf) (old e) (ub.keep b o e n nf nx), fun b o e n hb _ => slots b o e n hb, fun b o e n hx => ?_, fun b o e nx => ?_, fun b xs e => keepH (ub.tups b xs e) (by intro _ z; cases z), fun b o u e => keepH (ub.frzs b o u e) (by intro _ z; cases z), fun b ps e => ?_⟩, fun a o ha => ?_, by rw [hrm]; exact q d nd⟩
  · obtain ⟨o', e'⟩ := ub.there b o hb (by simp)
    exact ⟨o', by rw [less_out (nin (stk hb nf) (old hb))]; exact e'⟩
  · obtain ⟨z, hb⟩ := notE hb
    obtain ⟨o', e'⟩ := (I4.hok b o hb).some_
    exact ⟨o', by rw [less_out (nin (hk hb) z)]; exact e'⟩
  · rw [rm_ne (old e)]
    exact ub.free b o e n hx
  · by_cases hb : b ∈ frs outer
    · obtain ⟨_, o2, e2, nf⟩ := I4.funs.mem hb
      obtain ⟨sl', e3⟩ := up b _ e2 nf
      exact ⟨_, e3⟩
    · obtain ⟨o', e'⟩ := ub.there b o e nx
      exact ⟨o', stay (stk e hb) (old e) e'⟩
  · obtain ⟨more, z⟩ := ub.tbls b ps e
    exact ⟨more, keepH z (by intro _ z; cases z)⟩
  · obtain ⟨z, ha⟩ := notE ha
    refine (I4.hok a o ha).stay (fun b u hc q => ?_) (fun c q => keepH q (by intro _ z; cases z)) (fun c xs q => keepH q (by intro _ z; cases z))
    rcases hc with rfl | hc
    · exact stay (hk ha) z q
    · refine stay (hk hc) (fun z => ?_) q
      rw [z, H4e] at hc
      cases hc
end
end L2


set_option Elab.async false
set_option linter.all false
set_option maxRecDepth 100000
set_option maxHeartbeats 4000000
namespace L2
open PySem PySem.W PySem.Spec PySem.Calls PyProof.Rows
/-- a caught exception's object, of the class cls, its dict od -/
def excD (ea : Addr) (cls : Value) (od : Option Addr) : HO := .ext fun h => ∃ o, h.get? ea = some o ∧ o.cls = cls ∧ notCls o = true ∧ o.dict = od
section
variable {X : Cx} {pins : List (Addr × Obj)} {σ : St} {H : Hp} {s : Shared}
theorem Inv.trackD {ea : Addr} {cls : Value} {od : Option Addr} (I : Inv X pins σ H s) (hn : H ea = none) (hs₀ : X.s₀.heap.get? ea = none) (hne : ea ≠ X.env.locals) (hc : ∀ x c, X.env.cells.lookup x = some c → c ≠ ea) (hp : ∀ p ∈ X.pn ++ pins, p.1 ≠ ea) (ho : ∃ o, s.heap.get? ea = some o ∧ o.cls = cls ∧ notCls o = true ∧ o.dict = od) :
    Inv X pins σ (upd H ea (excD ea cls od)) s := by
  have ne : ∀ {b}, b ≠ ea → upd H ea (excD ea cls od) b = H b := fun h => upd_ne h
  have old : ∀ {b o}, X.s₀.heap.get? b = some o → b ≠ ea := fun {b o} h z => by rw [z, hs₀] at h; cases h
  refine ⟨I.ok, I.os, I.bare, ⟨I.base.keep, I.base.slot, fun b o e n hx => ?_, I.base.there, fun b xs e => ?_, fun b o u e => ?_, fun b ps e => ?_⟩, I.loc, I.cell, ?_, fun x c e => ?_, fun p hp' => ?_, fun b o e => ?_, I.len⟩
  · rw [ne (old e)]; exact I.base.free b o e n hx
  · have := I.base.tups b xs e
    rw [ne (ne_of_none this hn)]; exact this
  · have := I.base.frzs b o u e
    rw [ne (ne_of_none this hn)]; exact this
  · obtain ⟨more, this⟩ := I.base.tbls b ps e
    exact ⟨more, by rw [ne (ne_of_none this hn)]; exact this⟩
  · rw [ne hne.symm]; exact I.free
  · rw [ne (hc x c e)]; exact I.freeC x c e
  · obtain ⟨a1, a2, a3⟩ := I.pin p hp'
    exact ⟨a1, by rw [ne (hp p hp')]; exact a2, a3⟩
  · by_cases hb : b = ea
    · subst hb
      rw [upd_same] at e
      cases e
      obtain ⟨o, h1, h2⟩ := ho
      exact ⟨⟨o, h1, h2⟩, ⟨o, h1⟩, fun h1 h2 ⟨o, a, b⟩ k => ⟨o, k o a, b⟩⟩
    · rw [ne hb] at e
      exact (I.hok b o e).stay (fun c u _ q => q) (fun c q => by rw [ne (ne_of_none q hn)]; exact q) (fun c xs q => by rw [ne (ne_of_none q hn)]; exact q)
end
section
variable {X : Cx} {pins : List (Addr × Obj)} {σ : St}
/-- an exception of a callee has come to the body's try: it lands -/
theorem caughtD {H : Hp} {s s' : Shared} {e : Value} {E : XK} {L : Addr} {hs : List ExceptHandler} {Q : Flow → Shared → Prop} {XE : Value → Shared → Prop} (I : Inv X pins σ H s) (hst : X.stack = X.env :: X.outer) (hL : X.env.frame = some L) (cx : CX2 X.prog X.w X.stack H s E e s')
    (k : ∀ (ea : Addr) (cls a0 : Value) (od : Option Addr) (H' : Hp) (B : Heap) (s2 : Shared), e = .ref ea → E cls od H' → Dct s2.heap ea od → Inv X pins σ H' s2 → B.FlyingW X.stack ea cls a0 s2.heap → (∀ b o, H' b = some o → ∃ o', B.get? b = some o') → (∀ b o, s.heap.get? b = some o → b ∉ frs X.stack → ∃ o', B.get? b = some o') →
      (∀ h6, B.FlyingW X.stack ea cls a0 h6 → s2.heap.UpToSlots h6 → Inv X pins σ H' { s2 with heap := h6 }) → wpAny (model X.prog X.w) X.A (handleBy e X.env hs) Q XE s2) :
    wpAny (model X.prog X.w) X.A (noteFrame e X.env) (fun _ s2 => wpAny (model X.prog X.w) X.A (setFlight e none) (fun _ s3 => wpAny (model X.prog X.w) X.A (handleBy e X.env hs) Q XE s3) XE s2) XE s' := by
  obtain ⟨ea, cls, a0, od, H', B, rfl, fly, dc, hB, hH, os, bare, un, hok, hE⟩ := cx
  obtain ⟨T, be, bT, fly2⟩ := fly_less fly
  have fly2' := fly2
  rw [hst] at fly2'
  have apart : ∀ {b o}, B.get? b = some o → b ∉ frs X.stack → b ∉ frs X.stack ++ [ea, T] := fun {b o} hb nf hx => by
    rcases List.mem_append.mp hx with h | h
    · exact nf h
    · rcases (show b = ea ∨ b = T by simpa using h) with rfl | rfl
      · rw [be] at hb; cases hb
      · rw [bT] at hb; cases hb
  have fr' : ∀ b ∈ frs X.stack, H' b = none := fun b hb => by
    obtain ⟨_, o, ho, _⟩ := I.stack.mem hb
    exact un.free b o ho (I.stkFree b hb) (by simp)
  refine looksD (B := less s'.heap (frs (X.env :: X.outer) ++ [ea, T])) (by rw [I.ok.frames, hst]) hL (by rw [← hst] at fly2' ⊢; exact fly2') dc fun h4 held4 up4 dc4 => ?_
  refine landsD (s := { s' with heap := h4 }) held4 dc4 fun h5 fly5 up5 dc5 => ?_
  have up := up4.trans up5
  rw [← hst] at fly5
  have kH : ∀ {b o}, H' b = some o → b ∉ frs X.stack ++ [ea, T] := fun {b o} hb => by
    obtain ⟨o', h1⟩ := hH b o hb
    exact apart h1 fun z => by rw [fr' b z] at hb; cases hb
  have inv : ∀ h5, (less s'.heap (frs X.stack ++ [ea, T])).FlyingW X.stack ea cls a0 h5 → s'.heap.UpToSlots h5 → Inv X pins σ H' { s' with heap := h5 } := fun h5 fly5 up => by
    have stay : ∀ {b u}, b ∉ frs X.stack ++ [ea, T] → s'.heap.get? b = some u → h5.get? b = some u := fun {b u} hb hu => fly5.1 b u (by rw [less_out hb]; exact hu)
    have up1 : ∀ b o, s'.heap.get? b = some o → b ∈ frs X.stack → ∃ sl, h5.get? b = some { o with slots := sl } := fun b o ho hb => by
      obtain ⟨_, o2, e2, nf⟩ := fly.2.2.1.mem hb
      rw [ho] at e2
      cases e2
      exact up b o ho nf
    have un5 : Un (frs X.stack) [] H H' s.heap h5 := by
      refine ⟨fun b o e n nf nx => ?_, fun b o e n hb nx => ?_, un.free, fun b o e nx => ?_, un.tups, un.frzs, un.tbls⟩
      · obtain ⟨o', hb⟩ := hB b o e nf
        exact stay (apart hb nf) (un.keep b o e n nf nx)
      · obtain ⟨sl, e1⟩ := un.slot b o e n hb nx
        obtain ⟨sl', e2⟩ := up1 b _ e1 hb
        exact ⟨sl', e2⟩
      · obtain ⟨o', e1⟩ := un.there b o e nx
        by_cases hb : b ∈ frs X.stack
        · obtain ⟨sl', e2⟩ := up1 b _ e1 hb
          exact ⟨_, e2⟩
        · obtain ⟨o2, h2⟩ := hB b o e hb
          exact ⟨o', stay (apart h2 hb) e1⟩
    have hok5 : HOk X.prog X.w H' h5 := fun a o e => (hok a o e).stay (fun b u hc q => by
      rcases hc with rfl | hc
      · exact stay (kH e) q
      · exact stay (kH hc) q) (fun _ q => q) fun _ _ q => q
    exact I.call' (s' := { s' with heap := h5 }) (ch := []) os un5 hok5 bare (fun b z => absurd z (by simp))
  refine k ea cls a0 od H' (less s'.heap (frs X.stack ++ [ea, T])) _ rfl hE dc5 (inv h5 fly5 up) fly5 (fun b o hb => ?_) (fun b o hb nf => ?_) (fun h6 f6 u6 => inv h6 f6 (up.trans u6))
  · obtain ⟨u, hu⟩ := (hok b o hb).some_
    exact ⟨u, by rw [less_out (kH hb)]; exact hu⟩
  · obtain ⟨o2, h2⟩ := hB b o hb nf
    obtain ⟨o', e1⟩ := un.there b o hb (by simp)
    exact ⟨o', by rw [less_out (apart h2 nf)]; exact e1⟩
end
section
variable {X : Cx} {k : Nat} {f cR : Addr} {fd : FuncData} {ps : List Str} {sp : Sp} {dvs : List V} {ds : List Value} {x g n : Str} {np gp pos p2 p3 p4 : Pos} {a : Expr} {as : List Expr} {t : TA} {ts : TS} {i : Nat} {b₀ : Stmt} {suite : List Stmt} {L : Addr}
theorem run_fnD {pins : List (Addr × Obj)} {σ : St} {H : Hp} {s : Shared} {Q : VK} {E : XK} {us : List Value} {vs : List V} {XE : Value → Shared → Prop} (F : FnOk X.prog X.w X.K X.mg X.base (CX2 X.prog X.w) k f fd ps sp) (hr : Room k X.A) (hb : Binds X.K fd ps ds) (hd : Vals dvs ds)
    (I : Inv X pins σ H s) (r : Vals vs us) (h : sp (vs ++ dvs) H Q E) (hx : ∀ e s', CX2 X.prog X.w X.stack H s E e s' → XE e s') : wpAny (model X.prog X.w) X.A (call (.ref f) us) (EP X pins σ Q) XE s := by
  have r2 : Vals (vs ++ dvs) (us ++ ds) := r.append hd
  have hl : (us ++ ds).length = ps.length := by rw [← r2.length]; exact F.len _ _ _ _ h
  refine wpAny_call (codeAny_mono (F.run X.A X.stack s H ⟨us, []⟩ (us ++ ds) (vs ++ dvs) Q E hr I.env0 (hb s us I.kIn hl) r2 h) fun r s' hq => ?_)
  cases r with
  | error e => exact hx e s' hq
  | ok fl =>
    cases fl with
    | ret u => exact I.after hq
    | next => exact False.elim hq
    | brk => exact False.elim hq
    | cont => exact False.elim hq
end
end L2


set_option Elab.async false
set_option linter.all false
set_option maxRecDepth 100000
set_option maxHeartbeats 4000000
namespace L2
open PySem PySem.W PySem.Spec PySem.Calls PyProof.Rows
section
variable {X : Cx} {C R fI : Addr} {Bn : String}
/-- e.at of a caught one -/
def tXat (C : Addr) (ta : TE) : TE := fun σ H Q => ta σ H fun x H1 => ∃ (ea d : Addr) (i : Int), x = .ref ea ∧ H1 ea = some (excD ea (.ref C) (some d)) ∧ H1 d = some (.xd [("at", .int i)]) ∧ Q (.int i) H1
theorem pe_xat {o : Expr} {ta : TE} {pos : Pos} (c : XIni X.K C R fI) (ha : PE X o ta) (hb : attributeBase o "at" X.env (eval o X.env) = eval o X.env := by rfl) : PE X (.Attribute o "at" pos) (tXat C ta) := by
  intro pins s σ H Q I h
  refine attr_of hb (thn (ha pins s σ H _ I h) fun u s1 ⟨x, H1, I1, r1, ea, d, i, ex, he, hd, q⟩ => ?_)
  subst ex
  obtain rfl : u = Value.ref ea := r1
  obtain ⟨ob, h1, h2, h3, h4⟩ := (I1.hok ea _ he).1
  obtain ⟨mA, ns, rl⟩ := (show ObjOk X.prog X.w H1 s1.heap d (.xd [("at", .int i)]) from I1.hok d _ hd)
  have ra := rl "at"
  rw [List.lookup_cons_self] at ra
  cases hv : mA "at" with
  | none => rw [hv] at ra; exact False.elim ra
  | some v =>
    rw [hv] at ra
    obtain ⟨tk, rfl⟩ := (show ∃ tk, v = Value.int i tk from ra)
    exact get_at c I1.kIn h1 h2 h3 h4 ns hv rfl ⟨.int i, H1, I1.tok _, ⟨_, rfl⟩, q⟩
end
end L2


set_option Elab.async false
set_option linter.all false
set_option maxRecDepth 100000
set_option maxHeartbeats 4000000
namespace L2
open PySem PySem.W PySem.Spec PySem.Calls PyProof.Rows
/-! ### None, or a text, asked of a dict of the top that is keyed by texts -/
def nIs : Option Str → Value → Bool
  | none, v => match v with
    | .none => true
    | _ => false
  | some x, v => Value.isStrOf x v
theorem nIs_shape {k : Option Str} {v : Value} (h : nIs k v = true) : (k = none ∧ v = .none) ∨ ∃ x t, k = some x ∧ v = .str x t := by
  cases k with
  | none => cases v <;> simp_all [nIs]
  | some x =>
    obtain ⟨t, e⟩ := Value.isStrOf_shape (show Value.isStrOf x v = true from h)
    exact .inr ⟨x, t, rfl, e⟩
def nHash (w : World) : Option Str → Int
  | none => 0xFCA86420
  | some x => hashStr w x
def nKind (prog : Program) (w : World) : KeyKind prog w (Option Str) where
  is := nIs
  hash := nHash w
  inj := fun v a b ha hb => by
    rcases nIs_shape ha with ⟨rfl, rfl⟩ | ⟨x, t, rfl, rfl⟩
    · rcases nIs_shape hb with ⟨rfl, _⟩ | ⟨y, u, rfl, e⟩
      · rfl
      · exact nomatch e
    · rcases nIs_shape hb with ⟨rfl, e⟩ | ⟨y, u, rfl, e⟩
      · exact nomatch e
      · injection e with e1 _
        rw [e1]
  byValue := fun k v h => by
    rcases nIs_shape h with ⟨rfl, rfl⟩ | ⟨x, t, rfl, rfl⟩ <;> rfl
  pyHash := fun hv h => by
    rcases nIs_shape hv with ⟨rfl, rfl⟩ | ⟨x, t, rfl, rfl⟩
    · exact pyHash_slot (T := "NoneType") rfl PySem.F.slot_NoneType_hash PySem.F.entry_NoneType_hash (PySem.F.args_NoneType_hash_1 _) (beq_builtin_none _) (.inl rfl) (wpAny_bind (wpAny_pure (wpAny_bind (wpAny_mkInt (wpAny_pure ⟨_, _, rfl, h⟩)))))
    · exact wpAny_pyHash_str h
  eqBool := fun hu hv h => by
    rcases nIs_shape hu with ⟨rfl, rfl⟩ | ⟨x, t, rfl, rfl⟩
    · rcases nIs_shape hv with ⟨rfl, rfl⟩ | ⟨y, u, rfl, rfl⟩
      · exact SeqAt.EqAt.same _ _ _ _ _ (by simpa using h)
      · exact SeqAt.EqAt.none_str _ _ _ _ _ _ (by simpa using h)
    · rcases nIs_shape hv with ⟨rfl, rfl⟩ | ⟨y, u, rfl, rfl⟩
      · exact SeqAt.EqAt.str_none _ _ _ _ _ _ (by simpa using h)
      · have e : decide (some x = some y) = decide (x = y) := by
          by_cases z : x = y <;> simp [z]
        rw [e] at h
        exact wpAny_eqBool_str h
  «strs» := fun k x t v h => by
    rcases nIs_shape h with ⟨_, e⟩ | ⟨y, u, e1, e⟩
    · exact nomatch e
    · injection e with hx
      subst hx e1
      cases v <;> rfl
/-- a dict of the top, keyed by texts -/
def KLit (K : PySem.W.Frag) (P : Params) (a : Addr) : Prop := ∃ (es : Array DictEntry) (n : Nat), K.lookup a = some ⟨.type "dict", none, .dict es n, #[]⟩ ∧ PySem.W.KeysLit P es.toList ∧ (a == sysModules) = false
def tKInO (K : PySem.W.Frag) (P : Params) (ty td : TE) : TE := fun σ H Q => ty σ H fun y H1 => td σ H1 fun x H2 => ∃ a, x = .ref a ∧ ((∃ k r, y = .str k ∧ KHas K P a k r ∧ Q (.bl r.isSome) H2) ∨ (y = .non ∧ KLit K P a ∧ Q (.bl false) H2))
section
variable {X : Cx} {o i : Expr} {pos : Pos} {td ty : TE}
theorem pc_kinO (hi : PE X i ty) (ho : PE X o td) : PC X .In i o (tKInO X.K X.w.params ty td) := by
  intro pins s σ H Q I h
  refine thn (hi pins s σ H _ I h) fun iv s1 ⟨y, H1, I1, ry, q1⟩ => thn (ho pins s1 σ H1 _ I1 q1) fun u s2 ⟨x, H2, I2, rx, a, ex, g⟩ => ?_
  subst ex
  obtain rfl : u = Value.ref a := rx
  rcases g with ⟨k, r, ey, g, q2⟩ | ⟨ey, g, q2⟩
  · subst ey
    obtain ⟨t, rfl⟩ := ry
    obtain ⟨es, n, hl, hk, hm, q, hq, rq⟩ := g
    have mo := PySem.W.mapOf_K (prog := X.prog) (w := X.w) I2.kIn hl hk
    refine wpAny_in_of (strKind_is X.prog X.w k t) hm mo ?_
    rw [PySem.W.find_K hl hq, ← rq.isSome_eq]
    exact ⟨.bl r.isSome, H2, I2.tok _, rfl, q2⟩
  · subst ey
    obtain rfl : iv = Value.none := ry
    obtain ⟨es, n, hl, hk, hm⟩ := g
    have mo : s2.heap.MapOf (nKind X.prog X.w) a (fun k => findBy nIs es k) := ⟨_, es, n, I2.kIn _ _ hl, ⟨rfl, rfl, rfl⟩, rfl, fun e he => by
      obtain ⟨x, t, e1, e2⟩ := hk.all e (Array.mem_toList_iff.mpr he)
      exact ⟨some x, by rw [e1]; exact strKind_is X.prog X.w x t, e2⟩, fun _ => rfl⟩
    have fn : findBy nIs es none = none := by
      have z : es.find? (fun e => nIs none e.key) = none := by
        rw [Array.find?_eq_none]
        intro e he
        obtain ⟨x, t, e1, e2⟩ := hk.all e (Array.mem_toList_iff.mpr he)
        rw [e1]
        simp [nIs]
      unfold findBy
      rw [z]
      rfl
    refine wpAny_in_of (knd := nKind X.prog X.w) (k := none) (key := Value.none) rfl hm mo ?_
    rw [fn]
    exact ⟨.bl false, H2, I2.tok _, rfl, q2⟩
end
end L2


set_option Elab.async false
set_option linter.all false
set_option maxRecDepth 100000
set_option maxHeartbeats 4000000
namespace L2
open PySem PySem.Spec PyProof.Rows
open Builtin Builtin.Str
/-! ### texts: startswith, split, join -/
section
variable {X : Cx}
theorem mt_starts : MtR X "str.startswith" (fun x xs H Q => ∃ a b, x = .str a ∧ xs = [.str b] ∧ Q (.bl (Txt.startswith a b)) H) := by
  intro pins s σ H x xs v us Q I rx rv h
  obtain ⟨a, b, rfl, rfl, q⟩ := h
  obtain ⟨t, rfl⟩ := rx
  obtain ⟨u, rfl, ru⟩ := rv.one
  obtain ⟨t2, rfl⟩ := ru
  exact SC.startswith ⟨.bl _, H, I, rfl, q⟩
theorem vals_strs : ∀ (tk : Nat) (xs : List Str), Vals (xs.map V.str) (strsFrom tk xs)
  | _, [] => .nil
  | tk, x :: r => .cons ⟨_, rfl⟩ (vals_strs (tk + 1) r)
theorem mt_split : MtR X "str.split" (fun x xs H Q => ∃ a b, x = .str a ∧ xs = [.str b] ∧ (b.length == 0) = false ∧ a.length < sizeLine ∧ ∀ l, H l = none → Q (.ref l) (upd H l (.lst ((Txt.split a b).map V.str)))) := by
  intro pins s σ H x xs v us Q I rx rv h
  obtain ⟨a, b, rfl, rfl, hb, ha, q⟩ := h
  obtain ⟨t, rfl⟩ := rx
  obtain ⟨u, rfl, ru⟩ := rv.one
  obtain ⟨t2, rfl⟩ := ru
  have hb1 : 1 ≤ b.length := by
    rcases Nat.eq_zero_or_pos b.length with e | e
    · rw [e] at hb; cases hb
    · exact e
  have hw := split_weight a b hb1
  cases h1 : (decide (a.length < b.length) || decide (strKind a < strKind b))
  · cases hf : (occurrences a b 0 a.length (a.length + 1)).isEmpty
    · have e : Txt.split a b = partsBetween a (occurrences a b 0 a.length (a.length + 1)) b.length := (if_neg (ne_true_of_eq_false h1)).trans (if_neg (ne_true_of_eq_false hf))
      rw [e] at hw q
      refine call_meets F.slot_str_split (typeIs_str _ _ _) F.entry_str_split (F.args_str_split_2 _ _) (meets_str_split_sep a b t t2 h1 hb hf (by omega) (by omega)) ?_
      exact ⟨.ref _, _, I.lnew (vals_strs _ _) (by rw [List.length_map]; omega), rfl, q _ I.fresh⟩
    · have e : Txt.split a b = [a] := (if_neg (ne_true_of_eq_false h1)).trans (if_pos hf)
      rw [e] at q
      exact call_meets F.slot_str_split (typeIs_str _ _ _) F.entry_str_split (F.args_str_split_2 _ _) (meets_str_split_not_found a b t t2 h1 hb hf)
        ⟨.ref _, _, I.lnew (t' := s.toks) (ys := [V.str a]) (its := [Value.str a t]) (.cons ⟨_, rfl⟩ .nil) (by show 1 ≤ _; decide), rfl, q _ I.fresh⟩
  · have e : Txt.split a b = [a] := if_pos h1
    rw [e] at q
    exact call_meets F.slot_str_split (typeIs_str _ _ _) F.entry_str_split (F.args_str_split_2 _ _) (meets_str_split_cannot_occur a b t t2 h1)
      ⟨.ref _, _, I.lnew (t' := s.toks) (ys := [V.str a]) (its := [Value.str a t]) (.cons ⟨_, rfl⟩ .nil) (by show 1 ≤ _; decide), rfl, q _ I.fresh⟩
theorem strs_vals : ∀ {ts : List Str} {its : List Value}, Vals (ts.map V.str) its → ∃ l : List (Str × Tok), its = strValues l ∧ l.map (·.1) = ts
  | [], its, h => by cases h; exact ⟨[], rfl, rfl⟩
  | t :: ts, its, h => by
    cases h with
    | cons a r =>
      obtain ⟨k, rfl⟩ := a
      obtain ⟨l, rfl, e⟩ := strs_vals r
      exact ⟨(t, k) :: l, rfl, by rw [List.map_cons, e]⟩
theorem mt_join : MtR X "str.join" (fun x xs H Q => ∃ a p ts, x = .str a ∧ xs = [.ref p] ∧ SqL X.K H p (ts.map V.str) ∧ JoinOk a ts = true ∧ Q (.str (Txt.join a ts)) H) := by
  intro pins s σ H x xs v us Q I rx rv h
  obtain ⟨a, p, ts, rfl, rfl, hp, hj, q⟩ := h
  obtain ⟨t, rfl⟩ := rx
  obtain ⟨u, rfl, ru⟩ := rv.one
  cases ru
  obtain ⟨its, hv, pl, _⟩ := I.list hp
  obtain ⟨l, rfl, e⟩ := strs_vals hv
  exact SC.join pl.isList e hj fun t' k => ⟨.str _, H, I.tok k, ⟨_, rfl⟩, q⟩
end
section
variable {X : Cx}
theorem call_int_txt : CallR X (.type "int") (fun xs H Q => ∃ (x : Str) (n : Int), xs = [.str x] ∧ x.length ≤ 640 ∧ PySem.intText? x = some n ∧ Q (.int n) H) := by
  intro pins s σ H xs us Q I r h
  obtain ⟨x, n, rfl, hl, hn, q⟩ := h
  obtain ⟨u, rfl, t, rfl⟩ := vals1 r
  exact PySem.W.KIN.call_text hn hl ⟨.int _, H, I.tok _, ⟨_, rfl⟩, q⟩
end
/-! ### what is split comes together as it was, and the other way -/
theorem join_list {c : Nat} (x y : Str) (r : List Str) : (Str.join ⟨#[c]⟩ (x :: y :: r)).cps.toList = x.cps.toList ++ c :: (Str.join ⟨#[c]⟩ (y :: r)).cps.toList := by
  show (x ++ ⟨#[c]⟩ ++ Str.join ⟨#[c]⟩ (y :: r)).cps.toList = _
  show ((x.cps ++ #[c]) ++ (Str.join ⟨#[c]⟩ (y :: r)).cps).toList = _
  simp
theorem str_ext {x y : Str} (h : x.cps.toList = y.cps.toList) : x = y := by
  apply Str.ext'
  exact Array.toList_inj.mp h
theorem split_ne (x y : Str) : Txt.split x y ≠ [] := by
  intro h
  have e := StrLaws.join_split x y
  unfold Txt.split at h
  split at h
  · cases h
  · split at h
    · cases h
    · rw [StrLaws.partsBetween_eq] at h
      obtain ⟨p, q, e⟩ := StrLaws.partsFrom_ne x y.length 0 (occurrences x y 0 x.length (x.length + 1))
      rw [e] at h
      cases h
end L2


set_option Elab.async false
set_option linter.all false
set_option maxRecDepth 500000
set_option maxHeartbeats 4000000
namespace My
open PySem L2
def top (i : Nat) : Stmt := PySem.Challenge.pw_widenrows_k05_texts_bent.main.body.getD i (.Pass ⟨0, 0, 0, 0⟩)
abbrev sWhole : Stmt := top 7
abbrev sNum : Stmt := top 8
abbrev sTgts : Stmt := top 9
abbrev sPart : Stmt := top 10
abbrev sAre : Stmt := top 11
abbrev sWord : Stmt := top 12
abbrev sIsRow : Stmt := top 13
abbrev sHasFar : Stmt := top 14
abbrev sShownRow : Stmt := top 18
abbrev sShownRows : Stmt := top 19
abbrev sIsFig : Stmt := top 20
abbrev sReadNum : Stmt := top 21
abbrev sRowOf : Stmt := top 22
abbrev sReadRow : Stmt := top 23
abbrev sReadRows : Stmt := top 24
abbrev sCell : Stmt := top 26
abbrev sDigit : Stmt := top 27
abbrev sLine : Stmt := top 28
abbrev sBent : Stmt := top 29
abbrev sIsNumber : Stmt := top 30
abbrev sFits : Stmt := top 31
abbrev sShows : Stmt := top 32
abbrev sLaw : Stmt := top 33
theorem bt_list : bootBuiltins "list" = some (.type "list") := by decide +kernel
theorem bt_tuple : bootBuiltins "tuple" = some (.type "tuple") := by decide +kernel
theorem bt_bool : bootBuiltins "bool" = some (.type "bool") := by decide +kernel
theorem bt_len : bootBuiltins "len" = some (.builtin "len") := by decide +kernel
theorem bt_isi : bootBuiltins "isinstance" = some (.builtin "isinstance") := by decide +kernel
theorem at0 {α : Type} (a : α) (r : List α) : atI (a :: r) 0 = some a := atI_nat (j := 0) rfl
theorem at1 {α : Type} (a b : α) (r : List α) : atI (a :: b :: r) 1 = some b := atI_nat (j := 1) rfl
theorem at2 {α : Type} (a b c : α) (r : List α) : atI (a :: b :: c :: r) 2 = some c := atI_nat (j := 2) rfl
theorem strEq {a b : Str} (h : decide (V.str a = V.str b) = true) : a = b := V.str.inj (of_decide_eq_true h)
/-! ### words -/
theorem inV_str (w : Str) : ∀ ss : List Str, inV (.str w) (ss.map V.str) = decide (w ∈ ss)
  | [] => rfl
  | x :: r => by
    have ih := inV_str w r
    unfold inV at ih ⊢
    rw [List.map_cons, List.any_cons, ih]
    show ((x == w) || _) = _
    by_cases h : x = w
    · subst h
      simp
    · have h' : ¬ w = x := fun e => h e.symm
      simp [h, h']
theorem same_new {H : Hp} {l : Addr} {o : HO} (h : H l = none) : Same H (upd H l o) := fun b u e => by
  rw [upd_ne (ne_of_none e h)]
  exact e
theorem bt_int : bootBuiltins "int" = some (.type "int") := by decide +kernel
theorem bt_str : bootBuiltins "str" = some (.type "str") := by decide +kernel
theorem bt_all : bootBuiltins "all" = some (.builtin "all") := by decide +kernel
theorem bt_max : bootBuiltins "max" = some (.builtin "max") := by decide +kernel
def bounds : List (Str × Int × Int) := [("box", 0, 7), ("aside", 0, 1000000), ("target", 0, 1000000000), ("number", 0, 1000000), ("value", -1000000000, 1000000000), ("far", 0, 1)]
def kinds : List (Str × List Str) := [("stop", []), ("back", []), ("halt", ["number"]), ("set", ["box", "value"]), ("more", ["box", "value"]), ("copy", ["box", "box"]), ("add", ["box", "box"]), ("less", ["box", "box"]), ("load", ["box", "box"]), ("keep", ["box", "box"]),
  ("tell", ["box"]), ("see", ["box", "number"]), ("put", ["box", "aside"]), ("take", ["box", "aside"]), ("jump", ["target", "far"]), ("zero", ["box", "target", "far"]), ("below", ["box", "target", "far"]), ("call", ["target", "far"]), ("mark", ["target", "far"]), ("table", ["box", "targets"])]
theorem kit_ty {K : PySem.W.Frag} {a b : String} {r : Bool} (h1 : (Value.type a == Value.type b) = false) (h2 : PySem.W.kitMeta b = true) (h3 : (fastBuiltinMro a).map (·.contains (Value.type b)) = some r) : PySem.W.kitOne K (.type a) (.type b) = some r := by
  unfold PySem.W.kitOne
  rw [if_neg (by rw [h1]; decide)]
  show (if PySem.W.kitMeta b = true then (fastBuiltinMro a).map (·.contains (Value.type b)) else none) = some r
  rw [if_pos h2]
  exact h3
theorem kit_eq {K : PySem.W.Frag} {a : String} (h : (Value.type a == Value.type a) = true) : PySem.W.kitOne K (.type a) (.type a) = some true := by
  unfold PySem.W.kitOne
  rw [if_pos h]
theorem k_int_bool {K : PySem.W.Frag} : PySem.W.kitOne K (.type "int") (.type "bool") = some false := kit_ty (by decide) (by decide +kernel) (by decide +kernel)
theorem k_bool_int {K : PySem.W.Frag} : PySem.W.kitOne K (.type "bool") (.type "int") = some true := kit_ty (by decide) (by decide +kernel) (by decide +kernel)
theorem k_NoneType_int {K : PySem.W.Frag} : PySem.W.kitOne K (.type "NoneType") (.type "int") = some false := kit_ty (by decide) (by decide +kernel) (by decide +kernel)
theorem k_str_int {K : PySem.W.Frag} : PySem.W.kitOne K (.type "str") (.type "int") = some false := kit_ty (by decide) (by decide +kernel) (by decide +kernel)
theorem k_tuple_int {K : PySem.W.Frag} : PySem.W.kitOne K (.type "tuple") (.type "int") = some false := kit_ty (by decide) (by decide +kernel) (by decide +kernel)
theorem k_list_int {K : PySem.W.Frag} : PySem.W.kitOne K (.type "list") (.type "int") = some false := kit_ty (by decide) (by decide +kernel) (by decide +kernel)
theorem k_NoneType_tuple {K : PySem.W.Frag} : PySem.W.kitOne K (.type "NoneType") (.type "tuple") = some false := kit_ty (by decide) (by decide +kernel) (by decide +kernel)
theorem k_str_tuple {K : PySem.W.Frag} : PySem.W.kitOne K (.type "str") (.type "tuple") = some false := kit_ty (by decide) (by decide +kernel) (by decide +kernel)
theorem k_int_tuple {K : PySem.W.Frag} : PySem.W.kitOne K (.type "int") (.type "tuple") = some false := kit_ty (by decide) (by decide +kernel) (by decide +kernel)
theorem k_list_tuple {K : PySem.W.Frag} : PySem.W.kitOne K (.type "list") (.type "tuple") = some false := kit_ty (by decide) (by decide +kernel) (by decide +kernel)
theorem k_dict_tuple {K : PySem.W.Frag} : PySem.W.kitOne K (.type "dict") (.type "tuple") = some false := kit_ty (by decide) (by decide +kernel) (by decide +kernel)
theorem k_bool_tuple {K : PySem.W.Frag} : PySem.W.kitOne K (.type "bool") (.type "tuple") = some false := kit_ty (by decide) (by decide +kernel) (by decide +kernel)
theorem k_int_int {K : PySem.W.Frag} : PySem.W.kitOne K (.type "int") (.type "int") = some true := kit_eq (by decide)
theorem k_bool_bool {K : PySem.W.Frag} : PySem.W.kitOne K (.type "bool") (.type "bool") = some true := kit_eq (by decide)
theorem k_tuple_tuple {K : PySem.W.Frag} : PySem.W.kitOne K (.type "tuple") (.type "tuple") = some true := kit_eq (by decide)
theorem k_NoneType_str {K : PySem.W.Frag} : PySem.W.kitOne K (.type "NoneType") (.type "str") = some false := kit_ty (by decide) (by decide +kernel) (by decide +kernel)
theorem k_int_str {K : PySem.W.Frag} : PySem.W.kitOne K (.type "int") (.type "str") = some false := kit_ty (by decide) (by decide +kernel) (by decide +kernel)
theorem k_list_str {K : PySem.W.Frag} : PySem.W.kitOne K (.type "list") (.type "str") = some false := kit_ty (by decide) (by decide +kernel) (by decide +kernel)
theorem k_bool_str {K : PySem.W.Frag} : PySem.W.kitOne K (.type "bool") (.type "str") = some false := kit_ty (by decide) (by decide +kernel) (by decide +kernel)
theorem k_tuple_str {K : PySem.W.Frag} : PySem.W.kitOne K (.type "tuple") (.type "str") = some false := kit_ty (by decide) (by decide +kernel) (by decide +kernel)
theorem k_str_str {K : PySem.W.Frag} : PySem.W.kitOne K (.type "str") (.type "str") = some true := kit_eq (by decide)
/-- what the walk asks of the module -/
structure Txt (K : PySem.W.Frag) (pr : Params) (mg : Str → Option Value) : Prop where
  bnd : ∃ p, mg "BOUNDS" = some (.ref p) ∧ ∀ x ∈ bounds, ∃ q, KHas K pr p x.1 (some (.ref q)) ∧ ∀ H, SqT K H q [.int x.2.1, .int x.2.2]
  prt : ∃ p, mg "PARTS" = some (.ref p) ∧ KLit K pr p ∧ (∀ u, kinds.lookup u = none → KHas K pr p u none) ∧ ∀ x ∈ kinds, ∃ q, KHas K pr p x.1 (some (.ref q)) ∧ ∀ H, SqT K H q (x.2.map V.str)
  mt : ∃ t, mg "MOST_TARGETS" = some (.int 16 t)
  mf : ∃ t, mg "MOST_FIGURES" = some (.int 10 t)
  fig : ∃ t, mg "FIGURES" = some (.str "0123456789" t)
  len : mg "len" = none
  list : mg "list" = none
  tuple : mg "tuple" = none
  int : mg "int" = none
  str : mg "str" = none
  bool : mg "bool" = none
  isi : mg "isinstance" = none
  all : mg "all" = none
  zip : mg "zip" = none
  enum : mg "enumerate" = none
  max : mg "max" = none
  range : mg "range" = none
  min : mg "min" = none
end My


set_option Elab.async false
set_option linter.all false
set_option maxRecDepth 500000
set_option maxHeartbeats 4000000
namespace My
open PySem L2
theorem iteP {c A B : Prop} [Decidable c] (h : c) (a : A) : if c then A else B := by rw [if_pos h]; exact a
theorem iteN {c A B : Prop} [Decidable c] (h : ¬ c) (b : B) : if c then A else B := by rw [if_neg h]; exact b
theorem pg_two {X : Cx} {K : PySem.W.Frag} (hK : X.K = K) {i j : Nat} {x y : Str} {px py pt : Pos} {k : Nat} (hc : X.calm = true) (hN : X.N.Nodup) (hi : X.N[i]? = some x) (hx : Loc X.env.scope x) (hj : X.N[j]? = some y) (hy : Loc X.env.scope y)
    (hf : X.fn x = true ∨ X.env.scope.names.lookup x = some .local := by first | exact .inl rfl | exact .inr rfl) (hf2 : X.fn y = true ∨ X.env.scope.names.lookup y = some .local := by first | exact .inl rfl | exact .inr rfl) :
    PG X (.Tuple [.Name x px, .Name y py] k pt) (gTup K 2 (gCons (gName i) (gCons (gName j) gNil))) := hK ▸ pg_tup (n := 2) hc (pgs_cons (pg_name hN hi hx hf) (pgs_cons (pg_name hN hj hy hf2) pgs_nil))
theorem same_put {H H1 : Hp} {l : Addr} {o : HO} (e : Same H H1) (h : H l = none) : Same H (upd H1 l o) := fun b u z => by
  rw [upd_ne (ne_of_none z h)]
  exact e b u z
/-! ### things: what a row's part may be, what may stand for a row -/
inductive Sc where | int (i : Int) | bl (b : Bool) | non
inductive Pt where | int (i : Int) | bl (b : Bool) | non | str (s : Str) | lst | tup (ss : List Sc)
inductive Th where | non | int (i : Int) | str (s : Str) | bl (b : Bool) | lst | dic | tup (ps : List Pt)
def ScAt (v : V) : Sc → Prop
  | .int i => v = .int i
  | .bl b => v = .bl b
  | .non => v = .non
def PtAt (H : Hp) (v : V) : Pt → Prop
  | .int i => v = .int i
  | .bl b => v = .bl b
  | .non => v = .non
  | .str s => v = .str s
  | .lst => ∃ q xs, v = .ref q ∧ H q = some (.lst xs)
  | .tup ss => ∃ (q : Addr) (xs : List V), v = .ref q ∧ H q = some (.tup xs) ∧ xs.length = ss.length ∧ ∀ (i : Nat) x s, xs[i]? = some x → ss[i]? = some s → ScAt x s
def PtsAt (H : Hp) (xs : List V) (ps : List Pt) : Prop := xs.length = ps.length ∧ ∀ (i : Nat) x p, xs[i]? = some x → ps[i]? = some p → PtAt H x p
def ThAt (H : Hp) (v : V) : Th → Prop
  | .non => v = .non
  | .int i => v = .int i
  | .str s => v = .str s
  | .bl b => v = .bl b
  | .lst => ∃ q xs, v = .ref q ∧ H q = some (.lst xs)
  | .dic => ∃ q kvs, v = .ref q ∧ H q = some (.dK kvs)
  | .tup ps => ∃ q xs, v = .ref q ∧ H q = some (.tup xs) ∧ PtsAt H xs ps
theorem PtAt.same {H H' : Hp} {v : V} {p : Pt} (s : Same H H') (h : PtAt H v p) : PtAt H' v p := by
  cases p with
  | lst => obtain ⟨q, xs, a, b⟩ := h; exact ⟨q, xs, a, s _ _ b⟩
  | tup ss => obtain ⟨q, xs, a, b, c⟩ := h; exact ⟨q, xs, a, s _ _ b, c⟩
  | int i => exact h
  | bl b => exact h
  | non => exact h
  | str x => exact h
theorem PtsAt.same {H H' : Hp} {xs : List V} {ps : List Pt} (s : Same H H') (h : PtsAt H xs ps) : PtsAt H' xs ps := ⟨h.1, fun i x p a b => (h.2 i x p a b).same s⟩
theorem ThAt.same {H H' : Hp} {v : V} {p : Th} (s : Same H H') (h : ThAt H v p) : ThAt H' v p := by
  cases p with
  | lst => obtain ⟨q, xs, a, b⟩ := h; exact ⟨q, xs, a, s _ _ b⟩
  | dic => obtain ⟨q, xs, a, b⟩ := h; exact ⟨q, xs, a, s _ _ b⟩
  | tup ss => obtain ⟨q, xs, a, b, c⟩ := h; exact ⟨q, xs, a, s _ _ b, c.same s⟩
  | int i => exact h
  | bl b => exact h
  | non => exact h
  | str x => exact h
def numS (lo hi : Int) : Sc → Bool
  | .int i => decide (lo ≤ i ∧ i ≤ hi)
  | _ => false
def numP (lo hi : Int) : Pt → Bool
  | .int i => decide (lo ≤ i ∧ i ≤ hi)
  | _ => false
def tgtsP : Pt → Bool
  | .tup ss => decide (1 ≤ ss.length ∧ ss.length ≤ 16) && ss.all (numS 0 1000000000)
  | _ => false
def partP (k : Str) (p : Pt) : Bool := if k = "targets" then tgtsP p else match bounds.lookup k with
  | some b => numP b.1 b.2 p
  | none => false
def areP (ks : List Str) (ps : List Pt) : Bool := decide (ps.length = ks.length) && (ks.zip ps).all fun x => partP x.1 x.2
def rowP : Th → Bool
  | .tup (.str u :: ps) => match kinds.lookup u with
    | some ks => areP ks ps
    | none => false
  | _ => false
def wordV : Th → V
  | .tup (.str u :: _) => .str u
  | _ => .non
/-- a word that is one, or one of the odd ones -/
def ThOk : Th → Prop
  | .tup (.str u :: ps) => ((∃ ks, (u, ks) ∈ kinds) ∨ kinds.lookup u = none) ∧ ps.length ≤ 1000000 ∧ ∀ ss, Pt.tup ss ∈ ps → ss.length ≤ 1000000
  | .tup ps => ps.length ≤ 1000000
  | _ => True
def IsNum (K : PySem.W.Frag) (H : Hp) (x : V) (lo hi : Int) (b : Bool) : Prop := (∃ i : Int, x = .int i ∧ b = decide (lo ≤ i ∧ i ≤ hi)) ∨ (b = false ∧ ((∃ y, x = .bl y) ∨ ∃ t, TyOf K H x t ∧ PySem.W.kitOne K t (.type "int") = some false))
theorem isnumS {K : PySem.W.Frag} {H : Hp} {x : V} {lo hi : Int} {p : Sc} (h : ScAt x p) : IsNum K H x lo hi (numS lo hi p) := by
  cases p with
  | int i => exact .inl ⟨i, h, rfl⟩
  | bl b => exact .inr ⟨rfl, .inl ⟨b, h⟩⟩
  | non => exact .inr ⟨rfl, .inr ⟨_, (show x = .non from h) ▸ .non, k_NoneType_int⟩⟩
theorem isnumP {K : PySem.W.Frag} {H : Hp} {x : V} {lo hi : Int} {p : Pt} (h : PtAt H x p) : IsNum K H x lo hi (numP lo hi p) := by
  cases p with
  | int i => exact .inl ⟨i, h, rfl⟩
  | bl b => exact .inr ⟨rfl, .inl ⟨b, h⟩⟩
  | non => exact .inr ⟨rfl, .inr ⟨_, (show x = .non from h) ▸ .non, k_NoneType_int⟩⟩
  | str u => exact .inr ⟨rfl, .inr ⟨_, (show x = .str u from h) ▸ .str u, k_str_int⟩⟩
  | lst => obtain ⟨q, xs, rfl, b⟩ := h; exact .inr ⟨rfl, .inr ⟨_, .lst b, k_list_int⟩⟩
  | tup ss => obtain ⟨q, xs, rfl, b, _⟩ := h; exact .inr ⟨rfl, .inr ⟨_, .tup b, k_tuple_int⟩⟩
section
variable {P : Program} {w : World} {K : PySem.W.Frag} {mg : Str → Option Value} {base : Heap}
/-! ### is_whole, is_number_of -/
def spWhole : Sp := fun vs H Q _ => ∃ (x : V) (b : Bool), vs = [x] ∧ ((b = true ∧ ∃ i, x = .int i) ∨ (b = false ∧ ((∃ y, x = .bl y) ∨ ∃ t, TyOf K H x t ∧ PySem.W.kitOne K t (.type "int") = some false))) ∧ Q (.bl b) H
theorem scWhole : FnScope ["thing"] ["thing"] (defScope sWhole) := ⟨rfl, rfl, rfl, by decide +kernel, rfl, by decide +kernel, by decide +kernel⟩
theorem ok_whole {f : Addr} {fd : FuncData} (F : Fun K "is_whole" "is_whole" sWhole f fd) (T : Txt K w.params mg) : FnOk P w K mg base CX0 1 f fd ["thing"] (spWhole (K := K)) := by
  refine F.ok scWhole (fun vs H Q E h => ?_) (fun cdv A outer s H vs Q E hr h => ?_)
  · obtain ⟨x, b, rfl, _⟩ := h
    rfl
  · obtain ⟨x, b, rfl, h, k⟩ := h
    refine ⟨_, (pss_one (ps_ret (pe_and (pe_callB call_isinst (by rfl) T.isi bt_isi (pa_cons (pv 0) (pa_cons (pe_bltn (v := .ty "int") (by rfl) T.int bt_int rfl) pa_nil))) (pe_one (pe_not (pe_callB call_isinst (by rfl) T.isi bt_isi (pa_cons (pv 0) (pa_cons (pe_bltn (v := .ty "bool") (by rfl) T.bool bt_bool rfl) pa_nil)))))))), ?_⟩
    rcases h with ⟨rfl, i, rfl⟩ | ⟨rfl, ⟨y, rfl⟩ | ⟨t, ht, hk⟩⟩
    · refine ⟨_, rfl, _, _, _, _, rfl, .int _, k_int_int, true, rfl, iteP rfl ?_⟩
      exact ⟨_, rfl, _, _, _, _, rfl, .int _, k_int_bool, false, rfl, k⟩
    · refine ⟨_, rfl, _, _, _, _, rfl, .bl _, k_bool_int, true, rfl, iteP rfl ?_⟩
      exact ⟨_, rfl, _, _, _, _, rfl, .bl _, k_bool_bool, true, rfl, k⟩
    · exact ⟨_, rfl, _, _, _, _, rfl, ht, hk, false, rfl, iteN (by decide) k⟩
def spNum : Sp := fun vs H Q _ => ∃ (y : Str × Int × Int) (x : V) (b : Bool), vs = [.str y.1, x] ∧ y ∈ bounds ∧ IsNum K H x y.2.1 y.2.2 b ∧ Q (.bl b) H
theorem scNum : FnScope ["kind", "thing"] ["kind", "thing"] (defScope sNum) := ⟨rfl, rfl, rfl, by decide +kernel, rfl, by decide +kernel, by decide +kernel⟩
theorem ok_num {f fW : Addr} {fd fdW : FuncData} (F : Fun K "is_number_of" "is_number_of" sNum f fd) (T : Txt K w.params mg) (GW : FnOk P w K mg base CX0 1 fW fdW ["thing"] (spWhole (K := K))) (kW : PySem.W.keepIn K (.ref fW) = true) (bW : Binds K fdW ["thing"] []) (mW : mg "is_whole" = some (.ref fW)) : FnOk P w K mg base CX0 2 f fd ["kind", "thing"] (spNum (K := K)) := by
  refine F.ok scNum (fun vs H Q E h => ?_) (fun cdv A outer s H vs Q E hr h => ?_)
  · obtain ⟨y, x, b, rfl, _⟩ := h
    rfl
  · obtain ⟨y, x, b, rfl, hy, h, k⟩ := h
    obtain ⟨p, hp, hb⟩ := T.bnd
    obtain ⟨q, hk, hq⟩ := hb y hy
    refine ⟨_, (pss_one (ps_ret (pe_and (pe_call GW hr (by rfl) mW kW bW .nil pass0 (pa_cons (pv 1) pa_nil)) (pe_one (pe_chain op_le op_le (pe_ix ix_tup (pe_kget (pe_glob (v := .ref p) (by rfl) hp rfl) (pv 0) (fun _ _ => rfl)) pe_int (fun _ _ => rfl)) (pv 1) (pe_ix ix_tup (pe_kget (pe_glob (v := .ref p) (by rfl) hp rfl) (pv 0) (fun _ _ => rfl)) pe_int (fun _ _ => rfl))))))), ?_⟩
    rcases h with ⟨i, rfl, rfl⟩ | ⟨rfl, h⟩
    · refine ⟨_, rfl, _, true, rfl, .inl ⟨rfl, i, rfl⟩, true, rfl, iteP rfl ?_⟩
      refine ⟨_, rfl, p, _, _, rfl, rfl, hk, q, _, 0, _, rfl, rfl, hq _, at0 _ _, _, rfl, _, _, rfl, rfl, _, rfl, ?_⟩
      by_cases h0 : y.2.1 ≤ i
      · refine iteP (decide_eq_true h0) ?_
        refine ⟨_, rfl, p, _, _, rfl, rfl, hk, q, _, 1, _, rfl, rfl, hq _, at1 _ _ _, _, _, rfl, rfl, ?_⟩
        have e : decide (y.2.1 ≤ i ∧ i ≤ y.2.2) = decide (i ≤ y.2.2) := decide_eq_decide.mpr ⟨fun z => z.2, fun z => ⟨h0, z⟩⟩
        rw [e] at k
        exact k
      · refine iteN (fun z => h0 (of_decide_eq_true z)) ?_
        rw [decide_eq_false (fun z => h0 z.1)] at k
        exact k
    · exact ⟨_, rfl, _, false, rfl, .inr ⟨rfl, h⟩, false, rfl, iteN (by decide) k⟩
end
end My


set_option Elab.async false
set_option linter.all false
set_option maxRecDepth 500000
set_option maxHeartbeats 4000000
namespace My
open PySem L2
theorem all_take {α : Type} {g : α → Bool} {l : List α} {i : Nat} {x : α} (h : l[i]? = some x) : ((l.take i).map g) ++ [g x] = (l.take (i + 1)).map g := by
  rw [List.take_succ, h, List.map_append]
  rfl
section
variable {P : Program} {w : World} {K : PySem.W.Frag} {mg : Str → Option Value} {base : Heap}
/-! ### is_targets, is_part -/
def spTgts : Sp := fun vs H Q _ => ∃ (v : V) (p : Pt), vs = [v] ∧ PtAt H v p ∧ (∀ ss, p = .tup ss → ss.length ≤ 1000000) ∧ ∀ H', Same H H' → Q (.bl (tgtsP p)) H'
theorem scTgts : FnScope ["thing"] ["thing"] (defScope sTgts) := ⟨rfl, rfl, rfl, by decide +kernel, rfl, by decide +kernel, by decide +kernel⟩
def csTgtsC1 : Scope := { kind := .function, names := [(".0", .local), ("target", .local), ("is_number_of", .globalImplicit)], isGenerator := false, isCoroutine := false, more := [] }
theorem scTgtsC1 : CompSc (defScope sTgts) csTgtsC1 ["thing"] ["target"] [none] := ⟨rfl, by decide +kernel, by decide +kernel, by decide +kernel, by decide +kernel, by decide +kernel⟩
theorem ok_tgts {f fN : Addr} {fd fdN : FuncData} (F : Fun K "is_targets" "is_targets" sTgts f fd) (T : Txt K w.params mg) (GN : FnOk P w K mg base CX0 2 fN fdN ["kind", "thing"] (spNum (K := K))) (kN : PySem.W.keepIn K (.ref fN) = true) (bN : Binds K fdN ["kind", "thing"] []) (mN : mg "is_number_of" = some (.ref fN)) : FnOk P w K mg base CX0 3 f fd ["thing"] spTgts := by
  refine F.ok scTgts (fun vs H Q E h => ?_) (fun cdv A outer s H vs Q E hr h => ?_)
  · obtain ⟨v, p, rfl, _⟩ := h
    rfl
  · obtain ⟨v, p, rfl, hv, h17, k⟩ := h
    obtain ⟨tm, hmt⟩ := T.mt
    refine ⟨_, (pss_cons (ps_if (pw_or (pt_not (pt_val (pe_callB call_isinst (by rfl) T.isi bt_isi (pa_cons (pv 0) (pa_cons (pe_bltn (v := .ty "tuple") (by rfl) T.tuple bt_tuple rfl) pa_nil))))) (pw_or1 (pt_not (pt_chain op_le op_le pe_int (pe_callB call_len_seq (by rfl) T.len bt_len (pa_cons (pv 0) pa_nil)) (pe_glob (v := .int 16) (by rfl) hmt ⟨_, rfl⟩))))).pt (pss_one (ps_ret pe_bl)) pss_nil)
      (pss_one (ps_ret (pe_callB (call_allB rfl) (by rfl) T.all bt_all (pa_cons (pe_comp (N' := ["target"]) (fr := [none]) scTgtsC1 rfl (pi_tup (pv 0)) (fun C s0 H0 fp => (pg_name (i := 0) scTgtsC1.nd rfl (Or.inl rfl))) (fun C s0 H0 fp => pts_nil) (fun C s0 H0 fp => (pe_call GN hr (by rfl) mN kN bN .nil pass0 (pa_cons pe_str (pa_cons (pv 0) pa_nil))))) pa_nil))))), ?_⟩
    rcases (show (∃ t, TyOf K H v t ∧ PySem.W.kitOne K t (.type "tuple") = some false ∧ tgtsP p = false) ∨ ∃ ss, p = .tup ss by
      cases p with
      | int i => exact .inl ⟨_, (show v = .int i from hv) ▸ .int i, k_int_tuple, rfl⟩
      | bl b => exact .inl ⟨_, (show v = .bl b from hv) ▸ .bl b, k_bool_tuple, rfl⟩
      | non => exact .inl ⟨_, (show v = .non from hv) ▸ .non, k_NoneType_tuple, rfl⟩
      | str u => exact .inl ⟨_, (show v = .str u from hv) ▸ .str u, k_str_tuple, rfl⟩
      | lst => obtain ⟨q, xs, rfl, b⟩ := hv; exact .inl ⟨_, .lst b, k_list_tuple, rfl⟩
      | tup ss => exact .inr ⟨ss, rfl⟩) with ⟨t, ht, hk, hp⟩ | ⟨ss, rfl⟩
    · refine ⟨_, rfl, _, _, _, _, rfl, ht, hk, _, rfl, iteP rfl ?_⟩
      rw [hp] at k
      exact k _ (.refl _)
    · obtain ⟨q, xs, rfl, hq, hl, hs⟩ := hv
      have hsl := h17 ss rfl
      refine ⟨_, rfl, _, _, _, _, rfl, .tup hq, k_tuple_tuple, _, rfl, iteN (by decide) ?_⟩
      refine ⟨_, rfl, q, _, rfl, .inr (SqT.of hq), _, _, rfl, rfl, _, rfl, ?_⟩
      have bad : ¬ (1 ≤ ss.length ∧ ss.length ≤ 16) → tgtsP (.tup ss) = false := fun z => by show (decide _ && _) = false; rw [decide_eq_false z]; rfl
      by_cases h1 : (1 : Int) ≤ (xs.length : Int)
      · refine iteP (decide_eq_true h1) ?_
        refine ⟨_, _, rfl, rfl, _, rfl, ?_⟩
        by_cases h2 : (xs.length : Int) ≤ 16
        · refine iteN (by rw [decide_eq_true h2]; decide) ?_
          refine ⟨_, rfl, q, rfl, ⟨_, SqT.of hq⟩, fun D nD => comp_tup (K := K) (a := q) (xs := xs) (fun i σ ys H1 => ∃ (v : Option V), σ = [v] ∧ ys = (((ss.take i).map (numS 0 1000000000)).map V.bl) ∧ Same H H1 ∧ H1 D = some (.lst ys)) ?_ ?_ ?_ ?_⟩
          · exact ⟨none, rfl, rfl, same_new nD, upd_same⟩
          · rintro i σ ys H1 _ ⟨v, rfl, rfl, s1, _⟩
            exact SqT.of (s1 _ _ hq)
          · rintro i x σ ys H1 hx ⟨v, rfl, rfl, s1, hD⟩
            have hil := (List.getElem?_eq_some_iff.mp hx).1
            have hsi : ss[i]? = some ss[i] := List.getElem?_eq_getElem (by omega)
            refine ⟨_, rfl, ("target", 0, 1000000000), x, _, rfl, (by decide), isnumS (hs i x _ hx hsi), hD, ?_, ?_⟩
            · rw [List.length_map, List.length_map, List.length_take]
              exact small1000 (by omega)
            · refine ⟨_, rfl, ?_, same_put s1 nD, upd_same⟩
              rw [← all_take (g := numS 0 1000000000) hsi, List.map_append]
              rfl
          · rintro σ ys H1 ⟨v, rfl, rfl, s1, hD⟩
            refine ⟨D, _, rfl, SqL.of hD, ?_⟩
            have e : (((ss.take xs.length).map (numS 0 1000000000)).all id) = tgtsP (.tup ss) := by
              rw [show ss.take xs.length = ss by rw [hl, List.take_length], List.all_map]
              show _ = (decide _ && _)
              rw [decide_eq_true (show 1 ≤ ss.length ∧ ss.length ≤ 16 by omega), Bool.true_and]
              rfl
            rw [e]
            exact k H1 s1
        · refine iteP (by rw [decide_eq_false h2]; rfl) ?_
          rw [bad (by omega)] at k
          exact k _ (.refl _)
      · refine iteN (fun z => h1 (of_decide_eq_true z)) ?_
        refine ⟨_, rfl, iteP rfl ?_⟩
        rw [bad (by omega)] at k
        exact k _ (.refl _)
def kindOk (k : Str) : Prop := k = "targets" ∨ ∃ b, (k, b) ∈ bounds
def spPart : Sp := fun vs H Q _ => ∃ (kd : Str) (v : V) (p : Pt), vs = [.str kd, v] ∧ kindOk kd ∧ PtAt H v p ∧ (∀ ss, p = .tup ss → ss.length ≤ 1000000) ∧ ∀ H', Same H H' → Q (.bl (partP kd p)) H'
theorem scPart : FnScope ["kind", "thing"] ["kind", "thing"] (defScope sPart) := ⟨rfl, rfl, rfl, by decide +kernel, rfl, by decide +kernel, by decide +kernel⟩
theorem ok_part {f fN fT : Addr} {fd fdN fdT : FuncData} (F : Fun K "is_part" "is_part" sPart f fd) (T : Txt K w.params mg) (GT : FnOk P w K mg base CX0 3 fT fdT ["thing"] spTgts) (kT : PySem.W.keepIn K (.ref fT) = true) (bT : Binds K fdT ["thing"] []) (mT : mg "is_targets" = some (.ref fT)) (GN : FnOk P w K mg base CX0 2 fN fdN ["kind", "thing"] (spNum (K := K))) (kN : PySem.W.keepIn K (.ref fN) = true) (bN : Binds K fdN ["kind", "thing"] []) (mN : mg "is_number_of" = some (.ref fN)) : FnOk P w K mg base CX0 4 f fd ["kind", "thing"] spPart := by
  refine F.ok scPart (fun vs H Q E h => ?_) (fun cdv A outer s H vs Q E hr h => ?_)
  · obtain ⟨kd, v, p, rfl, _⟩ := h
    rfl
  · obtain ⟨kd, v, p, rfl, hk, hv, h17, k⟩ := h
    have hr2 := hr.mono (show 2 ≤ 3 by decide)
    refine ⟨_, (pss_cons (ps_if (pt_cmpR op_eq (pv 0) pe_str (nomark _)) (pss_one (ps_ret (pe_call GT hr (by rfl) mT kT bT .nil pass0 (pa_cons (pv 1) pa_nil)))) pss_nil)
      (pss_one (ps_ret (pe_call GN hr2 (by rfl) mN kN bN .nil pass0 (pa_cons (pv 0) (pa_cons (pv 1) pa_nil)))))), ?_⟩
    refine ⟨_, rfl, rfl, _, rfl, ?_⟩
    by_cases ht : kd = "targets"
    · subst ht
      refine iteP (by decide) ?_
      exact ⟨_, rfl, v, p, rfl, hv, h17, fun H' s' => by have := k H' s'; unfold partP at this; rw [if_pos rfl] at this; exact this⟩
    · refine iteN (fun z => ht (strEq z)) ?_
      obtain ⟨b, hb⟩ := hk.resolve_left ht
      have hlk : bounds.lookup kd = some b := (by decide +kernel : ∀ y ∈ bounds, bounds.lookup y.1 = some y.2) _ hb
      refine ⟨_, rfl, _, rfl, (kd, b), v, _, rfl, hb, isnumP hv, ?_⟩
      have := k H (.refl _)
      unfold partP at this
      rw [if_neg ht, hlk] at this
      exact this
/-! ### are_parts -/
def spAre : Sp := fun vs H Q _ => ∃ (q p1 : Addr) (ks : List Str) (items : List V) (ps : List Pt), vs = [.ref q, .ref p1] ∧ (∀ H, SqT K H q (ks.map V.str)) ∧ H p1 = some (.tup items) ∧ ks.length ≤ 3 ∧ (∀ k ∈ ks, kindOk k) ∧ PtsAt H items ps ∧ (∀ ss, Pt.tup ss ∈ ps → ss.length ≤ 1000000) ∧ ∀ H', Same H H' → Q (.bl (areP ks ps)) H'
theorem scAre : FnScope ["kinds", "things"] ["kinds", "things"] (defScope sAre) := ⟨rfl, rfl, rfl, by decide +kernel, rfl, by decide +kernel, by decide +kernel⟩
def csAreC1 : Scope := { kind := .function, names := [(".0", .local), ("kind", .local), ("thing", .local), ("is_part", .globalImplicit)], isGenerator := false, isCoroutine := false, more := [] }
theorem scAreC1 : CompSc (defScope sAre) csAreC1 ["kinds", "things"] ["kind", "thing"] [none, none] := ⟨rfl, by decide +kernel, by decide +kernel, by decide +kernel, by decide +kernel, by decide +kernel⟩
theorem ok_are {f fP : Addr} {fd fdP : FuncData} (F : Fun K "are_parts" "are_parts" sAre f fd) (T : Txt K w.params mg) (GP : FnOk P w K mg base CX0 4 fP fdP ["kind", "thing"] spPart) (kP : PySem.W.keepIn K (.ref fP) = true) (bP : Binds K fdP ["kind", "thing"] []) (mP : mg "is_part" = some (.ref fP)) : FnOk P w K mg base CX0 5 f fd ["kinds", "things"] (spAre (K := K)) := by
  refine F.ok scAre (fun vs H Q E h => ?_) (fun cdv A outer s H vs Q E hr h => ?_)
  · obtain ⟨q, p1, ks, items, ps, rfl, _⟩ := h
    rfl
  · obtain ⟨q, p1, ks, items, ps, rfl, hq, hp1, h3, hko, hpt, h17, k⟩ := h
    refine ⟨_, (pss_one (ps_ret (pe_and (pe_cmpR op_eq (pe_callB call_len_seq (by rfl) T.len bt_len (pa_cons (pv 1) pa_nil)) (pe_callB call_len_seq (by rfl) T.len bt_len (pa_cons (pv 0) pa_nil)) (nomark _)) (pe_one (pe_callB (call_allB rfl) (by rfl) T.all bt_all (pa_cons (pe_comp (N' := ["kind", "thing"]) (fr := [none, none]) scAreC1 rfl (pi_zip rfl T.zip (pa_cons (pv 0) (pa_cons (pv 1) pa_nil))) (fun C s0 H0 fp => (pg_two (K := K) (i := 0) (j := 1) rfl rfl scAreC1.nd rfl (Or.inl rfl) rfl (Or.inl rfl))) (fun C s0 H0 fp => pts_nil) (fun C s0 H0 fp => (pe_call GP hr (by rfl) mP kP bP .nil pass0 (pa_cons (pv 0) (pa_cons (pv 1) pa_nil))))) pa_nil)))))), ?_⟩
    refine ⟨_, rfl, p1, _, rfl, .inr (SqT.of hp1), _, rfl, q, _, rfl, .inr (hq _), rfl, _, rfl, ?_⟩
    by_cases hlen : items.length = ks.length
    · refine iteP (decide_eq_true (by rw [List.length_map, hlen])) ?_
      have hpl := hpt.1
      refine ⟨_, rfl, _, rfl, q, p1, rfl, ⟨_, hq _⟩, ⟨_, SqT.of hp1⟩, fun D nD => comp_zip (K := K) (a := q) (b := p1) (xs := ks.map V.str) (zs := items) (by rw [List.length_map, hlen])
        (fun i σ ys H1 => ∃ (v1 v2 : Option V), σ = [v1, v2] ∧ ys = ((((ks.zip ps).take i).map fun x => partP x.1 x.2).map V.bl) ∧ Same H H1 ∧ H1 D = some (.lst ys)) ?_ ?_ ?_ ?_⟩
      · exact ⟨none, none, rfl, rfl, same_new nD, upd_same⟩
      · rintro i σ ys H1 _ ⟨v1, v2, rfl, rfl, s1, _⟩
        exact ⟨hq _, SqT.of (s1 _ _ hp1)⟩
      · rintro i y z σ ys H1 t hy hz nt ⟨v1, v2, rfl, rfl, s1, hD⟩
        rw [List.getElem?_map] at hy
        obtain ⟨kd, hkd, rfl⟩ := Option.map_eq_some_iff.mp hy
        have hil := (List.getElem?_eq_some_iff.mp hkd).1
        have hpi : ps[i]? = some ps[i] := List.getElem?_eq_getElem (by omega)
        have hzi : (ks.zip ps)[i]? = some (kd, ps[i]) := by rw [List.getElem?_zip_eq_some]; exact ⟨hkd, hpi⟩
        have s3 := same_new (o := .tup [.str kd, z]) nt
        refine ⟨t, _, rfl, SqT.of upd_same, rfl, _, _, rfl, _, _, rfl, rfl, ?_⟩
        refine ⟨_, rfl, _, rfl, kd, z, ps[i], rfl, hko kd (List.mem_of_getElem? hkd), (hpt.2 i z _ hz hpi).same (s1.trans s3), (fun ss e => h17 ss (by rw [← e]; exact List.getElem_mem _)), fun H2 s4 => ⟨s4 _ _ (s3 _ _ hD), ?_, ?_⟩⟩
        · rw [List.length_map, List.length_map, List.length_take]
          exact small1000 (by omega)
        · refine ⟨_, _, rfl, ?_, same_put (s1.trans (s3.trans s4)) nD, upd_same⟩
          rw [← all_take (g := fun x : Str × Pt => partP x.1 x.2) hzi, List.map_append]
          rfl
      · rintro σ ys H1 ⟨v1, v2, rfl, rfl, s1, hD⟩
        refine ⟨D, _, rfl, SqL.of hD, ?_⟩
        have e : ((((ks.zip ps).take (ks.map V.str).length).map fun x => partP x.1 x.2).all id) = areP ks ps := by
          rw [List.take_of_length_le (by rw [List.length_zip, List.length_map]; omega), List.all_map]
          unfold areP
          rw [decide_eq_true (show ps.length = ks.length by omega), Bool.true_and]
          rfl
        rw [e]
        exact k H1 s1
    · refine iteN (fun z => hlen (by have := V.int.inj (of_decide_eq_true z); rw [List.length_map] at this; omega)) ?_
      have e : areP ks ps = false := by
        unfold areP
        rw [decide_eq_false (by have := hpt.1; omega)]
        rfl
      rw [e] at k
      exact k _ (.refl _)
end
end My


set_option Elab.async false
set_option linter.all false
set_option maxRecDepth 500000
set_option maxHeartbeats 4000000
namespace My
open PySem L2
theorem cut1 (a : V) (l : List V) : cutV (a :: l) (some 1) none = l := by
  unfold cutV
  simp [HT.sIx]
theorem ThAt.first {H : Hp} {q : Addr} {xs : List V} {p : Pt} {ps : List Pt} (h : PtsAt H xs (p :: ps)) : ∃ x r, xs = x :: r ∧ PtAt H x p ∧ PtsAt H r ps := by
  cases xs with
  | nil => have := h.1; simp at this
  | cons x r => exact ⟨x, r, rfl, h.2 0 x p rfl rfl, by have := h.1; simpa using this, fun i y z a b => h.2 (i + 1) y z a b⟩
section
variable {P : Program} {w : World} {K : PySem.W.Frag} {mg : Str → Option Value} {base : Heap}
/-! ### word_of -/
def spWord : Sp := fun vs H Q _ => ∃ (v : V) (th : Th), vs = [v] ∧ ThAt H v th ∧ Q (wordV th) H
theorem scWord : FnScope ["thing"] ["thing"] (defScope sWord) := ⟨rfl, rfl, rfl, by decide +kernel, rfl, by decide +kernel, by decide +kernel⟩
theorem ok_word {f : Addr} {fd : FuncData} (F : Fun K "word_of" "word_of" sWord f fd) (T : Txt K w.params mg) : FnOk P w K mg base CX0 1 f fd ["thing"] spWord := by
  refine F.ok scWord (fun vs H Q E h => ?_) (fun cdv A outer s H vs Q E hr h => ?_)
  · obtain ⟨v, th, rfl, _⟩ := h
    rfl
  · obtain ⟨v, th, rfl, hv, k⟩ := h
    refine ⟨_, (pss_cons (ps_if (pw_and (pt_val (pe_callB call_isinst (by rfl) T.isi bt_isi (pa_cons (pv 0) (pa_cons (pe_bltn (v := .ty "tuple") (by rfl) T.tuple bt_tuple rfl) pa_nil)))) (pw_and (pt_cmpR op_gt (pe_callB call_len_seq (by rfl) T.len bt_len (pa_cons (pv 0) pa_nil)) pe_int (nomark _)) (pw_and1 (pt_val (pe_callB call_isinst (by rfl) T.isi bt_isi (pa_cons (pe_ix ix_tup (pv 0) pe_int (fun _ _ => rfl)) (pa_cons (pe_bltn (v := .ty "str") (by rfl) T.str bt_str rfl) pa_nil))))))).pt (pss_one (ps_ret (pe_ix ix_tup (pv 0) pe_int (fun _ _ => rfl)))) pss_nil)
      (pss_one (ps_ret pe_non))), ?_⟩
    rcases (show (∃ t, TyOf K H v t ∧ PySem.W.kitOne K t (.type "tuple") = some false ∧ wordV th = .non) ∨ ∃ ps, th = .tup ps by
      cases th with
      | int i => exact .inl ⟨_, (show v = .int i from hv) ▸ .int i, k_int_tuple, rfl⟩
      | bl b => exact .inl ⟨_, (show v = .bl b from hv) ▸ .bl b, k_bool_tuple, rfl⟩
      | non => exact .inl ⟨_, (show v = .non from hv) ▸ .non, k_NoneType_tuple, rfl⟩
      | str u => exact .inl ⟨_, (show v = .str u from hv) ▸ .str u, k_str_tuple, rfl⟩
      | lst => obtain ⟨q, xs, rfl, b⟩ := hv; exact .inl ⟨_, .lst b, k_list_tuple, rfl⟩
      | dic => obtain ⟨q, xs, rfl, b⟩ := hv; exact .inl ⟨_, .dK b, k_dict_tuple, rfl⟩
      | tup ps => exact .inr ⟨ps, rfl⟩) with ⟨t, ht, hk, hp⟩ | ⟨ps, rfl⟩
    · refine ⟨_, rfl, _, _, _, _, rfl, ht, hk, _, rfl, iteN (by decide) ?_⟩
      rw [hp] at k
      exact k
    · obtain ⟨q, xs, rfl, hq, hps⟩ := hv
      refine ⟨_, rfl, _, _, _, _, rfl, .tup hq, k_tuple_tuple, _, rfl, iteP rfl ?_⟩
      refine ⟨_, rfl, q, _, rfl, .inr (SqT.of hq), _, _, rfl, rfl, _, rfl, ?_⟩
      cases ps with
      | nil =>
        have hx : xs = [] := List.length_eq_zero_iff.mp hps.1
        subst hx
        exact iteN (by decide) k
      | cons p ps =>
        obtain ⟨x, r, rfl, hx, _⟩ := ThAt.first (q := q) hps
        refine iteP (decide_eq_true (by rw [List.length_cons]; omega)) ?_
        rcases (show (∃ u, p = .str u ∧ x = .str u) ∨ (wordV (.tup (p :: ps)) = .non ∧ ∃ t, TyOf K H x t ∧ PySem.W.kitOne K t (.type "str") = some false) by
          cases p with
          | int i => exact .inr ⟨rfl, _, (show x = .int i from hx) ▸ .int i, k_int_str⟩
          | bl b => exact .inr ⟨rfl, _, (show x = .bl b from hx) ▸ .bl b, k_bool_str⟩
          | non => exact .inr ⟨rfl, _, (show x = .non from hx) ▸ .non, k_NoneType_str⟩
          | str u => exact .inl ⟨u, rfl, hx⟩
          | lst => obtain ⟨q, xs, rfl, b⟩ := hx; exact .inr ⟨rfl, _, .lst b, k_list_str⟩
          | tup ss => obtain ⟨q, xs, rfl, b, _⟩ := hx; exact .inr ⟨rfl, _, .tup b, k_tuple_str⟩) with ⟨u, rfl, rfl⟩ | ⟨hp, t, ht, hk⟩
        · refine ⟨_, rfl, q, _, 0, _, rfl, rfl, SqT.of hq, at0 _ _, _, _, _, _, rfl, .str u, k_str_str, _, rfl, iteP rfl ?_⟩
          exact ⟨_, rfl, q, _, 0, _, rfl, rfl, SqT.of hq, at0 _ _, k⟩
        · refine ⟨_, rfl, q, _, 0, _, rfl, rfl, SqT.of hq, at0 _ _, _, _, _, _, rfl, ht, hk, _, rfl, iteN (by decide) ?_⟩
          rw [hp] at k
          exact k
/-! ### is_row -/
def spIsRow : Sp := fun vs H Q _ => ∃ (v : V) (th : Th), vs = [v] ∧ ThAt H v th ∧ ThOk th ∧ ∀ H', Same H H' → Q (.bl (rowP th)) H'
theorem scIsRow : FnScope ["row", "word"] ["row"] (defScope sIsRow) := ⟨rfl, rfl, rfl, by decide +kernel, rfl, by decide +kernel, by decide +kernel⟩
theorem ok_isrow {f fH fA : Addr} {fd fdH fdA : FuncData} (F : Fun K "is_row" "is_row" sIsRow f fd) (T : Txt K w.params mg) (GH : FnOk P w K mg base CX0 1 fH fdH ["thing"] spWord) (kH : PySem.W.keepIn K (.ref fH) = true) (bH : Binds K fdH ["thing"] []) (mH : mg "word_of" = some (.ref fH)) (GA : FnOk P w K mg base CX0 5 fA fdA ["kinds", "things"] (spAre (K := K))) (kA : PySem.W.keepIn K (.ref fA) = true) (bA : Binds K fdA ["kinds", "things"] []) (mA : mg "are_parts" = some (.ref fA)) : FnOk P w K mg base CX0 6 f fd ["row"] spIsRow := by
  refine F.ok scIsRow (fun vs H Q E h => ?_) (fun cdv A outer s H vs Q E hr h => ?_)
  · obtain ⟨v, th, rfl, _⟩ := h
    rfl
  · obtain ⟨v, th, rfl, hv, ho, k⟩ := h
    obtain ⟨p, hp, hlit, hodd, hb⟩ := T.prt
    have hr1 := hr.mono (show 1 ≤ 5 by decide)
    refine ⟨_, (pss_cons (ps_set (i := 1) scIsRow.nd rfl (Or.inl rfl) (pe_call GH hr1 (by rfl) mH kH bH .nil pass0 (pa_cons (pv 0) pa_nil)))
      (pss_one (ps_ret (pe_and (pe_cmp (pc_kinO (pv 1) (pe_glob (v := .ref p) (by rfl) hp rfl)) rfl) (pe_one (pe_call GA hr (by rfl) mA kA bA .nil pass0 (pa_cons (pe_kget (pe_glob (v := .ref p) (by rfl) hp rfl) (pv 1) (fun _ _ => rfl)) (pa_cons (pe_slice sl_tup (pv 0) (po_some pe_int) po_none) pa_nil)))))))), ?_⟩
    refine ⟨_, rfl, v, th, rfl, hv, ?_⟩
    rcases (show (wordV th = .non ∧ rowP th = false) ∨ ∃ u ps, th = .tup (.str u :: ps) by
      cases th with
      | tup ps => cases ps with
        | nil => exact .inl ⟨rfl, rfl⟩
        | cons p ps => cases p with
          | str u => exact .inr ⟨u, ps, rfl⟩
          | int i => exact .inl ⟨rfl, rfl⟩
          | bl b => exact .inl ⟨rfl, rfl⟩
          | non => exact .inl ⟨rfl, rfl⟩
          | lst => exact .inl ⟨rfl, rfl⟩
          | tup ss => exact .inl ⟨rfl, rfl⟩
      | int i => exact .inl ⟨rfl, rfl⟩
      | bl b => exact .inl ⟨rfl, rfl⟩
      | non => exact .inl ⟨rfl, rfl⟩
      | lst => exact .inl ⟨rfl, rfl⟩
      | dic => exact .inl ⟨rfl, rfl⟩
      | str u => exact .inl ⟨rfl, rfl⟩) with ⟨hw, hf⟩ | ⟨u, ps, rfl⟩
    · rw [hw]
      refine ⟨_, rfl, p, rfl, .inr ⟨rfl, hlit, _, rfl, iteN (by decide) ?_⟩⟩
      rw [hf] at k
      exact k _ (.refl _)
    · obtain ⟨q, xs, rfl, hq, hps⟩ := hv
      obtain ⟨x, r, rfl, hx, hrest⟩ := ThAt.first (q := q) hps
      obtain rfl : x = .str u := hx
      obtain ⟨hu, hl4, h17⟩ := ho
      rcases hu with ⟨ks, hks⟩ | hu
      · obtain ⟨q2, hk, hq2⟩ := hb _ hks
        have hlk : kinds.lookup u = some ks := (by decide +kernel : ∀ y ∈ kinds, kinds.lookup y.1 = some y.2) _ hks
        have hkk : ks.length ≤ 3 ∧ ∀ k ∈ ks, kindOk k := by
          have z := (by decide +kernel : ∀ y ∈ kinds, y.2.length ≤ 3 ∧ ∀ k ∈ y.2, k = "targets" ∨ (bounds.lookup k).isSome = true) _ hks
          refine ⟨z.1, fun k hk => (z.2 k hk).imp id fun h => ?_⟩
          obtain ⟨b, hb⟩ := Option.isSome_iff_exists.mp h
          exact ⟨b, (by
            have key : ∀ (l : List (Str × Int × Int)) (k : Str) b, l.lookup k = some b → (k, b) ∈ l := fun l => by
              induction l with
              | nil => intro k b h; cases h
              | cons y l ih =>
                intro k b h
                rw [List.lookup_cons] at h
                split at h
                · rename_i e
                  have e := beq_iff_eq.mp e
                  cases h
                  subst e
                  exact List.mem_cons_self
                · exact List.mem_cons_of_mem _ (ih k b h)
            exact key _ _ _ hb)⟩
        refine ⟨_, rfl, p, rfl, .inl ⟨u, _, rfl, hk, _, rfl, iteP rfl ?_⟩⟩
        refine ⟨_, rfl, p, _, _, rfl, rfl, hk, _, rfl, _, rfl, q, _, rfl, SqT.of hq, (by simp [HT.sIx]), fun p1 n1 => ?_⟩
        rw [cut1]
        have e : rowP (.tup (.str u :: ps)) = areP ks ps := by
          show (match kinds.lookup u with | some ks => areP ks ps | none => false) = _
          rw [hlk]
        rw [e] at k
        exact ⟨q2, p1, ks, r, ps, rfl, hq2, upd_same, hkk.1, hkk.2, hrest.same (same_new n1), h17, fun H' s' => k H' ((same_new n1).trans s')⟩
      · refine ⟨_, rfl, p, rfl, .inl ⟨u, _, rfl, hodd u hu, _, rfl, iteN (by decide) ?_⟩⟩
        have e : rowP (.tup (.str u :: ps)) = false := by
          show (match kinds.lookup u with | some ks => areP ks ps | none => false) = _
          rw [hu]
        rw [e] at k
        exact k _ (.refl _)
end
end My


set_option Elab.async false
set_option linter.all false
set_option maxRecDepth 100000
set_option maxHeartbeats 4000000
namespace L2
open PySem PySem.Spec PyProof.Rows
/-! ### a text walked, sign by sign -/
def chV (x : Str) (i : Nat) : Option V := (x.cps[i]?).map fun c => V.str ⟨#[c]⟩
def Its (x : Str) : It := ⟨fun i _ => i < x.cps.size, fun i H v H' => H' = H ∧ chV x i = some v, fun i _ => x.cps.size ≤ i⟩
theorem turn_ascii {P : Program} {w : World} {K : PySem.W.Frag} {tg : Expr} (x : Str) (t : Tok) (it : Addr) : Turn P w K tg (Its x) [it] it (fun i h => h.IsStrIter it "str_ascii_iterator" x t i) where
  mem := by simp
  obj := fun i h st b hb => by
    have e : b = it := by simpa using hb
    subst e
    obtain ⟨o, e, c, d⟩ := st
    exact ⟨o, e, fun v z => by rw [d] at z; cases z⟩
  keep := fun i h h' st k => by
    obtain ⟨o, e, r⟩ := st
    exact ⟨o, k it (by simp) o e, r⟩
  item := by
    intro X hP hw hK hc i pins s σ H E I hf st hg
    subst hP hw hK
    have hx : x.cps[i]? = some x.cps[i] := Array.getElem?_eq_getElem hg
    obtain ⟨f0, f1, f2, f3, f4, f5⟩ := hf it (by simp)
    refine wpAny_pyNext_ascii_item st hx fun h' st' sb => ?_
    have I1 : Inv X pins σ H { s with heap := h', toks := s.toks + 1 } := I.turned (t' := s.toks + 1) (fun b o hb e => (sb.2 b hb).trans e) f0 f1 f3 f4 f5
    obtain ⟨o, e, c, d⟩ := id st'
    exact ⟨_, rfl, go_of (s := { s with heap := h', toks := s.toks + 1 }) e c d (by decide) ⟨.str ⟨#[x.cps[i]]⟩, H, I1, ⟨_, rfl⟩, ⟨rfl, by unfold chV; rw [hx]; rfl⟩, st', fun b hb => (hf b hb).1⟩⟩
  done := by
    intro X hP hw hK hc i pins s σ H E I hf st hg
    subst hP hw hK
    obtain ⟨f0, f1, f2, f3, f4, f5⟩ := hf it (by simp)
    exact wpAny_pyNext_ascii_end (I.ok.hd hc) st (Array.getElem?_eq_none hg) fun h' eb => ⟨rfl, I.turned (t' := s.toks) (fun b o hb e => eb b o hb e) f0 f1 f3 f4 f5⟩
  self := fun _ _ _ _ _ st h => wpAny_pyIter_striter_ascii st h
section
variable {X : Cx} {tg : Expr}
def iStr (tl : TE) : TI := fun σ H R => tl σ H fun x H1 => ∃ z, x = .str z ∧ z.cps.all (· < 128) = true ∧ R (Its z) H1
theorem pi_str {l : Expr} {tl : TE} (hl : PE X l tl) : PI X tg l (iStr tl) := by
  intro pins s σ H R I h
  refine thn (hl pins s σ H _ I h) fun v s1 ⟨x, H1, I1, r1, q1⟩ => ?_
  obtain ⟨z, e, ha, q⟩ := q1
  subst e
  obtain ⟨t, rfl⟩ := r1
  refine wpAny_pyIter_ascii ha ?_
  refine ⟨s1.heap.objs.size, [s1.heap.objs.size], _, _, H1, rfl, I1.kept (t' := s1.toks) fun b o e => Heap.get?_push_of_some _ e, turn_ascii z t _, ⟨_, Heap.get?_push_size _ rfl, rfl, rfl⟩, fun b hb => ?_, q⟩
  have e : b = s1.heap.objs.size := by simpa using hb
  subst e
  exact I1.fpOk (Nat.le_refl _) (I1.hok.fresh (Nat.le_refl _))
end
theorem comp_str {x : Str} {g : TG} {tt : TT} {te : TE} {R : Hp → Prop} {D : Addr} {σ0 : St} {H0 : Hp} (Pv : Nat → St → List V → Hp → Prop) (h0 : Pv 0 σ0 [] H0)
    (hs : ∀ i v σ ys H, chV x i = some v → Pv i σ ys H → g v σ H fun σ2 H2 => tt σ2 H2 fun b H3 =>
      if b = true then te σ2 H3 fun v H4 => H4 D = some (.lst ys) ∧ ys.length < sizeLine ∧ Pv (i + 1) σ2 (ys ++ [v]) (upd H4 D (.lst (ys ++ [v]))) else Pv (i + 1) σ2 ys H3)
    (hd : ∀ σ ys H, Pv x.cps.size σ ys H → R H) :
    ∃ W : Nat → Nat → St → List V → Hp → Prop, (∃ m, W 0 m σ0 [] H0) ∧ ∀ i m σ ys H, W i m σ ys H →
      ((Its x).stop i H ∧ R H) ∨ ((Its x).go i H ∧ ∃ N : St → List V → Hp → Prop, (∀ σ' ys' H', N σ' ys' H' → ∃ m', m' < m ∧ W (i + 1) m' σ' ys' H') ∧ ∀ v H', (Its x).yld i H v H' → g v σ H' fun σ2 H2 => tt σ2 H2 fun b H3 =>
        if b = true then te σ2 H3 fun v H4 => H4 D = some (.lst ys) ∧ ys.length < sizeLine ∧ N σ2 (ys ++ [v]) (upd H4 D (.lst (ys ++ [v]))) else N σ2 ys H3) := by
  refine ⟨fun i m σ ys H => m = x.cps.size - i ∧ i ≤ x.cps.size ∧ Pv i σ ys H, ⟨x.cps.size, by simp, Nat.zero_le _, h0⟩, ?_⟩
  rintro i m σ ys H ⟨rfl, hi, p⟩
  by_cases hlt : i < x.cps.size
  · refine .inr ⟨hlt, Pv (i + 1), fun σ' ys' H' p' => ⟨x.cps.size - (i + 1), by omega, rfl, hlt, p'⟩, fun v H' y => ?_⟩
    obtain ⟨e, y⟩ := y
    subst e
    exact hs i v σ ys _ y p
  · have e : i = x.cps.size := by omega
    subst e
    exact .inl ⟨Nat.le_refl _, hd σ ys H p⟩
end L2


set_option Elab.async false
set_option linter.all false
set_option maxRecDepth 500000
set_option maxHeartbeats 4000000
namespace My
open PySem L2
section
variable {P : Program} {w : World} {K : PySem.W.Frag} {mg : Str → Option Value} {base : Heap}
/-! ### has_far -/
def spFar : Sp := fun vs H Q _ => ∃ (u : Str) (ks : List Str), vs = [.str u] ∧ (u, ks) ∈ kinds ∧ Q (.bl (decide (("far" : Str) ∈ ks))) H
theorem scFar : FnScope ["word"] ["word"] (defScope sHasFar) := ⟨rfl, rfl, rfl, by decide +kernel, rfl, by decide +kernel, by decide +kernel⟩
theorem ok_far {f : Addr} {fd : FuncData} (F : Fun K "has_far" "has_far" sHasFar f fd) (T : Txt K w.params mg) : FnOk P w K mg base CX0 1 f fd ["word"] spFar := by
  refine F.ok scFar (fun vs H Q E h => ?_) (fun cdv A outer s H vs Q E hr h => ?_)
  · obtain ⟨u, ks, rfl, _⟩ := h
    rfl
  · obtain ⟨u, ks, rfl, hu, k⟩ := h
    obtain ⟨p, hp, hl, ho, hk⟩ := T.prt
    obtain ⟨q, hq, hS⟩ := hk _ hu
    refine ⟨_, (pss_one (ps_ret (pe_cmpR op_in_seq pe_str (pe_kget (pe_glob (v := .ref p) (by rfl) hp rfl) (pv 0) (fun _ _ => rfl)) rfl))), ?_⟩
    refine ⟨_, rfl, p, u, _, rfl, rfl, hq, q, ks.map V.str, rfl, .inr (hS _), rfl, (by rw [List.all_map]; exact List.all_eq_true.mpr fun _ _ => rfl), ?_⟩
    show Q (.bl (inV (.str "far") (ks.map V.str))) H
    rw [inV_str]
    exact k
/-! ### is_figures -/
theorem small_len {n : Nat} (h : n ≤ 1000000) : n ≤ sizeLine := Nat.le_trans h (by decide)
def isFg (c : Nat) : Bool := decide (48 ≤ c ∧ c ≤ 57)
def figP (x : Str) : Bool := x.cps.toList.all isFg && (decide (x = "0") || (decide (¬ x = "") && decide (¬ x.cps[0]? = some 48)))
theorem fig_in : ∀ c : Nat, c < 128 → (!(Builtin.Str.occurrences ("0123456789" : Str) ⟨#[c]⟩ 0 ("0123456789" : Str).length 1).isEmpty) = isFg c := by decide +kernel
def spFig : Sp := fun vs H Q _ => ∃ x : Str, vs = [.str x] ∧ x.cps.all (· < 128) = true ∧ x.cps.size ≤ 500000 ∧ ∀ H', Same H H' → Q (.bl (figP x)) H'
theorem scFig : FnScope ["text"] ["text"] (defScope sIsFig) := ⟨rfl, rfl, rfl, by decide +kernel, rfl, by decide +kernel, by decide +kernel⟩
def csFigC1 : Scope := { kind := .function, names := [(".0", .local), ("sign", .local), ("FIGURES", .globalImplicit)], isGenerator := false, isCoroutine := false, more := [] }
theorem scFigC1 : CompSc (defScope sIsFig) csFigC1 ["text"] ["sign"] [none] := ⟨rfl, by decide +kernel, by decide +kernel, by decide +kernel, by decide +kernel, by decide +kernel⟩
theorem ok_fig {f : Addr} {fd : FuncData} (F : Fun K "is_figures" "is_figures" sIsFig f fd) (T : Txt K w.params mg) : FnOk P w K mg base CX0 1 f fd ["text"] spFig := by
  refine F.ok scFig (fun vs H Q E h => ?_) (fun cdv A outer s H vs Q E hr h => ?_)
  · obtain ⟨x, rfl, _⟩ := h
    rfl
  · obtain ⟨x, rfl, ha, hz, k⟩ := h
    obtain ⟨tf, hfg⟩ := T.fig
    refine ⟨_, (pss_cons (ps_if (pt_not (pt_val (pe_callB (call_allB rfl) (by rfl) T.all bt_all (pa_cons (pe_comp (N' := ["sign"]) (fr := [none]) scFigC1 rfl (pi_str (pv 0)) (fun C s0 H0 fp => (pg_name (i := 0) scFigC1.nd rfl (Or.inl rfl))) (fun C s0 H0 fp => pts_nil) (fun C s0 H0 fp => (pe_cmpR op_in_str (pv 0) (pe_glob (v := .str "0123456789") (by rfl) hfg ⟨_, rfl⟩) rfl))) pa_nil)))) (pss_one (ps_ret pe_bl)) pss_nil)
      (pss_one (ps_ret (pe_or (pe_cmpR op_eq (pv 0) pe_str (nomark _)) (pe_one (pe_and (pe_cmpR op_ne (pv 0) pe_str (nomark _)) (pe_one (pe_cmpR op_ne (pe_ix ix_str (pv 0) pe_int (fun _ _ => rfl)) pe_str (nomark _))))))))), ?_⟩
    refine ⟨_, rfl, x, rfl, ha, fun D nD => comp_str (x := x) (fun i σ ys H2 => ∃ v : Option V, σ = [v] ∧ ys = ((x.cps.toList.take i).map isFg).map V.bl ∧ Same H H2 ∧ H2 D = some (.lst ys)) ?_ ?_ ?_⟩
    · exact ⟨none, rfl, rfl, same_new nD, upd_same⟩
    · rintro i v σ ys H2 hv ⟨v0, rfl, rfl, s2, hD⟩
      unfold chV at hv
      obtain ⟨c, hc, rfl⟩ := Option.map_eq_some_iff.mp hv
      have hi : i < x.cps.size := (Array.getElem?_eq_some_iff.mp hc).1
      have hc' : x.cps.toList[i]? = some c := by rw [Array.getElem?_toList]; exact hc
      have h128 : c < 128 := by
        have := (Array.all_eq_true.mp ha) i hi
        rw [(Array.getElem?_eq_some_iff.mp hc).2] at this
        exact of_decide_eq_true this
      refine ⟨_, rfl, _, _, rfl, rfl, hD, ?_, ?_⟩
      · rw [List.length_map, List.length_map, List.length_take]
        exact Nat.lt_of_le_of_lt (Nat.le_trans (Nat.min_le_left _ _) (show i ≤ 500000 by omega)) (by decide)
      · refine ⟨_, rfl, ?_, same_put s2 nD, upd_same⟩
        rw [fig_in c h128, List.take_add_one, hc', List.map_append, List.map_append]
        rfl
    · rintro σ ys H2 ⟨v0, rfl, rfl, s2, hD⟩
      have et : x.cps.toList.take x.cps.size = x.cps.toList := List.take_of_length_le (by simp)
      rw [et] at hD
      refine ⟨D, _, rfl, SqL.of hD, _, rfl, ?_⟩
      have kk := k H2 s2
      by_cases hall : x.cps.toList.all isFg = true
      · refine iteN (by simp at hall ⊢; exact hall) ?_
        by_cases h0 : x = "0"
        · have e : figP x = true := by unfold figP; rw [hall, decide_eq_true h0]; rfl
          rw [e] at kk
          have e1 : decide (V.str x = V.str "0") = true := decide_eq_true (by rw [h0])
          refine ⟨_, rfl, rfl, _, rfl, iteP e1 ?_⟩
          exact kk
        · have e1 : decide (V.str x = V.str "0") = false := decide_eq_false fun z => h0 (V.str.inj z)
          refine ⟨_, rfl, rfl, _, rfl, iteN (by rw [e1]; decide) ?_⟩
          by_cases h1 : x = ""
          · have e : figP x = false := by
              unfold figP
              rw [hall, decide_eq_false h0, decide_eq_false (show ¬ ¬ x = "" from fun z => z h1)]
              rfl
            rw [e] at kk
            exact ⟨_, rfl, rfl, _, rfl, iteN (by rw [h1]; decide) kk⟩
          · have h2 : ¬ V.str x = V.str "" := fun z => h1 (V.str.inj z)
            cases hx : x.cps.toList with
            | nil => exact absurd (str_ext (y := "") hx) h1
            | cons c r =>
              have h0c : x.cps[0]? = some c := by rw [← Array.getElem?_toList, hx]; rfl
              refine ⟨_, rfl, rfl, _, rfl, iteP (by simp [h2]) ?_⟩
              refine ⟨_, rfl, x, 0, c, rfl, rfl, small_len (by rw [Str.length]; omega), (by rw [hx]; exact at0 _ _), rfl, ?_⟩
              have e : figP x = !decide (V.str ⟨#[c]⟩ = V.str "0") := by
                unfold figP
                rw [hall, decide_eq_false h0, decide_eq_true h1, h0c, Bool.true_and, Bool.false_or, Bool.true_and]
                by_cases hc : c = 48
                · subst hc
                  decide
                · rw [decide_eq_true (show ¬ some c = some 48 from fun z => hc (Option.some.inj z)), decide_eq_false (fun z : V.str ⟨#[c]⟩ = V.str "0" => hc (by have := V.str.inj z; have := congrArg (fun s : Str => s.cps.toList) this; exact (List.cons.inj this).1))]
                  rfl
              rw [e] at kk
              exact kk
      · refine iteP (by simp at hall ⊢; exact hall) ?_
        have e : figP x = false := by unfold figP; rw [Bool.eq_false_iff.mpr hall]; rfl
        rw [e] at kk
        exact kk
end
end My


set_option Elab.async false
set_option linter.all false
set_option maxRecDepth 100000
set_option maxHeartbeats 4000000
namespace L2
open PySem PySem.Spec PyProof.Rows
open Builtin Builtin.Str
/-! ### text[lo:hi] -/
section
variable {X : Cx}
theorem sl_str : SlR X (fun x lo hi H Q => ∃ z : Str, x = .str z ∧ z.length ≤ sizeLine ∧ Q (.str (Txt.slice z lo hi)) H) := by
  intro pins s σ H x v vl vu lo hi sl Q I rx hs pl pu h
  obtain ⟨z, rfl, hz, q⟩ := h
  obtain ⟨t, rfl⟩ := rx
  have fin : ∀ (l u : Option (Int × Tok)), Txt.slice z (l.map (·.1)) (u.map (·.1)) = Txt.slice z lo hi → s.heap.IsSlice sl l u none → wpAny (model X.prog X.w) X.A (getItem (.str z t) (.ref sl)) (EP X pins σ Q) X.xe s := fun l u e hS => by
    refine wpAny_getItem_str_slice hS rfl ?_
    refine post_val_or_str ⟨Nat.le_trans (Txt.slice_le z _ _) hz, fun t' k => ?_⟩
    exact ⟨.str _, H, I.tok k, ⟨_, rfl⟩, by rw [← e] at q; exact q⟩
  cases pl with
  | none =>
    cases pu with
    | none => exact ⟨"str", _, F.slot_str_getitem.lookup, typeIs_str _ _ _, fin none none rfl hs⟩
    | int j tj => exact ⟨"str", _, F.slot_str_getitem.lookup, typeIs_str _ _ _, fin none (some (j, tj)) rfl hs⟩
  | int i ti =>
    cases pu with
    | none => exact ⟨"str", _, F.slot_str_getitem.lookup, typeIs_str _ _ _, fin (some (i, ti)) none rfl hs⟩
    | int j tj => exact ⟨"str", _, F.slot_str_getitem.lookup, typeIs_str _ _ _, fin (some (i, ti)) (some (j, tj)) rfl hs⟩
end
end L2


set_option Elab.async false
set_option linter.all false
set_option maxRecDepth 500000
set_option maxHeartbeats 4000000
namespace My
open PySem L2
open PySem.NumText
/-! ### read_number -/
def negS (x : Str) : Bool := decide (x.cps.toList.head? = some 45)
def tailS (x : Str) : Str := ⟨(x.cps.toList.drop 1).toArray⟩
def figsOf (x : Str) : Str := if negS x = true then tailS x else x
def numOf (x : Str) : Int := ((digitsVal x.cps.toList : Nat) : Int)
def readN (m : Int) (x : Str) : Option Int := if m < ((figsOf x).length : Int) ∨ ¬ figP (figsOf x) = true then none else if negS x = true ∧ figsOf x = "0" then none else some (if negS x = true then -numOf (figsOf x) else numOf (figsOf x))
def ov : Option Int → V
  | none => .non
  | some i => .int i
theorem starts_neg (x : Str) : Txt.startswith x "-" = negS x := by
  obtain ⟨⟨l⟩⟩ := x
  cases l with
  | nil => decide
  | cons c r =>
    show (decide (0 + 1 ≤ (c :: r).toArray.size) && ((c :: r).toArray.extract 0 (0 + 1) == #[45])) = decide (some c = some 45)
    have e : (c :: r).toArray.extract 0 (0 + 1) = #[c] := by simp
    rw [e, decide_eq_true (show 0 + 1 ≤ (c :: r).toArray.size by simp), Bool.true_and]
    by_cases h : c = 45
    · subst h
      decide
    · rw [decide_eq_false (fun z => h (Option.some.inj z))]
      apply beq_false_of_ne
      intro z
      have := congrArg Array.toList z
      exact h (List.cons.inj this).1
theorem slice_tail {x : Str} (h : negS x = true) : Txt.slice x (some 1) none = tailS x := by
  have h1 : (1 : Int) ≤ x.length := by
    have h := of_decide_eq_true h
    cases e : x.cps.toList with
    | nil => rw [e] at h; cases h
    | cons c r =>
      have : x.cps.size = (c :: r).length := by rw [← e]; simp
      show (1 : Int) ≤ ((x.cps.size : Nat) : Int)
      rw [this, List.length_cons]
      omega
  have e := eq_of_beq (PyProof.Rows.slice_closes_fromL (x := x) (i := 1) (b := x.length) (by decide) h1 rfl)
  rw [e]
  unfold tailS
  congr 2
  show (x.cps.toList.drop 1).take _ = _
  apply List.take_of_length_le
  rw [List.length_drop]
  show x.cps.toList.length - 1 ≤ (((x.cps.size : Nat) : Int) - 1).toNat
  simp
theorem fig_digits {x : Str} (h : figP x = true) : AllDigits x.cps.toList ∧ x.cps.toList ≠ [] := by
  unfold figP at h
  rw [Bool.and_eq_true] at h
  refine ⟨fun c hc => of_decide_eq_true ((List.all_eq_true.mp h.1) c hc), fun e => ?_⟩
  have e0 : x = "" := str_ext e
  rw [e0] at h
  exact absurd h.2 (by decide)
section
variable {P : Program} {w : World} {K : PySem.W.Frag} {mg : Str → Option Value} {base : Heap}
def spRdn : Sp := fun vs H Q _ => ∃ (x : Str) (m : Int), vs = [.str x, .int m] ∧ x.cps.all (· < 128) = true ∧ x.cps.size ≤ 500000 ∧ m ≤ 640 ∧ ∀ H', Same H H' → Q (ov (readN m x)) H'
theorem scRdn : FnScope ["text", "most_figures", "below", "figures"] ["text", "most_figures"] (defScope sReadNum) := ⟨rfl, rfl, rfl, by decide +kernel, rfl, by decide +kernel, by decide +kernel⟩
theorem ok_rdn {f fG : Addr} {fd fdG : FuncData} (F : Fun K "read_number" "read_number" sReadNum f fd) (T : Txt K w.params mg) (GG : FnOk P w K mg base CX0 1 fG fdG ["text"] spFig) (kG : PySem.W.keepIn K (.ref fG) = true) (bG : Binds K fdG ["text"] []) (mG : mg "is_figures" = some (.ref fG)) : FnOk P w K mg base CX0 2 f fd ["text", "most_figures"] spRdn := by
  refine F.ok scRdn (fun vs H Q E h => ?_) (fun cdv A outer s H vs Q E hr h => ?_)
  · obtain ⟨x, m, rfl, _⟩ := h
    rfl
  · obtain ⟨x, m, rfl, ha, hz, hm, k⟩ := h
    refine ⟨_, (pss_cons (ps_set (i := 2) scRdn.nd rfl (Or.inl rfl) (pe_bm PySem.F.plainAttrs_str PySem.F.slot_str_startswith PySem.F.type_str_startswith mt_starts (pv 0) (pa_cons pe_str pa_nil)))
      (pss_cons (ps_set (i := 3) scRdn.nd rfl (Or.inl rfl) (pe_ifExp (pt_val (pv 2)) (pe_slice sl_str (pv 0) (po_some pe_int) po_none) (pv 0)))
      (pss_cons (ps_if (pw_or (pt_cmpR op_gt (pe_callB call_len_str (by rfl) T.len bt_len (pa_cons (pv 3) pa_nil)) (pv 1) (nomark _)) (pw_or1 (pt_not (pt_val (pe_call GG hr (by rfl) mG kG bG .nil pass0 (pa_cons (pv 3) pa_nil)))))).pt (pss_one (ps_ret pe_non)) pss_nil)
      (pss_cons (ps_if (pw_and (pt_val (pv 2)) (pw_and1 (pt_cmpR op_eq (pv 3) pe_str (nomark _)))).pt (pss_one (ps_ret pe_non)) pss_nil)
      (pss_one (ps_ret (pe_ifExp (pt_val (pv 2)) (pe_un un_neg (pe_callTy call_int_txt (by rfl) T.int bt_int (pa_cons (pv 3) pa_nil))) (pe_callTy call_int_txt (by rfl) T.int bt_int (pa_cons (pv 3) pa_nil))))))))), ?_⟩
    refine ⟨_, rfl, rfl, x, "-", rfl, rfl, ?_⟩
    rw [starts_neg]
    have hfa : (figsOf x).cps.all (· < 128) = true := by
      unfold figsOf
      split
      · rw [Array.all_eq_true_iff_forall_mem] at ha ⊢
        intro c hc
        exact ha c (Array.mem_def.mpr (List.mem_of_mem_drop (i := 1) (by simpa [tailS] using Array.mem_def.mp hc)))
      · exact ha
    have hfz : (figsOf x).cps.size ≤ 500000 := by
      unfold figsOf
      split
      · show (x.cps.toList.drop 1).toArray.size ≤ 500000
        rw [List.size_toArray, List.length_drop]
        simp
        omega
      · exact hz
    cases hb : negS x with
    | false =>
      have ef : figsOf x = x := if_neg (by rw [hb]; decide)
      rw [ef] at hfa hfz
      have hlen : x.length ≤ 500000 := hfz
      refine ⟨_, rfl, _, rfl, iteN (by decide) ?_⟩
      refine ⟨_, rfl, ?_⟩
      refine ⟨_, rfl, x, rfl, small_len (by omega), _, rfl, _, _, rfl, rfl, _, rfl, ?_⟩
      by_cases hl : m < (x.length : Int)
      · refine iteP (decide_eq_true hl) ?_
        have e : readN m x = none := by unfold readN; rw [ef, if_pos (.inl hl)]
        have kk := k H (.refl _)
        rw [e] at kk
        exact kk
      refine iteN (fun z => hl (of_decide_eq_true z)) ?_
      refine ⟨_, rfl, x, rfl, hfa, hfz, fun H1 s1 => ⟨_, rfl, ?_⟩⟩
      have kk := k H1 s1
      by_cases hf : figP x = true
      · refine iteN (by rw [hf]; decide) ?_
        obtain ⟨hd, hne⟩ := fig_digits hf
        have hn := intText_digits hd hne (by omega)
        have h640 : x.length ≤ 640 := by omega
        refine ⟨_, rfl, _, rfl, iteN (by decide) ?_⟩
        refine ⟨_, rfl, _, rfl, iteN (by decide) ?_⟩
        refine ⟨_, rfl, x, _, rfl, h640, hn, ?_⟩
        have hnb : ¬ negS x = true := by rw [hb]; decide
        have e : readN m x = some (numOf x) := by unfold readN; rw [ef, if_neg (fun z => z.elim hl (fun y => y hf)), if_neg (fun z => hnb z.1), if_neg hnb]
        rw [e] at kk
        exact kk
      · refine iteP (by rw [Bool.eq_false_iff.mpr hf]; decide) ?_
        have e : readN m x = none := by unfold readN; rw [ef, if_pos (.inr hf)]
        rw [e] at kk
        exact kk
    | true =>
      have ef : figsOf x = (tailS x) := if_pos hb
      rw [ef] at hfa hfz
      have hlen : (tailS x).length ≤ 500000 := hfz
      refine ⟨_, rfl, _, rfl, iteP rfl ?_⟩
      refine ⟨_, rfl, 1, rfl, x, rfl, small_len (show x.cps.size ≤ 1000000 by omega), ?_⟩
      rw [slice_tail hb]
      refine ⟨_, rfl, (tailS x), rfl, small_len (by omega), _, rfl, _, _, rfl, rfl, _, rfl, ?_⟩
      by_cases hl : m < ((tailS x).length : Int)
      · refine iteP (decide_eq_true hl) ?_
        have e : readN m x = none := by unfold readN; rw [ef, if_pos (.inl hl)]
        have kk := k H (.refl _)
        rw [e] at kk
        exact kk
      refine iteN (fun z => hl (of_decide_eq_true z)) ?_
      refine ⟨_, rfl, (tailS x), rfl, hfa, hfz, fun H1 s1 => ⟨_, rfl, ?_⟩⟩
      have kk := k H1 s1
      by_cases hf : figP (tailS x) = true
      · refine iteN (by rw [hf]; decide) ?_
        obtain ⟨hd, hne⟩ := fig_digits hf
        have hn := intText_digits hd hne (by omega)
        have h640 : (tailS x).length ≤ 640 := by omega
        refine ⟨_, rfl, _, rfl, iteP rfl ?_⟩
        by_cases h0 : (tailS x) = "0"
        · refine ⟨_, rfl, rfl, _, rfl, iteP (decide_eq_true (by rw [h0])) ?_⟩
          have e : readN m x = none := by unfold readN; rw [ef, if_neg (fun z => z.elim hl (fun y => y hf)), if_pos ⟨hb, h0⟩]
          rw [e] at kk
          exact kk
        · refine ⟨_, rfl, rfl, _, rfl, iteN (fun z => h0 (V.str.inj (of_decide_eq_true z))) ?_⟩
          refine ⟨_, rfl, _, rfl, iteP rfl ?_⟩
          refine ⟨_, rfl, (tailS x), _, rfl, h640, hn, _, rfl, ?_⟩
          have e : readN m x = some (-numOf (tailS x)) := by unfold readN; rw [ef, if_neg (fun z => z.elim hl (fun y => y hf)), if_neg (fun z => h0 z.2), if_pos hb]
          rw [e] at kk
          exact kk
      · refine iteP (by rw [Bool.eq_false_iff.mpr hf]; decide) ?_
        have e : readN m x = none := by unfold readN; rw [ef, if_pos (.inr hf)]
        rw [e] at kk
        exact kk
end
end My


set_option Elab.async false
set_option linter.all false
set_option maxRecDepth 500000
set_option maxHeartbeats 4000000
namespace My
open PySem L2
def tos (i : Int) : Str := Str.ofString (toString i)
theorem join_ok {a : Str} {ts : List Str} (h : (ts.map (·.length)).sum + ts.length * a.length ≤ sizeLine) : JoinOk a ts = true := by
  unfold JoinOk
  rw [StrLaws.joinTotal]
  show (!decide (_ > sizeLine)) = true
  rw [decide_eq_false (by omega)]
  rfl
theorem tos_len {i : Int} (h : i.natAbs < 10 ^ 12) : (tos i).length ≤ 13 := by
  unfold tos
  rw [PySem.ofString_length]
  exact PySem.int_text_length_le10 (k := 12) (by decide) h
theorem sum_le {ts : List Str} {n : Nat} (h : ∀ t ∈ ts, t.length ≤ n) : (ts.map (·.length)).sum ≤ ts.length * n := by
  induction ts with
  | nil => simp
  | cons a r ih =>
    have h1 := h a (by simp)
    have h2 := ih fun t ht => h t (List.mem_cons_of_mem _ ht)
    rw [List.map_cons, List.sum_cons, List.length_cons, Nat.succ_mul]
    omega
def farW (b : Bool) : List Str := if b = true then ["far"] else []
end My


set_option Elab.async false
set_option linter.all false
set_option maxRecDepth 100000
set_option maxHeartbeats 4000000
namespace L2
open PySem PySem.Spec PyProof.Rows
section
variable {X : Cx}
end
end L2


set_option Elab.async false
set_option linter.all false
set_option maxRecDepth 100000
set_option maxHeartbeats 4000000
namespace L2
open PySem PySem.Spec PyProof.Rows
section
variable {X : Cx}
end
end L2


set_option Elab.async false
set_option linter.all false
set_option maxRecDepth 100000
set_option maxHeartbeats 4000000
namespace L2
open PySem PySem.Spec PyProof.Rows
/-! ### things as data, of any depth; == and != of two of them -/
inductive Da where
  | non | bl (b : Bool) | int (i : Int) | str (s : Str) | tup (l : List Da) | lst (l : List Da)
mutual
def Da.beq : Da → Da → Bool
  | .non, .non => true
  | .bl a, .bl b => a == b
  | .int a, .int b => decide (a = b)
  | .str a, .str b => decide (a = b)
  | .tup a, .tup b => Da.beqs a b
  | .lst a, .lst b => Da.beqs a b
  | _, _ => false
def Da.beqs : List Da → List Da → Bool
  | [], [] => true
  | a :: r, b :: t => Da.beq a b && Da.beqs r t
  | _, _ => false
end
mutual
theorem Da.beq_iff : ∀ a b : Da, Da.beq a b = true ↔ a = b
  | .non, b => by cases b <;> simp [Da.beq]
  | .bl x, b => by cases b <;> simp [Da.beq]
  | .int x, b => by cases b <;> simp [Da.beq]
  | .str x, b => by cases b <;> simp [Da.beq]
  | .tup x, b => by
    cases b <;> simp [Da.beq]
    exact Da.beqs_iff _ _
  | .lst x, b => by
    cases b <;> simp [Da.beq]
    exact Da.beqs_iff _ _
theorem Da.beqs_iff : ∀ a b : List Da, Da.beqs a b = true ↔ a = b
  | [], b => by cases b <;> simp [Da.beqs]
  | x :: r, [] => by simp [Da.beqs]
  | x :: r, y :: t => by
    simp [Da.beqs]
    rw [Da.beq_iff x y, Da.beqs_iff r t]
end
instance : DecidableEq Da := fun a b => decidable_of_iff _ (Da.beq_iff a b)
/-- v is the thing that d tells -/
inductive DaAt (K : PySem.W.Frag) (H : Hp) : V → Da → Prop
  | non : DaAt K H .non .non
  | bl (b : Bool) : DaAt K H (.bl b) (.bl b)
  | int (i : Int) : DaAt K H (.int i) (.int i)
  | str (x : Str) : DaAt K H (.str x) (.str x)
  | tup {p : Addr} {xs : List V} {ds : List Da} : SqT K H p xs → xs.length = ds.length → (∀ (i : Nat) x d, xs[i]? = some x → ds[i]? = some d → DaAt K H x d) → DaAt K H (.ref p) (.tup ds)
  | lst {p : Addr} {xs : List V} {ds : List Da} : SqL K H p xs → xs.length = ds.length → (∀ (i : Nat) x d, xs[i]? = some x → ds[i]? = some d → DaAt K H x d) → DaAt K H (.ref p) (.lst ds)
/-- no truth within -/
inductive Da.Nb : Nat → Da → Prop
  | non {n} : Da.Nb n .non
  | int {n i} : Da.Nb n (.int i)
  | str {n i} : Da.Nb n (.str i)
  | tup {n l} : (∀ d ∈ l, Da.Nb n d) → Da.Nb (n + 1) (.tup l)
  | lst {n l} : (∀ d ∈ l, Da.Nb n d) → Da.Nb (n + 1) (.lst l)
theorem beqs_range : ∀ (a b : List Da), a.length = b.length → ((List.range a.length).all fun i => decide (a[i]? = b[i]?)) = decide (a = b) := fun a b h => by
  by_cases e : a = b
  · subst e
    simp
  · rw [decide_eq_false e]
    rw [Bool.eq_false_iff]
    intro z
    apply e
    apply List.ext_getElem? 
    intro i
    by_cases hi : i < a.length
    · have := (List.all_eq_true.mp z) i (List.mem_range.mpr hi)
      exact of_decide_eq_true this
    · rw [List.getElem?_eq_none (by omega), List.getElem?_eq_none (by omega)]
section
variable {X : Cx} {pins : List (Addr × Obj)} {σ : St} {H : Hp} {s : Shared}
theorem arr_at {its : List Value} {xs : List V} (r : Vals xs its) {j : Nat} (h : j < its.toArray.size) : ∃ x, xs[j]? = some x ∧ RelV x its.toArray[j] := by
  have l := r.length
  have j1 : j < xs.length := by simp at h; omega
  have z1 : xs[j]? = some xs[j] := List.getElem?_eq_getElem j1
  obtain ⟨u1, w1, q1⟩ := r.get z1
  have e1 : its.toArray[j] = u1 := by
    have : its[j]? = some its[j] := List.getElem?_eq_getElem (by omega)
    rw [this] at w1
    simpa using w1
  exact ⟨_, z1, by rw [e1]; exact q1⟩
theorem not_both {p : Addr} {i1 i2 : Array Value} (t1 : s.heap.IsTuple p i1) (t2 : s.heap.IsList p i2) : False := by
  obtain ⟨o, e, c1, n, d⟩ := t1
  obtain ⟨o', e', c2, n', d'⟩ := t2
  rw [e] at e'; cases e'
  rw [c1] at c2
  exact absurd c2 (by decide)
theorem da_one (I : Inv X pins σ H s) {x : V} {a b : Da} (ha : DaAt X.K H x a) (hb : DaAt X.K H x b) : a = b := by
  induction ha generalizing b with
  | non => cases hb; rfl
  | bl _ => cases hb; rfl
  | int _ => cases hb; rfl
  | str _ => cases hb; rfl
  | @tup p xs ds hp hl hd ih =>
    cases hb with
    | @tup q ys es hq hl2 hd2 =>
      have exy : xs = ys := I.tuple_inj hp hq
      subst exy
      refine congrArg Da.tup ?_
      apply List.ext_getElem (by omega)
      intro j h1 h2
      have g0 : xs[j]? = some xs[j] := List.getElem?_eq_getElem (by omega)
      have g1 : ds[j]? = some ds[j] := List.getElem?_eq_getElem h1
      have g2 : es[j]? = some es[j] := List.getElem?_eq_getElem h2
      exact ih j _ _ g0 g1 (hd2 j _ _ g0 g2)
    | @lst q ys es hq hl2 hd2 =>
      obtain ⟨i1, r1, t1, _⟩ := I.tuple hp
      obtain ⟨i2, r2, t2, _⟩ := I.list hq
      exact (not_both t1 t2.isList).elim
  | @lst p xs ds hp hl hd ih =>
    cases hb with
    | @lst q ys es hq hl2 hd2 =>
      have exy : xs = ys := I.list_inj hp hq
      subst exy
      refine congrArg Da.lst ?_
      apply List.ext_getElem (by omega)
      intro j h1 h2
      have g0 : xs[j]? = some xs[j] := List.getElem?_eq_getElem (by omega)
      have g1 : ds[j]? = some ds[j] := List.getElem?_eq_getElem h1
      have g2 : es[j]? = some es[j] := List.getElem?_eq_getElem h2
      exact ih j _ _ g0 g1 (hd2 j _ _ g0 g2)
    | @tup q ys es hq hl2 hd2 =>
      obtain ⟨i1, r1, t1, _⟩ := I.tuple hq
      obtain ⟨i2, r2, t2, _⟩ := I.list hp
      exact (not_both t1 t2.isList).elim
/-- two rows of things, side by side -/
theorem rows_at {A : Around} {m : Nat} {xs ys : List V} {ds es : List Da} {i1 i2 : List Value} (r1 : Vals xs i1) (r2 : Vals ys i2) (hl : xs.length = ds.length) (hl2 : ys.length = es.length)
    (ih : ∀ (j : Nat) x d y e u v, xs[j]? = some x → ds[j]? = some d → ys[j]? = some y → es[j]? = some e → RelV x u → RelV y v → SeqAt.EqAt A s u v (decide (d = e)))
    (j : Nat) (h1 : j < i1.toArray.size) (h2 : j < i2.toArray.size) : SeqAt.EqAt A s i1.toArray[j] i2.toArray[j] (decide (ds[j]? = es[j]?)) := by
  obtain ⟨x1, z1, q1⟩ := arr_at r1 h1
  obtain ⟨x2, z2, q2⟩ := arr_at r2 h2
  have k1 := (List.getElem?_eq_some_iff.mp z1).1
  have k2 := (List.getElem?_eq_some_iff.mp z2).1
  have g1 : ds[j]? = some (ds[j]'(by omega)) := List.getElem?_eq_getElem (by omega)
  have g2 : es[j]? = some (es[j]'(by omega)) := List.getElem?_eq_getElem (by omega)
  have r := ih j x1 _ x2 _ _ _ z1 g1 z2 g2 q1 q2
  have e : decide (ds[j]? = es[j]?) = decide (ds[j]'(by omega) = es[j]'(by omega)) := by rw [g1, g2]; simp
  rw [e]
  exact r
theorem tup_b {xs ys : List V} {ds es : List Da} {i1 i2 : List Value} (r1 : Vals xs i1) (r2 : Vals ys i2) (hl : xs.length = ds.length) (hl2 : ys.length = es.length) :
    ((List.range (min i1.toArray.size i2.toArray.size)).all (fun j => decide (ds[j]? = es[j]?)) && i1.toArray.size == i2.toArray.size) = decide (ds = es) := by
  have l1 := r1.length
  have l2 := r2.length
  by_cases z : ds.length = es.length
  · have y := beqs_range ds es z
    have s1 : i1.toArray.size = ds.length := by simp; omega
    have s2 : i2.toArray.size = ds.length := by simp; omega
    rw [s1, s2, Nat.min_self, y]
    simp
  · rw [decide_eq_false (fun y => z (by rw [y]))]
    have : (i1.toArray.size == i2.toArray.size) = false := by simp; omega
    rw [this, Bool.and_false]
theorem lst_b {xs ys : List V} {ds es : List Da} {i1 i2 : List Value} (r1 : Vals xs i1) (r2 : Vals ys i2) (hl : xs.length = ds.length) (hl2 : ys.length = es.length) (z : ds.length = es.length) :
    ((List.range i1.toArray.size).all (fun j => decide (ds[j]? = es[j]?))) = decide (ds = es) := by
  have l1 := r1.length
  have s1 : i1.toArray.size = ds.length := by simp; omega
  rw [s1, beqs_range ds es z]
theorem dec_tup (ds es : List Da) : decide (Da.tup ds = Da.tup es) = decide (ds = es) := decide_eq_decide.mpr ⟨Da.tup.inj, congrArg _⟩
theorem dec_lst (ds es : List Da) : decide (Da.lst ds = Da.lst es) = decide (ds = es) := decide_eq_decide.mpr ⟨Da.lst.inj, congrArg _⟩
theorem da_at {A : Around} {n : Nat} (hu : A.units + n < cLine) (I : Inv X pins σ H s) {x y : V} {a b : Da} (ha : DaAt X.K H x a) (hb : DaAt X.K H y b) (na : a.Nb n) (nb : b.Nb n) {u v : Value} (ru : RelV x u) (rv : RelV y v) : SeqAt.EqAt A s u v (decide (a = b)) := by
  induction ha generalizing A n y b u v with
  | non =>
    obtain rfl : u = Value.none := ru
    cases hb with
    | non => obtain rfl : v = Value.none := rv; exact SeqAt.EqAt.same _
    | bl _ => cases nb
    | int j => obtain ⟨t, rfl⟩ := rv; exact SeqAt.EqAt.none_int _ _
    | str j => obtain ⟨t, rfl⟩ := rv; exact SeqAt.EqAt.none_str _ _
    | tup hq => cases rv; obtain ⟨its, r1, p1, _⟩ := I.tuple hq; exact SeqAt.EqAt.none_tuple p1 (by omega)
    | lst hq => cases rv; obtain ⟨its, r1, p1, _⟩ := I.list hq; exact SeqAt.EqAt.none_list p1.isList (by omega)
  | bl _ => cases na
  | int i =>
    obtain ⟨t0, rfl⟩ := ru
    cases hb with
    | non => obtain rfl : v = Value.none := rv; exact SeqAt.EqAt.int_none _ _
    | bl _ => cases nb
    | int j =>
      obtain ⟨t, rfl⟩ := rv
      have := SeqAt.EqAt.int_int (A := A) (s := s) i t0 j t
      have e : (i == j) = decide (Da.int i = Da.int j) := by
        by_cases z : i = j
        · subst z; simp
        · rw [decide_eq_false (fun y => z (Da.int.inj y))]; simp [z]
      rwa [e] at this
    | str j => obtain ⟨t, rfl⟩ := rv; exact SeqAt.EqAt.int_str _ _ _ _
    | tup hq => cases rv; obtain ⟨its, r1, p1, _⟩ := I.tuple hq; exact SeqAt.EqAt.int_tuple _ _ p1 (by omega)
    | lst hq => cases rv; obtain ⟨its, r1, p1, _⟩ := I.list hq; exact SeqAt.EqAt.int_list _ _ p1.isList (by omega)
  | str i =>
    obtain ⟨t0, rfl⟩ := ru
    cases hb with
    | non => obtain rfl : v = Value.none := rv; exact SeqAt.EqAt.str_none _ _
    | bl _ => cases nb
    | int j => obtain ⟨t, rfl⟩ := rv; exact SeqAt.EqAt.str_int _ _ _ _
    | str j =>
      obtain ⟨t, rfl⟩ := rv
      have := SeqAt.EqAt.str_str (A := A) (s := s) i t0 j t
      have e : (i == j) = decide (Da.str i = Da.str j) := by
        by_cases z : i = j
        · subst z; simp
        · rw [decide_eq_false (fun y => z (Da.str.inj y))]; simp [z]
      rwa [e] at this
    | tup hq => cases rv; obtain ⟨its, r1, p1, _⟩ := I.tuple hq; exact SeqAt.EqAt.str_tuple _ _ p1 (by omega)
    | lst hq => cases rv; obtain ⟨its, r1, p1, _⟩ := I.list hq; exact SeqAt.EqAt.str_list _ _ p1.isList (by omega)
  | @tup p xs ds hp hl hd ih =>
    cases ru
    obtain ⟨i1, r1, t1, _⟩ := I.tuple hp
    cases hb with
    | non => obtain rfl : v = Value.none := rv; exact SeqAt.EqAt.tuple_none t1 (by omega)
    | bl _ => cases nb
    | int j => obtain ⟨t, rfl⟩ := rv; exact SeqAt.EqAt.tuple_int _ _ t1 (by omega)
    | str j => obtain ⟨t, rfl⟩ := rv; exact SeqAt.EqAt.tuple_str _ _ t1 (by omega)
    | @tup q ys es hq hl2 hd2 =>
      cases rv
      by_cases c : p = q
      · subst c
        have := da_one I (DaAt.tup hp hl hd) (DaAt.tup hq hl2 hd2)
        rw [decide_eq_true this]
        exact SeqAt.EqAt.same _
      cases na with
      | @tup m l na =>
      cases nb with
      | @tup m l nb =>
      obtain ⟨i2, r2, t2, _⟩ := I.tuple hq
      have key := SeqAt.RcAt.tuples (A := A) (s := s) (e := fun j => decide (ds[j]? = es[j]?)) t1 t2 (by omega) (rows_at (m := m) r1 r2 hl hl2 fun j x d y e u v h1 h2 h3 h4 ru rv =>
        ih j x d h1 h2 (A := A.in1) (n := m) (by show A.units + 1 + m < cLine; omega) (hd2 j y e h3 h4) (na _ (List.mem_of_getElem? h2)) (nb _ (List.mem_of_getElem? h4)) ru rv)
      rw [tup_b r1 r2 hl hl2] at key
      rw [dec_tup]
      exact SeqAt.EqAt.of_refs c key
    | @lst q ys es hq hl2 hd2 =>
      cases rv
      obtain ⟨i2, r2, t2, _⟩ := I.list hq
      by_cases c : p = q
      · subst c
        exact (not_both t1 t2.isList).elim
      · exact SeqAt.EqAt.of_refs c (SeqAt.RcAt.tuple_list t1 t2.isList (by omega))
  | @lst p xs ds hp hl hd ih =>
    cases ru
    obtain ⟨i1, r1, t1, _⟩ := I.list hp
    cases hb with
    | non => obtain rfl : v = Value.none := rv; exact SeqAt.EqAt.list_none t1.isList (by omega)
    | bl _ => cases nb
    | int j => obtain ⟨t, rfl⟩ := rv; exact SeqAt.EqAt.list_int _ _ t1.isList (by omega)
    | str j => obtain ⟨t, rfl⟩ := rv; exact SeqAt.EqAt.list_str _ _ t1.isList (by omega)
    | @lst q ys es hq hl2 hd2 =>
      cases rv
      by_cases c : p = q
      · subst c
        have := da_one I (DaAt.lst hp hl hd) (DaAt.lst hq hl2 hd2)
        rw [decide_eq_true this]
        exact SeqAt.EqAt.same _
      cases na with
      | @lst m l na =>
      cases nb with
      | @lst m l nb =>
      obtain ⟨i2, r2, t2, _⟩ := I.list hq
      have l1 := r1.length
      have l2 := r2.length
      rw [dec_lst]
      by_cases z : ds.length = es.length
      · have key := SeqAt.RcAt.lists (A := A) (s := s) (e := fun j => decide (ds[j]? = es[j]?)) t1.isList t2.isList (by simp; omega) (by omega) (rows_at (m := m) r1 r2 hl hl2 fun j x d y e u v h1 h2 h3 h4 ru rv =>
          ih j x d h1 h2 (A := A.in1) (n := m) (by show A.units + 1 + m < cLine; omega) (hd2 j y e h3 h4) (na _ (List.mem_of_getElem? h2)) (nb _ (List.mem_of_getElem? h4)) ru rv)
        rw [lst_b r1 r2 hl hl2 z] at key
        exact SeqAt.EqAt.of_refs c key
      · rw [decide_eq_false (fun y => z (by rw [y]))]
        exact SeqAt.EqAt.of_refs c (SeqAt.RcAt.lists_lengths t1.isList t2.isList (by simp; omega) (by omega))
    | @tup q ys es hq hl2 hd2 =>
      cases rv
      obtain ⟨i2, r2, t2, _⟩ := I.tuple hq
      by_cases c : p = q
      · subst c
        exact (not_both t2 t1.isList).elim
      · exact SeqAt.EqAt.of_refs c (SeqAt.RcAt.list_tuple t1.isList t2 (by omega))
end
/-- a list or a tuple and another -/
def rEqA (K : PySem.W.Frag) (ne : Bool) : R2 := fun x y H Q => ∃ (n : Nat) (p q : Addr) (a b : Da), x = .ref p ∧ y = .ref q ∧ DaAt K H x a ∧ DaAt K H y b ∧ a.Nb n ∧ b.Nb n ∧ n ≤ 6 ∧ Q (.bl (ne ^^ decide (a = b))) H
section
variable {X : Cx}
theorem op_eqA (hu : X.A.units + 6 < cLine) : OpR X (compareOp .Eq) (rEqA X.K false) := by
  intro pins s σ H x y v u Q I rx ry h
  obtain ⟨n, p, q, a, b, rfl, rfl, ha, hb, na, nb, hn, k⟩ := h
  cases rx
  cases ry
  rw [Bool.false_xor] at k
  cases ha with
  | @tup p xs ds hp hl hd =>
    obtain ⟨i1, r1, t1, _⟩ := I.tuple hp
    cases hb with
    | @tup q ys es hq hl2 hd2 =>
      cases na with
      | @tup m l na =>
      cases nb with
      | @tup m l nb =>
      obtain ⟨i2, r2, t2, _⟩ := I.tuple hq
      have key := SeqAt.RcAt.tuples (A := X.A) (s := s) (e := fun j => decide (ds[j]? = es[j]?)) t1 t2 (by omega) (rows_at (m := m) r1 r2 hl hl2 fun j x d y e u v h1 h2 h3 h4 ru rv =>
        da_at (A := X.A.in1) (n := m) (by show X.A.units + 1 + m < cLine; omega) I (hd j x d h1 h2) (hd2 j y e h3 h4) (na _ (List.mem_of_getElem? h2)) (nb _ (List.mem_of_getElem? h4)) ru rv)
      rw [tup_b r1 r2 hl hl2] at key
      rw [dec_tup] at k
      exact key _ _ _ _ ⟨.bl _, H, I, rfl, k⟩
    | @lst q ys es hq hl2 hd2 =>
      obtain ⟨i2, r2, t2, _⟩ := I.list hq
      exact (SeqAt.RcAt.tuple_list (A := X.A) t1 t2.isList (by omega)) _ _ _ _ ⟨.bl _, H, I, rfl, k⟩
  | @lst p xs ds hp hl hd =>
    obtain ⟨i1, r1, t1, _⟩ := I.list hp
    cases hb with
    | @lst q ys es hq hl2 hd2 =>
      cases na with
      | @lst m l na =>
      cases nb with
      | @lst m l nb =>
      obtain ⟨i2, r2, t2, _⟩ := I.list hq
      have l1 := r1.length
      have l2 := r2.length
      rw [dec_lst] at k
      by_cases z : ds.length = es.length
      · have key := SeqAt.RcAt.lists (A := X.A) (s := s) (e := fun j => decide (ds[j]? = es[j]?)) t1.isList t2.isList (by simp; omega) (by omega) (rows_at (m := m) r1 r2 hl hl2 fun j x d y e u v h1 h2 h3 h4 ru rv =>
          da_at (A := X.A.in1) (n := m) (by show X.A.units + 1 + m < cLine; omega) I (hd j x d h1 h2) (hd2 j y e h3 h4) (na _ (List.mem_of_getElem? h2)) (nb _ (List.mem_of_getElem? h4)) ru rv)
        rw [lst_b r1 r2 hl hl2 z] at key
        exact key _ _ _ _ ⟨.bl _, H, I, rfl, k⟩
      · rw [decide_eq_false (fun y => z (by rw [y]))] at k
        exact (SeqAt.RcAt.lists_lengths (A := X.A) t1.isList t2.isList (by simp; omega) (by omega)) _ _ _ _ ⟨.bl _, H, I, rfl, k⟩
    | @tup q ys es hq hl2 hd2 =>
      obtain ⟨i2, r2, t2, _⟩ := I.tuple hq
      exact (SeqAt.RcAt.list_tuple (A := X.A) t1.isList t2 (by omega)) _ _ _ _ ⟨.bl _, H, I, rfl, k⟩
theorem op_neA (hu : X.A.units + 6 < cLine) : OpR X (compareOp .NotEq) (rEqA X.K true) := by
  intro pins s σ H x y v u Q I rx ry h
  obtain ⟨n, p, q, a, b, rfl, rfl, ha, hb, na, nb, hn, k⟩ := h
  cases rx
  cases ry
  rw [Bool.true_xor] at k
  cases ha with
  | @tup p xs ds hp hl hd =>
    obtain ⟨i1, r1, t1, _⟩ := I.tuple hp
    cases hb with
    | @tup q ys es hq hl2 hd2 =>
      cases na with
      | @tup m l na =>
      cases nb with
      | @tup m l nb =>
      obtain ⟨i2, r2, t2, _⟩ := I.tuple hq
      have key := SeqAt.RcNeAt.tuples (A := X.A) (s := s) (e := fun j => decide (ds[j]? = es[j]?)) t1 t2 (by omega) (rows_at (m := m) r1 r2 hl hl2 fun j x d y e u v h1 h2 h3 h4 ru rv =>
        da_at (A := X.A.in1) (n := m) (by show X.A.units + 1 + m < cLine; omega) I (hd j x d h1 h2) (hd2 j y e h3 h4) (na _ (List.mem_of_getElem? h2)) (nb _ (List.mem_of_getElem? h4)) ru rv)
      rw [tup_b r1 r2 hl hl2] at key
      rw [dec_tup] at k
      exact key _ _ _ _ ⟨.bl _, H, I, rfl, k⟩
    | @lst q ys es hq hl2 hd2 =>
      obtain ⟨i2, r2, t2, _⟩ := I.list hq
      exact (SeqAt.RcNeAt.tuple_list (A := X.A) t1 t2.isList (by omega)) _ _ _ _ ⟨.bl _, H, I, rfl, k⟩
  | @lst p xs ds hp hl hd =>
    obtain ⟨i1, r1, t1, _⟩ := I.list hp
    cases hb with
    | @lst q ys es hq hl2 hd2 =>
      cases na with
      | @lst m l na =>
      cases nb with
      | @lst m l nb =>
      obtain ⟨i2, r2, t2, _⟩ := I.list hq
      have l1 := r1.length
      have l2 := r2.length
      rw [dec_lst] at k
      by_cases z : ds.length = es.length
      · have key := SeqAt.RcNeAt.lists (A := X.A) (s := s) (e := fun j => decide (ds[j]? = es[j]?)) t1.isList t2.isList (by simp; omega) (by omega) (rows_at (m := m) r1 r2 hl hl2 fun j x d y e u v h1 h2 h3 h4 ru rv =>
          da_at (A := X.A.in1) (n := m) (by show X.A.units + 1 + m < cLine; omega) I (hd j x d h1 h2) (hd2 j y e h3 h4) (na _ (List.mem_of_getElem? h2)) (nb _ (List.mem_of_getElem? h4)) ru rv)
        rw [lst_b r1 r2 hl hl2 z] at key
        exact key _ _ _ _ ⟨.bl _, H, I, rfl, k⟩
      · rw [decide_eq_false (fun y => z (by rw [y]))] at k
        exact (SeqAt.RcNeAt.lists_lengths (A := X.A) t1.isList t2.isList (by simp; omega) (by omega)) _ _ _ _ ⟨.bl _, H, I, rfl, k⟩
    | @tup q ys es hq hl2 hd2 =>
      obtain ⟨i2, r2, t2, _⟩ := I.tuple hq
      exact (SeqAt.RcNeAt.list_tuple (A := X.A) t1.isList t2 (by omega)) _ _ _ _ ⟨.bl _, H, I, rfl, k⟩
end
end L2


set_option Elab.async false
set_option linter.all false
namespace L2
open PySem PySem.Spec PyProof.Rows
/-! ### a block cut at a place: what is true there -/
def tMid (t u : TS) : TS := fun D σ H => ∃ J : St → Hp → Prop, t { D with nx := J } σ H ∧ ∀ σ' H', J σ' H' → u D σ' H'
theorem pss_mid {X : Cx} {st : Stmt} {rest : List Stmt} {t u : TS} (h1 : PS X st t) (h2 : PSs X rest u) : PSs X (st :: rest) (tMid t u) := by
  intro pins s σ H D I h
  obtain ⟨J, h, hJ⟩ := h
  refine wpAny_execs_cons (thn (h1 pins s σ H { D with nx := J } I h) fun f s1 q => ?_)
  cases f with
  | next =>
    obtain ⟨σ', H', I', q⟩ := q
    exact h2 pins s1 σ' H' D I' (hJ _ _ q)
  | ret v => exact q
  | brk => exact q
  | cont => exact q
/-- an expression whose ways come together -/
def eMid (t : TE) : TE := fun σ H Q => ∃ J : VK, t σ H J ∧ ∀ v H', J v H' → Q v H'
theorem pe_mid {X : Cx} {e : Expr} {t : TE} (h : PE X e t) : PE X e (eMid t) := by
  intro pins s σ H Q I q
  obtain ⟨J, q, hJ⟩ := q
  exact thn (h pins s σ H J I q) fun v s1 ⟨x, H1, I1, r, q1⟩ => ⟨x, H1, I1, r, hJ _ _ q1⟩
/-- t + u, the outcome told in one way -/
def rCatQ (K : PySem.W.Frag) : R2 := fun x y H Q => ∃ a b xs ys, x = .ref a ∧ y = .ref b ∧ H a = some (.tup xs) ∧ SqT K H b ys ∧ xs ≠ [] ∧ xs.length + ys.length ≤ sizeLine ∧ ∀ p H', Same H H' → H' p = some (.tup (xs ++ ys)) → Q (.ref p) H'
theorem op_catQ {X : Cx} : OpR X (binaryOp .Add) (rCatQ X.K) := by
  intro pins s σ H x y v u Q I rx ry h
  obtain ⟨a, b, xs, ys, e1, e2, ha, hb, hx, hz, q⟩ := h
  refine op_catT pins s σ H x y v u Q I rx ry ⟨a, b, xs, ys, e1, e2, SqT.of ha, hb, hx, hz, fun e => q _ _ (fun b o h => h) (by rw [ha, e, List.append_nil]), fun _ p n => q _ _ (fun b o h => ?_) upd_same⟩
  rw [upd_ne (ne_of_none h n)]
  exact h
end L2


set_option Elab.async false
set_option linter.all false
set_option maxRecDepth 500000
set_option maxHeartbeats 4000000
namespace My
open PySem L2
/-! ### a row as its word, far and numbers -/
def farK (u : Str) : Bool := match kinds.lookup u with
  | some ks => decide (("far" : Str) ∈ ks)
  | none => false
def opP : Option Int → Pt
  | none => .non
  | some i => .int i
def opS : Option Int → Sc
  | none => .non
  | some i => .int i
def restT (u : Str) (f : Int) (ns : List (Option Int)) : List Pt :=
  if u = "table" then (ns.take 1).map opP ++ [.tup ((ns.drop 1).map opS)] else if farK u = true then ns.map opP ++ [.int f] else ns.map opP
def rowT (u : Str) (f : Int) (ns : List (Option Int)) : Th := .tup (.str u :: restT u f ns)
def lineW (u : Str) (f : Int) (ns : List Int) : List Str := u :: (farW (farK u && decide (f = 1)) ++ ns.map tos)
theorem lk_kinds : ∀ y ∈ kinds, kinds.lookup y.1 = some y.2 := by decide +kernel
theorem lk_mem {u : Str} {ks : List Str} (h : kinds.lookup u = some ks) : (u, ks) ∈ kinds := by
  have key : ∀ (l : List (Str × List Str)) (k : Str) b, l.lookup k = some b → (k, b) ∈ l := fun l => by
    induction l with
    | nil => intro k b h; cases h
    | cons y l ih =>
      intro k b h
      rw [List.lookup_cons] at h
      split at h
      · rename_i e
        have e := beq_iff_eq.mp e
        cases h
        subst e
        exact List.mem_cons_self
      · exact List.mem_cons_of_mem _ (ih k b h)
  exact key _ _ _ h
theorem farK_of {u : Str} {ks : List Str} (h : (u, ks) ∈ kinds) : farK u = decide (("far" : Str) ∈ ks) := by
  unfold farK
  rw [lk_kinds _ h]
/-- a row at q -/
def RowIs (H : Hp) (q : Addr) (u : Str) (f : Int) (ns : List Int) : Prop :=
  (u = "table" ∧ ∃ (b : Int) (ts : List Int) (t : Addr), ns = b :: ts ∧ H q = some (.tup [.str u, .int b, .ref t]) ∧ H t = some (.tup (ts.map V.int))) ∨
  (u ≠ "table" ∧ farK u = true ∧ H q = some (.tup (.str u :: (ns.map V.int ++ [.int f])))) ∨ (u ≠ "table" ∧ farK u = false ∧ H q = some (.tup (.str u :: ns.map V.int)))
theorem RowIs.same {H H' : Hp} {q : Addr} {u : Str} {f : Int} {ns : List Int} (s : Same H H') (h : RowIs H q u f ns) : RowIs H' q u f ns := by
  rcases h with ⟨a, b, ts, t, c, d, e⟩ | ⟨a, b, c⟩ | ⟨a, b, c⟩
  · exact .inl ⟨a, b, ts, t, c, s _ _ d, s _ _ e⟩
  · exact .inr (.inl ⟨a, b, s _ _ c⟩)
  · exact .inr (.inr ⟨a, b, s _ _ c⟩)
theorem pts_ints {H : Hp} : ∀ {xs : List V} {ns : List Int}, PtsAt H xs ((ns.map some).map opP) → xs = ns.map V.int
  | [], [], _ => rfl
  | [], n :: r, h => by have := h.1; simp at this
  | x :: xs, [], h => by have := h.1; simp at this
  | x :: xs, n :: r, h => by
    obtain ⟨y, t, e, a, b⟩ := ThAt.first (q := 0) (p := .int n) (ps := (r.map some).map opP) h
    cases e
    rw [pts_ints b, (show x = .int n from a)]
    rfl
theorem scs_ints : ∀ {xs : List V} {ns : List Int}, xs.length = ((ns.map some).map opS).length → (∀ (i : Nat) x s, xs[i]? = some x → ((ns.map some).map opS)[i]? = some s → ScAt x s) → xs = ns.map V.int
  | [], [], _, _ => rfl
  | [], n :: r, h, _ => by simp at h
  | x :: xs, [], h, _ => by simp at h
  | x :: xs, n :: r, h, k => by
    have h0 := k 0 x (.int n) rfl rfl
    rw [scs_ints (xs := xs) (ns := r) (by simpa using h) (fun i y s a b => k (i + 1) y s a b), (show x = .int n from h0)]
    rfl
theorem PtsAt.cut {H : Hp} {xs : List V} {ps : List Pt} {p : Pt} (h : PtsAt H xs (ps ++ [p])) : ∃ ys y, xs = ys ++ [y] ∧ PtsAt H ys ps ∧ PtAt H y p := by
  have hl : xs.length = ps.length + 1 := by rw [h.1]; simp
  have hx : xs ≠ [] := by intro z; rw [z] at hl; simp at hl
  refine ⟨xs.dropLast, xs.getLast hx, (List.dropLast_concat_getLast hx).symm, ⟨by rw [List.length_dropLast]; omega, fun i x q h1 h2 => ?_⟩, ?_⟩
  · have hi := (List.getElem?_eq_some_iff.mp h2).1
    refine h.2 i x q ?_ (by rw [List.getElem?_append_left hi]; exact h2)
    rw [← List.dropLast_concat_getLast hx, List.getElem?_append_left (by rw [List.length_dropLast]; omega)]
    exact h1
  · refine h.2 ps.length _ p ?_ (by simp)
    rw [List.getLast_eq_getElem, List.getElem?_eq_getElem (by omega)]
    congr 1
    congr 1
    omega
theorem PtsAt.snoc {H : Hp} {ys : List V} {y : V} {ps : List Pt} {p : Pt} (h : PtsAt H ys ps) (hy : PtAt H y p) : PtsAt H (ys ++ [y]) (ps ++ [p]) := by
  refine ⟨by simp [h.1], fun i x q h1 h2 => ?_⟩
  by_cases hi : i < ys.length
  · rw [List.getElem?_append_left hi] at h1
    rw [List.getElem?_append_left (by rw [← h.1]; exact hi)] at h2
    exact h.2 i x q h1 h2
  · have h3 := (List.getElem?_eq_some_iff.mp h1).1
    rw [List.length_append] at h3
    have e : i = ys.length := by simp at h3; omega
    subst e
    have e1 : (ys ++ [y])[ys.length]? = some y := by simp
    have e2 : (ps ++ [p])[ys.length]? = some p := by rw [h.1]; simp
    rw [e1] at h1
    rw [e2] at h2
    cases h1
    cases h2
    exact hy
theorem PtsAt.cons {H : Hp} {ys : List V} {y : V} {ps : List Pt} {p : Pt} (hy : PtAt H y p) (h : PtsAt H ys ps) : PtsAt H (y :: ys) (p :: ps) := by
  refine ⟨by simp [h.1], fun i x q h1 h2 => ?_⟩
  cases i with
  | zero => cases h1; cases h2; exact hy
  | succ i => exact h.2 i x q h1 h2
theorem row_is {H : Hp} {q : Addr} {u : Str} {f : Int} {ns : List Int} (h : ThAt H (.ref q) (rowT u f (ns.map some))) (hne : u = "table" → ns ≠ []) : RowIs H q u f ns := by
  obtain ⟨q', xs, e, hq, hps⟩ := h
  cases e
  obtain ⟨x, r, rfl, hx, hr⟩ := ThAt.first (q := q) hps
  obtain rfl : x = .str u := hx
  unfold restT at hr
  split at hr
  · rename_i hu
    cases ns with
    | nil => exact absurd rfl (hne hu)
    | cons b ts =>
      obtain ⟨x1, r1, rfl, a1, b1⟩ := ThAt.first (q := q) (p := .int b) (ps := [.tup ((ts.map some).map opS)]) hr
      obtain ⟨x2, r2, rfl, a2, b2⟩ := ThAt.first (q := q) b1
      obtain rfl : r2 = [] := List.length_eq_zero_iff.mp b2.1
      obtain rfl : x1 = .int b := a1
      obtain ⟨t, ys, rfl, ht, hl, hs⟩ := a2
      exact .inl ⟨hu, b, ts, t, rfl, hq, by rw [ht, scs_ints hl hs]⟩
  · rename_i hu
    split at hr
    · rename_i hf
      obtain ⟨ys, y, rfl, h1, h2⟩ := hr.cut
      obtain rfl : y = .int f := h2
      rw [pts_ints h1] at hq
      exact .inr (.inl ⟨hu, hf, hq⟩)
    · rename_i hf
      rw [pts_ints hr] at hq
      exact .inr (.inr ⟨hu, Bool.eq_false_iff.mpr hf, hq⟩)
end My


set_option Elab.async false
set_option linter.all false
set_option maxRecDepth 500000
set_option maxHeartbeats 4000000
namespace My
open PySem L2
section
variable {P : Program} {w : World} {K : PySem.W.Frag} {mg : Str → Option Value} {base : Heap}
/-! ### row_of_numbers -/
def spRof : Sp := fun vs H Q _ => ∃ (u : Str) (f : Int) (ln : Addr) (ns : List (Option Int)) (ks : List Str), vs = [.str u, .int f, .ref ln] ∧ H ln = some (.lst (ns.map ov)) ∧ (u, ks) ∈ kinds ∧ ns.length ≤ 500000 ∧ ∀ v H', Same H H' → ThAt H' v (rowT u f ns) → Q v H'
theorem pts_ovs (H : Hp) : ∀ (ns : List (Option Int)), PtsAt H (ns.map ov) (ns.map opP) := fun ns => by
  refine ⟨by simp, fun i x p h1 h2 => ?_⟩
  rw [List.getElem?_map] at h1 h2
  obtain ⟨a, ha, rfl⟩ := Option.map_eq_some_iff.mp h1
  rw [ha] at h2
  cases h2
  cases a <;> exact rfl
theorem scs_ovs (ns : List (Option Int)) : ∀ (i : Nat) x s, (ns.map ov)[i]? = some x → (ns.map opS)[i]? = some s → ScAt x s := fun i x p h1 h2 => by
  rw [List.getElem?_map] at h1 h2
  obtain ⟨a, ha, rfl⟩ := Option.map_eq_some_iff.mp h1
  rw [ha] at h2
  cases h2
  cases a <;> exact rfl
theorem cutV_to (xs : List V) (k : Nat) : cutV xs none (some (k : Int)) = xs.take k := by
  unfold cutV
  rw [HT.sIx_nat, HT.sIx_none, List.drop_zero, Nat.sub_zero]
  rcases Nat.le_total k xs.length with z | z
  · rw [Nat.min_eq_left z]
  · rw [Nat.min_eq_right z, List.take_of_length_le z, List.take_of_length_le (Nat.le_refl _)]
theorem cutV_from (xs : List V) (k : Nat) : cutV xs (some (k : Int)) none = xs.drop k := by
  unfold cutV
  rw [HT.sIx_nat, HT.sIx_none]
  rcases Nat.le_total k xs.length with z | z
  · rw [Nat.min_eq_left z, List.take_of_length_le (by simp)]
  · rw [Nat.min_eq_right z]
    simp [List.drop_of_length_le z]
theorem cutV_to1 (xs : List V) : cutV xs none (some 1) = xs.take 1 := cutV_to xs 1
theorem cutV_from1 (xs : List V) : cutV xs (some 1) none = xs.drop 1 := cutV_from xs 1
theorem cutV_from2 (xs : List V) : cutV xs (some 2) none = xs.drop 2 := cutV_from xs 2
theorem scRof : FnScope ["word", "far", "numbers"] ["word", "far", "numbers"] (defScope sRowOf) := ⟨rfl, rfl, rfl, by decide +kernel, rfl, by decide +kernel, by decide +kernel⟩
theorem ok_rof {f fH : Addr} {fd fdH : FuncData} (F : Fun K "row_of_numbers" "row_of_numbers" sRowOf f fd) (T : Txt K w.params mg) (GH : FnOk P w K mg base CX0 1 fH fdH ["word"] spFar) (kH : PySem.W.keepIn K (.ref fH) = true) (bH : Binds K fdH ["word"] []) (mH : mg "has_far" = some (.ref fH)) : FnOk P w K mg base CX0 2 f fd ["word", "far", "numbers"] spRof := by
  refine F.ok scRof (fun vs H Q E h => ?_) (fun cdv A outer s H vs Q E hr h => ?_)
  · obtain ⟨u, f, ln, ns, ks, rfl, _⟩ := h
    rfl
  · obtain ⟨u, f, ln, ns, ks, rfl, hl, hu, hn, k⟩ := h
    refine ⟨_, (pss_cons (ps_if (pt_cmpR op_eq (pv 0) pe_str (nomark _)) (pss_one (ps_ret (pe_op op_catQ (pe_op op_catQ (pe_tup (pa_cons (pv 0) pa_nil)) (pe_callTy call_tuple_of (by rfl) T.tuple bt_tuple (pa_cons (pe_slice sl_list (pv 2) po_none (po_some pe_int)) pa_nil))) (pe_tup (pa_cons (pe_callTy call_tuple_of (by rfl) T.tuple bt_tuple (pa_cons (pe_slice sl_list (pv 2) (po_some pe_int) po_none) pa_nil)) pa_nil))))) pss_nil)
      (pss_cons (ps_if (pt_val (pe_call GH hr (by rfl) mH kH bH .nil pass0 (pa_cons (pv 0) pa_nil))) (pss_one (ps_ret (pe_op op_catQ (pe_op op_catQ (pe_tup (pa_cons (pv 0) pa_nil)) (pe_callTy call_tuple_of (by rfl) T.tuple bt_tuple (pa_cons (pv 2) pa_nil))) (pe_tup (pa_cons (pv 1) pa_nil))))) pss_nil)
      (pss_one (ps_ret (pe_op op_catQ (pe_tup (pa_cons (pv 0) pa_nil)) (pe_callTy call_tuple_of (by rfl) T.tuple bt_tuple (pa_cons (pv 2) pa_nil))))))), ?_⟩
    refine ⟨_, rfl, rfl, _, rfl, ?_⟩
    by_cases ht : u = "table"
    · refine iteP (by subst ht; decide) ?_
      refine ⟨_, rfl, Nat.le_of_ble_eq_true rfl, fun t1 n1 => ?_⟩
      have s1 := same_new (o := .tup [V.str u]) n1
      have h1 : upd H t1 (.tup [V.str u]) t1 = _ := upd_same
      generalize upd H t1 (.tup [V.str u]) = H1 at s1 h1 ⊢
      refine ⟨_, rfl, 1, rfl, ln, _, rfl, SqL.of (s1 _ _ hl), fun l1 m1 => ?_⟩
      rw [cutV_to1]
      have s2 := same_new (o := .lst ((ns.map ov).take 1)) m1
      have h2 : upd H1 l1 (.lst ((ns.map ov).take 1)) l1 = _ := upd_same
      generalize upd H1 l1 (.lst ((ns.map ov).take 1)) = H2 at s2 h2 ⊢
      refine ⟨l1, _, rfl, .inl ⟨SqL.of h2, fun t2 n2 => ?_⟩⟩
      have s3 := same_new (o := .tup ((ns.map ov).take 1)) n2
      have h3 : upd H2 t2 (.tup ((ns.map ov).take 1)) t2 = _ := upd_same
      generalize upd H2 t2 (.tup ((ns.map ov).take 1)) = H3 at s3 h3 ⊢
      refine ⟨t1, t2, _, _, rfl, rfl, (s2.trans s3) _ _ h1, SqT.of h3, by simp, small_len (by simp; omega), fun t3 H4 s4 h4 => ?_⟩
      have s04 := s1.trans (s2.trans (s3.trans s4))
      refine ⟨_, rfl, 1, rfl, ln, _, rfl, SqL.of (s04 _ _ hl), fun l2 m2 => ?_⟩
      rw [cutV_from1]
      have s5 := same_new (o := .lst ((ns.map ov).drop 1)) m2
      have h5 : upd H4 l2 (.lst ((ns.map ov).drop 1)) l2 = _ := upd_same
      generalize upd H4 l2 (.lst ((ns.map ov).drop 1)) = H5 at s5 h5 ⊢
      refine ⟨l2, _, rfl, .inl ⟨SqL.of h5, fun t4 n4 => ?_⟩⟩
      have s6 := same_new (o := .tup ((ns.map ov).drop 1)) n4
      have h6 : upd H5 t4 (.tup ((ns.map ov).drop 1)) t4 = _ := upd_same
      generalize upd H5 t4 (.tup ((ns.map ov).drop 1)) = H6 at s6 h6 ⊢
      refine ⟨Nat.le_of_ble_eq_true rfl, fun t5 n5 => ?_⟩
      have s7 := same_new (o := .tup [V.ref t4]) n5
      have h7 : upd H6 t5 (.tup [V.ref t4]) t5 = _ := upd_same
      generalize upd H6 t5 (.tup [V.ref t4]) = H7 at s7 h7 ⊢
      refine ⟨t3, t5, _, _, rfl, rfl, (s5.trans (s6.trans s7)) _ _ h4, SqT.of h7, by simp, small_len (by simp; omega), fun t6 H8 s8 h8 => ?_⟩
      refine k _ _ (s04.trans (s5.trans (s6.trans (s7.trans s8)))) ⟨t6, _, rfl, h8, ?_⟩
      refine .cons rfl ?_
      unfold restT
      rw [if_pos ht, ← List.map_take]
      refine PtsAt.snoc (pts_ovs _ _) ⟨t4, _, rfl, (s7.trans s8) _ _ h6, by simp, ?_⟩
      rw [← List.map_drop]
      exact scs_ovs _
    · refine iteN (fun z => ht (strEq z)) ?_
      have hfk := farK_of hu
      refine ⟨_, rfl, u, ks, rfl, hu, _, rfl, ?_⟩
      by_cases hf : farK u = true
      · refine iteP (by rw [← hfk, hf]) ?_
        refine ⟨_, rfl, Nat.le_of_ble_eq_true rfl, fun t1 n1 => ?_⟩
        have s1 := same_new (o := .tup [V.str u]) n1
        have h1 : upd H t1 (.tup [V.str u]) t1 = _ := upd_same
        generalize upd H t1 (.tup [V.str u]) = H1 at s1 h1 ⊢
        refine ⟨_, rfl, ln, _, rfl, .inl ⟨SqL.of (s1 _ _ hl), fun t2 n2 => ?_⟩⟩
        have s3 := same_new (o := .tup (ns.map ov)) n2
        have h3 : upd H1 t2 (.tup (ns.map ov)) t2 = _ := upd_same
        generalize upd H1 t2 (.tup (ns.map ov)) = H3 at s3 h3 ⊢
        refine ⟨t1, t2, _, _, rfl, rfl, s3 _ _ h1, SqT.of h3, by simp, small_len (by simp; omega), fun t3 H4 s4 h4 => ?_⟩
        refine ⟨_, rfl, Nat.le_of_ble_eq_true rfl, fun t5 n5 => ?_⟩
        have s7 := same_new (o := .tup [V.int f]) n5
        have h7 : upd H4 t5 (.tup [V.int f]) t5 = _ := upd_same
        generalize upd H4 t5 (.tup [V.int f]) = H7 at s7 h7 ⊢
        refine ⟨t3, t5, _, _, rfl, rfl, s7 _ _ h4, SqT.of h7, by simp, small_len (by simp; omega), fun t6 H8 s8 h8 => ?_⟩
        refine k _ _ (s1.trans (s3.trans (s4.trans (s7.trans s8)))) ⟨t6, _, rfl, h8, ?_⟩
        refine .cons rfl ?_
        unfold restT
        rw [if_neg ht, if_pos hf]
        exact PtsAt.snoc (pts_ovs _ _) rfl
      · refine iteN (by rw [← hfk]; exact hf) ?_
        refine ⟨_, rfl, Nat.le_of_ble_eq_true rfl, fun t1 n1 => ?_⟩
        have s1 := same_new (o := .tup [V.str u]) n1
        have h1 : upd H t1 (.tup [V.str u]) t1 = _ := upd_same
        generalize upd H t1 (.tup [V.str u]) = H1 at s1 h1 ⊢
        refine ⟨_, rfl, ln, _, rfl, .inl ⟨SqL.of (s1 _ _ hl), fun t2 n2 => ?_⟩⟩
        have s3 := same_new (o := .tup (ns.map ov)) n2
        have h3 : upd H1 t2 (.tup (ns.map ov)) t2 = _ := upd_same
        generalize upd H1 t2 (.tup (ns.map ov)) = H3 at s3 h3 ⊢
        refine ⟨t1, t2, _, _, rfl, rfl, s3 _ _ h1, SqT.of h3, by simp, small_len (by simp; omega), fun t3 H4 s4 h4 => ?_⟩
        refine k _ _ (s1.trans (s3.trans s4)) ⟨t3, _, rfl, h4, ?_⟩
        refine .cons rfl ?_
        unfold restT
        rw [if_neg ht, if_neg hf]
        exact pts_ovs _ _
end
end My


set_option Elab.async false
set_option linter.all false
namespace L2
open PySem PySem.W PySem.Spec PySem.Calls PyProof.Rows
/-! ### k not in a dict of the top -/
def tKNotIn (K : PySem.W.Frag) (P : Params) (ty td : TE) : TE := fun σ H Q => ty σ H fun y H1 => td σ H1 fun x H2 => ∃ a k r, x = .ref a ∧ y = .str k ∧ KHas K P a k r ∧ Q (.bl (!r.isSome)) H2
theorem pc_knotin {X : Cx} {o i : Expr} {td ty : TE} (hi : PE X i ty) (ho : PE X o td) : PC X .NotIn i o (tKNotIn X.K X.w.params ty td) := by
  intro pins s σ H Q I h
  refine thn (hi pins s σ H _ I h) fun iv s1 ⟨y, H1, I1, ry, q1⟩ => thn (ho pins s1 σ H1 _ I1 q1) fun u s2 ⟨x, H2, I2, rx, a, k, r, ex, ey, g, q2⟩ => ?_
  subst ex ey
  obtain rfl : u = Value.ref a := rx
  obtain ⟨t, rfl⟩ := ry
  obtain ⟨es, n, hl, hk, hm, q, hq, rq⟩ := g
  have mo := PySem.W.mapOf_K (prog := X.prog) (w := X.w) I2.kIn hl hk
  refine wpAny_notIn_of (strKind_is X.prog X.w k t) hm mo ?_
  rw [PySem.W.find_K hl hq, ← rq.isSome_eq]
  exact ⟨.bl (!r.isSome), H2, I2.tok _, rfl, q2⟩
end L2


set_option Elab.async false
set_option linter.all false
set_option maxRecDepth 500000
set_option maxHeartbeats 4000000
namespace My
open PySem L2
/-! ### words of a line -/
theorem mem_join {c : Nat} : ∀ {ps : List Str} {p : Str}, p ∈ ps → ∀ d ∈ p.cps.toList, d ∈ (Str.join ⟨#[c]⟩ ps).cps.toList
  | [], p, h, _, _ => by cases h
  | [x], p, h, d, hd => by rw [List.mem_singleton.mp h] at hd; exact hd
  | x :: y :: r, p, h, d, hd => by
    rw [join_list]
    rcases List.mem_cons.mp h with rfl | h
    · exact List.mem_append_left _ hd
    · exact List.mem_append_right _ (List.mem_cons_of_mem _ (mem_join h d hd))
theorem len_join {c : Nat} : ∀ {ps : List Str} {p : Str}, p ∈ ps → p.cps.size ≤ (Str.join ⟨#[c]⟩ ps).cps.size
  | [], p, h => by cases h
  | [x], p, h => by rw [List.mem_singleton.mp h]; exact Nat.le_refl _
  | x :: y :: r, p, h => by
    have e := congrArg List.length (join_list (c := c) x y r)
    rw [List.length_append, List.length_cons] at e
    simp only [Array.length_toList] at e
    rcases List.mem_cons.mp h with rfl | h
    · omega
    · have := len_join (c := c) h
      omega
theorem cnt_join {c : Nat} : ∀ {ps : List Str}, ps.length ≤ (Str.join ⟨#[c]⟩ ps).cps.size + 1
  | [] => by simp
  | [x] => by simp
  | x :: y :: r => by
    have e := congrArg List.length (join_list (c := c) x y r)
    rw [List.length_append, List.length_cons] at e
    simp only [Array.length_toList] at e
    have := cnt_join (c := c) (ps := y :: r)
    rw [List.length_cons]
    omega
theorem split_mem {c : Nat} {x p : Str} (h : p ∈ Txt.split x ⟨#[c]⟩) : (∀ d ∈ p.cps.toList, d ∈ x.cps.toList) ∧ p.cps.size ≤ x.cps.size := by
  have e : Str.join ⟨#[c]⟩ (Txt.split x ⟨#[c]⟩) = x := StrLaws.join_split x ⟨#[c]⟩
  have h1 := mem_join (c := c) h
  have h2 := len_join (c := c) h
  rw [e] at h1 h2
  exact ⟨h1, h2⟩
theorem split_cnt {c : Nat} (x : Str) : (Txt.split x ⟨#[c]⟩).length ≤ x.cps.size + 1 := by
  have e : Str.join ⟨#[c]⟩ (Txt.split x ⟨#[c]⟩) = x := StrLaws.join_split x ⟨#[c]⟩
  have h := cnt_join (c := c) (ps := Txt.split x ⟨#[c]⟩)
  rw [e] at h
  exact h
theorem split_asc {c : Nat} {x p : Str} (hx : x.cps.all (· < 128) = true) (h : p ∈ Txt.split x ⟨#[c]⟩) : p.cps.all (· < 128) = true := by
  rw [Array.all_eq_true_iff_forall_mem] at hx ⊢
  intro d hd
  exact hx d (Array.mem_def.mpr ((split_mem h).1 d (Array.mem_def.mp hd)))
/-- what a line's words show: a row, or none -/
def farB (u : Str) (r : List Str) : Bool := farK u && decide (r.take 1 = (["far"] : List Str))
def thOf (u : Str) (r : List Str) : Th := rowT u (if farB u r = true then 1 else 0) ((if farB u r = true then r.drop 1 else r).map (readN 10))
def readR : List Str → Option Th
  | [] => none
  | u :: r => match kinds.lookup u with
    | none => none
    | some _ => if rowP (thOf u r) = true then some (thOf u r) else none
theorem readR_none {u : Str} {r : List Str} (h : kinds.lookup u = none) : readR (u :: r) = none := by
  show (match kinds.lookup u with | none => none | some _ => if rowP (thOf u r) = true then some (thOf u r) else none) = none
  rw [h]
theorem readR_some {u : Str} {r : List Str} {ks : List Str} (h : kinds.lookup u = some ks) : readR (u :: r) = if rowP (thOf u r) = true then some (thOf u r) else none := by
  show (match kinds.lookup u with | none => none | some _ => if rowP (thOf u r) = true then some (thOf u r) else none) = _
  rw [h]
def OThAt (H : Hp) (v : V) : Option Th → Prop
  | none => v = .non
  | some th => ThAt H v th
theorem cutV_12 (a : V) (xs : List V) : cutV (a :: xs) (some 1) (some 2) = xs.take 1 := by
  unfold cutV
  rw [show HT.sIx (a :: xs).length 0 (some 1) = 1 by simp [HT.sIx]]
  have h2 : HT.sIx (a :: xs).length (a :: xs).length (some 2) = min 2 (a :: xs).length := HT.sIx_nat ..
  rw [h2]
  cases xs with
  | nil => simp
  | cons b r => simp
theorem strs_da (K : PySem.W.Frag) (H : Hp) (ss : List Str) (i : Nat) (x : V) (d : Da) (h1 : (ss.map V.str)[i]? = some x) (h2 : (ss.map Da.str)[i]? = some d) : DaAt K H x d := by
  rw [List.getElem?_map] at h1 h2
  obtain ⟨a, ha, rfl⟩ := Option.map_eq_some_iff.mp h1
  rw [ha] at h2
  cases h2
  exact .str a
theorem strs_nb (ss : List Str) : (Da.lst (ss.map Da.str)).Nb 1 := .lst fun d hd => by
  obtain ⟨i, _, rfl⟩ := List.mem_map.mp hd
  exact .str
theorem strs_inj {a b : List Str} (h : a.map Da.str = b.map Da.str) : a = b := by
  induction a generalizing b with
  | nil => cases b with
    | nil => rfl
    | cons => cases h
  | cons x r ih => cases b with
    | nil => cases h
    | cons y t =>
      have h := List.cons.inj h
      rw [ih h.2, Da.str.inj h.1]
theorem restT_len (u : Str) (f : Int) (ns : List (Option Int)) : (restT u f ns).length ≤ ns.length + 2 ∧ ∀ ss, Pt.tup ss ∈ restT u f ns → ss.length ≤ ns.length := by
  unfold restT
  split
  · refine ⟨by simp; omega, fun ss h => ?_⟩
    rcases List.mem_append.mp h with h | h
    · obtain ⟨o, _, e⟩ := List.mem_map.mp h
      cases o <;> cases e
    · cases List.mem_singleton.mp h
      simp
  · split
    · refine ⟨by simp, fun ss h => ?_⟩
      rcases List.mem_append.mp h with h | h
      · obtain ⟨o, _, e⟩ := List.mem_map.mp h
        cases o <;> cases e
      · cases List.mem_singleton.mp h
    · refine ⟨by simp, fun ss h => ?_⟩
      obtain ⟨o, _, e⟩ := List.mem_map.mp h
      cases o <;> cases e
section
variable {P : Program} {w : World} {K : PySem.W.Frag} {mg : Str → Option Value} {base : Heap}
/-! ### read_row -/
def spRdr : Sp := fun vs H Q _ => ∃ (x : Str), vs = [.str x] ∧ x.cps.all (· < 128) = true ∧ x.cps.size ≤ 400000 ∧ ∀ v H', Same H H' → OThAt H' v (readR (Txt.split x " ")) → Q v H'
theorem scRdr : FnScope ["line", "words", "word", "is_far", "shown", "numbers", "row"] ["line"] (defScope sReadRow) := ⟨rfl, rfl, rfl, by decide +kernel, rfl, by decide +kernel, by decide +kernel⟩
def csRdrC1 : Scope := { kind := .function, names := [(".0", .local), ("text", .local), ("read_number", .globalImplicit), ("MOST_FIGURES", .globalImplicit)], isGenerator := false, isCoroutine := false, more := [] }
theorem scRdrC1 : CompSc (defScope sReadRow) csRdrC1 ["line", "words", "word", "is_far", "shown", "numbers", "row"] ["text"] [none] := ⟨rfl, by decide +kernel, by decide +kernel, by decide +kernel, by decide +kernel, by decide +kernel⟩
theorem ok_rdr {f fH fN fO fI : Addr} {fd fdH fdN fdO fdI : FuncData} (F : Fun K "read_row" "read_row" sReadRow f fd) (T : Txt K w.params mg) (GH : FnOk P w K mg base CX0 1 fH fdH ["word"] spFar) (kH : PySem.W.keepIn K (.ref fH) = true) (bH : Binds K fdH ["word"] []) (mH : mg "has_far" = some (.ref fH)) (GN : FnOk P w K mg base CX0 2 fN fdN ["text", "most_figures"] spRdn) (kN : PySem.W.keepIn K (.ref fN) = true) (bN : Binds K fdN ["text", "most_figures"] []) (mN : mg "read_number" = some (.ref fN)) (GO : FnOk P w K mg base CX0 2 fO fdO ["word", "far", "numbers"] spRof) (kO : PySem.W.keepIn K (.ref fO) = true) (bO : Binds K fdO ["word", "far", "numbers"] []) (mO : mg "row_of_numbers" = some (.ref fO)) (GI : FnOk P w K mg base CX0 6 fI fdI ["row"] spIsRow) (kI : PySem.W.keepIn K (.ref fI) = true) (bI : Binds K fdI ["row"] []) (mI : mg "is_row" = some (.ref fI)) : FnOk P w K mg base CX0 7 f fd ["line"] spRdr := by
  refine F.ok scRdr (fun vs H Q E h => ?_) (fun cdv A outer s H vs Q E hr h => ?_)
  · obtain ⟨x, rfl, _⟩ := h
    rfl
  · obtain ⟨x, rfl, ha, hz, k⟩ := h
    obtain ⟨p, hp, hlit, hodd, hb⟩ := T.prt
    obtain ⟨tm, hmf⟩ := T.mf
    have hr1 := hr.mono (show 1 ≤ 6 by decide)
    have hr2 := hr.mono (show 2 ≤ 6 by decide)
    have hu0 : (A.deeper (PyProof.Rows.envOfC "read_row" (defScope sReadRow) s.heap.objs.size f cdv)).units + 6 < cLine := Nat.lt_of_le_of_lt (Nat.add_le_add_left (by decide : 6 ≤ 64) _) hr.units
    refine ⟨_, (pss_cons (ps_set (i := 1) scRdr.nd rfl (Or.inl rfl) (pe_bm PySem.F.plainAttrs_str PySem.F.slot_str_split PySem.F.type_str_split mt_split (pv 0) (pa_cons pe_str pa_nil)))
      (pss_cons (ps_set (i := 2) scRdr.nd rfl (Or.inl rfl) (pe_ix ix_list (pv 1) pe_int (fun _ _ => rfl)))
      (pss_cons (ps_if (pt_cmp (pc_knotin (pv 2) (pe_glob (v := .ref p) (by rfl) hp rfl)) rfl) (pss_one (ps_ret pe_non)) pss_nil)
      (pss_cons (ps_set (i := 3) scRdr.nd rfl (Or.inl rfl) (pe_mid (pe_and (pe_call GH hr1 (by rfl) mH kH bH .nil pass0 (pa_cons (pv 2) pa_nil)) (pe_one (pe_cmpR (op_eqA hu0) (pe_slice sl_list (pv 1) (po_some pe_int) (po_some pe_int)) (pe_lst (pa_cons pe_str pa_nil)) (nomark _))))))
      (pss_cons (ps_set (i := 4) scRdr.nd rfl (Or.inl rfl) (pe_mid (pe_ifExp (pt_val (pv 3)) (pe_slice sl_list (pv 1) (po_some pe_int) po_none) (pe_slice sl_list (pv 1) (po_some pe_int) po_none))))
      (pss_cons (ps_comp (i := 5) (N' := ["text"]) (fr := [none]) scRdr.nd rfl rfl scRdrC1 rfl (pi_list (pv 4)) (fun C s0 H0 fp => (pg_name (i := 0) scRdrC1.nd rfl (Or.inl rfl))) (fun C s0 H0 fp => pts_nil) (fun C s0 H0 fp => (pe_call GN hr2 (by rfl) mN kN bN .nil pass0 (pa_cons (pv 0) (pa_cons (pe_glob (v := .int 10) (by rfl) hmf ⟨_, rfl⟩) pa_nil)))))
      (pss_cons (ps_set (i := 6) scRdr.nd rfl (Or.inl rfl) (pe_call GO hr2 (by rfl) mO kO bO .nil pass0 (pa_cons (pv 2) (pa_cons (pe_mid (pe_ifExp (pt_val (pv 3)) pe_int pe_int)) (pa_cons (pv 5) pa_nil)))))
      (pss_one (ps_ret (pe_ifExp (pt_val (pe_call GI hr (by rfl) mI kI bI .nil pass0 (pa_cons (pv 6) pa_nil))) (pv 6) pe_non)))))))))), ?_⟩
    refine ⟨_, rfl, rfl, x, " ", rfl, rfl, by decide, Nat.lt_of_le_of_lt (show x.cps.size ≤ 400000 from hz) (by decide), fun lw nw => ?_⟩
    have s1 := same_new (o := .lst ((Txt.split x " ").map V.str)) nw
    have h1 : upd H lw (.lst ((Txt.split x " ").map V.str)) lw = _ := upd_same
    generalize upd H lw (.lst ((Txt.split x " ").map V.str)) = H1 at s1 h1 ⊢
    have hcnt := split_cnt (c := 32) x
    have hmem : ∀ q ∈ Txt.split x " ", q.cps.all (· < 128) = true ∧ q.cps.size ≤ 400000 := fun q hq => ⟨split_asc (c := 32) ha hq, Nat.le_trans (split_mem (c := 32) hq).2 hz⟩
    have hne := split_ne x " "
    have hcnt : (Txt.split x " ").length ≤ x.cps.size + 1 := hcnt
    revert h1 hcnt hmem hne k
    generalize Txt.split x " " = ws
    intro k h1 hmem hne hcnt
    cases ws with
    | nil => exact absurd rfl hne
    | cons u r =>
    have hrl : r.length ≤ 400000 := by rw [List.length_cons] at hcnt; omega
    refine ⟨_, rfl, lw, _, 0, _, rfl, rfl, SqL.of h1, at0 _ _, ?_⟩
    cases hk : kinds.lookup u with
    | none =>
      refine ⟨_, rfl, p, u, none, rfl, rfl, hodd u hk, _, rfl, iteP rfl ?_⟩
      refine k _ _ s1 ?_
      rw [readR_none hk]
      rfl
    | some ks =>
      have hks := lk_mem hk
      obtain ⟨q2, hk2, hq2⟩ := hb _ hks
      refine ⟨_, rfl, p, u, some (.ref q2), rfl, rfl, hk2, _, rfl, iteN (fun z => by cases z) ?_⟩
      refine ⟨fun v H2 => v = .bl (farB u r) ∧ Same H1 H2, ?_, ?_⟩
      · refine ⟨_, rfl, u, ks, rfl, hks, _, rfl, ?_⟩
        rw [← farK_of hks]
        by_cases hf : farK u = true
        · refine iteP hf ?_
          refine ⟨_, rfl, 1, rfl, 2, rfl, lw, _, rfl, SqL.of h1, fun l1 n1 => ?_⟩
          rw [List.map_cons, cutV_12, ← List.map_take]
          refine ⟨Nat.le_of_ble_eq_true rfl, fun l2 n2 => ?_⟩
          refine ⟨1, l1, l2, _, _, rfl, rfl, .lst (SqL.of (same_new n2 _ _ upd_same)) (by simp) (strs_da _ _ (r.take 1)), .lst (xs := (["far"] : List Str).map V.str) (ds := (["far"] : List Str).map Da.str) (SqL.of upd_same) (by simp) (strs_da _ _ ["far"]), strs_nb _, strs_nb _, by decide, ?_⟩
          refine ⟨?_, (same_new n1).trans (same_new n2)⟩
          unfold farB
          rw [hf, Bool.true_and, Bool.false_xor]
          congr 1
          exact decide_eq_decide.mpr ⟨fun z => strs_inj (Da.lst.inj z), fun z => by rw [z]⟩
        · refine iteN hf ?_
          refine ⟨?_, .refl _⟩
          unfold farB
          rw [Bool.eq_false_iff.mpr hf]
          rfl
      · rintro v H2 ⟨rfl, s2⟩
        have s12 := s1.trans s2
        have h2 := s2 _ _ h1
        refine ⟨fun v H3 => ∃ l, v = .ref l ∧ Same H2 H3 ∧ H3 l = some (.lst ((if farB u r = true then r.drop 1 else r).map V.str)), ?_, ?_⟩
        · refine ⟨_, rfl, _, rfl, ?_⟩
          by_cases hf : farB u r = true
          · refine iteP hf ?_
            refine ⟨_, rfl, 2, rfl, lw, _, rfl, SqL.of h2, fun l1 n1 => ⟨l1, rfl, same_new n1, ?_⟩⟩
            rw [upd_same, cutV_from2, if_pos hf, List.map_drop]
            rfl
          · refine iteN hf ?_
            refine ⟨_, rfl, 1, rfl, lw, _, rfl, SqL.of h2, fun l1 n1 => ⟨l1, rfl, same_new n1, ?_⟩⟩
            rw [upd_same, cutV_from1, if_neg hf]
            rfl
        · rintro v H3 ⟨l, rfl, s3, h3⟩
          obtain ⟨sh, hsh⟩ : ∃ sh, sh = (if farB u r = true then r.drop 1 else r) := ⟨_, rfl⟩
          have hshl : sh.length ≤ 400000 := by
            rw [hsh]
            split
            · rw [List.length_drop]; omega
            · exact hrl
          have hshm : ∀ q ∈ sh, q.cps.all (· < 128) = true ∧ q.cps.size ≤ 400000 := fun q hq => hmem q (List.mem_cons_of_mem _ (by
            rw [hsh] at hq
            split at hq
            · exact List.mem_of_mem_drop hq
            · exact hq))
          have hth : thOf u r = rowT u (if farB u r = true then 1 else 0) (sh.map (readN 10)) := by unfold thOf; rw [hsh]
          rw [← hsh] at h3
          refine ⟨_, rfl, l, rfl, ⟨_, SqL.of h3⟩, fun D nD => comp_list (K := K) (a := l) (xs := sh.map V.str) (fun i σ ys H4 => ∃ v : Option V, σ = [v] ∧ ys = ((sh.take i).map (readN 10)).map ov ∧ Same H3 H4 ∧ H4 D = some (.lst ys)) ?_ ?_ ?_ ?_⟩
          · exact ⟨none, rfl, rfl, same_new nD, upd_same⟩
          · rintro i σ ys H4 _ ⟨v, rfl, rfl, s4, _⟩
            exact SqL.of (s4 _ _ h3)
          · rintro i y σ ys H4 hy ⟨v, rfl, rfl, s4, hD⟩
            rw [List.getElem?_map] at hy
            obtain ⟨c, hc, rfl⟩ := Option.map_eq_some_iff.mp hy
            have hil := (List.getElem?_eq_some_iff.mp hc).1
            obtain ⟨ca, cz⟩ := hshm c (List.mem_of_getElem? hc)
            refine ⟨_, rfl, c, 10, rfl, ca, Nat.le_trans cz (by decide), by decide, fun H5 s5 => ⟨s5 _ _ hD, ?_, _, rfl, ?_, same_put (s4.trans s5) nD, upd_same⟩⟩
            · rw [List.length_map, List.length_map, List.length_take]
              exact Nat.lt_of_le_of_lt (Nat.le_trans (Nat.min_le_left _ _) (show i ≤ 400000 by omega)) (by decide)
            · rw [List.take_add_one, hc, List.map_append, List.map_append]
              rfl
          · rintro σ ys H4 ⟨v, rfl, rfl, s4, hD⟩
            rw [List.length_map, List.take_length] at hD
            refine ⟨_, rfl, fun v H5 => v = .int (if farB u r = true then 1 else 0) ∧ H5 = H4, ?_, ?_⟩
            · refine ⟨_, rfl, _, rfl, ?_⟩
              by_cases hf : farB u r = true
              · exact iteP hf ⟨by rw [if_pos hf], rfl⟩
              · exact iteN hf ⟨by rw [if_neg hf], rfl⟩
            · rintro v H5 ⟨rfl, rfl⟩
              refine ⟨_, rfl, u, _, D, _, ks, rfl, hD, hks, by rw [List.length_map]; omega, fun v H6 s6 ht => ?_⟩
              rw [← hth] at ht
              have hrt := restT_len u (if farB u r = true then 1 else 0) (sh.map (readN 10))
              rw [List.length_map] at hrt
              refine ⟨_, rfl, v, thOf u r, rfl, ht, ?_, fun H7 s7 => ⟨_, rfl, ?_⟩⟩
              · rw [hth]
                exact ⟨.inl ⟨ks, hks⟩, by omega, fun ss h => by have := hrt.2 ss h; omega⟩
              have sf := s12.trans (s3.trans (s4.trans (s6.trans s7)))
              by_cases hrp : rowP (thOf u r) = true
              · refine iteP hrp ⟨_, rfl, k _ _ sf ?_⟩
                rw [readR_some hk, if_pos hrp]
                exact ht.same s7
              · refine iteN hrp (k _ _ sf ?_)
                rw [readR_some hk, if_neg hrp]
                rfl
end
end My


set_option Elab.async false
set_option linter.all false
set_option maxRecDepth 500000
set_option maxHeartbeats 4000000
namespace My
open PySem L2
/-! ### read_rows -/
def linesR (x : Str) : List (Option Th) := (Txt.split x "\n").map fun y => readR (Txt.split y " ")
/-- all tuples stay -/
def SameT (H H' : Hp) : Prop := ∀ b xs, H b = some (.tup xs) → H' b = some (.tup xs)
theorem SameT.put {H : Hp} {l : Addr} {xs ys : List V} (h : H l = some (.lst xs)) : SameT H (upd H l (.lst ys)) := fun b zs hb => by
  rw [upd_ne (fun z => by rw [z, h] at hb; cases hb)]
  exact hb
theorem Same.tups {H H' : Hp} (s : Same H H') : SameT H H' := fun b xs h => s _ _ h
theorem SameT.trans {H H' H'' : Hp} (s : SameT H H') (t : SameT H' H'') : SameT H H'' := fun b xs h => t _ _ (s _ _ h)
def FlatT : Th → Prop
  | .tup ps => Pt.lst ∉ ps
  | _ => False
theorem ThAt.tups {H H' : Hp} {v : V} {th : Th} (s : SameT H H') (hf : FlatT th) (h : ThAt H v th) : ThAt H' v th := by
  cases th with
  | tup ps =>
    obtain ⟨q, xs, e, hq, hl, hp⟩ := h
    refine ⟨q, xs, e, s _ _ hq, hl, fun i x p h1 h2 => ?_⟩
    have := hp i x p h1 h2
    cases p with
    | lst => exact absurd (List.mem_of_getElem? h2) hf
    | tup ss => obtain ⟨q, xs, a, b, c⟩ := this; exact ⟨q, xs, a, s _ _ b, c⟩
    | int i => exact this
    | bl b => exact this
    | non => exact this
    | str x => exact this
  | _ => exact hf.elim
theorem rowT_flat (u : Str) (f : Int) (ns : List (Option Int)) : FlatT (rowT u f ns) := by
  show Pt.lst ∉ Pt.str u :: restT u f ns
  have key : ∀ l : List (Option Int), Pt.lst ∉ l.map opP := fun l h => by
    obtain ⟨o, _, e⟩ := List.mem_map.mp h
    cases o <;> cases e
  intro h
  rcases List.mem_cons.mp h with h | h
  · cases h
  · unfold restT at h
    split at h
    · rcases List.mem_append.mp h with h | h
      · exact key _ h
      · cases List.mem_singleton.mp h
    · split at h
      · rcases List.mem_append.mp h with h | h
        · exact key _ h
        · cases List.mem_singleton.mp h
      · exact key _ h
theorem readR_th {ws : List Str} {th : Th} (h : readR ws = some th) : ∃ u r, ws = u :: r ∧ th = thOf u r ∧ rowP th = true ∧ ∃ ks, kinds.lookup u = some ks := by
  cases ws with
  | nil => cases h
  | cons u r =>
    cases hk : kinds.lookup u with
    | none => rw [readR_none hk] at h; cases h
    | some ks =>
      rw [readR_some hk] at h
      split at h
      · rename_i hr
        cases h
        exact ⟨u, r, rfl, rfl, hr, ks, hk⟩
      · cases h
theorem readR_flat {ws : List Str} {th : Th} (h : readR ws = some th) : FlatT th := by
  obtain ⟨u, r, _, rfl, _⟩ := readR_th h
  exact rowT_flat _ _ _
section
variable {P : Program} {w : World} {K : PySem.W.Frag} {mg : Str → Option Value} {base : Heap}
def spRds (cNT : Addr) : Sp := fun vs H Q E => ∃ (v : V), vs = [v] ∧ ((∃ x, v = .str x ∧ x.cps.all (· < 128) = true ∧ x.cps.size ≤ 400000 ∧
  (∀ ths : List Th, linesR x = ths.map some → ∀ l ys H', Same H H' → H l = none → H' l = some (.lst ys) → ys.length = ths.length → (∀ (i : Nat) v th, ys[i]? = some v → ths[i]? = some th → ThAt H' v th) → Q (.ref l) H') ∧
  (∀ r : Nat, (linesR x)[r]? = some none → (∀ j, j < r → ∃ th, (linesR x)[j]? = some (some th)) → ∀ H' d, Same H H' → H' d = some (.xd [("at", .int (r : Int))]) → E (.ref cNT) (some d) H')) ∨
  (∃ t, TyOf K H v t ∧ PySem.W.kitOne K t (.type "str") = some false ∧ ∀ H' d, Same H H' → H' d = some (.xd [("at", .int 0)]) → E (.ref cNT) (some d) H'))
theorem scRds : FnScope ["text", "rows", "at", "line", "row"] ["text"] (defScope sReadRows) := ⟨rfl, rfl, rfl, by decide +kernel, rfl, by decide +kernel, by decide +kernel⟩
theorem ok_rds {f fR cNT R fI : Addr} {fd fdR fdI : FuncData} (F : Fun K "read_rows" "read_rows" sReadRows f fd) (T : Txt K w.params mg) (GR : FnOk P w K mg base CX0 7 fR fdR ["line"] spRdr) (kR : PySem.W.keepIn K (.ref fR) = true) (bR : Binds K fdR ["line"] []) (mR : mg "read_row" = some (.ref fR))
    (cx : XIni K cNT R fI) (kC : PySem.W.keepIn K (.ref cNT) = true) (GI : FnOk P w K mg base CX0 1 fI fdI ["self", "at"] (spXI cNT)) (bI : Binds K fdI ["self", "at"] []) (mNT : mg "NoText" = some (.ref cNT)) : FnOk P w K mg base (CX2 P w) 8 f fd ["text"] (spRds (K := K) cNT) := by
  refine F.okX scRds (fun vs H Q E h => ?_) (fun cdv A outer s H vs Q E hr h => ?_)
  · obtain ⟨v, rfl, _⟩ := h
    rfl
  · obtain ⟨v, rfl, h⟩ := h
    have hr2 := hr.mono (show 2 ≤ 7 by decide)
    refine ⟨_, (pss_cons (ps_if (pt_not (pt_val (pe_callB call_isinst (by rfl) T.isi bt_isi (pa_cons (pv 0) (pa_cons (pe_bltn (v := .ty "str") (by rfl) T.str bt_str rfl) pa_nil))))) (pss_one (ps_raiseC cx kC GI bI hr2 mNT (by rfl) (pa_cons pe_int pa_nil))) pss_nil)
      (pss_cons (ps_set (i := 1) scRds.nd rfl (Or.inl rfl) (pe_lst pa_nil))
      (pss_cons (ps_for PassesOwn.leaving rfl (pi_enum rfl T.enum (pa_cons (pe_bm PySem.F.plainAttrs_str PySem.F.slot_str_split PySem.F.type_str_split mt_split (pv 0) (pa_cons pe_str pa_nil)) pa_nil)) (pg_two (K := K) (i := 2) (j := 3) rfl rfl scRds.nd rfl (Or.inl rfl) rfl (Or.inl rfl)) (pss_cons (ps_set (i := 4) scRds.nd rfl (Or.inl rfl) (pe_call GR hr (by rfl) mR kR bR .nil pass0 (pa_cons (pv 3) pa_nil)))
      (pss_cons (ps_if (pt_cmpR op_isN (pv 4) pe_non (nomark _)) (pss_one (ps_raiseC cx kC GI bI hr2 mNT (by rfl) (pa_cons (pv 2) pa_nil))) pss_nil)
      (pss_one (ps_expr (pe_bm PySem.F.plainAttrs_list PySem.F.slot_list_append PySem.F.type_list_append mt_append (pv 1) (pa_cons (pv 4) pa_nil)))))))
      (pss_one (ps_ret (pv 1)))))), ?_⟩
    rcases h with ⟨x, rfl, ha, hz, hq, hE⟩ | ⟨t, ht, hk, hE⟩
    · refine ⟨_, rfl, _, _, _, _, rfl, .str x, k_str_str, _, rfl, iteN (by decide) ?_⟩
      refine ⟨Nat.le_of_ble_eq_true rfl, fun lr nr => ?_⟩
      have s1 := same_new (o := .lst []) nr
      have h1 : upd H lr (.lst []) lr = _ := upd_same
      generalize upd H lr (.lst []) = H1 at s1 h1 ⊢
      refine ⟨_, rfl, rfl, x, "\n", rfl, rfl, by decide, Nat.lt_of_le_of_lt (show x.cps.size ≤ 400000 from hz) (by decide), fun lw nw => ?_⟩
      have hcnt : (Txt.split x "\n").length ≤ x.cps.size + 1 := split_cnt (c := 10) x
      have hmem : ∀ q ∈ Txt.split x "\n", q.cps.all (· < 128) = true ∧ q.cps.size ≤ 400000 := fun q hq => ⟨split_asc (c := 10) ha hq, Nat.le_trans (split_mem (c := 10) hq).2 hz⟩
      unfold linesR at hq hE
      have s2 := same_new (o := .lst ((Txt.split x "\n").map V.str)) nw
      have h2 : upd H1 lw (.lst ((Txt.split x "\n").map V.str)) lw = _ := upd_same
      have h2r := s2 _ _ h1
      have hne : lr ≠ lw := fun z => by rw [z] at h1; rw [h1] at nw; cases nw
      generalize upd H1 lw (.lst ((Txt.split x "\n").map V.str)) = H2 at s2 h2 h2r ⊢
      revert hcnt hmem hq hE h2
      generalize Txt.split x "\n" = ls
      intro hq hE hcnt hmem h2
      refine ⟨lw, rfl, ⟨_, SqL.of h2⟩, ?_⟩
      have hnw : H lw = none := by
        cases e : H lw with
        | none => rfl
        | some o => rw [s1 _ _ e] at nw; cases nw
      refine for_enum (xs := ls.map V.str) (fun i σ H3 => ∃ (v1 v2 v3 : Option V) (ths : List Th) (ys : List V), σ = [some (.str x), some (.ref lr), v1, v2, v3] ∧ Same H H3 ∧ H3 lw = some (.lst (ls.map V.str)) ∧ H3 lr = some (.lst ys) ∧ ys.length = i ∧ (ls.take i).map (fun y => readR (Txt.split y " ")) = ths.map some ∧ (∀ (j : Nat) v th, ys[j]? = some v → ths[j]? = some th → ThAt H3 v th)) ?_ ?_ ?_ ?_
      · exact ⟨none, none, none, [], [], rfl, s1.trans s2, h2, h2r, rfl, rfl, fun j v th h => by simp at h⟩
      · rintro i σ H3 _ ⟨v1, v2, v3, ths, ys, rfl, s3, h3, _⟩
        exact SqL.of h3
      · rintro i y σ H3 tt hy ntt ⟨v1, v2, v3, ths, ys, rfl, s3, h3, hr3, hyl, hths, hth⟩
        rw [List.getElem?_map] at hy
        obtain ⟨c, hc, rfl⟩ := Option.map_eq_some_iff.mp hy
        have hil := (List.getElem?_eq_some_iff.mp hc).1
        have s4 := same_new (o := .tup [V.int i, V.str c]) ntt
        have htt : upd H3 tt (.tup [V.int i, V.str c]) tt = _ := upd_same
        generalize upd H3 tt (.tup [V.int i, V.str c]) = H4 at s4 htt ⊢
        refine ⟨tt, _, rfl, SqT.of htt, rfl, _, _, rfl, _, _, rfl, rfl, ?_⟩
        obtain ⟨ca, cz⟩ := hmem c (List.mem_of_getElem? hc)
        refine ⟨_, rfl, c, rfl, ca, cz, fun v H5 s5 hv => ?_⟩
        cases hrc : readR (Txt.split c " ") with
        | none =>
          rw [hrc] at hv
          obtain rfl : v = .non := hv
          refine ⟨_, rfl, rfl, _, rfl, iteP (by decide) ?_⟩
          refine ⟨_, rfl, _, rfl, by omega, fun d nd => hE i ?_ ?_ _ d ((s3.trans (s4.trans s5)).trans (same_new nd)) upd_same⟩
          · rw [List.getElem?_map, hc]
            exact congrArg some hrc
          · intro j hj
            have hjl : j < ths.length := by
              have := congrArg List.length hths
              rw [List.length_map, List.length_map, List.length_take] at this
              omega
            refine ⟨ths[j], ?_⟩
            have e := congrArg (fun l => l[j]?) hths
            rw [List.getElem?_map, List.getElem?_map, List.getElem?_take, if_pos hj, List.getElem?_eq_getElem hjl] at e
            rw [List.getElem?_map]
            exact e
        | some th =>
          rw [hrc] at hv
          have hv : ThAt H5 v th := hv
          have hvr : ∃ q, v = .ref q := by
            have z : ∃ ps, th = .tup ps := by
              have := readR_flat hrc
              cases th with
              | tup ps => exact ⟨ps, rfl⟩
              | _ => exact this.elim
            obtain ⟨ps, rfl⟩ := z
            obtain ⟨q, xs, rfl, _⟩ := hv
            exact ⟨q, rfl⟩
          obtain ⟨q, rfl⟩ := hvr
          have s35 := s4.trans s5
          refine ⟨_, rfl, rfl, _, rfl, iteN (by rw [decide_eq_false (fun z => by cases z)]; decide) ?_⟩
          refine ⟨_, rfl, .inl ⟨rfl, _, SqL.of (s35 _ _ hr3)⟩, _, rfl, lr, _, _, rfl, rfl, s35 _ _ hr3, Nat.lt_of_le_of_lt (show ys.length ≤ 400001 by omega) (by decide), ?_⟩
          refine ⟨_, _, _, ths ++ [th], ys ++ [.ref q], rfl, same_put (s3.trans s35) nr, ?_, upd_same, by simp; omega, ?_, ?_⟩
          · rw [upd_ne hne.symm]
            exact s35 _ _ h3
          · rw [List.take_add_one, hc, List.map_append, hths, List.map_append]
            show _ ++ [readR (Txt.split c " ")] = _
            rw [hrc]
            rfl
          · have hlen : ths.length = ys.length := by
              have := congrArg List.length hths
              rw [List.length_map, List.length_map, List.length_take] at this
              omega
            have st : SameT H5 (upd H5 lr (.lst (ys ++ [V.ref q]))) := SameT.put (s35 _ _ hr3)
            intro j v t h1 h2
            by_cases hj : j < ys.length
            · rw [List.getElem?_append_left hj] at h1
              rw [List.getElem?_append_left (by omega)] at h2
              refine ThAt.tups ((Same.tups s35).trans st) ?_ (hth j v t h1 h2)
              have e : ((ls.take i).map fun y => readR (Txt.split y " "))[j]? = some (some t) := by rw [hths, List.getElem?_map, h2]; rfl
              rw [List.getElem?_map] at e
              obtain ⟨c2, _, hc2⟩ := Option.map_eq_some_iff.mp e
              exact readR_flat hc2
            · have h3 := (List.getElem?_eq_some_iff.mp h1).1
              rw [List.length_append] at h3
              have e : j = ys.length := by simp at h3; omega
              subst e
              have e1 : (ys ++ [V.ref q])[ys.length]? = some (V.ref q) := by simp
              have e2 : (ths ++ [th])[ys.length]? = some th := by rw [← hlen]; simp
              rw [e1] at h1
              rw [e2] at h2
              cases h1
              cases h2
              exact ThAt.tups st (readR_flat hrc) hv
      · rintro σ H3 ⟨v1, v2, v3, ths, ys, rfl, s3, h3, hr3, hyl, hths, hth⟩
        rw [List.length_map] at hyl hths
        rw [List.take_length] at hths
        have hlen : ths.length = ys.length := by
          have := congrArg List.length hths
          rw [List.length_map, List.length_map] at this
          omega
        exact ⟨_, rfl, hq ths hths lr ys H3 s3 nr hr3 hlen.symm hth⟩
    · refine ⟨_, rfl, _, _, _, _, rfl, ht, hk, _, rfl, iteP rfl ?_⟩
      exact ⟨0, rfl, by decide, fun d nd => hE _ d (same_new nd) upd_same⟩
end
end My


set_option Elab.async false
set_option linter.all false
set_option maxRecDepth 500000
set_option maxHeartbeats 4000000
namespace My
open PySem L2
open PySem.NumText PySem.W.KIN
/-! ### a number's text is read to it, and the other way -/
abbrev dgs (m : Nat) : List Nat := (Nat.toDigits 10 m).map Char.toNat
theorem tos_nat (m : Nat) : (tos (m : Int)).cps.toList = dgs m := signs_num m
theorem tos_neg (m : Nat) : (tos (-((m + 1 : Nat) : Int))).cps.toList = 45 :: dgs (m + 1) := by
  unfold tos
  rw [PyProof.Rows.signs_ofString]
  show (toString (Int.negSucc m)).toList.map Char.toNat = _
  show ("-" ++ Nat.repr (m + 1)).toList.map Char.toNat = _
  rw [String.toList_append, List.map_append, Nat.toList_repr]
  rfl
theorem figs_back {x : Str} (h : figP x = true) : x.cps.toList = dgs (digitsVal x.cps.toList) := by
  obtain ⟨hd, hne⟩ := fig_digits h
  cases hx : x.cps.toList with
  | nil => exact absurd hx hne
  | cons c r =>
    have e := toDigits_digitsVal r.length (c :: r) (by simp) (hx ▸ hd) (by
      by_cases hr : r.length = 0
      · exact .inl hr
      · refine .inr ⟨c, r, rfl, ?_⟩
        have hc := hd c (by rw [hx]; simp)
        unfold figP at h
        rw [Bool.and_eq_true, Bool.or_eq_true, Bool.and_eq_true] at h
        rcases h.2 with z | z
        · have := of_decide_eq_true z
          rw [this] at hx
          have := (List.cons.inj hx).2
          rw [← this] at hr
          exact absurd rfl hr
        · have z := of_decide_eq_true z.2
          rw [← Array.getElem?_toList, hx] at z
          have : c ≠ 48 := fun y => z (by rw [y]; rfl)
          omega)
    unfold dgs
    rw [e, List.map_map]
    have : ∀ d ∈ c :: r, (Char.toNat ∘ Char.ofNat) d = d := fun d hd' => by
      have z := hd d (by rw [hx]; exact hd')
      have : ∀ d : Nat, d < 58 → (Char.ofNat d).toNat = d := by decide
      exact this d (by omega)
    rw [List.map_congr_left this, List.map_id']
theorem readN_back {m : Int} {x : Str} {i : Int} (h : readN m x = some i) : tos i = x := by
  unfold readN at h
  split at h
  · cases h
  · rename_i h1
    have hf : figP (figsOf x) = true := by
      by_cases z : figP (figsOf x) = true
      · exact z
      · exact absurd (.inr z) h1
    have hb := figs_back hf
    split at h
    · cases h
    · rename_i h2
      by_cases hn : negS x = true
      · rw [if_pos hn] at h
        have e : figsOf x = tailS x := if_pos hn
        rw [e] at h hb h2
        have h3 : ¬ tailS x = "0" := fun z => h2 ⟨hn, z⟩
        have hp : digitsVal (tailS x).cps.toList ≠ 0 := fun z => by
          rw [z] at hb
          exact h3 (str_ext hb)
        obtain ⟨n, hm⟩ : ∃ n, digitsVal (tailS x).cps.toList = n + 1 := ⟨digitsVal (tailS x).cps.toList - 1, by omega⟩
        have h := Option.some.inj h
        unfold numOf at h
        rw [hm] at h hb
        rw [← h]
        apply str_ext
        rw [tos_neg, ← hb]
        unfold tailS
        have := of_decide_eq_true hn
        cases hx : x.cps.toList with
        | nil => rw [hx] at this; cases this
        | cons c r =>
          rw [hx] at this
          rw [Option.some.inj this]
          rfl
      · rw [if_neg hn] at h
        have e : figsOf x = x := if_neg hn
        rw [e] at h hb
        have h := Option.some.inj h
        unfold numOf at h
        rw [← h]
        apply str_ext
        rw [tos_nat, ← hb]
end My


set_option Elab.async false
set_option linter.all false
set_option maxRecDepth 500000
set_option maxHeartbeats 4000000
namespace My
open PySem L2
theorem op_fdivB {X : Cx} : OpR X (binaryOp .FloorDiv) (rI (fun _ j => 0 < j ∧ j < 18446744073709551616) fun i j => .int (i / j)) := opI fun i j _ _ _ _ _ hc q => by
  have h1 : (0 : Int) < j := hc.1
  have h2 : j < 18446744073709551616 := hc.2
  refine PyProof.Rows.floordiv_int (by omega) (by rw [Int.fdiv_eq_ediv_of_nonneg i (by omega)]; exact q) (.inl (PyProof.noPylong_of_log2 ?_))
  have h3 : j.natAbs.log2 < 64 := (Nat.log2_lt (by omega)).mpr (by omega)
  omega
/-- the drawing's own list -/
def St3 (H : Hp) (a : Addr) : Prop := ∃ x y z : Int, H a = some (.lst [.int x, .int y, .int z])
/-- all but the object at a stays -/
def SameX (a : Addr) (H H' : Hp) : Prop := ∀ c o, c ≠ a → H c = some o → H' c = some o
theorem SameX.trans {a : Addr} {H H' H'' : Hp} (e : SameX a H H') (e' : SameX a H' H'') : SameX a H H'' := fun c o n h => e' c o n (e c o n h)
theorem SameX.put {a : Addr} {H : Hp} {o : HO} : SameX a H (upd H a o) := fun c u n h => by rw [upd_ne n]; exact h
theorem SameX.of {a : Addr} {H H1 H2 : Hp} (e : Same H H1) (n : H a = none) (x : SameX a H1 H2) : Same H H2 := fun c o h => x c o (ne_of_none h n) (e c o h)
theorem SameX.same {a : Addr} {H H' : Hp} (e : Same H H') : SameX a H H' := fun c o _ h => e c o h
theorem St3.same {a : Addr} {H H' : Hp} (e : Same H H') (h : St3 H a) : St3 H' a := by
  obtain ⟨x, y, z, h⟩ := h
  exact ⟨x, y, z, e _ _ h⟩
theorem at_words (ws : List Str) (d c : Int) (h0 : c ≤ d) (h1 : d < c + ws.length) : ∃ u, u ∈ ws ∧ atI (ws.map V.str) (d - c) = some (.str u) := by
  obtain ⟨j, hj⟩ := Int.eq_ofNat_of_zero_le (show 0 ≤ d - c by omega)
  have hl : j < ws.length := by omega
  refine ⟨ws[j], List.getElem_mem hl, ?_⟩
  rw [hj]
  refine atI_nat (j := j) ?_
  rw [List.getElem?_map, List.getElem?_eq_getElem hl]
  rfl
theorem St3.ne {H : Hp} {l q : Addr} (h : St3 H l) (n : H q = none) : q ≠ l := by
  rintro rfl
  obtain ⟨_, _, _, h⟩ := h
  rw [h] at n
  exact absurd n (by simp)
/-! ### rows that are right -/
def GoodD (u : Str) (f : Int) (ns : List Int) : Prop := (∃ ks, (u, ks) ∈ kinds) ∧ rowP (rowT u f (ns.map some)) = true ∧ ns.length ≤ 17 ∧ (∀ i ∈ ns, i.natAbs ≤ 1000000000) ∧ (f = 0 ∨ f = 1)
theorem rest_plain {u : Str} {f : Int} {ns : List (Option Int)} (h : ¬ u = "table" ∧ farK u = false) : restT u f ns = ns.map opP := by
  unfold restT
  rw [if_neg h.1, if_neg (by rw [h.2]; decide)]
theorem rest_far {u : Str} {f : Int} {ns : List (Option Int)} (h : ¬ u = "table" ∧ farK u = true) : restT u f ns = ns.map opP ++ [.int f] := by
  unfold restT
  rw [if_neg h.1, if_pos h.2]
end My


set_option Elab.async false
set_option linter.all false
set_option maxRecDepth 500000
set_option maxHeartbeats 4000000
namespace My
open PySem L2
/-! ### what is shown is read again -/
/-- signs of a word: no blank, no line's end, ASCII -/
def cleanC (c : Nat) : Prop := c < 128 ∧ c ≠ 32 ∧ c ≠ 10
def Clean (x : Str) : Prop := ∀ c ∈ x.cps.toList, cleanC c
theorem tos_clean (i : Int) : Clean (tos i) := by
  intro c hc
  by_cases h : c = 45 ∨ (48 ≤ c ∧ c ≤ 57)
  · unfold cleanC; omega
  · exact absurd hc (PyProof.Rows.int_text_free' c (by omega) i)
/-! ### lines and texts -/
abbrev D3 := Str × Int × List Int
def lineS (d : D3) : Str := Txt.join " " (lineW d.1 d.2.1 d.2.2)
def textS (ds : List D3) : Str := Txt.join "\n" (ds.map lineS)
theorem tjoin (c : Nat) (ts : List Str) : Txt.join ⟨#[c]⟩ ts = Str.join ⟨#[c]⟩ ts := StrLaws.glued_eq_join _ _
theorem join_signs {c : Nat} : ∀ {ps : List Str} {d : Nat}, d ∈ (Str.join ⟨#[c]⟩ ps).cps.toList → d = c ∨ ∃ p ∈ ps, d ∈ p.cps.toList
  | [], d, h => by cases h
  | [x], d, h => .inr ⟨x, by simp, h⟩
  | x :: y :: r, d, h => by
    rw [join_list] at h
    rcases List.mem_append.mp h with h | h
    · exact .inr ⟨x, by simp, h⟩
    rcases List.mem_cons.mp h with h | h
    · exact .inl h
    · rcases join_signs h with h | ⟨p, hp, h⟩
      · exact .inl h
      · exact .inr ⟨p, List.mem_cons_of_mem _ hp, h⟩
theorem join_size {c n : Nat} : ∀ {ps : List Str}, (∀ p ∈ ps, p.cps.size ≤ n) → (Str.join ⟨#[c]⟩ ps).cps.size ≤ ps.length * (n + 1)
  | [], _ => Nat.zero_le _
  | [x], h => by have := h x (by simp); show x.cps.size ≤ 1 * (n + 1); omega
  | x :: y :: r, h => by
    have e := congrArg List.length (join_list (c := c) x y r)
    rw [List.length_append, List.length_cons] at e
    simp only [Array.length_toList] at e
    have h1 := h x (by simp)
    have h2 := join_size (c := c) (ps := y :: r) fun p hp => h p (List.mem_cons_of_mem _ hp)
    rw [List.length_cons, Nat.succ_mul]
    omega
end My


set_option Elab.async false
set_option linter.all false
set_option maxRecDepth 100000
set_option maxHeartbeats 4000000
namespace My
open PySem L2
/-! ### what is read of words is a right row, whose words they are -/
theorem are_all {ks : List Str} {ps : List Pt} (h : areP ks ps = true) : ps.length = ks.length ∧ ∀ (i : Nat) k p, ks[i]? = some k → ps[i]? = some p → partP k p = true := by
  unfold areP at h
  rw [Bool.and_eq_true] at h
  refine ⟨of_decide_eq_true h.1, fun i k p h1 h2 => ?_⟩
  exact (List.all_eq_true.mp h.2) (k, p) (List.mem_of_getElem? (i := i) (by rw [List.getElem?_zip_eq_some]; exact ⟨h1, h2⟩))
theorem bd_mem {k : Str} {b : Int × Int} (h : bounds.lookup k = some b) : (k, b) ∈ bounds := by
  have key : ∀ (l : List (Str × Int × Int)) (k : Str) b, l.lookup k = some b → (k, b) ∈ l := fun l => by
    induction l with
    | nil => intro k b h; cases h
    | cons y l ih =>
      intro k b h
      rw [List.lookup_cons] at h
      split at h
      · rename_i e
        have e := beq_iff_eq.mp e
        cases h
        subst e
        exact List.mem_cons_self
      · exact List.mem_cons_of_mem _ (ih k b h)
  exact key _ _ _ h
theorem part_some {k : Str} {o : Option Int} (h : partP k (opP o) = true) : ∃ i, o = some i ∧ i.natAbs ≤ 1000000000 := by
  unfold partP at h
  split at h
  · cases o <;> cases h
  · split at h
    · rename_i b hb
      cases o with
      | none => cases h
      | some i =>
        have h : decide (b.1 ≤ i ∧ i ≤ b.2) = true := h
        have hm := (by decide +kernel : ∀ y ∈ bounds, -1000000000 ≤ y.2.1 ∧ y.2.2 ≤ 1000000000) _ (bd_mem hb)
        have := of_decide_eq_true h
        exact ⟨i, rfl, by dsimp only at hm; omega⟩
    · cases h
theorem all_some {ns : List (Option Int)} (h : ∀ o ∈ ns, ∃ i : Int, o = some i ∧ i.natAbs ≤ 1000000000) : ∃ ms : List Int, ns = ms.map some ∧ ∀ i ∈ ms, i.natAbs ≤ 1000000000 := by
  induction ns with
  | nil => exact ⟨[], rfl, fun i h => by cases h⟩
  | cons o r ih =>
    obtain ⟨i, rfl, hi⟩ := h o (by simp)
    obtain ⟨ms, rfl, hm⟩ := ih fun o ho => h o (List.mem_cons_of_mem _ ho)
    refine ⟨i :: ms, rfl, fun j hj => ?_⟩
    rcases List.mem_cons.mp hj with rfl | hj
    · exact hi
    · exact hm j hj
theorem row_some {u : Str} {f : Int} {ns : List (Option Int)} {ks : List Str} (hk : kinds.lookup u = some ks) (h : rowP (rowT u f ns) = true) : ∃ ms : List Int, ns = ms.map some ∧ ms.length ≤ 17 ∧ ∀ i ∈ ms, i.natAbs ≤ 1000000000 := by
  have h : (match kinds.lookup u with | some ks => areP ks (restT u f ns) | none => false) = true := h
  rw [hk] at h
  have h : areP ks (restT u f ns) = true := h
  obtain ⟨hl, ha⟩ := are_all h
  have hk3 : ks.length ≤ 3 := (by decide +kernel : ∀ y ∈ kinds, y.2.length ≤ 3) _ (lk_mem hk)
  have hmem : ∀ {ps : List (Option Int)} (i : Nat) o, ps[i]? = some o → (ps.map opP)[i]? = some (opP o) := fun i o h => by rw [List.getElem?_map, h]; rfl
  unfold restT at hl ha
  split at hl
  · rename_i hu
    rw [if_pos hu] at ha
    subst hu
    rw [(by decide +kernel : kinds.lookup ("table" : Str) = some (["box", "targets"] : List Str))] at hk
    cases hk
    cases ns with
    | nil => simp at hl
    | cons o r =>
      have h1 := ha 0 "box" (opP o) rfl rfl
      have h2 := ha 1 "targets" (.tup (r.map opS)) rfl rfl
      unfold partP at h2
      rw [if_pos rfl] at h2
      have h2 : (decide (1 ≤ (r.map opS).length ∧ (r.map opS).length ≤ 16) && (r.map opS).all (numS 0 1000000000)) = true := h2
      rw [Bool.and_eq_true] at h2
      have hlr := of_decide_eq_true h2.1
      rw [List.length_map] at hlr
      obtain ⟨ms, e, hm⟩ := all_some (ns := o :: r) fun o' ho => by
        rcases List.mem_cons.mp ho with rfl | ho
        · exact part_some h1
        · have := (List.all_eq_true.mp h2.2) (opS o') (List.mem_map_of_mem ho)
          cases o' with
          | none => cases this
          | some i =>
            have := of_decide_eq_true (show decide (0 ≤ i ∧ i ≤ 1000000000) = true from this)
            exact ⟨i, rfl, by omega⟩
      refine ⟨ms, e, ?_, hm⟩
      have := congrArg List.length e
      simp at this
      omega
  · rename_i hu
    rw [if_neg hu] at ha
    split at hl
    · rename_i hf
      rw [if_pos hf] at ha
      have hlen : ns.length + 1 = ks.length := by simpa using hl
      obtain ⟨ms, e, hm⟩ := all_some (ns := ns) fun o ho => by
        obtain ⟨i, hi, rfl⟩ := List.getElem_of_mem ho
        have hki : ks[i]? = some (ks[i]'(by omega)) := List.getElem?_eq_getElem _
        exact part_some (ha i _ (opP ns[i]) hki (by rw [List.getElem?_append_left (by simp; omega)]; exact hmem i _ (List.getElem?_eq_getElem hi)))
      refine ⟨ms, e, ?_, hm⟩
      have := congrArg List.length e
      simp at this
      omega
    · rename_i hf
      rw [if_neg hf] at ha
      have hlen : ns.length = ks.length := by simpa using hl
      obtain ⟨ms, e, hm⟩ := all_some (ns := ns) fun o ho => by
        obtain ⟨i, hi, rfl⟩ := List.getElem_of_mem ho
        have hki : ks[i]? = some (ks[i]'(by omega)) := List.getElem?_eq_getElem _
        exact part_some (ha i _ (opP ns[i]) hki (hmem i _ (List.getElem?_eq_getElem hi)))
      refine ⟨ms, e, ?_, hm⟩
      have := congrArg List.length e
      simp at this
      omega
theorem map_back : ∀ {sh : List Str} {ms : List Int}, sh.map (readN 10) = ms.map some → sh = ms.map tos
  | [], [], _ => rfl
  | [], _ :: _, h => by cases h
  | _ :: _, [], h => by cases h
  | s :: r, i :: t, h => by
    have h := List.cons.inj h
    rw [map_back h.2, ← readN_back h.1]
    rfl
theorem readR_D {ws : List Str} {th : Th} (h : readR ws = some th) : ∃ d : D3, GoodD d.1 d.2.1 d.2.2 ∧ th = rowT d.1 d.2.1 (d.2.2.map some) ∧ lineW d.1 d.2.1 d.2.2 = ws := by
  obtain ⟨u, r, rfl, rfl, hr, ks, hk⟩ := readR_th h
  unfold thOf at hr ⊢
  obtain ⟨ms, e, hl, hm⟩ := row_some hk hr
  have hsh := map_back e
  rw [e] at hr
  refine ⟨(u, (if farB u r = true then 1 else 0), ms), ⟨⟨ks, lk_mem hk⟩, hr, hl, hm, by split <;> simp⟩, by rw [e], ?_⟩
  show u :: (farW (farK u && decide ((if farB u r = true then (1 : Int) else 0) = 1)) ++ ms.map tos) = u :: r
  congr 1
  rw [← hsh]
  by_cases hf : farB u r = true
  · rw [if_pos hf, if_pos hf]
    unfold farB at hf
    rw [Bool.and_eq_true] at hf
    rw [hf.1]
    have h1 := of_decide_eq_true hf.2
    have : r = r.take 1 ++ r.drop 1 := (List.take_append_drop 1 r).symm
    rw [h1] at this
    show (["far"] : List Str) ++ r.drop 1 = r
    exact this.symm
  · rw [if_neg hf, if_neg hf]
    have : farW (farK u && decide ((0 : Int) = 1)) = [] := by
      rw [show decide ((0 : Int) = 1) = false from rfl, Bool.and_false]
      rfl
    rw [this]
    rfl
end My


set_option Elab.async false
set_option linter.all false
set_option maxRecDepth 100000
set_option maxHeartbeats 4000000
namespace My
open PySem L2
/-! ### the law's own look at words -/
def isN (x : Str) (lo hi : Int) : Bool := match readN 10 x with
  | some i => decide (lo ≤ i ∧ i ≤ hi)
  | none => false
/-- the bounds of a form's letter: b, n, v, t -/
def bnd (c : Nat) : Int × Int := if c = 98 then (0, 7) else if c = 110 then (0, 1000000) else if c = 118 then (-1000000000, 1000000000) else (0, 1000000000)
def fitsB (ws : List Str) (form : List Nat) : Bool := decide (ws.length = form.length) && (ws.zip form).all fun x => isN x.1 (bnd x.2).1 (bnd x.2).2
theorem fits_cons (x : Str) (ws : List Str) (c : Nat) (form : List Nat) : fitsB (x :: ws) (c :: form) = (isN x (bnd c).1 (bnd c).2 && fitsB ws form) := by
  unfold fitsB
  rw [List.zip_cons_cons, List.all_cons, List.length_cons, List.length_cons]
  have : decide (ws.length + 1 = form.length + 1) = decide (ws.length = form.length) := decide_eq_decide.mpr ⟨fun z => by omega, fun z => by omega⟩
  rw [this]
  cases decide (ws.length = form.length) <;> simp
theorem are_nil : areP [] [] = true := by decide
theorem are_cons (k : Str) (ks : List Str) (p : Pt) (ps : List Pt) : areP (k :: ks) (p :: ps) = (partP k p && areP ks ps) := by
  unfold areP
  rw [List.zip_cons_cons, List.all_cons, List.length_cons, List.length_cons]
  have : decide (ps.length + 1 = ks.length + 1) = decide (ps.length = ks.length) := decide_eq_decide.mpr ⟨fun z => by omega, fun z => by omega⟩
  rw [this]
  cases decide (ps.length = ks.length) <;> simp
theorem part_isN {k : Str} {lo hi : Int} (hk : ¬ k = "targets") (hb : bounds.lookup k = some (lo, hi)) (x : Str) : partP k (opP (readN 10 x)) = isN x lo hi := by
  unfold partP isN
  rw [if_neg hk, hb]
  cases readN 10 x <;> rfl
/-- kinds and letters that say the same -/
def Alike (ks : List Str) (form : List Nat) : Prop := ks.length = form.length ∧ ∀ (i : Nat) k c, ks[i]? = some k → form[i]? = some c → ¬ k = "targets" ∧ bounds.lookup k = some (bnd c)
theorem are_fits : ∀ {ks : List Str} {form : List Nat}, Alike ks form → ∀ ws : List Str, areP ks ((ws.map (readN 10)).map opP) = fitsB ws form
  | [], [], _, [] => by decide
  | [], [], _, x :: r => by
    unfold areP fitsB
    simp
  | [], _ :: _, h, _ => by have := h.1; simp at this
  | _ :: _, [], h, _ => by have := h.1; simp at this
  | k :: ks, c :: form, h, [] => by
    unfold areP fitsB
    simp
  | k :: ks, c :: form, h, x :: r => by
    have h0 := h.2 0 k c rfl rfl
    have ht : Alike ks form := ⟨by have := h.1; simpa using this, fun i a b h1 h2 => h.2 (i + 1) a b h1 h2⟩
    rw [List.map_cons, List.map_cons, are_cons, fits_cons, are_fits ht r, part_isN (lo := (bnd c).1) (hi := (bnd c).2) h0.1 h0.2]
theorem readR_is {u : Str} {r : List Str} {ks : List Str} (hk : (u, ks) ∈ kinds) : (readR (u :: r)).isSome = areP ks (restT u (if farB u r = true then 1 else 0) ((if farB u r = true then r.drop 1 else r).map (readN 10))) := by
  rw [readR_some (lk_kinds _ hk)]
  have e : rowP (thOf u r) = areP ks (restT u (if farB u r = true then 1 else 0) ((if farB u r = true then r.drop 1 else r).map (readN 10))) := by
    unfold thOf
    show (match kinds.lookup u with | some ks => areP ks _ | none => false) = _
    rw [lk_kinds _ hk]
  rw [← e]
  cases h : rowP (thOf u r)
  · rw [if_neg (by decide)]; rfl
  · rw [if_pos rfl]; rfl
theorem shows_plain {u : Str} {r : List Str} {ks : List Str} {form : List Nat} (hk : (u, ks) ∈ kinds) (hu : ¬ u = "table" ∧ farK u = false) (ha : Alike ks form) : (readR (u :: r)).isSome = fitsB r form := by
  have hf : farB u r = false := by unfold farB; rw [hu.2]; rfl
  rw [readR_is hk, hf, rest_plain hu, if_neg (by decide)]
  exact are_fits ha r
/-- the words behind far -/
def rf (u : Str) (r : List Str) : List Str := if farB u r = true then r.drop 1 else r
theorem are_snoc : ∀ (ks : List Str) (ps : List Pt) (k : Str) (p : Pt), areP (ks ++ [k]) (ps ++ [p]) = (areP ks ps && partP k p)
  | [], [], k, p => by show areP [k] [p] = _; rw [are_cons, are_nil, Bool.and_true, Bool.true_and]
  | [], q :: ps, k, p => by
    unfold areP
    simp
  | a :: ks, [], k, p => by
    unfold areP
    simp
  | a :: ks, q :: ps, k, p => by
    rw [List.cons_append, List.cons_append, are_cons, are_cons, are_snoc ks ps k p, Bool.and_assoc]
theorem shows_far {u : Str} {r : List Str} {ks : List Str} {form : List Nat} (hk : (u, ks ++ [("far" : Str)]) ∈ kinds) (hu : ¬ u = "table" ∧ farK u = true) (ha : Alike ks form) : (readR (u :: r)).isSome = fitsB (rf u r) form := by
  rw [readR_is hk, rest_far hu, are_snoc, are_fits ha]
  have : partP "far" (.int (if farB u r = true then 1 else 0)) = true := by split <;> decide +kernel
  rw [this, Bool.and_true]
  rfl
theorem all_nums (r : List Str) : ((r.map (readN 10)).map opS).all (numS 0 1000000000) = r.all fun x => isN x 0 1000000000 := by
  induction r with
  | nil => rfl
  | cons x r ih =>
    rw [List.map_cons, List.map_cons, List.all_cons, List.all_cons, ih]
    congr 1
    unfold isN
    cases readN 10 x <;> rfl
theorem fits_ts (r : List Str) : fitsB r (List.replicate r.length 116) = r.all fun x => isN x 0 1000000000 := by
  induction r with
  | nil => decide
  | cons x r ih =>
    rw [List.length_cons, List.replicate_succ, fits_cons, ih, List.all_cons]
    rfl
theorem shows_table (r : List Str) : (readR ("table" :: r)).isSome = (decide (2 ≤ r.length ∧ r.length ≤ 17) && fitsB r (98 :: List.replicate (r.length - 1) 116)) := by
  have hf : farB "table" r = false := rfl
  rw [readR_is (ks := ["box", "targets"]) (by decide), hf, if_neg (by decide)]
  cases r with
  | nil => decide +kernel
  | cons x t =>
    show areP ["box", "targets"] [opP (readN 10 x), .tup ((t.map (readN 10)).map opS)] = _
    rw [are_cons, are_cons, are_nil, Bool.and_true, part_isN (lo := 0) (hi := 7) (by decide) (by decide +kernel), fits_cons]
    have e1 : partP "targets" (.tup ((t.map (readN 10)).map opS)) = (decide (1 ≤ t.length ∧ t.length ≤ 16) && t.all fun x => isN x 0 1000000000) := by
      unfold partP
      rw [if_pos rfl]
      show (decide (1 ≤ ((t.map (readN 10)).map opS).length ∧ ((t.map (readN 10)).map opS).length ≤ 16) && _) = _
      rw [List.length_map, List.length_map, all_nums]
    rw [e1, List.length_cons, Nat.add_sub_cancel, fits_ts]
    have e2 : decide (2 ≤ t.length + 1 ∧ t.length + 1 ≤ 17) = decide (1 ≤ t.length ∧ t.length ≤ 16) := decide_eq_decide.mpr ⟨fun z => by omega, fun z => by omega⟩
    rw [e2]
    show (isN x 0 7 && _) = (_ && (isN x 0 7 && _))
    cases isN x 0 7 <;> cases decide (1 ≤ t.length ∧ t.length ≤ 16) <;> simp
theorem shows_none {u : Str} {r : List Str} (h : kinds.lookup u = none) : (readR (u :: r)).isSome = false := by
  rw [readR_none h]
  rfl
end My


set_option Elab.async false
set_option linter.all false
set_option maxRecDepth 100000
set_option maxHeartbeats 4000000
namespace L2
open PySem PySem.Spec PyProof.Rows
/-! ### zip of a list and a text -/
section
variable {prog : Program} {w : World} {A : Around} {E : Value → Shared → Prop} {s : Shared}
theorem zipLS_item {z TI TO i1 i2 l1 l2 : Addr} {k : Nat} {xs : Array Value} {z0 : Str} {t0 : Tok} {c0 : Nat} {x a b : Value} {Q : Option Value → Shared → Prop} (D : ZipApart z TI TO i1 i2 l1 l2)
    (gz : IsZip s.heap z TI TO .none) (gI : IsPair s.heap TI (.ref i1) (.ref i2)) (gO : IsPair s.heap TO a b)
    (t1 : s.heap.IsListIter i1 l1 k) (t2 : s.heap.IsStrIter i2 "str_ascii_iterator" z0 t0 k) (m1 : s.heap.IsList l1 xs) (gx : xs[k]? = some x) (gy : z0.cps[k]? = some c0)
    (q : ∀ h', IsZip h' z TI TO (rawInt s.heap.objs.size) → IsPair h' TO x (.str ⟨#[c0]⟩ s.toks) → h'.IsListIter i1 l1 (k + 1) → h'.IsStrIter i2 "str_ascii_iterator" z0 t0 (k + 1) → IsPair h' s.heap.objs.size x (.str ⟨#[c0]⟩ s.toks) → h'.objs.size = s.heap.objs.size + 1 →
      (∀ c o, c ≠ z → c ≠ TO → c ≠ i1 → c ≠ i2 → s.heap.get? c = some o → h'.get? c = some o) → Q (some (.ref s.heap.objs.size)) { s with heap := h', toks := s.toks + 1 }) : wpAny (model prog w) A (pyNext (.ref z)) Q E s := by
  have hT : s.TypeIs (.ref z) "zip" := ⟨_, gz, rfl⟩
  unfold pyNext
  refine wpAny_bind (wpAny_attempt (wpAny_callSpecial?_slot (name := Str.ofString "__next__") hT F.slot_zip_next (wpAny_call_entry F.slot_zip_next hT F.entry_zip_next ?_ (F.args_zip_next_1 _))))
  show wpAny _ _ (field (.ref z) 2 >>= _) _ _ _; refine wpAny_bind (wpAny_field gz rfl (x := .bool false) rfl ?_)
  show wpAny _ _ (field (.ref z) 3 >>= _) _ _ _; refine wpAny_bind (wpAny_field gz rfl (x := .ref TI) rfl ?_); refine wpAny_bind (wpAny_seqItems gI rfl ?_)
  show wpAny _ _ (Builtin.SmallTypes.ownedTupleIsFree (.ref z) >>= _) _ _ _; refine wpAny_bind ?_; unfold Builtin.SmallTypes.ownedTupleIsFree
  refine wpAny_bind (wpAny_field gz rfl (x := .none) rfl (wpAny_pure ?_)); simp only [if_true]; refine wpAny_bind (wpAny_rule ?_); refine wpAny_bind (wpAny_field gz rfl (x := .ref TO) rfl ?_)
  refine wpAny_bind (wpAny_setField_rec gz (by simp) fun g1 z1 e1 => ?_); replace z1 : IsZip g1 z TI TO .ellipsis := z1; refine wpAny_bind ?_
  simp only [List.zipIdx_cons, List.zipIdx_nil, List.forIn_cons, List.forIn_nil]; refine wpAny_bind (wpAny_bind (wpAny_onRaise ?_))
  show wpAny _ _ (Builtin.SmallTypes.nextOf (.ref i1) >>= _) _ _ _; refine wpAny_bind (wpAny_nextOf_list_item (t1.extBut e1.extBut D.i1z) (m1.extBut e1.extBut D.l1z) gx fun g2 t1' e2 => wpAny_pure ?_)
  have o2 : IsPair g2 TO a b := e2.extBut _ _ D.TOi1 (e1.extBut _ _ D.TOz gO)
  refine wpAny_bind (wpAny_seqItems o2 rfl ?_); refine wpAny_bind (wpAny_updateSeq_pair o2 fun g3 o3 e3 => ?_); replace o3 : IsPair g3 TO x b := o3; refine wpAny_bind (wpAny_letGo (wpAny_pure ?_)); refine wpAny_bind (wpAny_bind (wpAny_onRaise ?_))
  show wpAny _ _ (Builtin.SmallTypes.nextOf (.ref i2) >>= _) _ _ _; refine wpAny_bind (wpAny_nextOf_ascii_item (((t2.extBut e1.extBut D.i2z).extBut e2.extBut D.i12.symm).extBut e3.extBut D.TOi2.symm) gy fun g4 t2' e4 => wpAny_pure ?_)
  have o4 : IsPair g4 TO x b := e4.extBut _ _ D.TOi2 o3
  refine wpAny_bind (wpAny_seqItems o4 rfl ?_); refine wpAny_bind (wpAny_updateSeq_pair o4 fun g5 o5 e5 => ?_); replace o5 : IsPair g5 TO x (.str ⟨#[c0]⟩ s.toks) := o5; refine wpAny_bind (wpAny_letGo (wpAny_pure (wpAny_pure ?_)))
  refine wpAny_bind (wpAny_seqItems o5 rfl ?_); refine wpAny_bind (wpAny_newTuple ?_)
  have sz : g5.objs.size = s.heap.objs.size := by rw [e5.1, e4.1, e3.1, e2.1, e1.1]
  have z5 : IsZip g5 z TI TO .ellipsis := e5.extBut _ _ D.TOz.symm (e4.extBut _ _ D.i2z.symm (e3.extBut _ _ D.TOz.symm (e2.extBut _ _ D.i1z.symm z1)))
  have kp : ∀ c o, c ≠ z → c ≠ TO → c ≠ i1 → c ≠ i2 → s.heap.get? c = some o → g5.get? c = some o := fun c o c1 c2 c3 c4 e => e5.extBut _ _ c2 (e4.extBut _ _ c4 (e3.extBut _ _ c2 (e2.extBut _ _ c3 (e1.extBut _ _ c1 e))))
  have u1 : g5.IsListIter i1 l1 (k + 1) := ((t1'.extBut e3.extBut D.TOi1.symm).extBut e4.extBut D.i12).extBut e5.extBut D.TOi1.symm
  have u2 : g5.IsStrIter i2 "str_ascii_iterator" z0 t0 (k + 1) := t2'.extBut e5.extBut D.TOi2.symm
  have zl : z < g5.objs.size := Heap.lt_size z5
  show wpAny _ _ (Builtin.SmallTypes.ownedTupleHandOut (.ref z) (.ref g5.objs.size) >>= _) _ _ _; refine wpAny_bind ?_; unfold Builtin.SmallTypes.ownedTupleHandOut
  have z6 : IsZip (g5.push { cls := .type "tuple", data := .seq #[x, .str ⟨#[c0]⟩ s.toks] }) z TI TO .ellipsis := Heap.get?_push_of_some _ z5
  refine wpAny_bind (wpAny_setField_rec z6 (by simp) fun g7 z7 e7 => ?_); replace z7 : IsZip g7 z TI TO (rawInt g5.objs.size) := z7
  refine wpAny_setField_rec z7 (by simp) fun g8 z8 e8 => ?_; replace z8 : IsZip g8 z TI TO (rawInt g5.objs.size) := z8
  have up : ∀ c o, c ≠ z → g5.get? c = some o → g8.get? c = some o := fun c o c1 e => e8.extBut _ _ c1 (e7.extBut _ _ c1 (Heap.get?_push_of_some _ e))
  have n8 : IsPair g8 g5.objs.size x (.str ⟨#[c0]⟩ s.toks) := e8.extBut _ _ (Nat.ne_of_gt zl) (e7.extBut _ _ (Nat.ne_of_gt zl) (Heap.get?_push_size _ rfl))
  have s8 : g8.objs.size = g5.objs.size + 1 := by rw [e8.1, e7.1, Heap.size_push]
  rw [sz] at z8 n8 s8
  refine wpAny_pure ⟨.ref g5.objs.size, rfl, wpAny_pure ?_⟩
  rw [sz]
  exact q g8 z8 (up _ _ D.TOz o5) (u1.at fun o e => up _ o D.i1z e) (let ⟨o, e, r⟩ := u2; ⟨o, up _ o D.i2z e, r⟩) n8 s8 fun c o c1 c2 c3 c4 e => up c o c1 (kp c o c1 c2 c3 c4 e)
/-- the end where the first of the two ends -/
theorem zipLS_end {z TI TO i1 i2 l1 l2 : Addr} {k : Nat} {xs : Array Value} {Q : Option Value → Shared → Prop} (hh : A.handled = none) (D : ZipApart z TI TO i1 i2 l1 l2)
    (gz : IsZip s.heap z TI TO .none) (gI : IsPair s.heap TI (.ref i1) (.ref i2)) (t1 : s.heap.IsListIter i1 l1 k) (m1 : s.heap.IsList l1 xs) (gx : xs[k]? = none)
    (q : ∀ h', (∀ c o, c ≠ z → c ≠ TO → c ≠ i1 → c ≠ i2 → s.heap.get? c = some o → h'.get? c = some o) → Q none { s with heap := h' }) : wpAny (model prog w) A (pyNext (.ref z)) Q E s := by
  have hT : s.TypeIs (.ref z) "zip" := ⟨_, gz, rfl⟩
  unfold pyNext
  refine wpAny_bind (wpAny_attempt (wpAny_callSpecial?_slot (name := Str.ofString "__next__") hT F.slot_zip_next (wpAny_call_entry F.slot_zip_next hT F.entry_zip_next ?_ (F.args_zip_next_1 _))))
  show wpAny _ _ (field (.ref z) 2 >>= _) _ _ _; refine wpAny_bind (wpAny_field gz rfl (x := .bool false) rfl ?_)
  show wpAny _ _ (field (.ref z) 3 >>= _) _ _ _; refine wpAny_bind (wpAny_field gz rfl (x := .ref TI) rfl ?_); refine wpAny_bind (wpAny_seqItems gI rfl ?_)
  show wpAny _ _ (Builtin.SmallTypes.ownedTupleIsFree (.ref z) >>= _) _ _ _; refine wpAny_bind ?_; unfold Builtin.SmallTypes.ownedTupleIsFree
  refine wpAny_bind (wpAny_field gz rfl (x := .none) rfl (wpAny_pure ?_)); simp only [if_true]; refine wpAny_bind (wpAny_rule ?_); refine wpAny_bind (wpAny_field gz rfl (x := .ref TO) rfl ?_)
  refine wpAny_bind (wpAny_setField_rec gz (by simp) fun g1 z1 e1 => ?_); replace z1 : IsZip g1 z TI TO .ellipsis := z1; refine wpAny_bind ?_
  simp only [List.zipIdx_cons, List.zipIdx_nil, List.forIn_cons, List.forIn_nil]; refine wpAny_bind (wpAny_bind (wpAny_onRaise ?_))
  show wpAny _ _ (Builtin.SmallTypes.nextOf (.ref i1) >>= _) _ _ _; refine wpAny_bind (wpAny_nextOf_list_end hh (t1.extBut e1.extBut D.i1z) (m1.extBut e1.extBut D.l1z) gx fun g2 e e2 he => ?_)
  obtain ⟨oe, hoe, hce⟩ := he
  have z2 : IsZip g2 z TI TO .ellipsis := e2 _ _ D.i1z.symm z1
  have ne : e ≠ z := fun x => by subst x; rw [z2] at hoe; cases hoe; simp at hce
  refine wpAny_setField_rec z2 (by simp) fun g3 _ e3 => ?_
  refine wpAny_bind (wpAny_isInstance (T := "StopIteration") (b := true) ⟨oe, e3.extBut _ _ ne hoe, hce⟩ isSubtype_stop ?_)
  exact wpAny_pure (q g3 fun c o c1 _ c3 _ x => e3.extBut _ _ c1 (e2 _ _ c3 (e1.extBut _ _ c1 x)))
end
abbrev zL1 (h : Heap) (a : Addr) : Heap := h.push { cls := .type "list_iterator", data := .fields #[.ref a, .int 0 0] }
abbrev zL2 (h : Heap) (a : Addr) (z0 : Str) (t0 : Tok) : Heap := (zL1 h a).push { cls := .type "str_ascii_iterator", data := .fields #[.str z0 t0, .int 0 0] }
abbrev zL3 (h : Heap) (a : Addr) (z0 : Str) (t0 : Tok) : Heap := (zL2 h a z0 t0).push { cls := .type "tuple", data := .seq #[.ref h.objs.size, .ref (zL1 h a).objs.size] }
abbrev zL4 (h : Heap) (a : Addr) (z0 : Str) (t0 : Tok) : Heap := (zL3 h a z0 t0).push { cls := .type "tuple", data := .seq #[.none, .none] }
abbrev zL5 (h : Heap) (a : Addr) (z0 : Str) (t0 : Tok) : Heap := (zL4 h a z0 t0).push { cls := .type "zip", data := .fields #[.none, .bool false, .bool false, .ref (zL2 h a z0 t0).objs.size, .ref (zL3 h a z0 t0).objs.size] }
theorem mzLS (a : Addr) (z0 : Str) (t0 : Tok) (xs : Array Value) : Meets (Builtin.«zip.__new__» ⟨[.type "zip", .ref a, .str z0 t0], []⟩) (fun _ R s => s.heap.IsList a xs ∧ z0.cps.all (· < 128) = true ∧ R (.ok (.ret (.ref (zL4 s.heap a z0 t0).objs.size))) { s with heap := zL5 s.heap a z0 t0 }) :=
  .of_wp fun prog w A R s h => by
    obtain ⟨hp, g, d, tk, os⟩ := s; obtain ⟨m1, ha, h⟩ := h
    have hsub := sub_zip
    have n1 : Heap.IsList (Shared.heap ⟨hp, g, d, tk, os⟩) a xs := m1
    wp_walk using wpAny_pyIter_list n1, wpAny_pyIter_ascii ha
    exact ⟨_, rfl, h⟩
section
variable {prog : Program} {w : World} {A : Around} {E : Value → Shared → Prop} {s : Shared}
theorem call_zipLS {a : Addr} {z0 : Str} {t0 : Tok} {xs : Array Value} {Q : Value → Shared → Prop} (m1 : s.heap.IsList a xs) (ha : z0.cps.all (· < 128) = true)
    (h : ∀ h', IsZip h' (s.heap.objs.size + 4) (s.heap.objs.size + 2) (s.heap.objs.size + 3) .none → IsPair h' (s.heap.objs.size + 2) (.ref s.heap.objs.size) (.ref (s.heap.objs.size + 1)) →
      IsPair h' (s.heap.objs.size + 3) .none .none → h'.IsListIter s.heap.objs.size a 0 → h'.IsStrIter (s.heap.objs.size + 1) "str_ascii_iterator" z0 t0 0 → (∀ c o, s.heap.get? c = some o → h'.get? c = some o) → Q (.ref (s.heap.objs.size + 4)) { s with heap := h' }) :
    wpAny (model prog w) A (call (.type "zip") [.ref a, .str z0 t0]) Q E s := by
  refine callType_new F.called_zip (by decide) (F.typeCall_zip_2 _ _) (F.newCall_zip_2 _ _) (fun obj => F.args_object_init_3 obj _ _) F.entry_zip_new (mzLS a z0 t0 xs) ⟨m1, ha, ?_⟩
  have z1 : (zL1 s.heap a).objs.size = s.heap.objs.size + 1 := Heap.size_push ..
  have z2 : (zL2 s.heap a z0 t0).objs.size = s.heap.objs.size + 2 := by rw [Heap.size_push, z1]
  have z3 : (zL3 s.heap a z0 t0).objs.size = s.heap.objs.size + 3 := by rw [Heap.size_push, z2]
  have z4 : (zL4 s.heap a z0 t0).objs.size = s.heap.objs.size + 4 := by rw [Heap.size_push, z3]
  have g5 : (zL5 s.heap a z0 t0).get? (zL4 s.heap a z0 t0).objs.size = some _ := Heap.get?_push_size _ rfl
  have g4 : (zL5 s.heap a z0 t0).get? (zL3 s.heap a z0 t0).objs.size = some _ := Heap.get?_push_of_some _ (Heap.get?_push_size _ rfl)
  have g3 : (zL5 s.heap a z0 t0).get? (zL2 s.heap a z0 t0).objs.size = some _ := Heap.get?_push_of_some _ (Heap.get?_push_of_some _ (Heap.get?_push_size _ rfl))
  have g2 : (zL5 s.heap a z0 t0).get? (zL1 s.heap a).objs.size = some _ := Heap.get?_push_of_some _ (Heap.get?_push_of_some _ (Heap.get?_push_of_some _ (Heap.get?_push_size _ rfl)))
  have g1 : (zL5 s.heap a z0 t0).get? s.heap.objs.size = some _ := Heap.get?_push_of_some _ (Heap.get?_push_of_some _ (Heap.get?_push_of_some _ (Heap.get?_push_of_some _ (Heap.get?_push_size _ rfl))))
  show _ ∧ _
  rw [z2, z3, z4] at g5
  rw [z1, z2] at g3
  rw [z3] at g4
  rw [z1] at g2
  rw [z4]
  refine ⟨⟨_, g5, rfl⟩, h _ g5 g3 g4 ⟨_, g1, rfl, rfl⟩ ⟨_, g2, rfl, rfl⟩ fun c o x => ?_⟩
  exact Heap.get?_push_of_some _ (Heap.get?_push_of_some _ (Heap.get?_push_of_some _ (Heap.get?_push_of_some _ (Heap.get?_push_of_some _ x))))
end
/-- the items of a list with the signs of a text, as new pairs; the list's length counts -/
def Itzs (K : PySem.W.Frag) (a : Addr) (z0 : Str) : It :=
  ⟨fun i H => ∃ xs x y, SqL K H a xs ∧ xs[i]? = some x ∧ chV z0 i = some y,
   fun i H v H' => ∃ t x y, H t = none ∧ v = .ref t ∧ H' = upd H t (.tup [x, y]) ∧ (∀ xs, SqL K H a xs → xs[i]? = some x) ∧ chV z0 i = some y,
   fun i H => ∃ xs, SqL K H a xs ∧ xs.length ≤ i⟩
theorem turn_zipS {P : Program} {w : World} {K : PySem.W.Frag} {elts : List Expr} {x1} {pos : Pos} (a l2 : Addr) (z0 : Str) (t0 : Tok) (z TI TO i1 i2 : Addr) (D : ZipApart z TI TO i1 i2 a l2) :
    Turn P w K (.Tuple elts x1 pos) (Itzs K a z0) [z, TI, TO, i1, i2] z (fun i h => IsZip h z TI TO .none ∧ IsPair h TI (.ref i1) (.ref i2) ∧ (∃ u v, IsPair h TO u v) ∧ h.IsListIter i1 a i ∧ h.IsStrIter i2 "str_ascii_iterator" z0 t0 i) where
  mem := by simp
  obj := fun i h st c hc => by
    obtain ⟨s1, s2, ⟨u, v, s3⟩, ⟨o4, s4, _, d4⟩, ⟨o5, s5, _, d5⟩⟩ := st
    have hc' : c = z ∨ c = TI ∨ c = TO ∨ c = i1 ∨ c = i2 := by simpa using hc
    rcases hc' with rfl | rfl | rfl | rfl | rfl
    · exact ⟨_, s1, fun v q => by have q' : Data.fields _ = Data.cell v := q; cases q'⟩
    · exact ⟨_, s2, fun v q => by have q' : Data.seq _ _ = Data.cell v := q; cases q'⟩
    · exact ⟨_, s3, fun v q => by have q' : Data.seq _ _ = Data.cell v := q; cases q'⟩
    · exact ⟨o4, s4, fun v q => by rw [d4] at q; cases q⟩
    · exact ⟨o5, s5, fun v q => by rw [d5] at q; cases q⟩
  keep := fun i h h' st k => ⟨k z (by simp) _ st.1, k TI (by simp) _ st.2.1, st.2.2.1.elim fun u q => q.elim fun v q => ⟨u, v, k TO (by simp) _ q⟩, st.2.2.2.1.at fun o e => k i1 (by simp) o e, (let ⟨o, e, r⟩ := st.2.2.2.2; ⟨o, k i2 (by simp) o e, r⟩)⟩
  item := by
    intro X hP hw hK hc i pins s σ H E I hf st hg
    subst hP hw hK
    obtain ⟨xs, x, y, hq, hx, hy⟩ := hg
    obtain ⟨c0, hc0, rfl⟩ := Option.map_eq_some_iff.mp (show (z0.cps[i]?).map (fun c => V.str ⟨#[c]⟩) = some y from hy)
    obtain ⟨s1, s2, ⟨u, v, s3⟩, s4, s5⟩ := st
    obtain ⟨its, rv, p, hz⟩ := I.list hq
    obtain ⟨ux, hux, rux⟩ := rv.get hx
    refine zipLS_item D s1 s2 s3 s4 s5 p.isList (x := ux) (by simpa using hux) hc0 fun h1 a1 a2 a3 a4 a5 a6 k1 => ?_
    refine ⟨_, rfl, wpAny_letOwnedTupleGo_zip (s := { s with heap := h1, toks := s.toks + 1 }) a1 fun h2 b1 b2 => ?_⟩
    have nz : s.heap.objs.size ≠ z := Nat.ne_of_gt (Heap.lt_size s1)
    have ht2 := (b2.2 s.heap.objs.size nz).trans a5
    have hk : ∀ c o, c ∉ [z, TO, i1, i2] → s.heap.get? c = some o → h2.get? c = some o := fun c o hb e' => by
      have hb' : c ≠ z ∧ c ≠ TO ∧ c ≠ i1 ∧ c ≠ i2 := by simpa using hb
      exact (b2.2 c hb'.1).trans (k1 c o hb'.1 hb'.2.1 hb'.2.2.1 hb'.2.2.2 e')
    have hfr : H s.heap.objs.size = none := I.hok.fresh (Nat.le_refl _)
    refine ⟨.ref s.heap.objs.size, upd H s.heap.objs.size (.tup [x, .str ⟨#[c0]⟩]), I.turnedNew (t' := s.toks + 1) hk (fun c hc => hf c (by simp at hc ⊢; rcases hc with q | q | q | q <;> simp [q])) (Nat.le_refl _) ?_, rfl,
      ⟨_, x, _, hfr, rfl, rfl, fun zs hy' => by rw [I.list_inj hy' hq]; exact hx, hy⟩, ⟨b1, ?_, ⟨ux, .str ⟨#[c0]⟩ s.toks, ?_⟩, a3.at fun o e => (b2.2 i1 D.i1z).trans e, (let ⟨o, e, r⟩ := a4; ⟨o, (b2.2 i2 D.i2z).trans e, r⟩)⟩, fun c hc => ?_⟩
    · exact ⟨by show 2 ≤ sizeLine; decide, [ux, .str ⟨#[c0]⟩ s.toks], .cons rux (.cons ⟨_, rfl⟩ .nil), ⟨_, ht2, rfl, _, rfl⟩⟩
    · exact hk TI _ (by simp [D.TIz, D.TITO, D.TIi1, D.TIi2]) s2
    · exact (b2.2 TO D.TOz).trans a2
    · have : c ≠ s.heap.objs.size := by
        have hc' : c = z ∨ c = TI ∨ c = TO ∨ c = i1 ∨ c = i2 := by simpa using hc
        rcases hc' with rfl | rfl | rfl | rfl | rfl
        · exact Ne.symm nz
        · exact Nat.ne_of_lt (Heap.lt_size s2)
        · exact Nat.ne_of_lt (Heap.lt_size s3)
        · obtain ⟨o, e1, _⟩ := s4; exact Nat.ne_of_lt (Heap.lt_size e1)
        · obtain ⟨o, e1, _⟩ := s5; exact Nat.ne_of_lt (Heap.lt_size e1)
      rw [upd_ne this]
      exact (hf c hc).1
  done := by
    intro X hP hw hK hc i pins s σ H E I hf st hg
    subst hP hw hK
    obtain ⟨xs, hq, hx⟩ := hg
    obtain ⟨s1, s2, s3, s4, s5⟩ := st
    obtain ⟨its, rv, p, hz⟩ := I.list hq
    have hl := rv.length
    exact zipLS_end (I.ok.hd hc) D s1 s2 s4 p.isList (by simp; omega) fun h' eb => ⟨rfl, I.turnedL (t' := s.toks) (its := [z, TO, i1, i2]) (fun c o hb e => by
      have hb' : c ≠ z ∧ c ≠ TO ∧ c ≠ i1 ∧ c ≠ i2 := by simpa using hb
      exact eb c o hb'.1 hb'.2.1 hb'.2.2.1 hb'.2.2.2 e) (fun c hc => hf c (by simp at hc ⊢; rcases hc with q | q | q | q <;> simp [q]))⟩
  self := fun _ _ _ _ _ st h => wpAny_pyIter_zip st.1 h
section
variable {X : Cx}
def iZipS (K : PySem.W.Frag) (ta : TA) : TI := fun σ H R => ta σ H fun vs H1 => ∃ a z0, vs = [.ref a, .str z0] ∧ (∃ xs, SqL K H1 a xs) ∧ z0.cps.all (· < 128) = true ∧ R (Itzs K a z0) H1
theorem pi_zipS {a b : Expr} {ta : TA} {p pos : Pos} {elts : List Expr} {x1} {tpos : Pos} (hg : Gl X "zip") (hm : X.mg "zip" = none) (ha : PA X [a, b] ta)
    (hs : starEach [a, b] X.env = [(false, eval a X.env), (false, eval b X.env)] := by rfl) (hs2 : starEach [b] X.env = [(false, eval b X.env)] := by rfl) : PI X (.Tuple elts x1 tpos) (.Call (.Name "zip" p) [a, b] [] pos) (iZipS X.K ta) := by
  intro pins s σ H R I h
  refine Call_ (ld_blt I hg hm bt_zip (PyProof.Rows.callWith_type1 (thn (ha pos pins s σ H _ I h) fun us s1 ⟨vs, H1, I1, r1, q1⟩ => ?_) (by rw [hs, hs2]) (by rw [hs2]; rfl)))
  obtain ⟨a, z0, e, ⟨xs, hq⟩, hasc, q⟩ := q1
  subst e
  obtain ⟨u, v, rfl, ru, rv⟩ := vals2 r1
  cases ru
  obtain ⟨t0, rfl⟩ := rv
  obtain ⟨its, rv, p, hz⟩ := I1.list hq
  have la : a < s1.heap.objs.size := by obtain ⟨o, n, e, _⟩ := p; exact Heap.lt_size e
  refine call_zipLS p.isList hasc fun h' g1 g2 g3 g4 g5 hk => ?_
  refine wpAny_pyIter_zip g1 ?_
  have D : ZipApart (s1.heap.objs.size + 4) (s1.heap.objs.size + 2) (s1.heap.objs.size + 3) s1.heap.objs.size (s1.heap.objs.size + 1) a a := PySem.W.ktu_apart _ _ _ la la
  refine ⟨s1.heap.objs.size + 4, [s1.heap.objs.size + 4, s1.heap.objs.size + 2, s1.heap.objs.size + 3, s1.heap.objs.size, s1.heap.objs.size + 1], _, _, H1, rfl, I1.kept (t' := s1.toks) hk, turn_zipS a a z0 t0 _ _ _ _ _ D, ⟨g1, g2, ⟨_, _, g3⟩, g4, g5⟩, fun c hc => ?_, q⟩
  have hc' : s1.heap.objs.size ≤ c := by
    have hc' : c = s1.heap.objs.size + 4 ∨ c = s1.heap.objs.size + 2 ∨ c = s1.heap.objs.size + 3 ∨ c = s1.heap.objs.size ∨ c = s1.heap.objs.size + 1 := by simpa using hc
    rcases hc' with q | q | q | q | q <;> rw [q]
    · exact Nat.le_add_right _ _
    · exact Nat.le_add_right _ _
    · exact Nat.le_add_right _ _
    · exact Nat.le_refl _
    · exact Nat.le_add_right _ _
  exact I1.fpOk hc' (I1.hok.fresh hc')
end
/-- over zip of a list and a text of the same length, both left as they are -/
theorem for_zipS {K : PySem.W.Frag} {a : Addr} {xs : List V} {z0 : Str} (hlen : xs.length = z0.cps.size) {g : TG} {tb : TS} {D : Ends} {σ : St} {H : Hp} (Pv : Nat → St → Hp → Prop) (h0 : Pv 0 σ H) (hl : ∀ i σ H, i ≤ xs.length → Pv i σ H → SqL K H a xs)
    (hs : ∀ i x y σ H t, xs[i]? = some x → chV z0 i = some y → H t = none → Pv i σ H → g (.ref t) σ (upd H t (.tup [x, y])) fun σ2 H2 => tb { D with nx := Pv (i + 1), ct := Pv (i + 1), bk := D.nx } σ2 H2) (hd : ∀ σ H, Pv xs.length σ H → D.nx σ H) :
    ∃ W : Nat → Nat → St → Hp → Prop, (∃ m, W 0 m σ H) ∧ ∀ i m σ H, W i m σ H →
      ((Itzs K a z0).stop i H ∧ D.nx σ H) ∨ ((Itzs K a z0).go i H ∧ ∃ N : St → Hp → Prop, (∀ σ' H', N σ' H' → ∃ m', m' < m ∧ W (i + 1) m' σ' H') ∧ ∀ x H', (Itzs K a z0).yld i H x H' → g x σ H' fun σ2 H2 => tb { D with nx := N, ct := N, bk := D.nx } σ2 H2) := by
  refine ⟨fun i m σ H => m = xs.length - i ∧ i ≤ xs.length ∧ Pv i σ H, ⟨xs.length, by simp, Nat.zero_le _, h0⟩, ?_⟩
  rintro i m σ H ⟨rfl, hi, p⟩
  have q := hl i σ H hi p
  by_cases hlt : i < xs.length
  · have hc : chV z0 i = some (.str ⟨#[z0.cps[i]'(by omega)]⟩) := by unfold chV; rw [Array.getElem?_eq_getElem (by omega)]; rfl
    refine .inr ⟨⟨xs, xs[i], _, q, by simp [hlt], hc⟩, Pv (i + 1), fun σ' H' p' => ⟨xs.length - (i + 1), by omega, rfl, hlt, p'⟩, fun x H' y => ?_⟩
    obtain ⟨t, x1, y1, hn, e1, e2, hx, hy⟩ := y
    subst e1 e2
    exact hs i x1 y1 σ _ t (hx xs q) hy hn p
  · have e : i = xs.length := by omega
    subst e
    exact .inl ⟨⟨xs, q, Nat.le_refl _⟩, hd σ H p⟩
end L2


set_option Elab.async false
set_option linter.all false
set_option maxRecDepth 500000
set_option maxHeartbeats 4000000
namespace My
open PySem L2
section
variable {P : Program} {w : World} {K : PySem.W.Frag} {mg : Str → Option Value} {base : Heap}
theorem scShr : FnScope ["row", "word", "numbers", "words"] ["row"] (defScope sShownRow) := ⟨rfl, rfl, rfl, by decide +kernel, rfl, by decide +kernel, by decide +kernel⟩
def csShrC1 : Scope := { kind := .function, names := [(".0", .local), ("number", .local), ("str", .globalImplicit)], isGenerator := false, isCoroutine := false, more := [] }
theorem scShrC1 : CompSc (defScope sShownRow) csShrC1 ["row", "word", "numbers", "words"] ["number"] [none] := ⟨rfl, by decide +kernel, by decide +kernel, by decide +kernel, by decide +kernel, by decide +kernel⟩
noncomputable def shrT4 {f : Addr} (T : Txt K w.params mg) (cdv : Value) (A : Around) (outer : List Env) (s : Shared) (H : Hp) (E : XK) : PSigma fun t : TS => PSs (cxOf CX0 P w K mg base ["row", "word", "numbers", "words"] "shown_row" (defScope sShownRow) f cdv A outer s H E).nox ((defBody sShownRow).drop 4) t :=
  ⟨_, (pss_one (ps_ret (pe_bm PySem.F.plainAttrs_str PySem.F.slot_str_join PySem.F.type_str_join mt_join pe_str (pa_cons (pe_op op_cat (pv 3) (pe_comp (N' := ["number"]) (fr := [none]) scShrC1 rfl (pi_list (pv 2)) (fun C s0 H0 fp => (pg_name (i := 0) scShrC1.nd rfl (Or.inl rfl))) (fun C s0 H0 fp => pts_nil) (fun C s0 H0 fp => (pe_callTy call_str_int (by rfl) T.str bt_str (pa_cons (pv 0) pa_nil))))) pa_nil))))⟩
theorem shr4 {f : Addr} (T : Txt K w.params mg) (cdv : Value) (A : Around) (outer : List Env) (s : Shared) (Hs : Hp) (E : XK) {Q : VK} {H : Hp} {q ln lw : Addr} {u : Str} {ws : List Str} {ns : List Int} (hul : ∀ t ∈ ws, t.length ≤ 20) (hws : ws.length ≤ 2) (hw : H lw = some (.lst (ws.map V.str)))
    (hl : H ln = some (.lst (ns.map V.int))) (hn : ns.length ≤ 50) (hi : ∀ i ∈ ns, i.natAbs < 10 ^ 12) (k : ∀ H', Same H H' → Q (.str (Txt.join " " (ws ++ ns.map tos))) H') :
    (shrT4 (P := P) (base := base) (f := f) T cdv A outer s Hs E).1 { nx := fun x H' => Q V.non H', rt := Q } [some (.ref q), some (.str u), some (.ref ln), some (.ref lw)] H := by
  refine ⟨rfl, _, rfl, _, rfl, ln, rfl, ⟨_, SqL.of hl⟩, fun D nD => comp_list (K := K) (a := ln) (xs := ns.map V.int) (fun i σ ys H2 => ∃ v : Option V, σ = [v] ∧ ys = ((ns.take i).map tos).map V.str ∧ Same H H2 ∧ H2 D = some (.lst ys)) ?_ ?_ ?_ ?_⟩
  · exact ⟨none, rfl, rfl, same_new nD, upd_same⟩
  · rintro i σ ys H2 _ ⟨v, rfl, rfl, s2, _⟩
    exact SqL.of (s2 _ _ hl)
  · rintro i x σ ys H2 hx ⟨v, rfl, rfl, s2, hD⟩
    rw [List.getElem?_map] at hx
    obtain ⟨c, hc, rfl⟩ := Option.map_eq_some_iff.mp hx
    have hil := (List.getElem?_eq_some_iff.mp hc).1
    have hcm := hi c (List.mem_of_getElem? hc)
    have h40 : c.natAbs.log2 < 1920 := by
      by_cases e : c.natAbs = 0
      · rw [e]; decide
      · exact Nat.lt_trans ((Nat.log2_lt e).mpr (Nat.lt_of_lt_of_le hcm (by decide : 10 ^ 12 ≤ 2 ^ 40))) (by decide)
    refine ⟨_, rfl, c, rfl, h40, hD, ?_, _, rfl, ?_, same_put s2 nD, upd_same⟩
    · rw [List.length_map, List.length_map, List.length_take]
      exact Nat.lt_of_le_of_lt (Nat.le_trans (Nat.min_le_left _ _) (show i ≤ 50 by omega)) (by decide)
    · rw [List.take_add_one, hc, List.map_append, List.map_append]
      rfl
  · rintro σ ys H2 ⟨v, rfl, rfl, s2, hD⟩
    rw [List.length_map, List.take_length] at hD
    have el : (ns.map tos).length = ns.length := List.length_map ..
    refine ⟨lw, D, _, _, rfl, rfl, s2 _ _ hw, hD, small_len (by rw [List.length_map, List.length_map, List.length_map]; omega), fun lc n_lc => ?_⟩
    have s3 := same_new (o := .lst (ws.map V.str ++ (ns.map tos).map V.str)) n_lc
    have h3 : upd H2 lc (.lst (ws.map V.str ++ (ns.map tos).map V.str)) lc = _ := upd_same
    generalize upd H2 lc (.lst (ws.map V.str ++ (ns.map tos).map V.str)) = H3 at s3 h3 ⊢
    rw [← List.map_append] at h3
    have hlen : (ws ++ ns.map tos).length ≤ 52 := by rw [List.length_append]; omega
    have hsum : ((ws ++ ns.map tos).map (·.length)).sum ≤ (ws ++ ns.map tos).length * 20 := sum_le fun t ht => by
      rcases List.mem_append.mp ht with z | z
      · exact hul t z
      · obtain ⟨i, hi', rfl⟩ := List.mem_map.mp z
        exact Nat.le_trans (tos_len (hi i hi')) (by decide)
    refine ⟨" ", lc, ws ++ ns.map tos, rfl, rfl, SqL.of h3, join_ok (small_len ?_), k _ (s2.trans s3)⟩
    show _ + _ * 1 ≤ 1000000
    omega
end
theorem cutV_mid (a : V) (xs : List V) (b : V) : cutV (a :: (xs ++ [b])) (some 1) (some (-1)) = xs := by
  unfold cutV
  have h1 : HT.sIx (a :: (xs ++ [b])).length 0 (some 1) = 1 := by simp [HT.sIx]
  have h2 : HT.sIx (a :: (xs ++ [b])).length (a :: (xs ++ [b])).length (some (-1)) = xs.length + 1 := by
    simp [HT.sIx]
    try omega
  rw [h1, h2]
  simp
theorem at_last (a : V) (xs : List V) (b : V) : atI (a :: (xs ++ [b])) (-1) = some b := by
  have e : ixN (a :: (xs ++ [b])).length (-1) = some (xs.length + 1) := by
    unfold ixN
    rw [if_neg (by decide)]
    simp
    try omega
  unfold atI
  rw [e]
  show (a :: (xs ++ [b]))[xs.length + 1]? = some b
  simp
section
variable {P : Program} {w : World} {K : PySem.W.Frag} {mg : Str → Option Value} {base : Heap}
/-! ### shown_row -/
def spShr : Sp := fun vs H Q _ => ∃ (q : Addr) (u : Str) (f : Int) (ns : List Int) (ks : List Str), vs = [.ref q] ∧ RowIs H q u f ns ∧ (u, ks) ∈ kinds ∧ ns.length ≤ 50 ∧ (∀ i ∈ ns, i.natAbs < 10 ^ 12) ∧ ∀ H', Same H H' → Q (.str (Txt.join " " (lineW u f ns))) H'
theorem ok_shr {f fH : Addr} {fd fdH : FuncData} (F : Fun K "shown_row" "shown_row" sShownRow f fd) (T : Txt K w.params mg) (GH : FnOk P w K mg base CX0 1 fH fdH ["word"] spFar) (kH : PySem.W.keepIn K (.ref fH) = true) (bH : Binds K fdH ["word"] []) (mH : mg "has_far" = some (.ref fH)) : FnOk P w K mg base CX0 2 f fd ["row"] spShr := by
  refine F.ok scShr (fun vs H Q E h => ?_) (fun cdv A outer s H vs Q E hr h => ?_)
  · obtain ⟨q, u, f, ns, ks, rfl, _⟩ := h
    rfl
  · obtain ⟨q, u, f, ns, ks, rfl, hR, hu, hn, hi, k⟩ := h
    refine ⟨_, (pss_cons (ps_set (i := 1) scShr.nd rfl (Or.inl rfl) (pe_ix ix_tup (pv 0) pe_int (fun _ _ => rfl)))
      (pss_mid (ps_if (pt_cmpR op_eq (pv 1) pe_str (nomark _)) (pss_one (ps_set (i := 2) scShr.nd rfl (Or.inl rfl) (pe_op op_cat (pe_lst (pa_cons (pe_ix ix_tup (pv 0) pe_int (fun _ _ => rfl)) pa_nil)) (pe_callTy call_list_of (by rfl) T.list bt_list (pa_cons (pe_ix ix_tup (pv 0) pe_int (fun _ _ => rfl)) pa_nil))))) (pss_one (ps_if (pt_val (pe_call GH hr (by rfl) mH kH bH .nil pass0 (pa_cons (pv 1) pa_nil))) (pss_one (ps_set (i := 2) scShr.nd rfl (Or.inl rfl) (pe_callTy call_list_of (by rfl) T.list bt_list (pa_cons (pe_slice sl_tup (pv 0) (po_some pe_int) (po_some (pe_un un_neg pe_int))) pa_nil)))) (pss_one (ps_set (i := 2) scShr.nd rfl (Or.inl rfl) (pe_callTy call_list_of (by rfl) T.list bt_list (pa_cons (pe_slice sl_tup (pv 0) (po_some pe_int) po_none) pa_nil)))))))
      (pss_cons (ps_set (i := 3) scShr.nd rfl (Or.inl rfl) (pe_lst (pa_cons (pv 1) pa_nil)))
      (pss_mid (ps_if (pw_and (pt_val (pe_call GH hr (by rfl) mH kH bH .nil pass0 (pa_cons (pv 1) pa_nil))) (pw_and1 (pt_cmpR op_eq (pe_ix ix_tup (pv 0) (pe_un un_neg pe_int) (fun _ _ => rfl)) pe_int (nomark _)))).pt (pss_one (ps_expr (pe_bm PySem.F.plainAttrs_list PySem.F.slot_list_append PySem.F.type_list_append mt_append (pv 3) (pa_cons pe_str pa_nil)))) pss_nil)
      (pss_one (ps_ret (pe_bm PySem.F.plainAttrs_str PySem.F.slot_str_join PySem.F.type_str_join mt_join pe_str (pa_cons (pe_op op_cat (pv 3) (pe_comp (N' := ["number"]) (fr := [none]) scShrC1 rfl (pi_list (pv 2)) (fun C s0 H0 fp => (pg_name (i := 0) scShrC1.nd rfl (Or.inl rfl))) (fun C s0 H0 fp => pts_nil) (fun C s0 H0 fp => (pe_callTy call_str_int (by rfl) T.str bt_str (pa_cons (pv 0) pa_nil))))) pa_nil)))))))), ?_⟩
    have hul : u.length ≤ 20 := (by decide +kernel : ∀ y ∈ kinds, y.1.length ≤ 20) _ hu
    have hfk := farK_of hu
    obtain ⟨items, hq⟩ : ∃ items, H q = some (.tup (.str u :: items)) := by
      rcases hR with ⟨_, b, ts, t, _, hq, _⟩ | ⟨_, _, hq⟩ | ⟨_, _, hq⟩ <;> exact ⟨_, hq⟩
    refine ⟨_, rfl, q, _, 0, _, rfl, rfl, SqT.of hq, at0 _ _, ?_⟩
    refine ⟨fun σ H1 => ∃ ln, σ = [some (.ref q), some (.str u), some (.ref ln), none] ∧ Same H H1 ∧ H1 ln = some (.lst (ns.map V.int)), ?_, ?_⟩
    · refine ⟨_, rfl, rfl, _, rfl, ?_⟩
      rcases hR with ⟨hu, b, ts, t, rfl, hq, ht⟩ | ⟨hu, hf, hq⟩ | ⟨hu, hf, hq⟩
      · refine iteP (by subst hu; decide) ?_
        refine ⟨_, rfl, q, _, 1, _, rfl, rfl, SqT.of hq, at1 _ _ _, Nat.le_of_ble_eq_true rfl, fun l1 n1 => ?_⟩
        refine ⟨_, rfl, q, _, 2, _, rfl, rfl, SqT.of (same_new n1 _ _ hq), at2 _ _ _ _, t, _, rfl, .inr (SqT.of (same_new n1 _ _ ht)), fun l2 n2 => ?_⟩
        refine ⟨l1, l2, _, _, rfl, rfl, same_new n2 _ _ upd_same, upd_same, small_len (by simp at hn ⊢; omega), fun l3 n3 => ?_⟩
        exact ⟨l3, rfl, (same_new n1).trans ((same_new n2).trans (same_new n3)), by rw [upd_same]; rfl⟩
      · refine iteN (fun z => hu (strEq z)) ?_
        refine ⟨_, rfl, u, ks, rfl, ‹_›, _, rfl, iteP (by rw [← hfk, hf]) ?_⟩
        refine ⟨_, rfl, 1, rfl, _, rfl, _, rfl, q, _, rfl, SqT.of hq, (by simp [HT.sIx]), fun l1 n1 => ?_⟩
        rw [cutV_mid]
        refine ⟨l1, _, rfl, .inr (SqT.of upd_same), fun l2 n2 => ?_⟩
        exact ⟨l2, rfl, (same_new n1).trans (same_new n2), upd_same⟩
      · refine iteN (fun z => hu (strEq z)) ?_
        refine ⟨_, rfl, u, ks, rfl, ‹_›, _, rfl, iteN (by rw [← hfk, hf]; decide) ?_⟩
        refine ⟨_, rfl, 1, rfl, q, _, rfl, SqT.of hq, (by simp [HT.sIx]), fun l1 n1 => ?_⟩
        rw [cut1]
        refine ⟨l1, _, rfl, .inr (SqT.of upd_same), fun l2 n2 => ?_⟩
        exact ⟨l2, rfl, (same_new n1).trans (same_new n2), upd_same⟩
    · rintro σ H1 ⟨ln, rfl, s1, hln⟩
      refine ⟨_, rfl, Nat.le_of_ble_eq_true rfl, fun lw nw => ?_⟩
      have s2 := same_new (o := .lst [V.str u]) nw
      have hlw : upd H1 lw (.lst [V.str u]) lw = _ := upd_same
      have hln2 := s2 _ _ hln
      have hnl : lw ≠ ln := fun z => by rw [z, hln] at nw; cases nw
      have hw0 : H lw = none := by
        cases e : H lw with
        | none => rfl
        | some o => rw [s1 _ _ e] at nw; cases nw
      generalize upd H1 lw (.lst [V.str u]) = H2 at s2 hlw hln2 ⊢
      have hR2 := hR.same (s1.trans s2)
      refine ⟨fun σ H3 => σ = [some (.ref q), some (.str u), some (.ref ln), some (.ref lw)] ∧ Same H H3 ∧ H3 ln = some (.lst (ns.map V.int)) ∧ H3 lw = some (.lst ((u :: farW (farK u && decide (f = 1))).map V.str)), ?_, ?_⟩
      · refine ⟨_, rfl, u, ks, rfl, hu, _, rfl, ?_⟩
        rcases hR2 with ⟨he, b, ts, t, rfl, hq, ht⟩ | ⟨he, hf, hq⟩ | ⟨he, hf, hq⟩
        · have hf : farK u = false := by rw [he]; decide +kernel
          refine iteN (by rw [← hfk, hf]; decide) ?_
          exact ⟨rfl, s1.trans s2, hln2, by rw [hf]; exact hlw⟩
        · refine iteP (by rw [← hfk, hf]) ?_
          refine ⟨_, rfl, _, rfl, q, _, -1, _, rfl, rfl, SqT.of hq, at_last _ _ _, rfl, _, rfl, ?_⟩
          by_cases h1 : f = 1
          · subst h1
            refine iteP (by decide) ?_
            refine ⟨_, rfl, .inl ⟨rfl, _, SqL.of hlw⟩, lw, _, _, rfl, rfl, hlw, (show 1 < sizeLine by decide), ?_⟩
            refine ⟨rfl, same_put (s1.trans s2) hw0, ?_, ?_⟩
            · rw [upd_ne hnl.symm]; exact hln2
            · rw [upd_same, hf]; rfl
          · refine iteN (fun z => h1 (V.int.inj (of_decide_eq_true z))) ?_
            exact ⟨rfl, s1.trans s2, hln2, by rw [decide_eq_false h1, Bool.and_false]; exact hlw⟩
        · refine iteN (by rw [← hfk, hf]; decide) ?_
          exact ⟨rfl, s1.trans s2, hln2, by rw [hf]; exact hlw⟩
      · rintro σ H3 ⟨rfl, s3, hl3, hw3⟩
        refine shr4 (P := P) (base := base) (f := _) T cdv A outer s H E (H := H3) (q := q) (u := u) (ws := u :: farW (farK u && decide (f = 1))) ?_ ?_ hw3 hl3 hn hi fun H4 s4 => ?_
        · intro t ht
          rcases List.mem_cons.mp ht with rfl | ht
          · exact hul
          · unfold farW at ht
            split at ht
            · rw [List.mem_singleton.mp ht]; decide
            · cases ht
        · unfold farW
          split <;> simp
        · have := k H4 (s3.trans s4)
          unfold lineW at this
          exact this
/-! ### shown_rows -/
def spShs : Sp := fun vs H Q _ => ∃ (l : Addr) (xs : List V) (ds : List (Str × Int × List Int)), vs = [.ref l] ∧ H l = some (.lst xs) ∧ xs.length = ds.length ∧ xs.length ≤ 100000 ∧
  (∀ (i : Nat) x d, xs[i]? = some x → ds[i]? = some d → ∃ q ks, x = .ref q ∧ RowIs H q d.1 d.2.1 d.2.2 ∧ (d.1, ks) ∈ kinds ∧ d.2.2.length ≤ 50 ∧ ∀ i ∈ d.2.2, i.natAbs < 10 ^ 12) ∧
  JoinOk "\n" (ds.map fun d => Txt.join " " (lineW d.1 d.2.1 d.2.2)) = true ∧ ∀ H', Same H H' → Q (.str (Txt.join "\n" (ds.map fun d => Txt.join " " (lineW d.1 d.2.1 d.2.2)))) H'
theorem scShs : FnScope ["rows"] ["rows"] (defScope sShownRows) := ⟨rfl, rfl, rfl, by decide +kernel, rfl, by decide +kernel, by decide +kernel⟩
def csShsC1 : Scope := { kind := .function, names := [(".0", .local), ("row", .local), ("shown_row", .globalImplicit)], isGenerator := false, isCoroutine := false, more := [] }
theorem scShsC1 : CompSc (defScope sShownRows) csShsC1 ["rows"] ["row"] [none] := ⟨rfl, by decide +kernel, by decide +kernel, by decide +kernel, by decide +kernel, by decide +kernel⟩
theorem ok_shs {f fS : Addr} {fd fdS : FuncData} (F : Fun K "shown_rows" "shown_rows" sShownRows f fd) (T : Txt K w.params mg) (GS : FnOk P w K mg base CX0 2 fS fdS ["row"] spShr) (kS : PySem.W.keepIn K (.ref fS) = true) (bS : Binds K fdS ["row"] []) (mS : mg "shown_row" = some (.ref fS)) : FnOk P w K mg base CX0 3 f fd ["rows"] spShs := by
  refine F.ok scShs (fun vs H Q E h => ?_) (fun cdv A outer s H vs Q E hr h => ?_)
  · obtain ⟨l, xs, ds, rfl, _⟩ := h
    rfl
  · obtain ⟨l, xs, ds, rfl, hl, hlen, h5, hr', hj, k⟩ := h
    refine ⟨_, (pss_one (ps_ret (pe_bm PySem.F.plainAttrs_str PySem.F.slot_str_join PySem.F.type_str_join mt_join pe_str (pa_cons (pe_comp (N' := ["row"]) (fr := [none]) scShsC1 rfl (pi_list (pv 0)) (fun C s0 H0 fp => (pg_name (i := 0) scShsC1.nd rfl (Or.inl rfl))) (fun C s0 H0 fp => pts_nil) (fun C s0 H0 fp => (pe_call GS hr (by rfl) mS kS bS .nil pass0 (pa_cons (pv 0) pa_nil)))) pa_nil)))), ?_⟩
    refine ⟨rfl, _, rfl, l, rfl, ⟨_, SqL.of hl⟩, fun D nD => comp_list (K := K) (a := l) (xs := xs) (fun i σ ys H2 => ∃ v : Option V, σ = [v] ∧ ys = ((ds.take i).map fun d => Txt.join " " (lineW d.1 d.2.1 d.2.2)).map V.str ∧ Same H H2 ∧ H2 D = some (.lst ys)) ?_ ?_ ?_ ?_⟩
    · exact ⟨none, rfl, rfl, same_new nD, upd_same⟩
    · rintro i σ ys H2 _ ⟨v, rfl, rfl, s2, _⟩
      exact SqL.of (s2 _ _ hl)
    · rintro i x σ ys H2 hx ⟨v, rfl, rfl, s2, hD⟩
      have hil := (List.getElem?_eq_some_iff.mp hx).1
      have hd : ds[i]? = some (ds[i]'(by omega)) := List.getElem?_eq_getElem (by omega)
      obtain ⟨q, ks, rfl, hR, hk, hn, hb⟩ := hr' i x _ hx hd
      refine ⟨_, rfl, q, _, _, _, ks, rfl, hR.same s2, hk, hn, hb, fun H3 s3 => ⟨s3 _ _ hD, ?_, _, rfl, ?_, same_put (s2.trans s3) nD, upd_same⟩⟩
      · rw [List.length_map, List.length_map, List.length_take]
        exact Nat.lt_of_le_of_lt (Nat.le_trans (Nat.min_le_left _ _) (show i ≤ 100000 by omega)) (by decide)
      · rw [List.take_add_one, hd, List.map_append, List.map_append]
        rfl
    · rintro σ ys H2 ⟨v, rfl, rfl, s2, hD⟩
      rw [hlen, List.take_length] at hD
      exact ⟨"\n", D, _, rfl, rfl, SqL.of hD, hj, k _ s2⟩
end
end My


set_option Elab.async false
set_option linter.all false
set_option maxRecDepth 100000
set_option maxHeartbeats 4000000
namespace L2
open PySem PySem.W PySem.Spec PySem.Calls PyProof.Rows
/-! ### a try whose one statement has the call of f within: x = f(..), x = g(f(..)), return f(..) -/
section
variable {X : Cx}
def PEr (X : Cx) (e : Expr) (f : Addr) (t : TA) (c : V → TE) : Prop := ∀ (XE : Value → Shared → Prop) (pins : List (Addr × Obj)) (s : Shared) (σ : St) (H : Hp) (Q : VK) (W : List V → Hp → Prop), Inv X pins σ H s → t σ H W →
  (∀ vs H1 s1 us, W vs H1 → Inv X pins σ H1 s1 → Vals vs us → wpAny (model X.prog X.w) X.A (call (.ref f) us) (EP X pins σ fun v H2 => c v σ H2 Q) XE s1) → wpAny (model X.prog X.w) X.A (eval e X.env) (EP X pins σ Q) XE s
def PSr (X : Cx) (st : Stmt) (f : Addr) (t : TA) (r : V → TS) : Prop := ∀ (XE : Value → Shared → Prop) (pins : List (Addr × Obj)) (s : Shared) (σ : St) (H : Hp) (D : Ends) (W : List V → Hp → Prop), Inv X pins σ H s → t σ H W →
  (∀ vs H1 s1 us, W vs H1 → Inv X pins σ H1 s1 → Vals vs us → wpAny (model X.prog X.w) X.A (call (.ref f) us) (EP X pins σ fun v H2 => r v D σ H2) XE s1) → wpAny (model X.prog X.w) X.A (exec st X.env) (SP X pins D) XE s
def cId : V → TE := fun v _ H Q => Q v H
theorem per_call {g : Str} {gp pos : Pos} {a : Expr} {as : List Expr} {t : TA} {f : Addr} (ha : PA X.nox (a :: as) t) (hgg : Gl X g) (hm : X.mg g = some (.ref f)) (kp : keepIn X.K (.ref f) = true) (hdg : (g == ("__debug__" : Str)) = false := by decide)
    (he : starEach (a :: as) X.env = (false, eval a X.env) :: starEach as X.env := by rfl) (hpl : (backTo pos (starEach as X.env)).any (·.1) = false := by rfl) : PEr X (.Call (.Name g gp) (a :: as) [] pos) f t cId := by
  intro XE pins s σ H Q W I h hW
  refine wpAny_Call_Name_kw (ld_glob I hgg hm (callWith_K (h₀ := X.base) I.ok.mod.kin kp (wpAny_mono (ha pos pins s σ H _ (I.wish _) h) (fun us s1 hu => ?_) fun _ _ z => False.elim z) he hpl) hdg)
  obtain ⟨vs, H1, I1', r, q⟩ := hu
  have I1 : Inv X pins σ H1 s1 := I1'.unwish
  exact ⟨I1.kIn, hW vs H1 s1 us q I1 r⟩
theorem run_fn0 {k : Nat} {f : Addr} {fd : FuncData} {ps : List Str} {sp : Sp} {dvs : List V} {ds : List Value} {pins : List (Addr × Obj)} {σ : St} {H : Hp} {s : Shared} {Q : VK} {us : List Value} {vs : List V} {XE : Value → Shared → Prop} (F : FnOk X.prog X.w X.K X.mg X.base CX0 k f fd ps sp) (hr : Room k X.A) (hb : Binds X.K fd ps ds) (hd : Vals dvs ds)
    (I : Inv X pins σ H s) (r : Vals vs us) (h : sp (vs ++ dvs) H Q E0) : wpAny (model X.prog X.w) X.A (call (.ref f) us) (EP X pins σ Q) XE s := by
  have r2 : Vals (vs ++ dvs) (us ++ ds) := r.append hd
  have hl : (us ++ ds).length = ps.length := by rw [← r2.length]; exact F.len _ _ _ _ h
  refine wpAny_call (codeAny_mono (F.run X.A X.stack s H ⟨us, []⟩ (us ++ ds) (vs ++ dvs) Q E0 hr I.env0 (hb s us I.kIn hl) r2 h) fun r s' hq => ?_)
  cases r with
  | error e => exact False.elim hq
  | ok fl =>
    cases fl with
    | ret u => exact I.after hq
    | next => exact False.elim hq
    | brk => exact False.elim hq
    | cont => exact False.elim hq
/-- g(e), e with the call within -/
def cArg (sp : Sp) (c : V → TE) : V → TE := fun v σ H Q => c v σ H fun x H1 => sp [x] H1 Q E0
theorem per_arg {g : Str} {gp pos : Pos} {e : Expr} {t : TA} {c : V → TE} {f f2 : Addr} {k : Nat} {fd : FuncData} {ps : List Str} {sp : Sp} (he0 : PEr X e f t c) (F : FnOk X.prog X.w X.K X.mg X.base CX0 k f2 fd ps sp) (hr : Room k X.A) (hgg : Gl X g) (hm : X.mg g = some (.ref f2)) (kp : keepIn X.K (.ref f2) = true) (hb : Binds X.K fd ps [])
    (hdg : (g == ("__debug__" : Str)) = false := by decide) (he : starEach [e] X.env = [(false, eval e X.env)] := by rfl) : PEr X (.Call (.Name g gp) [e] [] pos) f t (cArg sp c) := by
  intro XE pins s σ H Q W I h hW
  refine wpAny_Call_Name_kw (ld_glob I hgg hm (callWith_K (h₀ := X.base) I.ok.mod.kin kp ?_ he rfl) hdg)
  rw [he]
  show wpAny _ _ (spliced ((false, eval e X.env) :: [])) _ _ s
  refine Calls.spliced_cons (wpAny_mono (he0 XE pins s σ H (fun x H1 => sp [x] H1 Q E0) W I h hW) (fun u s1 hu => ?_) fun _ _ z => z)
  obtain ⟨x, H1, I1, r1, q1⟩ := hu
  refine Calls.spliced_nil ?_
  exact ⟨I1.kIn, run_fn0 (vs := [x]) (dvs := []) F hr hb .nil I1 (.cons r1 .nil) q1⟩
theorem psr_set {i : Nat} {x : Str} {e : Expr} {f : Addr} {t : TA} {c : V → TE} {pos pos' : Pos} (hN : X.N.Nodup) (hi : X.N[i]? = some x) (hx : Loc X.env.scope x) (he : PEr X e f t c) (hs : swapsWith e (some (.Name x pos')) pos.line X.env = pure false := by rfl) (hf : X.fn x = true ∨ X.env.scope.names.lookup x = some .local := by first | exact .inl rfl | exact .inr rfl | assumption) :
    PSr X (.Assign [.Name x pos'] e pos) f t (fun v D σ H => c v σ H fun y H1 => D.nx (σ.set i (some y)) H1) := by
  intro XE pins s σ H D W I h hW
  refine wpAny_Assign_Name (wpAny_mono (he XE pins s σ H (fun y H1 => D.nx (σ.set i (some y)) H1) W I h hW) (fun v s1 hv => ?_) fun _ _ z => z) hs
  obtain ⟨y, H1, I1, r1, q1⟩ := hv
  exact store_ok I1 hN hi hx r1 (fun s2 I2 => ⟨_, H1, I2, q1⟩) hf
end
def tTryG (K : PySem.W.Frag) (sp : Sp) (dvs : List V) (t : TA) (r : V → TS) (i : Nat) (cR : Value) (ts : TS) : TS := fun D σ H => t σ H fun vs H1 =>
  sp (vs ++ dvs) H1 (fun v H2 => r v D σ H2) fun cls od H2 => exmOne K cls cR = some true ∧ ∀ ea, H2 ea = none → ts (D.less i) (σ.set i (some (.ref ea))) (upd H2 ea (excD ea cls od))
section
variable {X : Cx} {k : Nat} {f cR : Addr} {fd : FuncData} {ps : List Str} {sp : Sp} {dvs : List V} {ds : List Value} {x n : Str} {np p3 p4 : Pos} {t : TA} {ts : TS} {i : Nat} {st b₀ : Stmt} {suite : List Stmt} {L : Addr} {r : V → TS}
theorem ps_tryG (hst0 : PSr X st f t r) (F : FnOk X.prog X.w X.K X.mg X.base (CX2 X.prog X.w) k f fd ps sp) (hr : Room k X.A) (hb : Binds X.K fd ps ds) (hd : Vals dvs ds)
    (hst : X.stack = X.env :: X.outer) (hL : X.env.frame = some L) (hLl : X.env.locals = L) (hex : X.ex = []) (hg : Gl X x) (hmg : X.mg x = some (.ref cR)) (hN : X.N.Nodup) (hi : X.N[i]? = some n) (hn : X.env.kindOf n = some .local)
    (hs : ∀ ea, PSs (X.inSuite ea) (b₀ :: suite) ts) (hdb : (x == ("__debug__" : Str)) = false := by decide) :
    PS X (.Try [st] [.ExceptHandler (some (.Name x np)) (some n) (b₀ :: suite) p3] [] [] p4) (tTryG X.K sp dvs t r i (.ref cR) ts) := by
  intro pins s σ H D I h
  refine wpAny_Try_except (wpAny_execs_cons (wpAny_mono (hst0 _ pins s σ H D _ I h fun vs H1 s1 us q I1 r => ?_) (fun fl s1 q => ?_) fun _ _ z => z))
  · refine run_fnD F hr hb hd I1 r q fun e s' cx => ?_
    refine caughtD I1 hst hL cx fun ex cls a0 od H' B s2 ee hE dc I2 fly hH hB again => ?_
    subst ee
    obtain ⟨hcls, hsuite⟩ := hE
    obtain ⟨oe, vs, T, oT, tss, g1, g2, g3, g4, g5, g6, g7, g8, g9⟩ := fly.2.2.2
    have nfr : ex ∉ frs X.stack := fun z => by
      obtain ⟨_, o2, e2, nf⟩ := fly.2.2.1.mem z
      rw [g1] at e2
      cases e2
      exact nf _ g3
    have apart : ∀ {b o}, s1.heap.get? b = some o → b ≠ ex := fun {b o} hb z => by
      subst z
      obtain ⟨o', h'⟩ := hB b o hb nfr
      rw [fly.2.1] at h'
      cases h'
    have hnone : H' ex = none := by
      cases e : H' ex with
      | none => rfl
      | some o' =>
        obtain ⟨o2, h2⟩ := hH ex o' e
        rw [fly.2.1] at h2
        cases h2
    have IS := I2.suite ex
    refine wpAny_handleBy_cons (codeAny_handlers_test (ld_glob IS hg hmg ?_ hdb)) (by intro z; cases z)
    have LT : Looks (model X.prog X.w) s2.heap (typeOf (.ref ex)) cls := by
      have this : Looks (model X.prog X.w) s2.heap (typeOf (.ref ex)) oe.cls := (Looks.ld g1).andThen .now
      rw [g2.1] at this
      exact this
    refine (exm_one I2.kIn LT hcls).here ?_
    refine codeAny_handlers_suite_as (againD fly dc fun h6 fly6 up6 dc6 => ?_)
    have I6 := again h6 fly6 up6
    obtain ⟨oe6, vs6, T6, oT6, ts6, k1, k2, k3, _⟩ := fly6.2.2.2
    obtain ⟨oe7, k4, k5⟩ := dc6
    cases k1.symm.trans k4
    have I7 := I6.trackD (cls := cls) (od := od) hnone (by
      cases e : X.s₀.heap.get? ex with
      | none => rfl
      | some o' =>
        obtain ⟨o2, h2⟩ := I1.base.there ex o' e (by rw [hex]; simp)
        exact absurd rfl (apart h2)) (fun z => nfr (by
          rw [hst, z, hLl]
          unfold frs
          rw [List.filterMap_cons, hL]
          simp)) (fun y c e => by
        obtain ⟨v, oc, hc, _⟩ := I1.cell y c e
        exact apart hc) (fun p hp => apart (I1.pin p hp).1) ⟨oe6, k1, k2.1, by unfold notCls; rw [k3], k5⟩
    refine store_ok I7 hN hi (.inl hn) (v := .ref ex) (u := .ref ex) rfl (fun s8 I8 => ?_) (.inr hn)
    refine wpAny_mono (hs ex pins s8 _ _ _ (I8.suite ex) (hsuite ex hnone)) (fun fl s9 q9 => ?_) fun _ _ z => False.elim z
    show wpAny _ _ _ _ _ _
    cases fl with
    | next =>
      obtain ⟨σ9, H9, I9, q⟩ := q9
      exact forget_ok (I9.unsuite I.ok) hN hi hn fun s10 I10 => ⟨_, H9, I10, q⟩
    | brk =>
      obtain ⟨σ9, H9, I9, q⟩ := q9
      exact forget_ok (I9.unsuite I.ok) hN hi hn fun s10 I10 => ⟨_, H9, I10, q⟩
    | cont =>
      obtain ⟨σ9, H9, I9, q⟩ := q9
      exact forget_ok (I9.unsuite I.ok) hN hi hn fun s10 I10 => ⟨_, H9, I10, q⟩
    | ret u =>
      obtain ⟨v, σ9, H9, I9, r, q⟩ := q9
      exact forget_ok (I9.unsuite I.ok) hN hi hn fun s10 I10 => ⟨v, _, H9, I10, r, q⟩
  · cases fl with
    | next => exact wpAny_execs_nil (wpAny_execs_nil q)
    | brk => exact q
    | cont => exact q
    | ret u => exact q
end
end L2


set_option Elab.async false
set_option linter.all false
set_option maxRecDepth 100000
set_option maxHeartbeats 4000000
namespace My
open PySem L2
open PySem.NumText
theorem slice_mem {x : Str} {l u : Option Int} {c : Nat} (h : c ∈ (Txt.slice x l u).cps.toList) : c ∈ x.cps.toList := by
  unfold Txt.slice at h
  split at h
  · exact h
  · obtain ⟨i, _, hi⟩ := List.mem_filterMap.mp (show c ∈ List.filterMap _ _ from by simpa using h)
    rw [← Array.getElem?_toList] at hi
    exact List.mem_of_getElem? hi
theorem slice_asc {x : Str} {l u : Option Int} (h : x.cps.all (· < 128) = true) : (Txt.slice x l u).cps.all (· < 128) = true := by
  rw [Array.all_eq_true_iff_forall_mem] at h ⊢
  intro d hd
  exact h d (Array.mem_def.mpr (slice_mem (Array.mem_def.mp hd)))
theorem slice_first (x : Str) : (Txt.slice x none (some 1)).cps.toList = x.cps.toList.take 1 := by
  cases hx : x.cps.toList with
  | nil =>
    have : x = "" := str_ext hx
    subst this
    decide
  | cons c r =>
    have hl : (1 : Int) ≤ x.length := by
      have : x.cps.size = (c :: r).length := by rw [← hx]; simp
      show (1 : Int) ≤ ((x.cps.size : Nat) : Int)
      rw [this, List.length_cons]
      omega
    have e := eq_of_beq (PyProof.Rows.slice_closes_toL (x := x) (j := 1) (by decide) hl)
    rw [e, hx]
    rfl
theorem first_neg (x : Str) : decide (V.str (Txt.slice x none (some 1)) = V.str "-") = negS x := by
  unfold negS
  apply decide_eq_decide.mpr
  have e := slice_first x
  constructor
  · intro z
    rw [V.str.inj z] at e
    cases hx : x.cps.toList with
    | nil => rw [hx] at e; cases e
    | cons c r =>
      rw [hx] at e
      have : (45 : Nat) = c := (List.cons.inj e).1
      rw [← this]
      rfl
  · intro z
    cases hx : x.cps.toList with
    | nil => rw [hx] at z; cases z
    | cons c r =>
      rw [hx] at z e
      have : c = 45 := Option.some.inj z
      subst this
      exact congrArg V.str (str_ext e)
/-! what a number's text comes to, as the law asks it -/
theorem head_at (x : Str) : x.cps[0]? = x.cps.toList.head? := by rw [← Array.getElem?_toList]; cases x.cps.toList <;> rfl
theorem readN_bad {x : Str} (h : figsOf x = "" ∨ 10 < (figsOf x).length ∨ ¬ (figsOf x).cps.toList.all isFg = true) : readN 10 x = none := by
  unfold readN
  rw [if_pos]
  rcases h with h | h | h
  · exact .inr (by rw [h]; decide)
  · exact .inl (by omega)
  · exact .inr (fun z => h (by unfold figP at z; rw [Bool.and_eq_true] at z; exact z.1))
theorem readN_zero {x : Str} (h5 : ¬ x = "0") (h4 : (figsOf x).cps.toList.head? = some 48) : readN 10 x = none := by
  unfold readN
  by_cases h6 : figsOf x = "0"
  · have hn : negS x = true := by
      cases hb : negS x with
      | true => rfl
      | false =>
        have : figsOf x = x := if_neg (by rw [hb]; decide)
        exact absurd (this ▸ h6) h5
    rw [if_neg (fun z => z.elim (fun z => by rw [h6] at z; exact absurd z (by decide)) (fun z => z (by rw [h6]; decide))), if_pos ⟨hn, h6⟩]
  · rw [if_pos (.inr (by
      unfold figP
      rw [decide_eq_false h6, head_at, h4]
      simp))]
theorem readN_good {x : Str} (h1 : ¬ figsOf x = "") (h2 : ¬ 10 < (figsOf x).length) (h3 : (figsOf x).cps.toList.all isFg = true) (h4 : x = "0" ∨ ¬ (figsOf x).cps.toList.head? = some 48) : readN 10 x = some (if negS x = true then -numOf (figsOf x) else numOf (figsOf x)) := by
  rcases h4 with rfl | h4
  · decide +kernel
  · have hf : figP (figsOf x) = true := by
      unfold figP
      rw [h3, head_at, decide_eq_true h1, decide_eq_true h4]
      simp
    have h6 : ¬ figsOf x = "0" := fun z => h4 (by rw [z]; decide)
    unfold readN
    rw [if_neg (fun z => z.elim (fun z => by omega) (fun z => z hf)), if_neg (fun z => h6 z.2)]
theorem isN_none {x : Str} {lo hi : Int} (h : readN 10 x = none) : isN x lo hi = false := by unfold isN; rw [h]
theorem isN_some {x : Str} {lo hi i : Int} (h : readN 10 x = some i) : isN x lo hi = decide (lo ≤ i ∧ i ≤ hi) := by unfold isN; rw [h]
theorem fig_notin : ∀ c : Nat, c < 128 → (!(!(Builtin.Str.occurrences ("0123456789" : Str) ⟨#[c]⟩ 0 ("0123456789" : Str).length 1).isEmpty)) = !isFg c := fun c h => by rw [fig_in c h]
theorem int_of {x : Str} (hd : (figsOf x).cps.toList.all isFg = true) (hne : ¬ figsOf x = "") (hl : (figsOf x).length ≤ 10) : intText? x = some (if negS x = true then -numOf (figsOf x) else numOf (figsOf x)) ∧ x.length ≤ 640 := by
  have ha : AllDigits (figsOf x).cps.toList := fun c hc => of_decide_eq_true ((List.all_eq_true.mp hd) c hc)
  have hn : (figsOf x).cps.toList ≠ [] := fun e => hne (str_ext e)
  cases hb : negS x with
  | false =>
    have e : figsOf x = x := if_neg (by rw [hb]; decide)
    rw [e] at ha hn hl
    rw [if_neg (by decide), e]
    exact ⟨intText_digits ha hn (by omega), by omega⟩
  | true =>
    have e : figsOf x = tailS x := if_pos hb
    rw [if_pos rfl]
    have hx : x.cps.toList = 45 :: (figsOf x).cps.toList := by
      have := of_decide_eq_true hb
      cases hx : x.cps.toList with
      | nil => rw [hx] at this; cases this
      | cons c r =>
        rw [hx] at this
        rw [e]
        unfold tailS
        rw [hx, Option.some.inj this]
        rfl
    have hxl : x.length = (figsOf x).length + 1 := by
      have := congrArg List.length hx
      rw [List.length_cons] at this
      simpa [Str.length] using this
    exact ⟨intText_neg hx ha hn (by omega), by omega⟩
section
variable {P : Program} {w : World} {K : PySem.W.Frag} {mg : Str → Option Value} {base : Heap}
/-! ### _law_is_number -/
def spIsn : Sp := fun vs H Q _ => ∃ (x : Str) (lo hi : Int), vs = [.str x, .int lo, .int hi] ∧ x.cps.all (· < 128) = true ∧ x.cps.size ≤ 400000 ∧ ∀ H', Same H H' → Q (.bl (isN x lo hi)) H'
theorem scIsn : FnScope ["_law_word", "_law_least", "_law_most", "_law_figures", "_law_strange"] ["_law_word", "_law_least", "_law_most"] (defScope sIsNumber) := ⟨rfl, rfl, rfl, by decide +kernel, rfl, by decide +kernel, by decide +kernel⟩
def csIsnC1 : Scope := { kind := .function, names := [(".0", .local), ("_law_sign", .local)], isGenerator := false, isCoroutine := false, more := [] }
theorem scIsnC1 : CompSc (defScope sIsNumber) csIsnC1 ["_law_word", "_law_least", "_law_most", "_law_figures", "_law_strange"] ["_law_sign"] [none] := ⟨rfl, by decide +kernel, by decide +kernel, by decide +kernel, by decide +kernel, by decide +kernel⟩
theorem ok_isn {f : Addr} {fd : FuncData} (F : Fun K "_law_is_number" "_law_is_number" sIsNumber f fd) (T : Txt K w.params mg) : FnOk P w K mg base CX0 1 f fd ["_law_word", "_law_least", "_law_most"] spIsn := by
  refine F.ok scIsn (fun vs H Q E h => ?_) (fun cdv A outer s H vs Q E hr h => ?_)
  · obtain ⟨x, lo, hi, rfl, _⟩ := h
    rfl
  · obtain ⟨x, lo, hi, rfl, ha, hz, k⟩ := h
    have hu0 : (A.deeper (PyProof.Rows.envOfC "_law_is_number" (defScope sIsNumber) s.heap.objs.size f cdv)).units + 6 < cLine := Nat.lt_of_le_of_lt (Nat.add_le_add_left (by decide : 6 ≤ 64) _) hr.units
    have hzl : x.length ≤ sizeLine := small_len (show x.cps.size ≤ 1000000 by omega)
    refine ⟨_, (pss_cons (ps_set (i := 3) scIsn.nd rfl (Or.inl rfl) (pv 0))
      (pss_mid (ps_if (pt_cmpR op_eq (pe_slice sl_str (pv 0) po_none (po_some pe_int)) pe_str (nomark _)) (pss_one (ps_set (i := 3) scIsn.nd rfl (Or.inl rfl) (pe_slice sl_str (pv 0) (po_some pe_int) po_none))) pss_nil)
      (pss_cons (ps_comp (i := 4) (N' := ["_law_sign"]) (fr := [none]) scIsn.nd rfl rfl scIsnC1 rfl (pi_str (pv 3)) (fun C s0 H0 fp => (pg_name (i := 0) scIsnC1.nd rfl (Or.inl rfl))) (fun C s0 H0 fp => (pts_one (pt_cmpR op_notin_str (pv 0) pe_str rfl))) (fun C s0 H0 fp => (pv 0)))
      (pss_cons (ps_if (pw_or (pt_cmpR op_eq (pv 3) pe_str (nomark _)) (pw_or (pt_cmpR op_gt (pe_callB call_len_str (by rfl) T.len bt_len (pa_cons (pv 3) pa_nil)) pe_int (nomark _)) (pw_or1 (pt_cmpR (op_neA hu0) (pv 4) (pe_lst pa_nil) (nomark _))))).pt (pss_one (ps_ret pe_bl)) pss_nil)
      (pss_cons (ps_if (pw_and (pt_cmpR op_ne (pv 0) pe_str (nomark _)) (pw_and1 (pt_cmpR op_eq (pe_ix ix_str (pv 3) pe_int (fun _ _ => rfl)) pe_str (nomark _)))).pt (pss_one (ps_ret pe_bl)) pss_nil)
      (pss_one (ps_ret (pe_chain op_le op_le (pv 1) (pe_callTy call_int_txt (by rfl) T.int bt_int (pa_cons (pv 0) pa_nil)) (pv 2))))))))), ?_⟩
    have fa : (figsOf x).cps.all (· < 128) = true := by
      unfold figsOf
      split
      · rename_i hb
        rw [← slice_tail hb]
        exact slice_asc ha
      · exact ha
    have fz : (figsOf x).cps.size ≤ 400000 := by
      unfold figsOf
      split
      · show (x.cps.toList.drop 1).toArray.size ≤ 400000
        simp
        omega
      · exact hz
    refine ⟨_, rfl, fun σ H1 => σ = [some (.str x), some (.int lo), some (.int hi), some (.str (figsOf x)), none] ∧ H1 = H, ?_, ?_⟩
    · refine ⟨_, rfl, 1, rfl, x, rfl, hzl, rfl, _, rfl, ?_⟩
      rw [first_neg]
      cases hb : negS x with
      | true =>
        refine iteP rfl ?_
        refine ⟨_, rfl, 1, rfl, x, rfl, hzl, ?_⟩
        rw [slice_tail hb]
        refine ⟨?_, rfl⟩
        rw [show figsOf x = tailS x from if_pos hb]
        rfl
      | false =>
        refine iteN (by decide) ⟨?_, rfl⟩
        rw [show figsOf x = x from if_neg (by rw [hb]; decide)]
        rfl
    rintro σ H1 ⟨rfl, rfl⟩
    have kN : readN 10 x = none → ∀ H', Same H1 H' → Q (.bl false) H' := fun e H' s' => by have := k H' s'; rw [isN_none e] at this; exact this
    have hB := @readN_bad x
    have hZ := @readN_zero x
    have hG := @readN_good x
    generalize hfx : figsOf x = fx at hB hZ hG fa fz ⊢
    refine ⟨_, rfl, fx, rfl, fa, fun D nD => comp_str (x := fx) (fun i σ ys H2 => ∃ v : Option V, σ = [v] ∧ ys = ((fx.cps.toList.take i).filter fun c => !isFg c).map (fun c => V.str ⟨#[c]⟩) ∧ Same H1 H2 ∧ H2 D = some (.lst ys)) ?_ ?_ ?_⟩
    · exact ⟨none, rfl, rfl, same_new nD, upd_same⟩
    · rintro i v σ ys H2 hv ⟨v0, rfl, rfl, s2, hD⟩
      unfold chV at hv
      obtain ⟨c, hc, rfl⟩ := Option.map_eq_some_iff.mp hv
      have hi' : i < fx.cps.size := (Array.getElem?_eq_some_iff.mp hc).1
      have hc' : fx.cps.toList[i]? = some c := by rw [Array.getElem?_toList]; exact hc
      have h128 : c < 128 := by
        have := (Array.all_eq_true.mp fa) i hi'
        rw [(Array.getElem?_eq_some_iff.mp hc).2] at this
        exact of_decide_eq_true this
      refine ⟨_, rfl, _, _, rfl, rfl, _, rfl, ?_⟩
      rw [fig_notin c h128]
      by_cases hg : isFg c = true
      · refine iteN (by rw [hg]; decide) ⟨_, rfl, ?_, s2, hD⟩
        rw [List.take_add_one, hc', List.filter_append]
        simp [hg]
      · refine iteP (by rw [Bool.eq_false_iff.mpr hg]; rfl) ?_
        refine ⟨_, rfl, hD, ?_, _, rfl, ?_, same_put s2 nD, upd_same⟩
        · rw [List.length_map]
          exact Nat.lt_of_le_of_lt (Nat.le_trans (List.length_filter_le _ _) (by rw [List.length_take]; exact Nat.le_trans (Nat.min_le_left _ _) (show i ≤ 400000 by omega))) (by decide)
        · rw [List.take_add_one, hc', List.filter_append, List.map_append]
          simp [hg]
    · rintro σ ys H2 ⟨v0, rfl, rfl, s2, hD⟩
      have et : fx.cps.toList.take fx.cps.size = fx.cps.toList := List.take_of_length_le (by simp)
      rw [et] at hD
      refine ⟨_, rfl, rfl, _, rfl, ?_⟩
      by_cases h1 : fx = ""
      · refine iteP (decide_eq_true (by rw [h1])) ?_
        exact kN (hB (.inl h1)) _ s2
      refine iteN (fun z => h1 (V.str.inj (of_decide_eq_true z))) ?_
      refine ⟨_, rfl, fx, rfl, small_len (show fx.cps.size ≤ 1000000 by omega), _, _, rfl, rfl, _, rfl, ?_⟩
      by_cases h2 : 10 < fx.length
      · refine iteP (decide_eq_true (show (10 : Int) < (fx.length : Int) by omega)) ?_
        exact kN (hB (.inr (.inl h2))) _ s2
      refine iteN (fun z => h2 (by have := of_decide_eq_true z; omega)) ?_
      refine ⟨_, rfl, Nat.le_of_ble_eq_true rfl, fun le ne => ?_⟩
      have s3 := same_new (o := .lst []) ne
      have h3e : upd H2 le (.lst []) le = _ := upd_same
      have h3D := s3 _ _ hD
      generalize upd H2 le (.lst []) = H3 at s3 h3e h3D ⊢
      have s13 := s2.trans s3
      have emap : (fx.cps.toList.filter fun c => !isFg c).map (fun c => V.str ⟨#[c]⟩) = ((fx.cps.toList.filter fun c => !isFg c).map fun c => (⟨#[c]⟩ : Str)).map V.str := by rw [List.map_map]; rfl
      rw [emap] at h3D
      refine ⟨1, D, le, _, _, rfl, rfl, .lst (SqL.of h3D) (by simp) (strs_da K H3 _), .lst (SqL.of h3e) (ds := []) rfl (fun i x d h => by simp at h), strs_nb _, .lst (fun z hz => by cases hz), by decide, _, rfl, ?_⟩
      have kk := k H3 s13
      by_cases h3 : fx.cps.toList.all isFg = true
      · refine iteN ?_ ?_
        · rw [Bool.true_xor, decide_eq_true]
          · decide
          · congr 1
            rw [List.map_eq_nil_iff, List.map_eq_nil_iff, List.filter_eq_nil_iff]
            intro c hc
            rw [(List.all_eq_true.mp h3) c hc]
            decide
        obtain ⟨c, r, hcr⟩ : ∃ c r, fx.cps.toList = c :: r := by
          cases e : fx.cps.toList with
          | nil => exact absurd (str_ext e) h1
          | cons c r => exact ⟨c, r, rfl⟩
        have hit : intText? x = some (if negS x = true then -numOf fx else numOf fx) ∧ x.length ≤ 640 := by
          have := int_of (x := x) (by rw [hfx]; exact h3) (by rw [hfx]; exact h1) (by rw [hfx]; omega)
          rw [hfx] at this
          exact this
        refine ⟨_, rfl, rfl, _, rfl, ?_⟩
        have out : ∀ (h4 : x = "0" ∨ ¬ fx.cps.toList.head? = some 48), Q (.bl (decide (lo ≤ (if negS x = true then -numOf fx else numOf fx) ∧ (if negS x = true then -numOf fx else numOf fx) ≤ hi))) H3 := fun h4 => by
          rw [isN_some (hG h1 h2 h3 h4)] at kk
          exact kk
        generalize (if negS x = true then -numOf fx else numOf fx) = i at hit out
        by_cases h5 : x = "0"
        · refine iteN (by rw [h5]; decide) ?_
          have o := out (.inl h5)
          refine ⟨_, rfl, _, rfl, x, _, rfl, hit.2, hit.1, _, _, rfl, rfl, _, rfl, ?_⟩
          by_cases hlo : lo ≤ i
          · refine iteP (decide_eq_true hlo) ?_
            refine ⟨_, rfl, _, _, rfl, rfl, ?_⟩
            have e : decide (lo ≤ i ∧ i ≤ hi) = decide (i ≤ hi) := decide_eq_decide.mpr ⟨fun z => z.2, fun z => ⟨hlo, z⟩⟩
            rw [e] at o
            exact o
          · refine iteN (fun z => hlo (of_decide_eq_true z)) ?_
            rw [decide_eq_false (fun z => hlo z.1)] at o
            exact o
        · refine iteP (by rw [decide_eq_false (fun z => h5 (V.str.inj z))]; rfl) ?_
          refine ⟨_, rfl, fx, 0, c, rfl, rfl, small_len (show fx.cps.size ≤ 1000000 by omega), (by rw [hcr]; exact at0 _ _), rfl, _, rfl, ?_⟩
          by_cases h6 : c = 48
          · refine iteP (by subst h6; decide) ?_
            exact kN (hZ h5 (by rw [hcr, h6]; rfl)) _ s13
          · refine iteN (fun z => h6 (by have := V.str.inj (of_decide_eq_true z); have := congrArg (fun s : Str => s.cps.toList) this; exact (List.cons.inj this).1)) ?_
            have o := out (.inr (by rw [hcr]; intro z; exact h6 (Option.some.inj z)))
            refine ⟨_, rfl, _, rfl, x, _, rfl, hit.2, hit.1, _, _, rfl, rfl, _, rfl, ?_⟩
            by_cases hlo : lo ≤ i
            · refine iteP (decide_eq_true hlo) ?_
              refine ⟨_, rfl, _, _, rfl, rfl, ?_⟩
              have e : decide (lo ≤ i ∧ i ≤ hi) = decide (i ≤ hi) := decide_eq_decide.mpr ⟨fun z => z.2, fun z => ⟨hlo, z⟩⟩
              rw [e] at o
              exact o
            · refine iteN (fun z => hlo (of_decide_eq_true z)) ?_
              rw [decide_eq_false (fun z => hlo z.1)] at o
              exact o
      · refine iteP ?_ ?_
        · rw [Bool.true_xor, decide_eq_false]
          · rfl
          · intro z
            have z := List.map_eq_nil_iff.mp (List.map_eq_nil_iff.mp (Da.lst.inj z))
            rw [List.filter_eq_nil_iff] at z
            exact h3 (List.all_eq_true.mpr fun c hc => by have := z c hc; simpa using this)
        exact kN (hB (.inr (.inr h3))) _ s13
end
end My


set_option Elab.async false
set_option linter.all false
namespace L2
open PySem PySem.Spec PyProof.Rows
/-! ### texts put together: told by one function of the names -/
section
variable {X : Cx}
theorem op_mulS : OpR X (binaryOp .Mult) (fun x y H Q => ∃ i n, x = .str i ∧ y = .int n ∧ MulOk i n ∧ Q (.str (Txt.mul i n)) H) := by
  intro pins s σ H x y v u Q I rx ry h
  obtain ⟨i, n, rfl, rfl, hm, q⟩ := h
  obtain ⟨t, rfl⟩ := rx
  obtain ⟨t', rfl⟩ := ry
  exact SB.mul hm fun t' k => ⟨.str _, H, I.tok k, ⟨_, rfl⟩, q⟩
theorem mul_ok {x : Str} {n : Int} (h0 : 0 ≤ n) (h1 : n ≤ 10000) (hx : x.length ≤ 1000) : MulOk x n := by
  refine ⟨?_, fun h2 _ => ?_, fun _ _ => ?_⟩
  · rw [decide_eq_false (by omega), decide_eq_false (by omega)]
    rfl
  · have h3 : (0 : Int) < n := by omega
    have : (1000 : Int) * n ≤ 2 ^ 63 - 1 := by omega
    have : (1000 : Int) ≤ (2 ^ 63 - 1) / n := (Int.le_ediv_iff_mul_le h3).mpr this
    omega
  · have h4 : x.length * n.toNat ≤ 1000 * 10000 := Nat.mul_le_mul hx (by omega)
    unfold Builtin.Str.tooLong
    exact decide_eq_false (by have : sizeLine = 16777216 := by decide
                              omega)
end
end L2
namespace L2
open PySem PySem.Spec PyProof.Rows
/-! ### what they come to -/
section
variable {σ : St}
end
end L2
namespace L2
open PySem PySem.Spec PyProof.Rows
/-! ### statements with such lists: shut off (else Lean runs through the display at each look) -/
structure PSx (X : Cx) (st : Stmt) (t : TS) : Prop where
  ps : PS X st t
structure PSsx (X : Cx) (b : List Stmt) (t : TS) : Prop where
  ps : PSs X b t
section
variable {X : Cx}
theorem psx_of {st : Stmt} {t : TS} (h : PS X st t) : PSx X st t := ⟨h⟩
theorem psx_if {c : Expr} {a b : List Stmt} {tc : TT} {t u : TS} {pos : Pos} (hc : PT X c tc) (ha : PSsx X a t) (hb : PSsx X b u) : PSx X (.If c a b pos) (tIfS tc t u) := ⟨ps_if hc ha.ps hb.ps⟩
theorem pssx_nil {t : TS} (h : PSs X [] t) : PSsx X [] t := ⟨h⟩
theorem pssx_cons {st : Stmt} {b : List Stmt} {t u : TS} (h : PSx X st t) (k : PSsx X b u) : PSsx X (st :: b) (tSeq t u) := ⟨pss_cons h.ps k.ps⟩
theorem pssx_mid {st : Stmt} {b : List Stmt} {t u : TS} (h : PSx X st t) (k : PSsx X b u) : PSsx X (st :: b) (tMid t u) := ⟨pss_mid h.ps k.ps⟩
theorem pssx_one {st : Stmt} {t : TS} (h : PSx X st t) : PSsx X [st] t := ⟨pss_one h.ps⟩
theorem wrapX {b : List Stmt} {t : TS} {R : TS → Prop} (h : PSsx X b t) (hr : R t) : ∃ t, PSs X b t ∧ R t := ⟨t, h.ps, hr⟩
end
end L2
namespace L2
open PySem PySem.Spec PyProof.Rows
/-! ### whole numbers put together, and their texts -/
section
variable {X : Cx}
end
end L2


set_option Elab.async false
set_option linter.all false
set_option maxRecDepth 100000
set_option maxHeartbeats 4000000
namespace My
open PySem L2
theorem fits_all {ws : List Str} {form : List Nat} (hl : ws.length = form.length) : fitsB ws form = ((ws.zip form).all fun x => isN x.1 (bnd x.2).1 (bnd x.2).2) := by
  unfold fitsB
  rw [decide_eq_true hl, Bool.true_and]
theorem one_is {c d : Nat} : decide (V.str ⟨#[c]⟩ = V.str ⟨#[d]⟩) = decide (c = d) := decide_eq_decide.mpr ⟨fun z => by
  have := congrArg (fun s : Str => s.cps.toList) (V.str.inj z)
  exact (List.cons.inj this).1, fun z => by rw [z]⟩
section
variable {P : Program} {w : World} {K : PySem.W.Frag} {mg : Str → Option Value} {base : Heap}
/-! ### _law_fits -/
def spFits : Sp := fun vs H Q _ => ∃ (l : Addr) (ws : List Str) (form : Str), vs = [.ref l, .str form] ∧ H l = some (.lst (ws.map V.str)) ∧ ws.length ≤ 400001 ∧ (∀ x ∈ ws, x.cps.all (· < 128) = true ∧ x.cps.size ≤ 400000) ∧ form.cps.all (· < 128) = true ∧ form.cps.size ≤ 400000 ∧ ∀ H', Same H H' → Q (.bl (fitsB ws form.cps.toList)) H'
theorem scFits : FnScope ["_law_words", "_law_form", "_law_word", "_law_kind", "_law_least", "_law_most"] ["_law_words", "_law_form"] (defScope sFits) := ⟨rfl, rfl, rfl, by decide +kernel, rfl, by decide +kernel, by decide +kernel⟩
theorem ok_fits {f fN : Addr} {fd fdN : FuncData} (F : Fun K "_law_fits" "_law_fits" sFits f fd) (T : Txt K w.params mg) (GN : FnOk P w K mg base CX0 1 fN fdN ["_law_word", "_law_least", "_law_most"] spIsn) (kN : PySem.W.keepIn K (.ref fN) = true) (bN : Binds K fdN ["_law_word", "_law_least", "_law_most"] []) (mN : mg "_law_is_number" = some (.ref fN)) : FnOk P w K mg base CX0 2 f fd ["_law_words", "_law_form"] spFits := by
  refine F.ok scFits (fun vs H Q E h => ?_) (fun cdv A outer s H vs Q E hr h => ?_)
  · obtain ⟨l, ws, form, rfl, _⟩ := h
    rfl
  · obtain ⟨l, ws, form, rfl, hl, hw, hx, fa, fz, k⟩ := h
    refine ⟨_, (pss_cons (ps_if (pt_cmpR op_ne (pe_callB call_len_seq (by rfl) T.len bt_len (pa_cons (pv 0) pa_nil)) (pe_callB call_len_str (by rfl) T.len bt_len (pa_cons (pv 1) pa_nil)) (nomark _)) (pss_one (ps_ret pe_bl)) pss_nil)
      (pss_cons (ps_for PassesOwn.never rfl (pi_zipS rfl T.zip (pa_cons (pv 0) (pa_cons (pv 1) pa_nil))) (pg_two (K := K) (i := 2) (j := 3) rfl rfl scFits.nd rfl (Or.inl rfl) rfl (Or.inl rfl)) (pss_cons (ps_set (i := 4) scFits.nd rfl (Or.inl rfl) pe_int)
      (pss_cons (ps_set (i := 5) scFits.nd rfl (Or.inl rfl) (pe_op op_pow pe_int pe_int))
      (pss_mid (ps_if (pt_cmpR op_eq (pv 3) pe_str (nomark _)) (pss_one (ps_set (i := 5) scFits.nd rfl (Or.inl rfl) pe_int)) pss_nil)
      (pss_mid (ps_if (pt_cmpR op_eq (pv 3) pe_str (nomark _)) (pss_one (ps_set (i := 5) scFits.nd rfl (Or.inl rfl) (pe_op op_pow pe_int pe_int))) pss_nil)
      (pss_mid (ps_if (pt_cmpR op_eq (pv 3) pe_str (nomark _)) (pss_one (ps_set (i := 4) scFits.nd rfl (Or.inl rfl) (pe_op op_sub pe_int (pe_op op_pow pe_int pe_int)))) pss_nil)
      (pss_one (ps_if (pt_not (pt_val (pe_call GN hr (by rfl) mN kN bN .nil pass0 (pa_cons (pv 2) (pa_cons (pv 4) (pa_cons (pv 5) pa_nil)))))) (pss_one (ps_ret pe_bl)) pss_nil))))))))
      (pss_one (ps_ret pe_bl)))), ?_⟩
    have hfl : form.length = form.cps.toList.length := by simp [Str.length]
    refine ⟨_, rfl, l, _, rfl, .inl (SqL.of hl), _, rfl, form, rfl, small_len (show form.cps.size ≤ 1000000 by omega), rfl, _, rfl, ?_⟩
    rw [List.length_map]
    by_cases hlen : ws.length = form.length
    · refine iteN (by rw [hlen]; simp) ?_
      have hl2 : ws.length = form.cps.toList.length := by rw [← hfl]; exact hlen
      rw [fits_all hl2] at k
      refine ⟨_, rfl, _, rfl, l, form, rfl, ⟨_, SqL.of hl⟩, fa, for_zipS (K := K) (a := l) (xs := ws.map V.str) (z0 := form) (by rw [List.length_map]; exact hlen) (fun i σ H1 => ∃ v2 v3 v4 v5 : Option V, σ = [some (.ref l), some (.str form), v2, v3, v4, v5] ∧ Same H H1 ∧ ((ws.zip form.cps.toList).take i).all (fun x => isN x.1 (bnd x.2).1 (bnd x.2).2) = true) ?_ ?_ ?_ ?_⟩
      · exact ⟨none, none, none, none, rfl, .refl _, rfl⟩
      · rintro i σ H1 _ ⟨v2, v3, v4, v5, rfl, s1, _⟩
        exact SqL.of (s1 _ _ hl)
      · rintro i y z σ H1 t hy hz nt ⟨v2, v3, v4, v5, rfl, s1, hall⟩
        rw [List.getElem?_map] at hy
        obtain ⟨x, hxi, rfl⟩ := Option.map_eq_some_iff.mp hy
        unfold chV at hz
        obtain ⟨c, hc, rfl⟩ := Option.map_eq_some_iff.mp hz
        have hc' : form.cps.toList[i]? = some c := by rw [Array.getElem?_toList]; exact hc
        have hzi : (ws.zip form.cps.toList)[i]? = some (x, c) := by rw [List.getElem?_zip_eq_some]; exact ⟨hxi, hc'⟩
        have s2 := s1.trans (same_new (o := .tup [V.str x, V.str ⟨#[c]⟩]) nt)
        have ht : upd H1 t (.tup [V.str x, V.str ⟨#[c]⟩]) t = _ := upd_same
        generalize upd H1 t (.tup [V.str x, V.str ⟨#[c]⟩]) = H2 at s2 ht ⊢
        refine ⟨t, _, rfl, SqT.of ht, rfl, _, _, rfl, _, _, rfl, rfl, ?_⟩
        refine ⟨_, _, rfl, rfl, ⟨by decide, by decide, by decide⟩, ?_⟩
        refine ⟨fun σ H3 => σ = [some (.ref l), some (.str form), some (.str x), some (.str ⟨#[c]⟩), some (.int 0), some (.int (if c = 98 then 7 else 1000000000))] ∧ H2 = H3, ?_, ?_⟩
        · refine ⟨_, rfl, rfl, _, rfl, ?_⟩
          rw [show (V.str "b") = V.str ⟨#[98]⟩ from rfl, one_is]
          by_cases h : c = 98
          · exact iteP (decide_eq_true h) ⟨by rw [if_pos h]; rfl, rfl⟩
          · exact iteN (fun z => h (of_decide_eq_true z)) ⟨by rw [if_neg h]; rfl, rfl⟩
        rintro σ H3 ⟨rfl, rfl⟩
        refine ⟨fun σ H3 => σ = [some (.ref l), some (.str form), some (.str x), some (.str ⟨#[c]⟩), some (.int 0), some (.int (if c = 98 then 7 else if c = 110 then 1000000 else 1000000000))] ∧ H2 = H3, ?_, ?_⟩
        · refine ⟨_, rfl, rfl, _, rfl, ?_⟩
          rw [show (V.str "n") = V.str ⟨#[110]⟩ from rfl, one_is]
          by_cases h : c = 110
          · refine iteP (decide_eq_true h) ?_
            exact ⟨_, _, rfl, rfl, ⟨by decide, by decide, by decide⟩, by subst h; rfl, rfl⟩
          · exact iteN (fun z => h (of_decide_eq_true z)) ⟨by rw [if_neg h], rfl⟩
        rintro σ H3 ⟨rfl, rfl⟩
        refine ⟨fun σ H3 => σ = [some (.ref l), some (.str form), some (.str x), some (.str ⟨#[c]⟩), some (.int (bnd c).1), some (.int (bnd c).2)] ∧ H2 = H3, ?_, ?_⟩
        · refine ⟨_, rfl, rfl, _, rfl, ?_⟩
          rw [show (V.str "v") = V.str ⟨#[118]⟩ from rfl, one_is]
          by_cases h : c = 118
          · refine iteP (decide_eq_true h) ?_
            exact ⟨_, _, rfl, rfl, ⟨by decide, by decide, by decide⟩, _, _, rfl, rfl, by subst h; rfl, rfl⟩
          · refine iteN (fun z => h (of_decide_eq_true z)) ⟨?_, rfl⟩
            unfold bnd
            by_cases h1 : c = 98
            · rw [if_pos h1, if_pos h1]
            · rw [if_neg h1, if_neg h1]
              by_cases h2 : c = 110
              · rw [if_pos h2, if_pos h2]
              · rw [if_neg h2, if_neg h2, if_neg h]
        rintro σ H3 ⟨rfl, rfl⟩
        obtain ⟨xa, xz⟩ := hx x (List.mem_of_getElem? hxi)
        refine ⟨_, rfl, _, rfl, _, rfl, x, _, _, rfl, xa, xz, fun H4 s4 => ⟨_, rfl, ?_⟩⟩
        by_cases hn : isN x (bnd c).1 (bnd c).2 = true
        · refine iteN (by rw [hn]; decide) ?_
          refine ⟨_, _, _, _, rfl, s2.trans s4, ?_⟩
          rw [List.take_add_one, hzi, List.all_append, hall]
          simp [hn]
        · refine iteP (by rw [Bool.eq_false_iff.mpr hn]; rfl) ?_
          have kk := k H4 (s2.trans s4)
          have : ((ws.zip form.cps.toList).all fun x => isN x.1 (bnd x.2).1 (bnd x.2).2) = false := by
            rw [Bool.eq_false_iff]
            intro z
            exact hn ((List.all_eq_true.mp z) (x, c) (List.mem_of_getElem? hzi))
          rw [this] at kk
          exact kk
      · rintro σ H1 ⟨v2, v3, v4, v5, rfl, s1, hall⟩
        have kk := k H1 s1
        rw [List.length_map, List.take_of_length_le (by rw [List.length_zip]; omega)] at hall
        rw [hall] at kk
        exact kk
    · refine iteP (by rw [decide_eq_false (fun z => hlen (by have := V.int.inj z; omega))]; rfl) ?_
      have kk := k H (.refl _)
      have : fitsB ws form.cps.toList = false := by
        unfold fitsB
        rw [decide_eq_false (by rw [← hfl]; exact hlen)]
        rfl
      rw [this] at kk
      exact kk
end
end My


set_option Elab.async false
set_option linter.all false
set_option maxRecDepth 100000
set_option maxHeartbeats 4000000
namespace My
open PySem L2
theorem alike_nil : Alike [] [] := ⟨rfl, fun i k c h => by simp at h⟩
theorem alike_cons {k : Str} {ks : List Str} {c : Nat} {form : List Nat} (h1 : ¬ k = "targets") (h2 : bounds.lookup k = some (bnd c)) (t : Alike ks form) : Alike (k :: ks) (c :: form) := ⟨by simp [t.1], fun i a b ha hb => by
  cases i with
  | zero => cases ha; cases hb; exact ⟨h1, h2⟩
  | succ i => exact t.2 i a b ha hb⟩
theorem rf_plain {u : Str} {r : List Str} (h : farK u = false) : rf u r = r := by
  unfold rf farB
  rw [h]
  rfl
def far5 : List Str := ["jump", "zero", "below", "call", "mark"]
theorem farK_far5 (u : Str) : farK u = decide (u ∈ far5) := by
  cases hk : kinds.lookup u with
  | none =>
    unfold farK
    rw [hk]
    symm
    apply decide_eq_false
    intro z
    have := (by decide +kernel : ∀ u ∈ far5, (kinds.lookup u).isSome = true) u z
    rw [hk] at this
    cases this
  | some ks =>
    have := (by decide +kernel : ∀ y ∈ kinds, farK y.1 = decide (y.1 ∈ far5)) _ (lk_mem hk)
    exact this
theorem mul_one (c : Nat) : ∀ n : Nat, 1 ≤ n → (Txt.mul ⟨#[c]⟩ (n : Int)).cps.toList = List.replicate n c := fun n hn => by
  have key : ∀ (k : Nat) (a : Array Nat), ((List.replicate k #[c]).foldl (· ++ ·) a).toList = a.toList ++ List.replicate k c := by
    intro k
    induction k with
    | zero => intro a; simp
    | succ k ih => intro a; rw [List.replicate_succ, List.foldl_cons, ih, List.replicate_succ, Array.toList_append, List.append_assoc]; rfl
  unfold Txt.mul
  rw [if_neg (by omega)]
  split
  · rename_i h
    rcases Bool.or_eq_true _ _ ▸ h with h | h
    · have : (n : Int) = 1 := eq_of_beq h
      have : n = 1 := by omega
      subst this
      rfl
    · cases h
  · show ((List.replicate ((n : Int)).toNat #[c]).foldl (· ++ ·) #[]).toList = _
    rw [Int.toNat_natCast, key]
    rfl
section
variable {P : Program} {w : World} {K : PySem.W.Frag} {mg : Str → Option Value} {base : Heap}
def spShows : Sp := fun vs H Q _ => ∃ (y : Str), vs = [.str y] ∧ y.cps.all (· < 128) = true ∧ y.cps.size ≤ 400000 ∧ ∀ H', Same H H' → Q (.bl (readR (Txt.split y " ")).isSome) H'
theorem scShw : FnScope ["_law_line_here", "_law_words", "_law_word"] ["_law_line_here"] (defScope sShows) := ⟨rfl, rfl, rfl, by decide +kernel, rfl, by decide +kernel, by decide +kernel⟩
theorem ok_shows {f fF : Addr} {fd fdF : FuncData} (F : Fun K "_law_shows" "_law_shows" sShows f fd) (T : Txt K w.params mg) (GF : FnOk P w K mg base CX0 2 fF fdF ["_law_words", "_law_form"] spFits) (kF : PySem.W.keepIn K (.ref fF) = true) (bF : Binds K fdF ["_law_words", "_law_form"] []) (mF : mg "_law_fits" = some (.ref fF)) : FnOk P w K mg base CX0 3 f fd ["_law_line_here"] spShows := by
  refine F.ok scShw (fun vs H Q E h => ?_) (fun cdv A outer s H vs Q E hr h => ?_)
  · obtain ⟨y, rfl, _⟩ := h
    rfl
  · obtain ⟨y, rfl, ha, hz, k⟩ := h
    have hu0 : (A.deeper (PyProof.Rows.envOfC "_law_shows" (defScope sShows) s.heap.objs.size f cdv)).units + 6 < cLine := Nat.lt_of_le_of_lt (Nat.add_le_add_left (by decide : 6 ≤ 64) _) hr.units
    refine wrapX (pssx_cons (psx_of (ps_set (i := 1) scShw.nd rfl (Or.inl rfl) (pe_bm PySem.F.plainAttrs_str PySem.F.slot_str_split PySem.F.type_str_split mt_split (pv 0) (pa_cons pe_str pa_nil))))
      (pssx_cons (psx_of (ps_set (i := 2) scShw.nd rfl (Or.inl rfl) (pe_ix ix_list (pv 1) pe_int (fun _ _ => rfl))))
      (pssx_cons (psx_of (ps_set (i := 1) scShw.nd rfl (Or.inl rfl) (pe_slice sl_list (pv 1) (po_some pe_int) po_none)))
      (pssx_mid (psx_if (pw_and (pt_cmpR op_in_seq (pv 2) (pe_tup (pa_cons pe_str (pa_cons pe_str (pa_cons pe_str (pa_cons pe_str (pa_cons pe_str pa_nil)))))) rfl) (pw_and1 (pt_cmpR (op_eqA hu0) (pe_slice sl_list (pv 1) po_none (po_some pe_int)) (pe_lst (pa_cons pe_str pa_nil)) (nomark _)))).pt (pssx_one (psx_of (ps_set (i := 1) scShw.nd rfl (Or.inl rfl) (pe_slice sl_list (pv 1) (po_some pe_int) po_none)))) (pssx_nil pss_nil))
      (pssx_cons (psx_if (pt_cmpR op_in_seq (pv 2) (pe_tup (pa_cons pe_str (pa_cons pe_str pa_nil))) rfl) (pssx_one (psx_of (ps_ret (pe_cmpR (op_eqA hu0) (pv 1) (pe_lst pa_nil) (nomark _))))) (pssx_nil pss_nil))
      (pssx_cons (psx_if (pt_cmpR op_in_seq (pv 2) (pe_tup (pa_cons pe_str (pa_cons pe_str pa_nil))) rfl) (pssx_one (psx_of (ps_ret (pe_call GF hr (by rfl) mF kF bF .nil pass0 (pa_cons (pv 1) (pa_cons pe_str pa_nil)))))) (pssx_nil pss_nil))
      (pssx_cons (psx_if (pt_cmpR op_in_seq (pv 2) (pe_tup (pa_cons pe_str (pa_cons pe_str (pa_cons pe_str (pa_cons pe_str (pa_cons pe_str pa_nil)))))) rfl) (pssx_one (psx_of (ps_ret (pe_call GF hr (by rfl) mF kF bF .nil pass0 (pa_cons (pv 1) (pa_cons pe_str pa_nil)))))) (pssx_nil pss_nil))
      (pssx_cons (psx_if (pt_cmpR op_in_seq (pv 2) (pe_tup (pa_cons pe_str (pa_cons pe_str (pa_cons pe_str pa_nil)))) rfl) (pssx_one (psx_of (ps_ret (pe_call GF hr (by rfl) mF kF bF .nil pass0 (pa_cons (pv 1) (pa_cons pe_str pa_nil)))))) (pssx_nil pss_nil))
      (pssx_cons (psx_if (pt_cmpR op_in_seq (pv 2) (pe_tup (pa_cons pe_str (pa_cons pe_str pa_nil))) rfl) (pssx_one (psx_of (ps_ret (pe_call GF hr (by rfl) mF kF bF .nil pass0 (pa_cons (pv 1) (pa_cons (pe_ix ix_list (pe_lst (pa_cons pe_str (pa_cons pe_str pa_nil))) (pe_callTy call_int1 (by rfl) T.int bt_int (pa_cons (pe_cmpR op_eq (pv 2) pe_str (nomark _)) pa_nil)) (fun _ _ => rfl)) pa_nil)))))) (pssx_nil pss_nil))
      (pssx_cons (psx_if (pt_cmpR op_in_seq (pv 2) (pe_tup (pa_cons pe_str (pa_cons pe_str (pa_cons pe_str pa_nil)))) rfl) (pssx_one (psx_of (ps_ret (pe_call GF hr (by rfl) mF kF bF .nil pass0 (pa_cons (pv 1) (pa_cons pe_str pa_nil)))))) (pssx_nil pss_nil))
      (pssx_cons (psx_if (pt_cmpR op_in_seq (pv 2) (pe_tup (pa_cons pe_str (pa_cons pe_str pa_nil))) rfl) (pssx_one (psx_of (ps_ret (pe_call GF hr (by rfl) mF kF bF .nil pass0 (pa_cons (pv 1) (pa_cons pe_str pa_nil)))))) (pssx_nil pss_nil))
      (pssx_one (psx_of (ps_ret (pe_and (pe_cmpR op_eq (pv 2) pe_str (nomark _)) (pe_and (pe_chain op_le op_le pe_int (pe_callB call_len_seq (by rfl) T.len bt_len (pa_cons (pv 1) pa_nil)) pe_int) (pe_one (pe_call GF hr (by rfl) mF kF bF .nil pass0 (pa_cons (pv 1) (pa_cons (pe_op op_add_str pe_str (pe_op op_mulS pe_str (pe_op op_sub (pe_callB call_len_seq (by rfl) T.len bt_len (pa_cons (pv 1) pa_nil)) pe_int))) pa_nil)))))))))))))))))))) ?_
    refine ⟨_, rfl, rfl, y, " ", rfl, rfl, by decide, Nat.lt_of_le_of_lt (show y.cps.size ≤ 400000 from hz) (by decide), fun l0 n0 => ?_⟩
    have q0 := same_new (o := .lst ((Txt.split y " ").map V.str)) n0
    have h0 : upd H l0 (.lst ((Txt.split y " ").map V.str)) l0 = _ := upd_same
    generalize upd H l0 (.lst ((Txt.split y " ").map V.str)) = H0 at q0 h0 ⊢
    have hcnt : (Txt.split y " ").length ≤ y.cps.size + 1 := split_cnt (c := 32) y
    have hmem : ∀ q ∈ Txt.split y " ", q.cps.all (· < 128) = true ∧ q.cps.size ≤ 400000 := fun q hq => ⟨split_asc (c := 32) ha hq, Nat.le_trans (split_mem (c := 32) hq).2 hz⟩
    have hne := split_ne y " "
    revert k h0 hcnt hmem hne
    generalize Txt.split y " " = ws
    intro k h0 hcnt hmem hne
    cases ws with
    | nil => exact absurd rfl hne
    | cons u r =>
    have hrl : r.length ≤ 400001 := by rw [List.length_cons] at hcnt; omega
    have hrm : ∀ x ∈ r, x.cps.all (· < 128) = true ∧ x.cps.size ≤ 400000 := fun x hx => hmem x (List.mem_cons_of_mem _ hx)
    have rfl_len : (rf u r).length ≤ 400001 := by
      unfold rf
      split
      · rw [List.length_drop]; omega
      · exact hrl
    have rfm : ∀ x ∈ rf u r, x.cps.all (· < 128) = true ∧ x.cps.size ≤ 400000 := fun x hx => hrm x (by
      unfold rf at hx
      split at hx
      · exact List.mem_of_mem_drop hx
      · exact hx)
    refine ⟨_, rfl, l0, _, 0, _, rfl, rfl, SqL.of h0, at0 _ _, ?_⟩
    refine ⟨_, rfl, 1, rfl, l0, _, rfl, SqL.of h0, fun l1 n1 => ?_⟩
    rw [cutV_from1, List.map_cons, List.drop_succ_cons, List.drop_zero]
    have q1 := q0.trans (same_new (o := .lst (r.map V.str)) n1)
    have h1 : upd H0 l1 (.lst (r.map V.str)) l1 = _ := upd_same
    generalize upd H0 l1 (.lst (r.map V.str)) = H1 at q1 h1 ⊢
    refine ⟨fun σ G => ∃ lw, σ = [some (.str y), some (.ref lw), some (.str u)] ∧ Same H G ∧ G lw = some (.lst ((rf u r).map V.str)), ?_, ?_⟩
    · refine ⟨_, rfl, (by show 5 ≤ sizeLine; decide), fun t0 m0 => ⟨t0, far5.map V.str, rfl, .inr (SqT.of upd_same), rfl, rfl, _, rfl, ?_⟩⟩
      have q2 := q1.trans (same_new (o := .tup [V.str "jump", V.str "zero", V.str "below", V.str "call", V.str "mark"]) m0)
      have h2 := same_new (o := .tup [V.str "jump", V.str "zero", V.str "below", V.str "call", V.str "mark"]) m0 _ _ h1
      rw [show inV (.str u) (far5.map V.str) = decide (u ∈ far5) from inV_str _ _, ← farK_far5]
      generalize upd H1 t0 (.tup [V.str "jump", V.str "zero", V.str "below", V.str "call", V.str "mark"]) = H2 at q2 h2 ⊢
      by_cases hf : farK u = true
      · refine iteP hf ?_
        refine ⟨_, rfl, 1, rfl, l1, _, rfl, SqL.of h2, fun l3 n3 => ?_⟩
        rw [cutV_to1, ← List.map_take]
        refine ⟨Nat.le_of_ble_eq_true rfl, fun l4 n4 => ?_⟩
        have q4 := (same_new (o := .lst ((r.take 1).map V.str)) n3).trans (same_new (o := .lst [V.str "far"]) n4)
        refine ⟨1, l3, l4, _, _, rfl, rfl, .lst (SqL.of (same_new n4 _ _ upd_same)) (by simp) (strs_da K _ (r.take 1)), .lst (xs := (["far"] : List Str).map V.str) (ds := (["far"] : List Str).map Da.str) (SqL.of upd_same) (by simp) (strs_da K _ ["far"]), strs_nb _, strs_nb _, by decide, _, rfl, ?_⟩
        have ed : (false ^^ decide (Da.lst ((r.take 1).map Da.str) = Da.lst ((["far"] : List Str).map Da.str))) = decide (r.take 1 = (["far"] : List Str)) := by
          rw [Bool.false_xor]
          exact decide_eq_decide.mpr ⟨fun z => strs_inj (Da.lst.inj z), fun z => by rw [z]⟩
        rw [ed]
        by_cases hw : r.take 1 = (["far"] : List Str)
        · refine iteP (decide_eq_true hw) ?_
          refine ⟨_, rfl, 1, rfl, l1, _, rfl, SqL.of (q4 _ _ h2), fun l5 n5 => ?_⟩
          rw [cutV_from1]
          refine ⟨l5, rfl, (q2.trans q4).trans (same_new n5), ?_⟩
          rw [upd_same, show rf u r = r.drop 1 from if_pos (by unfold farB; rw [hf, decide_eq_true hw]; rfl), List.map_drop]
        · refine iteN (fun z => hw (of_decide_eq_true z)) ?_
          refine ⟨l1, rfl, q2.trans q4, ?_⟩
          rw [show rf u r = r from if_neg (by unfold farB; rw [decide_eq_false hw, Bool.and_false]; decide)]
          exact q4 _ _ h2
      · refine iteN hf ?_
        refine ⟨l1, rfl, q2, ?_⟩
        rw [rf_plain (Bool.eq_false_iff.mpr hf)]
        exact h2
    rintro σ G0 ⟨lw, rfl, s0, w0⟩
    refine ⟨_, rfl, (by show 2 ≤ sizeLine; decide), fun t1 m1 => ⟨t1, (["stop", "back"] : List Str).map V.str, rfl, .inr (SqT.of upd_same), rfl, rfl, _, rfl, ?_⟩⟩
    have s1 := s0.trans (same_new (o := .tup [V.str "stop", V.str "back"]) m1)
    have w1 := same_new (o := .tup [V.str "stop", V.str "back"]) m1 _ _ w0
    rw [show inV (.str u) ((["stop", "back"] : List Str).map V.str) = decide (u ∈ (["stop", "back"] : List Str)) from inV_str _ _]
    generalize upd G0 t1 (.tup [V.str "stop", V.str "back"]) = G1 at s1 w1 ⊢
    refine ite2 (fun e => ?_) (fun e1 => ?_)
    · have e := of_decide_eq_true e
      have hu := (by decide : ∀ u ∈ (["stop", "back"] : List Str), (¬ u = "table" ∧ farK u = false) ∧ ((u, ([] : List Str)) : Str × List Str) ∈ kinds) u e
      have er : rf u r = r := rf_plain hu.1.2
      rw [er] at w1
      refine ⟨_, rfl, Nat.le_of_ble_eq_true rfl, fun le ne => ?_⟩
      have s9 := same_new (o := .lst []) ne
      refine ⟨1, lw, le, _, _, rfl, rfl, .lst (SqL.of (s9 _ _ w1)) (by simp) (strs_da K _ r), .lst (SqL.of upd_same) (ds := []) rfl (fun i x d h => by simp at h), strs_nb _, .lst (fun z hz => by cases hz), by decide, ?_⟩
      have kk := k _ (s1.trans s9)
      rw [shows_plain (form := []) hu.2 hu.1 alike_nil] at kk
      have e2 : (false ^^ decide (Da.lst (r.map Da.str) = Da.lst [])) = fitsB r [] := by
        rw [Bool.false_xor]
        cases r with
        | nil => decide
        | cons x t =>
          rw [decide_eq_false (fun z => by cases Da.lst.inj z)]
          unfold fitsB
          simp
      rw [← e2] at kk
      exact kk
    have e1 : ¬ u ∈ (["stop", "back"] : List Str) := fun z => e1 (decide_eq_true z)
    refine ⟨_, rfl, (by show 2 ≤ sizeLine; decide), fun t2 m2 => ⟨t2, (["set", "more"] : List Str).map V.str, rfl, .inr (SqT.of upd_same), rfl, rfl, _, rfl, ?_⟩⟩
    have s2 := s1.trans (same_new (o := .tup [V.str "set", V.str "more"]) m2)
    have w2 := same_new (o := .tup [V.str "set", V.str "more"]) m2 _ _ w1
    rw [show inV (.str u) ((["set", "more"] : List Str).map V.str) = decide (u ∈ (["set", "more"] : List Str)) from inV_str _ _]
    generalize upd G1 t2 (.tup [V.str "set", V.str "more"]) = G2 at s2 w2 ⊢
    refine ite2 (fun e => ?_) (fun e2 => ?_)
    · have e := of_decide_eq_true e
      have hu := (by decide : ∀ u ∈ (["set", "more"] : List Str), (¬ u = "table" ∧ farK u = false) ∧ ((u, (["box", "value"] : List Str)) : Str × List Str) ∈ kinds) u e
      have er : rf u r = r := rf_plain hu.1.2
      rw [er] at w2
      have ef : ("bv" : Str).cps.toList = [98, 118] := by decide
      refine ⟨_, rfl, lw, r, "bv", rfl, w2, hrl, hrm, by decide +kernel, by decide +kernel, fun H' s' => ?_⟩
      have kk := k _ (s2.trans s')
      rw [shows_plain (form := [98, 118]) hu.2 hu.1 (alike_cons (k := "box") (c := 98) (by decide) (by decide +kernel) (alike_cons (k := "value") (c := 118) (by decide) (by decide +kernel) alike_nil)), ← ef] at kk
      exact kk
    have e2 : ¬ u ∈ (["set", "more"] : List Str) := fun z => e2 (decide_eq_true z)
    refine ⟨_, rfl, (by show 5 ≤ sizeLine; decide), fun t3 m3 => ⟨t3, (["copy", "add", "less", "load", "keep"] : List Str).map V.str, rfl, .inr (SqT.of upd_same), rfl, rfl, _, rfl, ?_⟩⟩
    have s3 := s2.trans (same_new (o := .tup [V.str "copy", V.str "add", V.str "less", V.str "load", V.str "keep"]) m3)
    have w3 := same_new (o := .tup [V.str "copy", V.str "add", V.str "less", V.str "load", V.str "keep"]) m3 _ _ w2
    rw [show inV (.str u) ((["copy", "add", "less", "load", "keep"] : List Str).map V.str) = decide (u ∈ (["copy", "add", "less", "load", "keep"] : List Str)) from inV_str _ _]
    generalize upd G2 t3 (.tup [V.str "copy", V.str "add", V.str "less", V.str "load", V.str "keep"]) = G3 at s3 w3 ⊢
    refine ite2 (fun e => ?_) (fun e3 => ?_)
    · have e := of_decide_eq_true e
      have hu := (by decide : ∀ u ∈ (["copy", "add", "less", "load", "keep"] : List Str), (¬ u = "table" ∧ farK u = false) ∧ ((u, (["box", "box"] : List Str)) : Str × List Str) ∈ kinds) u e
      have er : rf u r = r := rf_plain hu.1.2
      rw [er] at w3
      have ef : ("bb" : Str).cps.toList = [98, 98] := by decide
      refine ⟨_, rfl, lw, r, "bb", rfl, w3, hrl, hrm, by decide +kernel, by decide +kernel, fun H' s' => ?_⟩
      have kk := k _ (s3.trans s')
      rw [shows_plain (form := [98, 98]) hu.2 hu.1 (alike_cons (k := "box") (c := 98) (by decide) (by decide +kernel) (alike_cons (k := "box") (c := 98) (by decide) (by decide +kernel) alike_nil)), ← ef] at kk
      exact kk
    have e3 : ¬ u ∈ (["copy", "add", "less", "load", "keep"] : List Str) := fun z => e3 (decide_eq_true z)
    refine ⟨_, rfl, (by show 3 ≤ sizeLine; decide), fun t4 m4 => ⟨t4, (["see", "put", "take"] : List Str).map V.str, rfl, .inr (SqT.of upd_same), rfl, rfl, _, rfl, ?_⟩⟩
    have s4 := s3.trans (same_new (o := .tup [V.str "see", V.str "put", V.str "take"]) m4)
    have w4 := same_new (o := .tup [V.str "see", V.str "put", V.str "take"]) m4 _ _ w3
    rw [show inV (.str u) ((["see", "put", "take"] : List Str).map V.str) = decide (u ∈ (["see", "put", "take"] : List Str)) from inV_str _ _]
    generalize upd G3 t4 (.tup [V.str "see", V.str "put", V.str "take"]) = G4 at s4 w4 ⊢
    refine ite2 (fun e => ?_) (fun e4 => ?_)
    · have e := of_decide_eq_true e
      have hs : (readR (u :: r)).isSome = fitsB r [98, 110] := by
        rcases (show u = "see" ∨ u = "put" ∨ u = "take" by simpa using e) with rfl | rfl | rfl
        · exact shows_plain (ks := ["box", "number"]) (by decide) (by decide) (alike_cons (k := "box") (c := 98) (by decide) (by decide +kernel) (alike_cons (k := "number") (c := 110) (by decide) (by decide +kernel) alike_nil))
        · exact shows_plain (ks := ["box", "aside"]) (by decide) (by decide) (alike_cons (k := "box") (c := 98) (by decide) (by decide +kernel) (alike_cons (k := "aside") (c := 110) (by decide) (by decide +kernel) alike_nil))
        · exact shows_plain (ks := ["box", "aside"]) (by decide) (by decide) (alike_cons (k := "box") (c := 98) (by decide) (by decide +kernel) (alike_cons (k := "aside") (c := 110) (by decide) (by decide +kernel) alike_nil))
      have er : rf u r = r := rf_plain ((by decide : ∀ u ∈ (["see", "put", "take"] : List Str), farK u = false) u e)
      rw [er] at w4
      have ef : ("bn" : Str).cps.toList = [98, 110] := by decide
      refine ⟨_, rfl, lw, r, "bn", rfl, w4, hrl, hrm, by decide +kernel, by decide +kernel, fun H' s' => ?_⟩
      have kk := k _ (s4.trans s')
      rw [hs, ← ef] at kk
      exact kk
    have e4 : ¬ u ∈ (["see", "put", "take"] : List Str) := fun z => e4 (decide_eq_true z)
    refine ⟨_, rfl, (by show 2 ≤ sizeLine; decide), fun t5 m5 => ⟨t5, (["halt", "tell"] : List Str).map V.str, rfl, .inr (SqT.of upd_same), rfl, rfl, _, rfl, ?_⟩⟩
    have s5 := s4.trans (same_new (o := .tup [V.str "halt", V.str "tell"]) m5)
    have w5 := same_new (o := .tup [V.str "halt", V.str "tell"]) m5 _ _ w4
    rw [show inV (.str u) ((["halt", "tell"] : List Str).map V.str) = decide (u ∈ (["halt", "tell"] : List Str)) from inV_str _ _]
    generalize upd G4 t5 (.tup [V.str "halt", V.str "tell"]) = G5 at s5 w5 ⊢
    refine ite2 (fun e => ?_) (fun e5 => ?_)
    · have e := of_decide_eq_true e
      have er : rf u r = r := rf_plain ((by decide : ∀ u ∈ (["halt", "tell"] : List Str), farK u = false) u e)
      rw [er] at w5
      refine ⟨_, rfl, (by show 2 ≤ sizeLine; decide), fun l9 n9 => ?_⟩
      have s9 := same_new (o := .lst [V.str "n", V.str "b"]) n9
      have w9 := s9 _ _ w5
      have h9 : upd G5 l9 (.lst [V.str "n", V.str "b"]) l9 = _ := upd_same
      refine ⟨_, rfl, rfl, .inr ⟨_, rfl, ?_⟩⟩
      rcases (show u = "halt" ∨ u = "tell" by simpa using e) with rfl | rfl
      · refine ⟨l9, _, _, .str "n", rfl, rfl, SqL.of h9, at0 _ _, ?_⟩
        have ef : ("n" : Str).cps.toList = [110] := by decide
        refine ⟨lw, r, "n", rfl, w9, hrl, hrm, by decide +kernel, by decide +kernel, fun H' s' => ?_⟩
        have kk := k _ (s5.trans (s9.trans s'))
        rw [shows_plain (ks := ["number"]) (form := [110]) (by decide) (by decide) (alike_cons (k := "number") (c := 110) (by decide) (by decide +kernel) alike_nil), ← ef] at kk
        exact kk
      · refine ⟨l9, _, _, .str "b", rfl, rfl, SqL.of h9, at1 _ _ _, ?_⟩
        have ef : ("b" : Str).cps.toList = [98] := by decide
        refine ⟨lw, r, "b", rfl, w9, hrl, hrm, by decide +kernel, by decide +kernel, fun H' s' => ?_⟩
        have kk := k _ (s5.trans (s9.trans s'))
        rw [shows_plain (ks := ["box"]) (form := [98]) (by decide) (by decide) (alike_cons (k := "box") (c := 98) (by decide) (by decide +kernel) alike_nil), ← ef] at kk
        exact kk
    have e5 : ¬ u ∈ (["halt", "tell"] : List Str) := fun z => e5 (decide_eq_true z)
    refine ⟨_, rfl, (by show 3 ≤ sizeLine; decide), fun t6 m6 => ⟨t6, (["jump", "call", "mark"] : List Str).map V.str, rfl, .inr (SqT.of upd_same), rfl, rfl, _, rfl, ?_⟩⟩
    have s6 := s5.trans (same_new (o := .tup [V.str "jump", V.str "call", V.str "mark"]) m6)
    have w6 := same_new (o := .tup [V.str "jump", V.str "call", V.str "mark"]) m6 _ _ w5
    rw [show inV (.str u) ((["jump", "call", "mark"] : List Str).map V.str) = decide (u ∈ (["jump", "call", "mark"] : List Str)) from inV_str _ _]
    generalize upd G5 t6 (.tup [V.str "jump", V.str "call", V.str "mark"]) = G6 at s6 w6 ⊢
    refine ite2 (fun e => ?_) (fun e6 => ?_)
    · have e := of_decide_eq_true e
      have hu := (by decide : ∀ u ∈ (["jump", "call", "mark"] : List Str), (¬ u = "table" ∧ farK u = true) ∧ ((u, ((["target"] : List Str) ++ [("far" : Str)])) : Str × List Str) ∈ kinds) u e
      have ef : ("t" : Str).cps.toList = [116] := by decide
      refine ⟨_, rfl, lw, rf u r, "t", rfl, w6, rfl_len, rfm, by decide +kernel, by decide +kernel, fun H' s' => ?_⟩
      have kk := k _ (s6.trans s')
      rw [shows_far (form := [116]) hu.2 hu.1 (alike_cons (k := "target") (c := 116) (by decide) (by decide +kernel) alike_nil), ← ef] at kk
      exact kk
    have e6 : ¬ u ∈ (["jump", "call", "mark"] : List Str) := fun z => e6 (decide_eq_true z)
    refine ⟨_, rfl, (by show 2 ≤ sizeLine; decide), fun t7 m7 => ⟨t7, (["zero", "below"] : List Str).map V.str, rfl, .inr (SqT.of upd_same), rfl, rfl, _, rfl, ?_⟩⟩
    have s7 := s6.trans (same_new (o := .tup [V.str "zero", V.str "below"]) m7)
    have w7 := same_new (o := .tup [V.str "zero", V.str "below"]) m7 _ _ w6
    rw [show inV (.str u) ((["zero", "below"] : List Str).map V.str) = decide (u ∈ (["zero", "below"] : List Str)) from inV_str _ _]
    generalize upd G6 t7 (.tup [V.str "zero", V.str "below"]) = G7 at s7 w7 ⊢
    refine ite2 (fun e => ?_) (fun e7 => ?_)
    · have e := of_decide_eq_true e
      have hu := (by decide : ∀ u ∈ (["zero", "below"] : List Str), (¬ u = "table" ∧ farK u = true) ∧ ((u, ((["box", "target"] : List Str) ++ [("far" : Str)])) : Str × List Str) ∈ kinds) u e
      have ef : ("bt" : Str).cps.toList = [98, 116] := by decide
      refine ⟨_, rfl, lw, rf u r, "bt", rfl, w7, rfl_len, rfm, by decide +kernel, by decide +kernel, fun H' s' => ?_⟩
      have kk := k _ (s7.trans s')
      rw [shows_far (form := [98, 116]) hu.2 hu.1 (alike_cons (k := "box") (c := 98) (by decide) (by decide +kernel) (alike_cons (k := "target") (c := 116) (by decide) (by decide +kernel) alike_nil)), ← ef] at kk
      exact kk
    have e7 : ¬ u ∈ (["zero", "below"] : List Str) := fun z => e7 (decide_eq_true z)
    -- a table, or none
    have hkn : ¬ u = "table" → (readR (u :: r)).isSome = false := fun ht => by
      cases hk : kinds.lookup u with
      | none => exact shows_none hk
      | some ks =>
        exfalso
        have := (by decide +kernel : ∀ y ∈ kinds, y.1 = "table" ∨ y.1 ∈ (["stop", "back"] : List Str) ∨ y.1 ∈ (["set", "more"] : List Str) ∨ y.1 ∈ (["copy", "add", "less", "load", "keep"] : List Str) ∨ y.1 ∈ (["see", "put", "take"] : List Str) ∨ y.1 ∈ (["halt", "tell"] : List Str) ∨ y.1 ∈ (["jump", "call", "mark"] : List Str) ∨ y.1 ∈ (["zero", "below"] : List Str)) _ (lk_mem hk)
        rcases this with z | z | z | z | z | z | z | z
        · exact ht z
        · exact e1 z
        · exact e2 z
        · exact e3 z
        · exact e4 z
        · exact e5 z
        · exact e6 z
        · exact e7 z
    refine ⟨_, rfl, rfl, _, rfl, ?_⟩
    by_cases ht : u = "table"
    · refine iteP (decide_eq_true (by rw [ht])) ?_
      subst ht
      have er : rf "table" r = r := rf_plain (by decide)
      rw [er] at w7
      refine ⟨_, rfl, lw, _, rfl, .inl (SqL.of w7), ?_⟩
      rw [List.length_map]
      refine ⟨_, _, rfl, rfl, _, rfl, ?_⟩
      rw [shows_table] at k
      by_cases h2 : (2 : Int) ≤ (r.length : Int)
      · refine iteP (decide_eq_true h2) ?_
        refine ⟨_, _, rfl, rfl, _, rfl, ?_⟩
        by_cases h17 : (r.length : Int) ≤ 17
        · refine iteP (decide_eq_true h17) ?_
          refine ⟨_, rfl, _, rfl, lw, _, rfl, .inl (SqL.of w7), _, _, rfl, rfl, ?_⟩
          rw [List.length_map]
          have en : (r.length : Int) - 1 = ((r.length - 1 : Nat) : Int) := by omega
          have ef : (("b" : Str) ++ Txt.mul "t" ((r.length : Int) - 1)).cps.toList = 98 :: List.replicate (r.length - 1) 116 := by
            show (("b" : Str).cps ++ (Txt.mul "t" ((r.length : Int) - 1)).cps).toList = _
            rw [Array.toList_append, en, show (Txt.mul "t" ((r.length - 1 : Nat) : Int)).cps.toList = List.replicate (r.length - 1) 116 from mul_one 116 _ (by omega)]
            rfl
          have el : (Txt.mul "t" ((r.length : Int) - 1)).length ≤ 17 := by
            rw [en]
            have := congrArg List.length (show (Txt.mul "t" ((r.length - 1 : Nat) : Int)).cps.toList = List.replicate (r.length - 1) 116 from mul_one 116 _ (by omega))
            rw [List.length_replicate] at this
            have e3 : (Txt.mul "t" ((r.length - 1 : Nat) : Int)).length = r.length - 1 := by simpa [Str.length] using this
            omega
          refine ⟨_, _, rfl, rfl, mul_ok (by omega) (by omega) (by decide), _, _, rfl, rfl, Nat.le_trans (Nat.add_le_add (show ("b" : Str).length ≤ 1 by decide) el) (by decide), ?_⟩
          refine ⟨lw, r, _, rfl, w7, hrl, hrm, ?_, ?_, fun H' s' => ?_⟩
          · rw [Array.all_eq_true_iff_forall_mem]
            intro d hd
            have hd := Array.mem_def.mp hd
            rw [ef] at hd
            apply decide_eq_true
            rcases List.mem_cons.mp hd with rfl | hd
            · decide
            · rw [List.eq_of_mem_replicate hd]; decide
          · have := congrArg List.length ef
            simp at this
            omega
          · have kk := k _ (s7.trans s')
            rw [decide_eq_true (show 2 ≤ r.length ∧ r.length ≤ 17 by omega), Bool.true_and, ← ef] at kk
            exact kk
        · refine iteN (fun z => h17 (of_decide_eq_true z)) ?_
          have kk := k _ s7
          rw [decide_eq_false (show ¬ (2 ≤ r.length ∧ r.length ≤ 17) by omega), Bool.false_and] at kk
          exact kk
      · refine iteN (fun z => h2 (of_decide_eq_true z)) ?_
        refine ⟨_, rfl, iteN (by decide) ?_⟩
        have kk := k _ s7
        rw [decide_eq_false (show ¬ (2 ≤ r.length ∧ r.length ≤ 17) by omega), Bool.false_and] at kk
        exact kk
    · refine iteN (fun z => ht (V.str.inj (of_decide_eq_true z))) ?_
      have kk := k _ s7
      rw [hkn ht] at kk
      exact kk
end
end My


set_option Elab.async false
set_option linter.all false
set_option maxRecDepth 100000
set_option maxHeartbeats 4000000
namespace My
open PySem L2
section
variable {P : Program} {w : World} {K : PySem.W.Frag} {mg : Str → Option Value} {base : Heap}
/-! ### a cell of the script: some int -/
def spCell : Sp := fun vs H Q _ => ∃ (a : Addr) (ns : List Int) (k : Int), vs = [.ref a, .int k] ∧ SqL K H a (ns.map V.int) ∧ 0 ≤ k ∧ ∀ c : Int, Q (.int c) H
theorem scCell : FnScope ["_law_script", "_law_k"] ["_law_script", "_law_k"] (defScope sCell) := ⟨rfl, rfl, rfl, by decide +kernel, rfl, by decide +kernel, by decide +kernel⟩
theorem ok_cell {f : Addr} {fd : FuncData} (F : Fun K "_law_cell_at" "_law_cell_at" sCell f fd) (T : Txt K w.params mg) : FnOk P w K mg base CX0 1 f fd ["_law_script", "_law_k"] (spCell (K := K)) := by
  refine F.ok scCell (fun vs H Q E h => ?_) (fun cdv A outer s H vs Q E hr h => ?_)
  · obtain ⟨a, ns, k, rfl, _⟩ := h
    rfl
  · obtain ⟨a, ns, k, rfl, hS, hk, q⟩ := h
    refine ⟨_, pss_cons (ps_if (pt_cmpR op_lt (pv 1) (pe_callB call_len_seq (by rfl) T.len bt_len (pa_cons (pv 0) pa_nil)) (nomark _)) (pss_one (ps_ret (pe_ix ix_list (pv 0) (pv 1) (fun _ _ => rfl)))) pss_nil)
      (pss_one (ps_ret pe_int)), ?_⟩
    refine ⟨_, rfl, _, rfl, a, _, rfl, .inl hS, _, _, rfl, rfl, _, rfl, ?_⟩
    refine ite2 (fun h1 => ?_) (fun h1 => ?_)
    · have h1 := of_decide_eq_true h1
      rw [List.length_map] at h1
      obtain ⟨j, rfl⟩ := Int.eq_ofNat_of_zero_le hk
      have hj : j < ns.length := by omega
      refine ⟨_, rfl, _, rfl, a, _, _, .int ns[j], rfl, rfl, hS, atI_nat (j := j) ?_, q _⟩
      rw [List.getElem?_map, List.getElem?_eq_getElem hj]
      rfl
    · exact q 0

/-! ### a digit -/
def spDigit : Sp := fun vs H Q _ => ∃ (a : Addr) (b : Int), vs = [.ref a, .int b] ∧ St3 H a ∧ 0 < b ∧ b < 18446744073709551616 ∧ ∀ (d : Int) (H' : Hp), 0 ≤ d → d < b → St3 H' a → SameX a H H' → Q (.int d) H'
theorem scDigit : FnScope ["_law_state", "_law_base", "_law_found", "_law_number"] ["_law_state", "_law_base"] (defScope sDigit) := ⟨rfl, rfl, rfl, by decide +kernel, rfl, by decide +kernel, by decide +kernel⟩
theorem ok_digit {f : Addr} {fd : FuncData} (F : Fun K "_law_digit" "_law_digit" sDigit f fd) (T : Txt K w.params mg) : FnOk P w K mg base CX0 1 f fd ["_law_state", "_law_base"] spDigit := by
  refine F.ok scDigit (fun vs H Q E h => ?_) (fun cdv A outer s H vs Q E hr h => ?_)
  · obtain ⟨a, b, rfl, _⟩ := h
    rfl
  · obtain ⟨a, b, rfl, ⟨x, y, z, hS⟩, hb, hb2, k⟩ := h
    refine ⟨_, pss_cons (ps_if (pt_cmpR op_gt (pe_ix ix_list (pv 0) pe_int (fun _ _ => rfl)) pe_int (nomark _))
        (pss_cons (ps_set (i := 2) scDigit.nd rfl (Or.inl rfl) (pe_op op_mod (pe_ix ix_list (pv 0) pe_int (fun _ _ => rfl)) (pv 1)))
        (pss_cons (ps_asg (pe_op op_fdivB (pe_ix ix_list (pv 0) pe_int (fun _ _ => rfl)) (pv 1)) (pg_sub (pv 0) pe_int set_list))
        (pss_one (ps_ret (pv 2))))) pss_nil)
      (pss_cons (ps_asg (pe_op op_add (pe_ix ix_list (pv 0) pe_int (fun _ _ => rfl)) pe_int) (pg_sub (pv 0) pe_int set_list))
      (pss_cons (ps_set (i := 3) scDigit.nd rfl (Or.inl rfl) (pe_op op_mod (pe_op op_mul (pe_op op_add (pe_op op_add (pe_ix ix_list (pv 0) pe_int (fun _ _ => rfl)) (pe_op op_mul pe_int (pe_ix ix_list (pv 0) pe_int (fun _ _ => rfl)))) pe_int) pe_int) pe_int))
      (pss_cons (ps_set (i := 3) scDigit.nd rfl (Or.inl rfl) (pe_op op_mod (pe_op op_mul (pv 3) (pe_op op_add (pe_op op_fdivB (pv 3) pe_int) pe_int)) pe_int))
      (pss_one (ps_ret (pe_op op_mod (pe_op op_mod (pe_op op_mul (pv 3) (pe_op op_add (pe_op op_fdivB (pv 3) pe_int) pe_int)) pe_int) (pv 1))))))), ?_⟩
    refine ⟨_, rfl, a, _, _, .int x, rfl, rfl, SqL.of hS, at0 _ _, _, _, rfl, rfl, _, rfl, ?_⟩
    refine ite2 (fun e => ?_) (fun _ => ?_)
    · refine ⟨_, rfl, a, _, _, .int x, rfl, rfl, SqL.of hS, at0 _ _, _, rfl, _, _, rfl, rfl, hb, ?_⟩
      refine ⟨_, rfl, a, _, _, .int x, rfl, rfl, SqL.of hS, at0 _ _, _, rfl, _, _, rfl, rfl, ⟨hb, hb2⟩, ?_⟩
      refine ⟨_, rfl, a, _, _, 0, rfl, rfl, hS, rfl, _, rfl, ?_⟩
      exact k _ _ (Int.emod_nonneg _ (by omega)) (Int.emod_lt_of_pos _ hb) ⟨_, _, _, upd_same⟩ SameX.put
    · refine ⟨_, rfl, a, _, _, .int z, rfl, rfl, SqL.of hS, at2 _ _ _ _, _, _, rfl, rfl, ?_⟩
      refine ⟨_, rfl, a, _, _, 2, rfl, rfl, hS, rfl, ?_⟩
      refine ⟨_, rfl, a, _, _, .int y, rfl, rfl, SqL.of upd_same, at1 _ _ _, _, rfl, a, _, _, .int (z + 1), rfl, rfl, SqL.of upd_same, at2 _ _ _ _, _, _, rfl, rfl, .inl ⟨by decide, by decide⟩, _, _, rfl, rfl, _, _, rfl, rfl, _, _, rfl, rfl, .inr ⟨by decide, by decide⟩, _, _, rfl, rfl, (by show (0 : Int) < 2147483647; decide), ?_⟩
      generalize hn : (y + 7919 * (z + 1) + 1) * 48271 % 2147483647 = n1
      have p1 : 0 ≤ n1 ∧ n1 < 2147483647 := by
        rw [← hn]
        exact ⟨Int.emod_nonneg _ (by decide), Int.emod_lt_of_pos _ (by decide)⟩
      refine ⟨_, rfl, _, rfl, _, _, rfl, rfl, ⟨by show (0 : Int) < 1009; decide, by show (1009 : Int) < _; decide⟩, _, _, rfl, rfl, _, _, rfl, rfl, .inl ⟨by omega, by omega⟩, _, _, rfl, rfl, (by show (0 : Int) < 2147483647; decide), ?_⟩
      generalize hn2 : n1 * (n1 / 1009 + 69621) % 2147483647 = n2
      have p2 : 0 ≤ n2 ∧ n2 < 2147483647 := by
        rw [← hn2]
        exact ⟨Int.emod_nonneg _ (by decide), Int.emod_lt_of_pos _ (by decide)⟩
      refine ⟨_, rfl, _, rfl, _, _, rfl, rfl, ⟨by show (0 : Int) < 2003; decide, by show (2003 : Int) < _; decide⟩, _, _, rfl, rfl, _, _, rfl, rfl, .inl ⟨by omega, by omega⟩, _, _, rfl, rfl, (by show (0 : Int) < 2147483399; decide), _, rfl, _, _, rfl, rfl, hb, ?_⟩
      exact k _ _ (Int.emod_nonneg _ (by omega)) (Int.emod_lt_of_pos _ hb) ⟨_, _, _, upd_same⟩ SameX.put
end
end My


set_option Elab.async false
set_option linter.all false
set_option maxRecDepth 100000
set_option maxHeartbeats 4000000
namespace My
open PySem L2
/-- a text of ASCII signs, at most n of them -/
def Asc (n : Nat) (x : Str) : Prop := x.cps.all (· < 128) = true ∧ x.cps.size ≤ n
instance {n : Nat} {x : Str} : Decidable (Asc n x) := by unfold Asc; infer_instance
theorem asc_cat {n k : Nat} {x y : Str} (h : Asc n x) (g : Asc k y) : Asc (n + k) (x ++ y) := by
  refine ⟨?_, ?_⟩
  · show (x.cps ++ y.cps).all (· < 128) = true
    rw [Array.all_append, h.1, g.1]
    rfl
  · show (x.cps ++ y.cps).size ≤ n + k
    rw [Array.size_append]
    exact Nat.add_le_add h.2 g.2
theorem asc_le {n k : Nat} {x : Str} (h : Asc n x) (l : n ≤ k) : Asc k x := ⟨h.1, Nat.le_trans h.2 l⟩
theorem asc_slice {n : Nat} {x : Str} {l u : Option Int} (h : Asc n x) : Asc n (Txt.slice x l u) := ⟨slice_asc h.1, Nat.le_trans (Txt.slice_le x l u) h.2⟩
theorem asc_line {n : Nat} {x : Str} (h : Asc n x) (l : n ≤ 1000000) : x.length ≤ sizeLine := small_len (show x.cps.size ≤ 1000000 from Nat.le_trans h.2 l)
theorem asc_sz {n k : Nat} {x y : Str} (h : Asc n x) (g : Asc k y) (l : n + k ≤ 1000000) : x.length + y.length ≤ sizeLine := by
  have a := asc_line (asc_cat h g) l
  have e : (x ++ y).length = x.length + y.length := by
    show (x.cps ++ y.cps).size = _
    rw [Array.size_append]
    rfl
  rw [← e]
  exact a
section
variable {P : Program} {w : World} {K : PySem.W.Frag} {mg : Str → Option Value} {base : Heap}
/-! ### _law_bent -/
def spBent : Sp := fun vs H Q _ => ∃ (x : Str) (c : Int) (n : Nat), vs = [.str x, .int c] ∧ Asc n x ∧ n ≤ 100000 ∧ ∀ y : Str, Asc (4 * n + 1) y → Q (.str y) H
theorem scBent : FnScope ["_law_text", "_law_cell", "_law_some", "_law_at", "_law_sign", "_law_turned"] ["_law_text", "_law_cell"] (defScope sBent) := ⟨rfl, rfl, rfl, by decide +kernel, rfl, by decide +kernel, by decide +kernel⟩
theorem at_sign (d : Int) (h0 : 0 ≤ d) (h1 : d < 23) : ∃ c : Nat, atI ("0123789 -+far.,_belokt\n" : Str).cps.toList d = some c ∧ c < 128 := by
  have : ∀ k : Fin 23, ∃ c : Nat, atI ("0123789 -+far.,_belokt\n" : Str).cps.toList ((k.val : Nat) : Int) = some c ∧ c < 128 := by decide +kernel
  obtain ⟨j, rfl⟩ := Int.eq_ofNat_of_zero_le h0
  exact this ⟨j, by omega⟩
theorem ok_bent {f : Addr} {fd : FuncData} (F : Fun K "_law_bent" "_law_bent" sBent f fd) (T : Txt K w.params mg) : FnOk P w K mg base CX0 1 f fd ["_law_text", "_law_cell"] spBent := by
  refine F.ok scBent (fun vs H Q E h => ?_) (fun cdv A outer s H vs Q E hr h => ?_)
  · obtain ⟨x, c, n, rfl, _⟩ := h
    rfl
  · obtain ⟨x, c, n, rfl, hx, hn, k⟩ := h
    refine ⟨_, (pss_cons (ps_set (i := 2) scBent.nd rfl (Or.inl rfl) pe_str)
      (pss_cons (ps_set (i := 3) scBent.nd rfl (Or.inl rfl) (pe_op op_mod (pe_op op_fdivB (pv 1) pe_int) (pe_callB (call_max2 rfl) (by rfl) T.max bt_max (pa_cons pe_int (pa_cons (pe_callB call_len_str (by rfl) T.len bt_len (pa_cons (pv 0) pa_nil)) pa_nil)))))
      (pss_cons (ps_set (i := 4) scBent.nd rfl (Or.inl rfl) (pe_ix ix_str (pv 2) (pe_op op_mod (pe_op op_fdivB (pv 1) pe_int) pe_int) (fun _ _ => rfl)))
      (pss_cons (ps_if (pt_cmpR op_eq (pe_op op_mod (pv 1) pe_int) pe_int (nomark _)) (pss_one (ps_ret (pe_op op_add_str (pe_op op_add_str (pe_slice sl_str (pv 0) po_none (po_some (pv 3))) (pv 4)) (pe_slice sl_str (pv 0) (po_some (pv 3)) po_none)))) pss_nil)
      (pss_cons (ps_if (pt_cmpR op_eq (pe_op op_mod (pv 1) pe_int) pe_int (nomark _)) (pss_one (ps_ret (pe_op op_add_str (pe_op op_add_str (pe_slice sl_str (pv 0) po_none (po_some (pv 3))) (pv 4)) (pe_slice sl_str (pv 0) (po_some (pe_op op_add (pv 3) pe_int)) po_none)))) pss_nil)
      (pss_cons (ps_if (pt_cmpR op_eq (pe_op op_mod (pv 1) pe_int) pe_int (nomark _)) (pss_one (ps_ret (pe_op op_add_str (pe_slice sl_str (pv 0) po_none (po_some (pv 3))) (pe_slice sl_str (pv 0) (po_some (pe_op op_add (pv 3) pe_int)) po_none)))) pss_nil)
      (pss_cons (ps_set (i := 5) scBent.nd rfl (Or.inl rfl) (pe_op op_add_str (pe_slice sl_str (pv 0) (po_some (pe_op op_add (pv 3) pe_int)) (po_some (pe_op op_add (pv 3) pe_int))) (pe_slice sl_str (pv 0) (po_some (pv 3)) (po_some (pe_op op_add (pv 3) pe_int)))))
      (pss_one (ps_ret (pe_op op_add_str (pe_op op_add_str (pe_slice sl_str (pv 0) po_none (po_some (pv 3))) (pv 5)) (pe_slice sl_str (pv 0) (po_some (pe_op op_add (pv 3) pe_int)) po_none))))))))))), ?_⟩
    have hs : x.length ≤ sizeLine := asc_line hx (by omega)
    refine ⟨_, rfl, _, _, rfl, rfl, ⟨by show (0 : Int) < 4; decide, by show (4 : Int) < _; decide⟩, _, rfl, x, rfl, hs, _, _, rfl, _, _, rfl, rfl, ?_⟩
    have hm : (0 : Int) < (if ((x.length : Nat) : Int) > 1 then ((x.length : Nat) : Int) else 1) := by split <;> omega
    refine ⟨hm, ?_⟩
    obtain ⟨g, hg, hc⟩ := at_sign (c / 4096 % 23) (Int.emod_nonneg _ (by decide)) (Int.emod_lt_of_pos _ (by decide))
    refine ⟨_, rfl, _, rfl, _, _, rfl, rfl, ⟨by show (0 : Int) < 4096; decide, by show (4096 : Int) < _; decide⟩, _, _, rfl, rfl, (by show (0 : Int) < 23; decide), _, _, g, rfl, rfl, (by decide), hg, ?_⟩
    have hG : Asc 1 (⟨#[g]⟩ : Str) := ⟨by simp [hc], Nat.le_refl 1⟩
    refine ⟨_, rfl, _, _, rfl, rfl, (by show (0 : Int) < 4; decide), rfl, _, rfl, ite2 (fun _ => ?_) (fun _ => ?_)⟩
    · refine ⟨_, rfl, _, rfl, _, rfl, x, rfl, hs, _, rfl, _, _, rfl, rfl, asc_sz (asc_slice hx) hG (by omega), _, rfl, _, rfl, _, rfl, x, rfl, hs, _, _, rfl, rfl, asc_sz (asc_cat (asc_slice hx) hG) (asc_slice hx) (by omega), ?_⟩
      exact k _ (asc_le (asc_cat (asc_cat (asc_slice hx) hG) (asc_slice hx)) (by omega))
    refine ⟨_, rfl, _, _, rfl, rfl, (by show (0 : Int) < 4; decide), rfl, _, rfl, ite2 (fun _ => ?_) (fun _ => ?_)⟩
    · refine ⟨_, rfl, _, rfl, _, rfl, x, rfl, hs, _, rfl, _, _, rfl, rfl, asc_sz (asc_slice hx) hG (by omega), _, rfl, _, rfl, _, _, rfl, rfl, _, rfl, x, rfl, hs, _, _, rfl, rfl, asc_sz (asc_cat (asc_slice hx) hG) (asc_slice hx) (by omega), ?_⟩
      exact k _ (asc_le (asc_cat (asc_cat (asc_slice hx) hG) (asc_slice hx)) (by omega))
    refine ⟨_, rfl, _, _, rfl, rfl, (by show (0 : Int) < 4; decide), rfl, _, rfl, ite2 (fun _ => ?_) (fun _ => ?_)⟩
    · refine ⟨_, rfl, _, rfl, _, rfl, x, rfl, hs, _, rfl, _, rfl, _, _, rfl, rfl, _, rfl, x, rfl, hs, _, _, rfl, rfl, asc_sz (asc_slice hx) (asc_slice hx) (by omega), ?_⟩
      exact k _ (asc_le (asc_cat (asc_slice hx) (asc_slice hx)) (by omega))
    refine ⟨_, rfl, _, rfl, _, _, rfl, rfl, _, rfl, _, rfl, _, _, rfl, rfl, _, rfl, x, rfl, hs, _, rfl, _, rfl, _, rfl, _, rfl, _, _, rfl, rfl, _, rfl, x, rfl, hs, _, _, rfl, rfl, asc_sz (asc_slice hx) (asc_slice hx) (by omega), ?_⟩
    refine ⟨_, rfl, _, rfl, _, rfl, x, rfl, hs, _, rfl, _, _, rfl, rfl, asc_sz (asc_slice hx) (asc_cat (asc_slice hx) (asc_slice hx)) (by omega), _, rfl, _, rfl, _, _, rfl, rfl, _, rfl, x, rfl, hs, _, _, rfl, rfl, asc_sz (asc_cat (asc_slice hx) (asc_cat (asc_slice hx) (asc_slice hx))) (asc_slice hx) (by omega), ?_⟩
    exact k _ (asc_le (asc_cat (asc_cat (asc_slice hx) (asc_cat (asc_slice hx) (asc_slice hx))) (asc_slice hx)) (by omega))
end
end My


set_option Elab.async false
set_option linter.all false
set_option maxRecDepth 100000
set_option maxHeartbeats 4000000
namespace My
open PySem L2
theorem asc_tos {i : Int} (h0 : 0 ≤ i) (h1 : i < 1000001) : Asc 13 (tos i) := ⟨by
  rw [Array.all_eq_true_iff_forall_mem]
  intro c hc
  exact decide_eq_true (tos_clean i c (Array.mem_def.mp hc)).1, tos_len (by omega)⟩
theorem log_small {i : Int} (h0 : 0 ≤ i) (h1 : i < 1000001) : i.natAbs.log2 < 1920 := by
  by_cases hz : i.natAbs = 0
  · rw [hz]; decide
  · exact Nat.lt_trans ((Nat.log2_lt hz).mpr (show i.natAbs < 2 ^ 20 by omega)) (by decide)
section
variable {P : Program} {w : World} {K : PySem.W.Frag} {mg : Str → Option Value} {base : Heap}
/-! ### _law_line -/
def spLine : Sp := fun vs H Q _ => ∃ c : Int, vs = [.int c] ∧ ∀ (x : Str) (H' : Hp), Asc 60 x → Same H H' → Q (.str x) H'
theorem scLine : FnScope ["_law_cell", "_law_state", "_law_word", "_law_b", "_law_c", "_law_number", "_law_far", "_law_some"] ["_law_cell"] (defScope sLine) := ⟨rfl, rfl, rfl, by decide +kernel, rfl, by decide +kernel, by decide +kernel⟩
theorem ok_line {f fD : Addr} {fd fdD : FuncData} (F : Fun K "_law_line" "_law_line" sLine f fd) (T : Txt K w.params mg) (GD : FnOk P w K mg base CX0 1 fD fdD ["_law_state", "_law_base"] spDigit) (kD : PySem.W.keepIn K (.ref fD) = true) (bD : Binds K fdD ["_law_state", "_law_base"] []) (mD : mg "_law_digit" = some (.ref fD)) : FnOk P w K mg base CX0 2 f fd ["_law_cell"] spLine := by
  refine F.ok scLine (fun vs H Q E h => ?_) (fun cdv A outer s H vs Q E hr h => ?_)
  · obtain ⟨c, rfl, _⟩ := h
    rfl
  · obtain ⟨c, rfl, k⟩ := h
    refine wrapX (pssx_cons (psx_of (ps_set (i := 1) scLine.nd rfl (Or.inl rfl) (pe_lst (pa_cons (pe_callB (call_max2 rfl) (by rfl) T.max bt_max (pa_cons pe_int (pa_cons (pe_op op_sub (pv 0) (pe_op op_pow pe_int pe_int)) pa_nil))) (pa_cons (pe_op op_mod (pv 0) pe_int) (pa_cons pe_int pa_nil))))))
      (pssx_cons (psx_of (ps_set (i := 2) scLine.nd rfl (Or.inl rfl) (pe_call GD hr (by rfl) mD kD bD .nil pass0 (pa_cons (pv 1) (pa_cons pe_int pa_nil)))))
      (pssx_cons (psx_of (ps_set (i := 3) scLine.nd rfl (Or.inl rfl) (pe_callTy call_str_int (by rfl) T.str bt_str (pa_cons (pe_call GD hr (by rfl) mD kD bD .nil pass0 (pa_cons (pv 1) (pa_cons pe_int pa_nil))) pa_nil))))
      (pssx_cons (psx_of (ps_set (i := 4) scLine.nd rfl (Or.inl rfl) (pe_callTy call_str_int (by rfl) T.str bt_str (pa_cons (pe_call GD hr (by rfl) mD kD bD .nil pass0 (pa_cons (pv 1) (pa_cons pe_int pa_nil))) pa_nil))))
      (pssx_cons (psx_of (ps_set (i := 5) scLine.nd rfl (Or.inl rfl) (pe_callTy call_str_int (by rfl) T.str bt_str (pa_cons (pe_call GD hr (by rfl) mD kD bD .nil pass0 (pa_cons (pv 1) (pa_cons (pe_ix ix_list (pe_lst (pa_cons pe_int (pa_cons (pe_op op_add (pe_op op_pow pe_int pe_int) pe_int) pa_nil))) (pe_call GD hr (by rfl) mD kD bD .nil pass0 (pa_cons (pv 1) (pa_cons pe_int pa_nil))) (fun _ _ => rfl)) pa_nil))) pa_nil))))
      (pssx_cons (psx_of (ps_set (i := 6) scLine.nd rfl (Or.inl rfl) (pe_ix ix_list (pe_lst (pa_cons pe_str (pa_cons pe_str pa_nil))) (pe_call GD hr (by rfl) mD kD bD .nil pass0 (pa_cons (pv 1) (pa_cons pe_int pa_nil))) (fun _ _ => rfl))))
      (pssx_cons (psx_of (ps_set (i := 7) scLine.nd rfl (Or.inl rfl) (pe_lst (pa_cons pe_str (pa_cons pe_str (pa_cons (pe_op op_add_str pe_str (pv 5)) (pa_cons (pe_op op_add_str (pe_op op_add_str (pe_op op_add_str pe_str (pv 3)) pe_str) (pv 5)) (pa_cons (pe_op op_add_str (pe_op op_add_str (pe_op op_add_str pe_str (pv 3)) pe_str) (pv 5)) pa_nil))))))))
      (pssx_cons (psx_of (ps_set (i := 7) scLine.nd rfl (Or.inl rfl) (pe_op op_cat (pv 7) (pe_lst (pa_cons (pe_op op_add_str (pe_op op_add_str (pe_op op_add_str (pe_ix ix_list (pe_lst (pa_cons pe_str (pa_cons pe_str (pa_cons pe_str (pa_cons pe_str (pa_cons pe_str pa_nil)))))) (pe_call GD hr (by rfl) mD kD bD .nil pass0 (pa_cons (pv 1) (pa_cons pe_int pa_nil))) (fun _ _ => rfl)) (pv 3)) pe_str) (pv 4)) (pa_cons (pe_op op_add_str pe_str (pv 3)) pa_nil))))))
      (pssx_cons (psx_of (ps_set (i := 7) scLine.nd rfl (Or.inl rfl) (pe_op op_cat (pv 7) (pe_lst (pa_cons (pe_op op_add_str (pe_op op_add_str (pe_op op_add_str pe_str (pv 3)) pe_str) (pv 5)) (pa_cons (pe_op op_add_str (pe_op op_add_str (pe_op op_add_str pe_str (pv 3)) pe_str) (pv 5)) (pa_cons (pe_op op_add_str (pe_op op_add_str (pe_op op_add_str pe_str (pv 3)) pe_str) (pv 5)) pa_nil)))))))
      (pssx_cons (psx_of (ps_set (i := 7) scLine.nd rfl (Or.inl rfl) (pe_op op_cat (pv 7) (pe_lst (pa_cons (pe_op op_add_str (pe_op op_add_str pe_str (pv 6)) (pv 5)) (pa_cons (pe_op op_add_str (pe_op op_add_str (pe_op op_add_str (pe_op op_add_str (pe_ix ix_list (pe_lst (pa_cons pe_str (pa_cons pe_str pa_nil))) (pe_call GD hr (by rfl) mD kD bD .nil pass0 (pa_cons (pv 1) (pa_cons pe_int pa_nil))) (fun _ _ => rfl)) (pv 6)) (pv 3)) pe_str) (pv 5)) pa_nil))))))
      (pssx_cons (psx_of (ps_set (i := 7) scLine.nd rfl (Or.inl rfl) (pe_op op_cat (pv 7) (pe_lst (pa_cons (pe_op op_add_str (pe_op op_add_str (pe_ix ix_list (pe_lst (pa_cons pe_str (pa_cons pe_str pa_nil))) (pe_call GD hr (by rfl) mD kD bD .nil pass0 (pa_cons (pv 1) (pa_cons pe_int pa_nil))) (fun _ _ => rfl)) (pv 6)) (pv 5)) (pa_cons (pe_op op_add_str (pe_op op_add_str (pe_op op_add_str (pe_op op_add_str (pe_op op_add_str pe_str (pv 3)) pe_str) (pv 5)) pe_str) (pv 4)) pa_nil))))))
      (pssx_one (psx_of (ps_ret (pe_ix ix_list (pv 7) (pv 2) (fun _ _ => rfl)))))))))))))))) ?_
    refine ⟨_, rfl, _, _, rfl, rfl, ⟨by decide, by decide, by decide⟩, _, _, rfl, rfl, _, _, rfl, _, rfl, _, _, rfl, rfl, (by show (0 : Int) < 2147483647; decide), (by show 3 ≤ sizeLine; decide), fun l nl => ?_⟩
    have fin : ∀ x H', Asc 60 x → SameX l H H' → Q (.str x) H' := fun x H' a z => k x H' a (SameX.of (Same.refl H) nl z)
    refine ⟨_, rfl, l, 14, rfl, ⟨_, _, _, upd_same⟩, by decide, by decide, fun d H1 d0 d1 t1 z1 => ?_⟩
    have x1 := (SameX.same (same_new nl)).trans z1
    refine ⟨_, rfl, l, 8, rfl, t1, by decide, by decide, fun bb H2 b0 b1 t2 z2 => ⟨bb, rfl, log_small b0 (by omega), ?_⟩⟩
    have ab : Asc 13 (Str.ofString (toString bb)) := asc_tos b0 (by omega)
    generalize Str.ofString (toString bb) = tb at ab ⊢
    have x2 := x1.trans z2
    refine ⟨_, rfl, l, 8, rfl, t2, by decide, by decide, fun cc H3 c0 c1 t3 z3 => ⟨cc, rfl, log_small c0 (by omega), ?_⟩⟩
    have ac : Asc 13 (Str.ofString (toString cc)) := asc_tos c0 (by omega)
    generalize Str.ofString (toString cc) = tc at ac ⊢
    have x3 := x2.trans z3
    refine ⟨_, rfl, _, _, rfl, rfl, ⟨by decide, by decide, by decide⟩, _, _, rfl, rfl, (by show 2 ≤ sizeLine; decide), fun lm nm => ?_⟩
    have sm := same_new (o := .lst [V.int 12, V.int ((10 : Int) ^ (6 : Int).toNat + 1)]) nm
    have hm : upd H3 lm (.lst [V.int 12, V.int ((10 : Int) ^ (6 : Int).toNat + 1)]) lm = _ := upd_same
    have gm := t3.ne nm
    refine ⟨_, rfl, l, 2, rfl, t3.same sm, by decide, by decide, fun e H4 e0 e1 t4 z4 => ?_⟩
    have hm4 := z4 _ _ gm hm
    have x4 := (x3.trans (.same sm)).trans z4
    obtain ⟨v, hv, hv0, hv1⟩ : ∃ v : Int, atI [V.int 12, V.int ((10 : Int) ^ (6 : Int).toNat + 1)] e = some (.int v) ∧ 0 < v ∧ v ≤ 1000001 := by
      rcases (show e = 0 ∨ e = 1 by omega) with rfl | rfl
      · exact ⟨12, rfl, by decide, by decide⟩
      · exact ⟨_, rfl, by decide, by decide⟩
    refine ⟨lm, _, _, .int v, rfl, rfl, SqL.of hm4, hv, l, v, rfl, t4, hv0, by omega, fun nn H5 n0 n1 t5 z5 => ⟨nn, rfl, log_small n0 (by omega), ?_⟩⟩
    have an : Asc 13 (Str.ofString (toString nn)) := asc_tos n0 (by omega)
    generalize Str.ofString (toString nn) = tn at an ⊢
    have x5 := x4.trans z5
    refine ⟨(by show 2 ≤ sizeLine; decide), fun lf nf => ?_⟩
    have sf := same_new (o := .lst [V.str "", V.str "far "]) nf
    have hf : upd H5 lf (.lst [V.str "", V.str "far "]) lf = _ := upd_same
    have gf := t5.ne nf
    refine ⟨_, rfl, l, 2, rfl, t5.same sf, by decide, by decide, fun e' H6 e'0 e'1 t6 z6 => ?_⟩
    have hf6 := z6 _ _ gf hf
    have x6 := (x5.trans (.same sf)).trans z6
    obtain ⟨fr, hfr, hat⟩ := at_words (["", "far "]) e' 0 (by omega) (by show e' < 0 + 2; omega)
    rw [Int.sub_zero] at hat
    have af : Asc 4 fr := (by decide +kernel : ∀ u ∈ (["", "far "] : List Str), Asc 4 u) fr hfr
    refine ⟨lf, _, _, .str fr, rfl, rfl, SqL.of hf6, hat, ?_⟩
    clear t1 t2 t3 t4 t5 z1 z2 z3 z4 z5 z6 x1 x2 x3 x4 x5 sm hm gm hm4 sf hf gf hf6 hv hat hfr nf nm
    refine ⟨_, rfl, _, _, rfl, rfl, asc_sz (show Asc 5 ("halt " : Str) by decide +kernel) an (by decide), _, rfl, _, _, rfl, rfl, asc_sz (show Asc 4 ("set " : Str) by decide +kernel) ab (by decide), _, _, rfl, rfl, asc_sz (asc_cat (show Asc 4 ("set " : Str) by decide +kernel) ab) (show Asc 3 (" -1" : Str) by decide +kernel) (by decide), _, rfl, _, _, rfl, rfl, asc_sz (asc_cat (asc_cat (show Asc 4 ("set " : Str) by decide +kernel) ab) (show Asc 3 (" -1" : Str) by decide +kernel)) an (by decide), _, rfl, _, _, rfl, rfl, asc_sz (show Asc 5 ("more " : Str) by decide +kernel) ab (by decide), _, _, rfl, rfl, asc_sz (asc_cat (show Asc 5 ("more " : Str) by decide +kernel) ab) (show Asc 1 (" " : Str) by decide +kernel) (by decide), _, rfl, _, _, rfl, rfl, asc_sz (asc_cat (asc_cat (show Asc 5 ("more " : Str) by decide +kernel) ab) (show Asc 1 (" " : Str) by decide +kernel)) an (by decide), (by show 5 ≤ sizeLine; decide), fun q1 nq1 => ?_⟩
    have y1 : upd H6 q1 (.lst [V.str ("stop" : Str), V.str ("back" : Str), V.str (("halt " : Str) ++ tn), V.str (((("set " : Str) ++ tb) ++ (" -1" : Str)) ++ tn), V.str (((("more " : Str) ++ tb) ++ (" " : Str)) ++ tn)]) q1 = _ := upd_same
    have tq1 := t6.same (same_new (o := .lst [V.str ("stop" : Str), V.str ("back" : Str), V.str (("halt " : Str) ++ tn), V.str (((("set " : Str) ++ tb) ++ (" -1" : Str)) ++ tn), V.str (((("more " : Str) ++ tb) ++ (" " : Str)) ++ tn)]) nq1)
    have xq1 := x6.trans (.same (same_new (o := .lst [V.str ("stop" : Str), V.str ("back" : Str), V.str (("halt " : Str) ++ tn), V.str (((("set " : Str) ++ tb) ++ (" -1" : Str)) ++ tn), V.str (((("more " : Str) ++ tb) ++ (" " : Str)) ++ tn)]) nq1))
    have gq1 := t6.ne nq1
    generalize upd H6 q1 (.lst [V.str ("stop" : Str), V.str ("back" : Str), V.str (("halt " : Str) ++ tn), V.str (((("set " : Str) ++ tb) ++ (" -1" : Str)) ++ tn), V.str (((("more " : Str) ++ tb) ++ (" " : Str)) ++ tn)]) = J1 at y1 tq1 xq1 ⊢
    refine ⟨_, rfl, (by show 5 ≤ sizeLine; decide), fun w1 m1 => ?_⟩
    have p1 := same_new (o := .lst [V.str "copy ", V.str "add ", V.str "less ", V.str "load ", V.str "keep "]) m1
    have o1 : upd J1 w1 (.lst [V.str "copy ", V.str "add ", V.str "less ", V.str "load ", V.str "keep "]) w1 = _ := upd_same
    have t1a := tq1.same p1
    have x1a := xq1.trans (.same p1)
    have g1 := tq1.ne m1
    refine ⟨_, rfl, l, 5, rfl, t1a, by decide, by decide, fun d1 K1 c1 e1 t1b z1 => ?_⟩
    obtain ⟨u1, hu1, hat1⟩ := at_words (["copy ", "add ", "less ", "load ", "keep "]) d1 0 (by omega) (by show d1 < 0 + 5; omega)
    rw [Int.sub_zero] at hat1
    have o1b := z1 _ _ g1 o1
    have a1 : Asc 6 u1 := (by decide +kernel : ∀ u ∈ (["copy ", "add ", "less ", "load ", "keep "] : List Str), Asc 6 u) u1 hu1
    have x1b := x1a.trans z1
    have y1_1 := z1 _ _ gq1 (p1 _ _ y1)
    refine ⟨w1, _, _, .str u1, rfl, rfl, SqL.of o1b, hat1, _, rfl, _, _, rfl, rfl, asc_sz a1 ab (by decide), _, _, rfl, rfl, asc_sz (asc_cat a1 ab) (show Asc 1 (" " : Str) by decide +kernel) (by decide), _, rfl, _, _, rfl, rfl, asc_sz (asc_cat (asc_cat a1 ab) (show Asc 1 (" " : Str) by decide +kernel)) ac (by decide), _, rfl, _, _, rfl, rfl, asc_sz (show Asc 5 ("tell " : Str) by decide +kernel) ab (by decide), (by show 2 ≤ sizeLine; decide), fun r2 nr2 => ?_⟩
    have k2 := same_new (o := .lst [V.str (((u1 ++ tb) ++ (" " : Str)) ++ tc), V.str (("tell " : Str) ++ tb)]) nr2
    have v2 : upd K1 r2 (.lst [V.str (((u1 ++ tb) ++ (" " : Str)) ++ tc), V.str (("tell " : Str) ++ tb)]) r2 = _ := upd_same
    have h2 := k2 _ _ y1_1
    have tr2 := t1b.same k2
    have xr2 := x1b.trans (.same k2)
    generalize upd K1 r2 (.lst [V.str (((u1 ++ tb) ++ (" " : Str)) ++ tc), V.str (("tell " : Str) ++ tb)]) = R2 at k2 v2 h2 tr2 xr2 ⊢
    refine ⟨q1, r2, _, _, rfl, rfl, h2, v2, (by show 7 ≤ sizeLine; decide), fun q2 nq2 => ?_⟩
    have y2 : upd R2 q2 (.lst ([V.str ("stop" : Str), V.str ("back" : Str), V.str (("halt " : Str) ++ tn), V.str (((("set " : Str) ++ tb) ++ (" -1" : Str)) ++ tn), V.str (((("more " : Str) ++ tb) ++ (" " : Str)) ++ tn)] ++ [V.str (((u1 ++ tb) ++ (" " : Str)) ++ tc), V.str (("tell " : Str) ++ tb)])) q2 = some (.lst [V.str ("stop" : Str), V.str ("back" : Str), V.str (("halt " : Str) ++ tn), V.str (((("set " : Str) ++ tb) ++ (" -1" : Str)) ++ tn), V.str (((("more " : Str) ++ tb) ++ (" " : Str)) ++ tn), V.str (((u1 ++ tb) ++ (" " : Str)) ++ tc), V.str (("tell " : Str) ++ tb)]) := upd_same
    have tq2 := tr2.same (same_new (o := .lst ([V.str ("stop" : Str), V.str ("back" : Str), V.str (("halt " : Str) ++ tn), V.str (((("set " : Str) ++ tb) ++ (" -1" : Str)) ++ tn), V.str (((("more " : Str) ++ tb) ++ (" " : Str)) ++ tn)] ++ [V.str (((u1 ++ tb) ++ (" " : Str)) ++ tc), V.str (("tell " : Str) ++ tb)])) nq2)
    have xq2 := xr2.trans (.same (same_new (o := .lst ([V.str ("stop" : Str), V.str ("back" : Str), V.str (("halt " : Str) ++ tn), V.str (((("set " : Str) ++ tb) ++ (" -1" : Str)) ++ tn), V.str (((("more " : Str) ++ tb) ++ (" " : Str)) ++ tn)] ++ [V.str (((u1 ++ tb) ++ (" " : Str)) ++ tc), V.str (("tell " : Str) ++ tb)])) nq2))
    have gq2 := tr2.ne nq2
    generalize upd R2 q2 (.lst ([V.str ("stop" : Str), V.str ("back" : Str), V.str (("halt " : Str) ++ tn), V.str (((("set " : Str) ++ tb) ++ (" -1" : Str)) ++ tn), V.str (((("more " : Str) ++ tb) ++ (" " : Str)) ++ tn)] ++ [V.str (((u1 ++ tb) ++ (" " : Str)) ++ tc), V.str (("tell " : Str) ++ tb)])) = J2 at y2 tq2 xq2 ⊢
    refine ⟨_, rfl, _, rfl, _, _, rfl, rfl, asc_sz (show Asc 4 ("see " : Str) by decide +kernel) ab (by decide), _, _, rfl, rfl, asc_sz (asc_cat (show Asc 4 ("see " : Str) by decide +kernel) ab) (show Asc 1 (" " : Str) by decide +kernel) (by decide), _, rfl, _, _, rfl, rfl, asc_sz (asc_cat (asc_cat (show Asc 4 ("see " : Str) by decide +kernel) ab) (show Asc 1 (" " : Str) by decide +kernel)) an (by decide), _, rfl, _, _, rfl, rfl, asc_sz (show Asc 4 ("put " : Str) by decide +kernel) ab (by decide), _, _, rfl, rfl, asc_sz (asc_cat (show Asc 4 ("put " : Str) by decide +kernel) ab) (show Asc 1 (" " : Str) by decide +kernel) (by decide), _, rfl, _, _, rfl, rfl, asc_sz (asc_cat (asc_cat (show Asc 4 ("put " : Str) by decide +kernel) ab) (show Asc 1 (" " : Str) by decide +kernel)) an (by decide), _, rfl, _, _, rfl, rfl, asc_sz (show Asc 5 ("take " : Str) by decide +kernel) ab (by decide), _, _, rfl, rfl, asc_sz (asc_cat (show Asc 5 ("take " : Str) by decide +kernel) ab) (show Asc 1 (" " : Str) by decide +kernel) (by decide), _, rfl, _, _, rfl, rfl, asc_sz (asc_cat (asc_cat (show Asc 5 ("take " : Str) by decide +kernel) ab) (show Asc 1 (" " : Str) by decide +kernel)) an (by decide), (by show 3 ≤ sizeLine; decide), fun r3 nr3 => ?_⟩
    have k3 := same_new (o := .lst [V.str (((("see " : Str) ++ tb) ++ (" " : Str)) ++ tn), V.str (((("put " : Str) ++ tb) ++ (" " : Str)) ++ tn), V.str (((("take " : Str) ++ tb) ++ (" " : Str)) ++ tn)]) nr3
    have v3 : upd J2 r3 (.lst [V.str (((("see " : Str) ++ tb) ++ (" " : Str)) ++ tn), V.str (((("put " : Str) ++ tb) ++ (" " : Str)) ++ tn), V.str (((("take " : Str) ++ tb) ++ (" " : Str)) ++ tn)]) r3 = _ := upd_same
    have h3 := k3 _ _ y2
    have tr3 := tq2.same k3
    have xr3 := xq2.trans (.same k3)
    generalize upd J2 r3 (.lst [V.str (((("see " : Str) ++ tb) ++ (" " : Str)) ++ tn), V.str (((("put " : Str) ++ tb) ++ (" " : Str)) ++ tn), V.str (((("take " : Str) ++ tb) ++ (" " : Str)) ++ tn)]) = R3 at k3 v3 h3 tr3 xr3 ⊢
    refine ⟨q2, r3, _, _, rfl, rfl, h3, v3, (by show 10 ≤ sizeLine; decide), fun q3 nq3 => ?_⟩
    have y3 : upd R3 q3 (.lst ([V.str ("stop" : Str), V.str ("back" : Str), V.str (("halt " : Str) ++ tn), V.str (((("set " : Str) ++ tb) ++ (" -1" : Str)) ++ tn), V.str (((("more " : Str) ++ tb) ++ (" " : Str)) ++ tn), V.str (((u1 ++ tb) ++ (" " : Str)) ++ tc), V.str (("tell " : Str) ++ tb)] ++ [V.str (((("see " : Str) ++ tb) ++ (" " : Str)) ++ tn), V.str (((("put " : Str) ++ tb) ++ (" " : Str)) ++ tn), V.str (((("take " : Str) ++ tb) ++ (" " : Str)) ++ tn)])) q3 = some (.lst [V.str ("stop" : Str), V.str ("back" : Str), V.str (("halt " : Str) ++ tn), V.str (((("set " : Str) ++ tb) ++ (" -1" : Str)) ++ tn), V.str (((("more " : Str) ++ tb) ++ (" " : Str)) ++ tn), V.str (((u1 ++ tb) ++ (" " : Str)) ++ tc), V.str (("tell " : Str) ++ tb), V.str (((("see " : Str) ++ tb) ++ (" " : Str)) ++ tn), V.str (((("put " : Str) ++ tb) ++ (" " : Str)) ++ tn), V.str (((("take " : Str) ++ tb) ++ (" " : Str)) ++ tn)]) := upd_same
    have tq3 := tr3.same (same_new (o := .lst ([V.str ("stop" : Str), V.str ("back" : Str), V.str (("halt " : Str) ++ tn), V.str (((("set " : Str) ++ tb) ++ (" -1" : Str)) ++ tn), V.str (((("more " : Str) ++ tb) ++ (" " : Str)) ++ tn), V.str (((u1 ++ tb) ++ (" " : Str)) ++ tc), V.str (("tell " : Str) ++ tb)] ++ [V.str (((("see " : Str) ++ tb) ++ (" " : Str)) ++ tn), V.str (((("put " : Str) ++ tb) ++ (" " : Str)) ++ tn), V.str (((("take " : Str) ++ tb) ++ (" " : Str)) ++ tn)])) nq3)
    have xq3 := xr3.trans (.same (same_new (o := .lst ([V.str ("stop" : Str), V.str ("back" : Str), V.str (("halt " : Str) ++ tn), V.str (((("set " : Str) ++ tb) ++ (" -1" : Str)) ++ tn), V.str (((("more " : Str) ++ tb) ++ (" " : Str)) ++ tn), V.str (((u1 ++ tb) ++ (" " : Str)) ++ tc), V.str (("tell " : Str) ++ tb)] ++ [V.str (((("see " : Str) ++ tb) ++ (" " : Str)) ++ tn), V.str (((("put " : Str) ++ tb) ++ (" " : Str)) ++ tn), V.str (((("take " : Str) ++ tb) ++ (" " : Str)) ++ tn)])) nq3))
    have gq3 := tr3.ne nq3
    generalize upd R3 q3 (.lst ([V.str ("stop" : Str), V.str ("back" : Str), V.str (("halt " : Str) ++ tn), V.str (((("set " : Str) ++ tb) ++ (" -1" : Str)) ++ tn), V.str (((("more " : Str) ++ tb) ++ (" " : Str)) ++ tn), V.str (((u1 ++ tb) ++ (" " : Str)) ++ tc), V.str (("tell " : Str) ++ tb)] ++ [V.str (((("see " : Str) ++ tb) ++ (" " : Str)) ++ tn), V.str (((("put " : Str) ++ tb) ++ (" " : Str)) ++ tn), V.str (((("take " : Str) ++ tb) ++ (" " : Str)) ++ tn)])) = J3 at y3 tq3 xq3 ⊢
    refine ⟨_, rfl, _, rfl, _, _, rfl, rfl, asc_sz (show Asc 5 ("jump " : Str) by decide +kernel) af (by decide), _, rfl, _, _, rfl, rfl, asc_sz (asc_cat (show Asc 5 ("jump " : Str) by decide +kernel) af) an (by decide), (by show 2 ≤ sizeLine; decide), fun w2 m2 => ?_⟩
    have p2 := same_new (o := .lst [V.str "zero ", V.str "below "]) m2
    have o2 : upd J3 w2 (.lst [V.str "zero ", V.str "below "]) w2 = _ := upd_same
    have t2a := tq3.same p2
    have x2a := xq3.trans (.same p2)
    have g2 := tq3.ne m2
    refine ⟨_, rfl, l, 2, rfl, t2a, by decide, by decide, fun d2 K2 c2 e2 t2b z2 => ?_⟩
    obtain ⟨u2, hu2, hat2⟩ := at_words (["zero ", "below "]) d2 0 (by omega) (by show d2 < 0 + 2; omega)
    rw [Int.sub_zero] at hat2
    have o2b := z2 _ _ g2 o2
    have a2 : Asc 6 u2 := (by decide +kernel : ∀ u ∈ (["zero ", "below "] : List Str), Asc 6 u) u2 hu2
    have x2b := x2a.trans z2
    have y3_2 := z2 _ _ gq3 (p2 _ _ y3)
    refine ⟨w2, _, _, .str u2, rfl, rfl, SqL.of o2b, hat2, _, rfl, _, _, rfl, rfl, asc_sz a2 af (by decide), _, rfl, _, _, rfl, rfl, asc_sz (asc_cat a2 af) ab (by decide), _, _, rfl, rfl, asc_sz (asc_cat (asc_cat a2 af) ab) (show Asc 1 (" " : Str) by decide +kernel) (by decide), _, rfl, _, _, rfl, rfl, asc_sz (asc_cat (asc_cat (asc_cat a2 af) ab) (show Asc 1 (" " : Str) by decide +kernel)) an (by decide), (by show 2 ≤ sizeLine; decide), fun r4 nr4 => ?_⟩
    have k4 := same_new (o := .lst [V.str ((("jump " : Str) ++ fr) ++ tn), V.str ((((u2 ++ fr) ++ tb) ++ (" " : Str)) ++ tn)]) nr4
    have v4 : upd K2 r4 (.lst [V.str ((("jump " : Str) ++ fr) ++ tn), V.str ((((u2 ++ fr) ++ tb) ++ (" " : Str)) ++ tn)]) r4 = _ := upd_same
    have h4 := k4 _ _ y3_2
    have tr4 := t2b.same k4
    have xr4 := x2b.trans (.same k4)
    generalize upd K2 r4 (.lst [V.str ((("jump " : Str) ++ fr) ++ tn), V.str ((((u2 ++ fr) ++ tb) ++ (" " : Str)) ++ tn)]) = R4 at k4 v4 h4 tr4 xr4 ⊢
    refine ⟨q3, r4, _, _, rfl, rfl, h4, v4, (by show 12 ≤ sizeLine; decide), fun q4 nq4 => ?_⟩
    have y4 : upd R4 q4 (.lst ([V.str ("stop" : Str), V.str ("back" : Str), V.str (("halt " : Str) ++ tn), V.str (((("set " : Str) ++ tb) ++ (" -1" : Str)) ++ tn), V.str (((("more " : Str) ++ tb) ++ (" " : Str)) ++ tn), V.str (((u1 ++ tb) ++ (" " : Str)) ++ tc), V.str (("tell " : Str) ++ tb), V.str (((("see " : Str) ++ tb) ++ (" " : Str)) ++ tn), V.str (((("put " : Str) ++ tb) ++ (" " : Str)) ++ tn), V.str (((("take " : Str) ++ tb) ++ (" " : Str)) ++ tn)] ++ [V.str ((("jump " : Str) ++ fr) ++ tn), V.str ((((u2 ++ fr) ++ tb) ++ (" " : Str)) ++ tn)])) q4 = some (.lst [V.str ("stop" : Str), V.str ("back" : Str), V.str (("halt " : Str) ++ tn), V.str (((("set " : Str) ++ tb) ++ (" -1" : Str)) ++ tn), V.str (((("more " : Str) ++ tb) ++ (" " : Str)) ++ tn), V.str (((u1 ++ tb) ++ (" " : Str)) ++ tc), V.str (("tell " : Str) ++ tb), V.str (((("see " : Str) ++ tb) ++ (" " : Str)) ++ tn), V.str (((("put " : Str) ++ tb) ++ (" " : Str)) ++ tn), V.str (((("take " : Str) ++ tb) ++ (" " : Str)) ++ tn), V.str ((("jump " : Str) ++ fr) ++ tn), V.str ((((u2 ++ fr) ++ tb) ++ (" " : Str)) ++ tn)]) := upd_same
    have tq4 := tr4.same (same_new (o := .lst ([V.str ("stop" : Str), V.str ("back" : Str), V.str (("halt " : Str) ++ tn), V.str (((("set " : Str) ++ tb) ++ (" -1" : Str)) ++ tn), V.str (((("more " : Str) ++ tb) ++ (" " : Str)) ++ tn), V.str (((u1 ++ tb) ++ (" " : Str)) ++ tc), V.str (("tell " : Str) ++ tb), V.str (((("see " : Str) ++ tb) ++ (" " : Str)) ++ tn), V.str (((("put " : Str) ++ tb) ++ (" " : Str)) ++ tn), V.str (((("take " : Str) ++ tb) ++ (" " : Str)) ++ tn)] ++ [V.str ((("jump " : Str) ++ fr) ++ tn), V.str ((((u2 ++ fr) ++ tb) ++ (" " : Str)) ++ tn)])) nq4)
    have xq4 := xr4.trans (.same (same_new (o := .lst ([V.str ("stop" : Str), V.str ("back" : Str), V.str (("halt " : Str) ++ tn), V.str (((("set " : Str) ++ tb) ++ (" -1" : Str)) ++ tn), V.str (((("more " : Str) ++ tb) ++ (" " : Str)) ++ tn), V.str (((u1 ++ tb) ++ (" " : Str)) ++ tc), V.str (("tell " : Str) ++ tb), V.str (((("see " : Str) ++ tb) ++ (" " : Str)) ++ tn), V.str (((("put " : Str) ++ tb) ++ (" " : Str)) ++ tn), V.str (((("take " : Str) ++ tb) ++ (" " : Str)) ++ tn)] ++ [V.str ((("jump " : Str) ++ fr) ++ tn), V.str ((((u2 ++ fr) ++ tb) ++ (" " : Str)) ++ tn)])) nq4))
    have gq4 := tr4.ne nq4
    generalize upd R4 q4 (.lst ([V.str ("stop" : Str), V.str ("back" : Str), V.str (("halt " : Str) ++ tn), V.str (((("set " : Str) ++ tb) ++ (" -1" : Str)) ++ tn), V.str (((("more " : Str) ++ tb) ++ (" " : Str)) ++ tn), V.str (((u1 ++ tb) ++ (" " : Str)) ++ tc), V.str (("tell " : Str) ++ tb), V.str (((("see " : Str) ++ tb) ++ (" " : Str)) ++ tn), V.str (((("put " : Str) ++ tb) ++ (" " : Str)) ++ tn), V.str (((("take " : Str) ++ tb) ++ (" " : Str)) ++ tn)] ++ [V.str ((("jump " : Str) ++ fr) ++ tn), V.str ((((u2 ++ fr) ++ tb) ++ (" " : Str)) ++ tn)])) = J4 at y4 tq4 xq4 ⊢
    refine ⟨_, rfl, (by show 2 ≤ sizeLine; decide), fun w3 m3 => ?_⟩
    have p3 := same_new (o := .lst [V.str "call ", V.str "mark "]) m3
    have o3 : upd J4 w3 (.lst [V.str "call ", V.str "mark "]) w3 = _ := upd_same
    have t3a := tq4.same p3
    have x3a := xq4.trans (.same p3)
    have g3 := tq4.ne m3
    refine ⟨_, rfl, l, 2, rfl, t3a, by decide, by decide, fun d3 K3 c3 e3 t3b z3 => ?_⟩
    obtain ⟨u3, hu3, hat3⟩ := at_words (["call ", "mark "]) d3 0 (by omega) (by show d3 < 0 + 2; omega)
    rw [Int.sub_zero] at hat3
    have o3b := z3 _ _ g3 o3
    have a3 : Asc 6 u3 := (by decide +kernel : ∀ u ∈ (["call ", "mark "] : List Str), Asc 6 u) u3 hu3
    have x3b := x3a.trans z3
    have y4_3 := z3 _ _ gq4 (p3 _ _ y4)
    refine ⟨w3, _, _, .str u3, rfl, rfl, SqL.of o3b, hat3, _, rfl, _, _, rfl, rfl, asc_sz a3 af (by decide), _, rfl, _, _, rfl, rfl, asc_sz (asc_cat a3 af) an (by decide), _, rfl, _, _, rfl, rfl, asc_sz (show Asc 6 ("table " : Str) by decide +kernel) ab (by decide), _, _, rfl, rfl, asc_sz (asc_cat (show Asc 6 ("table " : Str) by decide +kernel) ab) (show Asc 1 (" " : Str) by decide +kernel) (by decide), _, rfl, _, _, rfl, rfl, asc_sz (asc_cat (asc_cat (show Asc 6 ("table " : Str) by decide +kernel) ab) (show Asc 1 (" " : Str) by decide +kernel)) an (by decide), _, _, rfl, rfl, asc_sz (asc_cat (asc_cat (asc_cat (show Asc 6 ("table " : Str) by decide +kernel) ab) (show Asc 1 (" " : Str) by decide +kernel)) an) (show Asc 1 (" " : Str) by decide +kernel) (by decide), _, rfl, _, _, rfl, rfl, asc_sz (asc_cat (asc_cat (asc_cat (asc_cat (show Asc 6 ("table " : Str) by decide +kernel) ab) (show Asc 1 (" " : Str) by decide +kernel)) an) (show Asc 1 (" " : Str) by decide +kernel)) ac (by decide), (by show 2 ≤ sizeLine; decide), fun r5 nr5 => ?_⟩
    have k5 := same_new (o := .lst [V.str ((u3 ++ fr) ++ tn), V.str (((((("table " : Str) ++ tb) ++ (" " : Str)) ++ tn) ++ (" " : Str)) ++ tc)]) nr5
    have v5 : upd K3 r5 (.lst [V.str ((u3 ++ fr) ++ tn), V.str (((((("table " : Str) ++ tb) ++ (" " : Str)) ++ tn) ++ (" " : Str)) ++ tc)]) r5 = _ := upd_same
    have h5 := k5 _ _ y4_3
    have tr5 := t3b.same k5
    have xr5 := x3b.trans (.same k5)
    generalize upd K3 r5 (.lst [V.str ((u3 ++ fr) ++ tn), V.str (((((("table " : Str) ++ tb) ++ (" " : Str)) ++ tn) ++ (" " : Str)) ++ tc)]) = R5 at k5 v5 h5 tr5 xr5 ⊢
    refine ⟨q4, r5, _, _, rfl, rfl, h5, v5, (by show 14 ≤ sizeLine; decide), fun q5 nq5 => ?_⟩
    have y5 : upd R5 q5 (.lst ([V.str ("stop" : Str), V.str ("back" : Str), V.str (("halt " : Str) ++ tn), V.str (((("set " : Str) ++ tb) ++ (" -1" : Str)) ++ tn), V.str (((("more " : Str) ++ tb) ++ (" " : Str)) ++ tn), V.str (((u1 ++ tb) ++ (" " : Str)) ++ tc), V.str (("tell " : Str) ++ tb), V.str (((("see " : Str) ++ tb) ++ (" " : Str)) ++ tn), V.str (((("put " : Str) ++ tb) ++ (" " : Str)) ++ tn), V.str (((("take " : Str) ++ tb) ++ (" " : Str)) ++ tn), V.str ((("jump " : Str) ++ fr) ++ tn), V.str ((((u2 ++ fr) ++ tb) ++ (" " : Str)) ++ tn)] ++ [V.str ((u3 ++ fr) ++ tn), V.str (((((("table " : Str) ++ tb) ++ (" " : Str)) ++ tn) ++ (" " : Str)) ++ tc)])) q5 = some (.lst [V.str ("stop" : Str), V.str ("back" : Str), V.str (("halt " : Str) ++ tn), V.str (((("set " : Str) ++ tb) ++ (" -1" : Str)) ++ tn), V.str (((("more " : Str) ++ tb) ++ (" " : Str)) ++ tn), V.str (((u1 ++ tb) ++ (" " : Str)) ++ tc), V.str (("tell " : Str) ++ tb), V.str (((("see " : Str) ++ tb) ++ (" " : Str)) ++ tn), V.str (((("put " : Str) ++ tb) ++ (" " : Str)) ++ tn), V.str (((("take " : Str) ++ tb) ++ (" " : Str)) ++ tn), V.str ((("jump " : Str) ++ fr) ++ tn), V.str ((((u2 ++ fr) ++ tb) ++ (" " : Str)) ++ tn), V.str ((u3 ++ fr) ++ tn), V.str (((((("table " : Str) ++ tb) ++ (" " : Str)) ++ tn) ++ (" " : Str)) ++ tc)]) := upd_same
    have tq5 := tr5.same (same_new (o := .lst ([V.str ("stop" : Str), V.str ("back" : Str), V.str (("halt " : Str) ++ tn), V.str (((("set " : Str) ++ tb) ++ (" -1" : Str)) ++ tn), V.str (((("more " : Str) ++ tb) ++ (" " : Str)) ++ tn), V.str (((u1 ++ tb) ++ (" " : Str)) ++ tc), V.str (("tell " : Str) ++ tb), V.str (((("see " : Str) ++ tb) ++ (" " : Str)) ++ tn), V.str (((("put " : Str) ++ tb) ++ (" " : Str)) ++ tn), V.str (((("take " : Str) ++ tb) ++ (" " : Str)) ++ tn), V.str ((("jump " : Str) ++ fr) ++ tn), V.str ((((u2 ++ fr) ++ tb) ++ (" " : Str)) ++ tn)] ++ [V.str ((u3 ++ fr) ++ tn), V.str (((((("table " : Str) ++ tb) ++ (" " : Str)) ++ tn) ++ (" " : Str)) ++ tc)])) nq5)
    have xq5 := xr5.trans (.same (same_new (o := .lst ([V.str ("stop" : Str), V.str ("back" : Str), V.str (("halt " : Str) ++ tn), V.str (((("set " : Str) ++ tb) ++ (" -1" : Str)) ++ tn), V.str (((("more " : Str) ++ tb) ++ (" " : Str)) ++ tn), V.str (((u1 ++ tb) ++ (" " : Str)) ++ tc), V.str (("tell " : Str) ++ tb), V.str (((("see " : Str) ++ tb) ++ (" " : Str)) ++ tn), V.str (((("put " : Str) ++ tb) ++ (" " : Str)) ++ tn), V.str (((("take " : Str) ++ tb) ++ (" " : Str)) ++ tn), V.str ((("jump " : Str) ++ fr) ++ tn), V.str ((((u2 ++ fr) ++ tb) ++ (" " : Str)) ++ tn)] ++ [V.str ((u3 ++ fr) ++ tn), V.str (((((("table " : Str) ++ tb) ++ (" " : Str)) ++ tn) ++ (" " : Str)) ++ tc)])) nq5))
    have gq5 := tr5.ne nq5
    generalize upd R5 q5 (.lst ([V.str ("stop" : Str), V.str ("back" : Str), V.str (("halt " : Str) ++ tn), V.str (((("set " : Str) ++ tb) ++ (" -1" : Str)) ++ tn), V.str (((("more " : Str) ++ tb) ++ (" " : Str)) ++ tn), V.str (((u1 ++ tb) ++ (" " : Str)) ++ tc), V.str (("tell " : Str) ++ tb), V.str (((("see " : Str) ++ tb) ++ (" " : Str)) ++ tn), V.str (((("put " : Str) ++ tb) ++ (" " : Str)) ++ tn), V.str (((("take " : Str) ++ tb) ++ (" " : Str)) ++ tn), V.str ((("jump " : Str) ++ fr) ++ tn), V.str ((((u2 ++ fr) ++ tb) ++ (" " : Str)) ++ tn)] ++ [V.str ((u3 ++ fr) ++ tn), V.str (((((("table " : Str) ++ tb) ++ (" " : Str)) ++ tn) ++ (" " : Str)) ++ tc)])) = J5 at y5 tq5 xq5 ⊢
    obtain ⟨u, hu, hat⟩ := at_words ([("stop" : Str), ("back" : Str), (("halt " : Str) ++ tn), (((("set " : Str) ++ tb) ++ (" -1" : Str)) ++ tn), (((("more " : Str) ++ tb) ++ (" " : Str)) ++ tn), (((u1 ++ tb) ++ (" " : Str)) ++ tc), (("tell " : Str) ++ tb), (((("see " : Str) ++ tb) ++ (" " : Str)) ++ tn), (((("put " : Str) ++ tb) ++ (" " : Str)) ++ tn), (((("take " : Str) ++ tb) ++ (" " : Str)) ++ tn), ((("jump " : Str) ++ fr) ++ tn), ((((u2 ++ fr) ++ tb) ++ (" " : Str)) ++ tn), ((u3 ++ fr) ++ tn), (((((("table " : Str) ++ tb) ++ (" " : Str)) ++ tn) ++ (" " : Str)) ++ tc)]) d 0 (by omega) (by show d < 0 + 14; omega)
    rw [Int.sub_zero] at hat
    have au : Asc 60 u := (List.forall_mem_cons.2 ⟨asc_le (show Asc 4 ("stop" : Str) by decide +kernel) (by decide), List.forall_mem_cons.2 ⟨asc_le (show Asc 4 ("back" : Str) by decide +kernel) (by decide), List.forall_mem_cons.2 ⟨asc_le (asc_cat (show Asc 5 ("halt " : Str) by decide +kernel) an) (by decide), List.forall_mem_cons.2 ⟨asc_le (asc_cat (asc_cat (asc_cat (show Asc 4 ("set " : Str) by decide +kernel) ab) (show Asc 3 (" -1" : Str) by decide +kernel)) an) (by decide), List.forall_mem_cons.2 ⟨asc_le (asc_cat (asc_cat (asc_cat (show Asc 5 ("more " : Str) by decide +kernel) ab) (show Asc 1 (" " : Str) by decide +kernel)) an) (by decide), List.forall_mem_cons.2 ⟨asc_le (asc_cat (asc_cat (asc_cat a1 ab) (show Asc 1 (" " : Str) by decide +kernel)) ac) (by decide), List.forall_mem_cons.2 ⟨asc_le (asc_cat (show Asc 5 ("tell " : Str) by decide +kernel) ab) (by decide), List.forall_mem_cons.2 ⟨asc_le (asc_cat (asc_cat (asc_cat (show Asc 4 ("see " : Str) by decide +kernel) ab) (show Asc 1 (" " : Str) by decide +kernel)) an) (by decide), List.forall_mem_cons.2 ⟨asc_le (asc_cat (asc_cat (asc_cat (show Asc 4 ("put " : Str) by decide +kernel) ab) (show Asc 1 (" " : Str) by decide +kernel)) an) (by decide), List.forall_mem_cons.2 ⟨asc_le (asc_cat (asc_cat (asc_cat (show Asc 5 ("take " : Str) by decide +kernel) ab) (show Asc 1 (" " : Str) by decide +kernel)) an) (by decide), List.forall_mem_cons.2 ⟨asc_le (asc_cat (asc_cat (show Asc 5 ("jump " : Str) by decide +kernel) af) an) (by decide), List.forall_mem_cons.2 ⟨asc_le (asc_cat (asc_cat (asc_cat (asc_cat a2 af) ab) (show Asc 1 (" " : Str) by decide +kernel)) an) (by decide), List.forall_mem_cons.2 ⟨asc_le (asc_cat (asc_cat a3 af) an) (by decide), List.forall_mem_cons.2 ⟨asc_le (asc_cat (asc_cat (asc_cat (asc_cat (asc_cat (show Asc 6 ("table " : Str) by decide +kernel) ab) (show Asc 1 (" " : Str) by decide +kernel)) an) (show Asc 1 (" " : Str) by decide +kernel)) ac) (by decide), List.forall_mem_nil _⟩⟩⟩⟩⟩⟩⟩⟩⟩⟩⟩⟩⟩⟩ : ∀ u ∈ ([("stop" : Str), ("back" : Str), (("halt " : Str) ++ tn), (((("set " : Str) ++ tb) ++ (" -1" : Str)) ++ tn), (((("more " : Str) ++ tb) ++ (" " : Str)) ++ tn), (((u1 ++ tb) ++ (" " : Str)) ++ tc), (("tell " : Str) ++ tb), (((("see " : Str) ++ tb) ++ (" " : Str)) ++ tn), (((("put " : Str) ++ tb) ++ (" " : Str)) ++ tn), (((("take " : Str) ++ tb) ++ (" " : Str)) ++ tn), ((("jump " : Str) ++ fr) ++ tn), ((((u2 ++ fr) ++ tb) ++ (" " : Str)) ++ tn), ((u3 ++ fr) ++ tn), (((((("table " : Str) ++ tb) ++ (" " : Str)) ++ tn) ++ (" " : Str)) ++ tc)] : List Str), Asc 60 u) u hu
    exact ⟨_, rfl, _, rfl, q5, _, _, .str u, rfl, rfl, SqL.of y5, hat, fin u _ au xq5⟩
end
end My


set_option Elab.async false
set_option linter.all false
set_option maxRecDepth 100000
namespace My
open PySem L2
/-- what is read of the lines is, shown, the very lines -/
theorem lines_read : ∀ (ls : List Str) (ths : List Th), (ls.map fun y => readR (Txt.split y " ")) = ths.map some → ∃ ds : List D3, (∀ d ∈ ds, GoodD d.1 d.2.1 d.2.2) ∧ ths = ds.map (fun d => rowT d.1 d.2.1 (d.2.2.map some)) ∧ ds.map lineS = ls
  | [], [], _ => ⟨[], fun d h => (List.not_mem_nil h).elim, rfl, rfl⟩
  | [], _ :: _, h => by cases h
  | _ :: _, [], h => by cases h
  | y :: ls, th :: ths, h => by
    obtain ⟨h1, h2⟩ := List.cons.inj h
    obtain ⟨ds, g, e, m⟩ := lines_read ls ths h2
    obtain ⟨d, gd, ed, ld⟩ := readR_D h1
    refine ⟨d :: ds, fun x hx => ?_, ?_, ?_⟩
    · rcases List.mem_cons.mp hx with rfl | hx
      · exact gd
      · exact g x hx
    · rw [List.map_cons, ← e, ← ed]
    · rw [List.map_cons, m]
      refine congrArg (· :: ls) ?_
      unfold lineS
      rw [ld]
      exact (StrLaws.glued_eq_join _ _).trans (StrLaws.join_split y " ")
theorem text_read {x : Str} {ths : List Th} (h : linesR x = ths.map some) : ∃ ds : List D3, (∀ d ∈ ds, GoodD d.1 d.2.1 d.2.2) ∧ ths = ds.map (fun d => rowT d.1 d.2.1 (d.2.2.map some)) ∧ ds.map lineS = Txt.split x "\n" ∧ textS ds = x := by
  obtain ⟨ds, g, e, m⟩ := lines_read _ ths h
  refine ⟨ds, g, e, m, ?_⟩
  unfold textS
  rw [m]
  exact (StrLaws.glued_eq_join _ _).trans (StrLaws.join_split x "\n")
theorem join_sum (sep : Str) : ∀ l : List Str, (l.map (·.length)).sum ≤ (Str.join sep l).length
  | [] => Nat.le_refl 0
  | [x] => by simp [Str.join]
  | x :: y :: l => by
    have ih := join_sum sep (y :: l)
    have e : (Str.join sep (x :: y :: l)).length = x.length + (sep.length + (Str.join sep (y :: l)).length) := by
      show (x ++ sep ++ Str.join sep (y :: l)).cps.size = _
      show ((x.cps ++ sep.cps) ++ (Str.join sep (y :: l)).cps).size = _
      rw [Array.size_append, Array.size_append]
      show x.length + sep.length + (Str.join sep (y :: l)).length = _
      omega
    rw [e, List.map_cons, List.sum_cons]
    omega
/-- the lines of a text can be put together again -/
theorem lines_join {x : Str} (h : x.cps.size ≤ 400000) : JoinOk "\n" (Txt.split x "\n") = true := by
  have e := join_sum "\n" (Txt.split x "\n")
  rw [StrLaws.join_split x "\n"] at e
  have c : (Txt.split x "\n").length ≤ x.cps.size + 1 := split_cnt (c := 10) x
  have s : x.length = x.cps.size := rfl
  refine join_ok ?_
  show _ + (Txt.split x "\n").length * 1 ≤ 2 ^ 24
  omega
end My


set_option Elab.async false
set_option linter.all false
set_option maxRecDepth 100000
set_option maxHeartbeats 4000000
namespace My
open PySem L2
theorem table_ne {u : Str} {f : Int} {ns : List Int} (h : GoodD u f ns) (e : u = "table") : ns ≠ [] := fun z => by
  subst z
  subst e
  have := h.2.1
  have z : rowP (rowT "table" f (([] : List Int).map some)) = areP ["box", "targets"] [.tup []] := rfl
  rw [z] at this
  exact absurd this (by decide)
theorem shown_ok {H : Hp} {ys : List V} {ds : List D3} (hg : ∀ d ∈ ds, GoodD d.1 d.2.1 d.2.2)
    (h : ∀ (i : Nat) v th, ys[i]? = some v → (ds.map fun d => rowT d.1 d.2.1 (d.2.2.map some))[i]? = some th → ThAt H v th) : ∀ (i : Nat) x d, ys[i]? = some x → ds[i]? = some d → ∃ q ks, x = .ref q ∧ RowIs H q d.1 d.2.1 d.2.2 ∧ (d.1, ks) ∈ kinds ∧ d.2.2.length ≤ 50 ∧ ∀ i ∈ d.2.2, i.natAbs < 10 ^ 12 := fun i x d h1 h2 => by
  have g := hg d (List.mem_of_getElem? h2)
  have t := h i x (rowT d.1 d.2.1 (d.2.2.map some)) h1 (by rw [List.getElem?_map, h2]; rfl)
  obtain ⟨q, xs, rfl, r⟩ := id t
  obtain ⟨⟨ks, hk⟩, _, hl, hb, _⟩ := id g
  exact ⟨q, ks, rfl, row_is t (table_ne g), hk, by omega, fun i hi => Nat.lt_of_le_of_lt (hb i hi) (by decide)⟩
theorem cut_ints (ns : List Int) (a b : Option Int) : ∃ ms : List Int, cutV (ns.map V.int) a b = ms.map V.int := by
  unfold cutV
  exact ⟨_, by rw [← List.map_drop, ← List.map_take]⟩
theorem sqL_same {K : PySem.W.Frag} {H H' : Hp} {a : Addr} {xs : List V} (e : Same H H') (h : SqL K H a xs) : SqL K H' a xs := by
  rcases h with (h | ⟨o, h⟩) | h
  · exact .inl (.inl (e _ _ h))
  · exact .inl (.inr ⟨o, e _ _ h⟩)
  · exact .inr h
theorem asc_join {ls : List Str} {n k : Nat} (h : ∀ x ∈ ls, Asc n x) (hl : ls.length ≤ k) : Asc (k * (n + 1)) (Txt.join "\n" ls) := by
  have e : Txt.join "\n" ls = Str.join ⟨#[10]⟩ ls := tjoin 10 _
  rw [e]
  refine ⟨?_, Nat.le_trans (join_size fun p hp => (h p hp).2) (Nat.mul_le_mul_right _ hl)⟩
  rw [Array.all_eq_true_iff_forall_mem]
  intro d hd
  apply decide_eq_true
  rcases join_signs (Array.mem_def.mp hd) with rfl | ⟨p, hp, hc⟩
  · decide
  · have := (h p hp).1
    rw [Array.all_eq_true_iff_forall_mem] at this
    exact of_decide_eq_true (this d (Array.mem_def.mpr hc))
/-! ### the lines that show no row -/
def noR (rs : List (Option Th)) (j : Nat) : Bool := match rs[j]? with
  | some none => true
  | _ => false
def badI (rs : List (Option Th)) (i : Nat) : List Nat := (List.range i).filter (noR rs)
theorem badI_succ (rs : List (Option Th)) (i : Nat) : badI rs (i + 1) = if noR rs i = true then badI rs i ++ [i] else badI rs i := by
  unfold badI
  rw [List.range_succ, List.filter_append]
  cases h : noR rs i <;> simp [h]
theorem bad_nil {rs : List (Option Th)} (h : badI rs rs.length = []) : ∃ ths : List Th, rs = ths.map some := by
  have key : ∀ x ∈ rs, x ≠ none := fun x hx z => by
    obtain ⟨i, hi, e⟩ := List.getElem_of_mem hx
    have : noR rs i = true := by
      unfold noR
      rw [List.getElem?_eq_getElem hi, e, z]
    have hm : i ∈ badI rs rs.length := List.mem_filter.mpr ⟨List.mem_range.mpr hi, this⟩
    rw [h] at hm
    cases hm
  clear h
  induction rs with
  | nil => exact ⟨[], rfl⟩
  | cons x r ih =>
    obtain ⟨ths, e⟩ := ih fun y hy => key y (List.mem_cons_of_mem _ hy)
    cases x with
    | none => exact absurd rfl (key none (by simp))
    | some th => exact ⟨th :: ths, by rw [e]; rfl⟩
theorem bad_cons {rs : List (Option Th)} {r : Nat} {t : List Nat} (h : badI rs rs.length = r :: t) : rs[r]? = some none ∧ ∀ j, j < r → ∃ th, rs[j]? = some (some th) := by
  have h1 : (badI rs rs.length).head? = some r := by rw [h]; rfl
  unfold badI at h1
  rw [List.head?_filter, List.find?_range_eq_some] at h1
  obtain ⟨p, hm, hlt⟩ := h1
  have hr := List.mem_range.mp hm
  refine ⟨?_, fun j hj => ?_⟩
  · unfold noR at p
    split at p
    · assumption
    · cases p
  · have := hlt j hj
    have hj2 : j < rs.length := by omega
    cases e : rs[j] with
    | none =>
      unfold noR at this
      rw [List.getElem?_eq_getElem hj2, e] at this
      cases this
    | some th => exact ⟨th, by rw [List.getElem?_eq_getElem hj2, e]⟩
def bndT : Nat → Nat
  | 0 => 1300
  | 1 => 5300
  | 2 => 21300
  | _ => 85300
section
variable {P : Program} {w : World} {K : PySem.W.Frag} {mg : Str → Option Value} {base : Heap}
variable {cNT cRE fI : Addr}
def spLaw : Sp := fun vs H Q _ => ∃ (a : Addr) (ns : List Int), vs = [.ref a] ∧ SqL K H a (ns.map V.int) ∧ ns.length ≤ 63 ∧ ∀ H', Q (.bl true) H'
theorem scLaw : FnScope ["_law_script", "_law_text", "_law_more", "_law_k", "_law_lines", "_law_bad", "_law_at", "_law_told", "e"] ["_law_script"] (defScope sLaw) := ⟨rfl, rfl, rfl, by decide +kernel, rfl, by decide +kernel, by decide +kernel⟩
def csLawC1 : Scope := { kind := .function, names := [(".0", .local), ("_law_cell", .local), ("_law_line", .globalImplicit)], isGenerator := false, isCoroutine := false, more := [] }
theorem scLawC1 : CompSc (defScope sLaw) csLawC1 ["_law_script", "_law_text", "_law_more", "_law_k", "_law_lines", "_law_bad", "_law_at", "_law_told", "e"] ["_law_cell"] [none] := ⟨rfl, by decide +kernel, by decide +kernel, by decide +kernel, by decide +kernel, by decide +kernel⟩
def csLawC2 : Scope := { kind := .function, names := [(".0", .local), ("_law_number", .local), ("_law_shows", .globalImplicit), ("_law_lines", .free)], isGenerator := false, isCoroutine := false, more := [] }
theorem scLawC2 : CompSc (defScope sLaw) csLawC2 ["_law_script", "_law_text", "_law_more", "_law_k", "_law_lines", "_law_bad", "_law_at", "_law_told", "e"] ["_law_number", "_law_lines"] [none, some 4] := ⟨rfl, by decide +kernel, by decide +kernel, by decide +kernel, by decide +kernel, by decide +kernel⟩
theorem ok_law {f fL fC fB fW fS fD : Addr} {fd fdL fdC fdB fdW fdS fdD : FuncData} (F : Fun K "law" "law" sLaw f fd) (T : Txt K w.params mg) (cx : XIni K cNT cRE fI) (mNT : mg "NoText" = some (.ref cNT)) (exm : PySem.W.exmOne K (.ref cNT) (.ref cNT) = some true) (GL : FnOk P w K mg base CX0 2 fL fdL ["_law_cell"] spLine) (kL : PySem.W.keepIn K (.ref fL) = true) (bL : Binds K fdL ["_law_cell"] []) (mL : mg "_law_line" = some (.ref fL)) (GC : FnOk P w K mg base CX0 1 fC fdC ["_law_script", "_law_k"] (spCell (K := K))) (kC : PySem.W.keepIn K (.ref fC) = true) (bC : Binds K fdC ["_law_script", "_law_k"] []) (mC : mg "_law_cell_at" = some (.ref fC)) (GB : FnOk P w K mg base CX0 1 fB fdB ["_law_text", "_law_cell"] spBent) (kB : PySem.W.keepIn K (.ref fB) = true) (bB : Binds K fdB ["_law_text", "_law_cell"] []) (mB : mg "_law_bent" = some (.ref fB)) (GW : FnOk P w K mg base CX0 3 fW fdW ["_law_line_here"] spShows) (kW : PySem.W.keepIn K (.ref fW) = true) (bW : Binds K fdW ["_law_line_here"] []) (mW : mg "_law_shows" = some (.ref fW)) (GS : FnOk P w K mg base CX0 3 fS fdS ["rows"] spShs) (kS : PySem.W.keepIn K (.ref fS) = true) (bS : Binds K fdS ["rows"] []) (mS : mg "shown_rows" = some (.ref fS)) (GD : FnOk P w K mg base (CX2 P w) 8 fD fdD ["text"] (spRds (K := K) cNT)) (kD : PySem.W.keepIn K (.ref fD) = true) (bD : Binds K fdD ["text"] []) (mD : mg "read_rows" = some (.ref fD)) : FnOk P w K mg base CX0 9 f fd ["_law_script"] (spLaw (K := K)) := by
  refine F.ok scLaw (fun vs H Q E h => ?_) (fun cdv A outer s H vs Q E hr h => ?_)
  · obtain ⟨a, ns, rfl, _⟩ := h
    rfl
  · obtain ⟨a, ns, rfl, hS, hn, k⟩ := h
    have hrC : Room 1 (A.deeper (PyProof.Rows.envOfC "law" (defScope sLaw) s.heap.objs.size f cdv)) := hr.mono (by decide)
    have hrL : Room 2 (A.deeper (PyProof.Rows.envOfC "law" (defScope sLaw) s.heap.objs.size f cdv)) := hr.mono (by decide)
    have hrS : Room 3 (A.deeper (PyProof.Rows.envOfC "law" (defScope sLaw) s.heap.objs.size f cdv)) := hr.mono (by decide)
    have hu0 : (A.deeper (PyProof.Rows.envOfC "law" (defScope sLaw) s.heap.objs.size f cdv)).units + 6 < cLine := Nat.lt_of_le_of_lt (Nat.add_le_add_left (by decide : 6 ≤ 64) _) hr.units
    refine wrapX (pssx_cons (psx_of (ps_set (i := 1) scLaw.nd rfl (Or.inl rfl) (pe_bm PySem.F.plainAttrs_str PySem.F.slot_str_join PySem.F.type_str_join mt_join pe_str (pa_cons (pe_op op_cat (pe_comp (N' := ["_law_cell"]) (fr := [none]) scLawC1 rfl (pi_list (pe_slice sl_list (pv 0) (po_some pe_int) (po_some pe_int))) (fun C s0 H0 fp => (pg_name (i := 0) scLawC1.nd rfl (Or.inl rfl))) (fun C s0 H0 fp => pts_nil) (fun C s0 H0 fp => (pe_call GL hrL (by rfl) mL kL bL .nil pass0 (pa_cons (pv 0) pa_nil)))) (pe_lst (pa_cons pe_str pa_nil))) pa_nil))))
      (pssx_cons (psx_of (ps_set (i := 2) scLaw.nd rfl (Or.inl rfl) (pe_op op_mod (pe_op op_mul (pe_op op_fdivB (pe_call GC hrC (by rfl) mC kC bC .nil pass0 (pa_cons (pv 0) (pa_cons pe_int pa_nil))) pe_int) pe_int) pe_int)))
      (pssx_cons (psx_of (ps_for PassesOwn.never rfl (pi_range1 rfl T.range (pa_cons (pe_op op_add pe_int (pe_op op_mod (pe_call GC hrC (by rfl) mC kC bC .nil pass0 (pa_cons (pv 0) (pa_cons pe_int pa_nil))) pe_int)) pa_nil)) (pg_name (i := 3) scLaw.nd rfl (Or.inl rfl)) (pss_one (ps_set (i := 1) scLaw.nd rfl (Or.inl rfl) (pe_call GB hrC (by rfl) mB kB bB .nil pass0 (pa_cons (pv 1) (pa_cons (pe_op op_add (pe_op op_mul (pv 2) (pe_op op_add (pv 3) pe_int)) (pe_call GC hrC (by rfl) mC kC bC .nil pass0 (pa_cons (pv 0) (pa_cons (pe_op op_add pe_int (pe_op op_mod (pv 3) pe_int)) pa_nil)))) pa_nil)))))))
      (pssx_cons (psx_of (ps_set (i := 4) scLaw.nd rfl (Or.inr rfl) (pe_bm PySem.F.plainAttrs_str PySem.F.slot_str_split PySem.F.type_str_split mt_split (pv 1) (pa_cons pe_str pa_nil))))
      (pssx_cons (psx_of (ps_comp (i := 5) (N' := ["_law_number", "_law_lines"]) (fr := [none, some 4]) scLaw.nd rfl rfl scLawC2 rfl (pi_range1 rfl T.range (pa_cons (pe_callB call_len_seq (by rfl) T.len bt_len (pa_cons (pv 4) pa_nil)) pa_nil)) (fun C s0 H0 fp => (pg_name (i := 0) scLawC2.nd rfl (Or.inl rfl))) (fun C s0 H0 fp => (pts_one (pt_not (pt_val (pe_call GW hrS (by rfl) mW kW bW .nil pass0 (pa_cons (pe_ix (r := rIxL K) ix_list (pv 1) (pv 0) (fun _ _ => rfl)) pa_nil)))))) (fun C s0 H0 fp => (pv 0))))
      (pssx_cons (psx_of (ps_set (i := 6) scLaw.nd rfl (Or.inl rfl) pe_non))
      (pssx_cons (psx_of (ps_set (i := 7) scLaw.nd rfl (Or.inl rfl) pe_non))
      (pssx_mid (psx_of (ps_tryG (i := 8) (n := "e") (psr_set (i := 7) scLaw.nd rfl (Or.inl rfl) (per_arg (per_call (pa_cons (pv 1) pa_nil) (by rfl) mD kD) GS hrS (by rfl) mS kS bS)) GD hr bD .nil rfl rfl rfl rfl (by rfl) mNT scLaw.nd rfl rfl (fun ea => (pss_one (ps_set (i := 6) scLaw.nd rfl (Or.inl rfl) (pe_xat cx (pv 8)))))))
      (pssx_cons (psx_if (pt_cmpR (op_eqA hu0) (pv 5) (pe_lst pa_nil) (nomark _)) (pssx_one (psx_of (ps_ret (pe_and (pe_cmpR op_isN (pv 6) pe_non (nomark _)) (pe_one (pe_cmpR op_eq (pv 7) (pv 1) (nomark _))))))) (pssx_nil pss_nil))
      (pssx_one (psx_of (ps_ret (pe_and (pe_cmpR op_isN (pv 7) pe_non (nomark _)) (pe_and (pe_cmpR op_eq (pv 6) (pe_ix ix_list (pv 5) pe_int (fun _ _ => rfl)) (nomark _)) (pe_one (pe_not (pe_callB call_isinst (by rfl) T.isi bt_isi (pa_cons (pv 6) (pa_cons (pe_bltn (v := .ty "bool") (by rfl) T.bool bt_bool rfl) pa_nil))))))))))))))))))) ?_
    -- the lines
    refine ⟨rfl, _, rfl, 3, rfl, 23, rfl, a, _, rfl, hS, fun lc nc => ?_⟩
    have hlen : (cutV (ns.map V.int) (some 3) (some 23)).length ≤ 20 := by
      unfold cutV
      have h1 : HT.sIx (ns.map V.int).length 0 (some 3) = min 3 (ns.map V.int).length := HT.sIx_nat ..
      have h2 : HT.sIx (ns.map V.int).length (ns.map V.int).length (some 23) = min 23 (ns.map V.int).length := HT.sIx_nat ..
      rw [List.length_take, h1, h2]
      omega
    obtain ⟨ms, hms⟩ := cut_ints ns (some 3) (some 23)
    rw [hms] at hlen ⊢
    rw [List.length_map] at hlen
    have s1 := same_new (o := .lst (ms.map V.int)) nc
    have h1 : upd H lc (.lst (ms.map V.int)) lc = _ := upd_same
    generalize upd H lc (.lst (ms.map V.int)) = H1 at s1 h1 ⊢
    have sq : ∀ {H' : Hp}, Same H H' → SqL K H' a (ns.map V.int) := fun e => sqL_same e hS
    refine ⟨lc, rfl, ⟨_, SqL.of h1⟩, fun D nD => comp_list (K := K) (a := lc) (xs := ms.map V.int) (fun i σ ys H2 => ∃ (v : Option V) (ls : List Str), σ = [v] ∧ ys = ls.map V.str ∧ ls.length = i ∧ (∀ x ∈ ls, Asc 60 x) ∧ Same H1 H2 ∧ H2 D = some (.lst ys)) ?_ ?_ ?_ ?_⟩
    · exact ⟨none, [], rfl, rfl, rfl, fun x h => by simp at h, same_new nD, upd_same⟩
    · rintro i σ ys H2 _ ⟨v, ls, rfl, rfl, hl, hg, s2, hD⟩
      exact SqL.of (s2 _ _ h1)
    · rintro i x σ ys H2 hx ⟨v, ls, rfl, rfl, hl, hg, s2, hD⟩
      rw [List.getElem?_map] at hx
      obtain ⟨c, hc, rfl⟩ := Option.map_eq_some_iff.mp hx
      have hil := (List.getElem?_eq_some_iff.mp hc).1
      refine ⟨_, rfl, c, rfl, fun x H3 g s3 => ⟨s3 _ _ hD, small1000 (by rw [List.length_map]; omega), _, ls ++ [x], rfl, by simp, by simp [hl], fun y hy => ?_, same_put (s2.trans s3) nD, upd_same⟩⟩
      rcases List.mem_append.mp hy with hy | hy
      · exact hg y hy
      · rw [List.mem_singleton.mp hy]; exact g
    · rintro σ ys H2 ⟨v, ls0, rfl, rfl, hl0, hg0, s2, hD⟩
      rw [List.length_map] at hl0
      refine ⟨Nat.le_of_ble_eq_true rfl, fun l1 n1 => ?_⟩
      refine ⟨D, l1, _, _, rfl, rfl, same_new n1 _ _ hD, upd_same, small_len (by simp; omega), fun ll nl => ?_⟩
      obtain ⟨ls, hls⟩ : ∃ ls : List Str, ls = ls0 ++ [("back" : Str)] := ⟨_, rfl⟩
      have e0 : ls0.map V.str ++ [V.str "back"] = ls.map V.str := by rw [hls]; simp
      rw [e0]
      have hgood : ∀ x ∈ ls, Asc 60 x := fun x hx => by
        rw [hls] at hx
        rcases List.mem_append.mp hx with hx | hx
        · exact hg0 x hx
        · rw [List.mem_singleton.mp hx]
          decide +kernel
      have hll : ls.length ≤ 21 := by rw [hls]; simp; omega
      have s3 := s1.trans (s2.trans ((same_new (o := .lst [V.str "back"]) n1).trans (same_new (o := .lst (ls.map V.str)) nl)))
      have h3 : upd (upd H2 l1 (.lst [V.str "back"])) ll (.lst (ls.map V.str)) ll = _ := upd_same
      generalize upd (upd H2 l1 (.lst [V.str "back"])) ll (.lst (ls.map V.str)) = H3 at s3 h3 ⊢
      clear hls e0 hg0 hl0 hD s2 h1 s1
      have jok : JoinOk "\n" ls = true := by
        refine join_ok (small_len ?_)
        have h1 : (ls.map (·.length)).sum ≤ ls.length * 60 := sum_le fun t ht => (hgood t ht).2
        show _ + _ * 1 ≤ 1000000
        omega
      refine ⟨"\n", ll, ls, rfl, rfl, SqL.of h3, jok, ?_⟩
      have ax : Asc 1300 (Txt.join "\n" ls) := asc_le (asc_join hgood hll) (by decide)
      generalize Txt.join "\n" ls = x0 at ax ⊢
      clear hgood jok hll
      -- how it is bent
      refine ⟨_, rfl, a, ns, 0, rfl, sq s3, by decide, fun c => ?_⟩
      refine ⟨_, _, rfl, rfl, ⟨by show (0 : Int) < 3; decide, by show (3 : Int) < _; decide⟩, _, _, rfl, rfl, .inr ⟨by decide, by decide⟩, _, _, rfl, rfl, (by show (0 : Int) < 2147483647; decide), ?_⟩
      obtain ⟨mo, emo, hmo⟩ : ∃ mo : Int, c / 3 * 31 % 2147483647 = mo ∧ 0 ≤ mo ∧ mo < 2147483647 := ⟨_, rfl, Int.emod_nonneg _ (by decide), Int.emod_lt_of_pos _ (by decide)⟩
      subst emo
      refine ⟨_, rfl, a, ns, 0, rfl, sq s3, by decide, fun c2 => ?_⟩
      refine ⟨_, _, rfl, rfl, (by show (0 : Int) < 3; decide), _, _, rfl, rfl, ?_⟩
      have hc2 : 0 ≤ c2 % 3 ∧ c2 % 3 < 3 := ⟨Int.emod_nonneg _ (by decide), Int.emod_lt_of_pos _ (by decide)⟩
      refine ⟨_, rfl, by show -(2 ^ 62) ≤ 1 + c2 % 3; omega, by show 1 + c2 % 3 < 2 ^ 62; omega, ?_⟩
      refine for_range (lo := 0) (n := (1 + c2 % 3).toNat) (fun i σ G => ∃ (x : Str) (v3 : Option V), σ = [some (.ref a), some (.str x), some (.int (c / 3 * 31 % 2147483647)), v3, none, none, none, none, none] ∧ Asc (bndT i) x ∧ G = H3) ?_ ?_ ?_
      · exact ⟨x0, none, rfl, ax, rfl⟩
      · rintro i σ G hi ⟨x, v3, rfl, ai, rfl⟩
        have hi3 : i < 3 := by omega
        refine ⟨_, rfl, _, rfl, _, rfl, _, _, rfl, rfl, _, _, rfl, rfl, .inl ⟨by omega, by omega⟩, _, rfl, _, rfl, _, _, rfl, rfl, (by show (0 : Int) < 2; decide), _, _, rfl, rfl, a, ns, _, rfl, sq s3, ?_, fun c3 => ?_⟩
        · have : 0 ≤ (0 + (i : Int)) % 2 := Int.emod_nonneg _ (by decide)
          omega
        refine ⟨_, _, rfl, rfl, x, _, bndT i, rfl, ai, ?_, fun y ay => ?_⟩
        · match i, hi3 with
          | 0, _ => decide
          | 1, _ => decide
          | 2, _ => decide
        refine ⟨y, _, rfl, asc_le ay ?_, rfl⟩
        match i, hi3 with
        | 0, _ => decide
        | 1, _ => decide
        | 2, _ => decide
      · rintro σ G ⟨x, v3, rfl, ai, rfl⟩
        have ax1 : Asc 85300 x := by
          refine asc_le ai ?_
          have : (1 + c2 % 3).toNat ≤ 3 := by omega
          generalize (1 + c2 % 3).toNat = q at this
          match q, this with
          | 0, _ => decide
          | 1, _ => decide
          | 2, _ => decide
          | 3, _ => decide
        clear ai ax
        have hz : x.cps.size ≤ 400000 := Nat.le_trans ax1.2 (by decide)
        -- its lines
        refine ⟨_, rfl, rfl, x, "\n", rfl, rfl, by decide, Nat.lt_of_le_of_lt (show x.cps.size ≤ 400000 from hz) (by decide), fun lL nL => ?_⟩
        have hcnt : (Txt.split x "\n").length ≤ x.cps.size + 1 := split_cnt (c := 10) x
        have hmem : ∀ q ∈ Txt.split x "\n", q.cps.all (· < 128) = true ∧ q.cps.size ≤ 400000 := fun q hq => ⟨split_asc (c := 10) ax1.1 hq, Nat.le_trans (split_mem (c := 10) hq).2 hz⟩
        have s4 := same_new (o := .lst ((Txt.split x "\n").map V.str)) nL
        have h4 : upd G lL (.lst ((Txt.split x "\n").map V.str)) lL = _ := upd_same
        generalize upd G lL (.lst ((Txt.split x "\n").map V.str)) = H4 at s4 h4 ⊢
        have hcnt2 : (Txt.split x "\n").length ≤ 85301 := Nat.le_trans hcnt (Nat.add_le_add_right ax1.2 1)
        have hrl : (linesR x).length = (Txt.split x "\n").length := by unfold linesR; rw [List.length_map]
        -- those that show no row
        refine ⟨_, rfl, lL, _, rfl, .inl (SqL.of h4), ?_⟩
        rw [List.length_map]
        refine ⟨_, rfl, by omega, by omega, fun D2 nD2 => comp_range (n := (Txt.split x "\n").length) (fun i σ ys G => ∃ v : Option V, σ = [v, some (.ref lL)] ∧ ys = (badI (linesR x) i).map (fun j : Nat => V.int (j : Int)) ∧ Same H4 G ∧ G D2 = some (.lst ys)) ?_ ?_ ?_⟩
        · exact ⟨none, rfl, rfl, same_new nD2, upd_same⟩
        · rintro i σ ys G2 hi ⟨v, rfl, rfl, s5, hD2⟩
          have e0 : (0 : Int) + (i : Int) = (i : Int) := by omega
          rw [e0]
          have hy : (Txt.split x "\n")[i]? = some (Txt.split x "\n")[i] := List.getElem?_eq_getElem hi
          generalize (Txt.split x "\n")[i] = y at hy
          obtain ⟨ay, zy⟩ := hmem y (List.mem_of_getElem? hy)
          refine ⟨_, rfl, _, rfl, lL, _, _, .str y, rfl, rfl, SqL.of (s5 _ _ h4), atI_nat (j := i) (by rw [List.getElem?_map, hy]; rfl), y, rfl, ay, zy, fun G3 s6 => ⟨_, rfl, ?_⟩⟩
          have hr0 : (linesR x)[i]? = some (readR (Txt.split y " ")) := by unfold linesR; rw [List.getElem?_map, hy]; rfl
          have hno : noR (linesR x) i = !(readR (Txt.split y " ")).isSome := by
            unfold noR
            rw [hr0]
            cases readR (Txt.split y " ") <;> rfl
          refine ite2 (fun e => ?_) (fun e => ?_)
          · refine ⟨_, rfl, s6 _ _ hD2, ?_, _, rfl, ?_, same_put (s5.trans s6) nD2, upd_same⟩
            · rw [List.length_map]
              refine Nat.lt_of_le_of_lt (Nat.le_trans (List.length_filter_le _ _) (show (List.range i).length ≤ 85301 by rw [List.length_range]; omega)) (by decide)
            · rw [badI_succ, if_pos (hno.trans e), List.map_append]
              rfl
          · refine ⟨_, rfl, ?_, s5.trans s6, s6 _ _ hD2⟩
            rw [badI_succ, if_neg (fun z => e (hno.symm.trans z))]
        · rintro σ ys G2 ⟨v, rfl, rfl, s5, hD2⟩
          rw [← hrl] at hD2
          refine ⟨fun σ G3 => ∃ (at_ : V) (v8 : Option V), σ = [some (.ref a), some (.str x), some (.int (c / 3 * 31 % 2147483647)), v3, some (.ref lL), some (.ref D2), some at_, some (match badI (linesR x) (linesR x).length with | [] => .str x | _ :: _ => .non), v8] ∧ at_ = (match badI (linesR x) (linesR x).length with | [] => .non | r :: _ => .int (r : Int)) ∧ Same G2 G3, ?_, ?_⟩
          · refine ⟨_, rfl, _, rfl, .inl ⟨x, rfl, ax1.1, hz, fun ths e l ys H' s6 nl hl hyl hth => ?_, fun r hn hp H' d s6 hd => ?_⟩⟩
            · obtain ⟨ds, g, e1, e2, e3⟩ := text_read e
              subst e1
              have hb : badI (linesR x) (linesR x).length = [] := by
                cases hb : badI (linesR x) (linesR x).length with
                | nil => rfl
                | cons r t =>
                  have := (bad_cons hb).1
                  rw [e, List.getElem?_map] at this
                  obtain ⟨y, _, z⟩ := Option.map_eq_some_iff.mp this
                  cases z
              rw [hb]
              have hlen2 : ys.length = ds.length := by rw [hyl, List.length_map]
              have hdl : ds.length = (Txt.split x "\n").length := by rw [← e2, List.length_map]
              have jok : JoinOk "\n" (ds.map fun d => Txt.join " " (lineW d.1 d.2.1 d.2.2)) = true := by
                have := lines_join hz
                rw [← e2] at this
                exact this
              refine ⟨l, ys, ds, rfl, hl, hlen2, by omega, shown_ok g hth, jok, fun H2 s7 => ⟨.non, none, ?_, rfl, s6.trans s7⟩⟩
              have e4 : Txt.join "\n" (ds.map fun d => Txt.join " " (lineW d.1 d.2.1 d.2.2)) = x := e3
              rw [e4]
              rfl
            · refine ⟨exm, fun ea hea => ?_⟩
              have s8 := same_new (o := excD ea (.ref cNT) (some d)) hea
              have hb : ∃ t, badI (linesR x) (linesR x).length = r :: t := by
                cases hb : badI (linesR x) (linesR x).length with
                | nil =>
                  obtain ⟨ths, e⟩ := bad_nil hb
                  rw [e, List.getElem?_map] at hn
                  obtain ⟨y, _, z⟩ := Option.map_eq_some_iff.mp hn
                  cases z
                | cons r' t =>
                  obtain ⟨h1, h2⟩ := bad_cons hb
                  refine ⟨t, congrArg (· :: t) ?_⟩
                  rcases Nat.lt_trichotomy r r' with z | z | z
                  · obtain ⟨th, e⟩ := h2 r z
                    rw [hn] at e
                    cases e
                  · exact z.symm
                  · obtain ⟨th, e⟩ := hp r' z
                    rw [h1] at e
                    cases e
              obtain ⟨t, hb⟩ := hb
              rw [hb]
              exact ⟨_, rfl, ea, d, r, rfl, upd_same, s8 _ _ hd, _, _, rfl, rfl, s6.trans s8⟩
          · rintro σ G3 ⟨at_, v8, rfl, ha, s6⟩
            have h5 := s6 _ _ hD2
            refine ⟨_, rfl, Nat.le_of_ble_eq_true rfl, fun le ne => ?_⟩
            have s9 := same_new (o := .lst []) ne
            have h9 := s9 _ _ h5
            have h9e : upd G3 le (.lst []) le = _ := upd_same
            generalize upd G3 le (.lst []) = G4 at s9 h9 h9e ⊢
            refine ⟨1, D2, le, .lst ((badI (linesR x) (linesR x).length).map fun j : Nat => Da.int (j : Int)), .lst [], rfl, rfl, .lst (SqL.of h9) (by simp) (fun i y d h1 h2 => ?_), .lst (SqL.of h9e) rfl (fun i x d h => by simp at h), .lst (fun d hd => ?_), .lst (fun z hz => by cases hz), by decide, _, rfl, ?_⟩
            · rw [List.getElem?_map] at h1 h2
              obtain ⟨j, hj, rfl⟩ := Option.map_eq_some_iff.mp h1
              rw [hj] at h2
              cases h2
              exact .int _
            · obtain ⟨j, _, rfl⟩ := List.mem_map.mp hd
              exact .int
            cases hb : badI (linesR x) (linesR x).length with
            | nil =>
              rw [hb] at ha
              subst ha
              refine iteP (by decide) ?_
              refine ⟨_, rfl, rfl, _, rfl, iteP rfl ?_⟩
              refine ⟨_, rfl, _, rfl, rfl, ?_⟩
              have kk := k G4
              rw [← (decide_eq_true rfl : decide (V.str x = V.str x) = true)] at kk
              exact kk
            | cons r t =>
              rw [hb] at ha h9
              subst ha
              refine iteN (by simp) ?_
              refine ⟨_, rfl, rfl, _, rfl, iteP rfl ?_⟩
              refine ⟨_, rfl, _, rfl, D2, _, _, .int (r : Int), rfl, rfl, SqL.of h9, at0 _ _, rfl, _, rfl, iteP (decide_eq_true rfl) ?_⟩
              refine ⟨_, rfl, _, _, _, _, rfl, .int _, k_int_bool, ?_⟩
              exact ⟨_, rfl, k _⟩
end
end My


set_option Elab.async false
set_option linter.all false
set_option maxRecDepth 100000
set_option maxHeartbeats 4000000
namespace My
open PySem L2
def keyS (e : DictEntry) : Str := match e.key with
  | .str x _ => x
  | _ => ""
theorem khas_none {K : PySem.W.Frag} {P : Params} {p : Addr} {es : Array DictEntry} {n : Nat} {ks : List Str} {u : Str} (lP : K.lookup p = some ⟨.type "dict", none, .dict es n, #[]⟩) (kP : PySem.W.KeysLit P es.toList) (oP : (p == sysModules) = false)
    (hk : es.toList.map keyS = ks) (hu : u ∉ ks) : KHas K P p u none := by
  refine ⟨es, n, lP, kP, oP, none, ?_, trivial⟩
  unfold PySem.W.nsIn
  rw [lP]
  dsimp only
  have h1 : es.toList.find? (fun e => e.key.isStr u) = none := by
    rw [List.find?_eq_none]
    intro e he z
    obtain ⟨x, t, e1, _⟩ := kP.all e he
    have : x = u := by
      rw [e1, PySem.W.isStr_of] at z
      obtain ⟨t', h'⟩ := Value.isStrOf_shape z
      injection h' with h1 _
    refine hu (hk ▸ List.mem_map.mpr ⟨e, he, ?_⟩)
    unfold keyS
    rw [e1]
    exact this
  have h2 : es.toList.any (fun e => e.refKey) = false := by
    rw [Bool.eq_false_iff]
    intro z
    obtain ⟨e, he, z⟩ := List.any_eq_true.mp z
    obtain ⟨x, t, e1, _⟩ := kP.all e he
    unfold DictEntry.refKey at z
    rw [e1] at z
    cases z
  rw [h1, h2]
  rfl
abbrev sXI : Stmt := inClass (top 2) 0
section
variable {P : Program} {w : World} {K : PySem.W.Frag} {mg : Str → Option Value} {base : Heap}
theorem scXI : FnScope ["self", "at"] ["self", "at"] (defScope sXI) := ⟨rfl, rfl, rfl, by decide +kernel, rfl, by decide +kernel, by decide +kernel⟩
theorem ok_xi {f C R : Addr} {fd : FuncData} (F : Fun K "__init__" "NoText.__init__" sXI f fd) (c : XIni K C R f) (hm : mg "RowError" = some (.ref R)) : FnOk P w K mg base CX0 1 f fd ["self", "at"] (spXI C) := by
  refine F.ok scXI (fun vs H Q E h => ?_) (fun cdv A outer s H vs Q E hr h => ?_)
  · obtain ⟨e, i, rfl, _⟩ := h
    rfl
  · obtain ⟨e, i, rfl, he, hi, k⟩ := h
    refine ⟨_, pss_cons (ps_expr (pe_xini c (by rfl) hm (pa_cons (pv 0) (pa_cons (pe_fstr (pv 1) (by decide)) pa_nil)))) (pss_one (ps_xat c (pv 0) (pv 1) rfl)), ?_⟩
    refine ⟨_, rfl, _, rfl, i, rfl, hi, fun u => ⟨e, _, rfl, he, ?_⟩⟩
    refine ⟨_, rfl, _, rfl, e, rfl, upd_same, fun d nd de => ?_⟩
    rw [upd3 de]
    rw [upd_ne de] at nd
    exact k d nd de
end
end My


set_option Elab.async false
set_option linter.all false
set_option maxRecDepth 100000
set_option maxHeartbeats 8000000
namespace PySem.W.Fast
def tw15963516411507309191 : Nat := 0
def tw14732998222213625053 : Nat := 0
def tw15297688135278445218 : Nat := 0
def tw17920311541753480490 : Nat := 0
def tw6228874472509755387 : Nat := 0
def tw3198155627434382482 : Nat := 0
def tw1029880241052489657 : Nat := 0
def tw5714011329996141382 : Nat := 0
def tw9252618294418953878 : Nat := 0
def tw1982064050120531512 : Nat := 0
def tw729526746559252841 : Nat := 0
def tw13620854683082057533 : Nat := 0
end PySem.W.Fast
namespace My
open PySem L2
theorem fa_nil {α : Type} {p : α → Prop} : ∀ x ∈ ([] : List α), p x := fun x h => absurd h (by simp)
theorem fa_cons {α : Type} {p : α → Prop} {a : α} {l : List α} (h : p a) (t : ∀ x ∈ l, p x) : ∀ x ∈ a :: l, p x := fun x hx => by
  rcases List.mem_cons.mp hx with rfl | hx
  · exact h
  · exact t x hx
/-! ### what the top has written, and the law's own head -/
theorem all_mk {l : PySem.W.OpenLaw} {w : World} {K : PySem.W.Frag} {h : Heap} {mg : Str → Option Value} {fa f0 f1 f2 f3 f4 f5 f6 f7 f8 f9 f10 f11 f12 f13 f14 f15 f16 f17 f18 f19 f20 f21 f22 : Addr} (X : K.In h) (G : h.Ns mainGlobals mg) (hfa : mg "law" = some (.ref fa))
    {od0 an0 od1 an1 od2 an2 od3 an3 od4 an4 od5 an5 od6 an6 od7 an7 od8 an8 od9 an9 od10 an10 od11 an11 od12 an12 od13 an13 od14 an14 od15 an15 od16 an16 od17 an17 od18 an18 od19 an19 od20 an20 od21 an21 od22 an22 : Option Addr} {sl0 sl1 sl2 sl3 sl4 sl5 sl6 sl7 sl8 sl9 sl10 sl11 sl12 sl13 sl14 sl15 sl16 sl17 sl18 sl19 sl20 sl21 sl22 : Array (Option Value)} {oc0 kV0 dc0 pm0 cd0 ct0 oc1 kV1 dc1 pm1 cd1 ct1 oc2 kV2 dc2 pm2 cd2 ct2 oc3 kV3 dc3 pm3 cd3 ct3 oc4 kV4 dc4 pm4 cd4 ct4 oc5 kV5 dc5 pm5 cd5 ct5 oc6 kV6 dc6 pm6 cd6 ct6 oc7 kV7 dc7 pm7 cd7 ct7 oc8 kV8 dc8 pm8 cd8 ct8 oc9 kV9 dc9 pm9 cd9 ct9 oc10 kV10 dc10 pm10 cd10 ct10 oc11 kV11 dc11 pm11 cd11 ct11 oc12 kV12 dc12 pm12 cd12 ct12 oc13 kV13 dc13 pm13 cd13 ct13 oc14 kV14 dc14 pm14 cd14 ct14 oc15 kV15 dc15 pm15 cd15 ct15 oc16 kV16 dc16 pm16 cd16 ct16 oc17 kV17 dc17 pm17 cd17 ct17 oc18 kV18 dc18 pm18 cd18 ct18 oc19 kV19 dc19 pm19 cd19 ct19 oc20 kV20 dc20 pm20 cd20 ct20 oc21 kV21 dc21 pm21 cd21 ct21 oc22 kV22 dc22 pm22 cd22 ct22 : Value}
    (a0 : PySem.W.nsIn K mainGlobals "is_whole" = some (some (.ref f0))) (l0 : K.lookup f0 = some ⟨oc0, od0, .func (PySem.W.fnOf "is_whole" "is_whole" (defArgs sWhole) (defBody sWhole) (defScope sWhole) .none kV0 dc0 pm0 an0 cd0 ct0), sl0⟩) (c0 : PySem.W.codeIn K cd0 "is_whole" = true) (k0 : PySem.W.keepIn K (.ref f0) = true)
    (a1 : PySem.W.nsIn K mainGlobals "is_number_of" = some (some (.ref f1))) (l1 : K.lookup f1 = some ⟨oc1, od1, .func (PySem.W.fnOf "is_number_of" "is_number_of" (defArgs sNum) (defBody sNum) (defScope sNum) .none kV1 dc1 pm1 an1 cd1 ct1), sl1⟩) (c1 : PySem.W.codeIn K cd1 "is_number_of" = true) (k1 : PySem.W.keepIn K (.ref f1) = true)
    (a2 : PySem.W.nsIn K mainGlobals "is_targets" = some (some (.ref f2))) (l2 : K.lookup f2 = some ⟨oc2, od2, .func (PySem.W.fnOf "is_targets" "is_targets" (defArgs sTgts) (defBody sTgts) (defScope sTgts) .none kV2 dc2 pm2 an2 cd2 ct2), sl2⟩) (c2 : PySem.W.codeIn K cd2 "is_targets" = true) (k2 : PySem.W.keepIn K (.ref f2) = true)
    (a3 : PySem.W.nsIn K mainGlobals "is_part" = some (some (.ref f3))) (l3 : K.lookup f3 = some ⟨oc3, od3, .func (PySem.W.fnOf "is_part" "is_part" (defArgs sPart) (defBody sPart) (defScope sPart) .none kV3 dc3 pm3 an3 cd3 ct3), sl3⟩) (c3 : PySem.W.codeIn K cd3 "is_part" = true) (k3 : PySem.W.keepIn K (.ref f3) = true)
    (a4 : PySem.W.nsIn K mainGlobals "are_parts" = some (some (.ref f4))) (l4 : K.lookup f4 = some ⟨oc4, od4, .func (PySem.W.fnOf "are_parts" "are_parts" (defArgs sAre) (defBody sAre) (defScope sAre) .none kV4 dc4 pm4 an4 cd4 ct4), sl4⟩) (c4 : PySem.W.codeIn K cd4 "are_parts" = true) (k4 : PySem.W.keepIn K (.ref f4) = true)
    (a5 : PySem.W.nsIn K mainGlobals "word_of" = some (some (.ref f5))) (l5 : K.lookup f5 = some ⟨oc5, od5, .func (PySem.W.fnOf "word_of" "word_of" (defArgs sWord) (defBody sWord) (defScope sWord) .none kV5 dc5 pm5 an5 cd5 ct5), sl5⟩) (c5 : PySem.W.codeIn K cd5 "word_of" = true) (k5 : PySem.W.keepIn K (.ref f5) = true)
    (a6 : PySem.W.nsIn K mainGlobals "is_row" = some (some (.ref f6))) (l6 : K.lookup f6 = some ⟨oc6, od6, .func (PySem.W.fnOf "is_row" "is_row" (defArgs sIsRow) (defBody sIsRow) (defScope sIsRow) .none kV6 dc6 pm6 an6 cd6 ct6), sl6⟩) (c6 : PySem.W.codeIn K cd6 "is_row" = true) (k6 : PySem.W.keepIn K (.ref f6) = true)
    (a7 : PySem.W.nsIn K mainGlobals "has_far" = some (some (.ref f7))) (l7 : K.lookup f7 = some ⟨oc7, od7, .func (PySem.W.fnOf "has_far" "has_far" (defArgs sHasFar) (defBody sHasFar) (defScope sHasFar) .none kV7 dc7 pm7 an7 cd7 ct7), sl7⟩) (c7 : PySem.W.codeIn K cd7 "has_far" = true) (k7 : PySem.W.keepIn K (.ref f7) = true)
    (a8 : PySem.W.nsIn K mainGlobals "shown_row" = some (some (.ref f8))) (l8 : K.lookup f8 = some ⟨oc8, od8, .func (PySem.W.fnOf "shown_row" "shown_row" (defArgs sShownRow) (defBody sShownRow) (defScope sShownRow) .none kV8 dc8 pm8 an8 cd8 ct8), sl8⟩) (c8 : PySem.W.codeIn K cd8 "shown_row" = true) (k8 : PySem.W.keepIn K (.ref f8) = true)
    (a9 : PySem.W.nsIn K mainGlobals "shown_rows" = some (some (.ref f9))) (l9 : K.lookup f9 = some ⟨oc9, od9, .func (PySem.W.fnOf "shown_rows" "shown_rows" (defArgs sShownRows) (defBody sShownRows) (defScope sShownRows) .none kV9 dc9 pm9 an9 cd9 ct9), sl9⟩) (c9 : PySem.W.codeIn K cd9 "shown_rows" = true) (k9 : PySem.W.keepIn K (.ref f9) = true)
    (a10 : PySem.W.nsIn K mainGlobals "is_figures" = some (some (.ref f10))) (l10 : K.lookup f10 = some ⟨oc10, od10, .func (PySem.W.fnOf "is_figures" "is_figures" (defArgs sIsFig) (defBody sIsFig) (defScope sIsFig) .none kV10 dc10 pm10 an10 cd10 ct10), sl10⟩) (c10 : PySem.W.codeIn K cd10 "is_figures" = true) (k10 : PySem.W.keepIn K (.ref f10) = true)
    (a11 : PySem.W.nsIn K mainGlobals "read_number" = some (some (.ref f11))) (l11 : K.lookup f11 = some ⟨oc11, od11, .func (PySem.W.fnOf "read_number" "read_number" (defArgs sReadNum) (defBody sReadNum) (defScope sReadNum) .none kV11 dc11 pm11 an11 cd11 ct11), sl11⟩) (c11 : PySem.W.codeIn K cd11 "read_number" = true) (k11 : PySem.W.keepIn K (.ref f11) = true)
    (a12 : PySem.W.nsIn K mainGlobals "row_of_numbers" = some (some (.ref f12))) (l12 : K.lookup f12 = some ⟨oc12, od12, .func (PySem.W.fnOf "row_of_numbers" "row_of_numbers" (defArgs sRowOf) (defBody sRowOf) (defScope sRowOf) .none kV12 dc12 pm12 an12 cd12 ct12), sl12⟩) (c12 : PySem.W.codeIn K cd12 "row_of_numbers" = true) (k12 : PySem.W.keepIn K (.ref f12) = true)
    (a13 : PySem.W.nsIn K mainGlobals "read_row" = some (some (.ref f13))) (l13 : K.lookup f13 = some ⟨oc13, od13, .func (PySem.W.fnOf "read_row" "read_row" (defArgs sReadRow) (defBody sReadRow) (defScope sReadRow) .none kV13 dc13 pm13 an13 cd13 ct13), sl13⟩) (c13 : PySem.W.codeIn K cd13 "read_row" = true) (k13 : PySem.W.keepIn K (.ref f13) = true)
    (a14 : PySem.W.nsIn K mainGlobals "read_rows" = some (some (.ref f14))) (l14 : K.lookup f14 = some ⟨oc14, od14, .func (PySem.W.fnOf "read_rows" "read_rows" (defArgs sReadRows) (defBody sReadRows) (defScope sReadRows) .none kV14 dc14 pm14 an14 cd14 ct14), sl14⟩) (c14 : PySem.W.codeIn K cd14 "read_rows" = true) (k14 : PySem.W.keepIn K (.ref f14) = true)
    (a15 : PySem.W.nsIn K mainGlobals "_law_cell_at" = some (some (.ref f15))) (l15 : K.lookup f15 = some ⟨oc15, od15, .func (PySem.W.fnOf "_law_cell_at" "_law_cell_at" (defArgs sCell) (defBody sCell) (defScope sCell) .none kV15 dc15 pm15 an15 cd15 ct15), sl15⟩) (c15 : PySem.W.codeIn K cd15 "_law_cell_at" = true) (k15 : PySem.W.keepIn K (.ref f15) = true)
    (a16 : PySem.W.nsIn K mainGlobals "_law_digit" = some (some (.ref f16))) (l16 : K.lookup f16 = some ⟨oc16, od16, .func (PySem.W.fnOf "_law_digit" "_law_digit" (defArgs sDigit) (defBody sDigit) (defScope sDigit) .none kV16 dc16 pm16 an16 cd16 ct16), sl16⟩) (c16 : PySem.W.codeIn K cd16 "_law_digit" = true) (k16 : PySem.W.keepIn K (.ref f16) = true)
    (a17 : PySem.W.nsIn K mainGlobals "_law_line" = some (some (.ref f17))) (l17 : K.lookup f17 = some ⟨oc17, od17, .func (PySem.W.fnOf "_law_line" "_law_line" (defArgs sLine) (defBody sLine) (defScope sLine) .none kV17 dc17 pm17 an17 cd17 ct17), sl17⟩) (c17 : PySem.W.codeIn K cd17 "_law_line" = true) (k17 : PySem.W.keepIn K (.ref f17) = true)
    (a18 : PySem.W.nsIn K mainGlobals "_law_bent" = some (some (.ref f18))) (l18 : K.lookup f18 = some ⟨oc18, od18, .func (PySem.W.fnOf "_law_bent" "_law_bent" (defArgs sBent) (defBody sBent) (defScope sBent) .none kV18 dc18 pm18 an18 cd18 ct18), sl18⟩) (c18 : PySem.W.codeIn K cd18 "_law_bent" = true) (k18 : PySem.W.keepIn K (.ref f18) = true)
    (a19 : PySem.W.nsIn K mainGlobals "_law_is_number" = some (some (.ref f19))) (l19 : K.lookup f19 = some ⟨oc19, od19, .func (PySem.W.fnOf "_law_is_number" "_law_is_number" (defArgs sIsNumber) (defBody sIsNumber) (defScope sIsNumber) .none kV19 dc19 pm19 an19 cd19 ct19), sl19⟩) (c19 : PySem.W.codeIn K cd19 "_law_is_number" = true) (k19 : PySem.W.keepIn K (.ref f19) = true)
    (a20 : PySem.W.nsIn K mainGlobals "_law_fits" = some (some (.ref f20))) (l20 : K.lookup f20 = some ⟨oc20, od20, .func (PySem.W.fnOf "_law_fits" "_law_fits" (defArgs sFits) (defBody sFits) (defScope sFits) .none kV20 dc20 pm20 an20 cd20 ct20), sl20⟩) (c20 : PySem.W.codeIn K cd20 "_law_fits" = true) (k20 : PySem.W.keepIn K (.ref f20) = true)
    (a21 : PySem.W.nsIn K mainGlobals "_law_shows" = some (some (.ref f21))) (l21 : K.lookup f21 = some ⟨oc21, od21, .func (PySem.W.fnOf "_law_shows" "_law_shows" (defArgs sShows) (defBody sShows) (defScope sShows) .none kV21 dc21 pm21 an21 cd21 ct21), sl21⟩) (c21 : PySem.W.codeIn K cd21 "_law_shows" = true) (k21 : PySem.W.keepIn K (.ref f21) = true)
    (a22 : PySem.W.nsIn K mainGlobals "law" = some (some (.ref f22))) (l22 : K.lookup f22 = some ⟨oc22, od22, .func (PySem.W.fnOf "law" "law" (defArgs sLaw) (defBody sLaw) (defScope sLaw) .none kV22 dc22 pm22 an22 cd22 ct22), sl22⟩) (c22 : PySem.W.codeIn K cd22 "law" = true) (k22 : PySem.W.keepIn K (.ref f22) = true)
    (z_len : PySem.W.nsIn K mainGlobals "len" = some none)
    (z_list : PySem.W.nsIn K mainGlobals "list" = some none)
    (z_tuple : PySem.W.nsIn K mainGlobals "tuple" = some none)
    (z_int : PySem.W.nsIn K mainGlobals "int" = some none)
    (z_str : PySem.W.nsIn K mainGlobals "str" = some none)
    (z_bool : PySem.W.nsIn K mainGlobals "bool" = some none)
    (z_isinstance : PySem.W.nsIn K mainGlobals "isinstance" = some none)
    (z_all : PySem.W.nsIn K mainGlobals "all" = some none)
    (z_zip : PySem.W.nsIn K mainGlobals "zip" = some none)
    (z_enumerate : PySem.W.nsIn K mainGlobals "enumerate" = some none)
    (z_max : PySem.W.nsIn K mainGlobals "max" = some none)
    (z_range : PySem.W.nsIn K mainGlobals "range" = some none)
    (z_min : PySem.W.nsIn K mainGlobals "min" = some none)
    {pB : Addr} {esB : Array DictEntry} {nB : Nat} (aB : PySem.W.nsIn K mainGlobals "BOUNDS" = some (some (.ref pB))) (lB : K.lookup pB = some ⟨.type "dict", none, .dict esB nB, #[]⟩) (kB : PySem.W.KeysLit w.params esB.toList) (oB : (pB == sysModules) = false)
    {qB0 : Addr} {odB0 : Option Addr} {slB0 : Array (Option Value)} {nB0 : Nat} {tB0_0 tB0_1 : Tok} (eB0 : PySem.W.nsIn K pB "box" = some (some (.ref qB0))) (lB0 : K.lookup qB0 = some ⟨.type "tuple", odB0, .seq #[.int (0) tB0_0, .int (7) tB0_1] nB0, slB0⟩)
    {qB1 : Addr} {odB1 : Option Addr} {slB1 : Array (Option Value)} {nB1 : Nat} {tB1_0 tB1_1 : Tok} (eB1 : PySem.W.nsIn K pB "aside" = some (some (.ref qB1))) (lB1 : K.lookup qB1 = some ⟨.type "tuple", odB1, .seq #[.int (0) tB1_0, .int (1000000) tB1_1] nB1, slB1⟩)
    {qB2 : Addr} {odB2 : Option Addr} {slB2 : Array (Option Value)} {nB2 : Nat} {tB2_0 tB2_1 : Tok} (eB2 : PySem.W.nsIn K pB "target" = some (some (.ref qB2))) (lB2 : K.lookup qB2 = some ⟨.type "tuple", odB2, .seq #[.int (0) tB2_0, .int (1000000000) tB2_1] nB2, slB2⟩)
    {qB3 : Addr} {odB3 : Option Addr} {slB3 : Array (Option Value)} {nB3 : Nat} {tB3_0 tB3_1 : Tok} (eB3 : PySem.W.nsIn K pB "number" = some (some (.ref qB3))) (lB3 : K.lookup qB3 = some ⟨.type "tuple", odB3, .seq #[.int (0) tB3_0, .int (1000000) tB3_1] nB3, slB3⟩)
    {qB4 : Addr} {odB4 : Option Addr} {slB4 : Array (Option Value)} {nB4 : Nat} {tB4_0 tB4_1 : Tok} (eB4 : PySem.W.nsIn K pB "value" = some (some (.ref qB4))) (lB4 : K.lookup qB4 = some ⟨.type "tuple", odB4, .seq #[.int (-1000000000) tB4_0, .int (1000000000) tB4_1] nB4, slB4⟩)
    {qB5 : Addr} {odB5 : Option Addr} {slB5 : Array (Option Value)} {nB5 : Nat} {tB5_0 tB5_1 : Tok} (eB5 : PySem.W.nsIn K pB "far" = some (some (.ref qB5))) (lB5 : K.lookup qB5 = some ⟨.type "tuple", odB5, .seq #[.int (0) tB5_0, .int (1) tB5_1] nB5, slB5⟩)
    {pP : Addr} {esP : Array DictEntry} {nP : Nat} (aP : PySem.W.nsIn K mainGlobals "PARTS" = some (some (.ref pP))) (lP : K.lookup pP = some ⟨.type "dict", none, .dict esP nP, #[]⟩) (kP : PySem.W.KeysLit w.params esP.toList) (oP : (pP == sysModules) = false)
    {qP0 : Addr} {odP0 : Option Addr} {slP0 : Array (Option Value)} {nP0 : Nat} (eP0 : PySem.W.nsIn K pP "stop" = some (some (.ref qP0))) (lP0 : K.lookup qP0 = some ⟨.type "tuple", odP0, .seq #[] nP0, slP0⟩)
    {qP1 : Addr} {odP1 : Option Addr} {slP1 : Array (Option Value)} {nP1 : Nat} (eP1 : PySem.W.nsIn K pP "back" = some (some (.ref qP1))) (lP1 : K.lookup qP1 = some ⟨.type "tuple", odP1, .seq #[] nP1, slP1⟩)
    {qP2 : Addr} {odP2 : Option Addr} {slP2 : Array (Option Value)} {nP2 : Nat} {tP2_0 : Tok} (eP2 : PySem.W.nsIn K pP "halt" = some (some (.ref qP2))) (lP2 : K.lookup qP2 = some ⟨.type "tuple", odP2, .seq #[.str "number" tP2_0] nP2, slP2⟩)
    {qP3 : Addr} {odP3 : Option Addr} {slP3 : Array (Option Value)} {nP3 : Nat} {tP3_0 tP3_1 : Tok} (eP3 : PySem.W.nsIn K pP "set" = some (some (.ref qP3))) (lP3 : K.lookup qP3 = some ⟨.type "tuple", odP3, .seq #[.str "box" tP3_0, .str "value" tP3_1] nP3, slP3⟩)
    {qP4 : Addr} {odP4 : Option Addr} {slP4 : Array (Option Value)} {nP4 : Nat} {tP4_0 tP4_1 : Tok} (eP4 : PySem.W.nsIn K pP "more" = some (some (.ref qP4))) (lP4 : K.lookup qP4 = some ⟨.type "tuple", odP4, .seq #[.str "box" tP4_0, .str "value" tP4_1] nP4, slP4⟩)
    {qP5 : Addr} {odP5 : Option Addr} {slP5 : Array (Option Value)} {nP5 : Nat} {tP5_0 tP5_1 : Tok} (eP5 : PySem.W.nsIn K pP "copy" = some (some (.ref qP5))) (lP5 : K.lookup qP5 = some ⟨.type "tuple", odP5, .seq #[.str "box" tP5_0, .str "box" tP5_1] nP5, slP5⟩)
    {qP6 : Addr} {odP6 : Option Addr} {slP6 : Array (Option Value)} {nP6 : Nat} {tP6_0 tP6_1 : Tok} (eP6 : PySem.W.nsIn K pP "add" = some (some (.ref qP6))) (lP6 : K.lookup qP6 = some ⟨.type "tuple", odP6, .seq #[.str "box" tP6_0, .str "box" tP6_1] nP6, slP6⟩)
    {qP7 : Addr} {odP7 : Option Addr} {slP7 : Array (Option Value)} {nP7 : Nat} {tP7_0 tP7_1 : Tok} (eP7 : PySem.W.nsIn K pP "less" = some (some (.ref qP7))) (lP7 : K.lookup qP7 = some ⟨.type "tuple", odP7, .seq #[.str "box" tP7_0, .str "box" tP7_1] nP7, slP7⟩)
    {qP8 : Addr} {odP8 : Option Addr} {slP8 : Array (Option Value)} {nP8 : Nat} {tP8_0 tP8_1 : Tok} (eP8 : PySem.W.nsIn K pP "load" = some (some (.ref qP8))) (lP8 : K.lookup qP8 = some ⟨.type "tuple", odP8, .seq #[.str "box" tP8_0, .str "box" tP8_1] nP8, slP8⟩)
    {qP9 : Addr} {odP9 : Option Addr} {slP9 : Array (Option Value)} {nP9 : Nat} {tP9_0 tP9_1 : Tok} (eP9 : PySem.W.nsIn K pP "keep" = some (some (.ref qP9))) (lP9 : K.lookup qP9 = some ⟨.type "tuple", odP9, .seq #[.str "box" tP9_0, .str "box" tP9_1] nP9, slP9⟩)
    {qP10 : Addr} {odP10 : Option Addr} {slP10 : Array (Option Value)} {nP10 : Nat} {tP10_0 : Tok} (eP10 : PySem.W.nsIn K pP "tell" = some (some (.ref qP10))) (lP10 : K.lookup qP10 = some ⟨.type "tuple", odP10, .seq #[.str "box" tP10_0] nP10, slP10⟩)
    {qP11 : Addr} {odP11 : Option Addr} {slP11 : Array (Option Value)} {nP11 : Nat} {tP11_0 tP11_1 : Tok} (eP11 : PySem.W.nsIn K pP "see" = some (some (.ref qP11))) (lP11 : K.lookup qP11 = some ⟨.type "tuple", odP11, .seq #[.str "box" tP11_0, .str "number" tP11_1] nP11, slP11⟩)
    {qP12 : Addr} {odP12 : Option Addr} {slP12 : Array (Option Value)} {nP12 : Nat} {tP12_0 tP12_1 : Tok} (eP12 : PySem.W.nsIn K pP "put" = some (some (.ref qP12))) (lP12 : K.lookup qP12 = some ⟨.type "tuple", odP12, .seq #[.str "box" tP12_0, .str "aside" tP12_1] nP12, slP12⟩)
    {qP13 : Addr} {odP13 : Option Addr} {slP13 : Array (Option Value)} {nP13 : Nat} {tP13_0 tP13_1 : Tok} (eP13 : PySem.W.nsIn K pP "take" = some (some (.ref qP13))) (lP13 : K.lookup qP13 = some ⟨.type "tuple", odP13, .seq #[.str "box" tP13_0, .str "aside" tP13_1] nP13, slP13⟩)
    {qP14 : Addr} {odP14 : Option Addr} {slP14 : Array (Option Value)} {nP14 : Nat} {tP14_0 tP14_1 : Tok} (eP14 : PySem.W.nsIn K pP "jump" = some (some (.ref qP14))) (lP14 : K.lookup qP14 = some ⟨.type "tuple", odP14, .seq #[.str "target" tP14_0, .str "far" tP14_1] nP14, slP14⟩)
    {qP15 : Addr} {odP15 : Option Addr} {slP15 : Array (Option Value)} {nP15 : Nat} {tP15_0 tP15_1 tP15_2 : Tok} (eP15 : PySem.W.nsIn K pP "zero" = some (some (.ref qP15))) (lP15 : K.lookup qP15 = some ⟨.type "tuple", odP15, .seq #[.str "box" tP15_0, .str "target" tP15_1, .str "far" tP15_2] nP15, slP15⟩)
    {qP16 : Addr} {odP16 : Option Addr} {slP16 : Array (Option Value)} {nP16 : Nat} {tP16_0 tP16_1 tP16_2 : Tok} (eP16 : PySem.W.nsIn K pP "below" = some (some (.ref qP16))) (lP16 : K.lookup qP16 = some ⟨.type "tuple", odP16, .seq #[.str "box" tP16_0, .str "target" tP16_1, .str "far" tP16_2] nP16, slP16⟩)
    {qP17 : Addr} {odP17 : Option Addr} {slP17 : Array (Option Value)} {nP17 : Nat} {tP17_0 tP17_1 : Tok} (eP17 : PySem.W.nsIn K pP "call" = some (some (.ref qP17))) (lP17 : K.lookup qP17 = some ⟨.type "tuple", odP17, .seq #[.str "target" tP17_0, .str "far" tP17_1] nP17, slP17⟩)
    {qP18 : Addr} {odP18 : Option Addr} {slP18 : Array (Option Value)} {nP18 : Nat} {tP18_0 tP18_1 : Tok} (eP18 : PySem.W.nsIn K pP "mark" = some (some (.ref qP18))) (lP18 : K.lookup qP18 = some ⟨.type "tuple", odP18, .seq #[.str "target" tP18_0, .str "far" tP18_1] nP18, slP18⟩)
    {qP19 : Addr} {odP19 : Option Addr} {slP19 : Array (Option Value)} {nP19 : Nat} {tP19_0 tP19_1 : Tok} (eP19 : PySem.W.nsIn K pP "table" = some (some (.ref qP19))) (lP19 : K.lookup qP19 = some ⟨.type "tuple", odP19, .seq #[.str "box" tP19_0, .str "targets" tP19_1] nP19, slP19⟩)
    (hkP : esP.toList.map keyS = kinds.map (·.1))
    {tMF tMT tFG : Tok} (aMF : PySem.W.nsIn K mainGlobals "MOST_FIGURES" = some (some (.int 10 tMF))) (aMT : PySem.W.nsIn K mainGlobals "MOST_TARGETS" = some (some (.int 16 tMT))) (aFG : PySem.W.nsIn K mainGlobals "FIGURES" = some (some (.str "0123456789" tFG)))
    {cNoText : Addr} (xNoText : PySem.W.nsIn K mainGlobals "NoText" = some (some (.ref cNoText)))
    {cRowError : Addr} (xRowError : PySem.W.nsIn K mainGlobals "RowError" = some (some (.ref cRowError)))
    {gI : Addr} {odgI angI : Option Addr} {slgI : Array (Option Value)} {ocgI kVgI dcgI pmgI cdgI ctgI : Value} (agI : PySem.W.findIn K (.ref cNoText) "__init__" = some (some (.ref gI))) (igI : PySem.W.typeIn K (.ref gI) = some (.type "function")) (lgI : K.lookup gI = some ⟨ocgI, odgI, .func (PySem.W.fnOf "__init__" "NoText.__init__" (defArgs sXI) (defBody sXI) (defScope sXI) .none kVgI dcgI pmgI angI cdgI ctgI), slgI⟩) (cgI : PySem.W.codeIn K cdgI "NoText.__init__" = true) (kgI : PySem.W.keepIn K (.ref gI) = true)
    {ddC : Option Addr} {nmC qnC : Str} {bsC subC : List Value} {nsC : Addr} {snC : List Str} {abC : Bool} {colC : Option Bool} {k0C k1C k2C k3C k5C : Option Value} {cdE : ClassData} (xlk : K.lookup cNoText = some ⟨.type "type", ddC, .cls ⟨nmC, bsC, .ref cNoText :: .ref cRowError :: vmVE, nsC, qnC, true, snC, subC, abC, colC, false⟩, #[k0C, k1C, k2C, k3C, some (.builtin "ValueError.__new__"), k5C]⟩) (xq : PySem.W.excIn K cRowError vmVE "ValueError.__new__" = true) (xrt : PySem.W.mroIn K cRowError (.type "object") = some true) (xsa : PySem.W.findIn K (.ref cNoText) "__setattr__" = some (some (.builtin "object.__setattr__"))) (xna : PySem.W.takerIn K cNoText "at" = some none) (xnt : PySem.W.findIn K (.ref cNoText) "at" = some none) (xhd : PySem.W.hasDictIn K cNoText = true) (xga : PySem.W.findIn K (.ref cNoText) "__getattribute__" = some (some (.builtin "BaseException.__getattribute__"))) (xgh : PySem.W.findIn K (.ref cNoText) "__getattr__" = some none) (xcl : PySem.W.findIn K (.ref cNoText) "__class__" = some (some (.builtin "object.__class__"))) (xgt : PySem.W.specialIn K (.builtin "object.__class__") "__get__" = some (some (.builtin "getset_descriptor.__get__"))) (xtk : PySem.W.takesIn K (.builtin "object.__class__") = some true) (xob : PySem.W.mroIn K cNoText (.type "object") = some true) (xbx : PySem.W.mroIn K cNoText (.type "BaseException") = some true) (xci : PySem.W.clsIn K cNoText = some cdE) (xsg : PySem.W.specialIn K (.ref cRowError) "__getattribute__" = some (some (.builtin "type.__getattribute__"))) (xrr : PySem.W.readsIn K cRowError (.type "type") = true) (xfi : PySem.W.findCls K (.ref cRowError) (.type "type") "__init__" = some (.val (.builtin "ValueError.__init__"))) (xkc : PySem.W.keepIn K (.ref cNoText) = true) (xexm : PySem.W.exmOne K (.ref cNoText) (.ref cRowError) = some true) (xown : PySem.W.kitOne K (.ref cNoText) (.ref cNoText) = some true) (xval : PySem.W.kitOne K (.ref cNoText) (.type "ValueError") = some true)
    (xeq1 : PySem.W.exmOne K (.ref cNoText) (.ref cNoText) = some true)
    : ∃ fd : FuncData, (∀ (s : Shared) (v : Value), BindsTo s fd ⟨[v], []⟩ [("_law_script", v)]) ∧ ∀ base : Heap, K.In base → base.Ns mainGlobals mg → FnOk l.prog w K mg base CX0 9 fa fd ["_law_script"] (spLaw (K := K)) := by
  have e := hfa.symm.trans (PySem.W.mg_of X G a22)
  cases e
  have F0 := fun_mk (st := sWhole) l0 c0 k0
  have b0 := F0.binds (ps := ["thing"]) fun _ _ _ _ _ _ us hl => match us, hl with | [_], _ => rfl
  have m0 := PySem.W.mg_of X G a0
  have F1 := fun_mk (st := sNum) l1 c1 k1
  have b1 := F1.binds (ps := ["kind", "thing"]) fun _ _ _ _ _ _ us hl => match us, hl with | [_, _], _ => rfl
  have m1 := PySem.W.mg_of X G a1
  have F2 := fun_mk (st := sTgts) l2 c2 k2
  have b2 := F2.binds (ps := ["thing"]) fun _ _ _ _ _ _ us hl => match us, hl with | [_], _ => rfl
  have m2 := PySem.W.mg_of X G a2
  have F3 := fun_mk (st := sPart) l3 c3 k3
  have b3 := F3.binds (ps := ["kind", "thing"]) fun _ _ _ _ _ _ us hl => match us, hl with | [_, _], _ => rfl
  have m3 := PySem.W.mg_of X G a3
  have F4 := fun_mk (st := sAre) l4 c4 k4
  have b4 := F4.binds (ps := ["kinds", "things"]) fun _ _ _ _ _ _ us hl => match us, hl with | [_, _], _ => rfl
  have m4 := PySem.W.mg_of X G a4
  have F5 := fun_mk (st := sWord) l5 c5 k5
  have b5 := F5.binds (ps := ["thing"]) fun _ _ _ _ _ _ us hl => match us, hl with | [_], _ => rfl
  have m5 := PySem.W.mg_of X G a5
  have F6 := fun_mk (st := sIsRow) l6 c6 k6
  have b6 := F6.binds (ps := ["row"]) fun _ _ _ _ _ _ us hl => match us, hl with | [_], _ => rfl
  have m6 := PySem.W.mg_of X G a6
  have F7 := fun_mk (st := sHasFar) l7 c7 k7
  have b7 := F7.binds (ps := ["word"]) fun _ _ _ _ _ _ us hl => match us, hl with | [_], _ => rfl
  have m7 := PySem.W.mg_of X G a7
  have F8 := fun_mk (st := sShownRow) l8 c8 k8
  have b8 := F8.binds (ps := ["row"]) fun _ _ _ _ _ _ us hl => match us, hl with | [_], _ => rfl
  have m8 := PySem.W.mg_of X G a8
  have F9 := fun_mk (st := sShownRows) l9 c9 k9
  have b9 := F9.binds (ps := ["rows"]) fun _ _ _ _ _ _ us hl => match us, hl with | [_], _ => rfl
  have m9 := PySem.W.mg_of X G a9
  have F10 := fun_mk (st := sIsFig) l10 c10 k10
  have b10 := F10.binds (ps := ["text"]) fun _ _ _ _ _ _ us hl => match us, hl with | [_], _ => rfl
  have m10 := PySem.W.mg_of X G a10
  have F11 := fun_mk (st := sReadNum) l11 c11 k11
  have b11 := F11.binds (ps := ["text", "most_figures"]) fun _ _ _ _ _ _ us hl => match us, hl with | [_, _], _ => rfl
  have m11 := PySem.W.mg_of X G a11
  have F12 := fun_mk (st := sRowOf) l12 c12 k12
  have b12 := F12.binds (ps := ["word", "far", "numbers"]) fun _ _ _ _ _ _ us hl => match us, hl with | [_, _, _], _ => rfl
  have m12 := PySem.W.mg_of X G a12
  have F13 := fun_mk (st := sReadRow) l13 c13 k13
  have b13 := F13.binds (ps := ["line"]) fun _ _ _ _ _ _ us hl => match us, hl with | [_], _ => rfl
  have m13 := PySem.W.mg_of X G a13
  have F14 := fun_mk (st := sReadRows) l14 c14 k14
  have b14 := F14.binds (ps := ["text"]) fun _ _ _ _ _ _ us hl => match us, hl with | [_], _ => rfl
  have m14 := PySem.W.mg_of X G a14
  have F15 := fun_mk (st := sCell) l15 c15 k15
  have b15 := F15.binds (ps := ["_law_script", "_law_k"]) fun _ _ _ _ _ _ us hl => match us, hl with | [_, _], _ => rfl
  have m15 := PySem.W.mg_of X G a15
  have F16 := fun_mk (st := sDigit) l16 c16 k16
  have b16 := F16.binds (ps := ["_law_state", "_law_base"]) fun _ _ _ _ _ _ us hl => match us, hl with | [_, _], _ => rfl
  have m16 := PySem.W.mg_of X G a16
  have F17 := fun_mk (st := sLine) l17 c17 k17
  have b17 := F17.binds (ps := ["_law_cell"]) fun _ _ _ _ _ _ us hl => match us, hl with | [_], _ => rfl
  have m17 := PySem.W.mg_of X G a17
  have F18 := fun_mk (st := sBent) l18 c18 k18
  have b18 := F18.binds (ps := ["_law_text", "_law_cell"]) fun _ _ _ _ _ _ us hl => match us, hl with | [_, _], _ => rfl
  have m18 := PySem.W.mg_of X G a18
  have F19 := fun_mk (st := sIsNumber) l19 c19 k19
  have b19 := F19.binds (ps := ["_law_word", "_law_least", "_law_most"]) fun _ _ _ _ _ _ us hl => match us, hl with | [_, _, _], _ => rfl
  have m19 := PySem.W.mg_of X G a19
  have F20 := fun_mk (st := sFits) l20 c20 k20
  have b20 := F20.binds (ps := ["_law_words", "_law_form"]) fun _ _ _ _ _ _ us hl => match us, hl with | [_, _], _ => rfl
  have m20 := PySem.W.mg_of X G a20
  have F21 := fun_mk (st := sShows) l21 c21 k21
  have b21 := F21.binds (ps := ["_law_line_here"]) fun _ _ _ _ _ _ us hl => match us, hl with | [_], _ => rfl
  have m21 := PySem.W.mg_of X G a21
  have F22 := fun_mk (st := sLaw) l22 c22 k22
  have T : Txt K w.params mg := ⟨⟨pB, PySem.W.mg_of X G aB, fa_cons ⟨qB0, ⟨esB, nB, lB, kB, oB, _, eB0, rfl⟩, fun H => .inr ⟨_, _, _, lB0, rfl, rfl, (by show 2 ≤ sizeLine; decide), .cons ⟨_, rfl⟩ (.cons ⟨_, rfl⟩ (.nil))⟩⟩
      (fa_cons ⟨qB1, ⟨esB, nB, lB, kB, oB, _, eB1, rfl⟩, fun H => .inr ⟨_, _, _, lB1, rfl, rfl, (by show 2 ≤ sizeLine; decide), .cons ⟨_, rfl⟩ (.cons ⟨_, rfl⟩ (.nil))⟩⟩
      (fa_cons ⟨qB2, ⟨esB, nB, lB, kB, oB, _, eB2, rfl⟩, fun H => .inr ⟨_, _, _, lB2, rfl, rfl, (by show 2 ≤ sizeLine; decide), .cons ⟨_, rfl⟩ (.cons ⟨_, rfl⟩ (.nil))⟩⟩
      (fa_cons ⟨qB3, ⟨esB, nB, lB, kB, oB, _, eB3, rfl⟩, fun H => .inr ⟨_, _, _, lB3, rfl, rfl, (by show 2 ≤ sizeLine; decide), .cons ⟨_, rfl⟩ (.cons ⟨_, rfl⟩ (.nil))⟩⟩
      (fa_cons ⟨qB4, ⟨esB, nB, lB, kB, oB, _, eB4, rfl⟩, fun H => .inr ⟨_, _, _, lB4, rfl, rfl, (by show 2 ≤ sizeLine; decide), .cons ⟨_, rfl⟩ (.cons ⟨_, rfl⟩ (.nil))⟩⟩
      (fa_cons ⟨qB5, ⟨esB, nB, lB, kB, oB, _, eB5, rfl⟩, fun H => .inr ⟨_, _, _, lB5, rfl, rfl, (by show 2 ≤ sizeLine; decide), .cons ⟨_, rfl⟩ (.cons ⟨_, rfl⟩ (.nil))⟩⟩
      (fa_nil))))))⟩,
    ⟨pP, PySem.W.mg_of X G aP, ⟨esP, nP, lP, kP, oP⟩, (fun u hu => khas_none lP kP oP hkP (fun z => by obtain ⟨y, hy, e⟩ := List.mem_map.mp z; rw [← e, lk_kinds _ hy] at hu; cases hu)),
     fa_cons ⟨qP0, ⟨esP, nP, lP, kP, oP, _, eP0, rfl⟩, fun H => .inr ⟨_, _, _, lP0, rfl, rfl, (by show 0 ≤ sizeLine; decide), .nil⟩⟩
      (fa_cons ⟨qP1, ⟨esP, nP, lP, kP, oP, _, eP1, rfl⟩, fun H => .inr ⟨_, _, _, lP1, rfl, rfl, (by show 0 ≤ sizeLine; decide), .nil⟩⟩
      (fa_cons ⟨qP2, ⟨esP, nP, lP, kP, oP, _, eP2, rfl⟩, fun H => .inr ⟨_, _, _, lP2, rfl, rfl, (by show 1 ≤ sizeLine; decide), .cons ⟨_, rfl⟩ (.nil)⟩⟩
      (fa_cons ⟨qP3, ⟨esP, nP, lP, kP, oP, _, eP3, rfl⟩, fun H => .inr ⟨_, _, _, lP3, rfl, rfl, (by show 2 ≤ sizeLine; decide), .cons ⟨_, rfl⟩ (.cons ⟨_, rfl⟩ (.nil))⟩⟩
      (fa_cons ⟨qP4, ⟨esP, nP, lP, kP, oP, _, eP4, rfl⟩, fun H => .inr ⟨_, _, _, lP4, rfl, rfl, (by show 2 ≤ sizeLine; decide), .cons ⟨_, rfl⟩ (.cons ⟨_, rfl⟩ (.nil))⟩⟩
      (fa_cons ⟨qP5, ⟨esP, nP, lP, kP, oP, _, eP5, rfl⟩, fun H => .inr ⟨_, _, _, lP5, rfl, rfl, (by show 2 ≤ sizeLine; decide), .cons ⟨_, rfl⟩ (.cons ⟨_, rfl⟩ (.nil))⟩⟩
      (fa_cons ⟨qP6, ⟨esP, nP, lP, kP, oP, _, eP6, rfl⟩, fun H => .inr ⟨_, _, _, lP6, rfl, rfl, (by show 2 ≤ sizeLine; decide), .cons ⟨_, rfl⟩ (.cons ⟨_, rfl⟩ (.nil))⟩⟩
      (fa_cons ⟨qP7, ⟨esP, nP, lP, kP, oP, _, eP7, rfl⟩, fun H => .inr ⟨_, _, _, lP7, rfl, rfl, (by show 2 ≤ sizeLine; decide), .cons ⟨_, rfl⟩ (.cons ⟨_, rfl⟩ (.nil))⟩⟩
      (fa_cons ⟨qP8, ⟨esP, nP, lP, kP, oP, _, eP8, rfl⟩, fun H => .inr ⟨_, _, _, lP8, rfl, rfl, (by show 2 ≤ sizeLine; decide), .cons ⟨_, rfl⟩ (.cons ⟨_, rfl⟩ (.nil))⟩⟩
      (fa_cons ⟨qP9, ⟨esP, nP, lP, kP, oP, _, eP9, rfl⟩, fun H => .inr ⟨_, _, _, lP9, rfl, rfl, (by show 2 ≤ sizeLine; decide), .cons ⟨_, rfl⟩ (.cons ⟨_, rfl⟩ (.nil))⟩⟩
      (fa_cons ⟨qP10, ⟨esP, nP, lP, kP, oP, _, eP10, rfl⟩, fun H => .inr ⟨_, _, _, lP10, rfl, rfl, (by show 1 ≤ sizeLine; decide), .cons ⟨_, rfl⟩ (.nil)⟩⟩
      (fa_cons ⟨qP11, ⟨esP, nP, lP, kP, oP, _, eP11, rfl⟩, fun H => .inr ⟨_, _, _, lP11, rfl, rfl, (by show 2 ≤ sizeLine; decide), .cons ⟨_, rfl⟩ (.cons ⟨_, rfl⟩ (.nil))⟩⟩
      (fa_cons ⟨qP12, ⟨esP, nP, lP, kP, oP, _, eP12, rfl⟩, fun H => .inr ⟨_, _, _, lP12, rfl, rfl, (by show 2 ≤ sizeLine; decide), .cons ⟨_, rfl⟩ (.cons ⟨_, rfl⟩ (.nil))⟩⟩
      (fa_cons ⟨qP13, ⟨esP, nP, lP, kP, oP, _, eP13, rfl⟩, fun H => .inr ⟨_, _, _, lP13, rfl, rfl, (by show 2 ≤ sizeLine; decide), .cons ⟨_, rfl⟩ (.cons ⟨_, rfl⟩ (.nil))⟩⟩
      (fa_cons ⟨qP14, ⟨esP, nP, lP, kP, oP, _, eP14, rfl⟩, fun H => .inr ⟨_, _, _, lP14, rfl, rfl, (by show 2 ≤ sizeLine; decide), .cons ⟨_, rfl⟩ (.cons ⟨_, rfl⟩ (.nil))⟩⟩
      (fa_cons ⟨qP15, ⟨esP, nP, lP, kP, oP, _, eP15, rfl⟩, fun H => .inr ⟨_, _, _, lP15, rfl, rfl, (by show 3 ≤ sizeLine; decide), .cons ⟨_, rfl⟩ (.cons ⟨_, rfl⟩ (.cons ⟨_, rfl⟩ (.nil)))⟩⟩
      (fa_cons ⟨qP16, ⟨esP, nP, lP, kP, oP, _, eP16, rfl⟩, fun H => .inr ⟨_, _, _, lP16, rfl, rfl, (by show 3 ≤ sizeLine; decide), .cons ⟨_, rfl⟩ (.cons ⟨_, rfl⟩ (.cons ⟨_, rfl⟩ (.nil)))⟩⟩
      (fa_cons ⟨qP17, ⟨esP, nP, lP, kP, oP, _, eP17, rfl⟩, fun H => .inr ⟨_, _, _, lP17, rfl, rfl, (by show 2 ≤ sizeLine; decide), .cons ⟨_, rfl⟩ (.cons ⟨_, rfl⟩ (.nil))⟩⟩
      (fa_cons ⟨qP18, ⟨esP, nP, lP, kP, oP, _, eP18, rfl⟩, fun H => .inr ⟨_, _, _, lP18, rfl, rfl, (by show 2 ≤ sizeLine; decide), .cons ⟨_, rfl⟩ (.cons ⟨_, rfl⟩ (.nil))⟩⟩
      (fa_cons ⟨qP19, ⟨esP, nP, lP, kP, oP, _, eP19, rfl⟩, fun H => .inr ⟨_, _, _, lP19, rfl, rfl, (by show 2 ≤ sizeLine; decide), .cons ⟨_, rfl⟩ (.cons ⟨_, rfl⟩ (.nil))⟩⟩
      (fa_nil))))))))))))))))))))⟩,
    ⟨tMT, PySem.W.mg_of X G aMT⟩, ⟨tMF, PySem.W.mg_of X G aMF⟩, ⟨tFG, PySem.W.mg_of X G aFG⟩, PySem.W.mg_none_of X G z_len, PySem.W.mg_none_of X G z_list, PySem.W.mg_none_of X G z_tuple, PySem.W.mg_none_of X G z_int, PySem.W.mg_none_of X G z_str, PySem.W.mg_none_of X G z_bool, PySem.W.mg_none_of X G z_isinstance, PySem.W.mg_none_of X G z_all, PySem.W.mg_none_of X G z_zip, PySem.W.mg_none_of X G z_enumerate, PySem.W.mg_none_of X G z_max, PySem.W.mg_none_of X G z_range, PySem.W.mg_none_of X G z_min⟩
  refine ⟨PySem.W.fnOf "law" "law" (defArgs sLaw) (defBody sLaw) (defScope sLaw) .none kV22 dc22 pm22 an22 cd22 ct22, fun s v => .of_eq rfl, fun base _ _ => ?_⟩
  have FI := fun_mk (st := sXI) lgI cgI kgI
  have bI := FI.binds (ps := ["self", "at"]) fun _ _ _ _ _ _ us hl => match us, hl with | [_, _], _ => rfl
  have CX : XIni K cNoText cRowError gI := ⟨⟨_, _, _, _, _, _, _, _, _, _, _, _, _, _, xlk⟩, agI, igI, ⟨xq⟩, xrt, xsa, xna, xnt, xhd, ⟨xga, xgh, xcl, xgt, xtk, xob, xbx, by rw [xci]; rfl⟩, xsg, xrr, xfi⟩
  have mRE := PySem.W.mg_of X G xRowError
  have mNT := PySem.W.mg_of X G xNoText
  have GI := ok_xi (P := l.prog) (w := w) (base := base) FI CX mRE
  have GW := ok_whole (P := l.prog) (w := w) (base := base) F0 T
  have GNu := ok_num (P := l.prog) (w := w) (base := base) F1 T GW F0.kp b0 m0
  have GTg := ok_tgts (P := l.prog) (w := w) (base := base) F2 T GNu F1.kp b1 m1
  have GPa := ok_part (P := l.prog) (w := w) (base := base) F3 T GTg F2.kp b2 m2 GNu F1.kp b1 m1
  have GAr := ok_are (P := l.prog) (w := w) (base := base) F4 T GPa F3.kp b3 m3
  have GWo := ok_word (P := l.prog) (w := w) (base := base) F5 T
  have GIs := ok_isrow (P := l.prog) (w := w) (base := base) F6 T GWo F5.kp b5 m5 GAr F4.kp b4 m4
  have GHf := ok_far (P := l.prog) (w := w) (base := base) F7 T
  have GFg := ok_fig (P := l.prog) (w := w) (base := base) F10 T
  have GRn := ok_rdn (P := l.prog) (w := w) (base := base) F11 T GFg F10.kp b10 m10
  have GSr := ok_shr (P := l.prog) (w := w) (base := base) F8 T GHf F7.kp b7 m7
  have GSs := ok_shs (P := l.prog) (w := w) (base := base) F9 T GSr F8.kp b8 m8
  have GRo := ok_rof (P := l.prog) (w := w) (base := base) F12 T GHf F7.kp b7 m7
  have GRr := ok_rdr (P := l.prog) (w := w) (base := base) F13 T GHf F7.kp b7 m7 GRn F11.kp b11 m11 GRo F12.kp b12 m12 GIs F6.kp b6 m6
  have GRs := ok_rds (P := l.prog) (w := w) (base := base) F14 T GRr F13.kp b13 m13 CX xkc GI bI mNT
  have GC := ok_cell (P := l.prog) (w := w) (base := base) F15 T
  have GDi := ok_digit (P := l.prog) (w := w) (base := base) F16 T
  have GLi := ok_line (P := l.prog) (w := w) (base := base) F17 T GDi F16.kp b16 m16
  have GBe := ok_bent (P := l.prog) (w := w) (base := base) F18 T
  have GIn := ok_isn (P := l.prog) (w := w) (base := base) F19 T
  have GFi := ok_fits (P := l.prog) (w := w) (base := base) F20 T GIn F19.kp b19 m19
  have GSw := ok_shows (P := l.prog) (w := w) (base := base) F21 T GFi F20.kp b20 m20
  exact ok_law F22 T CX mNT xeq1 GLi F17.kp b17 m17 GC F15.kp b15 m15 GBe F18.kp b18 m18 GSw F21.kp b21 m21 GSs F9.kp b9 m9 GRs F14.kp b14 m14
theorem walk {l : PySem.W.OpenLaw} {q : Program} {loose : List Str} {XP : (Str → Option Value) → Heap → Prop} {YP : World → Heap → Prop} {d : DefRec} {K : Params → PySem.W.Frag} (hn : l.most = some 63) (hdf : d.params.defaults = [])
    (hY : ∀ (w : World) (h : Heap), YP w h → (K w.params).In h)
    (F : ∀ (w : World) (mg : Str → Option Value) (fa : Addr) (h : Heap), (K w.params).In h → h.Ns mainGlobals mg → mg d.name = some (.ref fa) →
      ∃ fd : FuncData, (∀ (s : Shared) (u : Value), BindsTo s fd ⟨[u], []⟩ [("_law_script", u)]) ∧ ∀ base : Heap, (K w.params).In base → base.Ns mainGlobals mg → FnOk l.prog w (K w.params) mg base CX0 9 fa fd ["_law_script"] (spLaw (K := K w.params))) :
    PySem.W.WalkO q loose XP YP l.row.toRowW d [] (fun f vs => PySem.call f vs) :=
  L2.walk_of (n := 63) (k := 9) (x := "_law_script") (CX := fun _ => CX0) (sp := fun w => spLaw (K := K w.params)) hn (by decide) hdf ⟨rfl, by decide, by decide⟩ hY F (fun _ _ a ns hl _ hS => ⟨a, ns, rfl, hS, hl, fun _ => rfl⟩) fun _ _ _ _ _ z => z
end My
open PySem PySem.W PyProof.Rows
set_option maxRecDepth 100000 in
set_option maxHeartbeats 0 in
theorem PySem.Challenge.cw_widenrows_k05_texts_bent_holds : PySem.Challenge.rw_widenrows_k05_texts_bent.Holds := by
  w_on; o_law; k_head; (case hw => w_witness2)
  k_fill
  refine My.walk (l := PySem.Challenge.rw_widenrows_k05_texts_bent) rfl rfl (fun w h Y => PySem.W.kIn_of Y) ?F
  case F =>
    intro w mg fa h KX G hmg
    refine' My.all_mk KX G hmg ?a0 ?l0 ?c0 ?k0 ?a1 ?l1 ?c1 ?k1 ?a2 ?l2 ?c2 ?k2 ?a3 ?l3 ?c3 ?k3 ?a4 ?l4 ?c4 ?k4 ?a5 ?l5 ?c5 ?k5 ?a6 ?l6 ?c6 ?k6 ?a7 ?l7 ?c7 ?k7 ?a8 ?l8 ?c8 ?k8 ?a9 ?l9 ?c9 ?k9 ?a10 ?l10 ?c10 ?k10 ?a11 ?l11 ?c11 ?k11 ?a12 ?l12 ?c12 ?k12 ?a13 ?l13 ?c13 ?k13 ?a14 ?l14 ?c14 ?k14 ?a15 ?l15 ?c15 ?k15 ?a16 ?l16 ?c16 ?k16 ?a17 ?l17 ?c17 ?k17 ?a18 ?l18 ?c18 ?k18 ?a19 ?l19 ?c19 ?k19 ?a20 ?l20 ?c20 ?k20 ?a21 ?l21 ?c21 ?k21 ?a22 ?l22 ?c22 ?k22 ?z_len ?z_list ?z_tuple ?z_int ?z_str ?z_bool ?z_isinstance ?z_all ?z_zip ?z_enumerate ?z_max ?z_range ?z_min ?aB ?lB ?kB ?oB ?eB0 ?lB0 ?eB1 ?lB1 ?eB2 ?lB2 ?eB3 ?lB3 ?eB4 ?lB4 ?eB5 ?lB5 ?aP ?lP ?kP ?oP ?eP0 ?lP0 ?eP1 ?lP1 ?eP2 ?lP2 ?eP3 ?lP3 ?eP4 ?lP4 ?eP5 ?lP5 ?eP6 ?lP6 ?eP7 ?lP7 ?eP8 ?lP8 ?eP9 ?lP9 ?eP10 ?lP10 ?eP11 ?lP11 ?eP12 ?lP12 ?eP13 ?lP13 ?eP14 ?lP14 ?eP15 ?lP15 ?eP16 ?lP16 ?eP17 ?lP17 ?eP18 ?lP18 ?eP19 ?lP19 ?hkP ?aMF ?aMT ?aFG ?xNoText ?xRowError ?agI ?igI ?lgI ?cgI ?kgI ?xlk ?xq ?xrt ?xsa ?xna ?xnt ?xhd ?xga ?xgh ?xcl ?xgt ?xtk ?xob ?xbx ?xci ?xsg ?xrr ?xfi ?xkc ?xexm ?xown ?xval ?xeq1
    (case a0 => k_is)
    (case l0 => k_is)
    (case c0 => k_is)
    (case k0 => k_is)
    (case a1 => k_is)
    (case l1 => k_is)
    (case c1 => k_is)
    (case k1 => k_is)
    (case a2 => k_is)
    (case l2 => k_is)
    (case c2 => k_is)
    (case k2 => k_is)
    (case a3 => k_is)
    (case l3 => k_is)
    (case c3 => k_is)
    (case k3 => k_is)
    (case a4 => k_is)
    (case l4 => k_is)
    (case c4 => k_is)
    (case k4 => k_is)
    (case a5 => k_is)
    (case l5 => k_is)
    (case c5 => k_is)
    (case k5 => k_is)
    (case a6 => k_is)
    (case l6 => k_is)
    (case c6 => k_is)
    (case k6 => k_is)
    (case a7 => k_is)
    (case l7 => k_is)
    (case c7 => k_is)
    (case k7 => k_is)
    (case a8 => k_is)
    (case l8 => k_is)
    (case c8 => k_is)
    (case k8 => k_is)
    (case a9 => k_is)
    (case l9 => k_is)
    (case c9 => k_is)
    (case k9 => k_is)
    (case a10 => k_is)
    (case l10 => k_is)
    (case c10 => k_is)
    (case k10 => k_is)
    (case a11 => k_is)
    (case l11 => k_is)
    (case c11 => k_is)
    (case k11 => k_is)
    (case a12 => k_is)
    (case l12 => k_is)
    (case c12 => k_is)
    (case k12 => k_is)
    (case a13 => k_is)
    (case l13 => k_is)
    (case c13 => k_is)
    (case k13 => k_is)
    (case a14 => k_is)
    (case l14 => k_is)
    (case c14 => k_is)
    (case k14 => k_is)
    (case a15 => k_is)
    (case l15 => k_is)
    (case c15 => k_is)
    (case k15 => k_is)
    (case a16 => k_is)
    (case l16 => k_is)
    (case c16 => k_is)
    (case k16 => k_is)
    (case a17 => k_is)
    (case l17 => k_is)
    (case c17 => k_is)
    (case k17 => k_is)
    (case a18 => k_is)
    (case l18 => k_is)
    (case c18 => k_is)
    (case k18 => k_is)
    (case a19 => k_is)
    (case l19 => k_is)
    (case c19 => k_is)
    (case k19 => k_is)
    (case a20 => k_is)
    (case l20 => k_is)
    (case c20 => k_is)
    (case k20 => k_is)
    (case a21 => k_is)
    (case l21 => k_is)
    (case c21 => k_is)
    (case k21 => k_is)
    (case a22 => k_is)
    (case l22 => k_is)
    (case c22 => k_is)
    (case k22 => k_is)
    (case z_len => k_is)
    (case z_list => k_is)
    (case z_tuple => k_is)
    (case z_int => k_is)
    (case z_str => k_is)
    (case z_bool => k_is)
    (case z_isinstance => k_is)
    (case z_all => k_is)
    (case z_zip => k_is)
    (case z_enumerate => k_is)
    (case z_max => k_is)
    (case z_range => k_is)
    (case z_min => k_is)
    (case aB => k_is)
    (case lB => k_is)
    (case kB => k_keys)
    (case oB => first | exact rfl | decide | k_is)
    (case eB0 => k_is)
    (case lB0 => k_is)
    (case eB1 => k_is)
    (case lB1 => k_is)
    (case eB2 => k_is)
    (case lB2 => k_is)
    (case eB3 => k_is)
    (case lB3 => k_is)
    (case eB4 => k_is)
    (case lB4 => k_is)
    (case eB5 => k_is)
    (case lB5 => k_is)
    (case aP => k_is)
    (case lP => k_is)
    (case kP => k_keys)
    (case oP => first | exact rfl | decide | k_is)
    (case eP0 => k_is)
    (case lP0 => k_is)
    (case eP1 => k_is)
    (case lP1 => k_is)
    (case eP2 => k_is)
    (case lP2 => k_is)
    (case eP3 => k_is)
    (case lP3 => k_is)
    (case eP4 => k_is)
    (case lP4 => k_is)
    (case eP5 => k_is)
    (case lP5 => k_is)
    (case eP6 => k_is)
    (case lP6 => k_is)
    (case eP7 => k_is)
    (case lP7 => k_is)
    (case eP8 => k_is)
    (case lP8 => k_is)
    (case eP9 => k_is)
    (case lP9 => k_is)
    (case eP10 => k_is)
    (case lP10 => k_is)
    (case eP11 => k_is)
    (case lP11 => k_is)
    (case eP12 => k_is)
    (case lP12 => k_is)
    (case eP13 => k_is)
    (case lP13 => k_is)
    (case eP14 => k_is)
    (case lP14 => k_is)
    (case eP15 => k_is)
    (case lP15 => k_is)
    (case eP16 => k_is)
    (case lP16 => k_is)
    (case eP17 => k_is)
    (case lP17 => k_is)
    (case eP18 => k_is)
    (case lP18 => k_is)
    (case eP19 => k_is)
    (case lP19 => k_is)
    (case hkP => first | exact rfl | decide +kernel)
    (case aMF => k_is)
    (case aMT => k_is)
    (case aFG => k_is)
    (case xNoText => k_is)
    (case xRowError => k_is)
    (case agI => k_is)
    (case igI => k_is)
    (case lgI => k_is)
    (case cgI => k_is)
    (case kgI => k_is)
    (case xlk => k_is)
    (case xq => k_exc)
    (case xrt => k_is)
    (case xsa => k_is)
    (case xna => k_is)
    (case xnt => k_is)
    (case xhd => k_is)
    (case xga => k_is)
    (case xgh => k_is)
    (case xcl => k_is)
    (case xgt => k_is)
    (case xtk => k_is)
    (case xob => k_is)
    (case xbx => k_is)
    (case xci => k_is)
    (case xsg => k_is)
    (case xrr => k_is)
    (case xfi => k_is)
    (case xkc => k_is)
    (case xexm => kts_exm)
    (case xown => kit_is)
    (case xval => kit_is)
    (case xeq1 => kts_exm)
#print axioms PySem.Challenge.cw_widenrows_k05_texts_bent_holds

