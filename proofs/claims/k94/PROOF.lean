import PyProof.Rows.All
import Wide.All
import OpenK.AllK
import Wide.FinOn
import Lean
import PyProof.EqAt
import PyProof.EqKinds
import PyProof.TupleCall
import PyProof.NeKinds
import PyProof.ListRange
import KE.KDictSum
import Wide.Seal
import PyProof.EnumIter
import PyProof.EnumFor
import PyProof.EnumMake
import PyProof.EnumStmt
import PyProof.ConsumeWalk
import KE.KPairComp
import PyProof.DictItemsLoops
import KE.KEqDict
import PyProof.AttrMissSeq
import PyProof.CollectWalk
import OpenK.KTop
import PyProof.TupleOps
import PyProof.ListMulRoad
import PyProof.FactsAll.tuple_2
import PyProof.StrBlock2
import PyProof.Rows.SortWalk
import KE.KFind
import PyProof.StationsW
import PyProof.Rows.OwnQ
import OpenK.KOwn
import KE.KTryMore
import PyProof.NsDelKeeps
import PyProof.ExcArgsOwn
import PyProof.ExcAttrAll.ValueError
import PyProof.InstStoreFacts
import PyProof.ExcBaseAll.ValueError
import PyProof.Rows.FStr
import OpenK.KCls
import PyProof.ZipIter
import PyProof.TupleIter
import PyProof.WalksMore
import KE.KTurns
import PyProof.FactsAll.subtypes_4
import PyProof.Cells
import PyProof.Rows.TupAdd
import PyProof.CollectStr
import PySem.Challenge.RW_widenrows_k94_whole_free_boxes_change_no
set_option Elab.async false
set_option linter.all false
set_option maxRecDepth 100000
namespace L2
open PySem PySem.Spec PyProof.Rows
abbrev Key := Sum Int Str
def mj : Key → Value → Bool
 | .inl k,v => Value.isInt k v
 | .inr x,v => Value.isStrOf x v
def JG (w : World) : Key → Int
 | .inl k => hashInt k
 | .inr x => hashStr w x
theorem cn : ∀ {k : Key} {v : Value},mj k v = true → (∃ i t,k = Sum.inl i ∧ v = Value.int i t) ∨ (∃ x t,k = Sum.inr x ∧ v = Value.str x t)
 | .inl i,v,h => by
  obtain ⟨t,e⟩ := Value.isInt_shape (k := i) (v := v) h
  exact .inl ⟨i,t,rfl,e⟩
 | .inr x,v,h => by
  obtain ⟨t,e⟩ := Value.isStrOf_shape (x := x) (v := v) h
  exact .inr ⟨x,t,rfl,e⟩
theorem uE (i : Int) (t : Tok) : mj (.inl i) (.int i t) = true := by simp [mj,Value.isInt]
theorem uF (x : Str) (t : Tok) : mj (.inr x) (.str x t) = true := by simp [mj,Value.isStrOf]
theorem Ca (a b : Int) : decide ((Sum.inl a : Key) = Sum.inl b) = (a == b) := by
 by_cases e : a = b
 ·subst e; simp
 ·have h : ¬ (Sum.inl a : Key) = Sum.inl b := fun q => e (Sum.inl.inj q)
  rw [decide_eq_false h]
  exact (beq_eq_false_iff_ne.mpr e).symm
theorem Cd (a b : Str) : decide ((Sum.inr a : Key) = Sum.inr b) = decide (a = b) := by
 by_cases e : a = b
 ·subst e; simp
 ·have h : ¬ (Sum.inr a : Key) = Sum.inr b := fun q => e (Sum.inr.inj q)
  rw [decide_eq_false h,decide_eq_false e]
theorem Ce (a : Int) (b : Str) : decide ((Sum.inl a : Key) = Sum.inr b) = false := decide_eq_false (fun q => nomatch q)
theorem Cg (a : Str) (b : Int) : decide ((Sum.inr a : Key) = Sum.inl b) = false := decide_eq_false (fun q => nomatch q)
def bH (prog : Program) (w : World) : PySem.KeyKind prog w Key where
 is := mj
 hash := JG w
 inj := fun v a b ha hb => by
  rcases cn ha with ⟨i,t,rfl,rfl⟩ | ⟨x,t,rfl,rfl⟩
  ·rcases cn hb with ⟨j,u,rfl,e⟩ | ⟨y,u,rfl,e⟩
   ·injection e with e1 _; rw [e1]
   ·exact nomatch e
  ·rcases cn hb with ⟨j,u,rfl,e⟩ | ⟨y,u,rfl,e⟩
   ·exact nomatch e
   ·injection e with e1 _; rw [e1]
 byValue := fun k v h => by
  rcases cn h with ⟨i,t,rfl,rfl⟩ | ⟨x,t,rfl,rfl⟩ <;> rfl
 pyHash := fun hv h => by
  rcases cn hv with ⟨i,t,rfl,rfl⟩ | ⟨x,t,rfl,rfl⟩
  ·exact wpAny_pyHash_int h
  ·exact wpAny_pyHash_str h
 eqBool := fun hu hv h => by
  rcases cn hu with ⟨i,t,rfl,rfl⟩ | ⟨x,t,rfl,rfl⟩
  ·rcases cn hv with ⟨j,u,rfl,rfl⟩ | ⟨y,u,rfl,rfl⟩
   ·rw [Ca] at h; exact wpAny_eqBool_int h
   ·rw [Ce] at h; exact SeqAt.EqAt.int_str i t y u _ _ _ _ h
  ·rcases cn hv with ⟨j,u,rfl,rfl⟩ | ⟨y,u,rfl,rfl⟩
   ·rw [Cg] at h; exact SeqAt.EqAt.str_int x t j u _ _ _ _ h
   ·rw [Cd] at h; exact wpAny_eqBool_str h
 «strs» := fun k x t v h => by
  rcases cn h with ⟨i,u,rfl,e⟩ | ⟨y,u,rfl,e⟩
  ·exact nomatch e
  ·injection e with e1 _
   subst e1
   cases v <;> rfl
theorem pI (prog : Program) (w : World) (i : Int) (t : Tok) : (bH prog w).is (.inl i) (.int i t) = true := uE i t
theorem pJ (prog : Program) (w : World) (x : Str) (t : Tok) : (bH prog w).is (.inr x) (.str x t) = true := uF x t
inductive V where
 | non | bl (b : Bool) | int (i : Int) | str (x : Str) | vF (b : Array UInt8) | flt (b : UInt64) | ref (a : Addr) | ty (n : String)
 deriving DecidableEq
def RelV : V → Value → Prop
 | .non,u => u = Value.none
 | .bl b,u => u = Value.bool b
 | .int i,u => ∃ t,u = Value.int i t
 | .str x,u => ∃ t,u = Value.str x t
 | .vF b,u => ∃ t,u = Value.bytes b t
 | .flt b,u => ∃ t,u = Value.float b t
 | .ref a,u => u = Value.ref a
 | .ty n,u => u = Value.type n
abbrev Vals : List V → List Value → Prop := Paired RelV
theorem Vals.length {xs : List V} {us : List Value} (r : Vals xs us) : xs.length = us.length := Paired.length r
theorem Vals.get : ∀ {xs : List V} {us : List Value} {i : Nat} {x : V},Vals xs us → xs[i]? = some x → ∃ u,us[i]? = some u ∧ RelV x u
 | _,_,_,_,.nil,e => by simp at e
 | _,_,0,_,.cons r _,e => by simp at e; subst e; exact ⟨_,rfl,r⟩
 | _,_,i + 1,x,.cons _ t,e => by
  obtain ⟨u,h1,h2⟩ := Vals.get (i := i) (x := x) t (by simpa using e)
  exact ⟨u,by simpa using h1,h2⟩
theorem Vals.set {x : V} {u : Value} (r : RelV x u) : ∀ {xs : List V} {us : List Value} (i : Nat),Vals xs us → Vals (xs.set i x) (us.set i u)
 | _,_,_,.nil => .nil
 | _,_,0,.cons _ t => .cons r t
 | _,_,i + 1,.cons q t => .cons q (Vals.set r i t)
theorem Vals.append : ∀ {xs ys : List V} {us ws : List Value},Vals xs us → Vals ys ws → Vals (xs ++ ys) (us ++ ws)
 | _,_,_,_,.nil,s => s
 | _,_,_,_,.cons r t,s => .cons r (Vals.append t s)
theorem Vals.take : ∀ {xs : List V} {us : List Value} (n : Nat),Vals xs us → Vals (xs.take n) (us.take n)
 | _,_,0,_ => .nil
 | _,_,_ + 1,.nil => .nil
 | _,_,n + 1,.cons r t => .cons r (Vals.take n t)
theorem Vals.drop : ∀ {xs : List V} {us : List Value} (n : Nat),Vals xs us → Vals (xs.drop n) (us.drop n)
 | _,_,0,r => r
 | _,_,_ + 1,.nil => .nil
 | _,_,n + 1,.cons _ t => Vals.drop n t
def e8 : Option V → Option Value → Prop
 | some v,some u => RelV v u
 | none,none => True
 | _,_ => False
def KV {κ : Type} : List (κ × V) → List (κ × Value) → Prop := Paired fun (p : κ × V) (q : κ × Value) => p.1 = q.1 ∧ RelV p.2 q.2
def kV : Key → V
 | .inl i => .int i
 | .inr x => .str x
inductive HO where
 | lst (xs : List V)
 | tup (xs : List V)
 | dK (kvs : List (Key × V)) | dT (kvs : List (List Key × V))
 | set (S : Int → Bool) (n : Nat)
 | ins (C dx : Addr) (fs : List (Str × V))
 | own (x : Addr)
 | xd (fs : List (Str × V))
 | met (f x : Addr)
 | rng (lo hi : Int)
 | iH (o : Obj) (u : HO)
 | Bv (ps : Array Value)
 | ext (φ : Heap → Prop)
abbrev Hp := Addr → Option HO
def upd (H : Hp) (a : Addr) (o : HO) : Hp := fun b => if b = a then some o else H b
theorem ah {H : Hp} {a : Addr} {o : HO} : upd H a o a = some o := by unfold upd; rw [if_pos rfl]
theorem aw {H : Hp} {a b : Addr} {o : HO} (h : b ≠ a) : upd H a o b = H b := by unfold upd; rw [if_neg h]
theorem cq {H : Hp} {a b : Addr} {o u : HO} (h : H a = some o) (h' : H b = some u) (d : o ≠ u) : a ≠ b := by
 intro e; subst e; rw [h] at h'; exact d (Option.some.inj h')
theorem aq {H : Hp} {a b : Addr} {o : HO} (h : H a = some o) (h' : H b = none) : a ≠ b := by
 intro e; subst e; rw [h] at h'; cases h'
section
variable (P : Program) (w : World)
def bz (H : Hp) (h : Heap) (a : Addr) : HO → Prop
 | .lst xs => xs.length ≤ sizeLine ∧ ∃ (its : List Value) (n : Nat),Vals xs its ∧ h.get? a = some { cls := .type "list",data := .seq its.toArray n }
 | .tup xs => xs.length ≤ sizeLine ∧ ∃ its : List Value,Vals xs its ∧ IsTup h a its.toArray
 | .dK kvs => kvs.length ≤ sizeLine ∧ (a == sysModules) = false ∧ ∃ vs,KV kvs vs ∧ h.DictOf (bH P w) a vs
 | .dT kvs => kvs.length ≤ sizeLine ∧ (a == sysModules) = false ∧ ∃ xs : List (List Key × Addr × Value),
   Paired (fun (p : List Key × V) (q : List Key × Addr × Value) => p.1 = q.1 ∧ H q.2.1 = some (.tup (p.1.map kV)) ∧ RelV p.2 q.2.2) kvs xs ∧
   ∃ o es ep,h.get? a = some o ∧ o.ExactDict ∧ o.data = .dict es ep ∧ es.toList = xs.map (entryOfKey (tupleKind (bH P w))) ∧ (xs.map (·.1)).Nodup
 | .set S n => h.SetOf (intKind P w) a S n
 | .ins C dx fs => H dx = some (.own a) ∧ fs.length ≤ 1000 ∧ dx ≠ a ∧ h.get? a = some (PySem.W.instObj C dx) ∧
   ∃ mA,h.Ns1 dx mA ∧ (∀ f,e8 (fs.lookup f) (mA f)) ∧ PySem.Within mA (fs.map (·.1))
 | .own _ => ∃ o,h.get? a = some o
 | .xd fs => ∃ mA,h.Ns1 a mA ∧ ∀ f,e8 (fs.lookup f) (mA f)
 | .rng lo hi => ∃ t u v,h.get? a = some { cls := .type "range",data := .fields #[.int lo t,.int hi u,.int 1 v] }
 | .iH o u => h.get? a = some o ∧ bz H h a u
 | .Bv ps => h.get? a = some { cls := .none,data := .fields ps }
 | .met f x => h.get? a = some (PySem.W.methodObj (.ref f) (.ref x))
 | .ext φ => φ h ∧ (∃ o,h.get? a = some o) ∧ ∀ h1 h2 : Heap,φ h1 → (∀ o,h1.get? a = some o → h2.get? a = some o) → φ h2
def fY (H : Hp) (h : Heap) : Prop := ∀ a o,H a = some o → bz P w H h a o
end
section
variable {P : Program} {w : World} {H H' : Hp} {h h' : Heap} {a : Addr} {o : HO}
theorem bz.lt (x : bz P w H h a o) : a < h.objs.size := by
 cases o with
 | lst xs => obtain ⟨_,_,_,_,e⟩ := x; exact Heap.lt_size e
 | tup xs => obtain ⟨_,_,_,p⟩ := x; exact p.lt
 | dK kvs => obtain ⟨_,_,_,_,o,_,_,e,_⟩ := x; exact Heap.lt_size e
 | dT kvs => obtain ⟨_,_,_,_,o,_,_,e,_⟩ := x; exact Heap.lt_size e
 | set S n => obtain ⟨o,_,_,_,e,_⟩ := x; exact Heap.lt_size e
 | ins C dx fs => obtain ⟨_,_,_,e,_⟩ := x; exact Heap.lt_size e
 | own y => obtain ⟨_,e⟩ := x; exact Heap.lt_size e
 | xd fs => obtain ⟨_,⟨_,_,_,e,_⟩,_⟩ := x; exact Heap.lt_size e
 | rng lo hi => obtain ⟨_,_,_,e⟩ := x; exact Heap.lt_size e
 | iH ob u => obtain ⟨e,_⟩ := x; exact Heap.lt_size e
 | Bv ps => exact Heap.lt_size (show h.get? a = some _ from x)
 | met f y => exact Heap.lt_size (show h.get? a = some _ from x)
 | ext φ => obtain ⟨_,⟨_,e⟩,_⟩ := x; exact Heap.lt_size e
theorem Paired.Ci {α β : Type} {F G : α → β → Prop} : ∀ {l₁ : List α} {l₂ : List β},Paired F l₁ l₂ → (∀ a b,F a b → G a b) → Paired G l₁ l₂
 | _,_,.nil,_ => .nil
 | _,_,.cons r t,f => .cons (f _ _ r) (Paired.Ci t f)
theorem bz.stay (x : bz P w H h a o) (k : ∀ b u,(b = a ∨ H b = some (.own a)) → h.get? b = some u → h'.get? b = some u)
  (ho : ∀ b,H b = some (.own a) → H' b = some (.own a)) (ht : ∀ b xs,H b = some (.tup xs) → H' b = some (.tup xs)) : bz P w H' h' a o := by
 induction o with
 | lst xs => obtain ⟨z,its,n,r,e⟩ := x; exact ⟨z,its,n,r,k _ _ (.inl rfl) e⟩
 | tup xs => obtain ⟨z,its,r,ob,e,c⟩ := x; exact ⟨z,its,r,ob,k _ _ (.inl rfl) e,c⟩
 | dK kvs => obtain ⟨z,y,vs,r,ob,es,ep,e,c⟩ := x; exact ⟨z,y,vs,r,ob,es,ep,k _ _ (.inl rfl) e,c⟩
 | dT kvs =>
  obtain ⟨z,y,xs,r,ob,es,ep,e,c⟩ := x
  exact ⟨z,y,xs,Paired.Ci r fun p q z => ⟨z.1,ht _ _ z.2.1,z.2.2⟩,ob,es,ep,k _ _ (.inl rfl) e,c⟩
 | set S n => obtain ⟨ob,es,ep,t,e,c⟩ := x; exact ⟨ob,es,ep,t,k _ _ (.inl rfl) e,c⟩
 | ins C dx fs =>
  obtain ⟨d,z,ne,e,mA,⟨od,es,ep,e2,c⟩,r⟩ := x
  exact ⟨ho _ d,z,ne,k _ _ (.inl rfl) e,mA,⟨od,es,ep,k _ _ (.inr d) e2,c⟩,r⟩
 | own y => obtain ⟨ob,e⟩ := x; exact ⟨ob,k _ _ (.inl rfl) e⟩
 | xd fs => obtain ⟨mA,⟨od,es,ep,e,c⟩,r⟩ := x; exact ⟨mA,⟨od,es,ep,k _ _ (.inl rfl) e,c⟩,r⟩
 | rng lo hi => obtain ⟨t,u,v,e⟩ := x; exact ⟨t,u,v,k _ _ (.inl rfl) e⟩
 | iH ob u ih => obtain ⟨e,q⟩ := x; exact ⟨k _ _ (.inl rfl) e,ih q⟩
 | Bv ps =>
  have e : h.get? a = some { cls := .none,data := .fields ps } := x
  show h'.get? a = some { cls := .none,data := .fields ps }
  exact k a _ (.inl rfl) e
 | met f y =>
  have e : h.get? a = some (PySem.W.methodObj (.ref f) (.ref y)) := x
  show h'.get? a = some (PySem.W.methodObj (.ref f) (.ref y))
  exact k a _ (.inl rfl) e
 | ext φ => obtain ⟨p,⟨o,e⟩,st⟩ := x; exact ⟨st _ _ p fun o q => k _ _ (.inl rfl) q,⟨o,k _ _ (.inl rfl) e⟩,st⟩
theorem fY.lt (x : fY P w H h) (e : H a = some o) : a < h.objs.size := (x a o e).lt
theorem fY.fresh (x : fY P w H h) (e : h.objs.size ≤ a) : H a = none := by
 cases q : H a with
 | none => rfl
 | some u => exact absurd (Nat.lt_of_lt_of_le (x.lt q) e) (Nat.lt_irrefl _)
theorem fY.kept (x : fY P w H h) (k : ∀ b u,h.get? b = some u → h'.get? b = some u) : fY P w H h' := fun a o e =>
 (x a o e).stay (fun b u _ q => k b u q) (fun _ q => q) fun _ _ q => q
theorem fY.laid (x : fY P w H h) (k : ∀ b u,h.get? b = some u → h'.get? b = some u) (hp : h.objs.size ≤ a) (new : bz P w (upd H a o) h' a o) : fY P w (upd H a o) h' := fun b u e => by
 have hn := x.fresh hp
 by_cases hb : b = a
 ·subst hb; rw [ah] at e; cases e; exact new
 ·rw [aw hb] at e
  exact (x b u e).stay (fun c v _ q => k c v q) (fun c q => by rw [aw (aq q hn)]; exact q) fun c xs q => by rw [aw (aq q hn)]; exact q
end
def Rd (H : Hp) (a : Addr) (u : HO) : Prop := H a = some u ∨ ∃ o,H a = some (.iH o u)
theorem Rd.of {H : Hp} {a : Addr} {u : HO} (h : H a = some u) : Rd H a u := .inl h
theorem Rd.ok {P : Program} {w : World} {H : Hp} {h : Heap} {a : Addr} {u : HO} (r : Rd H a u) (x : fY P w H h) : bz P w H h a u := by
 rcases r with r | ⟨o,r⟩
 ·exact x a u r
 ·obtain ⟨_,q⟩ := x a _ r
  exact q
def Ef : Option HO → Prop
 | some (.lst _) => True
 | some (.dK _) => True
 | some (.dT _) => True
 | some (.set _ _) => True
 | some (.ins _ _ _) => True
 | some (.ext _) => True
 | _ => False
section
variable {P : Program} {w : World} {H : Hp} {h h' : Heap} {x e : Addr} {o' : HO}
theorem fY.write (ok : fY P w H h) (mu : Ef (H x)) (he : e = x ∨ H e = some (.own x)) (k : ∀ b u,b ≠ e → h.get? b = some u → h'.get? b = some u) (heo : ∃ u,h'.get? e = some u)
  (new : bz P w (upd H x o') h' x o') : fY P w (upd H x o') h' := fun b u q => by
 have Eg : ∀ c y,H c = some (.own y) → c ≠ x := fun c y r z => by subst z; rw [r] at mu; exact mu
 have JH : ∀ c xs,H c = some (.tup xs) → c ≠ x := fun c xs r z => by subst z; rw [r] at mu; exact mu
 by_cases hb : b = x
 ·subst hb; rw [ah] at q; cases q; exact new
 ·rw [aw hb] at q
  by_cases hbe : b = e
  ·have q' : H b = some (.own x) := by
    rcases he with z | z
    ·exact absurd (hbe.trans z) hb
    ·rw [hbe]; exact z
   rw [q] at q'; cases q'
   obtain ⟨v,hv⟩ := heo
   exact ⟨v,by rw [hbe]; exact hv⟩
  ·refine (ok b u q).stay (fun c v hc r => k c v ?_ r) (fun c r => by rw [aw (Eg c b r)]; exact r) fun c xs r => by rw [aw (JH c xs r)]; exact r
   rcases hc with rfl | hc
   ·exact hbe
   ·rintro rfl
    rcases he with z | z
    ·exact Eg c b hc z
    ·rw [hc] at z; cases z; exact hb rfl
end
structure Un (fs ex : List Addr) (H H' : Hp) (h h' : Heap) : Prop where
 keep : ∀ b o,h.get? b = some o → H b = none → b ∉ fs → b ∉ ex → h'.get? b = some o
 slot : ∀ b o,h.get? b = some o → H b = none → b ∈ fs → b ∉ ex → ∃ sl,h'.get? b = some { o with slots := sl }
 free : ∀ b o,h.get? b = some o → H b = none → b ∉ ex → H' b = none
 there : ∀ b o,h.get? b = some o → b ∉ ex → ∃ o',h'.get? b = some o'
 tups : ∀ b xs,H b = some (.tup xs) → H' b = some (.tup xs)
 iq : ∀ b o u,H b = some (.iH o u) → H' b = some (.iH o u)
 jf : ∀ b ps,H b = some (.Bv ps) → ∃ more,H' b = some (.Bv (ps ++ more))
section
variable {fs fs' ex ex' : List Addr} {H H1 H2 : Hp} {h h1 h2 h' : Heap} {a x e : Addr} {o : HO}
theorem Un.any (u : Un fs ex H H1 h h1) {b : Addr} {ob : Obj} (q : h.get? b = some ob) (n : H b = none) (hx : b ∉ ex) : ∃ sl,h1.get? b = some { ob with slots := sl } := by
 by_cases hb : b ∈ fs
 ·exact u.slot b ob q n hb hx
 ·exact ⟨ob.slots,u.keep b ob q n hb hx⟩
theorem Un.kept (k : ∀ b u,h.get? b = some u → h'.get? b = some u) : Un fs ex H H h h' :=
 ⟨fun b ob q _ _ _ => k b ob q,fun b ob q _ _ _ => ⟨ob.slots,k b ob q⟩,fun _ _ _ n _ => n,fun b ob q _ => ⟨ob,k b ob q⟩,fun _ _ q => q,fun _ _ _ q => q,fun _ ps q => ⟨#[],by rw [q]; simp⟩⟩
theorem Un.refl : Un fs ex H H h h := Un.kept fun _ _ q => q
theorem Un.laid (k : ∀ b u,h.get? b = some u → h'.get? b = some u) (hp : h.objs.size ≤ a) (hn : H a = none) : Un fs ex H (upd H a o) h h' where
 keep := fun b u q _ _ _ => k b u q
 slot := fun b u q _ _ _ => ⟨u.slots,k b u q⟩
 free := fun b u q n _ => by rw [aw (Nat.ne_of_lt (Nat.lt_of_lt_of_le (Heap.lt_size q) hp))]; exact n
 there := fun b u q _ => ⟨u,k b u q⟩
 tups := fun b xs q => by rw [aw (aq q hn)]; exact q
 iq := fun b u xs q => by rw [aw (aq q hn)]; exact q
 jf := fun b ps q => ⟨#[],by rw [aw (aq q hn),q]; simp⟩
theorem Un.write (mu : Ef (H x)) (he : e = x ∨ H e = some (.own x)) (k : ∀ b u,b ≠ e → h.get? b = some u → h'.get? b = some u) (heo : ∃ u,h'.get? e = some u) : Un fs ex H (upd H x o) h h' := by
 have hx : ∀ b,H b = none → b ≠ x := fun b n z => by subst z; rw [n] at mu; exact mu
 have hb : ∀ b,H b = none → b ≠ e := fun b n z => by
  subst z
  rcases he with r | r
  ·exact hx b n r
  ·rw [n] at r; cases r
 have hm : ∀ b u,H b = some u → ¬ Ef (some u) → b ≠ x := fun b u q nm z => by subst z; rw [q] at mu; exact nm mu
 refine ⟨fun b u q n _ _ => k b u (hb b n) q,fun b u q n _ _ => ⟨u.slots,k b u (hb b n) q⟩,fun b u q n _ => by rw [aw (hx b n)]; exact n,fun b u q _ => ?_,
  fun b xs q => by rw [aw (hm b _ q fun z => z)]; exact q,fun b u xs q => by rw [aw (hm b _ q fun z => z)]; exact q,fun b ps q => ⟨#[],by rw [aw (hm b _ q fun z => z),q]; simp⟩⟩
 by_cases hbe : b = e
 ·subst hbe; exact heo
 ·exact ⟨u,k b u hbe q⟩
end
def I0 (h : Heap) (H : Hp) : List Addr := (List.range h.objs.size).filter fun a => (H a).isSome
def om (h : Heap) (H : Hp) : Heap := PySem.W.hideAll h (I0 h H)
theorem uG (h : Heap) (H : Hp) : (om h H).objs.size = h.objs.size := PySem.W.hideAll_size _ _
theorem vM {h : Heap} {H : Hp} {b : Addr} {o : Obj} (e : h.get? b = some o) (n : H b = none) : (om h H).get? b = some o :=
 PySem.W.hideAll_get _ e fun hm => by
  have q : (H b).isSome = true := (List.mem_filter.mp hm).2
  rw [n] at q; simp at q
theorem zj {h : Heap} {H : Hp} {b : Addr} {o : Obj} (e : (om h H).get? b = some o) : h.get? b = some o ∧ H b = none := by
 have e' : h.get? b = some o := PySem.W.of_hideAll (I0 h H) e
 refine ⟨e',?_⟩
 cases q : H b with
 | none => rfl
 | some x =>
  have hm : b ∈ I0 h H := List.mem_filter.mpr ⟨List.mem_range.mpr (Heap.lt_size e'),by simp [q]⟩
  have z : (om h H).get? b = none := PySem.W.hideAll_none (I0 h H) hm
  rw [z] at e; cases e
structure Mod (K : PySem.W.Frag) (mg : Str → Option Value) (base : Heap) : Prop where
 Cj : K.In base
 glob : base.Ns mainGlobals mg
 blt : ∃ mb,base.Ns builtinsNs mb ∧ ∀ x : Str,x ≠ "__name__" → mb x = bootBuiltins x
 nolimit : base.NoLimit
structure Cx where
 prog : Program
 w : World
 K : PySem.W.Frag
 mg : Str → Option Value
 base : Heap
 A : Around
 N : List Str
 s₀ : Shared
 H₀ : Hp
 env : Env
 outer : List Env
 stack : List Env
 ex : List Addr
 fn : Str → Bool
 calm : Bool
 pn : List (Addr × Obj)
 xe : Value → Shared → Prop
def frs (l : List Env) : List Addr := l.filterMap (·.frame)
abbrev Cx.fs (X : Cx) : List Addr := frs X.outer
def JI (sc : Scope) (x : Str) : Prop := sc.names.lookup x = some .local ∨ sc.names.lookup x = some .cell ∨ sc.names.lookup x = some .free
def Loc (sc : Scope) (x : Str) : Prop := sc.names.lookup x = some .local ∨ sc.names.lookup x = some .cell
def Look (env : Env) (h : Heap) (m : Str → Option Value) (x : Str) (u : Value) : Prop :=
 (env.kindOf x = some .local ∧ m x = some u) ∨ ((env.kindOf x = some .cell ∨ env.kindOf x = some .free) ∧ ∃ c,env.cells.lookup x = some c ∧ h.IsCell c (some u))
structure Cx.Ok (X : Cx) : Prop where
 mod : Mod X.K X.mg X.base
 kind : X.env.scope.kind = .function
 glob : X.env.globals = mainGlobals
 blt : X.env.builtins = builtinsNs
 above : X.s₀.heap.objs.size ≤ X.env.locals
 inj : ∀ x y c,X.env.cells.lookup x = some c → X.env.cells.lookup y = some c → x = y
 has : ∀ x,(X.env.kindOf x = some .cell ∨ X.env.kindOf x = some .free) → ∃ c,X.env.cells.lookup x = some c
 cab : ∀ x c,X.fn x = true → X.env.cells.lookup x = some c → X.s₀.heap.objs.size ≤ c
 hd : X.calm = true → X.A.handled = none
 frames : X.A.frames = some X.stack
 stk : X.stack = X.outer ∨ (X.stack = X.env :: X.outer ∧ X.env.frame = some X.env.locals)
 Eh : ∀ b ∈ X.ex,b ≠ X.env.locals ∧ ∀ x c,X.env.cells.lookup x = some c → c ≠ b
 bs : ∀ b o,X.base.get? b = some o → X.s₀.heap.get? b = some o ∧ X.H₀ b = none
 vG : X.base.objs.size ≤ X.s₀.heap.objs.size
 qH : ∀ b o,X.base.get? b = some o → b ∉ X.ex
 qI : ∀ b ∈ X.ex,b ∉ X.fs
 iu : X.s₀.heap.FunFrames X.base X.outer
 Bw : ∀ b ∈ X.fs,X.H₀ b = none
structure Inv (X : Cx) (pins : List (Addr × Obj)) (σ : List (Option V)) (H : Hp) (s : Shared) : Prop where
 ok : X.Ok
 os : s.os = X.s₀.os
 bare : AllBare s.gens
 base : Un X.fs X.ex X.H₀ H X.s₀.heap s.heap
 loc : ∃ m,s.heap.Ns X.env.locals m ∧ ∀ (i : Nat) (x : Str) (v : V),X.N[i]? = some x → σ[i]? = some (some v) → JI X.env.scope x → ∃ u,RelV v u ∧ Look X.env s.heap m x u
 cell : ∀ x c,X.env.cells.lookup x = some c → ∃ v,s.heap.IsCell c v
 free : H X.env.locals = none
 dH : ∀ x c,X.env.cells.lookup x = some c → H c = none
 pin : ∀ p ∈ X.pn ++ pins,s.heap.get? p.1 = some p.2 ∧ H p.1 = none ∧ p.1 ≠ X.env.locals ∧ p.1 ∉ X.fs ∧ ∀ v,p.2.data ≠ .cell v
 hok : fY X.prog X.w H s.heap
 len : σ.length = X.N.length
section
variable {X : Cx} {pins : List (Addr × Obj)} {σ : List (Option V)} {H H' : Hp} {s : Shared} {h' : Heap}
theorem Cx.Ok.JJ (ok : X.Ok) {b : Addr} {o : Obj} (e : X.base.get? b = some o) : b ∉ X.fs := fun hb => by
 have := (ok.iu.mem hb).1
 rw [e] at this; cases this
theorem Inv.bs (I : Inv X pins σ H s) : ∀ b o,X.base.get? b = some o → s.heap.get? b = some o ∧ H b = none := fun b o e =>
 ⟨I.base.keep b o (I.ok.bs b o e).1 (I.ok.bs b o e).2 (I.ok.JJ e) (I.ok.qH b o e),I.base.free b o (I.ok.bs b o e).1 (I.ok.bs b o e).2 (I.ok.qH b o e)⟩
theorem Inv.bk (I : Inv X pins σ H s) : ∀ b o,X.base.get? b = some o → s.heap.get? b = some o := fun b o e => (I.bs b o e).1
theorem Inv.mod (I : Inv X pins σ H s) : Mod X.K X.mg X.base := I.ok.mod
theorem Inv.e6 (I : Inv X pins σ H s) : X.K.In s.heap := I.ok.mod.Cj.keeps I.bk
theorem Inv.lt (I : Inv X pins σ H s) : X.env.locals < s.heap.objs.size := let ⟨_,hn,_⟩ := I.loc; hn.lt
theorem Inv.sz (I : Inv X pins σ H s) : X.s₀.heap.objs.size ≤ s.heap.objs.size := Nat.le_trans I.ok.above (Nat.le_of_lt I.lt)
theorem Inv.JK (I : Inv X pins σ H s) {a : Addr} (h : s.heap.objs.size ≤ a) : a ∉ X.fs := fun hb => by
 obtain ⟨_,o,ho,_⟩ := I.ok.iu.mem hb
 exact absurd (Nat.lt_of_lt_of_le (Heap.lt_size ho) (Nat.le_trans I.sz h)) (Nat.lt_irrefl _)
theorem Inv.vN (I : Inv X pins σ H s) : ∀ x c,X.env.cells.lookup x = some c → c ≠ X.env.locals := fun x c e z => by
 obtain ⟨v,o,ho,hd⟩ := I.cell x c e
 obtain ⟨m,⟨o',es,ep,ho',hd',_⟩,_⟩ := I.loc
 rw [z,ho'] at ho; cases ho; rw [hd'] at hd; cases hd
theorem Inv.iu (I : Inv X pins σ H s) : s.heap.FunFrames X.base X.outer := by
 have all : ∀ (l : List Env),(∀ b ∈ frs l,b ∈ X.fs) → X.s₀.heap.FunFrames X.base l → s.heap.FunFrames X.base l := by
  intro l
  induction l with
  | nil => intro _ _; trivial
  | cons env r ih =>
   intro hs hl
   obtain ⟨hk,⟨L,o,hf,hn,ho,hd⟩,hr⟩ := hl
   have hL : L ∈ X.fs := hs L (by unfold frs; rw [List.filterMap_cons,hf]; exact List.mem_cons_self)
   obtain ⟨sl,e⟩ := I.base.slot L o ho (I.ok.Bw L hL) hL fun z => I.ok.qI L z hL
   exact ⟨hk,⟨L,_,hf,hn,e,hd⟩,ih (fun b hb => hs b (by unfold frs; rw [List.filterMap_cons,hf]; exact List.mem_cons_of_mem _ hb)) hr⟩
 exact all X.outer (fun _ hb => hb) I.ok.iu
theorem Inv.stack (I : Inv X pins σ H s) : s.heap.FunFrames X.base X.stack := by
 rcases I.ok.stk with e | ⟨e,hf⟩
 ·rw [e]; exact I.iu
 ·rw [e]
  obtain ⟨m,hn,_⟩ := I.loc
  refine .cons (by rw [I.ok.kind]; decide) hf hn ?_ I.iu
  exact Heap.get?_none_of_le (Nat.le_trans I.ok.vG I.ok.above)
theorem Inv.j9 (I : Inv X pins σ H s) : ∀ b ∈ frs X.stack,b ∈ X.env.locals :: X.fs := fun b hb => by
 rcases I.ok.stk with e | ⟨e,hf⟩
 ·rw [e] at hb; exact List.mem_cons_of_mem _ hb
 ·rw [e] at hb
  unfold frs at hb
  rw [List.filterMap_cons,hf] at hb
  exact hb
theorem Inv.iJ (I : Inv X pins σ H s) : ∀ b ∈ frs X.stack,H b = none := fun b hb => by
 rcases List.mem_cons.mp (I.j9 b hb) with e | hb
 ·rw [e]; exact I.free
 ·obtain ⟨_,o,ho,_⟩ := I.ok.iu.mem hb
  exact I.base.free b o ho (I.ok.Bw b hb) fun z => I.ok.qI b z hb
theorem Inv.step {g' : Array GenState} {t' : Nat} {d' : Drawn} {ch : List Addr} (I : Inv X pins σ H s)
  (hch : ∀ b ∈ ch,(b ∈ X.ex ∨ X.s₀.heap.objs.size ≤ b) ∧ b ≠ X.env.locals ∧ (∀ x c,X.env.cells.lookup x = some c → c ≠ b) ∧ ∀ p ∈ X.pn ++ pins,p.1 ≠ b)
  (keep : ∀ b o,b ≠ X.env.locals → b ∉ X.fs → b ∉ ch → s.heap.get? b = some o → H b = none → h'.get? b = some o)
  (slot : ∀ b o,b ≠ X.env.locals → b ∈ X.fs → b ∉ ch → s.heap.get? b = some o → H b = none → ∃ sl,h'.get? b = some { o with slots := sl }) (free : ∀ b o,b ∉ ch → s.heap.get? b = some o → H b = none → H' b = none)
  (there : ∀ b o,b ∉ ch → s.heap.get? b = some o → ∃ o',h'.get? b = some o')
  (tups : ∀ b xs,H b = some (.tup xs) → H' b = some (.tup xs)) (iq : ∀ b o u,H b = some (.iH o u) → H' b = some (.iH o u)) (jf : ∀ b ps,H b = some (.Bv ps) → ∃ more,H' b = some (.Bv (ps ++ more)))
  (ns : ∀ m,s.heap.Ns X.env.locals m → h'.Ns X.env.locals m) (hok : fY X.prog X.w H' h') (hg : AllBare g') :
  Inv X pins σ H' { s with heap := h',gens := g',drawn := d',toks := t' } := by
 have V1 : ∀ b o,X.s₀.heap.get? b = some o → b ≠ X.env.locals := fun b o e => Nat.ne_of_lt (Nat.lt_of_lt_of_le (Heap.lt_size e) I.ok.above)
 have Ja : ∀ b o,X.s₀.heap.get? b = some o → b ∉ X.ex → b ∉ ch := fun b o e hx hb => by
  rcases (hch b hb).1 with z | z
  ·exact hx z
  ·exact absurd (Nat.lt_of_lt_of_le (Heap.lt_size e) z) (Nat.lt_irrefl _)
 have cellK : ∀ x c,X.env.cells.lookup x = some c → ∀ v,s.heap.IsCell c v → h'.IsCell c v := fun x c e v ⟨o,ho,hd⟩ => by
  have Ei : c ∉ ch := fun z => (hch c z).2.2.1 x c e rfl
  by_cases hc : c ∈ X.fs
  ·obtain ⟨sl,q⟩ := slot c o (I.vN x c e) hc Ei ho (I.dH x c e)
   exact ⟨_,q,hd⟩
  ·exact ⟨o,keep c o (I.vN x c e) hc Ei ho (I.dH x c e),hd⟩
 refine ⟨I.ok,I.os,hg,⟨fun b o e n hb hx => ?_,fun b o e n hb hx => ?_,fun b o e n hx => ?_,fun b o e hx => ?_,fun b xs e => tups b xs (I.base.tups b xs e),fun b o xs e => iq b o xs (I.base.iq b o xs e),fun b ps e => ?_⟩,?_,fun x c e => ?_,?_,fun x c e => ?_,fun p hp => ?_,hok,I.len⟩
 ·exact keep b o (V1 b o e) hb (Ja b o e hx) (I.base.keep b o e n hb hx) (I.base.free b o e n hx)
 ·obtain ⟨sl,e1⟩ := I.base.slot b o e n hb hx
  obtain ⟨sl',e2⟩ := slot b _ (V1 b o e) hb (Ja b o e hx) e1 (I.base.free b o e n hx)
  exact ⟨sl',e2⟩
 ·obtain ⟨o',e1⟩ := I.base.there b o e hx
  exact free b o' (Ja b o e hx) e1 (I.base.free b o e n hx)
 ·obtain ⟨o',e1⟩ := I.base.there b o e hx
  exact there b o' (Ja b o e hx) e1
 ·obtain ⟨m1,e1⟩ := I.base.jf b ps e
  obtain ⟨m2,e2⟩ := jf b _ e1
  exact ⟨m1 ++ m2,by rw [e2,Array.append_assoc]⟩
 ·obtain ⟨m,hn,hl⟩ := I.loc
  refine ⟨m,ns m hn,fun i x v e1 e2 e3 => ?_⟩
  obtain ⟨u,r,l⟩ := hl i x v e1 e2 e3
  refine ⟨u,r,?_⟩
  rcases l with l | ⟨k,c,e,z⟩
  ·exact .inl l
  ·exact .inr ⟨k,c,e,cellK x c e _ z⟩
 ·obtain ⟨v,z⟩ := I.cell x c e
  exact ⟨v,cellK x c e v z⟩
 ·obtain ⟨m,⟨o,_,_,ho,_⟩,_⟩ := I.loc
  exact free _ o (fun z => (hch _ z).2.1 rfl) ho I.free
 ·obtain ⟨v,o,ho,hd⟩ := I.cell x c e
  exact free c o (fun z => (hch c z).2.2.1 x c e rfl) ho (I.dH x c e)
 ·obtain ⟨e,n,ne,nf,d⟩ := I.pin p hp
  have Ei : p.1 ∉ ch := fun z => (hch p.1 z).2.2.2 p hp rfl
  exact ⟨keep p.1 p.2 ne nf Ei e n,free p.1 p.2 Ei e n,ne,nf,d⟩
theorem Inv.un {t' : Nat} (I : Inv X pins σ H s) (u : Un X.fs [] H H' s.heap h') (hok : fY X.prog X.w H' h') : Inv X pins σ H' { s with heap := h',toks := t' } := by
 obtain ⟨m,⟨o,es,ep,ho,r⟩,_⟩ := id I.loc
 obtain ⟨sl,hL⟩ := u.any ho I.free (by simp)
 exact I.step (g' := s.gens) (d' := s.drawn) (ch := []) (fun _ z => nomatch z) (fun b o _ hb _ e n => u.keep b o e n hb (by simp)) (fun b o _ hb _ e n => u.slot b o e n hb (by simp)) (fun b o _ e n => u.free b o e n (by simp)) (fun b o _ e => u.there b o e (by simp)) u.tups u.iq u.jf (fun m' hm => by
  obtain ⟨o',es',ep',ho',r'⟩ := hm
  rw [ho] at ho'; cases ho'
  exact ⟨_,es',ep',hL,r'⟩) hok I.bare
theorem Inv.call {g' : Array GenState} {t' : Nat} {d' : Drawn} {ch : List Addr} (I : Inv X pins σ H s) (u : Un (frs X.stack) ch H H' s.heap h') (hok : fY X.prog X.w H' h') (hg : AllBare g')
  (hch : ∀ b ∈ ch,(b ∈ X.ex ∨ X.s₀.heap.objs.size ≤ b) ∧ b ≠ X.env.locals ∧ (∀ x c,X.env.cells.lookup x = some c → c ≠ b) ∧ ∀ p ∈ X.pn ++ pins,p.1 ≠ b) :
  Inv X pins σ H' { s with heap := h',gens := g',drawn := d',toks := t' } := by
 obtain ⟨m,⟨o,es,ep,ho,r⟩,_⟩ := id I.loc
 obtain ⟨sl,hL⟩ := u.any ho I.free fun z => (hch _ z).2.1 rfl
 exact I.step (ch := ch) hch (fun b o hL hb hc e n => u.keep b o e n (fun z => (List.mem_cons.mp (I.j9 b z)).elim hL hb) hc) (fun b o _ _ hc e n => u.any e n hc) (fun b o hc e n => u.free b o e n hc) (fun b o hc e => u.there b o e hc) u.tups u.iq u.jf (fun m' hm => by
  obtain ⟨o',es',ep',ho',r'⟩ := hm
  rw [ho] at ho'; cases ho'
  exact ⟨_,es',ep',hL,r'⟩) hok hg
theorem Inv.turned {t' : Nat} {it : Addr} (I : Inv X pins σ H s) (k : ∀ b o,b ≠ it → s.heap.get? b = some o → h'.get? b = some o) (hn : H it = none) (hL : it ≠ X.env.locals)
  (h1 : it ∈ X.ex ∨ X.s₀.heap.objs.size ≤ it) (h2 : ∀ x c,X.env.cells.lookup x = some c → c ≠ it) (h3 : ∀ p ∈ X.pn ++ pins,p.1 ≠ it) : Inv X pins σ H { s with heap := h',toks := t' } := by
 have Ej : ∀ b u,H b = some u → b ≠ it := fun b u e z => by rw [z,hn] at e; cases e
 refine I.step (g' := s.gens) (d' := s.drawn) (ch := [it]) (fun b hb => ?_) (fun b o _ _ hc e _ => k b o (fun z => hc (by simp [z])) e) (fun b o _ _ hc e _ => ⟨o.slots,k b o (fun z => hc (by simp [z])) e⟩) (fun _ _ _ _ n => n)
  (fun b o hc e => ⟨o,k b o (fun z => hc (by simp [z])) e⟩) (fun _ _ e => e) (fun _ _ _ e => e) (fun b ps e => ⟨#[],by rw [e]; simp⟩) (fun m hm => ?_) (fun b u e => ?_) I.bare
 ·have e : b = it := by simpa using hb
  subst e
  exact ⟨h1,hL,h2,h3⟩
 ·obtain ⟨o,es,ep,ho,r⟩ := hm
  exact ⟨o,es,ep,k _ o (Ne.symm hL) ho,r⟩
 ·refine (I.hok b u e).stay (fun c v hc q => k c v ?_ q) (fun _ q => q) fun _ _ q => q
  rcases hc with z | z
  ·rw [z]; exact Ej b u e
  ·exact Ej c _ z
theorem Inv.tok (I : Inv X pins σ H s) (t : Nat) : Inv X pins σ H { s with toks := t } := I.un (h' := s.heap) (t' := t) Un.refl I.hok
theorem Inv.kept {t' : Nat} (I : Inv X pins σ H s) (k : ∀ b u,s.heap.get? b = some u → h'.get? b = some u) : Inv X pins σ H { s with heap := h',toks := t' } := I.un (Un.kept k) (I.hok.kept k)
theorem Inv.laid {a : Addr} {o : HO} {t' : Nat} (I : Inv X pins σ H s) (k : ∀ b u,s.heap.get? b = some u → h'.get? b = some u) (hp : s.heap.objs.size ≤ a) (new : bz X.prog X.w (upd H a o) h' a o) :
  Inv X pins σ (upd H a o) { s with heap := h',toks := t' } := I.un (Un.laid k hp (I.hok.fresh hp)) (I.hok.laid k hp new)
theorem Inv.write {x e : Addr} {o : HO} {t' : Nat} (I : Inv X pins σ H s) (mu : Ef (H x)) (he : e = x ∨ H e = some (.own x)) (k : ∀ b u,b ≠ e → s.heap.get? b = some u → h'.get? b = some u) (heo : ∃ u,h'.get? e = some u)
  (new : bz X.prog X.w (upd H x o) h' x o) : Inv X pins σ (upd H x o) { s with heap := h',toks := t' } := I.un (Un.write mu he k heo) (I.hok.write mu he k heo new)
theorem Inv.sA {By : List (Addr × Obj)} (I : Inv X pins σ H s) (h : ∀ p ∈ By,s.heap.get? p.1 = some p.2 ∧ H p.1 = none ∧ p.1 ≠ X.env.locals ∧ p.1 ∉ X.fs ∧ ∀ v,p.2.data ≠ .cell v) : Inv X By σ H s :=
 ⟨I.ok,I.os,I.bare,I.base,I.loc,I.cell,I.free,I.dH,fun p hp => (List.mem_append.mp hp).elim (fun z => I.pin p (List.mem_append_left _ z)) (h p),I.hok,I.len⟩
theorem kd {N : List Str} (hN : N.Nodup) {i j : Nat} {x : Str} (a : N[i]? = some x) (b : N[j]? = some x) : i = j := by
 obtain ⟨h1,e1⟩ := List.getElem?_eq_some_iff.mp a
 obtain ⟨h2,e2⟩ := List.getElem?_eq_some_iff.mp b
 exact (List.getElem_inj hN).mp (e1.trans e2.symm)
theorem mn {M : Model} {A : Around} {E : Value → Shared → Prop} {i : Nat} {x : Str} {v : V} {u : Value} {Q : Unit → Shared → Prop} (I : Inv X pins σ H s) (hN : X.N.Nodup) (hi : X.N[i]? = some x) (hx : Loc X.env.scope x) (r : RelV v u)
  (h : ∀ s',Inv X pins (σ.set i (some v)) H s' → (∃ a,Heap.SameBut a s.heap s'.heap ∧ (a = X.env.locals ∨ X.env.cells.lookup x = some a)) → Q () s') (hf : X.fn x = true ∨ X.env.scope.names.lookup x = some .local := by first | exact .inl rfl | exact .inr rfl | assumption) : wpAny M A (storeName X.env x u) Q E s := by
 obtain ⟨m,hn,hl⟩ := id I.loc
 have hcls : (X.env.scope.kind == .class || (X.env.scope.kind == .module && X.env.locals != X.env.globals)) = false := by rw [I.ok.kind]; rfl
 have hiσ : i < σ.length := by rw [I.len]; exact (List.getElem?_eq_some_iff.mp hi).1
 have vN := I.vN
 have tracked : ∀ {a : Addr} {h' : Heap},(∃ o,s.heap.get? a = some o ∧ H a = none) → Heap.SameBut a s.heap h' → fY X.prog X.w H h' := fun {a h'} ha hs b ob e => by
  obtain ⟨_,_,hfree⟩ := ha
  refine (I.hok b ob e).stay (fun c w' hc q => (hs.2 c ?_).trans q) (fun _ q => q) fun _ _ q => q
  rintro rfl
  rcases hc with rfl | hc
  ·rw [hfree] at e; cases e
  ·rw [hfree] at hc; cases hc
 rcases hx with hk | hk
 ·refine wpAny_storeName_local hk hn (fun h' hn' hs => ?_) hcls
  obtain ⟨oL,_,_,hoL,_⟩ := id hn
  refine h _ ⟨I.ok,I.os,I.bare,⟨fun b o e n hb hx => ?_,fun b o e n hb hx => ?_,I.base.free,fun b o e hx => ?_,I.base.tups,I.base.iq,I.base.jf⟩,⟨_,hn',fun j y v' e1 e2 e3 => ?_⟩,fun y c e => ?_,I.free,I.dH,fun p hp => ?_,tracked ⟨oL,hoL,I.free⟩ hs,by simpa using I.len⟩ ⟨_,hs,.inl rfl⟩
  ·exact (hs.2 b (Nat.ne_of_lt (Nat.lt_of_lt_of_le (Heap.lt_size e) I.ok.above))).trans (I.base.keep b o e n hb hx)
  ·obtain ⟨sl,e1⟩ := I.base.slot b o e n hb hx
   exact ⟨sl,(hs.2 b (Nat.ne_of_lt (Nat.lt_of_lt_of_le (Heap.lt_size e) I.ok.above))).trans e1⟩
  ·obtain ⟨o',e1⟩ := I.base.there b o e hx
   exact ⟨o',(hs.2 b (Nat.ne_of_lt (Nat.lt_of_lt_of_le (Heap.lt_size e) I.ok.above))).trans e1⟩
  ·by_cases hj : j = i
   ·subst hj
    rw [hi] at e1; cases e1
    rw [List.getElem?_set_self hiσ] at e2
    cases e2
    exact ⟨u,r,.inl ⟨hk,by simp⟩⟩
   ·rw [List.getElem?_set_ne (Ne.symm hj)] at e2
    obtain ⟨u',r',q⟩ := hl j y v' e1 e2 e3
    refine ⟨u',r',?_⟩
    rcases q with ⟨k,e⟩ | ⟨k,c,e,z⟩
    ·refine .inl ⟨k,?_⟩
     have : y ≠ x := fun e => hj (kd hN e1 (e ▸ hi))
     simp [this,e]
    ·exact .inr ⟨k,c,e,z.sameBut hs (vN y c e)⟩
  ·obtain ⟨w',z⟩ := I.cell y c e
   exact ⟨w',z.sameBut hs (vN y c e)⟩
  ·obtain ⟨e,n,ne,nf,d⟩ := I.pin p hp
   exact ⟨(hs.2 p.1 ne).trans e,n,ne,nf,d⟩
 ·have hfn : X.fn x = true := by
   rcases hf with z | z
   ·exact z
   ·rw [z] at hk; cases hk
  obtain ⟨c,hc⟩ := I.ok.has x (.inl hk)
  obtain ⟨w',z⟩ := I.cell x c hc
  refine wpAny_storeName_cell I.ok.kind hk hc z (fun h' hc' hs => ?_)
  obtain ⟨oc,hoc,JL⟩ := id z
  refine h { s with heap := h' } ⟨I.ok,I.os,I.bare,⟨fun b o e n hb hx => ?_,fun b o e n hb hx => ?_,I.base.free,fun b o e hx => ?_,I.base.tups,I.base.iq,I.base.jf⟩,⟨m,hn.sameBut hs (Ne.symm (vN x c hc)),fun j y v' e1 e2 e3 => ?_⟩,fun y c' e => ?_,I.free,I.dH,fun p hp => ?_,tracked ⟨oc,hoc,I.dH x c hc⟩ hs,by simpa using I.len⟩ ⟨c,hs,.inr hc⟩
  ·exact (hs.2 b (Nat.ne_of_lt (Nat.lt_of_lt_of_le (Heap.lt_size e) (I.ok.cab x c hfn hc)))).trans (I.base.keep b o e n hb hx)
  ·obtain ⟨sl,e1⟩ := I.base.slot b o e n hb hx
   exact ⟨sl,(hs.2 b (Nat.ne_of_lt (Nat.lt_of_lt_of_le (Heap.lt_size e) (I.ok.cab x c hfn hc)))).trans e1⟩
  ·obtain ⟨o',e1⟩ := I.base.there b o e hx
   exact ⟨o',(hs.2 b (Nat.ne_of_lt (Nat.lt_of_lt_of_le (Heap.lt_size e) (I.ok.cab x c hfn hc)))).trans e1⟩
  ·by_cases hj : j = i
   ·subst hj
    rw [hi] at e1; cases e1
    rw [List.getElem?_set_self hiσ] at e2
    cases e2
    exact ⟨u,r,.inr ⟨.inl hk,c,hc,hc'⟩⟩
   ·rw [List.getElem?_set_ne (Ne.symm hj)] at e2
    obtain ⟨u',r',q⟩ := hl j y v' e1 e2 e3
    refine ⟨u',r',?_⟩
    rcases q with q | ⟨k,c',e,z'⟩
    ·exact .inl q
    ·refine .inr ⟨k,c',e,z'.sameBut hs ?_⟩
     rintro rfl
     exact hj (kd hN e1 (I.ok.inj _ _ _ e hc ▸ hi))
  ·by_cases hcc : c' = c
   ·subst hcc; exact ⟨_,hc'⟩
   ·obtain ⟨w2,z2⟩ := I.cell y c' e
    exact ⟨w2,z2.sameBut hs hcc⟩
  ·obtain ⟨e,n,ne,nf,d⟩ := I.pin p hp
   refine ⟨(hs.2 p.1 ?_).trans e,n,ne,nf,d⟩
   intro q
   rw [q,hoc] at e
   have q' : oc = p.2 := Option.some.inj e
   exact d w' (by rw [← q']; exact JL)
theorem ke {M : Model} {A : Around} {E : Value → Shared → Prop} {i : Nat} {x : Str} {v : V} {u : Value} {Q : Unit → Shared → Prop} (I : Inv X pins σ H s) (hN : X.N.Nodup) (hi : X.N[i]? = some x) (hx : Loc X.env.scope x) (r : RelV v u)
  (h : ∀ s',Inv X pins (σ.set i (some v)) H s' → Q () s') (hf : X.fn x = true ∨ X.env.scope.names.lookup x = some .local := by first | exact .inl rfl | exact .inr rfl | assumption) : wpAny M A (storeName X.env x u) Q E s :=
 mn I hN hi hx r (fun s' I' _ => h s' I') hf
theorem Inv.call' {s' : Shared} {ch : List Addr} (I : Inv X pins σ H s) (ho : s'.os = s.os) (u : Un (frs X.stack) ch H H' s.heap s'.heap) (hok : fY X.prog X.w H' s'.heap) (hg : AllBare s'.gens)
  (hch : ∀ b ∈ ch,(b ∈ X.ex ∨ X.s₀.heap.objs.size ≤ b) ∧ b ≠ X.env.locals ∧ (∀ x c,X.env.cells.lookup x = some c → c ≠ b) ∧ ∀ p ∈ X.pn ++ pins,p.1 ≠ b) : Inv X pins σ H' s' := by
 obtain ⟨h',g',d',t',o'⟩ := s'
 have e : o' = s.os := ho
 subst e
 exact I.call (g' := g') (t' := t') (d' := d') u hok hg hch
end
abbrev XK := Value → Option Addr → Hp → Prop
abbrev St := List (Option V)
abbrev VK := V → Hp → Prop
abbrev TE := St → Hp → VK → Prop
abbrev TT := St → Hp → (Bool → Hp → Prop) → Prop
abbrev TA := St → Hp → (List V → Hp → Prop) → Prop
structure Ends where
 nx : St → Hp → Prop
 rt : VK
 bk : St → Hp → Prop := fun _ _ => False
 ct : St → Hp → Prop := fun _ _ => False
abbrev TS := Ends → St → Hp → Prop
def EP (X : Cx) (pins : List (Addr × Obj)) (σ : St) (Q : VK) (u : Value) (s' : Shared) : Prop := ∃ v H',Inv X pins σ H' s' ∧ RelV v u ∧ Q v H'
def TP (X : Cx) (pins : List (Addr × Obj)) (σ : St) (Q : Bool → Hp → Prop) (b : Bool) (s' : Shared) : Prop := ∃ H',Inv X pins σ H' s' ∧ Q b H'
def AP (X : Cx) (pins : List (Addr × Obj)) (σ : St) (Q : List V → Hp → Prop) (us : List Value) (s' : Shared) : Prop := ∃ vs H',Inv X pins σ H' s' ∧ Vals vs us ∧ Q vs H'
def SP (X : Cx) (pins : List (Addr × Obj)) (D : Ends) (f : Flow) (s' : Shared) : Prop :=
 match f with
 | .next => ∃ σ' H',Inv X pins σ' H' s' ∧ D.nx σ' H'
 | .brk => ∃ σ' H',Inv X pins σ' H' s' ∧ D.bk σ' H'
 | .cont => ∃ σ' H',Inv X pins σ' H' s' ∧ D.ct σ' H'
 | .ret u => ∃ v σ' H',Inv X pins σ' H' s' ∧ RelV v u ∧ D.rt v H'
def PE (X : Cx) (e : Expr) (t : TE) : Prop :=
 ∀ (pins : List (Addr × Obj)) (s : Shared) (σ : St) (H : Hp) (Q : VK),Inv X pins σ H s → t σ H Q → wpAny (model X.prog X.w) X.A (eval e X.env) (EP X pins σ Q) X.xe s
def PT (X : Cx) (e : Expr) (t : TT) : Prop :=
 ∀ (pins : List (Addr × Obj)) (s : Shared) (σ : St) (H : Hp) (Q : Bool → Hp → Prop),Inv X pins σ H s → t σ H Q → wpAny (model X.prog X.w) X.A (isTrue e X.env (eval e X.env)) (TP X pins σ Q) X.xe s
def PW (X : Cx) (e : Expr) (t : TT) : Prop :=
 ∀ (whole : Sem Value) (pins : List (Addr × Obj)) (s : Shared) (σ : St) (H : Hp) (Q : Bool → Hp → Prop),Inv X pins σ H s → t σ H Q → wpAny (model X.prog X.w) X.A (isTrue e X.env whole) (TP X pins σ Q) X.xe s
theorem PW.pt {X : Cx} {e : Expr} {t : TT} (h : PW X e t) : PT X e t := h _
def PA (X : Cx) (es : List Expr) (t : TA) : Prop :=
 ∀ (pos : Pos) (pins : List (Addr × Obj)) (s : Shared) (σ : St) (H : Hp) (Q : List V → Hp → Prop),Inv X pins σ H s → t σ H Q → wpAny (model X.prog X.w) X.A (spliced (backTo pos (starEach es X.env))) (AP X pins σ Q) X.xe s
def PS (X : Cx) (st : Stmt) (t : TS) : Prop :=
 ∀ (pins : List (Addr × Obj)) (s : Shared) (σ : St) (H : Hp) (D : Ends),Inv X pins σ H s → t D σ H → wpAny (model X.prog X.w) X.A (exec st X.env) (SP X pins D) X.xe s
def lQ (X : Cx) (st : List Stmt) (t : TS) : Prop :=
 ∀ (pins : List (Addr × Obj)) (s : Shared) (σ : St) (H : Hp) (D : Ends),Inv X pins σ H s → t D σ H → wpAny (model X.prog X.w) X.A (execs st X.env) (SP X pins D) X.xe s
theorem bO {α : Type} {t : Sem α} {Q Q' : α → Shared → Prop} {M : Model} {A : Around} {E : Value → Shared → Prop} {s : Shared} (h : wpAny M A t Q E s) (hQ : ∀ a s,Q a s → Q' a s) : wpAny M A t Q' E s := wpAny_mono h hQ fun _ _ x => x
section
variable {X : Cx}
def Ck (i : Nat) : TE := fun σ H Q => ∃ v,σ[i]? = some (some v) ∧ Q v H
def tC (v : V) : TE := fun _ H Q => Q v H
theorem Cm {i : Nat} {x : Str} {pos : Pos} (hN : X.N[i]? = some x) (hv : JI X.env.scope x) (hd : (x == ("__debug__" : Str)) = false := by decide) (hcd : (x == ("__classdict__" : Str)) = false := by decide) : PE X (.Name x pos) (Ck i) := by
 intro pins s σ H Q I h
 obtain ⟨v,e,h⟩ := h
 obtain ⟨m,hn,hl⟩ := I.loc
 obtain ⟨u,r,l⟩ := hl i x v hN e hv
 have fin : EP X pins σ Q u s := ⟨v,H,I,r,h⟩
 rcases l with ⟨hk,hm⟩ | ⟨hk,c,hc,hcell⟩
 ·exact wpAny_Name (wpAny_loadName_local I.ok.kind hk hn hm fin) hd
 ·rcases hk with hk | hk
  ·exact wpAny_Name (wpAny_loadName_cell I.ok.kind hk hc hcell fin) hd
  ·exact wpAny_Name (wpAny_loadName_free I.ok.kind hk hc hcell fin hcd) hd
theorem ak {i j pos} : PE X (.Constant (.int i) j pos) (tC (.int i)) := fun _ _ _ H _ I h => wpAny_Constant_int ⟨.int i,H,I.tok _,⟨_,rfl⟩,h⟩
theorem fZ {b j pos} : PE X (.Constant (.bool b) j pos) (tC (.bl b)) := fun _ _ _ H _ I h => Constant_bool ⟨.bl b,H,I,rfl,h⟩
theorem iw {j pos} : PE X (.Constant .none j pos) (tC .non) := fun _ _ _ H _ I h => Constant_none ⟨.non,H,I,rfl,h⟩
theorem aY {x j pos} : PE X (.Constant (.str x) j pos) (tC (.str x)) := fun _ _ _ H _ I h => Calls.Constant_str ⟨.str x,H,I.tok _,⟨_,rfl⟩,h⟩
def Gl (X : Cx) (x : Str) : Prop := X.env.kindOf x = some .globalImplicit
theorem e9 {E : Value → Shared → Prop} {pins : List (Addr × Obj)} {s : Shared} {σ : St} {H : Hp} {x : Str} {u : Value} {pos : Pos} {Q : Value → Shared → Prop} (I : Inv X pins σ H s) (hg : Gl X x) (hm : X.mg x = some u) (h : Q u s)
  (hd : (x == ("__debug__" : Str)) = false := by decide) : wpAny (model X.prog X.w) X.A (eval (.Name x pos) X.env) Q E s :=
 Calls.Name_function_global I.ok.kind hg (Calls.loadGlobal_global (by rw [I.ok.glob]; exact I.mod.glob.keeps I.bk) hm h) hd
theorem kf {E : Value → Shared → Prop} {pins : List (Addr × Obj)} {s : Shared} {σ : St} {H : Hp} {x : Str} {u : Value} {pos : Pos} {Q : Value → Shared → Prop} (I : Inv X pins σ H s) (hg : Gl X x) (hm : X.mg x = none) (hv : bootBuiltins x = some u) (h : Q u s)
  (hn : x ≠ "__name__" := by decide) (hd : (x == ("__debug__" : Str)) = false := by decide) : wpAny (model X.prog X.w) X.A (eval (.Name x pos) X.env) Q E s := by
 obtain ⟨mb,h1,h2⟩ := I.mod.blt
 exact Calls.Name_function_global I.ok.kind hg (Calls.loadGlobal_builtin (by rw [I.ok.glob]; exact I.mod.glob.keeps I.bk) hm (by rw [I.ok.blt]; exact h1.keeps I.bk) ((h2 x hn).trans hv) h) hd
theorem dS {x : Str} {v : V} {u : Value} {pos : Pos} (hg : Gl X x) (hm : X.mg x = some u) (r : RelV v u) (hd : (x == ("__debug__" : Str)) = false := by decide) : PE X (.Name x pos) (tC v) :=
 fun _ _ _ H _ I h => e9 I hg hm ⟨v,H,I,r,h⟩ hd
theorem j0 {x : Str} {v : V} {u : Value} {pos : Pos} (hg : Gl X x) (hm : X.mg x = none) (hv : bootBuiltins x = some u) (r : RelV v u) (hn : x ≠ "__name__" := by decide) (hd : (x == ("__debug__" : Str)) = false := by decide) : PE X (.Name x pos) (tC v) :=
 fun _ _ _ H _ I h => kf I hg hm hv ⟨v,H,I,r,h⟩ hn hd
variable {a b : Expr} {ta tb : TE} {pos : Pos}
def PC (X : Cx) (op : CmpOp) (a b : Expr) (t : TE) : Prop :=
 ∀ (pins : List (Addr × Obj)) (s : Shared) (σ : St) (H : Hp) (Q : VK),Inv X pins σ H s → t σ H Q →
  wpAny (model X.prog X.w) X.A (eval a X.env) (fun v s₁ => wpAny (model X.prog X.w) X.A (eval b X.env) (fun u s₂ => wpAny (model X.prog X.w) X.A (compareOp op v u) (EP X pins σ Q) X.xe s₂) X.xe s₁) X.xe s
def tB (t : TE) : TT := fun σ H Q => t σ H fun x H1 => ∃ c,x = .bl c ∧ Q c H1
theorem qJ {op : CmpOp} {t : TE} (h : PC X op a b t) (h1 : behindInMarks op b = false := by first | exact nobehind _ (by decide) (by decide) | rfl) : PT X (.Compare a [op] [b] pos) (tB t) := by
 intro pins s σ H Q I hw
 refine wpAny_isTrue_Compare1 (bO (h pins s σ H _ I hw) fun v s1 h1 => bO h1 fun u s2 h2 => bO h2 fun c s3 ⟨x,H1,I1,r1,q1⟩ => ?_) h1
 obtain ⟨d,rfl,q⟩ := q1
 cases r1
 exact wpAny_truthy_bool ⟨H1,I1,q⟩
theorem fc {e : Expr} {t : TE} (h : PE X e t) (he : ∀ whole,isTrue e X.env whole = (do let v ← whole; standAt e.pos; holding [v] (truthy v)) := by intro _; rfl) : PT X e (tB t) := by
 intro pins s σ H Q I hw
 refine isTrue_plain (bO (h pins s σ H _ I hw) fun v s1 ⟨x,H1,I1,r1,q1⟩ => ?_) (he _)
 obtain ⟨d,rfl,q⟩ := q1
 cases r1
 exact wpAny_truthy_bool ⟨H1,I1,q⟩
variable {tA Jb : TT} {rest : List Expr}
def JM (t u : TT) : TT := fun σ H Q => t σ H fun c H1 => if c = true then u σ H1 Q else Q false H1
def XG (t u : TT) : TT := fun σ H Q => t σ H fun c H1 => if c = true then Q true H1 else u σ H1 Q
def JN (t : TT) : TT := fun σ H Q => t σ H fun c H1 => Q (!c) H1
theorem sC (ha : PT X a tA) : PW X (.BoolOp .And [a] pos) tA := by
 intro wh pins s σ H Q I h
 refine isTrue_and (bO (ha pins s σ H Q I h) fun c s1 e => ?_)
 cases c with
 | true => exact isTrue_and_nil e
 | false => exact e
theorem kh (ha : PT X a tA) : PW X (.BoolOp .Or [a] pos) tA := by
 intro wh pins s σ H Q I h
 refine isTrue_or (bO (ha pins s σ H Q I h) fun c s1 e => ?_)
 cases c with
 | false => exact isTrue_or_nil e
 | true => exact e
theorem vO (ha : PT X a tA) (hb : PW X (.BoolOp .And (b :: rest) pos) Jb) : PW X (.BoolOp .And (a :: b :: rest) pos) (JM tA Jb) := by
 intro wh pins s σ H Q I h
 refine isTrue_and (bO (ha pins s σ H _ I h) fun c s1 ⟨H1,I1,q1⟩ => ?_)
 cases c with
 | true => exact hb wh pins s1 σ H1 Q I1 q1
 | false => exact ⟨H1,I1,q1⟩
theorem kj (ha : PT X a tA) (hb : PW X (.BoolOp .Or (b :: rest) pos) Jb) : PW X (.BoolOp .Or (a :: b :: rest) pos) (XG tA Jb) := by
 intro wh pins s σ H Q I h
 refine isTrue_or (bO (ha pins s σ H _ I h) fun c s1 ⟨H1,I1,q1⟩ => ?_)
 cases c with
 | true => exact ⟨H1,I1,q1⟩
 | false => exact hb wh pins s1 σ H1 Q I1 q1
theorem jg (ha : PT X a tA) : PT X (.UnaryOp .Not a pos) (JN tA) := by
 intro pins s σ H Q I h
 exact isTrue_not (ha pins s σ H (fun c H1 => Q (!c) H1) I h)
def Ek (ta tb : TE) : TE := fun σ H Q => ta σ H fun x H1 => ∃ c,x = .bl c ∧ if c = true then tb σ H1 Q else Q (.bl false) H1
def JO (ta tb : TE) : TE := fun σ H Q => ta σ H fun x H1 => ∃ c,x = .bl c ∧ if c = true then Q (.bl true) H1 else tb σ H1 Q
def El (ta : TE) : TE := fun σ H Q => ta σ H fun x H1 => ∃ c,x = .bl c ∧ Q (.bl (!c)) H1
theorem oo {op} {t : TE} (h : PE X a t) : PE X (.BoolOp op [a] pos) t := fun pins s σ H Q I hw => BoolOp_one (h pins s σ H Q I hw)
theorem vP (ha : PE X a ta) (hb : PE X (.BoolOp .And (b :: rest) pos) tb) : PE X (.BoolOp .And (a :: b :: rest) pos) (Ek ta tb) := by
 intro pins s σ H Q I h
 refine BoolOp_and (bO (ha pins s σ H _ I h) fun v s1 ⟨x,H1,I1,r1,q1⟩ => ?_)
 obtain ⟨c,rfl,q1⟩ := q1
 cases r1
 refine wpAny_truthy_bool ?_
 cases c with
 | true => exact hb pins s1 σ H1 Q I1 q1
 | false => exact ⟨.bl false,H1,I1,rfl,q1⟩
theorem Bz (ha : PE X a ta) (hb : PE X (.BoolOp .Or (b :: rest) pos) tb) : PE X (.BoolOp .Or (a :: b :: rest) pos) (JO ta tb) := by
 intro pins s σ H Q I h
 refine BoolOp_or (bO (ha pins s σ H _ I h) fun v s1 ⟨x,H1,I1,r1,q1⟩ => ?_)
 obtain ⟨c,rfl,q1⟩ := q1
 cases r1
 refine wpAny_truthy_bool ?_
 cases c with
 | false => exact hb pins s1 σ H1 Q I1 q1
 | true => exact ⟨.bl true,H1,I1,rfl,q1⟩
theorem Cp (ha : PE X a ta) : PE X (.UnaryOp .Not a pos) (El ta) := by
 intro pins s σ H Q I h
 refine UnaryOp_ (bO (ha pins s σ H _ I h) fun v s1 ⟨x,H1,I1,r1,q1⟩ => ?_)
 obtain ⟨c,rfl,q1⟩ := q1
 cases r1
 exact not_of (wpAny_truthy_bool ⟨.bl (!c),H1,I1,rfl,q1⟩)
def XH (t : TT) (ta tb : TE) : TE := fun σ H Q => t σ H fun c H1 => if c = true then ta σ H1 Q else tb σ H1 Q
theorem pK {c : Expr} (hc : PT X c tA) (ha : PE X a ta) (hb : PE X b tb) : PE X (.IfExp c a b pos) (XH tA ta tb) := by
 intro pins s σ H Q I h
 refine wpAny_IfExp (bO (hc pins s σ H _ I h) fun d s1 ⟨H1,I1,q1⟩ => ?_)
 cases d with
 | true => exact ha pins s1 σ H1 Q I1 q1
 | false => exact hb pins s1 σ H1 Q I1 q1
end
def aZ (K : PySem.W.Frag) (H : Hp) (a : Addr) (xs : List V) : Prop :=
 Rd H a (.lst xs) ∨
  ∃ (o : Obj) (its : Array Value) (n : Nat),K.lookup a = some o ∧ o.cls = .type "list" ∧ o.dict = none ∧ o.data = .seq its n ∧ its.size ≤ sizeLine ∧ Vals xs its.toList
def bX (K : PySem.W.Frag) (H : Hp) (a : Addr) (xs : List V) : Prop :=
 Rd H a (.tup xs) ∨
  ∃ (o : Obj) (its : Array Value) (n : Nat),K.lookup a = some o ∧ o.cls = .type "tuple" ∧ o.data = .seq its n ∧ its.size ≤ sizeLine ∧ Vals xs its.toList
def JP : Value → Option V
 | .none => some .non
 | .bool b => some (.bl b)
 | .int i _ => some (.int i)
 | .str x _ => some (.str x)
 | .bytes b _ => some (.vF b)
 | .float b _ => some (.flt b)
 | .ref a => some (.ref a)
 | .type n => some (.ty n)
 | _ => none
theorem RelV.abs {x : V} {u : Value} (r : RelV x u) : JP u = some x := by
 cases x with
 | non => cases r; rfl
 | bl _ => cases r; rfl
 | int _ => obtain ⟨t,rfl⟩ := r; rfl
 | str _ => obtain ⟨t,rfl⟩ := r; rfl
 | vF _ => obtain ⟨t,rfl⟩ := r; rfl
 | flt _ => obtain ⟨t,rfl⟩ := r; rfl
 | ref _ => cases r; rfl
 | ty _ => cases r; rfl
theorem RelV.inj {x y : V} {u : Value} (r : RelV x u) (q : RelV y u) : x = y := Option.some.inj (r.abs.symm.trans q.abs)
theorem Vals.inj : ∀ {xs ys : List V} {us : List Value},Vals xs us → Vals ys us → xs = ys
 | _,_,_,.nil,.nil => rfl
 | _,_,_,.cons r t,.cons r' t' => by rw [r.inj r',Vals.inj t t']
section
variable {X : Cx} {pins : List (Addr × Obj)} {σ : St} {H : Hp} {s : Shared} {a : Addr} {xs ys : List V}
theorem aZ.of {K : PySem.W.Frag} (h : H a = some (.lst xs)) : aZ K H a xs := .inl (.inl h)
theorem bX.of {K : PySem.W.Frag} (h : H a = some (.tup xs)) : bX K H a xs := .inl (.inl h)
theorem Inv.list (I : Inv X pins σ H s) (h : aZ X.K H a xs) : ∃ its : List Value,Vals xs its ∧ PlainL s.heap a its.toArray ∧ xs.length ≤ sizeLine := by
 rcases h with h | ⟨o,its,n,hk,hc,hd,hs,hz,r⟩
 ·obtain ⟨z,its,n,r,e⟩ := h.ok I.hok
  exact ⟨its,r,⟨_,n,e,rfl,rfl,rfl⟩,z⟩
 ·refine ⟨its.toList,r,⟨o,n,I.e6 a o hk,hc,hd,by simpa using hs⟩,?_⟩
  have e := r.length
  simp only [Array.length_toList] at e
  omega
theorem Inv.tuple (I : Inv X pins σ H s) (h : bX X.K H a xs) : ∃ its : List Value,Vals xs its ∧ IsTup s.heap a its.toArray ∧ xs.length ≤ sizeLine := by
 rcases h with h | ⟨o,its,n,hk,hc,hs,hz,r⟩
 ·obtain ⟨z,its,r,p⟩ := h.ok I.hok
  exact ⟨its,r,p,z⟩
 ·refine ⟨its.toList,r,⟨o,I.e6 a o hk,hc,n,by simpa using hs⟩,?_⟩
  have e := r.length
  simp only [Array.length_toList] at e
  omega
theorem Inv.pL (I : Inv X pins σ H s) (h : aZ X.K H a xs) (h' : aZ X.K H a ys) : xs = ys := by
 obtain ⟨its,r,⟨o,n,e,_,_,d⟩,_⟩ := I.list h
 obtain ⟨its',r',⟨o',n',e',_,_,d'⟩,_⟩ := I.list h'
 rw [e] at e'; cases e'
 rw [d] at d'
 injection d' with d1 _
 have : its = its' := by simpa using congrArg Array.toList d1
 subst this
 exact r.inj r'
theorem Inv.uH (I : Inv X pins σ H s) (h : bX X.K H a xs) (h' : bX X.K H a ys) : xs = ys := by
 obtain ⟨its,r,⟨o,e,_,n,d⟩,_⟩ := I.tuple h
 obtain ⟨its',r',⟨o',e',_,n',d'⟩,_⟩ := I.tuple h'
 rw [e] at e'; cases e'
 rw [d] at d'
 injection d' with d1 _
 have : its = its' := by simpa using congrArg Array.toList d1
 subst this
 exact r.inj r'
end
abbrev Cx.wish (X : Cx) (E : Value → Shared → Prop) : Cx := { X with xe := E }
abbrev Cx.D4 (X : Cx) : Cx := X.wish fun _ _ => False
theorem Cx.Ok.wish {X : Cx} (ok : X.Ok) (E : Value → Shared → Prop) : (X.wish E).Ok :=
 ⟨ok.mod,ok.kind,ok.glob,ok.blt,ok.above,ok.inj,ok.has,ok.cab,ok.hd,ok.frames,ok.stk,ok.Eh,ok.bs,ok.vG,ok.qH,ok.qI,ok.iu,ok.Bw⟩
theorem Cx.Ok.fe {X : Cx} {E : Value → Shared → Prop} (ok : (X.wish E).Ok) : X.Ok :=
 ⟨ok.mod,ok.kind,ok.glob,ok.blt,ok.above,ok.inj,ok.has,ok.cab,ok.hd,ok.frames,ok.stk,ok.Eh,ok.bs,ok.vG,ok.qH,ok.qI,ok.iu,ok.Bw⟩
section
variable {X : Cx} {pins : List (Addr × Obj)} {σ : St} {H : Hp} {s : Shared} {E : Value → Shared → Prop}
theorem Inv.wish (I : Inv X pins σ H s) (E : Value → Shared → Prop) : Inv (X.wish E) pins σ H s := ⟨I.ok.wish E,I.os,I.bare,I.base,I.loc,I.cell,I.free,I.dH,I.pin,I.hok,I.len⟩
theorem Inv.fe (I : Inv (X.wish E) pins σ H s) : Inv X pins σ H s := ⟨I.ok.fe,I.os,I.bare,I.base,I.loc,I.cell,I.free,I.dH,I.pin,I.hok,I.len⟩
theorem SP.fe {D : Ends} {f : Flow} {s' : Shared} (h : SP (X.wish E) pins D f s') : SP X pins D f s' := by
 cases f with
 | next => obtain ⟨σ',H',I,q⟩ := h; exact ⟨σ',H',I.fe,q⟩
 | brk => obtain ⟨σ',H',I,q⟩ := h; exact ⟨σ',H',I.fe,q⟩
 | cont => obtain ⟨σ',H',I,q⟩ := h; exact ⟨σ',H',I.fe,q⟩
 | ret u => obtain ⟨v,σ',H',I,r,q⟩ := h; exact ⟨v,σ',H',I.fe,r,q⟩
theorem lQ.D4 {st : List Stmt} {t : TS} (h : lQ X.D4 st t) : lQ X st t := fun pins s σ H D I hw =>
 wpAny_mono (h pins s σ H D (I.wish _) hw) (fun _ _ q => q.fe) fun _ _ z => False.elim z
end
section
variable {X : Cx} {st : Stmt} {rest : List Stmt} {t u : TS} {e : Expr} {te : TE} {pos : Pos}
def Em : TS := fun D σ H => D.nx σ H
def En (t u : TS) : TS := fun D σ H => t { D with nx := u D } σ H
theorem aW : lQ X [] Em := fun _ _ σ H _ I h => wpAny_execs_nil ⟨σ,H,I,h⟩
theorem aH (h1 : PS X st t) (h2 : lQ X rest u) : lQ X (st :: rest) (En t u) := by
 intro pins s σ H D I h
 refine wpAny_execs_cons (bO (h1 pins s σ H { D with nx := u D } I h) fun f s1 q => ?_)
 cases f with
 | next =>
  obtain ⟨σ',H',I',q⟩ := q
  exact h2 pins s1 σ' H' D I' q
 | ret v => exact q
 | brk => exact q
 | cont => exact q
theorem ay (h1 : PS X st t) : lQ X [st] t := by
 intro pins s σ H D I h
 refine wpAny_execs_cons (bO (h1 pins s σ H D I h) fun f s1 q => ?_)
 cases f with
 | next => exact wpAny_execs_nil q
 | ret v => exact q
 | brk => exact q
 | cont => exact q
theorem Inv.quiet {pins : List (Addr × Obj)} {σ : St} {H : Hp} {s : Shared} (I : Inv X pins σ H s) : interactive X.env = false := by simp [interactive,I.ok.kind]
def Eo (te : TE) : TS := fun D σ H => te σ H fun _ H1 => D.nx σ H1
theorem cO (he : PE X e te) (hs : swapsWith e none pos.line X.env = pure false := by rfl) : PS X (.Expr e pos) (Eo te) := by
 intro pins s σ H D I h
 exact wpAny_Expr_any (bO (he pins s σ H _ I h) fun v s1 ⟨x,H1,I1,r1,q1⟩ => ⟨σ,H1,I1,q1⟩) I.quiet hs
def JQ (te : TE) : TS := fun D σ H => te σ H D.rt
theorem aQ (he : PE X e te) : PS X (.Return (some e) pos) (JQ te) := by
 intro pins s σ H D I h
 exact wpAny_Return_some (bO (he pins s σ H _ I h) fun v s1 ⟨x,H1,I1,r1,q1⟩ => ⟨x,σ,H1,I1,r1,q1⟩)
def Ep (c : TT) (t u : TS) : TS := fun D σ H => c σ H fun b H1 => if b = true then t D σ H1 else u D σ H1
theorem cI {c : Expr} {a b : List Stmt} {tc : TT} (hc : PT X c tc) (ha : lQ X a t) (hb : lQ X b u) : PS X (.If c a b pos) (Ep tc t u) := by
 intro pins s σ H D I h
 refine wpAny_If (bO (hc pins s σ H _ I h) fun d s1 ⟨H1,I1,q1⟩ => ?_)
 cases d with
 | true => exact ha pins s1 σ H1 D I1 q1
 | false => exact hb pins s1 σ H1 D I1 q1
def Cq : TS := fun _ _ _ => False
theorem uI {sts : List Stmt} : lQ X sts Cq := fun _ _ _ _ _ _ h => h.elim
end
abbrev TG := V → St → Hp → (St → Hp → Prop) → Prop
abbrev Cr := List V → St → Hp → (St → Hp → Prop) → Prop
def PG (X : Cx) (target : Expr) (t : TG) : Prop :=
 ∀ (pins : List (Addr × Obj)) (s : Shared) (σ : St) (H : Hp) (v : V) (u : Value) (Q : St → Hp → Prop),Inv X pins σ H s → RelV v u → t v σ H Q →
  wpAny (model X.prog X.w) X.A (assign target X.env u) (fun _ s' => ∃ σ' H',Inv X pins σ' H' s' ∧ Q σ' H') X.xe s
def Jc (X : Cx) (ts : List Expr) (t : Cr) : Prop :=
 ∀ (pins : List (Addr × Obj)) (s : Shared) (σ : St) (H : Hp) (vs : List V) (us : List Value) (Q : St → Hp → Prop),Inv X pins σ H s → Vals vs us → t vs σ H Q →
  wpAny (model X.prog X.w) X.A (assignInOrder ((assignEach ts X.env).map (·.2)) us) (fun _ s' => ∃ σ' H',Inv X pins σ' H' s' ∧ Q σ' H') X.xe s
abbrev Cu := V → V → V → Hp → (Hp → Prop) → Prop
def Er (X : Cx) (t : Cu) : Prop :=
 ∀ (pins : List (Addr × Obj)) (s : Shared) (σ : St) (H : Hp) (o i v : V) (ov iv u : Value) (Q : Hp → Prop),Inv X pins σ H s → RelV o ov → RelV i iv → RelV v u → t o i v H Q →
  wpAny (model X.prog X.w) X.A (setItem ov iv u) (fun _ s' => ∃ H',Inv X pins σ H' s' ∧ Q H') X.xe s
section
variable {X : Cx} {pos : Pos}
def pM (i : Nat) : TG := fun v σ H Q => Q (σ.set i (some v)) H
theorem bp {i : Nat} {x : Str} (hN : X.N.Nodup) (hi : X.N[i]? = some x) (hx : Loc X.env.scope x) (hf : X.fn x = true ∨ X.env.scope.names.lookup x = some .local := by first | exact .inl rfl | exact .inr rfl | assumption) : PG X (.Name x pos) (pM i) := by
 intro pins s σ H v u Q I r h
 exact wpAny_assign_Name (ke I hN hi hx r (fun s' I' => ⟨_,H,I',h⟩) hf)
def Es : Cr := fun vs σ H Q => vs = [] ∧ Q σ H
def vQ (t : TG) (u : Cr) : Cr := fun vs σ H Q => ∃ v r,vs = v :: r ∧ t v σ H fun σ' H' => u r σ' H' Q
theorem zl : Jc X [] Es := by
 intro pins s σ H vs us Q I r h
 obtain ⟨e,h⟩ := h
 subst e
 cases r
 exact assignInOrder_nil ⟨σ,H,I,h⟩
theorem pN {e : Expr} {es : List Expr} {t : TG} {u : Cr} (h1 : PG X e t) (h2 : Jc X es u)
  (hs : (assignEach (e :: es) X.env).map (·.2) = assign e X.env :: (assignEach es X.env).map (·.2) := by rfl) : Jc X (e :: es) (vQ t u) := by
 intro pins s σ H vs us Q I r h
 obtain ⟨v,vr,e1,h⟩ := h
 subst e1
 cases r with
 | cons r rr =>
  rw [hs]
  refine assignInOrder_cons (bO (h1 pins s σ H _ _ _ I r h) fun _ s1 ⟨σ1,H1,I1,q1⟩ => ?_)
  exact h2 pins s1 σ1 H1 _ _ Q I1 rr q1
def Et (K : PySem.W.Frag) (n : Nat) (t : Cr) : TG := fun v σ H Q => ∃ a xs,v = .ref a ∧ bX K H a xs ∧ xs.length = n ∧ t xs σ H Q
theorem Cv {es : List Expr} {k : Nat} {t : Cr} {n : Nat} (hc : X.calm = true) (h : Jc X es t)
  (hn : (assignEach es X.env).length = n := by rfl) (hst : (assignEach es X.env).findIdx? (·.1) = none := by rfl) : PG X (.Tuple es k pos) (Et X.K n t) := by
 intro pins s σ H v u Q I r hw
 obtain ⟨a,xs,e1,hq,hl,hw⟩ := hw
 subst e1
 cases r
 obtain ⟨its,rv,ht,hz⟩ := I.tuple hq
 refine assign_Tuple_tuple (I.ok.hd hc) ht (by simp [hn,← hl,rv.length]) hst fun h' hx => ?_
 have I1 : Inv X pins σ H { s with heap := h' } := I.kept (t' := s.toks) fun b o e => hx b o (Nat.ne_of_lt (Heap.lt_size e)) e
 exact h pins _ σ H xs _ Q I1 (by simpa using rv) hw
def JR (to ti : TE) (t : Cu) : TG := fun v σ H Q => to σ H fun o H1 => ti σ H1 fun i H2 => t o i v H2 fun H3 => Q σ H3
theorem dM {o i : Expr} {to ti : TE} {t : Cu} (ho : PE X o to) (hi : PE X i ti) (hs : Er X t)
  (ha : ∀ v,assign (.Subscript o i pos) X.env v = (do
   let ov ← holding [v] (eval o X.env)
   let iv ← holding [v,ov] (eval i X.env)
   standAt pos
   holding [v,ov,iv] (setItem ov iv v)
   release [v,ov,iv] []) := by intro _; rfl) : PG X (.Subscript o i pos) (JR to ti t) := by
 intro pins s σ H v u Q I r h
 rw [ha]
 refine wpAny_bind (wpAny_holding (bO (ho pins s σ H _ I h) fun ov s1 ⟨x,H1,I1,r1,q1⟩ => ?_))
 refine wpAny_bind (wpAny_holding (bO (hi pins s1 σ H1 _ I1 q1) fun iv s2 ⟨y,H2,I2,r2,q2⟩ => ?_))
 refine wpAny_bind (wpAny_standAt (wpAny_bind (wpAny_holding (bO (hs pins s2 σ H2 x y v ov iv u _ I2 r1 r2 r q2) fun _ s3 ⟨H3,I3,q3⟩ => ?_))))
 exact wpAny_release ⟨σ,H3,I3,q3⟩
def Cw (te : TE) (g : TG) : TS := fun D σ H => te σ H fun x H1 => g x σ H1 D.nx
theorem dN {tg e : Expr} {te : TE} {g : TG} (he : PE X e te) (hg : PG X tg g) (hs : swapsWithSole [tg] e pos.line X.env = pure false := by rfl) (hw : swappedStores [tg] e X.env = pure none := by rfl)
  (h1 : (assignEach [tg] X.env).map (·.2) = [assign tg X.env] := by rfl) : PS X (.Assign [tg] e pos) (Cw te g) := by
 intro pins s σ H D I h
 refine wpAny_Assign_stores (bO (he pins s σ H _ I h) fun v s1 ⟨x,H1,I1,r1,q1⟩ => ?_) hs hw
 rw [h1]
 exact bO (hg pins s1 σ H1 x v _ I1 r1 q1) fun _ s2 q => q
theorem bg {i : Nat} {x : Str} {e : Expr} {te : TE} {pos' : Pos} (hN : X.N.Nodup) (hi : X.N[i]? = some x) (hx : Loc X.env.scope x) (he : PE X e te) (hs : swapsWith e (some (.Name x pos')) pos.line X.env = pure false := by rfl) (hf : X.fn x = true ∨ X.env.scope.names.lookup x = some .local := by first | exact .inl rfl | exact .inr rfl | assumption) :
  PS X (.Assign [.Name x pos'] e pos) (Cw te (pM i)) := by
 intro pins s σ H D I h
 refine wpAny_Assign_Name (bO (he pins s σ H _ I h) fun v s1 ⟨y,H1,I1,r1,q1⟩ => ?_) hs
 exact ke I1 hN hi hx r1 (fun s2 I2 => ⟨_,H1,I2,q1⟩) hf
end
section
variable {X : Cx} {pos : Pos}
def Cy (c : TT) (tb : TS) : TS := fun D σ H => ∃ W : Nat → St → Hp → Prop,(∃ m,W m σ H) ∧ ∀ m σ H,W m σ H →
 c σ H fun b H1 => if b = true then ∃ N : St → Hp → Prop,(∀ σ' H',N σ' H' → ∃ m',m' < m ∧ W m' σ' H') ∧ tb { D with nx := N,ct := N,bk := D.nx } σ H1 else D.nx σ H1
theorem vR {c : Expr} {body : List Stmt} {tc : TT} {tb : TS} (hp : PassesOwn (model X.prog X.w) X.A X.env X.xe) (hc : PT X c tc) (hb : lQ X body tb) : PS X (.While c body [] pos) (Cy tc tb) := by
 intro pins s σ H D I h
 obtain ⟨W,⟨m0,w0⟩,turn⟩ := h
 refine wpAny_While (codeAny_whileLoop (fun n s' => ∃ σ' H',Inv X pins σ' H' s' ∧ W n σ' H') ?_ m0 ⟨σ,H,I,w0⟩)
 rintro n s1 ⟨σ1,H1,I1,w1⟩
 refine wpAny_passesOwn hp (bO (hc pins s1 σ1 H1 _ I1 (turn n σ1 H1 w1)) fun b s2 ⟨H2,I2,q2⟩ => ?_)
 cases b with
 | true =>
  obtain ⟨N,hN,q2⟩ := q2
  rw [if_pos rfl]
  refine wpAny_passesOwn hp (bO (hb pins s2 σ1 H2 _ I2 q2) fun f s3 q3 => ?_)
  cases f with
  | next =>
   obtain ⟨σ3,H3,I3,n3⟩ := q3
   obtain ⟨m',hm,w3⟩ := hN σ3 H3 n3
   exact ⟨m',hm,σ3,H3,I3,w3⟩
  | cont =>
   obtain ⟨σ3,H3,I3,n3⟩ := q3
   obtain ⟨m',hm,w3⟩ := hN σ3 H3 n3
   exact ⟨m',hm,σ3,H3,I3,w3⟩
  | brk => exact q3
  | ret v => exact q3
 | false =>
  rw [if_neg Bool.false_ne_true]
  exact wpAny_execs_nil ⟨σ1,H2,I2,q2⟩
end
structure It where
 go : Nat → Hp → Prop
 vH : Nat → Hp → V → Hp → Prop
 stop : Nat → Hp → Prop
def jh (X : Cx) (pins : List (Addr × Obj)) (H : Hp) (b : Addr) : Prop :=
 H b = none ∧ b ≠ X.env.locals ∧ b ∉ X.fs ∧ (b ∈ X.ex ∨ X.s₀.heap.objs.size ≤ b) ∧ (∀ x c,X.env.cells.lookup x = some c → c ≠ b) ∧ ∀ p ∈ X.pn ++ pins,p.1 ≠ b
theorem Inv.vS {X : Cx} {pins : List (Addr × Obj)} {σ : St} {H H' : Hp} {s : Shared} {b : Addr} (I : Inv X pins σ H s) (hb : s.heap.objs.size ≤ b) (hn : H' b = none) : jh X pins H' b := by
 refine ⟨hn,Nat.ne_of_gt (Nat.lt_of_lt_of_le I.lt hb),I.JK hb,.inr (Nat.le_trans I.sz hb),fun x c e z => ?_,fun p hp z => ?_⟩
 ·obtain ⟨v,q⟩ := I.cell x c e
  exact absurd (Nat.lt_of_lt_of_le q.lt (by rw [z]; exact hb)) (Nat.lt_irrefl _)
 ·exact absurd (Nat.lt_of_lt_of_le (Heap.lt_size (I.pin p hp).1) (by rw [z]; exact hb)) (Nat.lt_irrefl _)
structure Turn (P : Program) (w : World) (K : PySem.W.Frag) (tg : Expr) (J : It) (fp : List Addr) (it : Addr) (tn : Nat → Heap → Prop) : Prop where
 mem : it ∈ fp
 obj : ∀ i h,tn i h → ∀ b ∈ fp,∃ o,h.get? b = some o ∧ ∀ v,o.data ≠ .cell v
 keep : ∀ i h h',tn i h → (∀ b ∈ fp,∀ o,h.get? b = some o → h'.get? b = some o) → tn i h'
 item : ∀ (X : Cx),X.prog = P → X.w = w → X.K = K → X.calm = true → ∀ (i : Nat) (pins : List (Addr × Obj)) (s : Shared) (σ : St) (H : Hp) (E : Value → Shared → Prop),Inv X pins σ H s → (∀ b ∈ fp,jh X pins H b) → tn i s.heap → J.go i H →
  wpAny (model P w) X.A (pyNext (.ref it)) (fun r s1 => ∃ u,r = some u ∧
   wpAny (model P w) X.A (letOwnedTupleGo tg (.ref it) u) (fun _ s2 => ∃ x H',Inv X pins σ H' s2 ∧ RelV x u ∧ J.vH i H x H' ∧ tn (i + 1) s2.heap ∧ ∀ b ∈ fp,H' b = none) E s1) E s
 done : ∀ (X : Cx),X.prog = P → X.w = w → X.K = K → X.calm = true → ∀ (i : Nat) (pins : List (Addr × Obj)) (s : Shared) (σ : St) (H : Hp) (E : Value → Shared → Prop),Inv X pins σ H s → (∀ b ∈ fp,jh X pins H b) → tn i s.heap → J.stop i H →
  wpAny (model P w) X.A (pyNext (.ref it)) (fun r s1 => r = none ∧ Inv X pins σ H s1) E s
 self : ∀ (A : Around) (i : Nat) (s : Shared) (Q : Value → Shared → Prop) (E : Value → Shared → Prop),tn i s.heap → Q (.ref it) s → wpAny (model P w) A (pyIter (.ref it)) Q E s
abbrev TI := St → Hp → (It → Hp → Prop) → Prop
def PIE (X : Cx) (pins : List (Addr × Obj)) (σ : St) (tg : Expr) (R : It → Hp → Prop) (itv : Value) (s2 : Shared) : Prop :=
 ∃ (it : Addr) (fp : List Addr) (tn : Nat → Heap → Prop) (J : It) (H' : Hp),itv = .ref it ∧ Inv X pins σ H' s2 ∧ Turn X.prog X.w X.K tg J fp it tn ∧ tn 0 s2.heap ∧ (∀ b ∈ fp,jh X pins H' b) ∧ R J H'
def PI (X : Cx) (tg iter : Expr) (wi : TI) : Prop :=
 ∀ (pins : List (Addr × Obj)) (s : Shared) (σ : St) (H : Hp) (R : It → Hp → Prop),Inv X pins σ H s → wi σ H R →
  wpAny (model X.prog X.w) X.A (eval iter X.env) (fun v s1 => wpAny (model X.prog X.w) X.A (pyIter v) (PIE X pins σ tg R) X.xe s1) X.xe s
theorem vT {M : Model} {A : Around} {E : Value → Shared → Prop} {s : Shared} {tg : Expr} {it : Addr} {u : Value} {o : Obj} {n : String} {vs : Array Value} {Q : Unit → Shared → Prop} (ho : s.heap.get? it = some o) (hc : o.cls = .type n) (hd : o.data = .fields vs)
  (hn : ["enumerate", "zip", "dict_itemiterator", "dict_reverseitemiterator", "odict_iterator", "itertools.zip_longest", "itertools.pairwise"].contains n = false) (hQ : Q () s) : wpAny M A (letOwnedTupleGo tg (.ref it) u) Q E s := by
 unfold letOwnedTupleGo
 cases tg <;> first
  | exact wpAny_pure hQ
  | (cases u <;> first
    | exact wpAny_pure hQ
    | (refine wpAny_bind (wpAny_load ho ?_)
       rw [hc,hd]
       show wpAny M A (if (["enumerate", "zip", "dict_itemiterator", "dict_reverseitemiterator", "odict_iterator", "itertools.zip_longest", "itertools.pairwise"].contains n && vs[0]? == some (rawInt _)) = true then _ else _) Q E s
       rw [if_neg (by intro h; rw [hn,Bool.false_and] at h; cases h)]
       exact wpAny_pure hQ))
def BA (K : PySem.W.Frag) (a : Addr) : It :=
 ⟨fun i H => ∃ xs x,aZ K H a xs ∧ xs[i]? = some x,fun i H x H' => H' = H ∧ ∀ xs,aZ K H a xs → xs[i]? = some x,fun i H => ∃ xs,aZ K H a xs ∧ xs.length ≤ i⟩
def BD (K : PySem.W.Frag) (a : Addr) : It :=
 ⟨fun i H => ∃ xs x,bX K H a xs ∧ xs[i]? = some x,fun i H x H' => H' = H ∧ ∀ xs,bX K H a xs → xs[i]? = some x,fun i H => ∃ xs,bX K H a xs ∧ xs.length ≤ i⟩
def zm (lo : Int) (n : Nat) : It := ⟨fun i _ => i < n,fun i H x H' => H' = H ∧ x = .int (lo + i),fun i _ => n ≤ i⟩
theorem uJ {P : Program} {w : World} {K : PySem.W.Frag} {tg : Expr} (a it : Addr) : Turn P w K tg (BA K a) [it] it (fun i h => h.IsListIter it a i) where
 mem := by simp
 obj := fun i h st b hb => by
  have e : b = it := by simpa using hb
  subst e
  obtain ⟨o,e,c,d⟩ := st
  exact ⟨o,e,fun v z => by rw [d] at z; cases z⟩
 keep := fun i h h' st k => st.at fun o e => k it (by simp) o e
 item := by
  intro X hP hw hK hc i pins s σ H E I hf st hg
  subst hP hw hK
  obtain ⟨xs,x,hq,hx⟩ := hg
  obtain ⟨its,rv,p,hz⟩ := I.list hq
  obtain ⟨u,hu,ru⟩ := rv.get hx
  obtain ⟨f0,f1,f2,f3,f4,f5⟩ := hf it (by simp)
  refine wpAny_pyNext_list_item st p.isList (x := u) (by simpa using hu) fun h' st' sb => ?_
  have I1 : Inv X pins σ H { s with heap := h' } := I.turned (t' := s.toks) (fun b o hb e => (sb.2 b hb).trans e) f0 f1 f3 f4 f5
  obtain ⟨o,e,c,d⟩ := id st'
  exact ⟨u,rfl,vT (s := { s with heap := h' }) e c d (by decide) ⟨x,H,I1,ru,⟨rfl,fun ys hy => by rw [I.pL hy hq]; exact hx⟩,st',fun b hb => (hf b hb).1⟩⟩
 done := by
  intro X hP hw hK hc i pins s σ H E I hf st hg
  subst hP hw hK
  obtain ⟨xs,hq,hx⟩ := hg
  obtain ⟨its,rv,p,hz⟩ := I.list hq
  obtain ⟨f0,f1,f2,f3,f4,f5⟩ := hf it (by simp)
  have hl := rv.length
  exact wpAny_pyNext_list_end (I.ok.hd hc) st p.isList (by simp; omega) fun h' eb => ⟨rfl,I.turned (t' := s.toks) (fun b o hb e => eb b o hb e) f0 f1 f3 f4 f5⟩
 self := fun _ _ _ _ _ st h => wpAny_pyIter_listiter st h
theorem qK {P : Program} {w : World} {K : PySem.W.Frag} {tg : Expr} (a it : Addr) : Turn P w K tg (BD K a) [it] it (fun i h => h.IsTupleIter it a i) where
 mem := by simp
 obj := fun i h st b hb => by
  have e : b = it := by simpa using hb
  subst e
  obtain ⟨o,e,c,d⟩ := st
  exact ⟨o,e,fun v z => by rw [d] at z; cases z⟩
 keep := fun i h h' st k => st.at fun o e => k it (by simp) o e
 item := by
  intro X hP hw hK hc i pins s σ H E I hf st hg
  subst hP hw hK
  obtain ⟨xs,x,hq,hx⟩ := hg
  obtain ⟨its,rv,p,hz⟩ := I.tuple hq
  obtain ⟨u,hu,ru⟩ := rv.get hx
  obtain ⟨f0,f1,f2,f3,f4,f5⟩ := hf it (by simp)
  refine wpAny_pyNext_tuple_item st (show s.heap.IsTuple a its.toArray from p) (x := u) (by simpa using hu) fun h' st' sb => ?_
  have I1 : Inv X pins σ H { s with heap := h' } := I.turned (t' := s.toks) (fun b o hb e => (sb.2 b hb).trans e) f0 f1 f3 f4 f5
  obtain ⟨o,e,c,d⟩ := id st'
  exact ⟨u,rfl,vT (s := { s with heap := h' }) e c d (by decide) ⟨x,H,I1,ru,⟨rfl,fun ys hy => by rw [I.uH hy hq]; exact hx⟩,st',fun b hb => (hf b hb).1⟩⟩
 done := by
  intro X hP hw hK hc i pins s σ H E I hf st hg
  subst hP hw hK
  obtain ⟨xs,hq,hx⟩ := hg
  obtain ⟨its,rv,p,hz⟩ := I.tuple hq
  obtain ⟨f0,f1,f2,f3,f4,f5⟩ := hf it (by simp)
  have hl := rv.length
  exact wpAny_pyNext_tuple_end (I.ok.hd hc) st (show s.heap.IsTuple a its.toArray from p) (by simp; omega) fun h' eb => ⟨rfl,I.turned (t' := s.toks) (fun b o hb e => eb b o hb e) f0 f1 f3 f4 f5⟩
 self := fun _ _ _ _ _ st h => wpAny_pyIter_tupleiter st h
theorem qL {P : Program} {w : World} {K : PySem.W.Frag} {tg : Expr} (it : Addr) (lo : Int) (n : Nat) : Turn P w K tg (zm lo n) [it] it (fun i h => IsRangeIter h it (lo + (i : Nat) * 1) ((n : Int) - (i : Nat)) 1) where
 mem := by simp
 obj := fun i h st b hb => by
  have e : b = it := by simpa using hb
  subst e
  exact ⟨_,st,fun v z => by
   have z' : Data.fields _ = Data.cell v := z
   cases z'⟩
 keep := fun i h h' st k => k it (by simp) _ st
 item := by
  intro X hP hw hK hc i pins s σ H E I hf st hg
  subst hP hw hK
  obtain ⟨f0,f1,f2,f3,f4,f5⟩ := hf it (by simp)
  have W := Walks.range (prog := X.prog) (w := X.w) (I.ok.hd hc) it lo 1 n
  refine W.item i s _ _ hg st fun v h' tk hv st' kk => ?_
  obtain ⟨t,rfl⟩ := hv
  have I1 : Inv X pins σ H { s with heap := h',toks := tk } := I.turned (fun b o hb e => kk b o (by simpa using hb) e) f0 f1 f3 f4 f5
  refine ⟨_,rfl,vT (s := { s with heap := h',toks := tk }) (n := "range_iterator") st' rfl rfl (by decide) ⟨.int (lo + i),H,I1,⟨t,?_⟩,⟨rfl,rfl⟩,st',fun b hb => (hf b hb).1⟩⟩
  rw [Int.mul_one]
 done := by
  intro X hP hw hK hc i pins s σ H E I hf st hg
  subst hP hw hK
  obtain ⟨f0,f1,f2,f3,f4,f5⟩ := hf it (by simp)
  exact wpAny_pyNext_range_end (I.ok.hd hc) st (by have : n ≤ i := hg; omega) fun h' eb => ⟨rfl,I.turned (t' := s.toks) (fun b o hb e => eb b o hb e) f0 f1 f3 f4 f5⟩
 self := fun _ _ _ _ _ st h => wpAny_pyIter_rangeiter st h
section
variable {X : Cx} {tg : Expr}
def Eu (K : PySem.W.Frag) (tl : TE) : TI := fun σ H R => tl σ H fun x H1 => ∃ a,x = .ref a ∧ (∃ xs,aZ K H1 a xs) ∧ R (BA K a) H1
def Cz (K : PySem.W.Frag) (tl : TE) : TI := fun σ H R => tl σ H fun x H1 => ∃ a,x = .ref a ∧ (∃ xs,bX K H1 a xs) ∧ R (BD K a) H1
theorem eG {l : Expr} {tl : TE} (hl : PE X l tl) : PI X tg l (Eu X.K tl) := by
 intro pins s σ H R I h
 refine bO (hl pins s σ H _ I h) fun v s1 ⟨x,H1,I1,r1,q1⟩ => ?_
 obtain ⟨a,e,⟨xs,hq⟩,q⟩ := q1
 subst e
 cases r1
 obtain ⟨its,rv,p,hz⟩ := I1.list hq
 refine wpAny_pyIter_list p.isList ?_
 refine ⟨s1.heap.objs.size,[s1.heap.objs.size],_,_,H1,rfl,I1.kept (t' := s1.toks) fun b o e => Heap.get?_push_of_some _ e,uJ a _,⟨_,Heap.get?_push_size _ rfl,rfl,rfl⟩,fun b hb => ?_,q⟩
 have e : b = s1.heap.objs.size := by simpa using hb
 subst e
 exact I1.vS (Nat.le_refl _) (I1.hok.fresh (Nat.le_refl _))
theorem iy {l : Expr} {tl : TE} (hl : PE X l tl) : PI X tg l (Cz X.K tl) := by
 intro pins s σ H R I h
 refine bO (hl pins s σ H _ I h) fun v s1 ⟨x,H1,I1,r1,q1⟩ => ?_
 obtain ⟨a,e,⟨xs,hq⟩,q⟩ := q1
 subst e
 cases r1
 obtain ⟨its,rv,p,hz⟩ := I1.tuple hq
 refine wpAny_pyIter_tuple (show s1.heap.IsTuple a its.toArray from p) ?_
 refine ⟨s1.heap.objs.size,[s1.heap.objs.size],_,_,H1,rfl,I1.kept (t' := s1.toks) fun b o e => Heap.get?_push_of_some _ e,qK a _,⟨_,Heap.get?_push_size _ rfl,rfl,rfl⟩,fun b hb => ?_,q⟩
 have e : b = s1.heap.objs.size := by simpa using hb
 subst e
 exact I1.vS (Nat.le_refl _) (I1.hok.fresh (Nat.le_refl _))
theorem vU {pins : List (Addr × Obj)} {σ : St} {H : Hp} {s : Shared} {R : It → Hp → Prop} {E : Value → Shared → Prop} {lo hi : Int} {t u v : Tok} {tk : Nat} (I : Inv X pins σ H s) (h1 : -(2 ^ 62) ≤ lo) (h2 : lo < 2 ^ 62) (h3 : -(2 ^ 62) ≤ hi) (h4 : hi < 2 ^ 62)
  (q : R (zm lo (hi - lo).toNat) H) : wpAny (model X.prog X.w) X.A (pyIter (.ref s.heap.objs.size)) (PIE X pins σ tg R) E { s with heap := s.heap.push { cls := .type "range",data := .fields #[.int lo t,.int hi u,.int 1 v] },toks := tk } := by
 refine wpAny_pyIter_range (IsRange.new ..) (small_one h1 h2 h3 h4) ?_
 have I1 : Inv X pins σ H { s with heap := s.heap.push { cls := .type "range",data := .fields #[.int lo t,.int hi u,.int 1 v] },toks := tk } := I.kept fun b o e => Heap.get?_push_of_some _ e
 refine ⟨(s.heap.push { cls := .type "range",data := .fields #[.int lo t,.int hi u,.int 1 v] }).objs.size,[(s.heap.push { cls := .type "range",data := .fields #[.int lo t,.int hi u,.int 1 v] }).objs.size],_,_,H,rfl,
  I1.kept (t' := tk) fun b o e => Heap.get?_push_of_some _ e,qL _ lo (hi - lo).toNat,?_,fun b hb => ?_,q⟩
 ·have e1 : lo + ((0 : Nat) : Int) * 1 = lo := by simp
  have e2 : (((hi - lo).toNat : Nat) : Int) - ((0 : Nat) : Int) = Builtin.Range.rangeSize lo hi 1 := by rw [rangeSize_one]; split <;> omega
  show IsRangeIter _ _ (lo + ((0 : Nat) : Int) * 1) ((((hi - lo).toNat : Nat) : Int) - ((0 : Nat) : Int)) 1
  rw [e1,e2]
  exact Heap.get?_push_size _ rfl
 ·have e : b = (s.heap.push { cls := .type "range",data := .fields #[.int lo t,.int hi u,.int 1 v] }).objs.size := by simpa using hb
  subst e
  exact I1.vS (Nat.le_refl _) (I1.hok.fresh (Nat.le_refl _))
def Ew (ta : TA) : TI := fun σ H R => ta σ H fun vs H1 => ∃ j : Int,vs = [.int j] ∧ -(2 ^ 62) ≤ j ∧ j < 2 ^ 62 ∧ R (zm 0 j.toNat) H1
theorem cM {a : Expr} {ta : TA} {p pos : Pos} (hg : Gl X "range") (hm : X.mg "range" = none) (ha : PA X [a] ta) (hs : starEach [a] X.env = [(false,eval a X.env)] := by rfl) : PI X tg (.Call (.Name "range" p) [a] [] pos) (Ew ta) := by
 intro pins s σ H R I h
 refine Call_ (kf I hg hm boot_range (PyProof.Rows.callWith_type1 (bO (ha pos pins s σ H _ I h) fun us s1 ⟨vs,H1,I1,r1,q1⟩ => ?_) hs rfl))
 obtain ⟨j,e,q1,q2,q⟩ := q1
 subst e
 cases r1 with
 | cons r rr =>
  cases rr
  obtain ⟨t,rfl⟩ := r
  exact call_range_1 (vU I1 (by omega) (by omega) q1 q2 (by simpa using q))
def JT (wi : TI) (g : TG) (tb : TS) : TS := fun D σ H => wi σ H fun J H1 => ∃ W : Nat → Nat → St → Hp → Prop,(∃ m,W 0 m σ H1) ∧ ∀ i m σ H,W i m σ H →
 (J.stop i H ∧ D.nx σ H) ∨ (J.go i H ∧ ∃ N : St → Hp → Prop,(∀ σ' H',N σ' H' → ∃ m',m' < m ∧ W (i + 1) m' σ' H') ∧ ∀ x H',J.vH i H x H' → g x σ H' fun σ2 H2 => tb { D with nx := N,ct := N,bk := D.nx } σ2 H2)
def ji (fp : List Addr) (h : Heap) : List (Addr × Obj) := fp.filterMap fun b => (h.get? b).map fun o => (b,o)
theorem dw {fp : List Addr} {h : Heap} {b : Addr} {o : Obj} (hb : b ∈ fp) (e : h.get? b = some o) : (b,o) ∈ ji fp h := List.mem_filterMap.mpr ⟨b,hb,by rw [e]; rfl⟩
theorem uK {fp : List Addr} {h : Heap} {p : Addr × Obj} (hp : p ∈ ji fp h) : p.1 ∈ fp ∧ h.get? p.1 = some p.2 := by
 obtain ⟨b,hb,e⟩ := List.mem_filterMap.mp hp
 cases q : h.get? b with
 | none => rw [q] at e; cases e
 | some o =>
  rw [q] at e
  have e' : (b,o) = p := Option.some.inj e
  subst e'
  exact ⟨hb,q⟩
theorem Inv.pinned {pins : List (Addr × Obj)} {σ : St} {H : Hp} {s : Shared} {fp : List Addr} (I : Inv X pins σ H s) (hf : ∀ b ∈ fp,jh X pins H b) (ho : ∀ b ∈ fp,∃ o,s.heap.get? b = some o ∧ ∀ v,o.data ≠ .cell v) : Inv X (pins ++ ji fp s.heap) σ H s :=
 I.sA fun p hp => (List.mem_append.mp hp).elim (fun z => I.pin p (List.mem_append_right _ z)) fun z => by
  obtain ⟨hb,e⟩ := uK z
  obtain ⟨f0,f1,f2,_⟩ := hf p.1 hb
  obtain ⟨o,e',d⟩ := ho p.1 hb
  rw [e] at e'; cases e'
  exact ⟨e,f0,f1,f2,d⟩
theorem Inv.gg {pins pl : List (Addr × Obj)} {σ : St} {H : Hp} {s : Shared} (I : Inv X (pins ++ pl) σ H s) : Inv X pins σ H s := I.sA fun p hp => I.pin p (List.mem_append_right _ (List.mem_append_left _ hp))
theorem dO {iter : Expr} {body : List Stmt} {wi : TI} {g : TG} {tb : TS} {pos : Pos} (hp : PassesOwn (model X.prog X.w) X.A X.env X.xe) (hc : X.calm = true) (hi : PI X tg iter wi) (hg : PG X tg g) (hb : lQ X body tb)
  (hs : ∀ x,foldedSetIterable iter X.env x = pure x := by intro _; rfl) : PS X (.For tg iter body [] pos) (JT wi g tb) := by
 intro pins s σ H D I h
 refine wpAny_For (bO (hi pins s σ H _ I h) fun v s1 h1 => bO h1 fun itv s2 h2 => ?_) hs
 obtain ⟨it,fp,tn,J,H2,e,I2,T,st2,f2,W,⟨m0,w0⟩,turn⟩ := h2
 subst e
 have stat : ∀ {H' : Hp},(∀ b ∈ fp,H' b = none) → ∀ b ∈ fp,jh X pins H' b := fun hn b hb => ⟨hn b hb,(f2 b hb).2⟩
 refine codeAny_forLoop_any (fun n s' => ∃ i σ' H',Inv X pins σ' H' s' ∧ tn i s'.heap ∧ (∀ b ∈ fp,H' b = none) ∧ W i n σ' H') ?_ m0 ⟨0,σ,H2,I2,st2,fun b hb => (f2 b hb).1,w0⟩
 rintro n s3 ⟨i,σ3,H3,I3,st3,D5,w3⟩
 rcases turn i n σ3 H3 w3 with ⟨stop,qn⟩ | ⟨go,N,hN,step⟩
 ·refine wpAny_passesOwn hp (bO (T.done X rfl rfl rfl hc i pins s3 σ3 H3 X.xe I3 (stat D5) st3 stop) fun r s4 ⟨hr,I4⟩ => ?_)
  subst hr
  exact wpAny_execs_nil ⟨σ3,H3,I4,qn⟩
 ·refine wpAny_passesOwn hp (bO (T.item X rfl rfl rfl hc i pins s3 σ3 H3 X.xe I3 (stat D5) st3 go) fun r s4 ⟨u,hr,h4⟩ => ?_)
  subst hr
  refine wpAny_passesOwn hp (bO h4 fun _ s5 ⟨x,H5,I5,r5,y5,sD,CA⟩ => ?_)
  have XI := I5.pinned (stat CA) (T.obj _ _ sD)
  refine wpAny_passesOwn hp (bO (hg _ s5 σ3 H5 x u _ XI r5 (step x H5 y5)) fun _ s6 ⟨σ6,H6,I6,q6⟩ => ?_)
  refine wpAny_passesOwn hp (bO (hb _ s6 σ6 H6 _ I6 q6) fun f s7 q7 => ?_)
  have again : ∀ {σ7 : St} {H7 : Hp},Inv X (pins ++ ji fp s5.heap) σ7 H7 s7 → N σ7 H7 → ∃ m,m < n ∧ ∃ i σ' H',Inv X pins σ' H' s7 ∧ tn i s7.heap ∧ (∀ b ∈ fp,H' b = none) ∧ W i m σ' H' := fun {σ7 H7} I7 n7 => by
   obtain ⟨m',hm,w7⟩ := hN σ7 H7 n7
   refine ⟨m',hm,i + 1,σ7,H7,I7.gg,T.keep _ _ _ sD fun b hb o e => (I7.pin (b,o) (List.mem_append_right _ (List.mem_append_right _ (dw hb e)))).1,fun b hb => ?_,w7⟩
   obtain ⟨o,e,d⟩ := T.obj _ _ sD b hb
   exact (I7.pin (b,o) (List.mem_append_right _ (List.mem_append_right _ (dw hb e)))).2.1
  cases f with
  | next => obtain ⟨σ7,H7,I7,n7⟩ := q7; exact again I7 n7
  | cont => obtain ⟨σ7,H7,I7,n7⟩ := q7; exact again I7 n7
  | brk => obtain ⟨σ7,H7,I7,q7⟩ := q7; exact ⟨σ7,H7,I7.gg,q7⟩
  | ret v => obtain ⟨x7,σ7,H7,I7,r7,q7⟩ := q7; exact ⟨x7,σ7,H7,I7.gg,r7,q7⟩
end
theorem iK {K : PySem.W.Frag} {a : Addr} {xs : List V} {g : TG} {tb : TS} {D : Ends} {σ : St} {H : Hp} (Pv : Nat → St → Hp → Prop) (h0 : Pv 0 σ H) (hl : ∀ i σ H,i ≤ xs.length → Pv i σ H → aZ K H a xs)
  (hs : ∀ i x σ H,xs[i]? = some x → Pv i σ H → g x σ H fun σ2 H2 => tb { D with nx := Pv (i + 1),ct := Pv (i + 1),bk := D.nx } σ2 H2) (hd : ∀ σ H,Pv xs.length σ H → D.nx σ H) :
  ∃ W : Nat → Nat → St → Hp → Prop,(∃ m,W 0 m σ H) ∧ ∀ i m σ H,W i m σ H →
   ((BA K a).stop i H ∧ D.nx σ H) ∨ ((BA K a).go i H ∧ ∃ N : St → Hp → Prop,(∀ σ' H',N σ' H' → ∃ m',m' < m ∧ W (i + 1) m' σ' H') ∧ ∀ x H',(BA K a).vH i H x H' → g x σ H' fun σ2 H2 => tb { D with nx := N,ct := N,bk := D.nx } σ2 H2) := by
 refine ⟨fun i m σ H => m = xs.length - i ∧ i ≤ xs.length ∧ Pv i σ H,⟨xs.length,by simp,Nat.zero_le _,h0⟩,?_⟩
 rintro i m σ H ⟨rfl,hi,p⟩
 have q := hl i σ H hi p
 by_cases hlt : i < xs.length
 ·refine .inr ⟨⟨xs,xs[i],q,by simp [hlt]⟩,Pv (i + 1),fun σ' H' p' => ⟨xs.length - (i + 1),by omega,rfl,hlt,p'⟩,fun x H' y => ?_⟩
  obtain ⟨e,y⟩ := y
  subst e
  exact hs i x σ _ (y xs q) p
 ·have e : i = xs.length := by omega
  subst e
  exact .inl ⟨⟨xs,q,Nat.le_refl _⟩,hd σ H p⟩
theorem zq {K : PySem.W.Frag} {a : Addr} {xs : List V} {g : TG} {tb : TS} {D : Ends} {σ : St} {H : Hp} (Pv : Nat → St → Hp → Prop) (h0 : Pv 0 σ H) (hl : ∀ i σ H,i ≤ xs.length → Pv i σ H → bX K H a xs)
  (hs : ∀ i x σ H,xs[i]? = some x → Pv i σ H → g x σ H fun σ2 H2 => tb { D with nx := Pv (i + 1),ct := Pv (i + 1),bk := D.nx } σ2 H2) (hd : ∀ σ H,Pv xs.length σ H → D.nx σ H) :
  ∃ W : Nat → Nat → St → Hp → Prop,(∃ m,W 0 m σ H) ∧ ∀ i m σ H,W i m σ H →
   ((BD K a).stop i H ∧ D.nx σ H) ∨ ((BD K a).go i H ∧ ∃ N : St → Hp → Prop,(∀ σ' H',N σ' H' → ∃ m',m' < m ∧ W (i + 1) m' σ' H') ∧ ∀ x H',(BD K a).vH i H x H' → g x σ H' fun σ2 H2 => tb { D with nx := N,ct := N,bk := D.nx } σ2 H2) := by
 refine ⟨fun i m σ H => m = xs.length - i ∧ i ≤ xs.length ∧ Pv i σ H,⟨xs.length,by simp,Nat.zero_le _,h0⟩,?_⟩
 rintro i m σ H ⟨rfl,hi,p⟩
 have q := hl i σ H hi p
 by_cases hlt : i < xs.length
 ·refine .inr ⟨⟨xs,xs[i],q,by simp [hlt]⟩,Pv (i + 1),fun σ' H' p' => ⟨xs.length - (i + 1),by omega,rfl,hlt,p'⟩,fun x H' y => ?_⟩
  obtain ⟨e,y⟩ := y
  subst e
  exact hs i x σ _ (y xs q) p
 ·have e : i = xs.length := by omega
  subst e
  exact .inl ⟨⟨xs,q,Nat.le_refl _⟩,hd σ H p⟩
theorem eT {lo : Int} {n : Nat} {g : TG} {tb : TS} {D : Ends} {σ : St} {H : Hp} (Pv : Nat → St → Hp → Prop) (h0 : Pv 0 σ H)
  (hs : ∀ i σ H,i < n → Pv i σ H → g (.int (lo + i)) σ H fun σ2 H2 => tb { D with nx := Pv (i + 1),ct := Pv (i + 1),bk := D.nx } σ2 H2) (hd : ∀ σ H,Pv n σ H → D.nx σ H) :
  ∃ W : Nat → Nat → St → Hp → Prop,(∃ m,W 0 m σ H) ∧ ∀ i m σ H,W i m σ H →
   ((zm lo n).stop i H ∧ D.nx σ H) ∨ ((zm lo n).go i H ∧ ∃ N : St → Hp → Prop,(∀ σ' H',N σ' H' → ∃ m',m' < m ∧ W (i + 1) m' σ' H') ∧ ∀ x H',(zm lo n).vH i H x H' → g x σ H' fun σ2 H2 => tb { D with nx := N,ct := N,bk := D.nx } σ2 H2) := by
 refine ⟨fun i m σ H => m = n - i ∧ i ≤ n ∧ Pv i σ H,⟨n,by simp,Nat.zero_le _,h0⟩,?_⟩
 rintro i m σ H ⟨rfl,hi,p⟩
 by_cases hlt : i < n
 ·refine .inr ⟨hlt,Pv (i + 1),fun σ' H' p' => ⟨n - (i + 1),by omega,rfl,hlt,p'⟩,fun x H' y => ?_⟩
  obtain ⟨e,y⟩ := y
  subst e y
  exact hs i σ _ hlt p
 ·have e : i = n := by omega
  subst e
  exact .inl ⟨Nat.le_refl _,hd σ H p⟩
abbrev R2 := V → V → Hp → VK → Prop
def iL (X : Cx) (f : Value → Value → Sem Value) (r : R2) : Prop :=
 ∀ (pins : List (Addr × Obj)) (s : Shared) (σ : St) (H : Hp) (x y : V) (v u : Value) (Q : VK),Inv X pins σ H s → RelV x v → RelV y u → r x y H Q →
  wpAny (model X.prog X.w) X.A (f v u) (EP X pins σ Q) X.xe s
def JU (X : Cx) (f : Value → Sem Value) (r : V → Hp → VK → Prop) : Prop :=
 ∀ (pins : List (Addr × Obj)) (s : Shared) (σ : St) (H : Hp) (x : V) (v : Value) (Q : VK),Inv X pins σ H s → RelV x v → r x H Q →
  wpAny (model X.prog X.w) X.A (f v) (EP X pins σ Q) X.xe s
def eI (X : Cx) (f : Value) (r : List V → Hp → VK → Prop) : Prop :=
 ∀ (pins : List (Addr × Obj)) (s : Shared) (σ : St) (H : Hp) (xs : List V) (us : List Value) (Q : VK),Inv X pins σ H s → Vals xs us → r xs H Q →
  wpAny (model X.prog X.w) X.A (call f us) (EP X pins σ Q) X.xe s
def Jd (r : R2) (ta tb : TE) : TE := fun σ H Q => ta σ H fun x H1 => tb σ H1 fun y H2 => r x y H2 Q
def XJ (r : V → Hp → VK → Prop) (ta : TE) : TE := fun σ H Q => ta σ H fun x H1 => r x H1 Q
def rI (C : Int → Int → Prop) (g : Int → Int → V) : R2 := fun x y H Q => ∃ i j,x = .int i ∧ y = .int j ∧ C i j ∧ Q (g i j) H
def BE (g : Int → Int → V) : R2 := fun x y H Q => ∃ i j,x = .int i ∧ y = .int j ∧ Q (g i j) H
def rU (g : Int → V) : V → Hp → VK → Prop := fun x H Q => ∃ i,x = .int i ∧ Q (g i) H
section
variable {X : Cx} {a b c : Expr} {ta tb tc : TE} {pos : Pos}
theorem CB (ha : PE X a ta) (hb : PE X b tb) {pins : List (Addr × Obj)} {s : Shared} {σ : St} {H : Hp} {R : V → V → Hp → Prop} (I : Inv X pins σ H s)
  (h : ta σ H fun x H1 => tb σ H1 fun y H2 => R x y H2) {Q : Value → Shared → Prop} {f : Value → Value → Sem Value}
  (hf : ∀ v u s2 x y H2,Inv X pins σ H2 s2 → RelV x v → RelV y u → R x y H2 → wpAny (model X.prog X.w) X.A (f v u) Q X.xe s2) :
  wpAny (model X.prog X.w) X.A (eval a X.env) (fun v s₁ => wpAny (model X.prog X.w) X.A (eval b X.env) (fun u s₂ => wpAny (model X.prog X.w) X.A (f v u) Q X.xe s₂) X.xe s₁) X.xe s := by
 refine bO (ha pins s σ H _ I h) fun v s1 ⟨x,H1,I1,r1,q1⟩ => ?_
 refine bO (hb pins s1 σ H1 _ I1 q1) fun u s2 ⟨y,H2,I2,r2,q2⟩ => ?_
 exact hf v u s2 x y H2 I2 r1 r2 q2
theorem aV {op : Operator} {r : R2} (ho : iL X (binaryOp op) r) (ha : PE X a ta) (hb : PE X b tb) : PE X (.BinOp a op b pos) (Jd r ta tb) := by
 intro pins s σ H Q I h
 exact wpAny_BinOp (CB ha hb I h fun v u s2 x y H2 I2 rx ry q => ho pins s2 σ H2 x y v u Q I2 rx ry q)
theorem sE {op : UnaryOp} {r : V → Hp → VK → Prop} (ho : JU X (unaryOp op) r) (ha : PE X a ta) : PE X (.UnaryOp op a pos) (XJ r ta) := by
 intro pins s σ H Q I h
 exact UnaryOp_ (bO (ha pins s σ H _ I h) fun v s1 ⟨x,H1,I1,r1,q1⟩ => ho pins s1 σ H1 x v Q I1 r1 q1)
theorem Je {f : Value → Value → Sem Value} {C : Int → Int → Prop} {g : Int → Int → Int}
  (rule : ∀ (i j : Int) (t u : Tok) (s : Shared) (Q : Value → Shared → Prop) (E : Value → Shared → Prop),C i j → Q (.int (g i j) s.toks) { s with toks := s.toks + 1 } → wpAny (model X.prog X.w) X.A (f (.int i t) (.int j u)) Q E s) :
  iL X f (rI C fun i j => .int (g i j)) := by
 intro pins s σ H x y v u Q I rx ry h
 obtain ⟨i,j,rfl,rfl,hc,q⟩ := h
 obtain ⟨t,rfl⟩ := rx
 obtain ⟨t',rfl⟩ := ry
 exact rule i j t t' s _ _ hc ⟨.int (g i j),H,I.tok _,⟨_,rfl⟩,q⟩
theorem Ex {f : Value → Value → Sem Value} {g : Int → Int → Int}
  (rule : ∀ (i j : Int) (t u : Tok) (s : Shared) (Q : Value → Shared → Prop) (E : Value → Shared → Prop),Q (.int (g i j) s.toks) { s with toks := s.toks + 1 } → wpAny (model X.prog X.w) X.A (f (.int i t) (.int j u)) Q E s) :
  iL X f (BE fun i j => .int (g i j)) := by
 intro pins s σ H x y v u Q I rx ry h
 obtain ⟨i,j,rfl,rfl,q⟩ := h
 obtain ⟨t,rfl⟩ := rx
 obtain ⟨t',rfl⟩ := ry
 exact rule i j t t' s _ _ ⟨.int (g i j),H,I.tok _,⟨_,rfl⟩,q⟩
theorem zr {f : Value → Value → Sem Value} {g : Int → Int → Bool}
  (rule : ∀ (i j : Int) (t u : Tok) (s : Shared) (Q : Value → Shared → Prop) (E : Value → Shared → Prop),Q (.bool (g i j)) s → wpAny (model X.prog X.w) X.A (f (.int i t) (.int j u)) Q E s) :
  iL X f (BE fun i j => .bl (g i j)) := by
 intro pins s σ H x y v u Q I rx ry h
 obtain ⟨i,j,rfl,rfl,q⟩ := h
 obtain ⟨t,rfl⟩ := rx
 obtain ⟨t',rfl⟩ := ry
 exact rule i j t t' s _ _ ⟨.bl (g i j),H,I,rfl,q⟩
def JV (i j : Int) : Prop := 0 ≤ j ∧ j ≤ 1000000 ∧ i.natAbs < 2 ^ 64
def CC (i j : Int) : Prop := (-(2 ^ 64) < i ∧ i < 2 ^ 64) ∨ (-(2 ^ 64) < j ∧ j < 2 ^ 64)
theorem CC.ok {i j : Int} (h : CC i j) : IntMulOk i j := by
 rcases h with ⟨h1,h2⟩ | ⟨h1,h2⟩
 ·exact .of_left (intBits_le_64 h1 h2)
 ·exact .of_right (intBits_le_64 h1 h2)
theorem dz : iL X (binaryOp .Add) (BE fun i j => .int (i + j)) := Ex fun _ _ _ _ _ _ _ q => add_int q
theorem dk : iL X (binaryOp .Sub) (BE fun i j => .int (i - j)) := Ex fun _ _ _ _ _ _ _ q => sub_int q
theorem gi : iL X (binaryOp .Mult) (rI CC fun i j => .int (i * j)) := Je fun _ _ _ _ _ _ _ hc q => mul_int q hc.ok
theorem dP : iL X (binaryOp .Mod) (rI (fun _ j => 0 < j) fun i j => .int (i % j)) := Je fun i j _ _ _ _ _ hc q => by
 have h1 : (0 : Int) < j := hc
 exact mod_int' (by omega) (by rw [Int.fmod_eq_emod_of_nonneg i (by omega)]; exact q)
theorem jj : iL X (binaryOp .Pow) (rI JV fun i j => .int (i ^ j.toNat)) := Je fun _ _ _ _ _ _ _ hc q => pow_int_small hc.1 hc.2.1 hc.2.2 q
theorem XM {f : Value → Sem Value} {g : Int → Int}
  (rule : ∀ (i : Int) (t : Tok) (s : Shared) (Q : Value → Shared → Prop) (E : Value → Shared → Prop),Q (.int (g i) s.toks) { s with toks := s.toks + 1 } → wpAny (model X.prog X.w) X.A (f (.int i t)) Q E s) :
  JU X f (rU fun i => .int (g i)) := by
 intro pins s σ H x v Q I rx h
 obtain ⟨i,rfl,q⟩ := h
 obtain ⟨t,rfl⟩ := rx
 exact rule i t s _ _ ⟨.int (g i),H,I.tok _,⟨_,rfl⟩,q⟩
theorem oq : JU X (unaryOp .USub) (rU fun i => .int (-i)) := XM fun _ _ _ _ _ q => neg_int q
end
def Ey : V → V → Bool
 | .non,.non => true | .non,.int _ => true | .int _,.non => true | .non,.bl _ => true | .bl _,.non => true | .non,.str _ => true | .str _,.non => true
 | .int _,.int _ => true | .bl _,.bl _ => true | .str _,.str _ => true | .vF _,.vF _ => true
 | .int _,.str _ => true | .str _,.int _ => true | .bl _,.str _ => true | .str _,.bl _ => true
 | _,_ => false
def XO : R2 := fun x y H Q => Ey x y = true ∧ Q (.bl (decide (x = y))) H
def XQ : R2 := fun x y H Q => Ey x y = true ∧ Q (.bl (!decide (x = y))) H
theorem ot {i j : Int} : decide (V.int i = V.int j) = (i == j) := by
 rw [Bool.eq_iff_iff]
 simp
theorem vV {i j : Bool} : decide (V.bl i = V.bl j) = (i == j) := by
 rw [Bool.eq_iff_iff]
 simp
theorem ou {i j : Str} : decide (V.str i = V.str j) = (i == j) := by
 rw [Bool.eq_iff_iff]
 simp
theorem sF {i j : Array UInt8} : decide (V.vF i = V.vF j) = (i.toList == j.toList) := by
 rw [Bool.eq_iff_iff]
 cases i
 cases j
 simp
section
variable {X : Cx} {a b c : Expr} {ta tb tc : TE} {pos : Pos}
theorem bw {pins : List (Addr × Obj)} {σ : St} {H : Hp} {s : Shared} {Q : VK} {k k' : Bool} (I : Inv X pins σ H s) (q : Q (.bl k) H) (e : k = k') : EP X pins σ Q (.bool k') s := by
 subst e
 exact ⟨.bl k,H,I,rfl,q⟩
theorem kl : iL X (compareOp .Eq) XO := by
 intro pins s σ H x y v u Q I rx ry h
 obtain ⟨hs,q⟩ := h
 cases x with
 | non =>
  cases rx
  cases y with
  | non => cases ry; exact PySem.EqNone.eq_none_none (bw I q (by simp))
  | bl j => cases ry; exact PySem.EqNone.eq_none_bool (bw I q (by simp))
  | int j => obtain ⟨t',rfl⟩ := ry; exact PySem.EqNone.eq_none_int (bw I q (by simp))
  | str j => obtain ⟨t',rfl⟩ := ry; exact PySem.EqNone.eq_none_str (bw I q (by simp))
  | _ => exact absurd (show false = true from hs) Bool.false_ne_true
 | bl i =>
  cases rx
  cases y with
  | non => cases ry; exact PySem.EqNone.eq_bool_none (bw I q (by simp))
  | bl j => cases ry; exact eq_bool (bw I q vV)
  | str j => obtain ⟨t',rfl⟩ := ry; exact PySem.EqMixed.eq_bool_str (bw I q (by simp))
  | _ => exact absurd (show false = true from hs) Bool.false_ne_true
 | int i =>
  obtain ⟨t,rfl⟩ := rx
  cases y with
  | non => cases ry; exact PySem.EqNone.eq_int_none (bw I q (by simp))
  | int j => obtain ⟨t',rfl⟩ := ry; exact eq_int (bw I q ot)
  | str j => obtain ⟨t',rfl⟩ := ry; exact PySem.EqMixed.eq_int_str (bw I q (by simp))
  | _ => exact absurd (show false = true from hs) Bool.false_ne_true
 | str i =>
  obtain ⟨t,rfl⟩ := rx
  cases y with
  | non => cases ry; exact PySem.EqNone.eq_str_none (bw I q (by simp))
  | bl j => cases ry; exact PySem.EqMixed.eq_str_bool (bw I q (by simp))
  | int j => obtain ⟨t',rfl⟩ := ry; exact PySem.EqMixed.eq_str_int (bw I q (by simp))
  | str j => obtain ⟨t',rfl⟩ := ry; exact eq_str (bw I q ou)
  | _ => exact absurd (show false = true from hs) Bool.false_ne_true
 | vF i =>
  obtain ⟨t,rfl⟩ := rx
  cases y with
  | vF j => obtain ⟨t',rfl⟩ := ry; exact PySem.W.eq_bytes (bw I q sF)
  | _ => exact absurd (show false = true from hs) Bool.false_ne_true
 | _ => cases y <;> exact absurd (show false = true from hs) Bool.false_ne_true
theorem pO : iL X (compareOp .NotEq) XQ := by
 intro pins s σ H x y v u Q I rx ry h
 obtain ⟨hs,q⟩ := h
 cases x with
 | non =>
  cases rx
  cases y with
  | non => cases ry; exact PySem.EqNone.ne_none_none (bw I q (by simp))
  | bl j => cases ry; exact PySem.EqNone.ne_none_bool (bw I q (by simp))
  | int j => obtain ⟨t',rfl⟩ := ry; exact PySem.EqNone.ne_none_int (bw I q (by simp))
  | str j => obtain ⟨t',rfl⟩ := ry; exact PySem.EqNone.ne_none_str (bw I q (by simp))
  | _ => exact absurd (show false = true from hs) Bool.false_ne_true
 | bl i =>
  cases rx
  cases y with
  | non => cases ry; exact PySem.EqNone.ne_bool_none (bw I q (by simp))
  | bl j => cases ry; exact ne_bool (bw I q (congrArg not vV))
  | str j => obtain ⟨t',rfl⟩ := ry; exact PySem.EqMixed.ne_bool_str (bw I q (by simp))
  | _ => exact absurd (show false = true from hs) Bool.false_ne_true
 | int i =>
  obtain ⟨t,rfl⟩ := rx
  cases y with
  | non => cases ry; exact PySem.EqNone.ne_int_none (bw I q (by simp))
  | int j => obtain ⟨t',rfl⟩ := ry; exact ne_int (bw I q (congrArg not ot))
  | str j => obtain ⟨t',rfl⟩ := ry; exact PySem.EqMixed.ne_int_str (bw I q (by simp))
  | _ => exact absurd (show false = true from hs) Bool.false_ne_true
 | str i =>
  obtain ⟨t,rfl⟩ := rx
  cases y with
  | non => cases ry; exact PySem.EqNone.ne_str_none (bw I q (by simp))
  | bl j => cases ry; exact PySem.EqMixed.ne_str_bool (bw I q (by simp))
  | int j => obtain ⟨t',rfl⟩ := ry; exact PySem.EqMixed.ne_str_int (bw I q (by simp))
  | str j => obtain ⟨t',rfl⟩ := ry; exact ne_str (bw I q (congrArg not ou))
  | _ => exact absurd (show false = true from hs) Bool.false_ne_true
 | vF i =>
  obtain ⟨t,rfl⟩ := rx
  cases y with
  | vF j => obtain ⟨t',rfl⟩ := ry; exact PySem.W.ne_bytes (bw I q (congrArg not sF))
  | _ => exact absurd (show false = true from hs) Bool.false_ne_true
 | _ => cases y <;> exact absurd (show false = true from hs) Bool.false_ne_true
theorem ik : iL X (compareOp .Lt) (BE fun i j => .bl (decide (i < j))) := zr fun _ _ _ _ _ _ _ q => lt_int q
theorem vW : iL X (compareOp .LtE) (BE fun i j => .bl (decide (i ≤ j))) := zr fun _ _ _ _ _ _ _ q => le_int q
theorem sG : iL X (compareOp .Gt) (BE fun i j => .bl (decide (j < i))) := zr fun _ _ _ _ _ _ _ q => gt_int q
theorem Ez : iL X (compareOp .GtE) (BE fun i j => .bl (decide (j ≤ i))) := zr fun _ _ _ _ _ _ _ q => ge_int q
theorem ow : iL X (compareOp .Is) (fun x y H Q => y = .non ∧ Q (.bl (decide (x = .non))) H) := by
 intro pins s σ H x y v u Q I rx ry h
 obtain ⟨rfl,q⟩ := h
 cases ry
 refine is_none_gen (bw I q ?_)
 cases x <;> first
  | (cases rx; rfl)
  | (obtain ⟨t,rfl⟩ := rx; rfl)
theorem bh (b : Expr) {op : CmpOp} (h : op ≠ .In := by decide) (h2 : op ≠ .NotIn := by decide) : behindInMarks op b = false := by
 have e1 : (op == CmpOp.In) = false := by cases op <;> first | rfl | exact absurd rfl h
 have e2 : (op == CmpOp.NotIn) = false := by cases op <;> first | rfl | exact absurd rfl h2
 cases b <;> simp [behindInMarks,e1,e2]
theorem eJ {op : CmpOp} {r : R2} (ho : iL X (compareOp op) r) (ha : PE X a ta) (hb : PE X b tb) (hm : behindInMarks op b = false) : PE X (.Compare a [op] [b] pos) (Jd r ta tb) := by
 intro pins s σ H Q I h
 exact wpAny_Compare1 (CB ha hb I h fun v u s2 x y H2 I2 rx ry q => ho pins s2 σ H2 x y v u Q I2 rx ry q) hm
def BF (t : TE) : TT := fun σ H Q => t σ H fun x H' => ∃ k,x = .bl k ∧ Q k H'
theorem aR {op : CmpOp} {r : R2} (ho : iL X (compareOp op) r) (ha : PE X a ta) (hb : PE X b tb) (hm : behindInMarks op b = false) : PT X (.Compare a [op] [b] pos) (BF (Jd r ta tb)) := by
 intro pins s σ H Q I h
 refine wpAny_isTrue_Compare1 (bO (ha pins s σ H _ I h) fun v s1 ⟨x,H1,I1,r1,q1⟩ => bO (hb pins s1 σ H1 _ I1 q1) fun u s2 ⟨y,H2,I2,r2,q2⟩ =>
  bO (ho pins s2 σ H2 x y v u _ I2 r1 r2 q2) fun c s3 ⟨z,H3,I3,r3,k,e,q3⟩ => ?_) hm
 subst e
 cases r3
 exact wpAny_truthy_bool ⟨H3,I3,q3⟩
def vX (r r' : R2) (ta tb tc : TE) : TE := fun σ H Q => ta σ H fun x H1 => tb σ H1 fun y H2 => r x y H2 fun z H3 => ∃ k,z = .bl k ∧
 (if k = true then tc σ H3 fun w' H4 => r' y w' H4 Q else Q (.bl false) H3)
theorem vY {op op' : CmpOp} {r r' : R2} (ho : iL X (compareOp op) r) (ho' : iL X (compareOp op') r') (ha : PE X a ta) (hb : PE X b tb) (hc : PE X c tc)
  (hm : lastMarks [op,op'] [b,c] = false := by with_unfolding_all rfl) : PE X (.Compare a [op,op'] [b,c] pos) (vX r r' ta tb tc) := by
 intro pins s σ H Q I h
 refine Compare_chain (bO (ha pins s σ H _ I h) fun v s1 ⟨x,H1,I1,r1,q1⟩ => chain_link (bO (hb pins s1 σ H1 _ I1 q1) fun u s2 ⟨y,H2,I2,r2,q2⟩ =>
  bO (ho pins s2 σ H2 x y v u _ I2 r1 r2 q2) fun d s3 ⟨z,H3,I3,r3,k,e,q3⟩ => ?_)) hm
 subst e
 cases r3
 refine wpAny_truthy_bool ?_
 cases k with
 | false => exact ite_ff ⟨.bl false,H3,I3,rfl,q3⟩
 | true => exact ite_tt (chain_last (bO (hc pins s3 σ H3 _ I3 q3) fun w' s4 ⟨z',H4,I4,r4,q4⟩ => ho' pins s4 σ H4 y z' u w' Q I4 r2 r4 q4))
theorem vZ {op op' : CmpOp} {r r' : R2} (ho : iL X (compareOp op) r) (ho' : iL X (compareOp op') r') (ha : PE X a ta) (hb : PE X b tb) (hc : PE X c tc)
  (hm : lastMarks [op,op'] [b,c] = false := by with_unfolding_all rfl) : PT X (.Compare a [op,op'] [b,c] pos) (BF (vX r r' ta tb tc)) := by
 intro pins s σ H Q I h
 refine isTrue_chain (bO (ha pins s σ H _ I h) fun v s1 ⟨x,H1,I1,r1,q1⟩ => test_link (bO (hb pins s1 σ H1 _ I1 q1) fun u s2 ⟨y,H2,I2,r2,q2⟩ =>
  bO (ho pins s2 σ H2 x y v u _ I2 r1 r2 q2) fun d s3 ⟨z,H3,I3,r3,k,e,q3⟩ => ?_)) hm
 subst e
 cases r3
 refine wpAny_truthy_bool ?_
 cases k with
 | false =>
  obtain ⟨k',e',q'⟩ := q3
  cases e'
  exact ite_ff ⟨H3,I3,q'⟩
 | true =>
  refine ite_tt (test_last (bO (hc pins s3 σ H3 _ I3 q3) fun w' s4 ⟨z',H4,I4,r4,q4⟩ => bO (ho' pins s4 σ H4 y z' u w' _ I4 r2 r4 q4) fun d' s5 ⟨z2,H5,I5,r5,k2,e2,q5⟩ => ?_))
  subst e2
  cases r5
  exact wpAny_truthy_bool ⟨H5,I5,q5⟩
theorem ox : (sizeLine : Nat) < 2 ^ 63 := by rw [sizeLine_eq]; decide
theorem vals1 {x : V} {us : List Value} (r : Vals [x] us) : ∃ u,us = [u] ∧ RelV x u := by
 cases r with
 | cons r1 r2 => cases r2; exact ⟨_,rfl,r1⟩
theorem vals2 {x y : V} {us : List Value} (r : Vals [x,y] us) : ∃ u w',us = [u,w'] ∧ RelV x u ∧ RelV y w' := by
 cases r with
 | cons r1 r2 =>
  cases r2 with
  | cons r3 r4 => cases r4; exact ⟨_,_,rfl,r1,r3⟩
theorem v8 : eI X (.builtin "abs") (fun xs H Q => ∃ i,xs = [.int i] ∧ Q (.int (if i < 0 then -i else i)) H) := by
 intro pins s σ H xs us Q I r h
 obtain ⟨i,rfl,q⟩ := h
 obtain ⟨u,rfl,t,rfl⟩ := vals1 r
 exact call_abs_int fun u tk => ⟨.int (if i < 0 then -i else i),H,I.tok _,⟨_,rfl⟩,q⟩
theorem gW (hc : X.calm = true) : eI X (.builtin "max") (fun xs H Q => ∃ i j,xs = [.int i,.int j] ∧ Q (.int (if j > i then j else i)) H) := by
 intro pins s σ H xs us Q I r h
 obtain ⟨i,j,rfl,q⟩ := h
 obtain ⟨u,w',rfl,⟨t,rfl⟩,⟨t',rfl⟩⟩ := vals2 r
 refine max_two_ints (I.ok.hd hc) fun h' tk k => ⟨_,H,I.kept k,?_,q⟩
 by_cases hj : j > i
 ·rw [if_pos hj,if_pos hj]; exact ⟨_,rfl⟩
 ·rw [if_neg hj,if_neg hj]; exact ⟨_,rfl⟩
theorem uL : eI X (.type "int") (fun xs H Q => (∃ i,xs = [.int i] ∧ Q (.int i) H) ∨ ∃ k,xs = [.bl k] ∧ Q (.int (if k then 1 else 0)) H) := by
 intro pins s σ H xs us Q I r h
 rcases h with ⟨i,rfl,q⟩ | ⟨k,rfl,q⟩
 ·obtain ⟨u,rfl,t,rfl⟩ := vals1 r
  exact call_int_int ⟨.int i,H,I,⟨_,rfl⟩,q⟩
 ·obtain ⟨u,rfl,r1⟩ := vals1 r
  cases r1
  exact call_int_bool ⟨.int (if k then 1 else 0),H,I.tok _,⟨_,rfl⟩,q⟩
end
structure qM (h : Heap) (x dx C : Addr) (mA : Str → Option Value) : Prop where
 obj : h.get? x = some (PySem.W.instObj C dx)
 ns : h.Ns1 dx mA
 ne : dx ≠ x
theorem mq {h : Heap} {dx : Addr} {mA : Str → Option Value} (n : h.Ns1 dx mA) : ∃ od,h.get? dx = some od ∧ ∀ name,PySem.W.lookIn name od = some (mA name) := by
 obtain ⟨o,es,ep,ho,hd,hk,_,hm⟩ := n
 refine ⟨o,ho,fun name => ?_⟩
 have e := hm name
 unfold nsFind findBy at e
 rw [← Array.find?_toList] at e
 unfold PySem.W.lookIn
 rw [hd]
 dsimp only
 split
 ·rename_i y q
  rw [q] at e
  exact congrArg some e
 ·rename_i q
  rw [q] at e
  have a : es.toList.any (·.refKey) = false := by
   rw [List.any_eq_false]
   intro y hy
   obtain ⟨z,t,hkey⟩ := hk y (Array.mem_toList_iff.mp hy)
   simp [DictEntry.refKey,hkey]
  have a' : ¬ es.toList.any (·.refKey) = true := by rw [a]; exact Bool.false_ne_true
  rw [if_neg a']
  exact congrArg some e
theorem qM.look {h : Heap} {x dx C : Addr} {mA : Str → Option Value} (I : qM h x dx C mA) : ∃ od,PySem.W.InstAt h x (PySem.W.instObj C dx) C (some od) ∧ ∀ name,PySem.W.lookIn name od = some (mA name) :=
 let ⟨od,ho,hl⟩ := mq I.ns
 ⟨od,⟨I.obj,rfl,rfl,ho⟩,hl⟩
section
variable {prog : Program} {w : World} {A : Around} {E : Value → Shared → Prop} {s : Shared} {K : PySem.W.Frag} {x dx C f : Addr} {mA : Str → Option Value} {name : Str} {v : Value}
theorem get_map {expr : Bool} {Q : Value → Shared → Prop} (X : K.In s.heap) (I : qM s.heap x dx C mA) (hg : PySem.W.plainGet K C name = true) (hh : PySem.W.hasDictIn K C = true)
  (ha : PySem.W.findIn K (.ref C) name = some none) (hv : mA name = some v) (hv' : PySem.W.handedIn v = true) (h : Q v { s with toks := s.toks + 1 }) :
  wpAny (model prog w) A (getAttr (.ref x) name expr) Q E s := by
 obtain ⟨od,J,hl⟩ := I.look
 exact PySem.W.get_value X J (PySem.W.plainGet_of hg).1 (PySem.W.findObj_own hh ha rfl (by rw [hl,hv])) hv' h
theorem v9 {pl : Sem Bool} {Q : Value × List Value → Shared → Prop} (X : K.In s.heap) (I : qM s.heap x dx C mA) (hg : PySem.W.plainGet K C name = true)
  (hf : PySem.W.findIn K (.ref C) name = some (some (.ref f))) (ht : PySem.W.isFn K (.ref f) = true) (hv : mA name = none) (h : Q (.ref f,[.ref x]) s) :
  wpAny (model prog w) A (getMethod (.ref x) name pl) Q E s := by
 obtain ⟨od,J,hl⟩ := I.look
 exact PySem.W.method_fn X J (PySem.W.plainGet_of hg).1 (PySem.W.plainGet_of hg).2 hf (beq_iff_eq.mp ht) (by show (PySem.W.lookIn name od).map (·.isSome) = some false; rw [hl,hv]; rfl) h
theorem zu {ns : List Str} {Q : Unit → Shared → Prop} (X : K.In s.heap) (I : qM s.heap x dx C mA)
  (hs : PySem.W.findIn K (.ref C) "__setattr__" = some (some (.builtin "object.__setattr__"))) (hp : PySem.W.plainOver K C = true) (ht : PySem.W.takerIn K C name = some none) (hh : PySem.W.hasDictIn K C = true)
  (hw : PySem.Within mA ns) (hsz : ns.length ≤ sizeLine)
  (h : ∀ h',qM h' x dx C (fun y => if y = name then some v else mA y) → Heap.SameBut dx s.heap h' → Q () { s with heap := h',toks := s.toks + 2 }) :
  wpAny (model prog w) A (setAttr (.ref x) name v) Q E s := by
 obtain ⟨od,J,hl⟩ := I.look
 refine PySem.W.set_plain X J hs (PySem.W.osa_open (s := { s with toks := s.toks + 1 }) (r := none) X J hp ht fun b => ?_)
 obtain ⟨cd,hc,hd'⟩ := PySem.W.any_some hh
 have hx : s.heap.get? x = some ⟨.ref C,some dx,.plain,#[]⟩ := I.obj
 refine wpAny_bind (wpAny_pure (wpAny_bind (wpAny_bind (wpAny_loadPart hx (wpAny_bind (PySem.W.Looks.here (s := { s with toks := s.toks + 1 }) (PySem.W.looks_clsIn X hc) ?_))))))
 rw [hd']
 refine wpAny_pure (a := some dx) (wpAny_bind (wpAny_pure (wpAny_bind ?_)))
 refine wpAny_nsSet1 (s := { s with toks := s.toks + 1 }) I.ns fun h' hn2 hs2 => ?_
 obtain ⟨oD,esD,epD,hoD,hdD,hcD⟩ := hn2.count (PySem.Within.cons name v hw)
 refine wpAny_bind (wpAny_lookBehind hoD (by rw [hdD]; exact pastItsLine_dict (Nat.le_trans hcD (by rw [List.length_cons]; omega))) ?_)
 exact wpAny_pure (h _ ⟨(hs2.2 _ (Ne.symm I.ne)).trans I.obj,hn2,I.ne⟩ hs2)
theorem wa {R : Result → Shared → Prop} {vs : List Value} {kw : List (Str × Value)} (X : K.In s.heap) (hm : PySem.W.makesIn K C = true)
  (hi : PySem.W.findIn K (.ref C) "__init__" = some (some (.ref f))) (hf : PySem.W.typeIn K (.ref f) = some (.type "function"))
  (h : codeAny (model prog w) (A.under (.builtin "type.__call__" ⟨.ref C :: vs,kw⟩)) (.call (.ref f) ⟨.ref (s.heap.objs.size + 1) :: vs,kw⟩) (PySem.W.InitBack (s.heap.objs.size + 1) R)
   { s with heap := (s.heap.push PySem.W.emptyDict).push (PySem.W.instObj C s.heap.objs.size) }) :
  codeAny (model prog w) A (.call (.ref C) ⟨vs,kw⟩) R s := by
 obtain ⟨hh,g,d,t,os⟩ := s
 exact PySem.W.make_core (PySem.W.makes_of X hm) (PySem.W.looks_findIn X hi) (fun self => PySem.W.bind_fn X self hf) (.inl rfl) h
end
def cT (f : Str) (v : V) : List (Str × V) → List (Str × V)
 | [] => [(f,v)]
 | (g,x) :: r => if g = f then (g,v) :: r else (g,x) :: cT f v r
theorem jK (f g : Str) (v : V) : ∀ fs : List (Str × V),(cT f v fs).lookup g = if g = f then some v else fs.lookup g
 | [] => by
  show List.lookup g [(f,v)] = _
  by_cases h : g = f
  ·have hb : (g == f) = true := beq_iff_eq.mpr h
   simp only [List.lookup,hb,if_pos h]
  ·have hb : (g == f) = false := beq_eq_false_iff_ne.mpr h
   simp only [List.lookup,hb,if_neg h]
 | (k,x) :: r => by
  have ih := jK f g v r
  rw [show cT f v ((k,x) :: r) = (if k = f then (k,v) :: r else (k,x) :: cT f v r) from rfl]
  by_cases hk : k = f
  ·rw [if_pos hk]
   by_cases h : g = k
   ·have hb : (g == k) = true := beq_iff_eq.mpr h
    simp only [List.lookup,hb,if_pos (h.trans hk)]
   ·have hb : (g == k) = false := beq_eq_false_iff_ne.mpr h
    simp only [List.lookup,hb,if_neg (fun e : g = f => h (e.trans hk.symm))]
  ·rw [if_neg hk]
   by_cases h : g = k
   ·have hb : (g == k) = true := beq_iff_eq.mpr h
    simp only [List.lookup,hb,if_neg (fun e : g = f => hk (h.symm.trans e))]
   ·have hb : (g == k) = false := beq_eq_false_iff_ne.mpr h
    simp only [List.lookup,hb]
    exact ih
theorem jk (f : Str) (v : V) : ∀ fs : List (Str × V),f ∈ (cT f v fs).map (·.1) ∧ ∀ g,g ∈ fs.map (·.1) → g ∈ (cT f v fs).map (·.1)
 | [] => ⟨by simp [cT],fun g h => by simp at h⟩
 | (k,x) :: r => by
  obtain ⟨i1,i2⟩ := jk f v r
  rw [show cT f v ((k,x) :: r) = (if k = f then (k,v) :: r else (k,x) :: cT f v r) from rfl]
  by_cases hk : k = f
  ·rw [if_pos hk]
   subst hk
   exact ⟨by simp,fun g h => by simpa using h⟩
  ·rw [if_neg hk]
   refine ⟨?_,fun g h => ?_⟩
   ·rw [List.map_cons]
    exact List.mem_cons_of_mem _ i1
   ·rw [List.map_cons] at h ⊢
    rcases List.mem_cons.mp h with e | e
    ·exact List.mem_cons.mpr (.inl e)
    ·exact List.mem_cons_of_mem _ (i2 g e)
theorem jL (f : Str) (v : V) : ∀ fs : List (Str × V),(cT f v fs).length ≤ fs.length + 1
 | [] => by simp [cT]
 | (k,x) :: r => by
  have ih := jL f v r
  rw [show cT f v ((k,x) :: r) = (if k = f then (k,v) :: r else (k,x) :: cT f v r) from rfl]
  by_cases hk : k = f
  ·rw [if_pos hk,List.length_cons,List.length_cons]; omega
  ·rw [if_neg hk,List.length_cons,List.length_cons]; omega
theorem e8.some_of {v : V} {o : Option Value} (r : e8 (some v) o) : ∃ u,o = some u ∧ RelV v u := by
 cases o with
 | none => exact (show False from r).elim
 | some u => exact ⟨u,rfl,r⟩
theorem e8.none_of {o : Option Value} (r : e8 none o) : o = none := by
 cases o with
 | none => rfl
 | some u => exact (show False from r).elim
theorem uM {v : V} {u : Value} (r : RelV v u) : PySem.W.handedIn u = true := by
 cases v with
 | non => cases (show u = Value.none from r); rfl
 | bl b => cases (show u = Value.bool b from r); rfl
 | int i => obtain ⟨t,e⟩ := (show ∃ t,u = Value.int i t from r); cases e; rfl
 | str x => obtain ⟨t,e⟩ := (show ∃ t,u = Value.str x t from r); cases e; rfl
 | vF b => obtain ⟨t,e⟩ := (show ∃ t,u = Value.bytes b t from r); cases e; rfl
 | flt b => obtain ⟨t,e⟩ := (show ∃ t,u = Value.float b t from r); cases e; rfl
 | ref a => cases (show u = Value.ref a from r); rfl
 | ty n => cases (show u = Value.type n from r); rfl
section
variable {P : Program} {w : World} {H H' : Hp} {h h' : Heap} {a C dx : Addr} {fs fs' : List (Str × V)}
theorem j3 (hok : fY P w H h) (e : H a = some (.ins C dx fs)) : ∃ mA,qM h a dx C mA ∧ (∀ f,e8 (fs.lookup f) (mA f)) ∧ PySem.Within mA (fs.map (·.1)) ∧ fs.length ≤ 1000 ∧ H dx = some (.own a) := by
 obtain ⟨d,z,ne,ob,mA,n,r,q⟩ := (show bz P w H h a (.ins C dx fs) from hok a _ e)
 exact ⟨mA,⟨ob,n,ne⟩,r,q,z,d⟩
end
structure Cls (K : PySem.W.Frag) (C : Addr) : Prop where
 pg : PySem.W.plainGet K C Str.empty = true
 hd : PySem.W.hasDictIn K C = true
 po : PySem.W.plainOver K C = true
 sa : PySem.W.findIn K (.ref C) "__setattr__" = some (some (.builtin "object.__setattr__"))
theorem Cls.get {K : PySem.W.Frag} {C : Addr} (c : Cls K C) (f : Str) : PySem.W.plainGet K C f = true := c.pg
def cP (K : PySem.W.Frag) (C : Addr) (f : Str) : Prop := PySem.W.findIn K (.ref C) f = some none
theorem cP.taker {K : PySem.W.Frag} {C : Addr} {f : Str} (n : cP K C f) : PySem.W.takerIn K C f = some none := by
 unfold PySem.W.takerIn
 rw [show PySem.W.findIn K (.ref C) f = some none from n]
 rfl
structure Meth (K : PySem.W.Frag) (C : Addr) (m : Str) (f : Addr) : Prop where
 at_ : PySem.W.findIn K (.ref C) m = some (some (.ref f))
 fn : PySem.W.isFn K (.ref f) = true
 kp : PySem.W.keepIn K (.ref f) = true
section
variable {X : Cx} {pins : List (Addr × Obj)} {σ : St} {H : Hp} {s : Shared} {a C dx : Addr} {fs : List (Str × V)} {f : Str} {v : V} {A : Around} {E : Value → Shared → Prop}
theorem qN {b : Bool} {Q : Value → Shared → Prop} (I : Inv X pins σ H s) (e : H a = some (.ins C dx fs)) (c : Cls X.K C) (n : cP X.K C f) (l : fs.lookup f = some v)
  (h : ∀ u s',Inv X pins σ H s' → RelV v u → Q u s') : wpAny (model X.prog X.w) A (getAttr (.ref a) f b) Q E s := by
 obtain ⟨mA,O,r,_,_,_⟩ := j3 I.hok e
 obtain ⟨u,hu,ru⟩ := e8.some_of (v := v) (o := mA f) (by rw [← l]; exact r f)
 exact get_map I.e6 O (c.get f) c.hd n hu (uM ru) (h u _ (I.tok _) ru)
theorem qO {m : Str} {g : Addr} {pl : Sem Bool} {Q : Value × List Value → Shared → Prop} (I : Inv X pins σ H s) (e : H a = some (.ins C dx fs)) (c : Cls X.K C) (k : Meth X.K C m g) (l : fs.lookup m = none)
  (h : Q (.ref g,[.ref a]) s) : wpAny (model X.prog X.w) A (getMethod (.ref a) m pl) Q E s := by
 obtain ⟨mA,O,r,_,_,_⟩ := j3 I.hok e
 have hn : mA m = none := e8.none_of (by rw [← l]; exact r m)
 exact v9 I.e6 O (c.get m) k.at_ k.fn hn h
theorem qP {y : V} {u : Value} {Q : Unit → Shared → Prop} (I : Inv X pins σ H s) (e : H a = some (.ins C dx fs)) (c : Cls X.K C) (n : cP X.K C f) (hl : fs.length < 1000) (ry : RelV y u)
  (h : ∀ s',Inv X pins σ (upd H a (.ins C dx (cT f y fs))) s' → Q () s') : wpAny (model X.prog X.w) A (setAttr (.ref a) f u) Q E s := by
 obtain ⟨mA,O,r,wi,_,ho⟩ := j3 I.hok e
 have hz : (fs.map (·.1)).length ≤ sizeLine := by rw [List.length_map,sizeLine_eq]; omega
 refine zu I.e6 O c.sa c.po n.taker c.hd wi hz fun h' O' sb => h _ ?_
 have hd : ∃ o,h'.get? dx = some o := let ⟨o,_,_,e',_⟩ := O'.ns; ⟨o,e'⟩
 refine I.write (x := a) (e := dx) (by rw [e]; exact True.intro) (.inr ho) (fun b q hb z => (sb.2 b hb).trans z) hd ?_
 refine ⟨by rw [aw O.ne]; exact ho,?_,O.ne,O'.obj,_,O'.ns,fun g => ?_,fun g hg => ?_⟩
 ·have := jL f y fs; omega
 ·show e8 ((cT f y fs).lookup g) (if g = f then some u else mA g)
  rw [jK]
  by_cases q : g = f
  ·rw [if_pos q,if_pos q]; exact ry
  ·rw [if_neg q,if_neg q]; exact r g
 ·by_cases q : g = f
  ·rw [q]; exact (jk f y fs).1
  ·refine (jk f y fs).2 g (wi g fun z => hg ?_)
   show (if g = f then some u else mA g) = none
   rw [if_neg q]; exact z
theorem Inv.made (I : Inv X pins σ H s) : Inv X pins σ (upd (upd H s.heap.objs.size (.own (s.heap.objs.size + 1))) (s.heap.objs.size + 1) (.ins C s.heap.objs.size []))
  { s with heap := (s.heap.push PySem.W.emptyDict).push (PySem.W.instObj C s.heap.objs.size) } := by
 have e1 : (s.heap.push PySem.W.emptyDict).get? s.heap.objs.size = some PySem.W.emptyDict := Heap.get?_push_size s.heap rfl
 have e2 : ((s.heap.push PySem.W.emptyDict).push (PySem.W.instObj C s.heap.objs.size)).get? (s.heap.objs.size + 1) = some (PySem.W.instObj C s.heap.objs.size) := by
  have := Heap.get?_push_size (s.heap.push PySem.W.emptyDict) (o := PySem.W.instObj C s.heap.objs.size) rfl
  rwa [Heap.size_push] at this
 have e3 : (s.heap.push PySem.W.emptyDict).Ns s.heap.objs.size (fun _ => none) := ⟨PySem.W.emptyDict,#[],_,e1,rfl,(fun e he => absurd he (by simp)),fun _ => rfl⟩
 have I1 := I.laid (a := s.heap.objs.size) (o := .own (s.heap.objs.size + 1)) (h' := s.heap.push PySem.W.emptyDict) (t' := s.toks) (fun b u q => Heap.get?_push_of_some _ q) (Nat.le_refl _) ⟨_,e1⟩
 refine I1.laid (a := s.heap.objs.size + 1) (o := .ins C s.heap.objs.size []) (t' := s.toks) (fun b u q => Heap.get?_push_of_some _ q) (Nat.le_of_eq (Heap.size_push _ _)) ?_
 have ne : s.heap.objs.size ≠ s.heap.objs.size + 1 := Nat.ne_of_lt (Nat.lt_succ_self _)
 refine ⟨by rw [aw ne,ah],Nat.zero_le _,ne,e2,fun _ => none,(Heap.Ns1.of_empty e3).at fun o q => Heap.get?_push_of_some _ q,fun _ => True.intro,fun y hy => absurd rfl hy⟩
theorem sI {prog : Program} {w : World} {env : Env} {e : Expr} {f : Str} {pos : Pos} {s : Shared} {Q : Value → Shared → Prop} (hb : attributeBase e f env (eval e env) = eval e env)
  (h : wpAny (model prog w) A (eval e env) (fun o s₁ => wpAny (model prog w) A (getAttr o f true) Q E s₁) E s) : wpAny (model prog w) A (eval (.Attribute e f pos) env) Q E s :=
 Attribute_any_ h (by rw [arm_eval_Attribute,hb])
end
def JW (K : PySem.W.Frag) (ta : TE) (f : Str) : TE := fun σ H Q => ta σ H fun x H1 => ∃ a C dx fs v,x = .ref a ∧ H1 a = some (.ins C dx fs) ∧ Cls K C ∧ cP K C f ∧ fs.lookup f = some v ∧ Q v H1
def JX (K : PySem.W.Frag) (ta tv : TE) (f : Str) : TS := fun D σ H => tv σ H fun y H1 => ta σ H1 fun x H2 => ∃ a C dx fs,x = .ref a ∧ H2 a = some (.ins C dx fs) ∧ Cls K C ∧ cP K C f ∧ fs.length < 1000 ∧
 D.nx σ (upd H2 a (.ins C dx (cT f y fs)))
section
variable {X : Cx} {o e value : Expr} {f : Str} {pos pos' tpos : Pos} {ta tv : TE}
theorem aT (he : PE X e ta) (hb : attributeBase e f X.env (eval e X.env) = eval e X.env) : PE X (.Attribute e f pos) (JW X.K ta f) := by
 intro pins s σ H Q I h
 refine sI hb (bO (he pins s σ H _ I h) fun u s1 ⟨x,H1,I1,rx,a,C,dx,fs,v,ex,ea,c,n,l,q⟩ => ?_)
 subst ex
 obtain rfl : u = Value.ref a := rx
 exact qN I1 ea c n l fun u' s2 I2 ru => ⟨v,H1,I2,ru,q⟩
theorem cB (ha : PE X o ta) (hv : PE X value tv) (hs : swapsWith value (some (.Attribute o f pos')) pos.line X.env = pure false) : PS X (.Assign [.Attribute o f pos'] value pos) (JX X.K ta tv f) := by
 intro pins s σ H D I h
 refine plainObj_wpAny_Assign_Attribute (bO (hv pins s σ H _ I h) fun u s1 ⟨y,H1,I1,ry,q⟩ => bO (ha pins s1 σ H1 _ I1 q) fun ov s2 ⟨x,H2,I2,rx,a,C,dx,fs,ex,ea,c,n,l,q2⟩ => ?_) hs
 subst ex
 obtain rfl : ov = Value.ref a := rx
 exact qP I2 ea c n l ry fun s3 I3 => ⟨σ,_,I3,q2⟩
end
section
variable {X : Cx} {pins : List (Addr × Obj)} {σ : St} {H : Hp} {s : Shared} {A : Around} {E : Value → Shared → Prop} {Q : Value → Shared → Prop} {c : Value} {b : Bool}
inductive fh (K : PySem.W.Frag) (H : Hp) : V → Value → Prop where
 | non : fh K H .non (.type "NoneType")
 | bl (x : Bool) : fh K H (.bl x) (.type "bool")
 | int (i : Int) : fh K H (.int i) (.type "int")
 | str (x : Str) : fh K H (.str x) (.type "str")
 | flt (x : UInt64) : fh K H (.flt x) (.type "float")
 | lst {a : Addr} {xs : List V} (e : H a = some (.lst xs)) : fh K H (.ref a) (.type "list")
 | iH {a : Addr} {o : Obj} {xs : List V} (e : H a = some (.iH o (.lst xs))) : fh K H (.ref a) (.type "list")
 | tup {a : Addr} {xs : List V} (e : H a = some (.tup xs)) : fh K H (.ref a) (.type "tuple")
 | dK {a : Addr} {kvs : List (Key × V)} (e : H a = some (.dK kvs)) : fh K H (.ref a) (.type "dict")
 | dT {a : Addr} {kvs : List (List Key × V)} (e : H a = some (.dT kvs)) : fh K H (.ref a) (.type "dict")
 | ins {a C dx : Addr} {fs : List (Str × V)} (e : H a = some (.ins C dx fs)) (cl : Cls K C) (ha : PySem.W.findIn K (.ref C) "__class__" = some (some (.builtin "object.__class__")))
   (hn : PySem.W.specialIn K (.builtin "object.__class__") "__get__" = some (some (.builtin "getset_descriptor.__get__"))) (htk : PySem.W.takesIn K (.builtin "object.__class__") = some true)
   (hm : PySem.W.mroIn K C (.type "object") = some true) : fh K H (.ref a) (.ref C)
theorem uN {x : V} {u t : Value} (I : Inv X pins σ H s) (rx : RelV x u) (ty : fh X.K H x t) (e : PySem.W.kitOne X.K t c = some b) (h : ∀ tk,Q (.bool b) { s with toks := tk }) :
  wpAny (model X.prog X.w) A (call (.builtin "isinstance") [u,c]) Q E s := by
 cases ty with
 | non => cases (show u = Value.none from rx); exact PySem.W.kia_one PySem.W.kitx_none I.e6 True.intro e (fun z => nomatch z) h
 | bl y => cases (show u = Value.bool y from rx); exact PySem.W.kia_one PySem.W.kitx_bool I.e6 True.intro e (fun z => nomatch z) h
 | int i => obtain ⟨t,q⟩ := (show ∃ t,u = Value.int i t from rx); cases q; exact PySem.W.kia_one PySem.W.kitx_int I.e6 True.intro e (fun z => nomatch z) h
 | str y => obtain ⟨t,q⟩ := (show ∃ t,u = Value.str y t from rx); cases q; exact PySem.W.kia_one PySem.W.kitx_str I.e6 True.intro e (fun z => nomatch z) h
 | flt y => obtain ⟨t,q⟩ := (show ∃ t,u = Value.float y t from rx); cases q; exact PySem.W.kia_one PySem.W.kitx_float I.e6 True.intro e (fun z => nomatch z) h
 | @lst a xs ea =>
  cases (show u = Value.ref a from rx)
  obtain ⟨_,_,n,_,h1⟩ := (show bz X.prog X.w H s.heap a (.lst xs) from I.hok a _ ea)
  exact PySem.W.kia_one PySem.W.kitx_list I.e6 ⟨_,h1,rfl⟩ e (fun z => nomatch z) h
 | @iH a ob xs ea =>
  cases (show u = Value.ref a from rx)
  obtain ⟨_,_,_,n,_,h1⟩ := (show bz X.prog X.w H s.heap a (.iH ob (.lst xs)) from I.hok a _ ea)
  exact PySem.W.kia_one PySem.W.kitx_list I.e6 ⟨_,h1,rfl⟩ e (fun z => nomatch z) h
 | @tup a xs ea =>
  cases (show u = Value.ref a from rx)
  obtain ⟨_,_,_,p⟩ := (show bz X.prog X.w H s.heap a (.tup xs) from I.hok a _ ea)
  obtain ⟨o,h1,h2,_⟩ := p
  exact PySem.W.kia_one PySem.W.kitx_tuple I.e6 ⟨o,h1,h2⟩ e (fun z => nomatch z) h
 | @dK a kvs ea =>
  cases (show u = Value.ref a from rx)
  obtain ⟨_,_,vs,_,p⟩ := (show bz X.prog X.w H s.heap a (.dK kvs) from I.hok a _ ea)
  obtain ⟨o,es,ep,h1,h2,_⟩ := p
  exact PySem.W.kia_one PySem.W.kitx_dict I.e6 ⟨o,h1,h2.1⟩ e (fun z => nomatch z) h
 | @dT a kvs ea =>
  cases (show u = Value.ref a from rx)
  obtain ⟨_,_,xs,_,o,es,ep,h1,h2,_⟩ := (show bz X.prog X.w H s.heap a (.dT kvs) from I.hok a _ ea)
  exact PySem.W.kia_one PySem.W.kitx_dict I.e6 ⟨o,h1,h2.1⟩ e (fun z => nomatch z) h
 | @ins a C dx fs ea cl ha hn htk hm =>
  cases (show u = Value.ref a from rx)
  obtain ⟨mA,O,_⟩ := j3 I.hok ea
  obtain ⟨od,J,_⟩ := O.look
  exact PySem.W.kia_one (PySem.W.kitx_own (cl.get _) cl.hd ha hn htk hm) I.e6 J e (fun z => nomatch z) h
end
structure cU (k : Nat) (A : Around) : Prop where
 hd : A.handled = none
 dp : A.depth + 3 * k + 5 < recursionLimit
 un : A.units + 16 * k + 200 < cLine
theorem cU.mono {j k : Nat} {A : Around} (r : cU k A) (h : j ≤ k) : cU j A := ⟨r.hd,by have := r.dp; omega,by have := r.un; omega⟩
theorem cU.deeper {k : Nat} {A : Around} (r : cU (k + 1) A) (env : Env) : cU k (A.deeper env) :=
 ⟨r.hd,by have := r.dp; show A.depth + 1 + 3 * k + 5 < _; omega,by have := r.un; show A.units + 3 + 16 * k + 200 < _; omega⟩
theorem qQ {A : Around} {C : Addr} {us : List Value} {kw : List (Str × Value)} : (A.under (.builtin "type.__call__" ⟨.ref C :: us,kw⟩)).depth = A.depth + 1 := by
 first | rfl | simp [Around.under,Code.weight,Code.isCreation,Code.isGuard,Code.isCaller,Code.frames,Code.isFrame,guardIds]
theorem qR {A : Around} {C : Addr} {us : List Value} {kw : List (Str × Value)} : (A.under (.builtin "type.__call__" ⟨.ref C :: us,kw⟩)).units = A.units + 1 := by
 first | rfl | simp [Around.under,Code.cUnits,Code.frames,Code.isFrame]
theorem cU.make {k : Nat} {A : Around} (r : cU (k + 1) A) (C : Addr) (us : List Value) (kw : List (Str × Value)) : cU k (A.under (.builtin "type.__call__" ⟨.ref C :: us,kw⟩)) :=
 ⟨r.hd,by have := r.dp; rw [qQ]; omega,by have := r.un; rw [qR]; omega⟩
theorem cU.depth {k : Nat} {A : Around} (r : cU k A) : A.depth < recursionLimit := by have := r.dp; omega
theorem cU.units {k : Nat} {A : Around} (r : cU k A) : A.units + 64 < cLine := by have := r.un; omega
def EA : TA := fun _ H Q => Q [] H
def EB (ta : TE) (tr : TA) : TA := fun σ H Q => ta σ H fun x H1 => tr σ H1 fun xs H2 => Q (x :: xs) H2
section
variable {X : Cx} {e : Expr} {es : List Expr} {te : TE} {t : TA} {pos : Pos}
theorem aj : PA X [] EA := fun _ _ _ _ H Q I h => Calls.spliced_nil ⟨[],H,I,.nil,h⟩
theorem ae (ha : PE X e te) (hr : PA X es t) (hs : starEach (e :: es) X.env = (false,eval e X.env) :: starEach es X.env := by rfl) : PA X (e :: es) (EB te t) := by
 intro pos pins s σ H Q I h
 rw [hs]
 show wpAny _ _ (spliced ((false,eval e X.env) :: backTo pos (starEach es X.env))) _ _ s
 refine Calls.spliced_cons (bO (ha pins s σ H _ I h) fun u s1 ⟨x,H1,I1,r1,q1⟩ => ?_)
 exact bO (hr pos pins s1 σ H1 _ I1 q1) fun us s2 ⟨xs,H2,I2,r2,q2⟩ => ⟨x :: xs,H2,I2,.cons r1 r2,q2⟩
def JY (t : TA) : TE := fun σ H Q => t σ H fun xs H1 => xs.length ≤ sizeLine ∧ ∀ p,H1 p = none → Q (.ref p) (upd H1 p (.tup xs))
def JZ (t : TA) : TE := fun σ H Q => t σ H fun xs H1 => xs.length ≤ sizeLine ∧ ∀ p,H1 p = none → Q (.ref p) (upd H1 p (.lst xs))
theorem cj {x1} (h : PA X es t) : PE X (.Tuple es x1 pos) (JY t) := by
 intro pins s σ H Q I hq
 refine wpAny_Tuple_spliced (bO (h pos pins s σ H _ I hq) fun us s1 ⟨xs,H1,I1,r,z,q⟩ => ⟨by rw [← r.length]; exact z,?_⟩)
 have hf : H1 s1.heap.objs.size = none := I1.hok.fresh (Nat.le_refl _)
 refine ⟨.ref s1.heap.objs.size,upd H1 s1.heap.objs.size (.tup xs),I1.laid (t' := s1.toks) (fun b u e => Heap.get?_push_of_some _ e) (Nat.le_refl _) ?_,rfl,q _ hf⟩
 exact ⟨z,us,r,⟨_,Heap.get?_push_size _ rfl,rfl,_,rfl⟩⟩
theorem ck (h : PA X es t) : PE X (.List es pos) (JZ t) := by
 intro pins s σ H Q I hq
 refine wpAny_List_spliced (bO (h pos pins s σ H _ I hq) fun us s1 ⟨xs,H1,I1,r,z,q⟩ => ⟨by rw [← r.length]; exact z,?_⟩)
 have hf : H1 s1.heap.objs.size = none := I1.hok.fresh (Nat.le_refl _)
 refine ⟨.ref s1.heap.objs.size,upd H1 s1.heap.objs.size (.lst xs),I1.laid (t' := s1.toks) (fun b u e => Heap.get?_push_of_some _ e) (Nat.le_refl _) ?_,rfl,q _ hf⟩
 exact ⟨z,us,0,r,Heap.get?_push_size _ rfl⟩
end
abbrev Sp := List V → Hp → VK → XK → Prop
abbrev sJ := List Env → Hp → Shared → XK → Value → Shared → Prop
structure qS (P : Program) (w : World) (K : PySem.W.Frag) (mg : Str → Option Value) (base : Heap) (A : Around) (outer : List Env) (s : Shared) (H : Hp) : Prop where
 frames : A.frames = some outer
 mod : Mod K mg base
 bs : ∀ b o,base.get? b = some o → s.heap.get? b = some o ∧ H b = none
 vG : base.objs.size ≤ s.heap.objs.size
 iu : s.heap.FunFrames base outer
 Bw : ∀ b ∈ frs outer,H b = none
 hok : fY P w H s.heap
 bare : AllBare s.gens
def CE (outer : List Env) (P : Program) (w : World) (H : Hp) (s : Shared) (Q : VK) (u : Value) (s' : Shared) : Prop :=
 ∃ v H',s'.os = s.os ∧ AllBare s'.gens ∧ Un (frs outer) [] H H' s.heap s'.heap ∧ fY P w H' s'.heap ∧ RelV v u ∧ Q v H'
def CR (CX : sJ) (outer : List Env) (P : Program) (w : World) (H : Hp) (s : Shared) (Q : VK) (E : XK) (r : Result) (s' : Shared) : Prop :=
 match r with
 | .ok (.ret u) => CE outer P w H s Q u s'
 | .ok _ => False
 | .error e => CX outer H s E e s'
structure aK (P : Program) (w : World) (K : PySem.W.Frag) (mg : Str → Option Value) (base : Heap) (CX : sJ) (k : Nat) (f : Addr) (fd : FuncData) (ps : List Str) (sp : Sp) : Prop where
 len : ∀ vs H Q E,sp vs H Q E → vs.length = ps.length
 run : ∀ (A : Around) (outer : List Env) (s : Shared) (H : Hp) (args : Args) (us : List Value) (vs : List V) (Q : VK) (E : XK),cU k A → qS P w K mg base A outer s H → BindsTo s fd args (ps.zip us) → Vals vs us → sp vs H Q E →
  codeAny (model P w) A (.call (.ref f) args) (CR CX outer P w H s Q E) s
theorem aK.mono {P : Program} {w : World} {K : PySem.W.Frag} {mg : Str → Option Value} {base : Heap} {CX : sJ} {j k : Nat} {f : Addr} {fd : FuncData} {ps : List Str} {sp : Sp} (F : aK P w K mg base CX j f fd ps sp) (h : j ≤ k) :
  aK P w K mg base CX k f fd ps sp := ⟨F.len,fun A outer s H args us vs Q E hr => F.run A outer s H args us vs Q E (hr.mono h)⟩
theorem qS.make {P : Program} {w : World} {K : PySem.W.Frag} {mg : Str → Option Value} {base : Heap} {A : Around} {outer : List Env} {s : Shared} {H : Hp} (e : qS P w K mg base A outer s H) (C : Addr) (us : List Value) (kw : List (Str × Value)) :
  qS P w K mg base (A.under (.builtin "type.__call__" ⟨.ref C :: us,kw⟩)) outer s H := ⟨by first | exact e.frames | (simpa [Around.under,Code.envs,Code.isFrame,pushEnvs] using e.frames),e.mod,e.bs,e.vG,e.iu,e.Bw,e.hok,e.bare⟩
section
variable {X : Cx} {pins : List (Addr × Obj)} {σ : St} {H : Hp} {s s' : Shared}
theorem Inv.env0 (I : Inv X pins σ H s) : qS X.prog X.w X.K X.mg X.base X.A X.stack s H :=
 ⟨I.ok.frames,I.ok.mod,I.bs,Nat.le_trans I.ok.vG I.sz,I.stack,I.iJ,I.hok,I.bare⟩
theorem Inv.after {Q : VK} {u : Value} (I : Inv X pins σ H s) (h : CE X.stack X.prog X.w H s Q u s') : EP X pins σ Q u s' := by
 obtain ⟨v,H',os,bare,un,hok,r,q⟩ := h
 obtain ⟨hh,g,d,t,os'⟩ := s'
 obtain rfl : os' = s.os := os
 exact ⟨v,H',I.call (h' := hh) (g' := g) (d' := d) (t' := t) (ch := []) un hok bare (fun b z => absurd z (by simp)),r,q⟩
end
def EC (sp : Sp) (iI : List V) (E : XK) (t : TA) : TE := fun σ H Q => t σ H fun vs H1 => sp (vs ++ iI) H1 Q E
def ED (C : Addr) (m : Str) (sp : Sp) (iI : List V) (E : XK) (ta : TE) (t : TA) : TE := fun σ H Q => ta σ H fun x H1 => ∃ a dx fs,x = .ref a ∧ H1 a = some (.ins C dx fs) ∧ fs.lookup m = none ∧
 t σ H1 fun vs H2 => sp (x :: (vs ++ iI)) H2 Q E
def EF (C : Addr) (sp : Sp) (iI : List V) (E : XK) (t : TA) : TE := fun σ H Q => t σ H fun vs H1 => ∀ x dx,H1 x = none → H1 dx = none → dx ≠ x →
 sp (.ref x :: (vs ++ iI)) (upd (upd H1 dx (.own x)) x (.ins C dx [])) (fun v H2 => v = .non ∧ Q (.ref x) H2) E
def Binds (K : PySem.W.Frag) (fd : FuncData) (ps : List Str) (ds : List Value) : Prop :=
 ∀ (s : Shared) (us : List Value),K.In s.heap → (us ++ ds).length = ps.length → BindsTo s fd ⟨us,[]⟩ (ps.zip (us ++ ds))
theorem Binds.all {K : PySem.W.Frag} {fd : FuncData} {ps : List Str} (h : ∀ us : List Value,us.length = ps.length → bindArgs fd ⟨us,[]⟩ = pure (ps.zip us)) : Binds K fd ps [] := fun s us _ hl => by
 rw [List.append_nil] at hl ⊢
 exact .of_eq (h us hl)
def Passes (CX : sJ) (X : Cx) (E : XK) : Prop := ∀ (pins : List (Addr × Obj)) (σ : St) (H : Hp) (s : Shared) (e : Value) (s' : Shared),Inv X pins σ H s → CX X.stack H s E e s' → X.xe e s'
section
variable {X : Cx} {CX : sJ} {k : Nat} {f C : Addr} {fd : FuncData} {ps : List Str} {sp : Sp} {iI : List V} {ds : List Value} {E : XK} {x m : Str} {p pos apos : Pos} {e o : Expr} {es : List Expr} {ta : TE} {t : TA}
theorem qT {pins : List (Addr × Obj)} {σ : St} {H : Hp} {s : Shared} {Q : VK} {us : List Value} {vs : List V} (F : aK X.prog X.w X.K X.mg X.base CX k f fd ps sp) (hr : cU k X.A) (hb : Binds X.K fd ps ds) (hd : Vals iI ds) (hx : Passes CX X E)
  (I : Inv X pins σ H s) (r : Vals vs us) (h : sp (vs ++ iI) H Q E) : wpAny (model X.prog X.w) X.A (call (.ref f) us) (EP X pins σ Q) X.xe s := by
 have r2 : Vals (vs ++ iI) (us ++ ds) := r.append hd
 have hl : (us ++ ds).length = ps.length := by rw [← r2.length]; exact F.len _ _ _ _ h
 refine wpAny_call (codeAny_mono (F.run X.A X.stack s H ⟨us,[]⟩ (us ++ ds) (vs ++ iI) Q E hr I.env0 (hb s us I.e6 hl) r2 h) fun r s' hq => ?_)
 cases r with
 | error e => exact hx pins σ H s e s' I hq
 | ok fl =>
  cases fl with
  | ret u => exact I.after hq
  | next => exact False.elim hq
  | brk => exact False.elim hq
  | cont => exact False.elim hq
theorem aL (F : aK X.prog X.w X.K X.mg X.base CX k f fd ps sp) (hr : cU k X.A) (hg : Gl X x) (hm : X.mg x = some (.ref f)) (hk : PySem.W.keepIn X.K (.ref f) = true) (hb : Binds X.K fd ps ds) (hd : Vals iI ds) (hx : Passes CX X E)
  (ha : PA X (e :: es) t) (hdb : (x == ("__debug__" : Str)) = false := by decide) (he : starEach (e :: es) X.env = (false,eval e X.env) :: starEach es X.env := by rfl) (hpl : (backTo pos (starEach es X.env)).any (·.1) = false := by rfl) :
  PE X (.Call (.Name x p) (e :: es) [] pos) (EC sp iI E t) := by
 intro pins s σ H Q I h
 refine wpAny_Call_Name_kw (e9 I hg hm ?_ hdb)
 refine PySem.W.callWith_K (h₀ := X.base) I.ok.mod.Cj hk (bO (ha pos pins s σ H _ I h) fun us s1 ⟨vs,H1,I1,r,q⟩ => ⟨I1.e6,?_⟩) he hpl
 exact qT F hr hb hd hx I1 r q
theorem bq {pl : Sem Bool} (he : PE X o ta) (c : Cls X.K C) (hm : Meth X.K C m f) (F : aK X.prog X.w X.K X.mg X.base CX k f fd ps sp) (hr : cU k X.A) (hb : Binds X.K fd ps ds) (hd : Vals iI ds) (hx : Passes CX X E)
  (ht : eval (.Call (.Attribute o m apos) [] [] pos) X.env = (do
   let ov ← eval o X.env
   standAt apos.atName
   let (f,first) ← holding [ov] (getMethod ov m pl)
   callWith pos f first (backTo pos (starEach [] X.env)) (backToKw pos (keywordEach [] X.env))) := by rfl) :
  PE X (.Call (.Attribute o m apos) [] [] pos) (ED C m sp iI E ta EA) := by
 intro pins s σ H Q I h
 refine PySem.W.methodCall_KW (pl := pl) (bO (he pins s σ H _ I h) fun u s1 ⟨x,H1,I1,rx,a,dx,fs,ex,ea,l,q⟩ => ?_) ht
 subst ex
 obtain rfl : u = Value.ref a := rx
 refine qO I1 ea c hm l ?_
 exact PySem.W.callWith_K0 (first := [.ref a]) I1.e6 hm.kp (qT (us := [.ref a]) (vs := [.ref a]) F hr hb hd hx I1 (.cons rfl .nil) q)
structure Mk (K : PySem.W.Frag) (C f : Addr) : Prop where
 makes : PySem.W.makesIn K C = true
 init : PySem.W.findIn K (.ref C) "__init__" = some (some (.ref f))
 fn : PySem.W.isFn K (.ref f) = true
 kp : PySem.W.keepIn K (.ref C) = true
theorem wc {pins : List (Addr × Obj)} {σ : St} {H : Hp} {s : Shared} {Q : VK} {us : List Value} {vs : List V} (M : Mk X.K C f) (F : aK X.prog X.w X.K X.mg X.base CX k f fd ps sp) (hr : cU (k + 1) X.A) (hb : Binds X.K fd ps ds) (hd : Vals iI ds)
  (hx : Passes CX X E) (I : Inv X pins σ H s) (r : Vals vs us)
  (h : ∀ x dx,H x = none → H dx = none → dx ≠ x → sp (.ref x :: (vs ++ iI)) (upd (upd H dx (.own x)) x (.ins C dx [])) (fun v H2 => v = .non ∧ Q (.ref x) H2) E) :
  wpAny (model X.prog X.w) X.A (call (.ref C) us) (EP X pins σ Q) X.xe s := by
 have hq := h (s.heap.objs.size + 1) s.heap.objs.size (I.hok.fresh (Nat.le_succ _)) (I.hok.fresh (Nat.le_refl _)) (Nat.ne_of_lt (Nat.lt_succ_self _))
 have I2 := Inv.made (C := C) I
 have r2 : Vals (V.ref (s.heap.objs.size + 1) :: (vs ++ iI)) (Value.ref (s.heap.objs.size + 1) :: (us ++ ds)) := .cons rfl (r.append hd)
 have hl : (Value.ref (s.heap.objs.size + 1) :: us ++ ds).length = ps.length := by
  have e := r2.length
  rw [F.len _ _ _ _ hq] at e
  exact e.symm
 refine wpAny_call (wa (f := f) I.e6 M.makes M.init (beq_iff_eq.mp M.fn) (codeAny_mono (F.run _ X.stack _ _ ⟨Value.ref (s.heap.objs.size + 1) :: us,[]⟩ (Value.ref (s.heap.objs.size + 1) :: (us ++ ds)) _ _ E (hr.make C us [])
  (I2.env0.make C us []) (hb _ (Value.ref (s.heap.objs.size + 1) :: us) I2.e6 hl) r2 hq) fun r s' hq' => ?_))
 cases r with
 | error e => exact hx pins σ _ _ e s' I2 hq'
 | ok fl =>
  cases fl with
  | ret u =>
   obtain ⟨v,H',I3,rv,ev,q3⟩ := I2.after hq'
   subst ev
   exact ⟨rv,⟨V.ref (s.heap.objs.size + 1),H',I3,rfl,q3⟩⟩
  | next => exact False.elim hq'
  | brk => exact False.elim hq'
  | cont => exact False.elim hq'
theorem sL (M : Mk X.K C f) (F : aK X.prog X.w X.K X.mg X.base CX k f fd ps sp) (hr : cU (k + 1) X.A) (hg : Gl X x) (hm : X.mg x = some (.ref C)) (hb : Binds X.K fd ps ds) (hd : Vals iI ds) (hx : Passes CX X E)
  (ha : PA X (e :: es) t) (hdb : (x == ("__debug__" : Str)) = false := by decide) (he : starEach (e :: es) X.env = (false,eval e X.env) :: starEach es X.env := by rfl) (hpl : (backTo pos (starEach es X.env)).any (·.1) = false := by rfl) :
  PE X (.Call (.Name x p) (e :: es) [] pos) (EF C sp iI E t) := by
 intro pins s σ H Q I h
 refine wpAny_Call_Name_kw (e9 I hg hm ?_ hdb)
 refine PySem.W.callWith_K (h₀ := X.base) I.ok.mod.Cj M.kp (bO (ha pos pins s σ H _ I h) fun us s1 ⟨vs,H1,I1,r,q⟩ => ⟨I1.e6,?_⟩) he hpl
 exact wc M F hr hb hd hx I1 r q
end
section
variable {X : Cx} {CX : sJ} {k : Nat} {f C : Addr} {fd : FuncData} {ps ks : List Str} {sp : Sp} {E : XK} {x m : Str} {p pos apos kpos : Pos} {e o : Expr} {es : List Expr} {kws : List Keyword} {te ta : TE} {t tk : TA} {nm : Option Str}
variable {g : List Value → List Value → List Value} {gV : List V → List V → List V}
end
structure aG (N P : List Str) (sc : Scope) : Prop where
 kind : sc.kind = .function
 co : sc.isCoroutine = false
 gen : sc.isGenerator = false
 nd : N.Nodup
 pre : N.take P.length = P
 par : ∀ x ∈ P,sc.names.lookup x = some .local ∨ sc.names.lookup x = some .cell
 CD : ∀ y ∈ sc.names,y.2 ≠ .free
theorem my {kindOf : Str → Option NameKind} {x : Str} : ∀ {binds : List (Str × Value)} {m : Str → Option Value},(∀ v,(x,v) ∉ binds) → bindL kindOf binds m x = m x
 | [],_,_ => rfl
 | (n,v) :: r,m,h => by
  unfold bindL
  rw [my fun w hw => h w (List.mem_cons_of_mem _ hw)]
  split
  ·have : x ≠ n := by rintro rfl; exact h v List.mem_cons_self
   simp [this]
  ·rfl
theorem mz {kindOf : Str → Option NameKind} {x : Str} : ∀ {binds : List (Str × Value)} {m : Str → Option Value},(∀ v,(x,v) ∉ binds) → bindC kindOf binds m x = m x
 | [],_,_ => rfl
 | (n,v) :: r,m,h => by
  unfold bindC
  rw [mz fun w hw => h w (List.mem_cons_of_mem _ hw)]
  split
  ·rfl
  ·have : x ≠ n := by rintro rfl; exact h v List.mem_cons_self
   simp [this]
theorem mH {kindOf : Str → Option NameKind} {x : Str} {v : Value} : ∀ {P : List Str} {vs : List Value} {i : Nat} {m : Str → Option Value},P.Nodup → P[i]? = some x → vs[i]? = some v → kindOf x = some .local →
  bindL kindOf (P.zip vs) m x = some v
 | [],_,_,_,_,h,_,_ => by simp at h
 | _ :: _,[],_,_,_,_,h,_ => by simp at h
 | p :: P,w :: vs,0,m,nd,h1,h2,hk => by
  simp at h1 h2; subst h1; subst h2
  show bindL kindOf ((p,w) :: P.zip vs) m p = _
  unfold bindL
  rw [my fun v hv => (List.nodup_cons.mp nd).1 (List.of_mem_zip hv).1,if_pos hk]
  simp
 | p :: P,w :: vs,i + 1,m,nd,h1,h2,hk => by
  show bindL kindOf ((p,w) :: P.zip vs) m x = _
  unfold bindL
  exact mH (i := i) (List.nodup_cons.mp nd).2 (by simpa using h1) (by simpa using h2) hk
theorem mI {kindOf : Str → Option NameKind} {x : Str} {v : Value} : ∀ {P : List Str} {vs : List Value} {i : Nat} {m : Str → Option Value},P.Nodup → P[i]? = some x → vs[i]? = some v → kindOf x ≠ some .local →
  bindC kindOf (P.zip vs) m x = some v
 | [],_,_,_,_,h,_,_ => by simp at h
 | _ :: _,[],_,_,_,_,h,_ => by simp at h
 | p :: P,w :: vs,0,m,nd,h1,h2,hk => by
  simp at h1 h2; subst h1; subst h2
  show bindC kindOf ((p,w) :: P.zip vs) m p = _
  unfold bindC
  rw [mz fun v hv => (List.nodup_cons.mp nd).1 (List.of_mem_zip hv).1,if_neg hk]
  simp
 | p :: P,w :: vs,i + 1,m,nd,h1,h2,hk => by
  show bindC kindOf ((p,w) :: P.zip vs) m x = _
  unfold bindC
  exact mI (i := i) (List.nodup_cons.mp nd).2 (by simpa using h1) (by simpa using h2) hk
def start (N : List Str) (vs : List V) : St := vs.map some ++ List.replicate (N.length - vs.length) none
def gj (CX : sJ) (P : Program) (w : World) (K : PySem.W.Frag) (mg : Str → Option Value) (base : Heap) (N : List Str) (qual : Str) (scope : Scope) (f : Addr) (cd : Value) (A : Around) (outer : List Env) (s : Shared) (H : Hp) (E : XK) : Cx where
 prog := P
 w := w
 K := K
 mg := mg
 base := base
 A := A.deeper (envOfC qual scope s.heap.objs.size f cd)
 N := N
 s₀ := s
 H₀ := H
 env := envOfC qual scope s.heap.objs.size f cd
 outer := outer
 stack := envOfC qual scope s.heap.objs.size f cd :: outer
 ex := []
 calm := true
 fn := fun _ => true
 pn := []
 xe := fun e s' => wpAny (model P w) (A.deeper (envOfC qual scope s.heap.objs.size f cd)) (leaving (envOfC qual scope s.heap.objs.size f cd) e) (fun _ s'' => CX outer H s E e s'') (fun e' s'' => CX outer H s E e' s'') s'
theorem pP {sc : Scope} {n : Nat} {x : Str} (h : sc.names.lookup x = some .cell) : ∃ c,(cellsFrom n sc.names []).lookup x = some c := by
 have q := PySem.W.cellsFrom_some sc.names n [] (.inl h)
 exact Option.isSome_iff_exists.mp q
theorem uO {CX : sJ} {P : Program} {w : World} {K : PySem.W.Frag} {mg : Str → Option Value} {base : Heap} {N ps : List Str} {qual : Str} {scope : Scope} {f : Addr} {cd : Value} {A : Around} {outer : List Env} {s s1 : Shared} {H : Hp} {E : XK} {us : List Value} {vs : List V}
  (S : aG N ps scope) (hd : A.handled = none) (e0 : qS P w K mg base A outer s H) (hl : vs.length = ps.length) (r : Vals vs us)
  (x : InCallC s s.heap.objs.size (bindL (envOfC qual scope s.heap.objs.size f cd).kindOf (ps.zip us) fun _ => none) (cellsFrom (s.heap.objs.size + 1) scope.names []) (bindC (envOfC qual scope s.heap.objs.size f cd).kindOf (ps.zip us) fun _ => none) s1) :
  Inv (gj CX P w K mg base N qual scope f cd A outer s H E) [] (start N vs) H s1 := by
 have hpl : ps.length ≤ N.length := by have := congrArg List.length S.pre; rw [List.length_take] at this; omega
 obtain ⟨h1,tk,rfl,hk⟩ := x.done
 have EG : ∀ b : Addr,b ∉ (gj CX P w K mg base N qual scope f cd A outer s H E).ex := fun b z => absurd (show b ∈ ([] : List Addr) from z) (by simp)
 refine ⟨⟨e0.mod,S.kind,rfl,rfl,Nat.le_refl _,fun y z c h1 h2 => ?_,fun y hy => ?_,fun y c _ h => ?_,fun _ => hd,Around.frames_deeper e0.frames,.inr ⟨rfl,rfl⟩,fun b z => absurd z (EG b),e0.bs,e0.vG,fun b _ _ => EG b,fun b z => absurd z (EG b),e0.iu,e0.Bw⟩,
  rfl,e0.bare,Un.kept hk,⟨_,x.toInCall.ns,fun i y v h1 h2 h3 => ?_⟩,fun y c h => ⟨_,x.cell y c h⟩,e0.hok.fresh (Nat.le_refl _),fun y c h => ?_,fun p hp => absurd (show p ∈ ([] : List (Addr × Obj)) from hp) (by simp),e0.hok.kept hk,?_⟩
 ·exact name_of_addr x.apart (PySem.mem_of_lookup h1) (PySem.mem_of_lookup h2)
 ·have hy : scope.names.lookup y = some .cell ∨ scope.names.lookup y = some .free := hy
  rcases hy with hy | hy
  ·exact pP hy
  ·exact absurd rfl (S.CD _ (PySem.mem_of_lookup hy))
 ·exact Nat.le_of_lt (x.above y c (PySem.mem_of_lookup h))
 ·have hi : i < vs.length := by
   unfold start at h2
   by_cases hi : i < vs.length
   ·exact hi
   ·rw [List.getElem?_append_right (by simpa using hi)] at h2
    rw [List.getElem?_replicate] at h2
    split at h2 <;> cases h2
  have ha : vs[i]? = some v := by
   unfold start at h2
   rw [List.getElem?_append_left (by simpa using hi),List.getElem?_map] at h2
   cases e : vs[i]? with
   | none => rw [e] at h2; cases h2
   | some a => rw [e] at h2; cases h2; rfl
  obtain ⟨u,hu,rv⟩ := r.get ha
  have hp : ps[i]? = some y := by
   rw [← S.pre,List.getElem?_take_of_lt (by omega)]; exact h1
  have V2 : ps.Nodup := by rw [← S.pre]; exact S.nd.sublist (List.take_sublist _ _)
  refine ⟨u,rv,?_⟩
  rcases S.par y (List.mem_of_getElem? hp) with k | k
  ·exact .inl ⟨k,mH V2 hp hu k⟩
  ·obtain ⟨c,e⟩ := pP (n := s.heap.objs.size + 1) k
   refine .inr ⟨.inl k,c,e,?_⟩
   have q := x.cell y c e
   rw [mI V2 hp hu (by show scope.names.lookup y ≠ _; rw [k]; decide)] at q
   exact q
 ·exact e0.hok.fresh (Nat.le_of_lt (x.above y c (PySem.mem_of_lookup h)))
 ·unfold start
  show _ = N.length
  rw [List.length_append,List.length_map,List.length_replicate]
  omega
theorem BG {CX : sJ} {P : Program} {w : World} {K : PySem.W.Frag} {mg : Str → Option Value} {base : Heap} {k : Nat} {f : Addr} {name qual : Str} {params : Arguments} {body : List Stmt} {scope : Scope} {dV kV doc pm cdv ct oc : Value} {an od : Option Addr}
  {osl : Array (Option Value)} {N ps : List Str} {sp : Sp} (lk : K.lookup f = some ⟨oc,od,.func (PySem.W.fnOf name qual params body scope dV kV doc pm an cdv ct),osl⟩) (hcd : PySem.W.codeIn K cdv qual = true) (S : aG N ps scope)
  (len : ∀ vs H Q E,sp vs H Q E → vs.length = ps.length)
  (hbody : ∀ (A : Around) (outer : List Env) (s : Shared) (H : Hp) (vs : List V) (Q : VK) (E : XK),cU k (A.deeper (envOfC qual scope s.heap.objs.size f cdv)) → sp vs H Q E →
   ∃ t,lQ (gj CX P w K mg base N qual scope f cdv A outer s H E) body t ∧ t { nx := fun _ H' => Q .non H',rt := Q } (start N vs) H) :
  aK P w K mg base CX (k + 1) f (PySem.W.fnOf name qual params body scope dV kV doc pm an cdv ct) ps sp := by
 refine ⟨len,fun A outer s H args us vs Q E hr e0 hb r hsp => ?_⟩
 have hl := len _ _ _ _ hsp
 have KX : K.In s.heap := e0.mod.Cj.keeps fun b o e => (e0.bs b o e).1
 have lim : s.heap.NoLimit := e0.mod.nolimit.keeps fun b o e => (e0.bs b o e).1
 have hkind : ∀ y ∈ ps.zip us,scope.names.lookup y.1 = some .local ∨ (scope.names.lookup y.1 = some .cell ∧ ((cellsFrom (s.heap.objs.size + 1) scope.names []).lookup y.1).isSome = true) := fun ⟨n,v⟩ hy => by
  rcases S.par n (List.of_mem_zip hy).1 with q | q
  ·exact .inl q
  ·exact .inr ⟨q,PySem.W.cellsFrom_some _ _ _ (.inl q)⟩
 refine codeAny_call_function hr.depth (KX _ _ lk) rfl S.co S.gen rfl (PySem.W.codeRec_of KX hcd) (hb _ _ _ _ ?_)
 refine wpAny_newFunctionEnv_cells S.kind hkind fun env he s1 x => ?_
 subst he
 refine ⟨lim.keeps x.toInCall.keep,codeAny_func ?_⟩
 obtain ⟨t,ht,hq⟩ := hbody A outer s H vs Q E (hr.deeper _) hsp
 have I : Inv (gj CX P w K mg base N qual scope f cdv A outer s H E) [] (start N vs) H s1 := uO S hr.hd e0 hl r x
 refine wpAny_mono (ht [] s1 (start N vs) H _ I hq) (fun fl s' hs => ?_) fun e s' hs => hs
 have fin : ∀ {σ' : St} {H' : Hp} {v : V} {u : Value},Inv (gj CX P w K mg base N qual scope f cdv A outer s H E) [] σ' H' s' → RelV v u → Q v H' → CE outer P w H s Q u s' :=
  fun {σ' H' v u} J rv q => ⟨v,H',J.os,J.bare,J.base,J.hok,rv,q⟩
 cases fl with
 | ret u =>
  obtain ⟨v,σ',H',J,rv,q⟩ := hs
  exact fin J rv q
 | next =>
  obtain ⟨σ',H',J,q⟩ := hs
  exact fin (v := V.non) (u := Value.none) J rfl q
 | brk =>
  obtain ⟨_,_,_,q⟩ := hs
  exact False.elim q
 | cont =>
  obtain ⟨_,_,_,q⟩ := hs
  exact False.elim q
section
variable {X : Cx} {x : Str} {p pos : Pos} {e : Expr} {es : List Expr} {t : TA} {id T : String} {r : List V → Hp → VK → Prop}
def V3 (r : List V → Hp → VK → Prop) (t : TA) : TE := fun σ H Q => t σ H fun vs H1 => r vs H1 Q
theorem aU (hc : eI X (.builtin id) r) (hg : Gl X x) (hm : X.mg x = none) (hv : bootBuiltins x = some (.builtin id)) (ha : PA X (e :: es) t) (hn : x ≠ "__name__" := by decide) (hdb : (x == ("__debug__" : Str)) = false := by decide)
  (he : starEach (e :: es) X.env = (false,eval e X.env) :: starEach es X.env := by rfl) (hpl : (backTo pos (starEach es X.env)).any (·.1) = false := by rfl) : PE X (.Call (.Name x p) (e :: es) [] pos) (V3 r t) := by
 intro pins s σ H Q I h
 refine wpAny_Call_Name_kw (kf I hg hm hv ?_ hn hdb)
 exact PyProof.Rows.callWith_builtin1 (bO (ha pos pins s σ H _ I h) fun us s1 ⟨vs,H1,I1,r1,q1⟩ => hc pins s1 σ H1 vs us Q I1 r1 q1) he hpl
theorem bK (hc : eI X (.type T) r) (hg : Gl X x) (hm : X.mg x = none) (hv : bootBuiltins x = some (.type T)) (ha : PA X (e :: es) t) (hn : x ≠ "__name__" := by decide) (hdb : (x == ("__debug__" : Str)) = false := by decide)
  (he : starEach (e :: es) X.env = (false,eval e X.env) :: starEach es X.env := by rfl) (hpl : (backTo pos (starEach es X.env)).any (·.1) = false := by rfl) : PE X (.Call (.Name x p) (e :: es) [] pos) (V3 r t) := by
 intro pins s σ H Q I h
 refine wpAny_Call_Name_kw (kf I hg hm hv ?_ hn hdb)
 exact PyProof.Rows.callWith_type1 (bO (ha pos pins s σ H _ I h) fun us s1 ⟨vs,H1,I1,r1,q1⟩ => hc pins s1 σ H1 vs us Q I1 r1 q1) he hpl
end
end L2
namespace HT
open PySem PyProof.Rows
section
open PySem.SeqAt
open PySem.AutoSeq1 (wpAny_loadPart')
open PySem.MeetsSeq PySem.MeetsSeq2 PySem.MeetsSeq3
end
section
variable {prog : Program} {w : World} {A : Around} {E : Value → Shared → Prop} {s : Shared}
def dv (n d : Nat) : Option Int → Nat
 | none => d
 | some v => if v < 0 then (v + (n : Int)).toNat else min v.toNat n
theorem oy (n d k : Nat) : dv n d (some (k : Int)) = min k n := by
 show (if (k : Int) < 0 then ((k : Int) + (n : Int)).toNat else min (k : Int).toNat n) = min k n
 rw [if_neg (by omega),Int.toNat_natCast]
theorem CF (n d : Nat) (hd : d ≤ n) (o : Option Int) : dv n d o ≤ n := by
 cases o with
 | none => exact hd
 | some v =>
  show (if v < 0 then (v + (n : Int)).toNat else min v.toNat n) ≤ n
  by_cases hv : v < 0
  ·rw [if_pos hv]; omega
  ·rw [if_neg hv]; exact Nat.min_le_right _ _
theorem sM (v : Int) (n d : Nat) : (if v < 0 then max (v + (n : Int)) 0 else min v (n : Int)) = ((dv n d (some v) : Nat) : Int) := by
 show (if v < 0 then max (v + (n : Int)) 0 else min v (n : Int)) = (((if v < 0 then (v + (n : Int)).toNat else min v.toNat n) : Nat) : Int)
 by_cases hv : v < 0
 ·simp only [if_pos hv]; omega
 ·simp only [if_neg hv]; omega
theorem qU (lo hi : Option Int) (n : Nat) : Builtin.Slice.sliceAdjust lo hi 1 (n : Int) = (((dv n 0 lo : Nat) : Int),((dv n n hi : Nat) : Int)) := by
 have h1 : ¬ ((1 : Int) < 0) := by omega
 unfold Builtin.Slice.sliceAdjust
 simp only [h1,if_false]
 refine Prod.ext ?_ ?_
 ·cases lo with
  | none => rfl
  | some v => exact sM v n 0
 ·cases hi with
  | none => rfl
  | some v => exact sM v n n
theorem qV (i j : Nat) : Builtin.Slice.slicePlaces (i : Int) (j : Int) 1 = j - i := by
 unfold Builtin.Slice.slicePlaces
 have h1 : (1 : Int) > 0 := by omega
 simp only [h1,if_true,Int.ediv_one]
 split <;> omega
theorem km {v : Value} {o : Option Int} {Q : Option Int → Shared → Prop} (p : IsPart v o) (h : Q o s) : wpAny (model prog w) A (Builtin.Slice.slicePartIndex v) Q E s := by
 cases p with
 | none => exact slicePart_none h
 | int i t => exact slicePart_int h
theorem jl {sl : Addr} {vl vu : Value} {lo hi : Option Int} {n : Nat} {Q : Int × Int × Nat → Shared → Prop} (hs : s.heap.IsSliceOf sl vl vu .none) (pl : IsPart vl lo) (pu : IsPart vu hi)
  (h : Q (((dv n 0 lo : Nat) : Int),1,dv n n hi - dv n 0 lo) s) : wpAny (model prog w) A (Builtin.Slice.sliceApplied (.ref sl) (pure (n : Int))) Q E s := by
 obtain ⟨os,hos,hcs,hds⟩ := id hs
 unfold Builtin.Slice.sliceApplied Builtin.Slice.sliceFields
 refine wpAny_bind (wpAny_bind (wpAny_field hos hds (x := vl) rfl (wpAny_bind (wpAny_field hos hds (x := vu) rfl (wpAny_bind (wpAny_field hos hds (x := .none) rfl (wpAny_pure ?_)))))))
 refine wpAny_bind (slicePart_none ?_)
 show wpAny _ _ (if ((1 : Int) == 0) = true then _ else _) _ _ s
 rw [if_neg (by decide)]
 refine wpAny_bind (km pl (wpAny_bind (km pu (wpAny_bind (wpAny_pure ?_)))))
 show wpAny _ _ (match Builtin.Slice.sliceAdjust lo hi 1 (n : Int) with | (lo,hi) => pure (lo,(1 : Int),Builtin.Slice.slicePlaces lo hi 1)) _ _ s
 rw [qU lo hi n]
 show wpAny _ _ (pure (((dv n 0 lo : Nat) : Int),(1 : Int),Builtin.Slice.slicePlaces ((dv n 0 lo : Nat) : Int) ((dv n n hi : Nat) : Int) 1)) _ _ s
 rw [qV]
 exact wpAny_pure h
theorem wg (xs : Array Value) (i k : Nat) : ((List.range k).filterMap fun (m : Nat) => xs[((i : Int) + (m : Int) * 1).toNat]?).toArray = ((xs.toList.drop i).take k).toArray := by
 have e : (fun (m : Nat) => xs[((i : Int) + (m : Int) * 1).toNat]?) = fun m => xs[i + m]? := by
  funext m
  have : ((i : Int) + (m : Int) * 1).toNat = i + m := by omega
  rw [this]
 rw [e]
 have := pick_run xs i k
 rw [List.filterMap_map] at this
 have e2 : ((fun x => xs[x]?) ∘ fun x => i + x) = fun m => xs[i + m]? := rfl
 rw [e2] at this
 rw [this]
theorem iM {t sl : Addr} {items : Array Value} {vl vu : Value} {lo hi : Option Int} {Q : Value → Shared → Prop} (ht : IsTup s.heap t items) (hs : s.heap.IsSliceOf sl vl vu .none) (pl : IsPart vl lo) (pu : IsPart vu hi)
  (hw : ¬ (dv items.size 0 lo = 0 ∧ dv items.size items.size hi = items.size))
  (h : Q (.ref s.heap.objs.size) { s with heap := s.heap.push { cls := .type "tuple",data := .seq ((items.toList.drop (dv items.size 0 lo)).take (dv items.size items.size hi - dv items.size 0 lo)).toArray } })
  (hsz : items.size ≤ sizeLine) : wpAny (model prog w) A (getItem (.ref t) (.ref sl)) Q E s := by
 have sN : sizeOk (.seq ((items.toList.drop (dv items.size 0 lo)).take (dv items.size items.size hi - dv items.size 0 lo)).toArray) := by
  show ((items.toList.drop (dv items.size 0 lo)).take (dv items.size items.size hi - dv items.size 0 lo)).toArray.size ≤ sizeLine
  rw [List.size_toArray,List.length_take,List.length_drop,Array.length_toList]
  omega
 have hj : dv items.size items.size hi ≤ items.size := CF _ _ (Nat.le_refl _) hi
 obtain ⟨os,hos,hcs,hds⟩ := id hs
 have hTs : s.TypeIs (.ref sl) "slice" := ⟨os,hos,hcs⟩
 unfold getItem
 try with_reducible refine wpAny_holding ?_
 first | refine wpAny_bind (wpAny_pure ?_) | skip
 refine wpAny_bind (wpAny_sequenceKey ht.typeIs (by decide) ?_)
 refine wpAny_bind (wpAny_callSpecial?_slot (name := Str.ofString "__getitem__") ht.typeIs PyProof.Rows.slot_tuple_getitem
  (wpAny_call_entry PyProof.Rows.slot_tuple_getitem ht.typeIs entry_tuple_getitem ?_ (args_tuple_getitem _ _)))
 show wpAny _ _ (Builtin.Tuple.tupleItemsOf (.ref t) >>= _) _ _ s
 refine wpAny_bind (tupleItemsOf_ ht ?_)
 refine wpAny_bind (wpAny_typeOf hTs ?_)
 rw [if_pos (by decide)]
 refine wpAny_bind (jl hs pl pu ?_)
 have hno : ¬ ((((dv items.size 0 lo : Nat) : Int) == 0 && (1 : Int) == 1 && (dv items.size items.size hi - dv items.size 0 lo) == items.size) = true) := by
  intro q
  rw [Bool.and_eq_true,Bool.and_eq_true] at q
  have q1 : ((dv items.size 0 lo : Nat) : Int) = 0 := eq_of_beq q.1.1
  have q2 : dv items.size items.size hi - dv items.size 0 lo = items.size := eq_of_beq q.2
  exact hw ⟨by omega,by omega⟩
 show wpAny _ _ (if (((dv items.size 0 lo : Nat) : Int) == 0 && (1 : Int) == 1 && (dv items.size items.size hi - dv items.size 0 lo) == items.size) = true then _ else _) _ _ s
 rw [if_neg hno,wg]
 first
  | exact wpAny_bind (m := Builtin.Tuple.tupleExact _) (wpAny_newObj_type (wpAny_pure ⟨_,rfl,wpAny_pure h⟩) sN)
  | exact wpAny_bind (m := Builtin.Tuple.tupleExact _) (wpAny_newObj_type (wpAny_bind (wpAny_pure (wpAny_pure ⟨_,rfl,wpAny_pure h⟩))) sN)
  | exact wpAny_bind (wpAny_bind (m := Builtin.Tuple.tupleExact _) (wpAny_newObj_type (wpAny_pure (wpAny_pure ⟨_,rfl,wpAny_pure h⟩)) sN))
  | exact wpAny_bind (wpAny_bind (m := Builtin.Tuple.tupleExact _) (wpAny_newObj_type (wpAny_pure ⟨_,rfl,wpAny_pure h⟩) sN))
end
end HT
namespace L2
open PySem PySem.Spec PyProof.Rows
abbrev TO := St → Hp → (Option Int → Hp → Prop) → Prop
def PO (X : Cx) (e : Option Expr) (t : TO) : Prop :=
 ∀ (pins : List (Addr × Obj)) (s : Shared) (σ : St) (H : Hp) (Q : Option Int → Hp → Prop),Inv X pins σ H s → t σ H Q →
  wpAny (model X.prog X.w) X.A (evalPart e X.env) (fun u s' => ∃ o H',Inv X pins σ H' s' ∧ IsPart u o ∧ Q o H') X.xe s
def zv : TO := fun _ H Q => Q none H
def EH (t : TE) : TO := fun σ H Q => t σ H fun x H1 => ∃ i,x = .int i ∧ Q (some i) H1
theorem intsAre_of {ns : List Int} : ∀ {us : List Value},Vals (ns.map V.int) us → IntsAre us ns := by
 induction ns with
 | nil => intro us r; rw [List.map_nil] at r; cases r; exact .nil
 | cons n ns ih =>
  intro us r
  rw [List.map_cons] at r
  cases r with
  | cons r1 r2 =>
   obtain ⟨t,e⟩ := r1
   subst e
   exact .cons n t (ih r2)
section
variable {X : Cx} {e : Expr} {te : TE} {lo hi : Option Expr} {tl th : TO} {pos p2 : Pos}
theorem zx : PO X none zv := by
 intro pins s σ H Q I h
 rw [evalPart_none]
 exact wpAny_pure ⟨none,H,I,.none,h⟩
theorem oz (h : PE X e te) : PO X (some e) (EH te) := by
 intro pins s σ H Q I hw
 rw [evalPart_some]
 refine bO (h pins s σ H _ I hw) fun u s1 ⟨x,H1,I1,r1,q1⟩ => ?_
 obtain ⟨i,rfl,q⟩ := q1
 obtain ⟨t,rfl⟩ := r1
 exact ⟨some i,H1,I1,.int i t,q⟩
def J0 (X : Cx) (r : V → Option Int → Option Int → Hp → VK → Prop) : Prop :=
 ∀ (pins : List (Addr × Obj)) (s : Shared) (σ : St) (H : Hp) (x : V) (v vl vu : Value) (lo hi : Option Int) (sl : Addr) (Q : VK),Inv X pins σ H s → RelV x v → s.heap.IsSliceOf sl vl vu .none → IsPart vl lo → IsPart vu hi → r x lo hi H Q →
  ∃ T id,typeLookup (.type T) "__getitem__" = pure (some (.builtin id)) ∧ s.TypeIs v T ∧ wpAny (model X.prog X.w) X.A (getItem v (.ref sl)) (EP X pins σ Q) X.xe s
def XR (r : V → Option Int → Option Int → Hp → VK → Prop) (te : TE) (tl th : TO) : TE := fun σ H Q => te σ H fun x H1 => tl σ H1 fun l H2 => th σ H2 fun u H3 => r x l u H3 Q
theorem pQ {r : V → Option Int → Option Int → Hp → VK → Prop} (hr : J0 X r) (he : PE X e te) (hl : PO X lo tl) (hu : PO X hi th) : PE X (.Subscript e (.Slice lo hi none p2) pos) (XR r te tl th) := by
 intro pins s σ H Q I h
 refine Subscript_ (bO (he pins s σ H _ I h) fun v s1 ⟨x,H1,I1,r1,q1⟩ => ?_)
 refine wpAny_Slice (bO (hl pins s1 σ H1 _ I1 q1) fun vl s2 ⟨l,H2,I2,pl,q2⟩ => bO (hu pins s2 σ H2 _ I2 q2) fun vu s3 ⟨u,H3,I3,pu,q3⟩ => ?_)
 rw [evalPart_none]
 refine wpAny_pure ?_
 have I4 : Inv X pins σ H3 { s3 with heap := s3.heap.push { cls := .type "slice",data := .fields #[vl,vu,.none] } } := I3.kept (t' := s3.toks) fun b ob q => Heap.get?_push_of_some _ q
 obtain ⟨T,id,hT,ht,hg⟩ := hr pins { s3 with heap := s3.heap.push { cls := .type "slice",data := .fields #[vl,vu,.none] } } σ H3 x v vl vu l u s3.heap.objs.size Q I4 r1 (Heap.IsSliceOf.new ..) pl pu q3
 show wpAny (model X.prog X.w) X.A (subscriptTail e (.Slice lo hi none p2) v (.ref s3.heap.objs.size)) (EP X pins σ Q) X.xe { s3 with heap := s3.heap.push { cls := .type "slice",data := .fields #[vl,vu,.none] } }
 exact tail_any (ops := [.ref s3.heap.objs.size,v]) ht hT hg (by with_unfolding_all rfl)
def kn (xs : List V) (lo hi : Option Int) : List V := (xs.drop (HT.dv xs.length 0 lo)).take (HT.dv xs.length xs.length hi - HT.dv xs.length 0 lo)
theorem jM (xs : List V) (lo hi : Option Int) : (kn xs lo hi).length ≤ xs.length := by
 unfold kn
 rw [List.length_take,List.length_drop]
 omega
def J1 (K : PySem.W.Frag) : V → Option Int → Option Int → Hp → VK → Prop := fun x lo hi H Q => ∃ a xs,x = .ref a ∧ bX K H a xs ∧
 ¬ (HT.dv xs.length 0 lo = 0 ∧ HT.dv xs.length xs.length hi = xs.length) ∧ ∀ p,H p = none → Q (.ref p) (upd H p (.tup (kn xs lo hi)))
theorem CG : J0 X (J1 X.K) := by
 intro pins s σ H x v vl vu lo hi sl Q I rx hs pl pu h
 obtain ⟨a,xs,rfl,hx,hw,q⟩ := h
 cases rx
 obtain ⟨its,r,ht,hz⟩ := I.tuple hx
 have hlen : its.toArray.size = xs.length := by rw [List.size_toArray]; exact r.length.symm
 refine ⟨"tuple",_,PyProof.Rows.slot_tuple_getitem.lookup,ht.typeIs,?_⟩
 refine HT.iM ht hs pl pu (by rw [hlen]; exact hw) ?_ (by rw [hlen]; exact hz)
 rw [hlen]
 refine ⟨.ref s.heap.objs.size,_,I.laid (t' := s.toks) (o := .tup (kn xs lo hi)) (fun b ob q => Heap.get?_push_of_some _ q) (Nat.le_refl _) ?_,rfl,q _ (I.hok.fresh (Nat.le_refl _))⟩
 exact ⟨Nat.le_trans (jM xs lo hi) hz,_,(r.drop (HT.dv xs.length 0 lo)).take (HT.dv xs.length xs.length hi - HT.dv xs.length 0 lo),IsTup.new _ _⟩
end
def uP (n : Nat) (i : Int) : Option Nat := if 0 ≤ i then (if i < n then some i.toNat else none) else if -(n : Int) ≤ i then some (i + n).toNat else none
def lM {α : Type} (xs : List α) (i : Int) : Option α := (uP xs.length i).bind fun j => xs[j]?
theorem sO {n : Nat} {i : Int} {j : Nat} (h : uP n i = some j) : seqIndex? i n = some j ∧ j < n ∧ -(n : Int) ≤ i ∧ i < n := by
 unfold uP at h
 by_cases h0 : 0 ≤ i
 ·rw [if_pos h0] at h
  by_cases h1 : i < n
  ·rw [if_pos h1] at h
   have e : i.toNat = j := Option.some.inj h
   exact ⟨by rw [seqIndex_of h0 h1,e],by omega,by omega,h1⟩
  ·rw [if_neg h1] at h; cases h
 ·rw [if_neg h0] at h
  by_cases h1 : -(n : Int) ≤ i
  ·rw [if_pos h1] at h
   have e : (i + n).toNat = j := Option.some.inj h
   exact ⟨by rw [seqIndex_neg (by omega) h1,e],by omega,h1,by omega⟩
  ·rw [if_neg h1] at h; cases h
theorem sP {α : Type} {xs : List α} {i : Int} {v : α} (h : lM xs i = some v) : ∃ j,seqIndex? i xs.length = some j ∧ xs[j]? = some v ∧ j < xs.length ∧ -(xs.length : Int) ≤ i ∧ i < xs.length := by
 unfold lM at h
 cases e : uP xs.length i with
 | none => rw [e] at h; cases h
 | some j =>
  rw [e] at h
  obtain ⟨h1,h2,h3,h4⟩ := sO e
  exact ⟨j,h1,h,h2,h3,h4⟩
theorem bJ {α : Type} {xs : List α} {j : Nat} {v : α} (h : xs[j]? = some v) : lM xs (j : Int) = some v := by
 have hj : j < xs.length := (List.getElem?_eq_some_iff.mp h).1
 have e : uP xs.length (j : Int) = some j := by
  unfold uP
  rw [if_pos (by omega),if_pos (by omega)]; simp
 unfold lM; rw [e]; exact h
def zy (b : Expr) : Prop := ∀ o i,subscripted b false o i = operate [o,i] (getItem o i)
def J2 (X : Cx) (r : R2) : Prop :=
 ∀ (value slice : Expr) (pins : List (Addr × Obj)) (s : Shared) (σ : St) (H : Hp) (x y : V) (v u : Value) (Q : VK),Inv X pins σ H s → RelV x v → RelV y u → r x y H Q →
  subscripted slice false v u = operate [v,u] (getItem v u) → wpAny (model X.prog X.w) X.A (subscriptTail value slice v u) (EP X pins σ Q) X.xe s
def J3 (X : Cx) (id : String) (r : V → List V → Hp → VK → Prop) : Prop :=
 ∀ (pins : List (Addr × Obj)) (s : Shared) (σ : St) (H : Hp) (x : V) (xs : List V) (v : Value) (us : List Value) (Q : VK),Inv X pins σ H s → RelV x v → Vals xs us → r x xs H Q →
  wpAny (model X.prog X.w) X.A (call (.builtin id) (v :: us)) (EP X pins σ Q) X.xe s
section
variable {X : Cx} {a b : Expr} {ta tb : TE} {pos : Pos}
theorem aI {r : R2} (hr : J2 X r) (ha : PE X a ta) (hb : PE X b tb) (hs : zy b) : PE X (.Subscript a b pos) (Jd r ta tb) := by
 intro pins s σ H Q I h
 exact Subscript_ (CB ha hb I h fun v u s2 x y H2 I2 rx ry q => hr a b pins s2 σ H2 x y v u Q I2 rx ry q (hs _ _))
def wj (K : PySem.W.Frag) : R2 := fun x y H Q => ∃ p xs i v,x = .ref p ∧ y = .int i ∧ aZ K H p xs ∧ lM xs i = some v ∧ Q v H
def EI (K : PySem.W.Frag) : R2 := fun x y H Q => ∃ p xs i v,x = .ref p ∧ y = .int i ∧ bX K H p xs ∧ lM xs i = some v ∧ Q v H
theorem aJ : J2 X (wj X.K) := by
 intro value slice pins s σ H x y v u Q I rx ry h hs
 obtain ⟨p,xs,i,z,rfl,rfl,hq,he,q⟩ := h
 cases rx
 obtain ⟨t,rfl⟩ := ry
 obtain ⟨its,r,pl,hz⟩ := I.list hq
 obtain ⟨j,h1,h2,h3,h4,h5⟩ := sP he
 obtain ⟨w,ew,CH⟩ := r.get h2
 have hl := r.length
 have hn := ox
 have fin : EP X pins σ Q w s := ⟨z,H,I,CH,q⟩
 by_cases h0 : 0 ≤ i
 ·have hj : i.toNat = j := by
   rw [seqIndex_of h0 h5] at h1
   exact Option.some.inj h1
  exact item_listR pl.isList h0 (by omega) (by rw [hj]; simpa using ew) fin hs
 ·have hj : (i + (its.toArray.size : Int)).toNat = j := by
   rw [seqIndex_neg (by omega) h4] at h1
   rw [List.size_toArray,← hl]
   exact Option.some.inj h1
  exact subscriptTail_builtinR (x := w) pl.isList.typeIs slot_list_getitem.lookup
   (wpAny_getItem_list_neg (Q := fun r s' => r = w ∧ EP X pins σ Q r s') pl.isList (by omega) (by rw [List.size_toArray] <;> omega) (by omega) (by rw [hj]; simpa using ew) ⟨rfl,fin⟩) hs
theorem aS : J2 X (EI X.K) := by
 intro value slice pins s σ H x y v u Q I rx ry h hs
 obtain ⟨p,xs,i,z,rfl,rfl,hq,he,q⟩ := h
 cases rx
 obtain ⟨t,rfl⟩ := ry
 obtain ⟨its,r,pl,hz⟩ := I.tuple hq
 obtain ⟨j,h1,h2,h3,h4,h5⟩ := sP he
 obtain ⟨w,ew,CH⟩ := r.get h2
 have hl := r.length
 have hn := ox
 have fin : EP X pins σ Q w s := ⟨z,H,I,CH,q⟩
 exact subscriptTail_builtinR (x := w) pl.typeIs slot_tuple_getitem.lookup
  (getItem_tuple (j := j) (Q := fun r s' => r = w ∧ EP X pins σ Q r s') pl (by omega) (by omega) (by rw [List.size_toArray,← hl]; exact h1) (by simpa using ew) ⟨rfl,fin⟩) hs
theorem qW (its : List Value) (n j : Nat) (u : Value) : Obj.mapSeq (·.setIfInBounds j u) { cls := .type "list",data := .seq its.toArray n } = { cls := .type "list",data := .seq (its.set j u).toArray n } := by
 simp [Obj.mapSeq]
theorem Inv.lst {pins : List (Addr × Obj)} {σ : St} {H : Hp} {s : Shared} {p : Addr} {xs : List V} (I : Inv X pins σ H s) (h : H p = some (.lst xs)) :
  ∃ (its : List Value) (n : Nat),Vals xs its ∧ s.heap.get? p = some { cls := .type "list",data := .seq its.toArray n } ∧ xs.length ≤ sizeLine := by
 obtain ⟨z,its,n,r,e⟩ := I.hok p _ h
 exact ⟨its,n,r,e,z⟩
theorem Inv.CI {pins : List (Addr × Obj)} {σ : St} {H : Hp} {s : Shared} {p : Addr} {xs ys : List V} {its its' : List Value} {n n' : Nat} {f : Obj → Obj} (I : Inv X pins σ H s) (h : H p = some (.lst xs))
  (ho : s.heap.get? p = some { cls := .type "list",data := .seq its.toArray n }) (hf : f { cls := .type "list",data := .seq its.toArray n } = { cls := .type "list",data := .seq its'.toArray n' }) (r : Vals ys its') (hz : ys.length ≤ sizeLine) (t : Nat) :
  Inv X pins σ (upd H p (.lst ys)) { s with heap := s.heap.update p f,toks := t } := by
 have e : (s.heap.update p f).get? p = some { cls := .type "list",data := .seq its'.toArray n' } := by
  rw [Heap.get?_update_self f ho (by rw [hf] <;> rfl),hf]
 refine I.write (x := p) (e := p) (by rw [h]; trivial) (.inl rfl) (fun b u hb q => (Heap.get?_update_other _ _ (Ne.symm hb)).trans q) ⟨_,e⟩ ?_
 exact ⟨hz,its',n',r,e⟩
def EJ : V → V → V → Hp → (Hp → Prop) → Prop := fun o i v H Q => ∃ p xs k j,o = .ref p ∧ i = .int k ∧ H p = some (.lst xs) ∧ uP xs.length k = some j ∧ Q (upd H p (.lst (xs.set j v)))
theorem set_list : Er X EJ := by
 intro pins s σ H o i v ov iv u Q I ro ri rv h
 obtain ⟨p,xs,k,j,rfl,rfl,hp,hj,q⟩ := h
 cases ro
 obtain ⟨t,rfl⟩ := ri
 obtain ⟨its,n,r,ho,hz⟩ := I.lst hp
 obtain ⟨h1,h2,h3,h4⟩ := sO hj
 have hl := r.length
 have hn := ox
 have I' : Inv X pins σ (upd H p (.lst (xs.set j v))) { s with heap := s.heap.update p (Obj.mapSeq (·.setIfInBounds j u)) } :=
  I.CI hp ho (qW its n j u) (r.set rv j) (by rw [List.length_set]; exact hz) s.toks
 by_cases h0 : 0 ≤ k
 ·have hk : k.toNat = j := by
   rw [seqIndex_of h0 h4] at h1
   exact Option.some.inj h1
  exact PySem.W.ki_setAt ho h0 (by omega) (by rw [List.size_toArray,← hl]; exact h4) (by rw [hk]; exact ⟨_,I',q⟩)
 ·have hk : (k + (its.toArray.size : Int)).toNat = j := by
   rw [seqIndex_neg (by omega) h3] at h1
   rw [List.size_toArray,← hl]
   exact Option.some.inj h1
  exact PySem.W.ki_setBack ho (by omega) (by rw [List.size_toArray,← hl]; exact h3) (by omega) (by rw [hk]; exact ⟨_,I',q⟩)
theorem oA (lo hi : Option Int) (n : Nat) : (sliceBounds lo hi none n).1 = ((HT.dv n 0 lo : Nat) : Int) ∧ (sliceBounds lo hi none n).2.1 = ((HT.dv n n hi : Nat) : Int) ∧ (sliceBounds lo hi none n).2.2 = 1 := by
 refine ⟨?_,?_,rfl⟩
 ·cases lo with
  | none => simp [sliceBounds,HT.dv]
  | some i =>
   simp only [sliceBounds,HT.dv,Option.getD_none,show (1 : Int) > 0 by decide,if_true]
   by_cases h : i < 0
   ·simp only [h,if_true] <;> omega
   ·simp only [h,if_false] <;> omega
 ·cases hi with
  | none => simp [sliceBounds,HT.dv]
  | some i =>
   simp only [sliceBounds,HT.dv,Option.getD_none,show (1 : Int) > 0 by decide,if_true]
   by_cases h : i < 0
   ·simp only [h,if_true] <;> omega
   ·simp only [h,if_false] <;> omega
theorem lR (its : List Value) (lo hi : Option Int) : slicePick its.toArray lo hi none = ((its.drop (HT.dv its.length 0 lo)).take (HT.dv its.length its.length hi - HT.dv its.length 0 lo)).toArray := by
 obtain ⟨h1,h2,h3⟩ := oA lo hi its.toArray.size
 unfold slicePick
 rw [h1,h2,h3]
 simp only [sliceRange_one,pick_run,List.size_toArray] <;> rfl
def J4 (K : PySem.W.Frag) : V → Option Int → Option Int → Hp → VK → Prop := fun x lo hi H Q => ∃ a xs,x = .ref a ∧ aZ K H a xs ∧ ∀ p,H p = none → Q (.ref p) (upd H p (.lst (kn xs lo hi)))
theorem zA : J0 X (J4 X.K) := by
 intro pins s σ H x v vl vu lo hi sl Q I rx hs pl pu h
 obtain ⟨a,xs,rfl,hx,q⟩ := h
 cases rx
 obtain ⟨its,r,ht,hz⟩ := I.list hx
 have hlen := r.length
 refine ⟨"list",_,slot_list_getitem.lookup,ht.isList.typeIs,?_⟩
 refine wpAny_getItem_list_slice ht.isList hs pl pu .none (by simp) ?_ (by rw [List.size_toArray] <;> omega)
 rw [lR,← hlen]
 refine ⟨.ref s.heap.objs.size,_,I.laid (t' := s.toks) (o := .lst (kn xs lo hi)) (fun b ob q => Heap.get?_push_of_some _ q) (Nat.le_refl _) ?_,rfl,q _ (I.hok.fresh (Nat.le_refl _))⟩
 exact ⟨Nat.le_trans (jM xs lo hi) hz,_,0,(r.drop (HT.dv xs.length 0 lo)).take (HT.dv xs.length xs.length hi - HT.dv xs.length 0 lo),Heap.get?_push_size _ rfl⟩
def iN : V → Bool
 | .non => true
 | .bl _ => true
 | .int _ => true
 | .str _ => true
 | _ => false
def BH : V → V → Bool
 | .non,.non => true
 | .bl a,.bl b => a == b
 | .bl a,.int b => (if a then 1 else 0) == b
 | .int a,.bl b => a == (if b then 1 else 0)
 | .int a,.int b => a == b
 | .str a,.str b => a == b
 | _,_ => false
theorem CJ {A : Around} {s : Shared} {y x : V} {u v : Value} (ry : RelV y u) (rx : RelV x v) (fy : iN y = true) (fx : iN x = true) : SeqAt.EqAt A s u v (BH y x) := by
 cases y with
 | non =>
  cases ry
  cases x with
  | non => cases rx; exact SeqAt.EqAt.same _
  | bl b => cases rx; exact SeqAt.EqAt.none_bool b
  | int b => obtain ⟨t,rfl⟩ := rx; exact SeqAt.EqAt.none_int b t
  | str b => obtain ⟨t,rfl⟩ := rx; exact SeqAt.EqAt.none_str b t
  | _ => exact absurd (show false = true from fx) Bool.false_ne_true
 | bl a =>
  cases ry
  cases x with
  | non => cases rx; exact SeqAt.EqAt.bool_none a
  | bl b => cases rx; exact SeqAt.EqAt.bool_bool a b
  | int b => obtain ⟨t,rfl⟩ := rx; exact SeqAt.EqAt.bool_int a b t
  | str b => obtain ⟨t,rfl⟩ := rx; exact SeqAt.EqAt.bool_str a b t
  | _ => exact absurd (show false = true from fx) Bool.false_ne_true
 | int a =>
  obtain ⟨t',rfl⟩ := ry
  cases x with
  | non => cases rx; exact SeqAt.EqAt.int_none a t'
  | bl b => cases rx; exact SeqAt.EqAt.int_bool a t' b
  | int b => obtain ⟨t,rfl⟩ := rx; exact SeqAt.EqAt.int_int a t' b t
  | str b => obtain ⟨t,rfl⟩ := rx; exact SeqAt.EqAt.int_str a t' b t
  | _ => exact absurd (show false = true from fx) Bool.false_ne_true
 | str a =>
  obtain ⟨t',rfl⟩ := ry
  cases x with
  | non => cases rx; exact SeqAt.EqAt.str_none a t'
  | bl b => cases rx; exact SeqAt.EqAt.str_bool a t' b
  | int b => obtain ⟨t,rfl⟩ := rx; exact SeqAt.EqAt.str_int a t' b t
  | str b => obtain ⟨t,rfl⟩ := rx; exact SeqAt.EqAt.str_str a t' b t
  | _ => exact absurd (show false = true from fx) Bool.false_ne_true
 | _ => exact absurd (show false = true from fy) Bool.false_ne_true
def qX (x : V) (u : Value) : Bool := match u with
 | .none => BH .non x
 | .bool b => BH (.bl b) x
 | .int i _ => BH (.int i) x
 | .str z _ => BH (.str z) x
 | _ => false
theorem wk {x y : V} {u : Value} (r : RelV y u) (f : iN y = true) : qX x u = BH y x := by
 cases y with
 | non => cases r; rfl
 | bl b => cases r; rfl
 | int i => obtain ⟨t,rfl⟩ := r; rfl
 | str z => obtain ⟨t,rfl⟩ := r; rfl
 | _ => exact absurd (show false = true from f) Bool.false_ne_true
theorem iO {x : V} : ∀ {xs : List V} {us : List Value},Vals xs us → xs.all iN = true → us.any (qX x) = xs.any fun y => BH y x
 | _,_,.nil,_ => rfl
 | y :: xs,u :: us,.cons r t,f => by
  rw [List.all_cons,Bool.and_eq_true] at f
  rw [List.any_cons,List.any_cons,wk r f.1,iO t f.2]
theorem gk {A : Around} {s : Shared} {x : V} {v : Value} (rx : RelV x v) (fx : iN x = true) : ∀ {xs : List V} {us : List Value},Vals xs us → xs.all iN = true → ∀ u ∈ us,SeqAt.EqAt A s u v (qX x u)
 | _,_,.nil,_ => fun u hu => by cases hu
 | y :: xs,u :: us,.cons r t,f => fun u' hu => by
  rw [List.all_cons,Bool.and_eq_true] at f
  rcases List.mem_cons.mp hu with rfl | hu
  ·rw [wk r f.1]; exact CJ r rx f.1 fx
  ·exact gk rx fx t f.2 u' hu
def inV (x : V) (xs : List V) : Bool := xs.any fun y => BH y x
def Jf (K : PySem.W.Frag) (neg : Bool) : R2 := fun x y H Q => ∃ p xs,y = .ref p ∧ (aZ K H p xs ∨ bX K H p xs) ∧ iN x = true ∧ xs.all iN = true ∧ Q (.bl (if neg then !inV x xs else inV x xs)) H
theorem dB : iL X (compareOp .In) (Jf X.K false) := by
 intro pins s σ H x y v u Q I rx ry h
 obtain ⟨p,xs,rfl,hq,fx,fs,q⟩ := h
 cases ry
 rcases hq with hq | hq
 ·obtain ⟨its,r,pl,hz⟩ := I.list hq
  refine SeqAt.in_listAt (qX x) pl.isList (fun w hw => gk rx fx r fs w (by simpa using hw)) ⟨.bl _,H,I,rfl,?_⟩
  rw [show its.toArray.any (qX x) = its.any (qX x) by simp,iO r fs]
  exact q
 ·obtain ⟨its,r,pl,hz⟩ := I.tuple hq
  refine SeqAt.in_tupleAt (qX x) pl (fun w hw => gk rx fx r fs w (by simpa using hw)) ⟨.bl _,H,I,rfl,?_⟩
  rw [show its.toArray.any (qX x) = its.any (qX x) by simp,iO r fs]
  exact q
theorem dU : iL X (compareOp .NotIn) (Jf X.K true) := by
 intro pins s σ H x y v u Q I rx ry h
 obtain ⟨p,xs,rfl,hq,fx,fs,q⟩ := h
 cases ry
 rcases hq with hq | hq
 ·obtain ⟨its,r,pl,hz⟩ := I.list hq
  refine SeqAt.notIn_listAt (qX x) pl.isList (fun w hw => gk rx fx r fs w (by simpa using hw)) ⟨.bl _,H,I,rfl,?_⟩
  rw [show its.toArray.any (qX x) = its.any (qX x) by simp,iO r fs]
  exact q
 ·obtain ⟨its,r,pl,hz⟩ := I.tuple hq
  refine SeqAt.notIn_tupleAt (qX x) pl (fun w hw => gk rx fx r fs w (by simpa using hw)) ⟨.bl _,H,I,rfl,?_⟩
  rw [show its.toArray.any (qX x) = its.any (qX x) by simp,iO r fs]
  exact q
theorem aX : eI X (.builtin "len") (fun xs H Q => ∃ p ys,xs = [.ref p] ∧ (aZ X.K H p ys ∨ bX X.K H p ys) ∧ Q (.int ys.length) H) := by
 intro pins s σ H xs us Q I r h
 obtain ⟨p,ys,rfl,hq,q⟩ := h
 obtain ⟨u,rfl,rx⟩ := vals1 r
 cases rx
 have hn := ox
 rcases hq with hq | hq
 ·obtain ⟨its,r',pl,hz⟩ := I.list hq
  have hlen := r'.length
  exact Calls.call_len_list pl.isList (by simp only [List.size_toArray] <;> omega) ⟨.int ys.length,H,I.tok _,⟨s.toks + 1,by rw [List.size_toArray,hlen]⟩,q⟩
 ·obtain ⟨its,r',pl,hz⟩ := I.tuple hq
  have hlen := r'.length
  exact len_tuple pl (by simp only [List.size_toArray] <;> omega) ⟨.int ys.length,H,I.tok _,⟨s.toks + 1,by rw [List.size_toArray,hlen]⟩,q⟩
theorem cu : eI X (.type "list") (fun xs H Q => ∃ p ys,xs = [.ref p] ∧ (aZ X.K H p ys ∨ bX X.K H p ys) ∧ ∀ l,H l = none → Q (.ref l) (upd H l (.lst ys))) := by
 intro pins s σ H xs us Q I r h
 obtain ⟨p,ys,rfl,hq,q⟩ := h
 obtain ⟨u,rfl,rx⟩ := vals1 r
 cases rx
 have fin : ∀ (its : List Value),Vals ys its → ys.length ≤ sizeLine → ∀ (h' : Heap) (c' : Nat),(∀ b o',s.heap.get? b = some o' → h'.get? b = some o') →
   h'.get? s.heap.objs.size = some { cls := .type "list",dict := none,data := .seq its.toArray c',slots := #[] } → EP X pins σ Q (.ref s.heap.objs.size) { s with heap := h' } := fun its r' hz h' c' kp e =>
  ⟨.ref s.heap.objs.size,_,I.laid (t' := s.toks) kp (Nat.le_refl _) (show bz X.prog X.w _ h' _ (.lst ys) from ⟨hz,its,c',r',e⟩),rfl,q _ (I.hok.fresh (Nat.le_refl _))⟩
 rcases hq with hq | hq
 ·obtain ⟨its,r',pl,hz⟩ := I.list hq
  have hlen := r'.length
  obtain ⟨o,ho,hc,n,hd⟩ := pl.isList
  exact call_list_seq p (.inl rfl) ho hc hd (fun h' c' kp e => fin its r' hz h' c' kp e) (by simp only [List.size_toArray] <;> omega)
 ·obtain ⟨its,r',pl,hz⟩ := I.tuple hq
  have hlen := r'.length
  obtain ⟨o,ho,hc,n,hd⟩ := pl
  exact call_list_seq p (.inr rfl) ho hc hd (fun h' c' kp e => fin its r' hz h' c' kp e) (by simp only [List.size_toArray] <;> omega)
theorem eR : eI X (.type "tuple") (fun xs H Q => ∃ p ys,xs = [.ref p] ∧ ((aZ X.K H p ys ∧ ∀ l,H l = none → Q (.ref l) (upd H l (.tup ys))) ∨ (bX X.K H p ys ∧ Q (.ref p) H))) := by
 intro pins s σ H xs us Q I r h
 obtain ⟨p,ys,rfl,h⟩ := h
 obtain ⟨u,rfl,rx⟩ := vals1 r
 cases rx
 rcases h with ⟨hq,q⟩ | ⟨hq,q⟩
 ·obtain ⟨its,r',pl,hz⟩ := I.list hq
  have hlen := r'.length
  refine call_tuple_list pl.isList (fun h' kp => ?_) (by simp only [List.size_toArray] <;> omega)
  have I1 : Inv X pins σ H { s with heap := h' } := I.kept (t' := s.toks) kp
  have I2 : Inv X pins σ (upd H h'.objs.size (.tup ys)) { s with heap := h'.push { cls := .type "tuple",data := .seq its.toArray } } :=
   I1.laid (t' := s.toks) (fun b o e => Heap.get?_push_of_some _ e) (Nat.le_refl _) (show bz X.prog X.w _ _ _ (.tup ys) from ⟨hz,its,r',IsTup.new _ _⟩)
  exact ⟨.ref h'.objs.size,_,I2,rfl,q _ (I1.hok.fresh (Nat.le_refl _))⟩
 ·obtain ⟨its,r',pl,hz⟩ := I.tuple hq
  exact call_tuple_same pl ⟨.ref p,H,I,rfl,q⟩
def J5 (K : PySem.W.Frag) (T : String) (x : V) (H : Hp) : Prop := match x with
 | .str _ => T = "str"
 | .int _ => T = "int"
 | .ref p => (T = "list" ∧ ∃ xs,aZ K H p xs) ∨ (T = "tuple" ∧ ∃ o,K.lookup p = some o ∧ o.cls = .type "tuple" ∧ o.dict = none) ∨
   (T = "dict" ∧ ((∃ kvs,H p = some (.dK kvs)) ∨ ∃ kvs,H p = some (.dT kvs))) ∨ (T = "set" ∧ ∃ S n,H p = some (.set S n))
 | _ => False
theorem wm {pins : List (Addr × Obj)} {σ : St} {H : Hp} {s : Shared} {T : String} {x : V} {v : Value} (I : Inv X pins σ H s) (r : RelV x v) (ty : J5 X.K T x H) :
  s.TypeIs v T ∧ ∀ a,v = .ref a → ∃ ob,s.heap.get? a = some ob ∧ ob.dict = none := by
 cases x with
 | str z =>
  obtain ⟨t,rfl⟩ := r
  cases (show T = "str" from ty)
  exact ⟨typeIs_str s z t,fun _ e => nomatch e⟩
 | int i =>
  obtain ⟨t,rfl⟩ := r
  cases (show T = "int" from ty)
  exact ⟨typeIs_int s i t,fun _ e => nomatch e⟩
 | ref p =>
  cases r
  rcases ty with ⟨rfl,xs,hq⟩ | ⟨rfl,o,hk,hc,hd⟩ | ⟨rfl,hk⟩ | ⟨rfl,S,n,hk⟩
  ·obtain ⟨its,_,pl,_⟩ := I.list hq
   refine ⟨pl.isList.typeIs,fun a e => ?_⟩
   cases e
   obtain ⟨o,n,e,c,hd,_⟩ := pl
   exact ⟨o,e,hd⟩
  ·refine ⟨⟨o,I.e6 p o hk,hc⟩,fun a e => ?_⟩
   cases e
   exact ⟨o,I.e6 _ o hk,hd⟩
  ·have z : ∃ o,s.heap.get? p = some o ∧ o.ExactDict := by
    rcases hk with ⟨kvs,hk⟩ | ⟨kvs,hk⟩
    ·obtain ⟨_,_,_,_,o,_,_,e,ex,_⟩ := I.hok p _ hk
     exact ⟨o,e,ex⟩
    ·obtain ⟨_,_,_,_,o,_,_,e,ex,_⟩ := I.hok p _ hk
     exact ⟨o,e,ex⟩
   obtain ⟨o,e,ex⟩ := z
   refine ⟨⟨o,e,ex.1⟩,fun a e2 => ?_⟩
   cases e2
   exact ⟨o,e,ex.2.1⟩
  ·obtain ⟨o,_,_,_,e,ex,_⟩ := I.hok p _ hk
   refine ⟨⟨o,e,ex.1⟩,fun a e2 => ?_⟩
   cases e2
   exact ⟨o,e,ex.2.1⟩
 | _ => exact False.elim ty
def J6 (K : PySem.W.Frag) (T : String) (r : V → List V → Hp → VK → Prop) (to : TE) : TE := fun σ H Q => to σ H fun x H1 => J5 K T x H1 ∧ r x [] H1 Q
def XS (K : PySem.W.Frag) (T : String) (r : V → List V → Hp → VK → Prop) (to : TE) (t : TA) : TE := fun σ H Q => to σ H fun x H1 => J5 K T x H1 ∧ t σ H1 fun xs H2 => r x xs H2 Q
variable {o e : Expr} {es : List Expr} {to : TE} {t : TA} {name : Str} {apos cpos : Pos} {T id : String} {r : V → List V → Hp → VK → Prop}
theorem wo (pa : PlainAttrs T) (slot : Slot T name id) (hty : typeOf (.builtin id) = pure (.type "method_descriptor")) (hm : J3 X id r) (ho : PE X o to)
  (hbase : attributeBase o name X.env (eval o X.env) = eval o X.env := by rfl) (hline : (apos.endLine == cpos.line) = true := by rfl) : PE X (.Call (.Attribute o name apos) [] [] cpos) (J6 X.K T r to) := by
 intro pins s σ H Q I h
 refine wpAny_Call_method0_late hbase hline (bO (ho pins s σ H _ I h) fun v s1 ⟨x,H1,I1,r1,ty,q1⟩ => ?_)
 obtain ⟨h1,h2⟩ := wm I1 r1 ty
 exact ⟨T,id,pa,slot,hty,h1,h2,Calls.callWith_builtin rfl (PySem.evalArgs_none (hm pins s1 σ H1 x [] v [] Q I1 r1 .nil q1))⟩
theorem mJ (pa : PlainAttrs T) (slot : Slot T name id) (hty : typeOf (.builtin id) = pure (.type "method_descriptor")) (hm : J3 X id r) (ho : PE X o to) (ha : PA X (e :: es) t)
  (hbase : attributeBase o name X.env (eval o X.env) = eval o X.env := by rfl)
  (hfew : ((backTo cpos (starEach (e :: es) X.env)).all (fun x => !x.1) && (backToKw cpos (keywordEach [] X.env)).all (fun x => x.1.isSome)
   && decide ((e :: es).length + ([] : List Keyword).length + (if ([] : List Keyword).isEmpty then 0 else 1) < 30)) = true := by rfl)
  (hline : (apos.endLine == cpos.line) = true := by rfl) (hs : starEach (e :: es) X.env = (false,eval e X.env) :: starEach es X.env := by rfl) (hplain : (backTo cpos (starEach es X.env)).any (·.1) = false := by rfl) :
  PE X (.Call (.Attribute o name apos) (e :: es) [] cpos) (XS X.K T r to t) := by
 intro pins s σ H Q I h
 refine wpAny_Call_method_late hbase hfew hline rfl (bO (ho pins s σ H _ I h) fun v s1 ⟨x,H1,I1,r1,ty,q1⟩ => ?_)
 obtain ⟨h1,h2⟩ := wm I1 r1 ty
 refine ⟨T,id,pa,slot,hty,h1,h2,?_⟩
 have hA := ha cpos pins s1 σ H1 _ I1 q1
 rw [hs] at hA ⊢
 refine Calls.callWith_builtin (by show (false || (backTo cpos (starEach es X.env)).any (·.1)) = false; rw [hplain] <;> rfl) (Calls.evalArgs_plain ?_)
 exact bO hA fun us s2 ⟨vs,H2,I2,r2,q2⟩ => hm pins s2 σ H2 x vs v us Q I2 r1 r2 q2
/- xs.append(e),list.index on a module's tuple .. are J3 facts of 06m -/
end
def V4 (X : Cx) (id : String) (r : V → List V → Hp → VK → Prop) : Prop :=
 ∀ (pins : List (Addr × Obj)) (s : Shared) (σ : St) (H : Hp) (x : V) (xs : List V) (v : Value) (us : List Value) (Q : VK),Inv X pins σ H s → RelV x v → Vals xs us → r x xs H Q →
  wpAny (model X.prog X.w) X.A (call (.builtin id) (v :: us)) (EP X pins σ Q) X.xe s
theorem Vals.one : ∀ {x : V} {us : List Value},Vals [x] us → ∃ u,us = [u] ∧ RelV x u
 | _,_,.cons r .nil => ⟨_,rfl,r⟩
theorem Vals.zero : ∀ {us : List Value},Vals [] us → us = []
 | _,.nil => rfl
theorem Vals.dropLast {xs : List V} {us : List Value} (h : Vals xs us) : Vals xs.dropLast us.dropLast := by
 induction h with
 | nil => exact .nil
 | cons r t ih =>
  cases t with
  | nil => exact .nil
  | cons q t' => exact .cons r ih
theorem Vals.rep {xs : List V} {us : List Value} (h : Vals xs us) : ∀ k : Nat,Vals (List.replicate k xs).flatten (List.replicate k us).flatten
 | 0 => .nil
 | k + 1 => by
  rw [List.replicate_succ,List.replicate_succ,List.flatten_cons,List.flatten_cons]
  exact Vals.append h (Vals.rep h k)
theorem qY {α : Type} (l : List α) : l.eraseIdx (l.length - 1) = l.dropLast := by
 induction l with
 | nil => rfl
 | cons a r ih =>
  cases r with
  | nil => rfl
  | cons b r =>
   have e : (a :: b :: r).length - 1 = ((b :: r).length - 1) + 1 := by
    have h1 : (a :: b :: r).length = r.length + 2 := rfl
    have h2 : (b :: r).length = r.length + 1 := rfl
    omega
   rw [e,List.eraseIdx_cons_succ,ih]
   all_goals rfl
theorem foldl_rep (its : List Value) : ∀ (k : Nat) (acc : List Value),
  List.foldl (fun x1 x2 => x1 ++ x2) acc.toArray (List.replicate k its.toArray) = (acc ++ (List.replicate k its).flatten).toArray
 | 0,acc => by simp
 | k + 1,acc => by
  have e : acc.toArray ++ its.toArray = (acc ++ its).toArray := by simp
  have e2 : (acc ++ its) ++ (List.replicate k its).flatten = acc ++ (List.replicate (k + 1) its).flatten := by
   rw [List.replicate_succ,List.flatten_cons,List.append_assoc]
  rw [← e2,← foldl_rep its k (acc ++ its),← e,List.replicate_succ,List.foldl_cons]
section
variable {X : Cx} {pins : List (Addr × Obj)} {σ : St} {H : Hp} {s : Shared} {l b : Addr} {xs ys zs : List V}
theorem Inv.EK {its its' : List Value} {n : Nat} {f : Array Value → Array Value} {t' : Nat} (I : Inv X pins σ H s) (hH : H l = some (.lst xs))
  (e : s.heap.get? l = some { cls := .type "list",data := .seq its.toArray n }) (hf : f its.toArray = its'.toArray) (hv : Vals ys its') (hz : ys.length ≤ sizeLine) :
  Inv X pins σ (upd H l (.lst ys)) { s with heap := s.heap.update l (Obj.mapSeq f),toks := t' } := by
 have q := PySem.IsL.update e f
 rw [hf] at q
 refine I.write (x := l) (e := l) (by rw [hH]; exact trivial) (.inl rfl) (fun b' u hb hu => (Heap.get?_update_other s.heap (Obj.mapSeq f) (Ne.symm hb)).trans hu) ⟨_,q⟩ ?_
 exact ⟨hz,its',_,hv,q⟩
theorem Inv.zB {its : List Value} {t' : Nat} (I : Inv X pins σ H s) (hv : Vals ys its) (hz : ys.length ≤ sizeLine) :
  Inv X pins σ (upd H s.heap.objs.size (.lst ys)) { s with heap := s.heap.push { cls := .type "list",data := .seq its.toArray },toks := t' } :=
 I.laid (fun _ _ q => Heap.get?_push_of_some _ q) (Nat.le_refl _) ⟨hz,its,0,hv,Heap.get?_push_size _ rfl⟩
theorem Inv.fresh (I : Inv X pins σ H s) : H s.heap.objs.size = none := I.hok.fresh (Nat.le_refl _)
theorem Inv.wq (I : Inv X pins σ H s) (hH : H l = some (.lst xs)) : xs.length ≤ sizeLine ∧ ∃ (its : List Value) (n : Nat),Vals xs its ∧ xs.length = its.length ∧ s.heap.get? l = some { cls := .type "list",data := .seq its.toArray n } := by
 obtain ⟨z,its,n,r,e⟩ := I.hok l _ hH
 exact ⟨z,its,n,r,r.length,e⟩
theorem wt {n : Nat} (h : n ≤ sizeLine) : Builtin.List.listTooLong n = false := by
 unfold Builtin.List.listTooLong
 exact decide_eq_false (by omega)
end
section
variable {X : Cx}
def zC : V → List V → Hp → VK → Prop := fun x vs H Q => ∃ l xs y,x = .ref l ∧ vs = [y] ∧ H l = some (.lst xs) ∧ xs.length < sizeLine ∧ Q .non (upd H l (.lst (xs ++ [y])))
theorem dh : V4 X "list.append" zC := by
 intro pins s σ H x vs v us Q I rx rv h
 obtain ⟨l,xs,y,rfl,rfl,hH,hz,q⟩ := h
 cases rx
 obtain ⟨u,rfl,ru⟩ := rv.one
 obtain ⟨z,its,n,r,hl,e⟩ := I.wq hH
 refine call_meets F.slot_list_append ⟨_,e,rfl⟩ F.entry_list_append (F.args_list_append_2 _ _) (PySem.list_append l its.toArray n u (by rw [List.size_toArray]; omega)) ⟨e,?_⟩
 refine ⟨.non,_,I.EK (its' := its ++ [u]) hH e (by simp) (r.append (.cons ru .nil)) ?_,rfl,q⟩
 rw [List.length_append,List.length_singleton]
 omega
def J7 : V → List V → Hp → VK → Prop := fun x vs H Q => ∃ l xs y,x = .ref l ∧ vs = [] ∧ H l = some (.lst xs) ∧ xs[xs.length - 1]? = some y ∧ Q y (upd H l (.lst xs.dropLast))
theorem wu : V4 X "list.pop" J7 := by
 intro pins s σ H x vs v us Q I rx rv h
 obtain ⟨l,xs,y,rfl,rfl,hH,hy,q⟩ := h
 cases rx
 have hus := rv.zero
 subst hus
 obtain ⟨z,its,n,r,hl,e⟩ := I.wq hH
 obtain ⟨u,hu,ru⟩ := r.get hy
 have hy' : its.toArray[its.toArray.size - 1]? = some u := by
  show its.toArray[its.length - 1]? = some u
  rw [← Array.getElem?_toList,← hl]
  exact hu
 refine call_meets F.slot_list_pop ⟨_,e,rfl⟩ F.entry_list_pop (F.args_list_pop_1 _) (MeetsSeq.list_pop_last l its.toArray n u hy' (by rw [List.size_toArray]; omega)) ⟨e,?_⟩
 refine ⟨y,_,I.EK (its' := its.dropLast) hH e ?_ r.dropLast ?_,ru,q⟩
 ·show its.toArray.eraseIdxIfInBounds (its.toArray.size - 1) = its.dropLast.toArray
  rw [List.size_toArray,List.eraseIdxIfInBounds_toArray,qY]
 ·rw [List.length_dropLast]
  omega
def J8 : R2 := fun x y H Q => ∃ l b xs zs,x = .ref l ∧ y = .ref b ∧ H l = some (.lst xs) ∧ H b = some (.lst zs) ∧ xs.length + zs.length ≤ sizeLine ∧ ∀ p,H p = none → Q (.ref p) (upd H p (.lst (xs ++ zs)))
theorem wx : iL X (binaryOp .Add) J8 := by
 intro pins s σ H x y v u Q I rx ry h
 obtain ⟨l,b,xs,zs,rfl,rfl,hH,hB,hz,q⟩ := h
 cases rx
 cases ry
 obtain ⟨z,its,n,r,hl,e⟩ := I.wq hH
 obtain ⟨z2,its2,n2,r2,hl2,e2⟩ := I.wq hB
 refine PySem.P.add_list e e2 ?_ (by rw [List.size_toArray,List.size_toArray]; omega)
 have ea : its.toArray ++ its2.toArray = (its ++ its2).toArray := by simp
 rw [ea]
 exact ⟨.ref _,_,I.zB (t' := s.toks) (r.append r2) (by rw [List.length_append]; omega),rfl,q _ I.fresh⟩
def J9 : R2 := fun x y H Q => ∃ l k xs,x = .ref l ∧ y = .int k ∧ H l = some (.lst xs) ∧ -(2 ^ 63) ≤ k ∧ k < 2 ^ 63 ∧ xs.length * k.toNat ≤ sizeLine ∧
 ∀ p,H p = none → Q (.ref p) (upd H p (.lst (List.replicate k.toNat xs).flatten))
theorem len_rep {α : Type} (xs : List α) (k : Nat) : (List.replicate k xs).flatten.length = k * xs.length := by
 induction k with
 | zero => simp
 | succ k ih => rw [List.replicate_succ,List.flatten_cons,List.length_append,ih,Nat.succ_mul,Nat.add_comm]
theorem CK : iL X (binaryOp .Mult) J9 := by
 intro pins s σ H x y v u Q I rx ry h
 obtain ⟨l,k,xs,rfl,rfl,hH,h1,h2,hz,q⟩ := h
 cases rx
 obtain ⟨t,rfl⟩ := ry
 obtain ⟨z,its,n,r,hl,e⟩ := I.wq hH
 have hlen : its.toArray.size * k.toNat ≤ sizeLine := by rw [List.size_toArray,← hl]; exact hz
 have hcap : ¬ its.toArray.size * k.toNat > (2 ^ 63 - 1) / 8 := by
  have : (sizeLine : Nat) ≤ (2 ^ 63 - 1) / 8 := by decide
  omega
 have hfit : ¬ (!Builtin.List.listFitsIndex k) = true := by
  rw [fitsIndex_both h1 h2]
  exact Bool.false_ne_true
 have EL : ¬ Builtin.List.listTooLong (its.toArray.size * k.toNat) = true := by
  rw [wt hlen]
  exact Bool.false_ne_true
 have hnew : List.foldl (fun x1 x2 => x1 ++ x2) #[] (List.replicate (if its.toArray.isEmpty = true then 0 else k.toNat) its.toArray) = (List.replicate k.toNat its).flatten.toArray := by
  have f0 : ∀ m : Nat,List.foldl (fun x1 x2 => x1 ++ x2) #[] (List.replicate m its.toArray) = (List.replicate m its).flatten.toArray := fun m => by
   have := foldl_rep its m []
   rw [List.nil_append] at this
   exact this
  rw [f0]
  cases its with
  | nil => simp
  | cons a r' => rw [if_neg (by simp)]
 refine wpAny_binaryOp_repeat_ref (T := "list") (U := "int") (by decide) ⟨_,e,rfl⟩ (fun s' => typeIs_int s' k t) noFill_list_mul F.fills_int_mul F.slot_int_rmul repeat_list F.slot_int_index.lookup
  (call_meets F.slot_int_rmul (typeIs_int s k t) F.entry_int_rmul (F.args_int_rmul_2 _ _) (int___rmul___int_list k t l its.toArray n)
   ⟨e,rfl,⟨_,e,rfl⟩,call_meets F.slot_list_mul ⟨_,e,rfl⟩ F.entry_list_mul (F.args_list_mul_2 _ _) (AutoListH.list___mul___list_int_3 l its.toArray n k t hfit hcap EL) ⟨e,?_⟩⟩)
 rw [hnew]
 exact ⟨.ref _,_,I.zB (t' := s.toks) (r.rep k.toNat) (by rw [len_rep,Nat.mul_comm]; exact hz),rfl,q _ I.fresh⟩
end
section
variable {prog : Program} {w : World} {A : Around} {E : Value → Shared → Prop} {s : Shared}
set_option maxRecDepth 100000 in
end
section
variable {X : Cx}
end
section
variable {κ : Type} [DecidableEq κ]
def cC (kvs : List (κ × V)) (k : κ) : Option V := (kvs.find? fun kv => decide (kv.1 = k)).map (·.2)
def putK (kvs : List (κ × V)) (k : κ) (v : V) : List (κ × V) :=
 if (kvs.any fun kv => decide (kv.1 = k)) = true then kvs.map (fun kv => if kv.1 = k then (kv.1,v) else kv) else kvs ++ [(k,v)]
theorem cw {p : κ × V} {r : List (κ × V)} {k : κ} (e : p.1 = k) : cC (p :: r) k = some p.2 := by simp [cC,List.find?_cons,e]
theorem cy {p : κ × V} {r : List (κ × V)} {k : κ} (e : ¬ p.1 = k) : cC (p :: r) k = cC r k := by simp [cC,List.find?_cons,e]
theorem d9 (k : κ) : ∀ kvs : List (κ × V),(kvs.any fun kv => decide (kv.1 = k)) = (cC kvs k).isSome
 | [] => rfl
 | p :: r => by
  rw [List.any_cons]
  by_cases e : p.1 = k
  ·simp only [cw e,decide_eq_true e,Bool.true_or,Option.isSome_some]
  ·rw [cy e,decide_eq_false e,Bool.false_or]; exact d9 k r
theorem pR (k j : κ) (y : V) : ∀ kvs : List (κ × V),cC (kvs.map fun kv => if kv.1 = k then (kv.1,y) else kv) j = (cC kvs j).map fun x => if j = k then y else x
 | [] => rfl
 | p :: r => by
  have ih := pR k j y r
  rw [List.map_cons]
  by_cases h : p.1 = k
  ·rw [if_pos h]
   by_cases e : p.1 = j
   ·rw [cw (p := (p.1,y)) e,cw e,Option.map_some,if_pos (e.symm.trans h)]
   ·rw [cy (p := (p.1,y)) e,cy e,ih]
  ·rw [if_neg h]
   by_cases e : p.1 = j
   ·rw [cw (p := p) e,cw e,Option.map_some,if_neg (fun z => h (e.trans z))]
   ·rw [cy (p := p) e,cy e,ih]
theorem mK (k j : κ) (y : V) : ∀ kvs : List (κ × V),cC kvs k = none → cC (kvs ++ [(k,y)]) j = if j = k then some y else cC kvs j
 | [],_ => by
  by_cases e : k = j
  ·rw [if_pos e.symm]; exact cw (p := (k,y)) e
  ·rw [if_neg (fun z => e z.symm)]; exact cy (p := (k,y)) e
 | p :: r,hn => by
  rw [List.cons_append]
  have hk : ¬ p.1 = k := fun z => by rw [cw z] at hn; cases hn
  rw [cy hk] at hn
  have ih := mK k j y r hn
  by_cases e : p.1 = j
  ·rw [cw e,cw e,if_neg (fun z => hk (e.trans z))]
  ·rw [cy e,cy e,ih]
theorem pS (kvs : List (κ × V)) (k j : κ) (y : V) : cC (putK kvs k y) j = if j = k then some y else cC kvs j := by
 unfold putK
 by_cases a : (kvs.any fun kv => decide (kv.1 = k)) = true
 ·rw [if_pos a,pR]
  rw [d9] at a
  by_cases e : j = k
  ·obtain ⟨x,hx⟩ := Option.isSome_iff_exists.mp a
   rw [if_pos e,e,hx,Option.map_some,if_pos rfl]
  ·rw [if_neg e]
   cases cC kvs j with
   | none => rfl
   | some x => rw [Option.map_some,if_neg e]
 ·rw [if_neg a]
  refine mK k j y kvs ?_
  rw [d9] at a
  cases q : cC kvs k with
  | none => rfl
  | some x => rw [q] at a; exact (a rfl).elim
theorem cQ (kvs : List (κ × V)) (k : κ) (v : V) : (putK kvs k v).length ≤ kvs.length + 1 := by
 unfold putK
 split
 ·rw [List.length_map]; omega
 ·rw [List.length_append,List.length_cons,List.length_nil]; omega
theorem ko {kvs : List (κ × V)} {k : κ} (v : V) (h : cC kvs k = none) : putK kvs k v = kvs ++ [(k,v)] := by
 unfold putK
 rw [d9,h]
 exact if_neg (by decide)
theorem e8.eU {o : Option V} {u : Option Value} (r : e8 o u) : o.isSome = u.isSome := by
 cases o with
 | none => cases u with
  | none => rfl
  | some _ => exact (show False from r).elim
 | some _ => cases u with
  | none => exact (show False from r).elim
  | some _ => rfl
theorem e8.getD {o : Option V} {u : Option Value} {d : V} {d' : Value} (r : e8 o u) (rd : RelV d d') : RelV (o.getD d) (u.getD d') := by
 cases o with
 | none => cases u with
  | none => exact rd
  | some _ => exact (show False from r).elim
 | some _ => cases u with
  | none => exact (show False from r).elim
  | some _ => exact r
theorem KV.val {kvs : List (κ × V)} {vs : List (κ × Value)} (r : KV kvs vs) (k : κ) : e8 (cC kvs k) (valueAt vs k) := by
 unfold KV at r
 induction r with
 | nil => exact True.intro
 | @cons p q ps qs h t ih =>
  obtain ⟨h1,h2⟩ := h
  by_cases e : p.1 = k
  ·have e' : q.1 = k := h1.symm.trans e
   have b : valueAt (q :: qs) k = some q.2 := by simp [valueAt,List.find?_cons,e']
   rw [cw e,b]; exact h2
  ·have e' : ¬ q.1 = k := fun z => e (h1.trans z)
   have b : valueAt (q :: qs) k = valueAt qs k := by simp [valueAt,List.find?_cons,e']
   rw [cy e,b]; exact ih
theorem KV.any {kvs : List (κ × V)} {vs : List (κ × Value)} (r : KV kvs vs) (k : κ) : (kvs.any fun kv => decide (kv.1 = k)) = vs.any fun kv => decide (kv.1 = k) := by
 unfold KV at r
 induction r with
 | nil => rfl
 | cons h t ih => rw [List.any_cons,List.any_cons,ih,h.1]
theorem KV.repl {kvs : List (κ × V)} {vs : List (κ × Value)} (r : KV kvs vs) (k : κ) {y : V} {u : Value} (ry : RelV y u) :
  KV (kvs.map fun kv => if kv.1 = k then (kv.1,y) else kv) (vs.map fun kv => if kv.1 = k then (kv.1,u) else kv) := by
 unfold KV at r ⊢
 induction r with
 | nil => exact .nil
 | @cons p q ps qs h t ih =>
  rw [List.map_cons,List.map_cons]
  refine .cons ?_ ih
  obtain ⟨h1,h2⟩ := h
  by_cases e : p.1 = k
  ·rw [if_pos e,if_pos (h1.symm.trans e)]; exact ⟨h1,ry⟩
  ·rw [if_neg e,if_neg (fun z => e (h1.trans z))]; exact ⟨h1,h2⟩
theorem KV.put {kvs : List (κ × V)} {vs : List (κ × Value)} (r : KV kvs vs) (k : κ) {y : V} {u : Value} (ry : RelV y u) : KV (putK kvs k y) (stored vs k u) := by
 unfold putK stored
 rw [r.any k]
 by_cases e : (vs.any fun kv => decide (kv.1 = k)) = true
 ·rw [if_pos e,if_pos e]; exact r.repl k ry
 ·rw [if_neg e,if_neg e]; exact Paired.snoc r ⟨rfl,ry⟩
theorem KV.length {kvs : List (κ × V)} {vs : List (κ × Value)} (r : KV kvs vs) : kvs.length = vs.length := Paired.length r
end
theorem pT {P : Program} {w : World} {k : Key} {u : Value} (r : RelV (kV k) u) : (bH P w).is k u = true := by
 cases k with
 | inl i => obtain ⟨t,e⟩ := (show ∃ t,u = Value.int i t from r); subst e; exact pI P w i t
 | inr x => obtain ⟨t,e⟩ := (show ∃ t,u = Value.str x t from r); subst e; exact pJ P w x t
theorem mM {P : Program} {w : World} : ∀ {ks : List Key} {us : List Value},Vals (ks.map kV) us → ItemsAre (bH P w) ks us
 | [],_,r => by rw [List.map_nil] at r; cases r; exact .nil
 | k :: ks,_,r => by
  rw [List.map_cons] at r
  cases r with
  | cons h t => exact .cons (pT h) (mM t)
abbrev KT (H : Hp) : List (List Key × V) → List (List Key × Addr × Value) → Prop := Paired fun p q => p.1 = q.1 ∧ H q.2.1 = some (.tup (p.1.map kV)) ∧ RelV p.2 q.2.2
theorem KT.val {H : Hp} {kvs : List (List Key × V)} {xs : List (List Key × Addr × Value)} (r : KT H kvs xs) (k : List Key) : e8 (cC kvs k) ((atKey xs k).map (·.2)) := by
 induction r with
 | nil => exact True.intro
 | @cons p q ps qs h t ih =>
  obtain ⟨h1,_,h2⟩ := h
  by_cases e : p.1 = k
  ·have e' : q.1 = k := h1.symm.trans e
   have b : atKey (q :: qs) k = some q.2 := by simp [atKey,List.find?_cons,e']
   rw [cw e,b]; exact h2
  ·have e' : ¬ q.1 = k := fun z => e (h1.trans z)
   have b : atKey (q :: qs) k = atKey qs k := by simp [atKey,List.find?_cons,e']
   rw [cy e,b]; exact ih
theorem KT.repl {H : Hp} {kvs : List (List Key × V)} {xs : List (List Key × Addr × Value)} (r : KT H kvs xs) (k : List Key) {y : V} {u : Value} (ry : RelV y u) :
  KT H (kvs.map fun kv => if kv.1 = k then (kv.1,y) else kv) (xs.map (putAt k u)) := by
 induction r with
 | nil => exact .nil
 | @cons p q ps qs h t ih =>
  rw [List.map_cons,List.map_cons]
  refine .cons ?_ ih
  obtain ⟨h1,h2,h3⟩ := h
  unfold putAt
  by_cases e : p.1 = k
  ·rw [if_pos e,if_pos (h1.symm.trans e)]; exact ⟨h1,h2,ry⟩
  ·rw [if_neg e,if_neg (fun z => e (h1.trans z))]; exact ⟨h1,h2,h3⟩
theorem KT.put {H : Hp} {kvs : List (List Key × V)} {xs : List (List Key × Addr × Value)} (r : KT H kvs xs) (k : List Key) {b : Addr} {y : V} {u : Value} (hb : H b = some (.tup (k.map kV))) (ry : RelV y u) :
  KT H (putK kvs k y) (storedH xs k b u) := by
 have e : (kvs.any fun kv => decide (kv.1 = k)) = (atKey xs k).isSome := by
  rw [d9,(r.val k).eU,Option.isSome_map]
 unfold putK storedH
 rw [e]
 by_cases q : (atKey xs k).isSome = true
 ·rw [if_pos q,if_pos q]; exact r.repl k ry
 ·rw [if_neg q,if_neg q]; exact Paired.snoc r ⟨rfl,hb,ry⟩
theorem KT.keeps {H H' : Hp} {kvs : List (List Key × V)} {xs : List (List Key × Addr × Value)} (r : KT H kvs xs) (ht : ∀ b ys,H b = some (.tup ys) → H' b = some (.tup ys)) : KT H' kvs xs :=
 Paired.Ci r fun _ _ z => ⟨z.1,ht _ _ z.2.1,z.2.2⟩
section
variable {P : Program} {w : World} {H : Hp} {h : Heap} {a : Addr}
theorem BI {u : HO} (ok : fY P w H h) (e : Rd H a u) : bz P w H h a u := e.ok ok
theorem mO {kvs : List (Key × V)} (ok : fY P w H h) (e : Rd H a (.dK kvs)) : kvs.length ≤ sizeLine ∧ (a == sysModules) = false ∧ ∃ vs,KV kvs vs ∧ h.DictOf (bH P w) a vs :=
 show bz P w H h a (.dK kvs) from BI ok e
theorem sQ {kvs : List (Key × V)} (ok : fY P w H h) (e : H a = some (.dK kvs)) : kvs.length ≤ sizeLine ∧ (a == sysModules) = false ∧ ∃ vs,KV kvs vs ∧ h.DictOf (bH P w) a vs := mO ok (.inl e)
theorem kr {ks : List Key} (ok : fY P w H h) (e : H a = some (.tup (ks.map kV))) : (tupleKind (bH P w)).is h ks a := by
 obtain ⟨_,its,r,o,h1,h2,n,h3⟩ := (show bz P w H h a (.tup (ks.map kV)) from ok a _ e)
 exact ⟨o,its.toArray,n,h1,h2,h3,by simpa using mM r⟩
theorem pU {kvs : List (List Key × V)} (ok : fY P w H h) (e : Rd H a (.dT kvs)) : kvs.length ≤ sizeLine ∧ (a == sysModules) = false ∧
  ∃ xs,KT H kvs xs ∧ h.DictOfH (tupleKind (bH P w)) a xs := by
 obtain ⟨z,y,xs,r,o,es,ep,h1,h2,h3,h4,h5⟩ := (show bz P w H h a (.dT kvs) from BI ok e)
 refine ⟨z,y,xs,r,o,es,ep,h1,h2,h3,h4,fun x hx => ?_,h5⟩
 have all : ∀ {l : List (List Key × V)} {m : List (List Key × Addr × Value)},KT H l m → ∀ x ∈ m,(tupleKind (bH P w)).is h x.1 x.2.1 := by
  intro l m q
  induction q with
  | nil => intro x hx; exact nomatch hx
  | @cons p q ps qs hq t ih =>
   intro x hx
   rcases List.mem_cons.mp hx with e | hx
   ·subst e
    exact kr ok (by rw [← hq.1]; exact hq.2.1)
   ·exact ih x hx
 exact all r x hx
theorem ER {kvs : List (List Key × V)} (ok : fY P w H h) (e : H a = some (.dT kvs)) : kvs.length ≤ sizeLine ∧ (a == sysModules) = false ∧
  ∃ xs,KT H kvs xs ∧ h.DictOfH (tupleKind (bH P w)) a xs := pU ok (.inl e)
end
def jm (H : Hp) (a : Addr) (y : V) (r : Option V) : Prop :=
 (∃ kvs k,Rd H a (.dK kvs) ∧ y = kV k ∧ r = cC kvs k) ∨ ∃ kvs k b,Rd H a (.dT kvs) ∧ y = .ref b ∧ H b = some (.tup (k.map kV)) ∧ r = cC kvs k
def ku (H : Hp) (a : Addr) (y v : V) (H' : Hp) : Prop :=
 (∃ kvs k,H a = some (.dK kvs) ∧ y = kV k ∧ kvs.length < sizeLine ∧ H' = upd H a (.dK (putK kvs k v))) ∨
 ∃ kvs k b,H a = some (.dT kvs) ∧ y = .ref b ∧ H b = some (.tup (k.map kV)) ∧ kvs.length < sizeLine ∧ H' = upd H a (.dT (putK kvs k v))
theorem jm.k {H : Hp} {a : Addr} {kvs : List (Key × V)} {k : Key} (e : H a = some (.dK kvs)) : jm H a (kV k) (cC kvs k) := .inl ⟨kvs,k,.inl e,rfl,rfl⟩
theorem ku.k {H : Hp} {a : Addr} {kvs : List (Key × V)} {k : Key} {v : V} (e : H a = some (.dK kvs)) (hl : kvs.length < sizeLine) : ku H a (kV k) v (upd H a (.dK (putK kvs k v))) := .inl ⟨kvs,k,e,rfl,hl,rfl⟩
section
variable {X : Cx} {pins : List (Addr × Obj)} {σ : St} {H : Hp} {s : Shared} {a : Addr} {y v : V} {u r : Value} {o : Option V} {A : Around} {E : Value → Shared → Prop}
theorem Inv.big (I : Inv X pins σ H s) : sysModules < s.heap.objs.size := by
 have h : mainGlobals < s.heap.objs.size := (I.mod.glob.keeps I.bk).lt
 exact Nat.lt_trans (by decide) h
theorem Ka {Q : Value → Shared → Prop} (hu : A.units + 1 < cLine) (I : Inv X pins σ H s) (g : jm H a y o) (ry : RelV y u) (h : ∀ s',Inv X pins σ H s' → Q (.bool o.isSome) s') :
  wpAny (model X.prog X.w) A (compareOp .In u (.ref a)) Q E s := by
 rcases g with ⟨kvs,k,e,ey,l⟩ | ⟨kvs,k,b,e,ey,eb,l⟩
 ·subst ey
  obtain ⟨z,hd,vs,rel,dd⟩ := mO I.hok e
  refine wpAny_in_of (pT ry) hd dd.mapOf ?_
  rw [← (rel.val k).eU,← l]
  exact h _ (I.tok _)
 ·subst ey
  cases (show u = Value.ref b from ry)
  obtain ⟨z,hd,xs,rel,dd⟩ := pU I.hok e
  refine wpAny_in_heap (tupleKind_room_in1 hu) (kr I.hok eb) hd dd ?_
  have q := (rel.val k).eU
  rw [Option.isSome_map] at q
  rw [← q,← l]
  exact h _ (I.tok _)
theorem zD {Q : Value → Shared → Prop} (hu : A.units + 1 < cLine) (I : Inv X pins σ H s) (g : jm H a y o) (ry : RelV y u) (h : ∀ s',Inv X pins σ H s' → Q (.bool (!o.isSome)) s') :
  wpAny (model X.prog X.w) A (compareOp .NotIn u (.ref a)) Q E s := by
 rcases g with ⟨kvs,k,e,ey,l⟩ | ⟨kvs,k,b,e,ey,eb,l⟩
 ·subst ey
  obtain ⟨z,hd,vs,rel,dd⟩ := mO I.hok e
  refine wpAny_notIn_of (pT ry) hd dd.mapOf ?_
  rw [← (rel.val k).eU,← l]
  exact h _ (I.tok _)
 ·subst ey
  cases (show u = Value.ref b from ry)
  obtain ⟨z,hd,xs,rel,dd⟩ := pU I.hok e
  refine wpAny_notIn_heap (tupleKind_room_in1 hu) (kr I.hok eb) hd dd ?_
  have q := (rel.val k).eU
  rw [Option.isSome_map] at q
  rw [← q,← l]
  exact h _ (I.tok _)
theorem sR {h' : Heap} {t' : Nat} {ob : HO} (I : Inv X pins σ H s) (mu : Ef (H a)) (hs : Heap.SameBut a s.heap h') (he : ∃ q,h'.get? a = some q) (new : bz X.prog X.w (upd H a ob) h' a ob) :
  Inv X pins σ (upd H a ob) { s with heap := h',toks := t' } :=
 I.write (x := a) (e := a) mu (.inl rfl) (fun b q hb z => (hs.2 b hb).trans z) he new
theorem wy {P : Program} {w : World} {H' : Hp} {h' : Heap} {kvs : List (Key × V)} {vs : List (Key × Value)} (z : kvs.length ≤ sizeLine) (hd : (a == sysModules) = false) (rel : KV kvs vs) (dd : h'.DictOf (bH P w) a vs) :
  bz P w H' h' a (.dK kvs) := ⟨z,hd,vs,rel,dd⟩
theorem uQ {H' : Hp} {Q : Unit → Shared → Prop} (hu : A.units + 1 < cLine) (I : Inv X pins σ H s) (g : ku H a y v H') (ry : RelV y u) (rv : RelV v r) (h : ∀ s',Inv X pins σ H' s' → Q () s') :
  wpAny (model X.prog X.w) A (setItem (.ref a) u r) Q E s := by
 rcases g with ⟨kvs,k,e,ey,l,eH⟩ | ⟨kvs,k,b,e,ey,eb,l,eH⟩
 ·subst ey eH
  obtain ⟨z,hd,vs,rel,dd⟩ := sQ I.hok e
  have hz : vs.length ≤ sizeLine := by rw [← rel.length]; exact z
  have hl : (putK kvs k v).length ≤ sizeLine := by have := cQ kvs k v; omega
  refine wpAny_setItem_pairs (hsz := hz) (pT ry) dd fun h' CL hs => h _ ?_
  have he : ∃ q,h'.get? a = some q := let ⟨q,_,_,hq,_⟩ := CL; ⟨q,hq⟩
  exact sR I (by rw [e]; exact True.intro) hs he (wy hl hd (rel.put k rv) CL)
 ·subst ey eH
  cases (show u = Value.ref b from ry)
  obtain ⟨z,hd,xs,rel,dd⟩ := ER I.hok e
  have hz : xs.length ≤ sizeLine := by rw [← Paired.length rel]; exact z
  have hl : (putK kvs k v).length ≤ sizeLine := by have := cQ kvs k v; omega
  refine wpAny_setItem_heap (hsz := hz) (tupleKind_room_in1 hu) (kr I.hok eb) dd fun h' CL hs => h _ ?_
  obtain ⟨q,es,ep,hq,h2,h3,h4,_,h5⟩ := CL
  refine sR I (by rw [e]; exact True.intro) hs ⟨q,hq⟩ ⟨hl,hd,_,(rel.put k eb rv).keeps fun c ys ec => ?_,q,es,ep,hq,h2,h3,h4,h5⟩
  rw [aw (cq ec e (fun z => nomatch z))]
  exact ec
end
section
variable {X : Cx} {pins : List (Addr × Obj)} {σ : St} {H : Hp} {s : Shared} {a : Addr} {kvs : List (Key × V)} {k : Key} {u : Value} {A : Around} {E : Value → Shared → Prop}
end
def EV (i : Expr) : Prop := ∀ ov iv,subscripted i false ov iv = operate [ov,iv] (getItem ov iv)
theorem zE {prog : Program} {w : World} {A : Around} {E : Value → Shared → Prop} {s : Shared} {env : Env} {value slice : Expr} {pos : Pos} {T id : String} {Q : Value → Shared → Prop}
  (hl : typeLookup (.type T) "__getitem__" = pure (some (.builtin id))) (hs : EV slice)
  (h : wpAny (model prog w) A (eval value env) (fun o s₁ => wpAny (model prog w) A (eval slice env) (fun i s₂ => s₂.TypeIs o T ∧ wpAny (model prog w) A (getItem o i) Q E s₂) E s₁) E s) :
  wpAny (model prog w) A (eval (.Subscript value slice pos) env) Q E s := by
 refine Subscript_ (wpAny_mono h (fun o s₁ h₁ => wpAny_mono h₁ (fun i s₂ h₂ => ?_) fun _ _ x => x) fun _ _ x => x)
 obtain ⟨hT,h₂⟩ := h₂
 unfold subscriptTail
 refine wpAny_bind ?_
 rw [getitemInPython_of_ne hT.not_modules]
 refine wpAny_bind (wpAny_specialOf hT hl ?_)
 have fin : wpAny (model prog w) A (subscripted slice false o i) (fun r s₃ => wpAny (model prog w) A (letTemporaryGo value o r >>= fun _ => pure r) Q E s₃) E s₂ := by
  rw [hs o i]
  exact wpAny_operating (wpAny_mono h₂ (fun r s₃ h₃ => wpAny_bind (wpAny_letTemporaryGo (wpAny_pure h₃))) fun _ _ x => x)
 first
  | exact wpAny_pure (wpAny_bind fin)
  | exact wpAny_bind (wpAny_pure (wpAny_bind fin))
  | exact wpAny_bind fin
def Kb (ty td : TE) : TE := fun σ H Q => ty σ H fun y H1 => td σ H1 fun x H2 => ∃ a o,x = .ref a ∧ jm H2 a y o ∧ Q (.bl o.isSome) H2
def zF (ty td : TE) : TE := fun σ H Q => ty σ H fun y H1 => td σ H1 fun x H2 => ∃ a o,x = .ref a ∧ jm H2 a y o ∧ Q (.bl (!o.isSome)) H2
def EW (td ty tv : TE) : TS := fun D σ H => tv σ H fun v H1 => td σ H1 fun x H2 => ty σ H2 fun y H3 => ∃ a H4,x = .ref a ∧ ku H3 a y v H4 ∧ D.nx σ H4
section
variable {X : Cx} {o i e value : Expr} {pos pos' tpos : Pos} {td ty tv : TE}
theorem CM (hu : X.A.units + 1 < cLine) (hi : PE X i ty) (ho : PE X o td) : PC X .In i o (Kb ty td) := by
 intro pins s σ H Q I h
 refine bO (hi pins s σ H _ I h) fun iv s1 ⟨y,H1,I1,ry,q1⟩ => bO (ho pins s1 σ H1 _ I1 q1) fun u s2 ⟨x,H2,I2,rx,a,ov,ex,g,q2⟩ => ?_
 subst ex
 obtain rfl : u = Value.ref a := rx
 exact Ka hu I2 g ry fun s3 I3 => ⟨.bl ov.isSome,H2,I3,rfl,q2⟩
theorem mQ (hu : X.A.units + 1 < cLine) (hi : PE X i ty) (ho : PE X o td) : PC X .NotIn i o (zF ty td) := by
 intro pins s σ H Q I h
 refine bO (hi pins s σ H _ I h) fun iv s1 ⟨y,H1,I1,ry,q1⟩ => bO (ho pins s1 σ H1 _ I1 q1) fun u s2 ⟨x,H2,I2,rx,a,ov,ex,g,q2⟩ => ?_
 subst ex
 obtain rfl : u = Value.ref a := rx
 exact zD hu I2 g ry fun s3 I3 => ⟨.bl (!ov.isSome),H2,I3,rfl,q2⟩
theorem fj (hu : X.A.units + 1 < cLine) (ho : PE X o td) (hi : PE X i ty) (hv : PE X value tv) (hs : swapsWith value (some (.Subscript o i pos')) pos.line X.env = pure false) :
  PS X (.Assign [.Subscript o i pos'] value pos) (EW td ty tv) := by
 intro pins s σ H D I h
 refine wpAny_Assign_Subscript (bO (hv pins s σ H _ I h) fun r s1 ⟨v,H1,I1,rv,q1⟩ => bO (ho pins s1 σ H1 _ I1 q1) fun u s2 ⟨x,H2,I2,rx,q2⟩ => bO (hi pins s2 σ H2 _ I2 q2) fun iv s3 ⟨y,H3,I3,ry,a,H4,ex,g,q3⟩ => ?_) hs
 subst ex
 obtain rfl : u = Value.ref a := rx
 exact uQ hu I3 g ry rv fun s4 I4 => ⟨σ,H4,I4,q3⟩
end
theorem wz {P : Program} {w : World} {H : Hp} (h : Heap) (hb : sysModules < h.objs.size) : bz P w H (h.push { cls := .type "dict",data := .dict #[] }) h.objs.size (.dK []) :=
 ⟨Nat.zero_le _,beq_eq_false_iff_ne.mpr (Ne.symm (Nat.ne_of_lt hb)),[],.nil,Heap.DictOf.new h⟩
def CN : TE := fun _ H Q => ∀ p,H p = none → Q (.ref p) (upd H p (.dK []))
section
variable {X : Cx} {pos : Pos}
theorem gm : PE X (.Dict [] [] pos) CN := fun pins s σ H Q I h =>
 wpAny_Dict_empty ⟨.ref s.heap.objs.size,_,I.laid (a := s.heap.objs.size) (o := .dK []) (t' := s.toks) (fun _ _ q => Heap.get?_push_of_some _ q) (Nat.le_refl _) (wz s.heap I.big),rfl,h _ (I.hok.fresh (Nat.le_refl _))⟩
end
structure M2 (X : Cx) (o : Expr) (m : Str) (apos : Pos) (e f : Expr) (cpos : Pos) : Prop where
 base : attributeBase o m X.env (eval o X.env) = eval o X.env
 few : ((backTo cpos (starEach [e,f] X.env)).all (fun x => !x.1) && (backToKw cpos (keywordEach [] X.env)).all (fun x => x.1.isSome)
  && decide (([e,f] : List Expr).length + ([] : List Keyword).length + (if ([] : List Keyword).isEmpty then 0 else 1) < 30)) = true
 line : (apos.endLine == cpos.line) = true
 trees : backTo cpos (starEach [e,f] X.env) = [(false,eval e X.env),(false,eval f X.env)]
def V5 (H : Hp) (a : Addr) : Prop := (∃ kvs,Rd H a (.dK kvs)) ∨ ∃ kvs,Rd H a (.dT kvs)
theorem CO {X : Cx} {pins : List (Addr × Obj)} {σ : St} {H : Hp} {s : Shared} {a : Addr} (I : Inv X pins σ H s) (d : V5 H a) :
  s.TypeIs (.ref a) "dict" ∧ (∀ b,Value.ref a = .ref b → ∃ ob,s.heap.get? b = some ob ∧ ob.dict = none) ∧ (a == sysModules) = false := by
 rcases d with ⟨kvs,e⟩ | ⟨kvs,e⟩
 ·obtain ⟨_,hd,vs,_,dd⟩ := mO I.hok e
  refine ⟨dd.typeIs,fun b q => ?_,hd⟩
  cases q
  obtain ⟨ob,_,_,h1,h2,_⟩ := dd
  exact ⟨ob,h1,h2.2.1⟩
 ·obtain ⟨_,hd,xs,_,dd⟩ := pU I.hok e
  refine ⟨dd.typeIs,fun b q => ?_,hd⟩
  cases q
  obtain ⟨ob,_,_,h1,h2,_⟩ := dd
  exact ⟨ob,h1,h2.2.1⟩
section
variable {X : Cx} {pins : List (Addr × Obj)} {σ : St} {H : Hp} {s : Shared} {a : Addr} {y d : V} {u r : Value} {o : Option V} {A : Around} {E : Value → Shared → Prop}
theorem CP {Q : Value → Shared → Prop} (hu : A.units + 1 < cLine) (I : Inv X pins σ H s) (g : jm H a y o) (ry : RelV y u) (rd : RelV d r) (h : ∀ w' s',Inv X pins σ H s' → RelV (o.getD d) w' → Q w' s') :
  wpAny (model X.prog X.w) A (call (.builtin "dict.get") [.ref a,u,r]) Q E s := by
 rcases g with ⟨kvs,k,e,ey,l⟩ | ⟨kvs,k,b,e,ey,eb,l⟩
 ·subst ey
  obtain ⟨z,hd,vs,rel,dd⟩ := mO I.hok e
  refine call_meetsIn PySem.F.slot_dict_get dd.typeIs PySem.F.entry_dict_get (PySem.F.args_dict_get_3 _ _ _) (meets_dict_get_default (bH X.prog X.w) a (pT ry) hd r) ⟨_,dd.mapOf,h _ _ (I.tok _) ?_⟩
  rw [l]
  exact (rel.val k).getD rd
 ·subst ey
  cases (show u = Value.ref b from ry)
  obtain ⟨z,hd,xs,rel,dd⟩ := pU I.hok e
  refine call_meetsIn PySem.F.slot_dict_get dd.typeIs PySem.F.entry_dict_get (PySem.F.args_dict_get_3 _ _ _) (meetsH_dict_get_default (tupleKind (bH X.prog X.w)) a b hd r) ⟨tupleKind_room_in1 hu,k,xs,kr I.hok eb,dd,h _ _ (I.tok _) ?_⟩
  rw [l]
  exact (rel.val k).getD rd
end
def CQ (td ty tx : TE) : TE := fun σ H Q => td σ H fun x H1 => ∃ a,x = .ref a ∧ V5 H1 a ∧ ty σ H1 fun y H2 => tx σ H2 fun z H3 => ∃ o,jm H3 a y o ∧ Q (o.getD z) H3
section
variable {X : Cx} {o e f : Expr} {apos cpos : Pos} {td ty tx : TE}
theorem pV (hu : X.A.units + 1 < cLine) (ho : PE X o td) (he : PE X e ty) (hf : PE X f tx) (m : M2 X o "get" apos e f cpos) : PE X (.Call (.Attribute o "get" apos) [e,f] [] cpos) (CQ td ty tx) := by
 intro pins s σ H Q I h
 refine wpAny_Call_method m.base m.few m.line PySem.F.plainAttrs_dict PySem.F.slot_dict_get PySem.F.type_dict_get (bO (ho pins s σ H _ I h) fun u s1 ⟨x,H1,I1,rx,a,ex,d,q1⟩ => ?_)
 subst ex
 obtain rfl : u = Value.ref a := rx
 obtain ⟨t1,t2,_⟩ := CO I1 d
 refine ⟨t1,t2,?_⟩
 rw [m.trees]
 refine Calls.callWith_builtin rfl (Calls.evalArgs_plain (Calls.spliced_cons (bO (he pins s1 σ H1 _ I1 q1) fun iv s2 ⟨y,H2,I2,ry,q2⟩ =>
  Calls.spliced_cons (bO (hf pins s2 σ H2 _ I2 q2) fun fv s3 ⟨z,H3,I3,rz,ov,g,q3⟩ => Calls.spliced_nil ?_))))
 exact CP hu I3 g ry rz fun w' s4 I4 CH => ⟨_,H3,I4,CH,q3⟩
end
section
variable {X : Cx} {pins : List (Addr × Obj)} {σ : St} {H : Hp} {s : Shared} {a : Addr} {kvs : List (Key × V)} {A : Around} {E : Value → Shared → Prop}
theorem wA {Q : Value → Shared → Prop} (I : Inv X pins σ H s) (e : Rd H a (.dK kvs)) (h : ∀ p s',H p = none → Inv X pins σ (upd H p (.dK kvs)) s' → Q (.ref p) s') : wpAny (model X.prog X.w) A (call (.type "dict") [.ref a]) Q E s := by
 obtain ⟨z,hd,vs,rel,dd⟩ := mO I.hok e
 refine kt_call_dict hd dd (by rw [← rel.length]; exact z) fun h' CL hs => ?_
 refine h _ _ (I.hok.fresh (Nat.le_refl _)) (I.laid (a := s.heap.objs.size) (o := .dK kvs) (t' := s.toks) (fun b q hq => ?_) (Nat.le_refl _) (wy z (beq_eq_false_iff_ne.mpr (Ne.symm (Nat.ne_of_lt I.big))) rel CL))
 exact (hs.2 b (Nat.ne_of_lt (Heap.lt_size hq))).trans (Heap.get?_push_of_some _ hq)
end
section
variable {X : Cx} {pins : List (Addr × Obj)} {σ : St} {H : Hp} {s : Shared} {a : Addr} {y : V} {u : Value} {A : Around} {E : Value → Shared → Prop}
end
end L2
namespace V6
open PySem PySem.W PySem.Calls PyProof.Rows
theorem jW {P : Params} {h : Heap} : ∀ (ns : List Int) (vs : List Value),WellAll P h vs (ns.map WData.int) → IntsAre vs ns := by
 intro ns
 induction ns with
 | nil =>
  intro vs w
  rw [List.map_nil] at w
  cases w
  exact .nil
 | cons n ns ih =>
  intro vs w
  rw [List.map_cons] at w
  cases w with
  | cons a b =>
   cases a
   exact .cons _ _ (ih _ b)
theorem uR {l : OpenLaw} {n : Nat} (hn : l.most = some n) {P : Params} {h : Heap} {args : List WData} {vals : List Value}
  (hpre : l.row.toRowW.claim.pre args = true) (hwl : WellAll P h vals args) :
  ∃ a vs ns,vals = [Value.ref a] ∧ args = [WData.list (ns.map WData.int)] ∧ h.get? a = some { cls := .type "list",data := .seq vs.toArray } ∧ IntsAre vs ns ∧ ns.length ≤ n := by
 have hsh : WShape.hasAll [] args [.list .int] = true := (pre_splitW hpre).1
 have hc : l.pre.holds [] { args := args } = true := (pre_splitW hpre).2
 obtain ⟨d,r,rfl,h1,h2⟩ := hasAllW_cons hsh
 obtain rfl := hasAllW_nil h2
 obtain ⟨xs,rfl,h3⟩ := hasW_list h1
 obtain ⟨ns,rfl⟩ := items_int h3
 have hlen : ns.length ≤ n := by
  unfold OpenLaw.pre at hc
  have h4 : (WTm.not (.lt (.lit (.int (n : Int))) (.len (.arg 0)))).holds [] { args := [.list (ns.map .int)] } = true := by
   have h4 := (holds_andW hc).1
   rw [hn] at h4
   exact h4
  have h5 := condW_of h4 (w_not (w_lt w_lit (w_len_list (w_arg rfl))))
  rw [List.length_map] at h5
  refine Nat.le_of_not_lt fun q => ?_
  have q' : (n : Int) < ((ns.length : Nat) : Int) := by omega
  first
   | (rw [decide_eq_true q'] at h5; exact absurd h5 (by decide))
   | (simp at h5; omega)
 cases hwl with
 | cons w1 w2 =>
  cases w2
  cases w1 with
  | list ho hall => exact ⟨_,_,ns,rfl,rfl,ho,jW ns _ hall,hlen⟩
theorem uS (l : OpenLaw) (args : List WData) : l.row.toRowW.claim.post args (.bool true) args = true :=
 postW_of (r := l.row.toRowW) (X := (true == true))
  (show WShape.has [] (.bool true) .bool = true by first | rfl | decide | simp [WShape.has,WShape.arms,WShape.armsAll])
  (show (WTm.eq .res (.lit (.bool true))).value [] { args := args,res := some (.bool true),after := args } = some (.bool (true == true)) from w_eq_bool (w_res rfl) w_lit) rfl
theorem pW {l : OpenLaw} {n : Nat} {q : Program} {loose : List Str} {XP : (Str → Option Value) → Heap → Prop} {YP : World → Heap → Prop} {d : DefRec}
  (hn : l.most = some n) (hdf : d.params.defaults = [])
  (call : ∀ (w : World) (s₀ s₁ : Shared) (mg mb : Str → Option Value) (fa : Addr) (o : Obj) (pm cd doc : Value) (a : Addr) (vs : List Value) (ns : List Int),
   Ground q loose [] XP w s₀ mg mb s₁.heap → YP w s₁.heap →
   s₁.heap.get? fa = some o → o.data = .func (docDef d.name d.params d.body d.scope pm cd doc) → s₁.heap.CodeRec cd d.name → mg d.name = some (.ref fa) →
   s₁.heap.get? a = some { cls := .type "list",data := .seq vs.toArray } → IntsAre vs ns → ns.length ≤ n → s₁.gens = #[] →
   codeAny (model l.prog w) callerA (.call (.ref fa) ⟨[.ref a],[]⟩) (fun r s' => r = .ok (.ret (.bool true)) ∧ OldK s₁.heap s'.heap ∧ s'.os = s₁.os ∧ AllBare s'.gens) s₁) :
  WalkO q loose XP YP l.row.toRowW d [] (fun f vs => PySem.call f vs) := by
 intro w s₀ s₁ mg mb G Y fa o pm cd doc dV kV ho hd hcd hD hmg hg args vals as hpre hlay hrd hwl hlo
 obtain rfl : dV = .none := Dflts.none hD hdf
 obtain rfl : kV = .none := Dflts.noKw hD
 obtain ⟨a,vs,ns,rfl,rfl,hobj,hints,hlen⟩ := uR hn hpre hwl
 refine enter_call (codeAny_mono (call w s₀ s₁ mg mb fa o pm cd doc a vs ns G Y ho (fd_plain hd) hcd hmg hobj hints hlen hg) fun r s' hq => ?_)
 obtain ⟨rfl,h2,h3,h4⟩ := hq
 exact ⟨.inl ⟨.bool true,.bool true,[],rfl,fun _ => rfl,.bool true,uS l _,fun _ => ⟨List.Pairwise.nil,fun _ hm => (nomatch hm)⟩⟩,h2,h3,h4⟩
section
variable {prog : Program} {w : World} {A : Around} {E : Value → Shared → Prop} {s : Shared} {K : Frag}
end
end V6
namespace L2
open PySem PySem.Spec PyProof.Rows
theorem jo : ∀ {vs : List Value} {ns : List Int},IntsAre vs ns → Vals (ns.map V.int) vs
 | _,_,.nil => .nil
 | _,_,.cons n t h => .cons ⟨t,rfl⟩ (jo h)
def Only (H : Hp) : Prop := ∀ b,H b = none ∨ ∃ o xs,H b = some (.iH o (.lst xs))
theorem wB {P : Program} {w : World} {K : PySem.W.Frag} {mg mb : Str → Option Value} {CX : sJ} {k : Nat} {fa a : Addr} {fd : FuncData} {x : Str} {sp : Sp} {s₁ : Shared} {vs : List Value} {ns : List Int}
  (KX : K.In s₁.heap) (hns : s₁.heap.Ns mainGlobals mg) (hb : s₁.heap.Ns builtinsNs mb) (hbb : ∀ x : Str,x ≠ "__name__" → mb x = bootBuiltins x) (hlim : s₁.heap.NoLimit) (hg : s₁.gens = #[])
  (ha : s₁.heap.get? a = some { cls := .type "list",data := .seq vs.toArray }) (hi : IntsAre vs ns) (hl : ns.length ≤ sizeLine) (hr : cU k callerA)
  (F : ∀ base : Heap,K.In base → base.Ns mainGlobals mg → aK P w K mg base CX k fa fd [x] sp) (hbind : ∀ (s : Shared) (u : Value),BindsTo s fd ⟨[u],[]⟩ [(x,u)])
  (hsp : ∀ H : Hp,Only H → aZ K H a (ns.map V.int) → sp [.ref a] H (fun v _ => v = .bl true) fun _ _ _ => False)
  (Kc : ∀ H e s',CX [] H s₁ (fun _ _ _ => False) e s' → False) :
  codeAny (model P w) callerA (.call (.ref fa) ⟨[.ref a],[]⟩) (fun r s' => r = .ok (.ret (.bool true)) ∧ OldK s₁.heap s'.heap ∧ s'.os = s₁.os ∧ AllBare s'.gens) s₁ := by
 have rv := jo hi
 have lenV := hi.length
 have core : ∀ H : Hp,Only H → aZ K H a (ns.map V.int) → fY P w H s₁.heap → (∀ b,H b ≠ none → b = a) → (H a ≠ none → K.lookup a = none) →
   codeAny (model P w) callerA (.call (.ref fa) ⟨[.ref a],[]⟩) (fun r s' => r = .ok (.ret (.bool true)) ∧ OldK s₁.heap s'.heap ∧ s'.os = s₁.os ∧ AllBare s'.gens) s₁ := by
  intro H hO hS hok hA hK
  have sS : ∀ {b : Addr} {o : Obj},s₁.heap.get? b = some o → H b = none → (om s₁.heap H).get? b = some o := fun e n => vM e n
  have EG : ∀ {b : Addr} {o : Obj} {es : Array DictEntry} {ep : Nat},s₁.heap.get? b = some o → o.data = .dict es ep → H b = none := fun {b o es ep} e d => by
   cases q : H b with
   | none => rfl
   | some u =>
    have e' : b = a := hA b (by rw [q]; simp)
    subst e'
    rw [ha] at e; cases e
    have d' : Data.seq vs.toArray _ = Data.dict es ep := d
    cases d'
  have Jg : ∀ {b : Addr} {m : Str → Option Value},s₁.heap.Ns b m → (om s₁.heap H).Ns b m := fun {b m} ⟨o,es,ep,e,d,r⟩ => ⟨o,es,ep,sS e (EG e d),d,r⟩
  have V7 : K.In (om s₁.heap H) := fun b o e => sS (KX b o e) (by
   cases q : H b with
   | none => rfl
   | some u =>
    have e' : b = a := hA b (by rw [q]; simp)
    subst e'
    rw [hK (by rw [q]; simp)] at e; cases e)
  have hM : Mod K mg (om s₁.heap H) := ⟨V7,Jg hns,⟨mb,Jg hb,hbb⟩,let ⟨mc,h1,h2⟩ := hlim; ⟨mc,Jg h1,h2⟩⟩
  have e0 : qS P w K mg (om s₁.heap H) callerA [] s₁ H := ⟨rfl,hM,fun b o e => zj e,Nat.le_of_eq (uG _ _),trivial,fun b hb => absurd (show b ∈ ([] : List Addr) from hb) (by simp),hok,.of_eq hg⟩
  refine codeAny_mono ((F _ V7 (Jg hns)).run callerA [] s₁ H ⟨[.ref a],[]⟩ [.ref a] [.ref a] _ _ hr e0 (hbind s₁ (.ref a)) (.cons rfl .nil) (hsp H hO hS)) fun r s' h => ?_
  cases r with
  | error e => exact (Kc H e s' h).elim
  | ok fl =>
   cases fl with
   | next => exact False.elim h
   | brk => exact False.elim h
   | cont => exact False.elim h
   | ret u =>
    obtain ⟨v,H',os,bare,un,hok',r',q⟩ := h
    have q' : v = .bl true := q
    subst q'
    obtain rfl : u = Value.bool true := r'
    refine ⟨rfl,OldK.of_keep fun b o e => ?_,os,bare⟩
    cases q : H b with
    | none => exact un.keep b o e q (by intro z; exact absurd (show b ∈ ([] : List Addr) from z) (by simp)) (by simp)
    | some u =>
     rcases hO b with z | ⟨ob,xs,z⟩
     ·rw [q] at z; cases z
     ·have z2 := un.iq b ob _ z
      obtain ⟨e1,_⟩ := hok b _ z
      obtain ⟨e2,_⟩ := hok' b _ z2
      rw [e] at e1; cases e1
      exact e2
 cases hk : K.lookup a with
 | some o =>
  have e := KX a o hk
  rw [ha] at e
  cases e
  refine core (fun _ => none) (fun _ => .inl rfl) (.inr ⟨_,vs.toArray,_,hk,rfl,rfl,rfl,by rw [List.size_toArray,lenV]; exact hl,by simpa using rv⟩) (fun b u z => by have z' : (none : Option HO) = some u := z; cases z') (fun b z => absurd rfl z) fun z => absurd rfl z
 | none =>
  refine core (fun b => if b = a then some (.iH { cls := .type "list",data := .seq vs.toArray } (.lst (ns.map V.int))) else none) (fun b => ?_) (.inl (.inr ⟨{ cls := .type "list",data := .seq vs.toArray },if_pos rfl⟩)) (fun b u z => ?_) (fun b z => ?_) fun _ => hk
  ·by_cases hb : b = a
   ·exact .inr ⟨_,_,if_pos hb⟩
   ·exact .inl (if_neg hb)
  ·by_cases hb : b = a
   ·have z' := (if_pos hb).symm.trans z
    cases z'
    subst hb
    exact ⟨ha,by rw [List.length_map]; exact hl,vs,_,rv,ha⟩
   ·have z' := (if_neg hb).symm.trans z
    cases z'
  ·by_cases hb : b = a
   ·exact hb
   ·exact absurd (if_neg hb) z
theorem sT {l : PySem.W.OpenLaw} {n k : Nat} {q : Program} {loose : List Str} {XP : (Str → Option Value) → Heap → Prop} {YP : World → Heap → Prop} {d : DefRec} {K : Params → PySem.W.Frag} {CX : World → sJ} {sp : World → Sp} {x : Str}
  (hn : l.most = some n) (hn2 : n ≤ sizeLine) (hdf : d.params.defaults = []) (hr : cU k callerA)
  (hY : ∀ (w : World) (h : Heap),YP w h → (K w.params).In h)
  (F : ∀ (w : World) (mg : Str → Option Value) (fa : Addr) (h : Heap),(K w.params).In h → h.Ns mainGlobals mg → mg d.name = some (.ref fa) →
   ∃ fd : FuncData,(∀ (s : Shared) (u : Value),BindsTo s fd ⟨[u],[]⟩ [(x,u)]) ∧
    ∀ base : Heap,(K w.params).In base → base.Ns mainGlobals mg → aK l.prog w (K w.params) mg base (CX w) k fa fd [x] (sp w))
  (hsp : ∀ (w : World) (H : Hp) (a : Addr) (ns : List Int),ns.length ≤ n → Only H → aZ (K w.params) H a (ns.map V.int) → sp w [.ref a] H (fun v _ => v = .bl true) fun _ _ _ => False)
  (Kc : ∀ (w : World) (H : Hp) (s : Shared) (e : Value) (s' : Shared),CX w [] H s (fun _ _ _ => False) e s' → False) :
  PySem.W.WalkO q loose XP YP l.row.toRowW d [] (fun f vs => PySem.call f vs) := by
 refine V6.pW hn hdf fun w s₀ s₁ mg mb fa o pm cd doc a vs ns G Y ho hd hcd hmg hobj hints hlen hg => ?_
 have KX := hY w _ Y
 obtain ⟨fd,hb,hF⟩ := F w mg fa _ KX G.T.g hmg
 exact wB KX G.T.g G.T.b G.T.builtins G.T.nolimit hg hobj hints (Nat.le_trans hlen hn2) hr hF hb (fun H hO hS => hsp w H a ns hlen hO hS) fun H e s' => Kc w H s₁ e s'
end L2
/- THE LAST THEOREM (shape; LID,My.* are yours):
   My.Adr: a structure of the addresses that your layer names (classes,functions); My.Txt K t: a structure (Prop) of the equations over K;
   My.CT : {K} {implicit addresses ..} (e1 : nsIn K mainGlobals "law" = some (some (.ref f))) (e2 : K.lookup f = some ⟨oc,od,.func (fnOf "law" "law" params body scope dV kV doc pm an cdv ct),sl⟩) (e3 : codeIn K cdv "law" = true) .. : ∃ t,My.Txt K t
set_option maxRecDepth 100000 in
set_option maxHeartbeats 0 in
theorem PySem.Challenge.cw_LID_holds : PySem.Challenge.rw_LID.Holds := by
 w_on; o_law; k_head; (case hw => w_witness2)
 k_fill
 refine L2.sT (l := PySem.Challenge.rw_LID) (n := 63) (k := 40) (x := "script") (CX := fun w => ..) (sp := fun _ => My.sp_law) rfl (by decide) rfl ⟨rfl,by decide,by decide⟩ (fun w h Y => PySem.W.kIn_of Y) ?F ?S ?C
 case F =>
  intro w mg fa h KX G hmg
  have T : ∃ t,My.Txt (L2.KOf KX) t := by
   dsimp only [L2.KOf]
   refine' My.CT ?e1 ?e2 ?e3 ..
   (case e1 => PySem.W.k_is)
   (case e2 => PySem.W.k_is)
   ..
  obtain ⟨t,T⟩ := T
  have e0 := hmg.symm.trans (PySem.W.mg_of KX G T.law)
  cases e0
  exact ⟨_,fun s u => .of_eq rfl,fun base kb nb => My.law_fn T kb nb⟩
 case S => exact fun w H a ns hl hO hS => ..
 case C => exact ..
(the tactic k_is has no namespace: write k_is) -/
namespace L2
open PySem PySem.Spec PyProof.Rows
def inClass (s : Stmt) (j : Nat) : Stmt := match s with
 | .ClassDef _ _ _ body _ _ _ _ _ _ _ => body.getD j (.Pass ⟨0,0,0,0⟩)
 | _ => .Pass ⟨0,0,0,0⟩
def aF (s : Stmt) : Arguments := match s with
 | .FunctionDef _ a _ _ _ _ _ _ _ _ => a
 | _ => { posonlyargs := [],args := [],vararg := none,kwonlyargs := [],kw_defaults := [],kwarg := none,defaults := [] }
def aA (s : Stmt) : List Stmt := match s with
 | .FunctionDef _ _ b _ _ _ _ _ _ _ => b
 | _ => []
def ai (s : Stmt) : Scope := match s with
 | .FunctionDef _ _ _ _ _ _ sc _ _ _ => sc
 | _ => { kind := .function,names := [],isGenerator := false,isCoroutine := false }
abbrev bM : sJ := fun _ _ _ _ _ _ => False
abbrev E0 : XK := fun _ _ _ => False
theorem aP {X : Cx} : Passes bM X E0 := fun _ _ _ _ _ _ _ h => h.elim
structure cY (K : PySem.W.Frag) (x qual : Str) (st : Stmt) (f : Addr) (fd : FuncData) : Prop where
 ex : ∃ (oc : Value) (od : Option Addr) (kV doc pm : Value) (an : Option Addr) (cdv ct : Value) (osl : Array (Option Value)),
  fd = PySem.W.fnOf x qual (aF st) (aA st) (ai st) .none kV doc pm an cdv ct ∧ K.lookup f = some ⟨oc,od,.func fd,osl⟩ ∧ PySem.W.codeIn K cdv qual = true
 kp : PySem.W.keepIn K (.ref f) = true
section
variable {P : Program} {w : World} {K : PySem.W.Frag} {mg : Str → Option Value} {base : Heap}
theorem cY.ok {x qual : Str} {st : Stmt} {f : Addr} {fd : FuncData} {N ps : List Str} {k : Nat} {sp : Sp} (F : cY K x qual st f fd) (S : aG N ps (ai st)) (len : ∀ vs H Q E,sp vs H Q E → vs.length = ps.length)
  (hbody : ∀ (cdv : Value) (A : Around) (outer : List Env) (s : Shared) (H : Hp) (vs : List V) (Q : VK) (E : XK),cU k (A.deeper (envOfC qual (ai st) s.heap.objs.size f cdv)) → sp vs H Q E →
   ∃ t,lQ (gj bM P w K mg base N qual (ai st) f cdv A outer s H E).D4 (aA st) t ∧ t { nx := fun _ H' => Q .non H',rt := Q } (start N vs) H) : aK P w K mg base bM (k + 1) f fd ps sp := by
 obtain ⟨oc,od,kV,doc,pm,an,cdv,ct,osl,rfl,lk,hcd⟩ := F.ex
 refine BG lk hcd S len fun A outer s H vs Q E hr hsp => ?_
 obtain ⟨t,h,q⟩ := hbody cdv A outer s H vs Q E hr hsp
 exact ⟨t,h.D4,q⟩
theorem cY.binds {x qual : Str} {st : Stmt} {f : Addr} {fd : FuncData} {ps : List Str} (F : cY K x qual st f fd)
  (h : ∀ (kV doc pm : Value) (an : Option Addr) (cdv ct : Value) (us : List Value),us.length = ps.length → bindArgs (PySem.W.fnOf x qual (aF st) (aA st) (ai st) .none kV doc pm an cdv ct) ⟨us,[]⟩ = pure (ps.zip us)) : Binds K fd ps [] := by
 obtain ⟨oc,od,kV,doc,pm,an,cdv,ct,osl,rfl,lk,hcd⟩ := F.ex
 exact .all (h kV doc pm an cdv ct)
theorem aN {x qual : Str} {st : Stmt} {f : Addr} {oc : Value} {od an : Option Addr} {osl : Array (Option Value)} {kV doc pm cdv ct : Value} (l : K.lookup f = some ⟨oc,od,.func (PySem.W.fnOf x qual (aF st) (aA st) (ai st) .none kV doc pm an cdv ct),osl⟩)
  (c : PySem.W.codeIn K cdv qual = true) (k : PySem.W.keepIn K (.ref f) = true) : cY K x qual st f (PySem.W.fnOf x qual (aF st) (aA st) (ai st) .none kV doc pm an cdv ct) := ⟨⟨oc,od,kV,doc,pm,an,cdv,ct,osl,rfl,l,c⟩,k⟩
end
theorem cJ {A : Around} {k : Nat} (hr : cU k A) : A.units + 1 < cLine := Nat.lt_of_le_of_lt (Nat.add_le_add_left (by decide : 1 ≤ 64) _) hr.units
theorem cD {n : Nat} (h : n ≤ 1000) : n < sizeLine := Nat.lt_of_le_of_lt h (by decide)
section
variable {X : Cx}
theorem pv (i : Nat) {x : Str} {pos : Pos} (hN : X.N[i]? = some x := by rfl) (hv : JI X.env.scope x := by first | exact Or.inl rfl | exact Or.inr (Or.inl rfl) | exact Or.inr (Or.inr rfl)) (hd : (x == ("__debug__" : Str)) = false := by decide)
  (hcd : (x == ("__classdict__" : Str)) = false := by decide) : PE X (.Name x pos) (Ck i) := Cm hN hv hd hcd
end
theorem iP {A B : Prop} (h : B) : if false = true then A else B := by
 rw [if_neg Bool.false_ne_true]
 exact h
theorem EX {A B : Prop} (h : A) : if true = true then A else B := by
 rw [if_pos rfl]
 exact h
theorem cV {c A B : Prop} [Decidable c] (h1 : c → A) (h2 : ¬ c → B) : if c then A else B := by
 by_cases h : c
 ·rw [if_pos h]
  exact h1 h
 ·rw [if_neg h]
  exact h2 h
def Same (H H' : Hp) : Prop := ∀ b o,H b = some o → H' b = some o
theorem Same.refl (H : Hp) : Same H H := fun _ _ h => h
theorem Same.trans {H H1 H2 : Hp} (a : Same H H1) (b : Same H1 H2) : Same H H2 := fun c o h => b c o (a c o h)
theorem Same.free {H H' : Hp} (e : Same H H') {l : Addr} (h : H' l = Option.none) : H l = Option.none := by
 cases q : H l with
 | none => rfl
 | some o =>
  rw [e l o q] at h
  cases h
theorem Same.seq {K : PySem.W.Frag} {H H' : Hp} {a : Addr} {xs : List V} (e : Same H H') (h : aZ K H a xs) : aZ K H' a xs := by
 rcases h with (h | ⟨o,h⟩) | h
 ·exact .inl (.inl (e _ _ h))
 ·exact .inl (.inr ⟨o,e _ _ h⟩)
 ·exact .inr h
section
variable {X : Cx}
end
section
variable {κ : Type} [DecidableEq κ]
theorem wC {kvs : List (κ × V)} {k : κ} (h : cC kvs k = none) : ¬ k ∈ kvs.map (·.1) := by
 intro m
 obtain ⟨p,hp,e⟩ := List.mem_map.mp m
 have q : (kvs.any fun kv => decide (kv.1 = k)) = true := List.any_eq_true.mpr ⟨p,hp,decide_eq_true e⟩
 rw [d9,h] at q
 exact absurd q (by simp)
end
end L2
set_option maxHeartbeats 4000000
namespace L2
open PySem PySem.Spec PyProof.Rows
def dg (env : Env) (cs : List (Str × Addr)) (nk : Str × NameKind) : List (Str × Addr) :=
 if nk.2 == .free then (nk.1,(env.cells.lookup nk.1).getD 0) :: cs else cs
def fq (scope : Scope) (env : Env) : List (Str × Addr) := scope.names.foldl (dg env) []
theorem sU {scope : Scope} {env : Env} (h : ∀ y ∈ scope.names,y.2 = .free → ∃ c,env.cells.lookup y.1 = some c) : closureFor scope env = pure (fq scope env) := by
 have all : ∀ (l : List (Str × NameKind)) (cs : List (Str × Addr)),(∀ y ∈ l,y.2 = .free → ∃ c,env.cells.lookup y.1 = some c) →
   (forIn l cs (fun x r => if (x.2 == NameKind.free) = true then do let a ← cellOf env x.1; pure (ForInStep.yield ((x.1,a) :: r)) else pure (ForInStep.yield r)) : Sem (List (Str × Addr))) = pure (l.foldl (dg env) cs) := by
  intro l
  induction l with
  | nil => intro cs _; rfl
  | cons y r ih =>
   intro cs hy
   obtain ⟨n,k⟩ := y
   rw [List.forIn_cons,List.foldl_cons]
   by_cases hk : (k == NameKind.free) = true
   ·obtain ⟨c,hc⟩ := hy (n,k) List.mem_cons_self (by simpa using hk)
    have e1 : cellOf env n = pure c := by unfold cellOf; rw [hc]
    have e2 : dg env cs (n,k) = (n,c) :: cs := by unfold dg; rw [if_pos hk,hc]; rfl
    rw [e2,← ih _ fun z hz => hy z (List.mem_cons_of_mem _ hz)]
    dsimp only
    rw [if_pos hk,e1]
    rfl
   ·have e2 : dg env cs (n,k) = cs := by unfold dg; rw [if_neg hk]
    rw [e2,← ih _ fun z hz => hy z (List.mem_cons_of_mem _ hz)]
    dsimp only
    rw [if_neg hk]
    rfl
 have e := all scope.names [] h
 unfold closureFor fq
 rw [← e]
 simp only [bind_pure]
theorem kx {env : Env} : ∀ {l : List (Str × NameKind)} {cs : List (Str × Addr)} {n : Str} {c : Addr},(∀ y ∈ l,y.2 = .free → ∃ c,env.cells.lookup y.1 = some c) → (n,c) ∈ l.foldl (dg env) cs → (n,c) ∈ cs ∨ env.cells.lookup n = some c
 | [],cs,n,c,_,m => .inl m
 | (y,k) :: r,cs,n,c,h,m => by
  rcases kx (fun z hz => h z (List.mem_cons_of_mem _ hz)) (show (n,c) ∈ r.foldl (dg env) (dg env cs (y,k)) from m) with q | q
  ·unfold dg at q
   by_cases hk : (k == NameKind.free) = true
   ·rw [if_pos hk] at q
    rcases List.mem_cons.mp q with q | q
    ·obtain ⟨d,hd⟩ := h (y,k) List.mem_cons_self (by simpa using hk)
     have hd : env.cells.lookup y = some d := hd
     injection q with q1 q2
     subst q1
     rw [hd] at q2
     subst q2
     exact .inr hd
    ·exact .inl q
   ·rw [if_neg hk] at q
    exact .inl q
  ·exact .inr q
theorem ky {env : Env} : ∀ {l : List (Str × NameKind)} {cs : List (Str × Addr)} {p : Str × Addr},p ∈ cs → p ∈ l.foldl (dg env) cs
 | [],_,_,m => m
 | (y,k) :: r,cs,p,m => by
  refine ky (l := r) (cs := dg env cs (y,k)) ?_
  unfold dg
  split
  ·exact List.mem_cons_of_mem _ m
  ·exact m
theorem kz {env : Env} : ∀ {l : List (Str × NameKind)} {cs : List (Str × Addr)} {n : Str},(n,NameKind.free) ∈ l → ∃ c,(n,c) ∈ l.foldl (dg env) cs
 | (y,k) :: r,cs,n,m => by
  rcases List.mem_cons.mp m with q | q
  ·cases q
   exact ⟨(env.cells.lookup y).getD 0,ky (l := r) (by simp [dg])⟩
  ·exact kz (l := r) q
theorem iz {β : Type} : ∀ {l : List (Str × β)} {n : Str} {c : β},(n,c) ∈ l → ∃ d,l.lookup n = some d
 | (k,v) :: r,n,c,m => by
  rw [List.lookup_cons]
  cases e : n == k with
  | true => exact ⟨v,rfl⟩
  | false =>
   rcases List.mem_cons.mp m with q | q
   ·cases q
    simp at e
   ·exact iz q
theorem bY {env : Env} (hf : env.scope.kind = .function) : ∀ {names : List (Str × NameKind)} {x : Str},names.lookup x = some .free → env.kindOf x = some .cell →
  (names.map fun (n,k) => if (k == NameKind.free && env.scope.kind == .function && env.kindOf n == some .cell) then (n,NameKind.cell) else (n,k)).lookup x = some .cell
 | [],_,h,_ => by simp at h
 | (n,k) :: r,x,h,hc => by
  have ih := @bY env hf r x
  show List.lookup x ((if (k == NameKind.free && env.scope.kind == .function && env.kindOf n == some .cell) = true then (n,NameKind.cell) else (n,k)) :: _) = _
  cases hx : x == n with
  | true =>
   have e : x = n := by simpa using hx
   subst e
   simp only [List.lookup_cons,hx] at h
   cases h
   rw [if_pos (by rw [hf,hc]; rfl)]
   simp [List.lookup_cons]
  | false =>
   simp only [List.lookup_cons,hx] at h
   by_cases hc' : (k == NameKind.free && env.scope.kind == .function && env.kindOf n == some .cell) = true
   ·rw [if_pos hc']; simp only [List.lookup_cons,hx]; exact ih h hc
   ·rw [if_neg hc']; simp only [List.lookup_cons,hx]; exact ih h hc
def jq (sc scope : Scope) (N : List Str) : List Str → List (Option Nat) → Bool
 | [],[] => true
 | _ :: r,none :: f => jq sc scope N r f
 | y :: r,some i :: f => (N[i]? == some y) && (scope.names.lookup y == some .free) && (sc.names.lookup y == some .cell) && jq sc scope N r f
 | _,_ => false
structure cH (sc scope : Scope) (N N' : List Str) (fr : List (Option Nat)) : Prop where
 kind : scope.kind = .function
 wD : ∀ y ∈ scope.names,y.2 ≠ .cell
 names : ∀ y ∈ scope.names,y.2 = .local → scope.names.lookup y.1 = some .local
 free : ∀ y ∈ scope.names,y.2 = .free → sc.names.lookup y.1 = some .cell
 nd : N'.Nodup
 fr : jq sc scope N N' fr = true
def kI (fr : List (Option Nat)) (σ : St) : St := fr.map fun o => o.bind fun i => (σ[i]?).join
theorem iQ {sc scope : Scope} {N : List Str} : ∀ {N' : List Str} {fr : List (Option Nat)},jq sc scope N N' fr = true → fr.length = N'.length
 | [],[],_ => rfl
 | _ :: r,none :: f,h => by simp only [List.length_cons]; rw [iQ (N' := r) (fr := f) h]
 | y :: r,some i :: f,h => by
  unfold jq at h
  simp only [Bool.and_eq_true] at h
  simp only [List.length_cons]; rw [iQ (N' := r) (fr := f) h.2]
 | [],_ :: _,h => by simp [jq] at h
 | _ :: _,[],h => by simp [jq] at h
theorem j4 {sc scope : Scope} {N : List Str} : ∀ {N' : List Str} {fr : List (Option Nat)} {j i : Nat} {y : Str},jq sc scope N N' fr = true → N'[j]? = some y → fr[j]? = some (some i) → N[i]? = some y ∧ scope.names.lookup y = some .free ∧ sc.names.lookup y = some .cell
 | [],[],_,_,_,_,h,_ => by simp at h
 | _ :: r,none :: f,0,i,y,_,_,h => by simp at h
 | _ :: r,none :: f,j + 1,i,y,h,h1,h2 => j4 (N' := r) (fr := f) (j := j) h (by simpa using h1) (by simpa using h2)
 | z :: r,some k :: f,0,i,y,h,h1,h2 => by
  unfold jq at h
  simp only [Bool.and_eq_true,beq_iff_eq] at h
  have e1 : z = y := by simpa using h1
  have e2 : k = i := by simpa using h2
  subst e1 e2
  exact ⟨h.1.1.1,h.1.1.2,h.1.2⟩
 | z :: r,some k :: f,j + 1,i,y,h,h1,h2 => by
  unfold jq at h
  simp only [Bool.and_eq_true] at h
  exact j4 (N' := r) (fr := f) (j := j) h.2 (by simpa using h1) (by simpa using h2)
 | [],_ :: _,_,_,_,h,_,_ => by simp [jq] at h
 | _ :: _,[],_,_,_,h,_,_ => by simp [jq] at h
def dm (X : Cx) (scope : Scope) (C : Addr) (N' : List Str) (s₀ : Shared) (H₀ : Hp) (fp : List Addr) : Cx where
 prog := X.prog
 w := X.w
 K := X.K
 mg := X.mg
 base := X.base
 A := X.A
 N := N'
 s₀ := s₀
 H₀ := H₀
 env := compEnvC scope (fq scope X.env) C X.env
 outer := X.stack
 stack := X.stack
 ex := fp
 calm := true
 fn := fun _ => false
 pn := []
 xe := fun _ _ => False
section
variable {X : Cx} {scope : Scope} {N' : List Str} {fr : List (Option Nat)} {pins : List (Addr × Obj)} {σ : St} {H : Hp} {s : Shared} {fp : List Addr}
theorem Inv.block {h1 : Heap} {t1 : Nat} {m : Str → Option Value} (S : cH X.env.scope scope X.N N' fr) (hc : X.calm = true) (I : Inv X pins σ H s) (hf : ∀ b ∈ fp,jh X pins H b) (hlt : ∀ b ∈ fp,b < s.heap.objs.size)
  (hns : h1.Ns s.heap.objs.size m) (old : ∀ b o,s.heap.get? b = some o → h1.get? b = some o) :
  Inv (dm X scope s.heap.objs.size N' s H fp) [] (kI fr σ) H { s with heap := h1,toks := t1 } := by
 have hfree : ∀ y ∈ scope.names,y.2 = .free → ∃ c,X.env.cells.lookup y.1 = some c := fun y hy e => I.ok.has y.1 (.inl (S.free y hy e))
 have cl1 : ∀ y c,(fq scope X.env).lookup y = some c → X.env.cells.lookup y = some c := fun y c e => by
  rcases kx (cs := []) hfree (PySem.mem_of_lookup e) with q | q
  ·exact absurd q (by simp)
  ·exact q
 have has : ∀ y,((relabel scope X.env).names.lookup y = some .cell ∨ (relabel scope X.env).names.lookup y = some .free) → ∃ c,(fq scope X.env).lookup y = some c := fun y hy => by
  have q : (y,NameKind.free) ∈ scope.names := by
   have m : ∃ k,(k = NameKind.cell ∨ k = NameKind.free) ∧ (y,k) ∈ (relabel scope X.env).names := by
    rcases hy with hy | hy
    ·exact ⟨_,.inl rfl,PySem.mem_of_lookup hy⟩
    ·exact ⟨_,.inr rfl,PySem.mem_of_lookup hy⟩
   obtain ⟨k,hk,m⟩ := m
   obtain ⟨⟨n,k0⟩,hm,e⟩ := List.mem_map.mp m
   dsimp only at e
   by_cases hq : (k0 == NameKind.free && X.env.scope.kind == .function && X.env.kindOf n == some .cell) = true
   ·rw [if_pos hq] at e
    simp only [Bool.and_eq_true,beq_iff_eq] at hq
    injection e with e1 e2
    rw [← e1,← hq.1.1]
    exact hm
   ·rw [if_neg hq] at e
    injection e with e1 e2
    subst e1 e2
    rcases hk with hk | hk
    ·exact absurd hk (S.wD _ hm)
    ·rw [← hk]; exact hm
  obtain ⟨c,mc⟩ := kz (env := X.env) (cs := []) q
  exact iz mc
 have Kd : ∀ y c,X.env.cells.lookup y = some c → c < s.heap.objs.size := fun y c e => by
  obtain ⟨v,q⟩ := I.cell y c e
  exact q.lt
 refine ⟨⟨I.ok.mod,S.kind,I.ok.glob,I.ok.blt,Nat.le_refl _,fun x y c e1 e2 => I.ok.inj x y c (cl1 x c e1) (cl1 y c e2),has,fun x c e _ => absurd e (by simp [dm]),fun _ => I.ok.hd hc,I.ok.frames,.inl rfl,
   fun b hb => ⟨Nat.ne_of_lt (hlt b hb),fun x c e => (hf b hb).2.2.2.2.1 x c (cl1 x c e)⟩,I.bs,Nat.le_trans I.ok.vG I.sz,fun b o e hb => ?_,fun b hb z => ?_,I.stack,I.iJ⟩,
  rfl,I.bare,Un.kept old,⟨m,hns,fun i x v e1 e2 e3 => ?_⟩,fun x c e => ?_,I.fresh,fun x c e => I.dH x c (cl1 x c e),fun p hp => absurd hp (by simp [dm]),I.hok.kept old,?_⟩
 ·rcases (hf b hb).2.2.2.1 with z | z
  ·exact I.ok.qH b o e z
  ·exact absurd (Nat.lt_of_lt_of_le (Heap.lt_size e) (Nat.le_trans I.ok.vG z)) (Nat.lt_irrefl _)
 ·rcases List.mem_cons.mp (I.j9 b z) with q | q
  ·exact (hf b hb).2.1 q
  ·exact (hf b hb).2.2.1 q
 ·
  have e2 : (kI fr σ)[i]? = some (some v) := e2
  unfold kI at e2
  rw [List.getElem?_map] at e2
  cases q : fr[i]? with
  | none => rw [q] at e2; cases e2
  | some o =>
   rw [q] at e2
   cases o with
   | none => cases e2
   | some j =>
    have e2 : (σ[j]?).join = some v := Option.some.inj e2
    have e4 : σ[j]? = some (some v) := by
     cases r : σ[j]? with
     | none => rw [r] at e2; cases e2
     | some w => rw [r] at e2; exact congrArg some e2
    obtain ⟨f1,f2,f3⟩ := j4 S.fr e1 q
    obtain ⟨m0,_,hl⟩ := I.loc
    obtain ⟨u,r,l⟩ := hl j x v f1 e4 (.inr (.inl f3))
    refine ⟨u,r,.inr ⟨.inl (bY I.ok.kind f2 f3),?_⟩⟩
    obtain ⟨c,hc⟩ := has x (.inl (bY I.ok.kind f2 f3))
    rcases l with ⟨k,_⟩ | ⟨_,c',hc',ho⟩
    ·have k : X.env.scope.names.lookup x = some .local := k
     rw [f3] at k; cases k
    ·have e : c = c' := Option.some.inj ((cl1 x c hc).symm.trans hc')
     subst e
     obtain ⟨o,ho,hd⟩ := ho
     exact ⟨c,hc,o,old c o ho,hd⟩
 ·obtain ⟨v,o,ho,hd⟩ := I.cell x c (cl1 x c e)
  exact ⟨v,o,old c o ho,hd⟩
 ·show (kI fr σ).length = N'.length
  unfold kI
  rw [List.length_map]
  exact iQ S.fr
end
def zG (X : Cx) (ifs : List Expr) (t : TT) : Prop :=
 ∀ (pins : List (Addr × Obj)) (s : Shared) (σ : St) (H : Hp) (Q : Bool → Hp → Prop),Inv X pins σ H s → t σ H Q →
  wpAny (model X.prog X.w) X.A (forIn ifs true fun c r => if r = true then do let ok ← isTrue c X.env (eval c X.env); pure (ForInStep.yield ok) else pure (ForInStep.yield r)) (TP X pins σ Q) X.xe s
def Ke : TT := fun _ H Q => Q true H
theorem dn {X : Cx} : zG X [] Ke := fun _ _ _ H _ I q => wpAny_tests_nil ⟨H,I,q⟩
theorem iR {X : Cx} {c : Expr} {t : TT} (h : PT X c t) : zG X [c] t := fun pins s σ H Q I q => wpAny_tests_one (h pins s σ H Q I q)
theorem iS {prog : Program} {w : World} {A : Around} {R : Result → Shared → Prop} {s : Shared} {elt target iter : Expr} {ifs : List Expr} {scope : Scope} {pos : Pos} {it acc : Value} {env : Env} (I : Nat → Shared → Prop)
  (turn : ∀ n s,I n s → wpAny (model prog w) A (pyNext it) (fun r s₁ => match r with
   | none => R (.ok .next) s₁
   | some v => wpAny (model prog w) A (letOwnedTupleGo target it v) (fun _ s₀ => wpAny (model prog w) A (assign target env v) (fun _ s₂ =>
     wpAny (model prog w) A (forIn ifs true fun c r => if r = true then do let ok ← isTrue c env (eval c env); pure (ForInStep.yield ok) else pure (ForInStep.yield r)) (fun ok s₃ =>
      if ok = true then wpAny (model prog w) A (eval elt env) (fun x s₄ =>
       wpAny (model prog w) A (call (.builtin "list.append") [acc,x]) (fun _ s₅ => ∃ m,m < n ∧ I m s₅) (fun _ _ => False) s₄) (fun _ _ => False) s₃
      else ∃ m,m < n ∧ I m s₃) (fun _ _ => False) s₂) (fun _ _ => False) s₀) (fun _ _ => False) s₁) (fun _ _ => False) s)
  (n : Nat) (h : I n s) :
  codeAny (model prog w) A (.compLoop (.ListComp elt [⟨target,iter,ifs,0⟩] scope pos) 0 it acc env) R s := by
 refine codeAny_loop rfl I (fun n s hI => ?_) n h
 show wpAny _ A ((compTurn (.ListComp elt [⟨target,iter,ifs,0⟩] scope pos) 0 it acc env).onRaise (fun x => do noteFrame x env; theTreesLotGoes x)) _ _ s
 refine wpAny_noted ?_
 rw [compTurn_list]
 refine wpAny_bind (wpAny_standAt (wpAny_bind (wpAny_mono (turn n s hI) (fun r s₁ h₁ => ?_) fun _ _ h' => h'.elim)))
 cases r with
 | none => exact wpAny_pure h₁
 | some v =>
  refine wpAny_bind (wpAny_mono h₁ (fun _ s₀ h₀ => ?_) fun _ _ h' => h'.elim)
  refine wpAny_bind (wpAny_mono h₀ (fun _ s₂ h₂ => wpAny_bind (wpAny_mono h₂ (fun ok s₃ h₃ => ?_) fun _ _ h' => h'.elim)) fun _ _ h' => h'.elim)
  cases ok with
  | false => exact wpAny_pure ⟨rfl,h₃⟩
  | true =>
   exact wpAny_bind (wpAny_bind (wpAny_mono h₃ (fun x s₄ h₄ => wpAny_bind (wpAny_mono h₄ (fun _ s₅ h₅ => wpAny_pure (wpAny_pure ⟨rfl,h₅⟩)) fun _ _ h' => h'.elim)) fun _ _ h' => h'.elim))
def pX (fr : List (Option Nat)) (wi : TI) (g : TG) (tt : TT) (te : TE) : TE := fun σ H Q => wi σ H fun J H1 => ∀ D,H1 D = none →
 ∃ W : Nat → Nat → St → List V → Hp → Prop,(∃ m,W 0 m (kI fr σ) [] (upd H1 D (.lst []))) ∧ ∀ i m σ ys H,W i m σ ys H →
  (J.stop i H ∧ Q (.ref D) H) ∨ (J.go i H ∧ ∃ N : St → List V → Hp → Prop,(∀ σ' ys' H',N σ' ys' H' → ∃ m',m' < m ∧ W (i + 1) m' σ' ys' H') ∧ ∀ x H',J.vH i H x H' → g x σ H' fun σ2 H2 => tt σ2 H2 fun b H3 =>
   if b = true then te σ2 H3 fun v H4 => H4 D = some (.lst ys) ∧ ys.length < sizeLine ∧ N σ2 (ys ++ [v]) (upd H4 D (.lst (ys ++ [v])))
   else N σ2 ys H3)
theorem pY {X : Cx} {elt tg iter : Expr} {ifs : List Expr} {scope : Scope} {pos cpos : Pos} {wi : TI} {g : TG} {tt : TT} {te : TE} {N' : List Str} {fr : List (Option Nat)} (S : cH X.env.scope scope X.N N' fr) (hc : X.calm = true) (hi : PI X tg iter wi)
  (hg : ∀ C s0 H0 fp,PG (dm X scope C N' s0 H0 fp) tg g) (ht : ∀ C s0 H0 fp,zG (dm X scope C N' s0 H0 fp) ifs tt) (he : ∀ C s0 H0 fp,PE (dm X scope C N' s0 H0 fp) elt te)
  (hs : ∀ x,foldedSetIterable iter X.env x = pure x) {pins : List (Addr × Obj)} {s : Shared} {σ : St} {H : Hp} {Q : VK} (I : Inv X pins σ H s) (h : pX fr wi g tt te σ H Q) (use : Option (Value → Sem Unit)) (QQ : Value → Shared → Prop)
  (fin : ∀ (D C : Addr) (H5 : Hp) (s6 : Shared),Inv X pins σ H5 s6 → Q (.ref D) H5 → H5 C = none → C ≠ X.env.locals → X.s₀.heap.objs.size ≤ C → (∀ x c,X.env.cells.lookup x = some c → c ≠ C) → (∀ p ∈ X.pn ++ pins,p.1 ≠ C) → (∃ m,s6.heap.Ns C m) →
   compPost (model X.prog X.w) X.A X.xe use QQ (.ref D) C (.ok .next) s6) :
  wpAny (model X.prog X.w) X.A (comprehension (.ListComp elt [⟨tg,iter,ifs,0⟩] scope pos) scope X.env cpos (newList []) false (eval iter X.env) use) QQ X.xe s := by
 have hfree : ∀ y ∈ scope.names,y.2 = .free → ∃ c,X.env.cells.lookup y.1 = some c := fun y hy e => I.ok.has y.1 (.inl (S.free y hy e))
 refine wpAny_comprehension_free (use := use) rfl hs (sU hfree) S.kind S.names (bO (hi pins s σ H _ I h) fun v s1 h1 => bO h1 fun itv s2 h2 => ?_)
 obtain ⟨it,fp,tn,J,H2,e,I2,T,st2,f2,hD⟩ := h2
 subst e
 obtain ⟨W,⟨m0,w0⟩,turn⟩ := hD s2.heap.objs.size I2.fresh
 refine wpAny_newObj_type ?_
 have I3 : Inv X pins σ (upd H2 s2.heap.objs.size (.lst [])) { s2 with heap := s2.heap.push { cls := .type "list",data := .seq ([] : List Value).toArray },toks := s2.toks } := I2.zB (ys := []) .nil (Nat.zero_le _)
 revert I3
 generalize eD : s2.heap.objs.size = D at *
 generalize e3 : ({ s2 with heap := s2.heap.push { cls := .type "list",data := .seq ([] : List Value).toArray },toks := s2.toks } : Shared) = s3
 intro I3
 have k3 : ∀ b o,s2.heap.get? b = some o → s3.heap.get? b = some o := fun b o e => by rw [← e3]; exact Heap.get?_push_of_some _ e
 refine wpAny_newFunctionEnv S.wD (by intro y hy; simp at hy) (fun h4 hns hsb => ?_) S.kind
 have old : ∀ b o,s3.heap.get? b = some o → h4.get? b = some o := fun b o e => hsb.extBut b o (Nat.ne_of_lt (Heap.lt_size e)) (Heap.get?_push_of_some _ e)
 have fD : ∀ b ∈ fp,b ≠ D := fun b hb z => by
  obtain ⟨o,ho,_⟩ := T.obj _ _ st2 b hb
  exact absurd (Heap.lt_size ho) (by rw [z,eD]; exact Nat.lt_irrefl _)
 have f3 : ∀ b ∈ fp,jh X pins (upd H2 D (.lst [])) b := fun b hb => ⟨by rw [aw (fD b hb)]; exact (f2 b hb).1,(f2 b hb).2⟩
 have l3 : ∀ b ∈ fp,b < s3.heap.objs.size := fun b hb => by
  obtain ⟨o,ho,_⟩ := T.obj _ _ st2 b hb
  exact Heap.lt_size (k3 b o ho)
 have I4 := Inv.block (t1 := s3.toks + ([] : List (Str × Value)).length) (scope := scope) S hc I3 f3 l3 hns old
 generalize eX : dm X scope s3.heap.objs.size N' s3 (upd H2 D (.lst [])) fp = X' at I4
 have zH : tn 0 h4 := T.keep _ _ _ st2 fun b hb o e => old b o (k3 b o e)
 have stat : ∀ {H' : Hp},(∀ b ∈ fp,H' b = none) → ∀ b ∈ fp,jh X' [] H' b := fun {H'} hn b hb => by
  subst eX
  refine ⟨hn b hb,Nat.ne_of_lt (l3 b hb),?_,.inl hb,?_,fun p hp => absurd hp (by simp [dm])⟩
  ·exact I4.ok.qI b hb
  ·exact (I4.ok.Eh b hb).2
 show codeAny _ _ (.compStart _ 0 (.ref it) (.ref D) (compEnvC scope (fq scope X.env) s3.heap.objs.size X.env)) (compPost _ _ _ use _ (.ref D) s3.heap.objs.size) _
 have hX : X'.prog = X.prog ∧ X'.w = X.w ∧ X'.K = X.K ∧ X'.A = X.A ∧ X'.calm = true ∧ X'.env = compEnvC scope (fq scope X.env) s3.heap.objs.size X.env ∧ X'.xe = (fun _ _ => False) ∧ X'.s₀ = s3 ∧ X'.H₀ = upd H2 D (.lst []) ∧ X'.fs = frs X.stack ∧ X'.ex = fp := by
  subst eX
  exact ⟨rfl,rfl,rfl,rfl,rfl,rfl,rfl,rfl,rfl,rfl,rfl⟩
 have hg' : PG X' tg g := by subst eX; exact hg _ _ _ _
 have ht' : zG X' ifs tt := by subst eX; exact ht _ _ _ _
 have he' : PE X' elt te := by subst eX; exact he _ _ _ _
 clear eX
 obtain ⟨x1,x2,x3,x4,x5,x6,x7,x8,x9,x10,x11⟩ := hX
 have loop : codeAny (model X.prog X.w) X.A (.compLoop (.ListComp elt [⟨tg,iter,ifs,0⟩] scope pos) 0 (.ref it) (.ref D) (compEnvC scope (fq scope X.env) s3.heap.objs.size X.env))
   (compPost (model X.prog X.w) X.A X.xe use QQ (.ref D) s3.heap.objs.size) { s3 with heap := h4,toks := s3.toks + ([] : List (Str × Value)).length } := by
  refine iS (fun n s' => ∃ i σ' ys H',Inv X' [] σ' H' s' ∧ tn i s'.heap ∧ (∀ b ∈ fp,H' b = none) ∧ W i n σ' ys H') ?_ m0 ⟨0,_,[],_,I4,zH,fun b hb => (f3 b hb).1,w0⟩
  rintro n s5 ⟨i,σ5,ys,H5,I5,sD,CA,w5⟩
  rcases turn i n σ5 ys H5 w5 with ⟨stop,qn⟩ | ⟨go,N,hN,step⟩
  ·have z := T.done X' x1 x2 x3 x5 i [] s5 σ5 H5 (fun _ _ => False) I5 (stat CA) sD stop
   rw [x4] at z
   refine bO z fun r s6 ⟨hr,I6⟩ => ?_
   subst hr
   obtain ⟨mm,EY,_⟩ := I6.loc
   have hL : X'.env.locals = s3.heap.objs.size := by rw [x6]; rfl
   rw [hL] at EY
   have nC : H5 s3.heap.objs.size = none := by have := I6.free; rw [hL] at this; exact this
   have base := I6.base
   rw [x8,x9,x10,x11] at base
   have hok : fY X.prog X.w H5 s6.heap := by have q := I6.hok; rw [x1,x2] at q; exact q
   have os : s6.os = s3.os := by have := I6.os; rw [x8] at this; exact this
   have IX : Inv X pins σ H5 s6 := I3.call' os base hok I6.bare fun b hb => ⟨(f3 b hb).2.2.2.1,(f3 b hb).2.1,(f3 b hb).2.2.2.2.1,(f3 b hb).2.2.2.2.2⟩
   refine fin D s3.heap.objs.size H5 s6 IX qn nC (Nat.ne_of_gt I3.lt) I3.sz (fun x c e => ?_) (fun p hp => ?_) ⟨mm,EY⟩
   ·obtain ⟨v,q⟩ := I3.cell x c e
    exact Nat.ne_of_lt q.lt
   ·exact Nat.ne_of_lt (Heap.lt_size (I3.pin p hp).1)
  ·have z := T.item X' x1 x2 x3 x5 i [] s5 σ5 H5 (fun _ _ => False) I5 (stat CA) sD go
   rw [x4] at z
   refine bO z fun r s6 ⟨u,hr,h6⟩ => ?_
   subst hr
   refine bO h6 fun _ s7 ⟨x,H7,I7,r7,y7,CU,Kf⟩ => ?_
   have Kg := I7.pinned (stat Kf) (T.obj _ _ CU)
   have again : ∀ {σ' : St} {H' : Hp} {s' : Shared},Inv X' ([] ++ ji fp s7.heap) σ' H' s' → Inv X' [] σ' H' s' ∧ tn (i + 1) s'.heap ∧ ∀ b ∈ fp,H' b = none := fun {σ' H' s'} J => by
    refine ⟨J.gg,T.keep _ _ _ CU fun b hb o e => (J.pin (b,o) (List.mem_append_right _ (List.mem_append_right _ (dw hb e)))).1,fun b hb => ?_⟩
    obtain ⟨o,e,d⟩ := T.obj _ _ CU b hb
    exact (J.pin (b,o) (List.mem_append_right _ (List.mem_append_right _ (dw hb e)))).2.1
   have z := hg' _ s7 σ5 H7 x u _ Kg r7 (step x H7 y7)
   rw [x1,x2,x4,x6,x7] at z
   refine bO z fun _ s8 ⟨σ8,H8,I8,q8⟩ => ?_
   have z := ht' _ s8 σ8 H8 _ I8 q8
   rw [x1,x2,x4,x6,x7] at z
   refine bO z fun b s9 ⟨H9,I9,q9⟩ => ?_
   cases b with
   | false =>
    rw [if_neg Bool.false_ne_true] at q9 ⊢
    obtain ⟨m',hm,w9⟩ := hN _ _ _ q9
    obtain ⟨a1,a2,a3⟩ := again I9
    exact ⟨m',hm,i + 1,σ8,ys,H9,a1,a2,a3,w9⟩
   | true =>
    rw [if_pos rfl] at q9 ⊢
    have z := he' _ s9 σ8 H9 _ I9 q9
    rw [x1,x2,x4,x6,x7] at z
    refine bO z fun v' zf ⟨y,Jh,wF,r10,CV,hz,w10⟩ => ?_
    have z := dh (X := X') _ zf σ8 Jh (.ref D) [y] (.ref D) [v'] (fun _ H' => N σ8 (ys ++ [y]) H') wF rfl (.cons r10 .nil) ⟨D,ys,y,rfl,rfl,CV,hz,w10⟩
    rw [x1,x2,x4,x7] at z
    refine bO z fun _ XT ⟨_,Kh,Ki,_,w11⟩ => ?_
    obtain ⟨m',hm,w11⟩ := hN _ _ _ w11
    obtain ⟨a1,a2,a3⟩ := again Ki
    exact ⟨m',hm,i + 1,σ8,_,Kh,a1,a2,a3,w11⟩
 exact codeAny_compStart_list loop (T.self _ 0 _ _ _ zH loop)
theorem dW {X : Cx} {elt tg iter : Expr} {ifs : List Expr} {scope : Scope} {pos : Pos} {wi : TI} {g : TG} {tt : TT} {te : TE} {N' : List Str} {fr : List (Option Nat)} (S : cH X.env.scope scope X.N N' fr) (hc : X.calm = true) (hi : PI X tg iter wi)
  (hg : ∀ C s0 H0 fp,PG (dm X scope C N' s0 H0 fp) tg g) (ht : ∀ C s0 H0 fp,zG (dm X scope C N' s0 H0 fp) ifs tt) (he : ∀ C s0 H0 fp,PE (dm X scope C N' s0 H0 fp) elt te)
  (hs : ∀ x,foldedSetIterable iter X.env x = pure x := by intro _; rfl) : PE X (.ListComp elt [⟨tg,iter,ifs,0⟩] scope pos) (pX fr wi g tt te) := by
 intro pins s σ H Q I h
 rw [eval_ListComp]
 refine pY S hc hi hg ht he hs I h none _ fun D C H5 s6 IX q nC c1 c2 c3 c4 hm => ?_
 obtain ⟨m,hm⟩ := hm
 refine ⟨m,hm,fun h' hs' => ⟨.ref D,H5,IX.turned (t' := s6.toks) (it := C) (fun b o hb e => hs'.extBut b o hb e) nC c1 (.inr c2) c3 c4,rfl,q⟩⟩
theorem gX {X : Cx} {elt tg iter : Expr} {ifs : List Expr} {scope : Scope} {pos spos py : Pos} {y : Str} {i : Nat} {wi : TI} {g : TG} {tt : TT} {te : TE} {N' : List Str} {fr : List (Option Nat)} (hN : X.N.Nodup) (hy : X.N[i]? = some y) (hl : X.env.scope.names.lookup y = some .local)
  (S : cH X.env.scope scope X.N N' fr) (hc : X.calm = true) (hi : PI X tg iter wi)
  (hg : ∀ C s0 H0 fp,PG (dm X scope C N' s0 H0 fp) tg g) (ht : ∀ C s0 H0 fp,zG (dm X scope C N' s0 H0 fp) ifs tt) (he : ∀ C s0 H0 fp,PE (dm X scope C N' s0 H0 fp) elt te)
  (hs : ∀ x,foldedSetIterable iter X.env x = pure x := by intro _; rfl) (hsw : swapsWith (.ListComp elt [⟨tg,iter,ifs,0⟩] scope pos) (some (.Name y py)) spos.line X.env = pure true := by rfl) :
  PS X (.Assign [.Name y py] (.ListComp elt [⟨tg,iter,ifs,0⟩] scope pos) spos) (Cw (pX fr wi g tt te) (pM i)) := by
 intro pins s σ H D I h
 rw [exec_Assign_Name_used _ _ _ _ hsw]
 refine wpAny_bind (wpAny_standAt (wpAny_bind ?_))
 show wpAny _ X.A (do let _ ← comprehension (.ListComp elt [⟨tg,iter,ifs,0⟩] scope pos) scope X.env _ (newList []) false (eval iter X.env) (some (assign (.Name y py) X.env))) _ _ s
 refine wpAny_bind (bO (pY S hc hi hg ht he hs I h (some (assign (.Name y py) X.env)) (fun _ s' => SP X pins D .next s') fun L C H5 s6 IX q nC c1 c2 c3 c4 hm => ?_) fun _ s' hq => wpAny_pure (wpAny_pure hq))
 obtain ⟨m,hm⟩ := hm
 show wpAny _ X.A (assign (.Name y py) X.env (.ref L)) _ _ _
 refine wpAny_assign_Name (mn IX hN hy (.inl hl) (show RelV (.ref L) (Value.ref L) from rfl) (fun s7 I7 hch => ?_) (.inr hl))
 obtain ⟨a,hsb,ha⟩ := hch
 have XU : C ≠ a := by
  rcases ha with ha | ha
  ·rw [ha]; exact c1
  ·exact (c3 _ _ ha).symm
 refine ⟨m,hm.at' (fun o e => (hsb.2 C XU).trans e),fun h' hs' => ⟨_,H5,I7.turned (t' := s7.toks) (it := C) (fun b o hb e => hs'.extBut b o hb e) nC c1 (.inr c2) c3 c4,q⟩⟩
theorem ef {lo : Int} {n : Nat} {g : TG} {tt : TT} {te : TE} {R : Hp → Prop} {D : Addr} {σ0 : St} {H0 : Hp} (Pv : Nat → St → List V → Hp → Prop) (h0 : Pv 0 σ0 [] H0)
  (hs : ∀ i σ ys H,i < n → Pv i σ ys H → g (.int (lo + i)) σ H fun σ2 H2 => tt σ2 H2 fun b H3 =>
   if b = true then te σ2 H3 fun v H4 => H4 D = some (.lst ys) ∧ ys.length < sizeLine ∧ Pv (i + 1) σ2 (ys ++ [v]) (upd H4 D (.lst (ys ++ [v]))) else Pv (i + 1) σ2 ys H3)
  (hd : ∀ σ ys H,Pv n σ ys H → R H) :
  ∃ W : Nat → Nat → St → List V → Hp → Prop,(∃ m,W 0 m σ0 [] H0) ∧ ∀ i m σ ys H,W i m σ ys H →
   ((zm lo n).stop i H ∧ R H) ∨ ((zm lo n).go i H ∧ ∃ N : St → List V → Hp → Prop,(∀ σ' ys' H',N σ' ys' H' → ∃ m',m' < m ∧ W (i + 1) m' σ' ys' H') ∧ ∀ x H',(zm lo n).vH i H x H' → g x σ H' fun σ2 H2 => tt σ2 H2 fun b H3 =>
    if b = true then te σ2 H3 fun v H4 => H4 D = some (.lst ys) ∧ ys.length < sizeLine ∧ N σ2 (ys ++ [v]) (upd H4 D (.lst (ys ++ [v]))) else N σ2 ys H3) := by
 refine ⟨fun i m σ ys H => m = n - i ∧ i ≤ n ∧ Pv i σ ys H,⟨n,by simp,Nat.zero_le _,h0⟩,?_⟩
 rintro i m σ ys H ⟨rfl,hi,p⟩
 by_cases hlt : i < n
 ·refine .inr ⟨hlt,Pv (i + 1),fun σ' ys' H' p' => ⟨n - (i + 1),by omega,rfl,hlt,p'⟩,fun x H' y => ?_⟩
  obtain ⟨e,y⟩ := y
  subst e y
  exact hs i σ ys _ hlt p
 ·have e : i = n := by omega
  subst e
  exact .inl ⟨Nat.le_refl _,hd σ ys H p⟩
theorem gY {K : PySem.W.Frag} {a : Addr} {xs : List V} {g : TG} {tt : TT} {te : TE} {R : Hp → Prop} {D : Addr} {σ0 : St} {H0 : Hp} (Pv : Nat → St → List V → Hp → Prop) (h0 : Pv 0 σ0 [] H0) (hl : ∀ i σ ys H,i ≤ xs.length → Pv i σ ys H → aZ K H a xs)
  (hs : ∀ i x σ ys H,xs[i]? = some x → Pv i σ ys H → g x σ H fun σ2 H2 => tt σ2 H2 fun b H3 =>
   if b = true then te σ2 H3 fun v H4 => H4 D = some (.lst ys) ∧ ys.length < sizeLine ∧ Pv (i + 1) σ2 (ys ++ [v]) (upd H4 D (.lst (ys ++ [v]))) else Pv (i + 1) σ2 ys H3)
  (hd : ∀ σ ys H,Pv xs.length σ ys H → R H) :
  ∃ W : Nat → Nat → St → List V → Hp → Prop,(∃ m,W 0 m σ0 [] H0) ∧ ∀ i m σ ys H,W i m σ ys H →
   ((BA K a).stop i H ∧ R H) ∨ ((BA K a).go i H ∧ ∃ N : St → List V → Hp → Prop,(∀ σ' ys' H',N σ' ys' H' → ∃ m',m' < m ∧ W (i + 1) m' σ' ys' H') ∧ ∀ x H',(BA K a).vH i H x H' → g x σ H' fun σ2 H2 => tt σ2 H2 fun b H3 =>
    if b = true then te σ2 H3 fun v H4 => H4 D = some (.lst ys) ∧ ys.length < sizeLine ∧ N σ2 (ys ++ [v]) (upd H4 D (.lst (ys ++ [v]))) else N σ2 ys H3) := by
 refine ⟨fun i m σ ys H => m = xs.length - i ∧ i ≤ xs.length ∧ Pv i σ ys H,⟨xs.length,by simp,Nat.zero_le _,h0⟩,?_⟩
 rintro i m σ ys H ⟨rfl,hi,p⟩
 have q := hl i σ ys H hi p
 by_cases hlt : i < xs.length
 ·refine .inr ⟨⟨xs,xs[i],q,by simp [hlt]⟩,Pv (i + 1),fun σ' ys' H' p' => ⟨xs.length - (i + 1),by omega,rfl,hlt,p'⟩,fun x H' y => ?_⟩
  obtain ⟨e,y⟩ := y
  subst e
  exact hs i x σ ys _ (y xs q) p
 ·have e : i = xs.length := by omega
  subst e
  exact .inl ⟨⟨xs,q,Nat.le_refl _⟩,hd σ ys H p⟩
end L2
namespace SF
open PySem
def lS (xs : Array Nat) : Prop := ∀ i k,i < k → k < xs.size → xs.getD i 0 < xs.getD k 0
theorem wG {xs : Array Nat} {i a b : Nat} (h : i < xs.size) : xs.getD i a = xs.getD i b := by
 simp [Array.getD,h]
theorem zI {xs : Array Nat} {j : Nat} (hr : lS xs) : ∀ (f lo hi : Nat),lo ≤ hi → hi ≤ xs.size → hi - lo ≤ f → (∀ i,i < lo → xs.getD i 0 < j) → (∀ i,hi ≤ i → i < xs.size → j ≤ xs.getD i 0) →
  SetTable.below.go xs j f lo hi ≤ xs.size ∧ (∀ i,i < SetTable.below.go xs j f lo hi → xs.getD i 0 < j) ∧ ∀ i,SetTable.below.go xs j f lo hi ≤ i → i < xs.size → j ≤ xs.getD i 0 := by
 intro f
 induction f with
 | zero =>
  intro lo hi h1 h2 h3 h4 h5
  have e : lo = hi := by omega
  subst e
  exact ⟨h2,h4,h5⟩
 | succ f ih =>
  intro lo hi h1 h2 h3 h4 h5
  unfold SetTable.below.go
  by_cases hlt : lo < hi
  ·rw [if_pos hlt]
   have m1 : (lo + hi) / 2 < hi := by omega
   have m2 : lo ≤ (lo + hi) / 2 := by omega
   dsimp only
   rw [wG (b := 0) (Nat.lt_of_lt_of_le m1 h2)]
   by_cases hm : xs.getD ((lo + hi) / 2) 0 < j
   ·rw [if_pos hm]
    refine ih _ _ (by omega) h2 (by omega) (fun i hi' => ?_) h5
    rcases Nat.lt_or_ge i ((lo + hi) / 2) with q | q
    ·exact Nat.lt_trans (hr i _ q (by omega)) hm
    ·have e : i = (lo + hi) / 2 := by omega
     rw [e]; exact hm
   ·rw [if_neg hm]
    refine ih _ _ m2 (by omega) (by omega) h4 (fun i hi' hs => ?_)
    rcases Nat.lt_or_ge ((lo + hi) / 2) i with q | q
    ·exact Nat.le_trans (Nat.not_lt.mp hm) (Nat.le_of_lt (hr _ i q hs))
    ·have e : i = (lo + hi) / 2 := by omega
     rw [e]; exact Nat.not_lt.mp hm
  ·rw [if_neg hlt]
   have e : lo = hi := by omega
   subst e
   exact ⟨h2,h4,h5⟩
theorem kJ {xs : Array Nat} {j : Nat} (hr : lS xs) : SetTable.below xs j ≤ xs.size ∧ (∀ i,i < SetTable.below xs j → xs.getD i 0 < j) ∧ ∀ i,SetTable.below xs j ≤ i → i < xs.size → j ≤ xs.getD i 0 :=
 zI hr xs.size 0 xs.size (Nat.zero_le _) (Nat.le_refl _) (Nat.le_refl _) (fun i h => absurd h (Nat.not_lt_zero _)) (fun i h1 h2 => absurd (Nat.lt_of_lt_of_le h2 h1) (Nat.lt_irrefl _))
theorem below_at {xs : Array Nat} (hr : lS xs) {i s : Nat} (h1 : ∀ k,k < i → xs.getD k 0 < s) (h2 : i < xs.size → s ≤ xs.getD i 0) (hi : i ≤ xs.size) : SetTable.below xs s = i := by
 obtain ⟨b1,b2,b3⟩ := kJ (j := s) hr
 rcases Nat.lt_trichotomy (SetTable.below xs s) i with q | q | q
 ·have := b3 _ (Nat.le_refl _) (by omega)
  have := h1 _ q
  omega
 ·exact q
 ·have := b2 i q
  have := h2 (by omega)
  omega
theorem jr {xs : Array Nat} : lS xs ↔ xs.toList.Pairwise (· < ·) := by
 rw [List.pairwise_iff_getElem]
 constructor
 ·intro h i k hi hk hik
  have h' := h i k hik (by simpa using hk)
  have hi' : i < xs.size := by simpa using hi
  have hk' : k < xs.size := by simpa using hk
  simpa [Array.getD,hi',hk'] using h'
 ·intro h i k hik hk
  have hi : i < xs.size := Nat.lt_trans hik hk
  have h' := h i k (by simpa using hi) (by simpa using hk) hik
  simpa [Array.getD,hi,hk] using h'
theorem pZ {xs : Array Nat} {j : Nat} (hr : lS xs) (hn : ∀ i,i < xs.size → xs.getD i 0 ≠ j) : lS (SetTable.insertAt xs (SetTable.below xs j) j) := by
 obtain ⟨b1,b2,b3⟩ := kJ (j := j) hr
 rw [jr,SetTable.toList_insertAt]
 have hp := jr.mp hr
 have take : ∀ a ∈ xs.toList.take (SetTable.below xs j),a < j := fun a ha => by
  obtain ⟨i,hi,e⟩ := List.getElem_of_mem ha
  have hi' : i < SetTable.below xs j ∧ i < xs.size := by
   rw [List.length_take] at hi
   simp at hi
   omega
  have := b2 i hi'.1
  rw [← e,List.getElem_take]
  simpa [Array.getD,hi'.2] using this
 have drop : ∀ a ∈ xs.toList.drop (SetTable.below xs j),j < a := fun a ha => by
  obtain ⟨i,hi,e⟩ := List.getElem_of_mem ha
  have hi' : SetTable.below xs j + i < xs.size := by
   rw [List.length_drop] at hi
   simp at hi
   omega
  have h1 := b3 (SetTable.below xs j + i) (Nat.le_add_right _ _) hi'
  have h2 := hn _ hi'
  rw [← e,List.getElem_drop]
  have h3 : j < xs.getD (SetTable.below xs j + i) 0 := by omega
  simpa [Array.getD,hi'] using h3
 refine List.pairwise_append.mpr ⟨hp.sublist (List.take_sublist _ _),List.pairwise_cons.mpr ⟨drop,hp.sublist (List.drop_sublist _ _)⟩,fun a ha b hb => ?_⟩
 rcases List.mem_cons.mp hb with e | hb
 ·rw [e]; exact take a ha
 ·exact Nat.lt_trans (take a ha) (drop b hb)
structure kK (t : SetTable) : Prop where
 Ji : t.dummies = #[]
 up : t.plain = true → lS t.place
theorem wH {t : SetTable} (h : t.dummies = #[]) (j : Nat) : t.slot j ≠ .dummy := by
 unfold SetTable.slot
 dsimp only
 split
 ·intro z; cases z
 ·have e : SetTable.has t.dummies j = false := by rw [h]; simp [SetTable.has]
  rw [if_neg (by rw [e]; exact Bool.false_ne_true)]
  intro z; cases z
theorem qZ {t : SetTable} (h : t.dummies = #[]) {f : Nat → Int} {x : Int} : ∀ (n : Nat) (p : SetTable.Probe) {j : Nat} {d : Option Nat},SetTable.probe.go t f x n p = some (.empty j d) → t.slot j = .empty ∧ d = p.dummy := by
 intro n
 induction n with
 | zero => intro p j d e; cases e
 | succ n ih =>
  intro p j d e
  unfold SetTable.probe.go at e
  cases q : t.slot p.j with
  | empty =>
   rw [q] at e
   cases e
   exact ⟨q,rfl⟩
  | dummy => exact absurd q (wH h _)
  | live i =>
   rw [q] at e
   dsimp only at e
   have XW : (t.advance p).dummy = p.dummy := by
    unfold SetTable.advance
    split <;> rfl
   split at e
   ·cases e
   ·have := ih _ e
    rw [XW] at this
    exact this
theorem wI {t : SetTable} (hr : lS t.place) {j : Nat} (h : t.slot j = .empty) : ∀ i,i < t.place.size → t.place.getD i 0 ≠ j := by
 intro i hi e
 have hb : SetTable.below t.place j = i := below_at hr (fun k hk => by rw [← e]; exact hr k i hk hi) (fun _ => by rw [e]; exact Nat.le_refl _) (Nat.le_of_lt hi)
 have q : t.place[SetTable.below t.place j]? = some j := by
  rw [hb,← e]
  simp [Array.getD,hi]
 unfold SetTable.slot at h
 dsimp only at h
 rw [if_pos (by rw [q]; simp)] at h
 cases h
theorem dI (t : SetTable) (n : Nat) : kK (t.standIn n) ∧ (t.standIn n).led = t.led := ⟨⟨rfl,fun h => by cases h⟩,rfl⟩
theorem q0 {t : SetTable} (es : Array (Int × Value)) (h : Int) (x : Value) (I : kK t) : kK (layNew t es h x).2.1 ∧ (layNew t es h x).2.1.led = t.led := by
 unfold layNew
 cases e : t.freeSlot h with
 | none => exact dI _ _
 | some p =>
  obtain ⟨slot,wd⟩ := p
  dsimp only
  unfold SetTable.freeSlot at e
  cases q : t.probe (fun _ => h + 1) h (t.probeStart h) with
  | none => rw [q] at e; cases e
  | some m =>
   rw [q] at e
   cases m with
   | candidate a b c => cases e
   | empty j d =>
    obtain ⟨h1,h2⟩ := qZ I.Ji _ _ q
    have h2 : d = none := h2
    subst h2
    have e1 : j = slot := by
     have := congrArg Prod.fst (Option.some.inj e)
     exact this
    subst e1
    have key : kK (t.put j).1 ∧ (t.put j).1.led = t.led := by
     refine ⟨⟨?_,fun hp => ?_⟩,rfl⟩
     ·show (if SetTable.has t.dummies j then _ else t.dummies) = #[]
      rw [if_neg (by rw [I.Ji]; simp [SetTable.has])]
      exact I.Ji
     ·exact pZ (I.up hp) (wI (I.up hp) h1)
    unfold SetTable.orStandIn
    split
    ·exact key
    ·exact ⟨(dI _ _).1,(dI _ _).2.trans key.2⟩
theorem p9 {β : Type} (g : Nat → Option β) : ∀ l : List Nat,(l.filterMap fun j => (g j).map (j,·)).map (·.1) = l.filter fun j => (g j).isSome
 | [] => rfl
 | a :: r => by
  have ih := p9 g r
  cases e : g a with
  | none => simp [List.filterMap_cons,e,ih]
  | some b => simp [List.filterMap_cons,e,ih]
theorem oC {t : SetTable} (es : Array (Int × Value)) (n : Nat) : kK (relayAll t es n).2.1 ∧ (relayAll t es n).2.1.led = t.led := by
 unfold relayAll
 cases e : t.relaid (es.map (·.1)) n with
 | none => exact dI _ _
 | some p =>
  obtain ⟨t',order⟩ := p
  dsimp only
  split
  ·unfold SetTable.relaid SetTable.laid at e
   cases q : SetTable.layClean (SetTable.sizeAbove n - 1) (es.map (·.1)) with
   | none => rw [q] at e; cases e
   | some owner =>
    rw [q] at e
    have e := congrArg Prod.fst (Option.some.inj e)
    dsimp only at e
    subst e
    refine ⟨⟨rfl,fun _ => ?_⟩,rfl⟩
    rw [jr]
    dsimp only
    have z := p9 (fun j => owner.getD j none) (List.range (SetTable.sizeAbove n - 1 + 1))
    rw [z]
    exact List.pairwise_lt_range.sublist List.filter_sublist
  ·exact dI _ _
theorem iA {α : Type} : ∀ (l : List α) (i : Nat) (h : i < l.length),List.Perm (l[i] :: l.eraseIdx i) l
 | a :: r,0,_ => List.Perm.refl _
 | a :: r,i + 1,h => by
  have q := iA r i (by simpa using h)
  show List.Perm (r[i]'(by simpa using h) :: a :: r.eraseIdx i) (a :: r)
  exact (List.Perm.swap _ _ _).trans (q.cons a)
theorem sV {α : Type} (next : Nat → Nat) : ∀ (n k : Nat) (left : List α) (out : Array α),n = left.length → List.Perm (pickOrder.go next n k left out).toList (out.toList ++ left)
 | 0,k,left,out,h => by
  have e : left = [] := List.eq_nil_of_length_eq_zero h.symm
  subst e
  simp [pickOrder.go]
 | n + 1,k,left,out,h => by
  unfold pickOrder.go
  have hlt : next k % left.length < left.length := Nat.mod_lt _ (by omega)
  have e : left[next k % left.length]? = some left[next k % left.length] := List.getElem?_eq_getElem hlt
  rw [e]
  dsimp only
  refine (sV next n (k + 1) _ _ (by rw [List.length_eraseIdx,if_pos hlt]; omega)).trans ?_
  rw [Array.toList_push,List.append_assoc]
  refine List.Perm.append_left _ ?_
  show List.Perm (left[next k % left.length] :: left.eraseIdx (next k % left.length)) left
  exact iA _ _ hlt
theorem uT {α : Type} (next : Nat → Nat) (xs : Array α) : List.Perm (pickOrder next xs).toList xs.toList := by
 have := sV next xs.size 0 xs.toList #[] (by simp)
 simpa [pickOrder] using this
end SF
namespace SF
open PySem PySem.Calls PyProof.Rows
theorem bu : Slot "set_iterator" "__next__" "set_iterator.__next__" :=
 .of (owner := "set_iterator") (n := "__next__") (by rw [typeLookup_type,builtinLookup_eq_fast]; kernel_rfl) (by decide +kernel) (by decide +kernel) (by decide +kernel)
  (by first | exact .inl (by decide +kernel) | exact .inr (by decide +kernel)) (by rw [isSubtype_type]; kernel_rfl)
theorem dE : entryFor table "set_iterator.__next__" = some Builtin.«set_iterator.__next__» := entryFor_of_tree (by kernel_rfl)
theorem dX (a : Value) : argsOk "set_iterator.__next__" ⟨[a],[]⟩ := by unfold argsOk; kernel_rfl
theorem kM : entryFor table "set.__iter__" = some Builtin.«frozenset.__iter__» :=
 entryFor_alias (id' := "frozenset.__iter__") (by kernel_rfl) rfl (by decide +kernel) (by kernel_rfl)
section
variable {prog : Program} {w : World} {A : Around} {E : Value → Shared → Prop} {s : Shared}
def cG (h : Heap) (a : Addr) (es : Array (Int × Value)) (ep : Nat) (t : SetTable) : Prop := ∃ o,h.get? a = some o ∧ o.ExactSet ∧ o.data = .set es ep t
def iB (h : Heap) (I : Addr) (first : Value) (i : Nat) (a : Addr) (n ep : Nat) : Prop :=
 ∃ o,h.get? I = some o ∧ o.cls = .type "set_iterator" ∧ o.data = .fields #[first,.int i 0,.ref a,.int n 0,.int ep 0]
theorem iB.typeIs {I : Addr} {first : Value} {i : Nat} {a : Addr} {n ep : Nat} (x : iB s.heap I first i a n ep) : s.TypeIs (.ref I) "set_iterator" := let ⟨o,ho,hc,_⟩ := x; ⟨o,ho,hc⟩
theorem wJ {a I : Addr} {es : Array (Int × Value)} {ep : Nat} {t : SetTable} {sl i : Nat} {v : Value} {sl' : Nat} {Q : Option Value → Shared → Prop}
  (hs : cG s.heap a es ep t) (hf : t.fits es.size = true) (hi : iB s.heap I (.int sl 0) i a es.size ep)
  (hN : ∀ (s : Shared) (A : Around) (E : Value → Shared → Prop) (R : Option (Value × Nat) → Shared → Prop),cG s.heap a es ep t → R (some (v,sl')) s → wpAny (model prog w) A (setNext a sl i ep) R E s)
  (hQ : ∀ h',iB h' I (.int sl' 0) (i + 1) a es.size ep → Heap.SameBut I s.heap h' → Q (some v) { s with heap := h' }) : wpAny (model prog w) A (pyNext (.ref I)) Q E s := by
 obtain ⟨o,ho,hc,hd⟩ := id hi
 obtain ⟨oa,hoa,hex,hda⟩ := id hs
 unfold pyNext
 refine wpAny_bind (wpAny_attempt (wpAny_callSpecial?_slot (name := Str.ofString "__next__") hi.typeIs bu
  (wpAny_call_entry bu hi.typeIs dE ?_ (dX _))))
 unfold Builtin.«set_iterator.__next__»
 refine wpAny_bind (wpAny_pure ?_)
 refine wpAny_bind (wpAny_fieldsOf ho hd ?_)
 dsimp only
 refine wpAny_bind (wpAny_setEntries_of hoa hda hf ?_)
 rw [if_neg (by simp)]
 simp only [Int.toNat_natCast]
 refine wpAny_bind (hN s _ _ _ hs ?_)
 dsimp only
 refine wpAny_bind (wpAny_setField ho hd (by simp) ?_)
 have ho1 := Heap.get?_update_self (Obj.mapFields (·.setIfInBounds 0 (rawInt (sl' : Int)))) ho (Obj.isFreed_of_fields (Obj.data_mapFields hd _))
 have hd1 := Obj.data_mapFields hd (·.setIfInBounds 0 (rawInt (sl' : Int)))
 refine wpAny_bind (wpAny_setField ho1 hd1 (by simp) ?_)
 have ho2 := Heap.get?_update_self (Obj.mapFields (·.setIfInBounds 1 (rawInt ((i : Int) + 1)))) ho1 (Obj.isFreed_of_fields (Obj.data_mapFields hd1 _))
 have hd2 := Obj.data_mapFields hd1 (·.setIfInBounds 1 (rawInt ((i : Int) + 1)))
 refine wpAny_pure ⟨_,rfl,wpAny_pure (hQ _ ⟨_,ho2,?_,?_⟩ ((Heap.SameBut.update ..).trans (Heap.SameBut.update ..)))⟩
 ·rw [Obj.cls_mapFields,Obj.cls_mapFields]
  exact hc
 ·rw [hd2]
  simp [rawInt]
theorem end_int {a I : Addr} {es : Array (Int × Value)} {ep : Nat} {t : SetTable} {sl i : Nat} {Q : Option Value → Shared → Prop} (hh : A.handled = none)
  (hs : cG s.heap a es ep t) (hf : t.fits es.size = true) (hi : iB s.heap I (.int sl 0) i a es.size ep)
  (hN : ∀ (s : Shared) (A : Around) (E : Value → Shared → Prop) (R : Option (Value × Nat) → Shared → Prop),cG s.heap a es ep t → R none s → wpAny (model prog w) A (setNext a sl i ep) R E s)
  (hQ : ∀ h',Heap.ExtBut I s.heap h' → Q none { s with heap := h' }) : wpAny (model prog w) A (pyNext (.ref I)) Q E s := by
 obtain ⟨o,ho,hc,hd⟩ := id hi
 obtain ⟨oa,hoa,hex,hda⟩ := id hs
 unfold pyNext
 refine wpAny_bind (wpAny_attempt (wpAny_callSpecial?_slot (name := Str.ofString "__next__") hi.typeIs bu
  (wpAny_call_entry bu hi.typeIs dE ?_ (dX _))))
 unfold Builtin.«set_iterator.__next__»
 refine wpAny_bind (wpAny_pure ?_)
 refine wpAny_bind (wpAny_fieldsOf ho hd ?_)
 dsimp only
 refine wpAny_bind (wpAny_setEntries_of hoa hda hf ?_)
 rw [if_neg (by simp)]
 simp only [Int.toNat_natCast]
 refine wpAny_bind (hN s _ _ _ hs ?_)
 dsimp only
 refine wpAny_bind (wpAny_setField ho hd (by simp) ?_)
 refine wpAny_bind ?_
 simp only [newExc,newTuple]
 refine wpAny_bind (wpAny_newObj_type ?_ (by size_fits))
 refine wpAny_bind (m := firstArgMember _ _) (wpAny_of_eq (a := Value.none) (by first | rfl | (simp only [firstArgMember]; rfl)) ?_)
 refine wpAny_newObj_type ?_ (by size_fits)
 simp only [raiseNew]
 refine wpAny_bind (wpAny_handled ?_)
 rw [show A.in1.handled = none from hh]
 refine wpAny_bind (wpAny_pure (wpAny_throw ?_))
 refine wpAny_bind (wpAny_isInstance (T := "StopIteration") (b := true) ⟨_,Heap.get?_push_size _ rfl,rfl⟩ isSubtype_stop ?_)
 exact wpAny_pure (hQ _ (((Heap.SameBut.update ..).extBut.push _).push _))
theorem rc {a I T : Addr} {es : Array (Int × Value)} {ep : Nat} {t : SetTable} {i p : Nat} {ps : Array Value} {k : Nat} {tk : Tok} {oT : Obj} {c : Int} {v : Value} {Q : Option Value → Shared → Prop}
  (hs : cG s.heap a es ep t) (hf : t.fits es.size = true) (hi : iB s.heap I (.ref T) i a es.size ep) (hT : s.heap.get? T = some oT) (hTd : oT.data = .seq ps k) (hp : ps[i]? = some (.int p tk)) (hv : es[p]? = some (c,v))
  (hQ : ∀ h',iB h' I (.ref T) (i + 1) a es.size ep → Heap.SameBut I s.heap h' → Q (some v) { s with heap := h' }) : wpAny (model prog w) A (pyNext (.ref I)) Q E s := by
 obtain ⟨o,ho,hc,hd⟩ := id hi
 obtain ⟨oa,hoa,hex,hda⟩ := id hs
 unfold pyNext
 refine wpAny_bind (wpAny_attempt (wpAny_callSpecial?_slot (name := Str.ofString "__next__") hi.typeIs bu
  (wpAny_call_entry bu hi.typeIs dE ?_ (dX _))))
 unfold Builtin.«set_iterator.__next__»
 refine wpAny_bind (wpAny_pure ?_)
 refine wpAny_bind (wpAny_fieldsOf ho hd ?_)
 dsimp only
 refine wpAny_bind (wpAny_setEntries_of hoa hda hf ?_)
 rw [if_neg (by simp)]
 simp only [Int.toNat_natCast]
 refine wpAny_bind ?_
 unfold seqItems?
 refine wpAny_bind (wpAny_load hT ?_)
 rw [hTd]
 refine wpAny_pure ?_
 dsimp only
 rw [hp]
 dsimp only
 refine wpAny_bind ?_
 unfold setNextDrawn
 refine wpAny_bind (wpAny_setState_of hoa hda hf ?_)
 dsimp only
 rw [if_neg (by simp)]
 simp only [Int.toNat_natCast]
 rw [hv]
 refine wpAny_pure ?_
 refine wpAny_bind (wpAny_setField ho hd (by simp) ?_)
 have ho2 := Heap.get?_update_self (Obj.mapFields (·.setIfInBounds 1 (rawInt ((i : Int) + 1)))) ho (Obj.isFreed_of_fields (Obj.data_mapFields hd _))
 have hd2 := Obj.data_mapFields hd (·.setIfInBounds 1 (rawInt ((i : Int) + 1)))
 refine wpAny_pure ⟨_,rfl,wpAny_pure (hQ _ ⟨_,ho2,?_,?_⟩ (Heap.SameBut.update ..))⟩
 ·rw [Obj.cls_mapFields]
  exact hc
 ·rw [hd2]
  simp [rawInt]
theorem uU {a I T : Addr} {es : Array (Int × Value)} {ep : Nat} {t : SetTable} {i : Nat} {ps : Array Value} {k : Nat} {oT : Obj} {Q : Option Value → Shared → Prop} (hh : A.handled = none)
  (hs : cG s.heap a es ep t) (hf : t.fits es.size = true) (hi : iB s.heap I (.ref T) i a es.size ep) (hT : s.heap.get? T = some oT) (hTd : oT.data = .seq ps k) (hp : ps[i]? = none)
  (hQ : ∀ h',Heap.ExtBut I s.heap h' → Q none { s with heap := h' }) : wpAny (model prog w) A (pyNext (.ref I)) Q E s := by
 obtain ⟨o,ho,hc,hd⟩ := id hi
 obtain ⟨oa,hoa,hex,hda⟩ := id hs
 unfold pyNext
 refine wpAny_bind (wpAny_attempt (wpAny_callSpecial?_slot (name := Str.ofString "__next__") hi.typeIs bu
  (wpAny_call_entry bu hi.typeIs dE ?_ (dX _))))
 unfold Builtin.«set_iterator.__next__»
 refine wpAny_bind (wpAny_pure ?_)
 refine wpAny_bind (wpAny_fieldsOf ho hd ?_)
 dsimp only
 refine wpAny_bind (wpAny_setEntries_of hoa hda hf ?_)
 rw [if_neg (by simp)]
 simp only [Int.toNat_natCast]
 refine wpAny_bind ?_
 unfold seqItems?
 refine wpAny_bind (wpAny_load hT ?_)
 rw [hTd]
 refine wpAny_pure ?_
 dsimp only
 rw [hp]
 dsimp only
 refine wpAny_bind (wpAny_setField ho hd (by simp) ?_)
 have ho1 := Heap.get?_update_self (Obj.mapFields (·.setIfInBounds 0 (rawInt 0))) ho (Obj.isFreed_of_fields (Obj.data_mapFields hd _))
 have hd1 := Obj.data_mapFields hd (·.setIfInBounds 0 (rawInt 0))
 refine wpAny_bind (wpAny_setField ho1 hd1 (by simp) ?_)
 refine wpAny_bind ?_
 simp only [newExc,newTuple]
 refine wpAny_bind (wpAny_newObj_type ?_ (by size_fits))
 refine wpAny_bind (m := firstArgMember _ _) (wpAny_of_eq (a := Value.none) (by first | rfl | (simp only [firstArgMember]; rfl)) ?_)
 refine wpAny_newObj_type ?_ (by size_fits)
 simp only [raiseNew]
 refine wpAny_bind (wpAny_handled ?_)
 rw [show A.in1.handled = none from hh]
 refine wpAny_bind (wpAny_pure (wpAny_throw ?_))
 refine wpAny_bind (wpAny_isInstance (T := "StopIteration") (b := true) ⟨_,Heap.get?_push_size _ rfl,rfl⟩ isSubtype_stop ?_)
 exact wpAny_pure (hQ _ ((((Heap.SameBut.update ..).trans (Heap.SameBut.update ..)).extBut.push _).push _))
theorem iT {a : Addr} {es : Array (Int × Value)} {ep : Nat} {t : SetTable} {sl i : Nat} {R : Option (Value × Nat) → Shared → Prop} (hb : w.params.followText "set-order" = true)
  (hs : cG s.heap a es ep t) (hf : t.fits es.size = true) (h : R (((pickOrder (w.params.setOrder a ep) es)[i]?).map fun e => (e.2,sl)) s) : wpAny (model prog w) A (setNext a sl i ep) R E s := by
 obtain ⟨o,ho,hex,hd⟩ := id hs
 unfold setNext setsByText
 refine wpAny_bind (wpAny_setState_of ho hd hf ?_)
 dsimp only
 refine wpAny_bind (wpAny_bind (wpAny_askSetting (wpAny_pure ?_)))
 rw [if_pos (show (⟨(model prog w).prog,(model prog w).w.params⟩ : Setting).params.followText "set-order" = true from hb),if_neg (by simp)]
 refine wpAny_bind ?_
 unfold setWalk setsByText
 refine wpAny_bind (wpAny_setState_of ho hd hf ?_)
 dsimp only
 refine wpAny_bind (wpAny_bind (wpAny_askSetting (wpAny_pure ?_)))
 rw [if_pos (show (⟨(model prog w).prog,(model prog w).w.params⟩ : Setting).params.followText "set-order" = true from hb)]
 exact wpAny_bind (wpAny_askSetting (wpAny_pure (wpAny_pure h)))
theorem il {a : Addr} {es : Array (Int × Value)} {ep : Nat} {t : SetTable} {sl i : Nat} {R : Option (Value × Nat) → Shared → Prop} (hb : w.params.followText "set-order" = false) (hp : (!t.plain && decide (es.size > 1)) = false) (hl : t.led = true)
  (hs : cG s.heap a es ep t) (hf : t.fits es.size = true)
  (h : R (match es[SetTable.below t.place sl]?,t.place[SetTable.below t.place sl]? with | some (_,x),some j => some (x,j + 1) | _,_ => none) s) : wpAny (model prog w) A (setNext a sl i ep) R E s := by
 obtain ⟨o,ho,hex,hd⟩ := id hs
 unfold setNext setsByText
 refine wpAny_bind (wpAny_setState_of ho hd hf ?_)
 dsimp only
 refine wpAny_bind (wpAny_bind (wpAny_askSetting (wpAny_pure ?_)))
 rw [if_neg (show ¬ (⟨(model prog w).prog,(model prog w).w.params⟩ : Setting).params.followText "set-order" = true from by show ¬ w.params.followText "set-order" = true; rw [hb]; exact Bool.false_ne_true)]
 refine wpAny_ite_split (fun hab => absurd (show (!t.plain && decide (es.size > 1)) = true from hab) (by rw [hp]; exact Bool.false_ne_true)) (fun _ => ?_)
 refine wpAny_bind ?_
 show wpAny (model prog w) A (if (!t.led && !es.isEmpty) = true then unsupported "set:maker-not-led" else pure ()) _ _ s
 rw [if_neg (by rw [hl]; simp)]
 exact wpAny_pure (wpAny_pure h)
theorem oF {src : Source} {n : Nat} {Q : Nat → Shared → Prop} (hn : 0 < n) (h : ∀ i d,i < n → Q i { s with drawn := d }) : wpAny (model prog w) A (choose src n) Q E s := fun _ _ _ =>
 ⟨Nat.ne_of_gt hn,h _ _ (Nat.mod_lt _ hn)⟩
theorem gu : ∀ (n : Nat) (l : List Nat) (s : Shared) {Q : List Nat → Shared → Prop},n = l.length → (∀ r d,List.Perm r l → Q r { s with drawn := d }) → wpAny (model prog w) A (drawOrder n l) Q E s
 | 0,l,s,Q,hn,h => by
  have e : l = [] := List.eq_nil_of_length_eq_zero hn.symm
  subst e
  exact wpAny_pure (h [] s.drawn (List.Perm.refl _))
 | n + 1,[],s,Q,hn,h => by cases hn
 | n + 1,x :: r,s,Q,hn,h => by
  unfold drawOrder
  refine wpAny_bind (oF (by simp) fun i d hi => ?_)
  have e : (x :: r)[i]? = some (x :: r)[i] := List.getElem?_eq_getElem hi
  rw [e]
  dsimp only
  refine wpAny_bind (gu n _ _ (by rw [List.length_eraseIdx,if_pos hi]; omega) fun q d' hq => wpAny_pure ?_)
  exact h _ d' ((hq.cons _).trans (iA _ _ hi))
structure SI (prog : Program) (w : World) (s : Shared) (a : Addr) (es : Array (Int × Value)) (ep : Nat) (t : SetTable) : Prop where
 hs : cG s.heap a es ep t
 fit : t.fits es.size = true
 inv : kK t
 led : w.params.followText "set-order" = true ∨ t.led = true
theorem cG.typeIs {a : Addr} {es : Array (Int × Value)} {ep : Nat} {t : SetTable} (x : cG s.heap a es ep t) : s.TypeIs (.ref a) "set" := let ⟨o,ho,hc,_⟩ := x; ⟨o,ho,hc.1⟩
theorem cG.lt {h : Heap} {a : Addr} {es : Array (Int × Value)} {ep : Nat} {t : SetTable} (x : cG h a es ep t) : a < h.objs.size := let ⟨o,ho,_⟩ := x; Heap.lt_size ho
theorem cG.at {h h' : Heap} {a : Addr} {es : Array (Int × Value)} {ep : Nat} {t : SetTable} (x : cG h a es ep t) (e : ∀ o,h.get? a = some o → h'.get? a = some o) : cG h' a es ep t := let ⟨o,ho,r⟩ := x; ⟨o,e _ ho,r⟩
theorem iB.at {h h' : Heap} {I : Addr} {first : Value} {i : Nat} {a : Addr} {n ep : Nat} (x : iB h I first i a n ep) (e : ∀ o,h.get? I = some o → h'.get? I = some o) : iB h' I first i a n ep := let ⟨o,ho,r⟩ := x; ⟨o,e _ ho,r⟩
theorem iU : Slot "set_iterator" "__iter__" "set_iterator.__iter__" :=
 .of (owner := "set_iterator") (n := "__iter__") (by rw [typeLookup_type,builtinLookup_eq_fast]; kernel_rfl) (by decide +kernel) (by decide +kernel) (by decide +kernel)
  (by first | exact .inl (by decide +kernel) | exact .inr (by decide +kernel)) (by rw [isSubtype_type]; kernel_rfl)
theorem wK {a : Addr} {es : Array (Int × Value)} {ep : Nat} {t : SetTable} {Q : Value → Shared → Prop} (S : SI prog w s a es ep t) (hsz : es.size ≤ sizeLine)
  (h1 : (w.params.followText "set-order" = true ∨ (!t.plain && decide (es.size > 1)) = false) → Q (.ref s.heap.objs.size) { s with heap := s.heap.push { cls := .type "set_iterator",data := .fields #[.int 0 0,.int 0 0,.ref a,.int es.size 0,.int ep 0] } })
  (h2 : ∀ (r : List Nat) (d : Drawn),List.Perm r (List.range es.size) → Q (.ref (s.heap.objs.size + 1)) { s with drawn := d,heap := (s.heap.push { cls := .type "tuple",data := .seq ((r.map fun (i : Nat) => rawInt i).toArray) }).push { cls := .type "set_iterator",data := .fields #[.ref s.heap.objs.size,.int 0 0,.ref a,.int es.size 0,.int ep 0] } }) :
  wpAny (model prog w) A (pyIter (.ref a)) Q E s := by
 obtain ⟨o,ho,hex,hd⟩ := id S.hs
 refine wpAny_pyIter_slot S.hs.typeIs PySem.F.slot_set_iter (wpAny_call_entry PySem.F.slot_set_iter S.hs.typeIs kM ?_ (PySem.F.args_set_iter_1 _))
 unfold Builtin.«frozenset.__iter__» Builtin.Frozenset.slot0
 refine wpAny_bind (wpAny_bind (wpAny_pure (wpAny_pure ?_)))
 refine wpAny_bind ?_
 unfold Builtin.Frozenset.sizeOf
 refine wpAny_bind (wpAny_setEntries_of ho hd S.fit (wpAny_pure ?_))
 refine wpAny_bind ?_
 unfold setDrawn setsByText
 refine wpAny_bind (wpAny_setState_of ho hd S.fit ?_)
 dsimp only
 refine wpAny_bind (wpAny_bind (wpAny_askSetting (wpAny_pure ?_)))
 refine wpAny_pure ?_
 dsimp only
 by_cases hb : w.params.followText "set-order" = true
 ·refine wpAny_ite_split (fun hab => ?_) (fun _ => ?_)
  ·have hab : (!w.params.followText "set-order" && _) = true := hab
   rw [hb] at hab
   exact absurd hab (by simp)
  ·refine wpAny_bind (wpAny_pure ?_)
   refine wpAny_bind (wpAny_setEpoch_of ho hd S.fit ?_)
   refine wpAny_bind (wpAny_newObj_type ?_)
   exact wpAny_pure ⟨_,rfl, "set_iterator",_,⟨_,Heap.get?_push_size _ rfl,rfl⟩,bu.lookup,h1 (.inl hb)⟩
 ·have hb' : w.params.followText "set-order" = false := by simpa using hb
  refine wpAny_ite_split (fun hab => ?_) (fun hab => ?_)
  ·refine wpAny_bind (gu _ _ _ (by simp) fun r d hr => ?_)
   refine wpAny_bind (wpAny_newObj_type ?_ ?_)
   ·refine wpAny_bind (wpAny_setEpoch_of (Heap.get?_push_of_some _ ho) hd S.fit ?_)
    refine wpAny_bind (wpAny_newObj_type ?_)
    have hz := h2 r d hr
    rw [← size_push' s.heap { cls := .type "tuple",data := .seq ((r.map fun (i : Nat) => rawInt i).toArray) }] at hz
    exact wpAny_pure ⟨_,rfl, "set_iterator",_,⟨_,Heap.get?_push_size _ rfl,rfl⟩,bu.lookup,hz⟩
   ·have hl : r.length = es.size := by rw [hr.length_eq,List.length_range]
    show (List.map _ r).toArray.size ≤ _
    rw [List.size_toArray,List.length_map,hl]
    omega
  ·refine wpAny_bind (wpAny_pure ?_)
   refine wpAny_bind (wpAny_setEpoch_of ho hd S.fit ?_)
   refine wpAny_bind (wpAny_newObj_type ?_)
   refine wpAny_pure ⟨_,rfl, "set_iterator",_,⟨_,Heap.get?_push_size _ rfl,rfl⟩,bu.lookup,h1 (.inr ?_)⟩
   have hab : ¬ ((!w.params.followText "set-order" && (!t.plain && decide (es.size > 1))) = true) := hab
   rw [hb'] at hab
   simpa using hab
theorem lT : entryFor table "set_iterator.__iter__" = some Builtin.«dict_keyiterator.__iter__» :=
 entryFor_alias (id' := "dict_keyiterator.__iter__") (by kernel_rfl) rfl (by decide +kernel) (by kernel_rfl)
theorem oG (a : Value) : argsOk "set_iterator.__iter__" ⟨[a],[]⟩ := by unfold argsOk; kernel_rfl
theorem sW {I : Addr} {first : Value} {i : Nat} {a : Addr} {n ep : Nat} {Q : Value → Shared → Prop} (hi : iB s.heap I first i a n ep) (h : Q (.ref I) s) : wpAny (model prog w) A (pyIter (.ref I)) Q E s := by
 refine wpAny_pyIter_slot hi.typeIs iU (wpAny_call_entry iU hi.typeIs lT ?_ (oG _))
 show wpAny _ _ (ret (.ref I)) _ _ s
 exact wpAny_pure ⟨_,rfl, "set_iterator",_,hi.typeIs,bu.lookup,h⟩
theorem mU (hh : A.handled = none) {a I : Addr} (hne : a ≠ I) {es : Array (Int × Value)} {ep : Nat} {t : SetTable} (hf : t.fits es.size = true) (order : List Value) (hl : order.length = es.size) (sl : Nat → Nat)
  (hN : ∀ (i : Nat) (v : Value),order[i]? = some v → ∀ (s : Shared) (A : Around) (E : Value → Shared → Prop) (R : Option (Value × Nat) → Shared → Prop),cG s.heap a es ep t → R (some (v,sl (i + 1))) s → wpAny (model prog w) A (setNext a (sl i) i ep) R E s)
  (hE : ∀ (s : Shared) (A : Around) (E : Value → Shared → Prop) (R : Option (Value × Nat) → Shared → Prop),cG s.heap a es ep t → R none s → wpAny (model prog w) A (setNext a (sl es.size) es.size ep) R E s) :
  Walks prog w A I [I,a] [I] es.size (fun i v => order[i]? = some v) (fun i h => cG h a es ep t ∧ iB h I (.int (sl i) 0) i a es.size ep) where
 sub := fun b hb => by simp at hb; simp [hb]
 frame := fun _ _ _ st hk => ⟨st.1.at fun o e => hk a (by simp) o e,st.2.at fun o e => hk I (by simp) o e⟩
 item := fun i s Q E hi st hQ => by
  obtain ⟨v,hv⟩ : ∃ v,order[i]? = some v := ⟨order[i]'(by omega),by simp [hl,hi]⟩
  refine wJ st.1 hf st.2 (hN i v hv) fun h' h1 h2 => ?_
  exact hQ v h' s.toks hv ⟨st.1.at fun o e => h2.extBut a o hne e,h1⟩ fun b o hb e => h2.extBut b o (fun z => hb (by simp [z])) e
 done := fun s Q E st hQ => end_int hh st.1 hf st.2 hE fun h' he => hQ h' s.toks fun b o hb e => he b o (fun z => hb (by simp [z])) e
 self := fun _ _ _ _ st hQ => sW st.2 hQ
theorem qa (hh : A.handled = none) {a I T : Addr} (hne : a ≠ I) (hnT : T ≠ I) {es : Array (Int × Value)} {ep : Nat} {t : SetTable} (hf : t.fits es.size = true) (r : List Nat) (hr : List.Perm r (List.range es.size)) {oT : Obj} (hTd : oT.data = .seq ((r.map fun (i : Nat) => rawInt i).toArray)) :
  Walks prog w A I [I,a,T] [I] es.size (fun i v => (r.map fun p => ((es[p]?).getD default).2)[i]? = some v) (fun i h => cG h a es ep t ∧ iB h I (.ref T) i a es.size ep ∧ h.get? T = some oT) where
 sub := fun b hb => by simp at hb; simp [hb]
 frame := fun _ _ _ st hk => ⟨st.1.at fun o e => hk a (by simp) o e,st.2.1.at fun o e => hk I (by simp) o e,hk T (by simp) _ st.2.2⟩
 item := fun i s Q E hi st hQ => by
  have hl : r.length = es.size := by rw [hr.length_eq,List.length_range]
  have hi' : i < r.length := by omega
  have hp : r[i] < es.size := List.mem_range.mp (hr.mem_iff.mp (List.getElem_mem hi'))
  have e1 : r[i]? = some r[i] := List.getElem?_eq_getElem hi'
  have e2 : es[r[i]]? = some (es[r[i]].1,es[r[i]].2) := by simp [hp]
  have hv : (r.map fun p => ((es[p]?).getD default).2)[i]? = some es[r[i]].2 := by
   rw [List.getElem?_map,e1]
   show some ((es[r[i]]?).getD default).2 = _
   rw [e2]
   rfl
  refine rc (p := r[i]) (tk := 0) st.1 hf st.2.1 st.2.2 hTd (by simp [rawInt,e1]) e2 fun h' h1 h2 => ?_
  exact hQ _ h' s.toks hv ⟨st.1.at fun o e => h2.extBut a o hne e,h1,h2.extBut T _ hnT st.2.2⟩ fun b o hb e => h2.extBut b o (fun z => hb (by simp [z])) e
 done := fun s Q E st hQ => by
  have hl : r.length = es.size := by rw [hr.length_eq,List.length_range]
  exact uU hh st.1 hf st.2.1 st.2.2 hTd (by simp [hl]) fun h' he => hQ h' s.toks fun b o hb e => he b o (fun z => hb (by simp [z])) e
 self := fun _ _ _ _ st hQ => sW st.2.1 hQ
def CW (t : SetTable) (i : Nat) : Nat := if i = 0 then 0 else t.place.getD (i - 1) 0 + 1
theorem qb {t : SetTable} (hr : lS t.place) {i : Nat} (hi : i ≤ t.place.size) : SetTable.below t.place (CW t i) = i := by
 unfold CW
 cases i with
 | zero => exact below_at hr (fun k hk => absurd hk (Nat.not_lt_zero _)) (fun _ => by simp) (Nat.zero_le _)
 | succ i =>
  rw [if_neg (by omega)]
  show SetTable.below t.place (t.place.getD i 0 + 1) = i + 1
  refine below_at hr (fun k hk => ?_) (fun h => hr i (i + 1) (Nat.lt_succ_self _) h) hi
  rcases Nat.lt_or_ge k i with q | q
  ·have := hr k i q (by omega)
   omega
  ·have e : k = i := by omega
   rw [e]; omega
theorem rh (hh : A.handled = none) {a : Addr} {es : Array (Int × Value)} {ep : Nat} {t : SetTable} {Q : Value → Shared → Prop} (S : SI prog w s a es ep t) (hsz : es.size ≤ sizeLine)
  (h : ∀ (I : Addr) (fp : List Addr) (order : List Value) (St : Nat → Heap → Prop) (h' : Heap) (d : Drawn),List.Perm order (es.toList.map (·.2)) → (∀ b ∈ fp,b < h'.objs.size) → s.heap.objs.size ≤ I → I ∈ fp → (∀ b ∈ fp,b = a ∨ s.heap.objs.size ≤ b) → Walks prog w A I fp [I] es.size (fun i v => order[i]? = some v) St → St 0 h' →
   (∀ b o,s.heap.get? b = some o → h'.get? b = some o) → Q (.ref I) { s with heap := h',drawn := d }) : wpAny (model prog w) A (pyIter (.ref a)) Q E s := by
 have hlt : @LT.lt Nat _ a s.heap.objs.size := S.hs.lt
 have hpl : t.place.size = es.size := by
  have := S.fit
  simp only [SetTable.fits,Bool.and_eq_true,beq_iff_eq] at this
  exact this.1
 refine wK S hsz (fun hm => ?_) (fun r d hr => ?_)
 ·have hI : a ≠ s.heap.objs.size := Nat.ne_of_lt hlt
  have V8 : ∀ b ∈ [s.heap.objs.size,a],b < (s.heap.push { cls := .type "set_iterator",data := .fields #[.int 0 0,.int 0 0,.ref a,.int es.size 0,.int ep 0] }).objs.size := fun b hb => by
   rw [size_push']
   simp at hb
   rcases hb with e | e
   ·rw [e]; exact Nat.lt_succ_self _
   ·rw [e]; exact Nat.lt_succ_of_lt hlt
  have st0 : cG (s.heap.push { cls := .type "set_iterator",data := .fields #[.int 0 0,.int 0 0,.ref a,.int es.size 0,.int ep 0] }) a es ep t := S.hs.at fun o e => Heap.get?_push_of_some _ e
  have V9 : iB (s.heap.push { cls := .type "set_iterator",data := .fields #[.int 0 0,.int 0 0,.ref a,.int es.size 0,.int ep 0] }) s.heap.objs.size (.int (0 : Nat) 0) 0 a es.size ep := ⟨_,Heap.get?_push_size _ rfl,rfl,rfl⟩
  by_cases hb : w.params.followText "set-order" = true
  ·have hp := uT (w.params.setOrder a ep) es
   have hpl' : (pickOrder (w.params.setOrder a ep) es).size = es.size := by rw [← Array.length_toList,hp.length_eq,Array.length_toList]
   refine h s.heap.objs.size _ ((pickOrder (w.params.setOrder a ep) es).toList.map (·.2)) _ _ s.drawn (hp.map _) V8 (Nat.le_refl _) (by simp) (fun b hb => by simp at hb; rcases hb with e | e <;> subst e <;> simp)
    (mU hh hI S.fit _ (by rw [List.length_map,Array.length_toList]; exact hpl') (fun _ => 0) (fun i v hv s' A' E' R hs' hR => ?_) (fun s' A' E' R hs' hR => ?_)) ⟨st0,V9⟩ (fun b o e => Heap.get?_push_of_some _ e)
   ·refine iT hb hs' S.fit ?_
    rw [List.getElem?_map,Array.getElem?_toList] at hv
    cases q : (pickOrder (w.params.setOrder a ep) es)[i]? with
    | none => rw [q] at hv; cases hv
    | some x => rw [q] at hv; cases hv; exact hR
   ·refine iT hb hs' S.fit ?_
    rw [Array.getElem?_eq_none (by omega)]
    exact hR
  ·have hb' : w.params.followText "set-order" = false := by simpa using hb
   have hp : (!t.plain && decide (es.size > 1)) = false := hm.resolve_left hb
   have lU : t.led = true := S.led.resolve_left hb
   have hr : lS t.place := by
    cases q : t.plain with
    | true => exact S.inv.up q
    | false =>
     rw [q] at hp
     intro i k hik hk
     have : ¬ es.size > 1 := by simpa using hp
     omega
   refine h s.heap.objs.size _ (es.toList.map (·.2)) _ _ s.drawn (List.Perm.refl _) V8 (Nat.le_refl _) (by simp) (fun b hb => by simp at hb; rcases hb with e | e <;> subst e <;> simp)
    (mU hh hI S.fit _ (by rw [List.length_map,Array.length_toList]) (CW t) (fun i v hv s' A' E' R hs' hR => ?_) (fun s' A' E' R hs' hR => ?_)) ⟨st0,V9⟩ (fun b o e => Heap.get?_push_of_some _ e)
   ·refine il hb' hp lU hs' S.fit ?_
    rw [List.getElem?_map,Array.getElem?_toList] at hv
    cases q : es[i]? with
    | none => rw [q] at hv; cases hv
    | some x =>
     rw [q] at hv; cases hv
     have hi : i < es.size := by
      rcases Nat.lt_or_ge i es.size with z | z
      ·exact z
      ·rw [Array.getElem?_eq_none z] at q; cases q
     have e2 : t.place[i]? = some (t.place.getD i 0) := by simp [Array.getD,hpl,hi]
     rw [qb hr (by omega),q,e2]
     exact hR
   ·refine il hb' hp lU hs' S.fit ?_
    rw [qb hr (by omega),Array.getElem?_eq_none (Nat.le_refl _)]
    exact hR
 ·have hl : r.length = es.size := by rw [hr.length_eq,List.length_range]
  have k1 : ∀ b o,s.heap.get? b = some o → ((s.heap.push { cls := .type "tuple",data := .seq ((r.map fun (i : Nat) => rawInt i).toArray) }).push { cls := .type "set_iterator",data := .fields #[.ref s.heap.objs.size,.int 0 0,.ref a,.int es.size 0,.int ep 0] }).get? b = some o := fun b o e =>
   Heap.get?_push_of_some _ (Heap.get?_push_of_some _ e)
  have hs2 : (s.heap.push { cls := .type "tuple",data := .seq ((r.map fun (i : Nat) => rawInt i).toArray) }).objs.size = s.heap.objs.size + 1 := size_push' _ _
  have e1 : (r.map fun p => ((es[p]?).getD default).2).Perm (es.toList.map (·.2)) := by
   refine (hr.map _).trans ?_
   have : (List.range es.size).map (fun p => ((es[p]?).getD default).2) = es.toList.map (·.2) := by
    apply List.ext_getElem
    ·simp
    ·intro i h1 h2
     simp at h1 h2
     simp [h1]
   rw [this]
  refine h (s.heap.objs.size + 1) _ _ _ _ d e1 (fun b hb => ?_) (Nat.le_succ _) ?_ (fun b hb => ?_) (qa (T := s.heap.objs.size) (oT := { cls := .type "tuple",data := .seq ((r.map fun (i : Nat) => rawInt i).toArray) }) hh (Nat.ne_of_lt (Nat.lt_succ_of_lt hlt)) (Nat.ne_of_lt (Nat.lt_succ_self _)) S.fit r hr rfl)
   ⟨S.hs.at fun o e => k1 a o e,⟨{ cls := .type "set_iterator",data := .fields #[.ref s.heap.objs.size,.int 0 0,.ref a,.int es.size 0,.int ep 0] },?_,rfl,rfl⟩,?_⟩ k1
  ·rw [size_push',hs2]
   simp at hb
   rcases hb with e | e | e
   ·rw [e]; exact Nat.lt_succ_self _
   ·rw [e]; exact Nat.lt_succ_of_lt (Nat.lt_succ_of_lt hlt)
   ·rw [e]; exact Nat.lt_succ_of_lt (Nat.lt_succ_self _)
  ·simp
  ·simp at hb
   rcases hb with e | e | e
   ·exact .inr (by rw [e]; exact Nat.le_succ _)
   ·exact .inl e
   ·exact .inr (by rw [e]; exact Nat.le_refl _)
  ·rw [show s.heap.objs.size.succ = _ from hs2.symm]
   exact Heap.get?_push_size _ rfl
  ·exact Heap.get?_push_of_some _ (Heap.get?_push_size _ rfl)
theorem wL (hT : s.TypeIs (.ref r) "set") {Q : Bool → Shared → Prop} (h : Q false s) : wpAny (model prog w) A (Builtin.List.listLengthHint (.ref r)) Q E s := by
 unfold Builtin.List.listLengthHint
 refine wpAny_bind (wpAny_specialOf hT PySem.F.slot_set_len.lookup ?_)
 generalize hid : ("set.__len__" : String) = id0
 wp_delta
 rw [show splitId id0 = some ("set", "__len__") from by subst hid; decide +kernel]
 subst hid
 refine wpAny_bind (wpAny_isInstance (T := "set") (b := true) hT (by rw [isSubtype_type]; kernel_rfl) ?_)
 refine wpAny_ite_split (fun hab => absurd hab (by decide)) (fun _ => ?_)
 refine wpAny_ite_split (fun _ => ?_) (fun hab => absurd (by decide +kernel) hab)
 refine wpAny_bind (wpAny_typeOf hT ?_)
 exact wpAny_pure h
end
section
variable {prog : Program} {w : World} {A : Around} {E : Value → Shared → Prop} {s : Shared}
theorem rj (hh : A.handled = none) {a S : Addr} {es : Array (Int × Value)} {ep : Nat} {t : SetTable} {R : Result → Shared → Prop} (hS : SI prog w s a es ep t) (hsz : es.size ≤ sizeLine) (hne : S ≠ a) (res : Value) (c0 : Nat)
  (hL : s.heap.get? S = some { cls := .type "list",data := .seq #[] c0 })
  (hR : ∀ h' d tk (acc : Array Value) (order : List Value) c',(∀ b o,b ≠ S → s.heap.get? b = some o → h'.get? b = some o) → h'.get? S = some { cls := .type "list",dict := none,data := .seq acc c',slots := #[] } →
   List.Perm order (es.toList.map (·.2)) → acc.toList = order → R (.ok (.ret res)) { s with heap := h',toks := tk,drawn := d }) :
  wpAny (model prog w) A.in1 (Builtin.List.listExtendWith (.ref S) (.ref a) res)
   (fun fin s' => match fin with | .done f => R (.ok f) s' | .again c' => c'.quiet = true ∧ codeAny (model prog w) A c' R s') (fun e s' => R (.error e) s') s := by
 unfold Builtin.List.listExtendWith
 refine wpAny_bind (wpAny_typeOf (T := "set") hS.hs.typeIs ?_)
 have h1 : Builtin.List.listSameRef (.ref S) (.ref a) = false := by simp [Builtin.List.listSameRef,hne]
 rw [if_neg (by rw [h1]; decide)]
 refine wpAny_bind (rh (A := A.in1) hh hS hsz fun I fp order St h' d hp hfl hI hIm hfp W st hk => ?_)
 have Kj := Heap.lt_size hL
 have hSf : S ∉ fp := fun hm => by
  rcases hfp S hm with e | e
  ·exact hne e
  ·exact absurd (Nat.lt_of_lt_of_le Kj e) (Nat.lt_irrefl _)
 have hol : order.length = es.size := by rw [hp.length_eq,List.length_map,Array.length_toList]
 have key : ∀ (h2 : Heap) (c1 tk : Nat),St 0 h2 → (∀ b o,b ≠ S → s.heap.get? b = some o → h2.get? b = some o) → h2.get? S = some { cls := .type "list",data := .seq #[] c1 } →
   codeAny (model prog w) A (.builtin "list.extend.loop" ⟨[.ref S,.ref I,res],[]⟩) R { s with heap := h2,toks := tk,drawn := d } := by
  intro h2 c1 tk hst hk2 hS1
  refine codeAny_extend_loopS W.toS hsz S hSf res es.size 0 _ #[] c1 rfl (Nat.zero_le _) hst hS1 (ItemsOf.nil _) fun s' acc' c' hm hS' hacc => ?_
  rw [Moved.eq_with hm]
  refine hR s'.heap d s'.toks acc' order c' (fun b o hb e => hm.heap b o (fun hmem => ?_) (hk2 b o hb e)) hS' hp ?_
  ·rcases List.mem_cons.mp hmem with e' | hmem
   ·exact hb e'
   ·rw [List.mem_singleton.mp hmem] at e
    exact absurd (Heap.lt_size e) (Nat.not_lt.mpr hI)
  ·apply List.ext_getElem?
   intro i
   rw [Array.getElem?_toList]
   cases q : acc'[i]? with
   | none =>
    have : acc'.size ≤ i := by
     rcases Nat.lt_or_ge i acc'.size with z | z
     ·rw [Array.getElem?_eq_getElem z] at q; cases q
     ·exact z
    rw [hacc.1] at this
    rw [List.getElem?_eq_none (by omega)]
   | some v => exact (hacc.2 i v q).symm
 refine wpAny_bind (wpAny_holding (wL (s := { s with heap := h',drawn := d }) (cG.typeIs (s := { s with heap := h',drawn := d }) (hS.hs.at fun o e => hk a o e)) ?_))
 have hS1 := hk _ _ hL
 refine wpAny_ite_split (fun _ => ?_) (fun _ => wpAny_pure ⟨plainId_quiet PySem.F.plain_extend_loop _,key _ c0 _ st (fun b o _ e => hk b o e) hS1⟩)
 refine wpAny_bind (wpAny_rule ?_)
 refine wpAny_bind ?_
 show wpAny _ _ (updateSeq S (·.push .none) >>= fun _ => updateSeq S (·.pop)) _ _ _
 refine wpAny_bind (wpAny_updateSeq hS1 rfl ?_)
 have hS2 := Heap.get?_update_self (Obj.mapSeq (·.push Value.none)) hS1 rfl
 refine wpAny_updateSeq (hz := by seq_fits) hS2 rfl ?_
 have XY := Heap.get?_update_self (Obj.mapSeq (·.pop)) hS2 rfl
 refine wpAny_pure ⟨plainId_quiet PySem.F.plain_extend_loop _,key _ _ _ ?_ (fun b o hb e => ?_) XY⟩
 ·refine W.frame 0 _ _ st fun b hb o e => ?_
  have hbS : b ≠ S := fun h => hSf (h ▸ hb)
  exact (Heap.get?_update_other _ _ (Ne.symm hbS)).trans ((Heap.get?_update_other _ _ (Ne.symm hbS)).trans e)
 ·exact (Heap.get?_update_other _ _ (Ne.symm hb)).trans ((Heap.get?_update_other _ _ (Ne.symm hb)).trans (hk b o e))
theorem qd (hh : A.handled = none) {a : Addr} {es : Array (Int × Value)} {ep : Nat} {t : SetTable} {R : List Value → Shared → Prop} (hS : SI prog w s a es ep t) (hsz : es.size ≤ sizeLine)
  (h : ∀ h' d tk (order : List Value),s.heap.objs.size < h'.objs.size → (∀ b o,s.heap.get? b = some o → h'.get? b = some o) → List.Perm order (es.toList.map (·.2)) → R order { s with heap := h',toks := tk,drawn := d }) :
  wpAny (model prog w) A (collect (.ref a)) R E s := by
 have hlt : @LT.lt Nat _ a s.heap.objs.size := hS.hs.lt
 unfold collect
 refine wpAny_bind (wpAny_runValue (codeAny_builtin entry_proto_collect' ?_))
 rw [Around.under_plainId PySem.F.plain_proto_collect _]
 show wpAny _ A.in1 (newList [] >>= fun l => again (.builtin "list.__iadd__" ⟨[l,.ref a],[]⟩)) _ _ s
 refine wpAny_bind (wpAny_newObj_type ?_)
 refine wpAny_pure ⟨plainId_quiet PySem.F.plain_list_iadd _,codeAny_builtin entry_list_iadd' ?_⟩
 rw [Around.under_plainId PySem.F.plain_list_iadd _]
 have hS1 : (s.heap.push { cls := .type "list",data := .seq ([] : List Value).toArray }).get? s.heap.objs.size = some { cls := .type "list",data := .seq #[] } := Heap.get?_push_size _ rfl
 show wpAny _ A.in1 (Builtin.List.listExtendWith (.ref s.heap.objs.size) (.ref a) (.ref s.heap.objs.size)) _ _ _
 have S' : SI prog w { s with heap := s.heap.push { cls := .type "list",data := .seq ([] : List Value).toArray } } a es ep t := ⟨hS.hs.at fun o e => Heap.get?_push_of_some _ e,hS.fit,hS.inv,hS.led⟩
 have key := rj (A := A) (R := fun (q : Result) (s' : Shared) => ∃ (h' : Heap) (d : Drawn) (tk : Nat) (acc : Array Value) (order : List Value) (c' : Nat),q = .ok (.ret (.ref s.heap.objs.size)) ∧ s' = { s with heap := h',toks := tk,drawn := d } ∧
   (∀ b o,s.heap.get? b = some o → h'.get? b = some o) ∧ h'.get? s.heap.objs.size = some { cls := .type "list",dict := none,data := .seq acc c',slots := #[] } ∧ List.Perm order (es.toList.map (·.2)) ∧ acc.toList = order)
  hh S' hsz (Nat.ne_of_gt hlt) (.ref s.heap.objs.size) 0 hS1
  (fun h' d tk acc order c' hk hL hp ha => ⟨h',d,tk,acc,order,c',rfl,rfl,fun b o e => hk b o (Nat.ne_of_lt (Heap.lt_size e)) (Heap.get?_push_of_some _ e),hL,hp,ha⟩)
 refine wpAny_mono key (fun fin s' x => ?_) fun e s' x => ?_
 ·cases fin with
  | done f =>
   obtain ⟨h',d,tk,acc,order,c',e,rfl,hk,hL,hp,ha⟩ := x
   cases e
   show wpAny _ A (load s.heap.objs.size >>= _) _ _ _
   refine wpAny_bind (wpAny_load hL ?_)
   refine wpAny_pure ?_
   rw [ha]
   exact h h' d tk order (Heap.lt_size hL) hk hp
  | again c1 =>
   refine ⟨x.1,codeAny_mono x.2 fun q s2 y => ?_⟩
   obtain ⟨h',d,tk,acc,order,c',rfl,rfl,hk,hL,hp,ha⟩ := y
   show wpAny _ A (load s.heap.objs.size >>= _) _ _ _
   refine wpAny_bind (wpAny_load hL ?_)
   refine wpAny_pure ?_
   rw [ha]
   exact h h' d tk order (Heap.lt_size hL) hk hp
 ·obtain ⟨_,_,_,_,_,_,e',_⟩ := x
  cases e'
theorem jt : ∀ {us vs : List Value},List.Perm us vs → ∀ {ns : List Int},IntsAre vs ns → ∃ ms,IntsAre us ms ∧ List.Perm ms ns := by
 intro us vs hp
 induction hp with
 | nil => intro ns h; cases h; exact ⟨[],.nil,.nil⟩
 | cons x _ ih =>
  intro ns h
  cases h with
  | cons n t r =>
   obtain ⟨ms,h1,h2⟩ := ih r
   exact ⟨n :: ms,.cons n t h1,h2.cons _⟩
 | swap x y l =>
  intro ns h
  cases h with
  | cons n t r =>
   cases r with
   | cons n' t' r' => exact ⟨_,.cons _ _ (.cons _ _ r'),List.Perm.swap _ _ _⟩
 | trans _ _ ih1 ih2 =>
  intro ns h
  obtain ⟨ms,h1,h2⟩ := ih2 h
  obtain ⟨EZ,h3,h4⟩ := ih1 h1
  exact ⟨EZ,h3,h4.trans h2⟩
theorem rn (hh : A.handled = none) {a : Addr} {es : Array (Int × Value)} {ep : Nat} {t : SetTable} {ns : List Int} {Q : Value → Shared → Prop} (hS : SI prog w s a es ep t) (hI : IntsAre (es.toList.map (·.2)) ns) (h64 : ns.length < 64)
  (h : ∀ (D : Addr) (h' : Heap) (d : Drawn) (tk : Nat) (out : Array Value) (ms : List Int) (c : Nat),s.heap.objs.size ≤ D → (∀ b o,s.heap.get? b = some o → h'.get? b = some o) → h'.get? D = some { cls := .type "list",data := .seq out c } → IntsAre out.toList ms → ms.Perm ns → ms.Pairwise (· ≤ ·) →
   Q (.ref D) { s with heap := h',toks := tk,drawn := d }) :
  wpAny (model prog w) A (call (.builtin "sorted") [.ref a]) Q E s := by
 have hl : es.size = ns.length := by rw [← IntsAre.length hI,List.length_map,Array.length_toList]
 have hsz : es.size ≤ sizeLine := by rw [hl,sizeLine_eq]; omega
 refine call_function_entry kind_sorted plain_sorted entry_sorted (args_sorted1 _) ?_
 unfold Builtin.«sorted»
 refine wpAny_bind (m := checkCount "sorted" 1 1 _) (wpAny_pure ?_)
 refine wpAny_bind (qd (A := A.in1) hh hS hsz fun h' d tk order hlt hk hp => ?_)
 obtain ⟨ms,hms,hmp⟩ := jt hp hI
 have hol : order.length = ns.length := by rw [IntsAre.length hms,hmp.length_eq]
 refine wpAny_bind (wpAny_newList ?_ (by rw [hol,← hl]; exact hsz))
 have hD : (h'.push (seqObj "list" order.toArray 0)).get? h'.objs.size = some (seqObj "list" order.toArray 0) := Heap.get?_push_size _ rfl
 refine wpAny_bind (wpAny_holding (wpAny_call_entry slot_list_sort ⟨_,hD,rfl⟩ entry_list_sort (list_sort_tree hD hms (by omega) fun out EZ a1 a2 a3 => ⟨_,rfl,?_⟩) (args_list_sort _)))
 obtain ⟨c,hc⟩ := sortedHeap_at (out := out) hD
 refine wpAny_pure ⟨_,rfl,h h'.objs.size _ d tk out EZ c (Nat.le_of_lt hlt) (fun b o e => ?_) hc a1 (a2.trans hmp) a3⟩
 have hb := Heap.lt_size (hk b o e)
 rw [sortedHeap_old (Nat.ne_of_lt hb) (by rw [size_push']; exact Nat.lt_succ_of_lt hb)]
 exact Heap.get?_push_of_some _ (hk b o e)
end
def ft (prog : Program) (w : World) (h : Heap) (a : Addr) (us : List Int) : Prop :=
 ∃ es ep t,cG h a es ep t ∧ t.fits es.size = true ∧ kK t ∧ (w.params.followText "set-order" = true ∨ t.led = true) ∧ ElemsOf (intKind prog w) es.toList ∧ IntsAre (es.toList.map (·.2)) us ∧ us.Nodup
theorem ft.at {prog : Program} {w : World} {h h' : Heap} {a : Addr} {us : List Int} (x : ft prog w h a us) (e : ∀ o,h.get? a = some o → h'.get? a = some o) : ft prog w h' a us := by
 obtain ⟨es,ep,t,hs,r⟩ := x
 exact ⟨es,ep,t,hs.at e,r⟩
theorem qe : ∀ {vs : List Value} {us : List Int} {k : Int},IntsAre vs us → (k ∈ us ↔ ∃ v ∈ vs,Value.isInt k v = true)
 | _,_,k,.nil => by simp
 | _,_,k,.cons n t r => by
  have ih := qe (k := k) r
  rw [List.mem_cons,ih]
  constructor
  ·rintro (e | ⟨v,hv,e⟩)
   ·subst e
    exact ⟨_,List.mem_cons_self,by simp [Value.isInt]⟩
   ·exact ⟨v,List.mem_cons_of_mem _ hv,e⟩
  ·rintro ⟨v,hv,e⟩
   rcases List.mem_cons.mp hv with z | z
   ·subst z
    exact .inl (by have q : n = k := (by simpa [Value.isInt] using e); exact q.symm)
   ·exact .inr ⟨v,z,e⟩
theorem ints_snoc : ∀ {vs : List Value} {us : List Int} (k : Int) (t : Tok),IntsAre vs us → IntsAre (vs ++ [.int k t]) (us ++ [k])
 | _,_,k,t,.nil => .cons k t .nil
 | _,_,k,t,.cons n t' r => .cons n t' (ints_snoc k t r)
section
variable {prog : Program} {w : World} {A : Around} {E : Value → Shared → Prop} {s : Shared}
theorem sX {h : Heap} {a : Addr} {es es' : Array (Int × Value)} {ep : Nat} {t t' : SetTable} {us : List Int} (hs : cG h a es ep t) (hf : t'.fits es'.size = true) (hi : kK t') (hl : w.params.followText "set-order" = true ∨ t'.led = true)
  (hel : ElemsOf (intKind prog w) es'.toList) (hI : IntsAre (es'.toList.map (·.2)) us) (hn : us.Nodup) : cG (h.update a (Obj.putSet es' t')) a es' (ep + 1) t' ∧ ft prog w (h.update a (Obj.putSet es' t')) a us := by
 obtain ⟨o,ho,hex,hd⟩ := hs
 have hg : (h.update a (Obj.putSet es' t')).get? a = some { o with data := .set es' (ep + 1) t' } := by
  have z := Heap.get?_update_self (Obj.putSet es' t') ho (by rw [putSet_of es' t' hd]; rfl)
  rw [putSet_of es' t' hd] at z
  exact z
 have q : cG (h.update a (Obj.putSet es' t')) a es' (ep + 1) t' := ⟨_,hg,hex,rfl⟩
 exact ⟨q,es',ep + 1,t',q,hf,hi,hl,hel,hI,hn⟩
theorem uV {es es' : Array (Int × Value)} {c : Int} {x : Value} (hp : List.Perm es'.toList (es.push (c,x)).toList) : List.Perm (es'.toList.map (·.2)) (es.toList.map (·.2) ++ [x]) := by
 refine (hp.map _).trans ?_
 rw [Array.toList_push,List.map_append]
 exact List.Perm.refl _
theorem zJ {t : SetTable} (h : kK t) : kK { t with plain := false } := ⟨h.Ji,fun z => by cases z⟩
theorem add_int {a : Addr} {us : List Int} {k : Int} {tk : Tok} {Q : Bool → Shared → Prop} (hS : ft prog w s.heap a us) (hroom : us.length + 1 < scanBound)
  (h : ∀ (b : Bool) (h' : Heap) (us' : List Int),Heap.SameBut a s.heap h' → ft prog w h' a us' → (∀ j,j ∈ us' ↔ j ∈ us ∨ j = k) → us'.length ≤ us.length + 1 → Q b { s with heap := h' }) :
  wpAny (model prog w) A (setAddHashed a (.int k tk) ((intKind prog w).hash k)) Q E s := by
 obtain ⟨es,ep,t,hs,hf,hi,hl,hel,hI,hn⟩ := id hS
 obtain ⟨o,ho,hex,hd⟩ := id hs
 have hsz : es.size = us.length := by rw [← IntsAre.length hI,List.length_map,Array.length_toList]
 have hmem : k ∈ us ↔ ∃ e ∈ es.toList,(intKind prog w).is k e.2 = true := by
  rw [qe hI]
  constructor
  ·rintro ⟨v,hv,e⟩
   obtain ⟨p,hp,rfl⟩ := List.mem_map.mp hv
   exact ⟨p,hp,e⟩
  ·rintro ⟨p,hp,e⟩
   exact ⟨p.2,List.mem_map.mpr ⟨p,hp,rfl⟩,e⟩
 unfold setAddHashed setAddHashedIn
 refine wpAny_holding (wpAny_bind (wpAny_setState_of ho hd hf ?_))
 dsimp only
 rw [byScan_of (knd := intKind prog w) (x := .int k tk) rfl (by omega) hel]
 simp only [↓reduceIte]
 unfold setAddByScan
 refine wpAny_bind ?_
 refine wpAny_bind (wpAny_rule ?_)
 refine wpAny_bind (wpAny_setScan_of (knd := intKind prog w) (intKind_is _ _ _ _) ho hd hf hel ?_)
 cases hr : List.findIdx? (fun e => (intKind prog w).is k e.2) es.toList with
 | some j =>
  dsimp only
  obtain ⟨hj,hpj,_⟩ := List.findIdx?_eq_some_iff_getElem.mp hr
  have hk : k ∈ us := hmem.mpr ⟨es.toList[j],List.getElem_mem hj,hpj⟩
  refine wpAny_pure (wpAny_pure ?_)
  exact h false s.heap us (Heap.SameBut.refl a s.heap) hS (fun i => ⟨.inl,fun z => z.elim id fun e => e ▸ hk⟩) (Nat.le_succ _)
 | none =>
  dsimp only
  have hk : k ∉ us := fun z => by
   obtain ⟨e,he,q⟩ := hmem.mp z
   have := List.findIdx?_eq_none_iff.mp hr e he
   rw [q] at this
   cases this
  have hperm := layNew_perm t es ((intKind prog w).hash k) (.int k tk)
  have hfits := layNew_fits t es ((intKind prog w).hash k) (.int k tk)
  have hinv := q0 es ((intKind prog w).hash k) (.int k tk) hi
  generalize hL : layNew t es ((intKind prog w).hash k) (.int k tk) = L at hperm hfits hinv ⊢
  obtain ⟨es1,t1,wd,gave⟩ := L
  dsimp only at hperm hfits hinv ⊢
  have hel1 : ElemsOf (intKind prog w) es1.toList := by
   have z := hperm
   rw [Array.toList_push] at z
   exact (hel.push (intKind_is _ _ _ _) rfl).perm z
  obtain ⟨CY,Kk,hp1⟩ := jt (uV hperm) (ints_snoc k tk hI)
  have hn1 : CY.Nodup := hp1.nodup_iff.mpr (by
   rw [List.nodup_append]
   exact ⟨hn,by simp,fun x hx y hy => by rw [List.mem_singleton.mp hy]; rintro rfl; exact hk hx⟩)
  have hl1 : CY.length = us.length + 1 := by rw [hp1.length_eq,List.length_append]; rfl
  have hm1 : ∀ j,j ∈ CY ↔ j ∈ us ∨ j = k := fun j => by rw [hp1.mem_iff,List.mem_append,List.mem_singleton]
  have hsz1 : es1.size = CY.length := by rw [← IntsAre.length Kk,List.length_map,Array.length_toList]
  have hb1 : es1.size < scanBound := by omega
  have hgw : ∀ (b : Bool) {s₁ : Shared} {Q' : Unit → Shared → Prop},Q' () s₁ → wpAny (model prog w) A (match b with | true => rule "set.scan.the-table-gave-way" | false => pure ()) Q' E s₁ :=
   fun b s₁ Q' hq => by cases b <;> first | exact wpAny_pure hq | exact wpAny_rule hq
  refine wpAny_bind (hgw _ ?_)
  have tail : ∀ t2 : SetTable,t2.fits es1.size = true → kK t2 → (w.params.followText "set-order" = true ∨ t2.led = true) → ∀ (g : Bool → Sem Unit) (Wa : Bool) (R : Option Bool → Shared → Prop),
    (∀ (b : Bool) (s₁ : Shared) (Q' : Unit → Shared → Prop),Q' () s₁ → wpAny (model prog w) A (g b) Q' E s₁) → (∀ h' us',Heap.SameBut a s.heap h' → ft prog w h' a us' → us'.Perm CY → R (some true) { s with heap := h' }) →
    wpAny (model prog w) A (storeSet a es1 t2 >>= fun _ => if (!Wa && t2.tooFull) = true then (g (relayAll t2 es1 (SetTable.grown es1.size)).2.2 >>= fun _ => storeSet a (relayAll t2 es1 (SetTable.grown es1.size)).1 (relayAll t2 es1 (SetTable.grown es1.size)).2.1 >>= fun _ => pure (some true)) else pure (some true)) R E s := by
   intro t2 f2 i2 l2 g Wa R hg hR
   refine wpAny_bind (wpAny_storeSet_of ho hd ?_ (fits_of_scanBound hb1))
   obtain ⟨q1,q2⟩ := sX (prog := prog) (w := w) hs f2 i2 l2 hel1 Kk hn1
   have Wb := Heap.SameBut.update s.heap a (Obj.putSet es1 t2)
   split
   ·have rp := relayAll_perm t2 es1 (SetTable.grown es1.size)
    have rf := relayAll_fits t2 es1 (SetTable.grown es1.size)
    have ri := oC (t := t2) es1 (SetTable.grown es1.size)
    generalize relayAll t2 es1 (SetTable.grown es1.size) = Rl at rp rf ri ⊢
    obtain ⟨es2,t3,gave2⟩ := Rl
    dsimp only at rp rf ri ⊢
    obtain ⟨Fb,XZ,hp2⟩ := jt (rp.map (·.2)) Kk
    refine wpAny_bind (hg _ _ _ ?_)
    obtain ⟨o1,ho1,hex1,hd1⟩ := id q1
    have e2 : es2.size = es1.size := by rw [← Array.length_toList,rp.length_eq,Array.length_toList]
    refine wpAny_bind (wpAny_storeSet_of ho1 hd1 ?_ (fits_of_scanBound (by rw [e2]; exact hb1)))
    obtain ⟨_,q3⟩ := sX (prog := prog) (w := w) q1 rf ri.1 (l2.imp id fun z => ri.2.trans z) (hel1.perm rp) XZ (hp2.nodup_iff.mpr hn1)
    exact wpAny_pure (hR _ Fb (Wb.trans (Heap.SameBut.update _ a _)) q3 hp2)
   ·exact wpAny_pure (hR _ CY Wb q2 (List.Perm.refl _))
  have fin : ∀ h' us',Heap.SameBut a s.heap h' → ft prog w h' a us' → us'.Perm CY → Q true { s with heap := h' } := fun h' us' x1 x2 x3 =>
   h true h' us' x1 x2 (fun j => by rw [x3.mem_iff]; exact hm1 j) (by rw [x3.length_eq,hl1]; exact Nat.le_refl _)
  have CZ : w.params.followText "set-order" = true ∨ t1.led = true := hl.imp id fun z => hinv.2.trans z
  split
  ·refine wpAny_bind ?_
   rw [hashByValue_scannable 8 (x := .int k tk) rfl]
   refine wpAny_pure ?_
   refine tail _ ?_ ?_ ?_ _ wd _ ?_ fun h' us' x1 x2 x3 => ?_
   ·split
    ·exact hfits
    ·exact SetTable.fits_plain_off hfits
   ·split
    ·exact hinv.1
    ·exact zJ hinv.1
   ·split
    ·exact CZ
    ·exact CZ
   ·intro b s₁ Q' hq; cases b <;> first | exact wpAny_pure hq | exact wpAny_rule hq
   ·exact wpAny_pure (fin h' us' x1 x2 x3)
  ·refine wpAny_bind (wpAny_pure ?_)
   simp only [↓reduceIte]
   refine tail _ hfits hinv.1 CZ _ wd _ ?_ fun h' us' x1 x2 x3 => ?_
   ·intro b s₁ Q' hq; cases b <;> first | exact wpAny_pure hq | exact wpAny_rule hq
   ·exact wpAny_pure (fin h' us' x1 x2 x3)
theorem jN {R : Result → Shared → Prop} {I : Addr} {fp wr : List Addr} {G : Array GenState → Array GenState → Prop} {n : Nat} {P : Nat → Value → Prop} {St : Nat → Shared → Prop} (W : WalksS prog w A.in1 I fp wr G n P St) (S : Addr) (hSf : S ∉ fp)
  (val : Nat → Int) (hval : ∀ i v,P i v → ∃ t,v = .int (val i) t) (hb : n + 1 < scanBound) :
  ∀ (k i : Nat) (s : Shared) (us : List Int),n - i = k → i ≤ n → St i s → ft prog w s.heap S us → us.length ≤ i → (∀ j,j ∈ us ↔ ∃ m,m < i ∧ val m = j) →
   (∀ s' us',Moved (S :: wr) G s s' → ft prog w s'.heap S us' → us'.length ≤ n → (∀ j,j ∈ us' ↔ ∃ m,m < n ∧ val m = j) → R (.ok (.ret .none)) s') →
   codeAny (model prog w) A (.builtin "set.update.loop" ⟨[.ref S,.ref I],[]⟩) R s := by
 have hSw : S ∉ wr := fun h => hSf (W.sub _ h)
 have hsub : ∀ b ∈ wr,b ∈ S :: wr := fun b hb => List.mem_cons_of_mem _ hb
 intro k
 induction k with
 | zero =>
  intro i s us hk hi hst hS hlen hmem hR
  have hin : i = n := by omega
  subst hin
  refine codeAny_builtin PyProof.Rows.F.entry_set_update_loop ?_
  rw [Around.under_plainId PyProof.Rows.F.plain_set_update_loop _]
  show wpAny _ A.in1 (pyNext (.ref I) >>= _) _ _ s
  refine wpAny_bind (W.done s _ _ hst fun s' hm => ?_)
  show wpAny _ A.in1 (ret Value.none) _ _ s'
  exact wpAny_pure (hR s' us (hm.mono hsub) (hS.at fun o e => hm.heap S o hSw e) hlen hmem)
 | succ k ih =>
  intro i s us hk hi hst hS hlen hmem hR
  have hlt : i < n := by omega
  refine codeAny_builtin PyProof.Rows.F.entry_set_update_loop ?_
  rw [Around.under_plainId PyProof.Rows.F.plain_set_update_loop _]
  show wpAny _ A.in1 (pyNext (.ref I) >>= _) _ _ s
  refine wpAny_bind (W.item i s _ _ hlt hst fun v s' hP hst' hm => ?_)
  obtain ⟨t,rfl⟩ := hval i v hP
  have hS' : ft prog w s'.heap S us := hS.at fun o e => hm.heap S o hSw e
  show wpAny _ A.in1 (holding [Value.int (val i) t] (setAdd S (.int (val i) t)) >>= _) _ _ s'
  refine wpAny_bind (wpAny_holding ?_)
  unfold setAdd
  refine wpAny_holding ?_
  refine wpAny_bind ((intKind prog w).pyHash (k := val i) (intKind_is _ _ _ _) ?_)
  refine add_int (s := { s' with toks := s'.toks + 1 }) hS' (by omega) fun b h' us' hsb hS2 hm2 hl2 => ?_
  refine wpAny_pure ⟨plainId_quiet PyProof.Rows.F.plain_set_update_loop _,ih (i + 1) _ us' (by omega) hlt (W.frame _ s' _ _ hst' (Nat.le_succ _) fun b hb o e => ?_) hS2 (by omega) (fun j => ?_) fun s'' Kl hm'' hS'' hl'' hmem'' => ?_⟩
  ·rw [hsb.2 b (fun h : b = S => hSf (by rw [← h]; exact hb))]; exact e
  ·rw [hm2,hmem]
   constructor
   ·rintro (⟨m,h1,h2⟩ | e)
    ·exact ⟨m,by omega,h2⟩
    ·exact ⟨i,by omega,e.symm⟩
   ·rintro ⟨m,h1,h2⟩
    rcases Nat.lt_or_ge m i with q | q
    ·exact .inl ⟨m,q,h2⟩
    ·have e : m = i := by omega
     subst e
     exact .inr h2.symm
  ·refine hR s'' Kl (Moved.trans W.gtrans ((hm.mono hsub).then_heap (Nat.le_succ _) fun b o hb e => ?_) hm'') hS'' hl'' hmem''
   rw [hsb.2 b (fun h : b = S => hb (by rw [h]; exact List.mem_cons_self))]; exact e
theorem sY (a : Value) {Q₁ : Value → Shared → Prop}
  (h : Q₁ (.ref s.heap.objs.size) { s with heap := s.heap.push { cls := .type "set",dict := none,data := .set #[] 0 (.fresh 0 0 (!w.params.followText "set-order")) } }) :
  codeAny (model prog w) A (.call (.builtin "set.__new__") ⟨[.type "set",a],[]⟩) (wants Q₁ E) s := by
 refine codeAny_of_tree ?_
 show wpAny _ A.in1 (do checkBuiltinCall "set.__new__" ⟨[.type "set",a],[]⟩; again (.builtin "set.__new__" ⟨[.type "set",a],[]⟩)) _ _ s
 refine wpAny_bind (wpAny_of_eq (PySem.F.newCall_set_1 a) (wpAny_pure ⟨plainId_quiet PySem.F.plain_set_new _,codeAny_builtin PySem.F.entry_set_new ?_⟩))
 rw [Around.under_plainId PySem.F.plain_set_new _]
 unfold Builtin.«set.__new__» Builtin.Frozenset.newClass
 have hsub := sub_set_self
 obtain ⟨hp,g,d,tk,os⟩ := s
 dsimp only
 wp_walk
 refine wpAny_askSetting (wpAny_pure ?_)
 dsimp only
 simp only [newObj]
 refine wpAny_bind (wpAny_alloc (wpAny_pure ?_))
 exact wpAny_pure h
set_option maxHeartbeats 8000000 in
theorem wM {l : Addr} {items : Array Value} {ns : List Int} {Q : Value → Shared → Prop} (hh : A.handled = none) (hl : s.heap.IsList l items) (hi : IntsAre items.toList ns) (hb : items.size + 1 < scanBound)
  (h : ∀ (h' : Heap) (tk : Nat) (us : List Int),ft prog w h' s.heap.objs.size us → us.length ≤ ns.length → (∀ j,j ∈ us ↔ j ∈ ns) → (∀ b o,b < s.heap.objs.size → s.heap.get? b = some o → h'.get? b = some o) → Q (.ref s.heap.objs.size) { s with heap := h',toks := tk }) :
  wpAny (model prog w) A (call (.type "set") [.ref l]) Q E s := by
 obtain ⟨c,tl,hmro⟩ := PySem.F.called_set.mro
 have hmade := PySem.F.called_set.made
 have hsub := PySem.F.called_set.sub
 refine wpAny_call (codeAny_of_tree ?_)
 show wpAny _ _ (callAny (.type "set") _) _ _ _
 refine wpAny_pure ⟨Code.quiet_builtin _ (by decide +kernel),codeAny_builtin PySem.F.entry_type_call ?_⟩
 rw [Around.under_plain (weight_type_call_type "set" [.ref l] []) rfl]
 have h1 := PySem.F.called_set.notType
 have h2 := PySem.F.called_set.canCreate
 have hct := PySem.F.typeCall_set_1 (.ref l)
 generalize lU : (!w.params.followText "set-order") = led
 repeat (any_goals (first | assumption | wp_step))
 refine codeAny_mono (sY (prog := prog) (w := w) (.ref l) (E := E) (Q₁ := fun obj s₁ => obj = .ref s.heap.objs.size ∧ s₁ = { s with heap := s.heap.push { cls := .type "set",dict := none,data := .set #[] 0 (.fresh 0 0 led) } }) (by rw [lU]; exact ⟨rfl,rfl⟩)) fun r s₁ hr => ?_
 have Km : w.params.followText "set-order" = true ∨ led = true := by
  cases q : w.params.followText "set-order" with
  | true => exact .inl rfl
  | false => rw [q] at lU; exact .inr lU.symm
 cases r with
 | error e => exact hr
 | ok fl =>
  cases fl with
  | next => exact hr.elim
  | brk => exact hr.elim
  | cont => exact hr.elim
  | ret obj =>
   obtain ⟨rfl,rfl⟩ := hr
   have hS : (s.heap.push { cls := .type "set",dict := none,data := .set #[] 0 (.fresh 0 0 led) }).get? s.heap.objs.size = some { cls := .type "set",dict := none,data := .set #[] 0 (.fresh 0 0 led) } := Heap.get?_push_size _ rfl
   have hT : Shared.TypeIs { s with heap := s.heap.push { cls := .type "set",dict := none,data := .set #[] 0 (.fresh 0 0 led) } } (.ref s.heap.objs.size) "set" := ⟨_,hS,rfl⟩
   have hli := PySem.F.called_set.init.lookup
   have hbi := PySem.F.called_set.init.bind (.ref s.heap.objs.size)
   repeat (any_goals (first | assumption | wp_step))
   refine codeAny_mono (codeAny_call_builtin (R := wants (fun r s₂ => r = .none ∧ ∃ h' tk us,s₂ = { s with heap := h',toks := tk } ∧ ft prog w h' s.heap.objs.size us ∧ us.length ≤ ns.length ∧ (∀ j,j ∈ us ↔ j ∈ ns) ∧
     (∀ b o,b < s.heap.objs.size → s.heap.get? b = some o → h'.get? b = some o)) E) PySem.F.called_set.init.plain PySem.F.entry_set_init (check_set_init_1 hT ?_)) fun r₂ s₂ hr₂ => ?_
   ·obtain ⟨ol,hol,hcl,nl,hdl⟩ := hl
    obtain ⟨ocls,odict,odata,oslots⟩ := ol
    simp only at hcl hdl
    subst hcl; subst hdl
    have hol' : (s.heap.push { cls := .type "set",dict := none,data := .set #[] 0 (.fresh 0 0 led) }).get? l = some { cls := .type "list",dict := odict,data := .seq items nl,slots := oslots } := Heap.get?_push_of_some _ hol
    have hsls := PySem.F.sub_list_set
    have hslf := PySem.F.sub_list_frozenset
    have hne : (Value.type "list" == Value.type "dict") = false := by decide
    have hl1 : (s.heap.push { cls := .type "set",dict := none,data := .set #[] 0 (.fresh 0 0 led) }).IsList l items := ⟨_,hol',rfl,nl,rfl⟩
    unfold Builtin.«set.__init__» noKeywords Builtin.Frozenset.updateFrom
    generalize hPI : pyIter = PI
    wp_walk
    subst hPI
    refine wpAny_pyIter_list hl1 ?_
    refine wpAny_bind (wpAny_runValue ?_)
    have hlS : l < s.heap.objs.size := Heap.lt_size hol
    have hh3 : A.in1.in1.in1.handled = none := by simp [hh]
    have hneI : l ≠ (s.heap.push { cls := .type "set",dict := none,data := .set #[] 0 (.fresh 0 0 led) }).objs.size := by
     rw [Heap.size_push]; exact Nat.ne_of_lt (Nat.lt_succ_of_lt hlS)
    have hSf : s.heap.objs.size ∉ [(s.heap.push { cls := .type "set",dict := none,data := .set #[] 0 (.fresh 0 0 led) }).objs.size,l] := by
     rw [Heap.size_push]; simp only [List.mem_cons,List.mem_singleton,List.not_mem_nil,or_false,not_or]
     exact ⟨Nat.ne_of_lt (Nat.lt_succ_self _),Nat.ne_of_gt hlS⟩
    have hval : ∀ (i : Nat) (v : Value),items[i]? = some v → ∃ t,v = .int ((fun i => ns.getD i 0) i) t := fun i v hv =>
     IntsAre.int_at hi i v (by rw [Array.getElem?_toList]; exact hv)
    have hnl : ns.length = items.size := by rw [← IntsAre.length hi,Array.length_toList]
    refine jN ((Walks.list hh3 _ l hneI items).toS) s.heap.objs.size hSf (fun i => ns.getD i 0) hval hb (items.size - 0) 0 _ [] (by omega) (Nat.zero_le _)
     ⟨⟨_,Heap.get?_push_size _ rfl,rfl,rfl⟩,(hl1.push _)⟩ ?hS0 (Nat.zero_le _) (fun j => by simp) ?hR
    case hS0 =>
     have hget : ((s.heap.push { cls := .type "set",dict := none,data := .set #[] 0 (.fresh 0 0 led) }).push { cls := .type "list_iterator",data := .fields #[.ref l,.int 0 0] }).get? s.heap.objs.size
       = some { cls := .type "set",dict := none,data := .set #[] 0 (.fresh 0 0 led) } := Heap.get?_push_of_some _ hS
     exact ⟨#[],0,.fresh 0 0 led,⟨_,hget,⟨rfl,rfl,rfl⟩,rfl⟩,by rfl,⟨rfl,fun _ i k _ hk => by simp [SetTable.fresh] at hk⟩,Km,fun e he => by simp at he,.nil,List.nodup_nil⟩
    case hR =>
     intro s' us hm hS' hlen hmem
     obtain ⟨h',g',d',tk',os'⟩ := s'
     have eg : g' = s.gens := hm.gens
     have ed : d' = s.drawn := hm.drawn
     have eo : os' = s.os := hm.os
     subst eg; subst ed; subst eo
     show wpAny _ _ _ _ _ _
     refine wpAny_pure ?_
     show wpAny _ _ (ret Value.none) _ _ _
     refine wpAny_pure ⟨rfl,h',tk',us,rfl,hS',by omega,fun j => ?_,fun b o hb e => ?_⟩
     ·rw [hmem]
      constructor
      ·rintro ⟨m,h1,h2⟩
       have hm' : m < ns.length := by omega
       rw [← h2]
       show ns.getD m 0 ∈ ns
       rw [List.getD_eq_getElem?_getD,List.getElem?_eq_getElem hm']
       exact List.getElem_mem hm'
      ·intro hj
       obtain ⟨m,hm',e⟩ := List.getElem_of_mem hj
       refine ⟨m,by omega,?_⟩
       show ns.getD m 0 = j
       rw [List.getD_eq_getElem?_getD,List.getElem?_eq_getElem hm']
       exact e
     have hb1 : b ≠ s.heap.objs.size := Nat.ne_of_lt hb
     have hb2 : b ≠ (s.heap.push { cls := .type "set",dict := none,data := .set #[] 0 (.fresh 0 0 led) }).objs.size := by
      rw [Heap.size_push]; exact Nat.ne_of_lt (Nat.lt_succ_of_lt hb)
     exact hm.heap b o (by simp only [List.mem_cons,List.mem_singleton,List.not_mem_nil,or_false,not_or]; exact ⟨hb1,hb2⟩) (Heap.get?_push_of_some _ (Heap.get?_push_of_some _ e))
   ·cases r₂ with
    | error e => exact hr₂
    | ok fl₂ =>
     cases fl₂ with
     | ret r =>
      obtain ⟨rfl,h',tk,us,rfl,hS',h1',h2',hk'⟩ := hr₂
      repeat (any_goals (first | assumption | wp_step))
      exact h _ _ us hS' h1' h2' hk'
     | _ => exact hr₂.elim
end
end SF
namespace L2
open PySem PySem.Spec PyProof.Rows
def iV (P : Program) (w : World) (l : Addr) (us : List Int) : HO := .ext fun h => SF.ft P w h l us
theorem kO {P : Program} {w : World} {h : Heap} {l : Addr} {us : List Int} (x : SF.ft P w h l us) : ∃ o,h.get? l = some o := by
 obtain ⟨_,_,_,⟨o,ho,_⟩,_⟩ := x
 exact ⟨o,ho⟩
section
variable {X : Cx}
theorem jO (hc : X.calm = true) : eI X (.type "set") (fun xs H Q => ∃ (p : Addr) (ns : List Int),xs = [.ref p] ∧ aZ X.K H p (ns.map V.int) ∧ ns.length < 4000 ∧ ∀ (l : Addr) (us : List Int),H l = none → us.length ≤ ns.length → us.Nodup → (∀ j,j ∈ us ↔ j ∈ ns) → Q (.ref l) (upd H l (iV X.prog X.w l us))) := by
 intro pins s σ H xs Kn Q I r h
 obtain ⟨p,ns,rfl,hp,hz,q⟩ := h
 obtain ⟨u,rfl,ru⟩ := vals1 r
 cases ru
 obtain ⟨its,hv,pl,_⟩ := I.list hp
 have hi := intsAre_of hv
 have hl : its.length = ns.length := IntsAre.length hi
 refine SF.wM (I.ok.hd hc) (items := its.toArray) (ns := ns) pl.isList (by simpa using hi) (by rw [List.size_toArray,hl]; unfold scanBound; omega) fun h' tk us hS h1 h2 hk => ?_
 have hn : us.Nodup := by obtain ⟨_,_,_,_,_,_,_,_,_,hn⟩ := hS; exact hn
 refine ⟨.ref s.heap.objs.size,upd H s.heap.objs.size (iV X.prog X.w s.heap.objs.size us),I.laid (fun b o e => hk b o (Heap.lt_size e) e) (Nat.le_refl _) ?_,rfl,q _ us I.fresh h1 hn h2⟩
 exact ⟨hS,kO hS,fun h1 h2 x e => SF.ft.at x e⟩
theorem ei (hc : X.calm = true) : eI X (.builtin "sorted") (fun xs H Q => ∃ (p : Addr) (us : List Int),xs = [.ref p] ∧ H p = some (iV X.prog X.w p us) ∧ us.length < 64 ∧ ∀ (l : Addr) (ms : List Int),H l = none → ms.Perm us → ms.Pairwise (· ≤ ·) → Q (.ref l) (upd H l (.lst (ms.map V.int)))) := by
 intro pins s σ H xs Kn Q I r h
 obtain ⟨p,us,rfl,hp,hz,q⟩ := h
 obtain ⟨u,rfl,ru⟩ := vals1 r
 cases ru
 obtain ⟨hS,_,_⟩ := (show bz X.prog X.w H s.heap p (iV X.prog X.w p us) from I.hok p _ hp)
 obtain ⟨es,ep,t,a1,a2,a3,a4,a5,a6,a7⟩ := hS
 refine SF.rn (I.ok.hd hc) (ns := us) ⟨a1,a2,a3,a4⟩ a6 hz fun D h' d tk out ms c hD hk hg hI hperm BJ => ?_
 have hl : ms.length < 64 := by rw [hperm.length_eq]; exact hz
 have nD : H D = none := I.hok.fresh hD
 have new : bz X.prog X.w (upd H D (.lst (ms.map V.int))) h' D (.lst (ms.map V.int)) := ⟨by rw [List.length_map,sizeLine_eq]; omega,out.toList,c,jo hI,by rw [hg]⟩
 refine ⟨.ref D,upd H D (.lst (ms.map V.int)),I.call (g' := s.gens) (d' := d) (t' := tk) (ch := []) (Un.laid hk hD nD) (I.hok.laid hk hD new) I.bare (fun b z => absurd z (by simp)),rfl,q D ms nD hperm BJ⟩
theorem eK : eI X (.builtin "isinstance") (fun xs H Q => ∃ (x : V) (n : String) (t : Value) (b : Bool),xs = [x,.ty n] ∧ fh X.K H x t ∧ PySem.W.kitOne X.K t (.type n) = some b ∧ Q (.bl b) H) := by
 intro pins s σ H xs us Q I r h
 obtain ⟨x,n,t,b,rfl,ht,hk,q⟩ := h
 obtain ⟨u,v,rfl,ru,rv⟩ := vals2 r
 cases rv
 exact uN I ru ht hk fun tk => ⟨.bl b,H,I.tok tk,rfl,q⟩
def Fc (a b : V) : Prop := (∃ p,a = .ref p ∧ b = .ref p) ∨ (∃ i j,a = .int i ∧ b = .int j) ∨ ∃ i j,a = .str i ∧ b = .str j
theorem zK {A : Around} {s : Shared} {a b : V} {u v : Value} (h : Fc a b) (ra : RelV a u) (rb : RelV b v) : SeqAt.EqAt A s u v (decide (a = b)) := by
 rcases h with ⟨p,rfl,rfl⟩ | ⟨i,j,rfl,rfl⟩ | ⟨i,j,rfl,rfl⟩
 ·cases ra
  cases rb
  rw [decide_eq_true rfl]
  exact SeqAt.EqAt.same _
 ·obtain ⟨t,rfl⟩ := ra
  obtain ⟨t',rfl⟩ := rb
  rw [ot]
  exact SeqAt.EqAt.int_int _ _ _ _
 ·obtain ⟨t,rfl⟩ := ra
  obtain ⟨t',rfl⟩ := rb
  rw [ou]
  exact SeqAt.EqAt.str_str _ _ _ _
theorem all_eq {xs ys : List V} (h : xs.length = ys.length) : ((List.range xs.length).all fun i => decide (xs[i]? = ys[i]?)) = decide (xs = ys) := by
 rw [Bool.eq_iff_iff,List.all_eq_true,decide_eq_true_iff]
 constructor
 ·intro q
  apply List.ext_getElem?
  intro i
  rcases Nat.lt_or_ge i xs.length with z | z
  ·exact of_decide_eq_true (q i (List.mem_range.mpr z))
  ·rw [List.getElem?_eq_none z,List.getElem?_eq_none (by omega)]
 ·rintro rfl i _
  simp
end
section
variable {X : Cx}
end
end L2
namespace L2
open PySem PySem.W PySem.Spec PySem.Calls PyProof.Rows
section
variable {X : Cx} {pos pos' : Pos} {o i value : Expr} {td ty tv : TE}
def Ko (K : PySem.W.Frag) : R2 := fun x y H Q => ∃ (p q : Addr) (xs ys : List V),x = .ref p ∧ y = .ref q ∧ aZ K H p xs ∧ aZ K H q ys ∧ (∀ (i : Nat) a b,xs[i]? = some a → ys[i]? = some b → Fc a b ∨ (a = .non ∧ b = .non)) ∧ Q (.bl (decide (xs = ys))) H
theorem wN (hu : X.A.units < cLine) : iL X (compareOp .Eq) (Ko X.K) := by
 intro pins s σ H x y v u Q I rx ry h
 obtain ⟨p,q,xs,ys,rfl,rfl,hp,hq,hc,k⟩ := h
 cases rx
 cases ry
 obtain ⟨its,hv,pl,_⟩ := I.list hp
 obtain ⟨its2,hv2,Wc,_⟩ := I.list hq
 have e1 := hv.length
 have e2 := hv2.length
 by_cases hl : xs.length = ys.length
 ·have key : SeqAt.RcAt X.A s (.ref p) (.ref q) ((List.range its.toArray.size).all fun i => decide (xs[i]? = ys[i]?)) := by
   refine SeqAt.RcAt.lists pl.isList Wc.isList (by simp; omega) hu fun j h1 h2 => ?_
   have j1 : j < xs.length := by simp at h1; omega
   have j2 : j < ys.length := by simp at h2; omega
   have z1 : xs[j]? = some xs[j] := List.getElem?_eq_getElem j1
   have z2 : ys[j]? = some ys[j] := List.getElem?_eq_getElem j2
   obtain ⟨u1,w1,r1⟩ := hv.get z1
   obtain ⟨u2,w2,r2⟩ := hv2.get z2
   have i1 : its.toArray[j] = u1 := by
    have : its[j]? = some its[j] := List.getElem?_eq_getElem (by omega)
    rw [this] at w1
    simpa using w1
   have i2 : its2.toArray[j] = u2 := by
    have : its2[j]? = some its2[j] := List.getElem?_eq_getElem (by omega)
    rw [this] at w2
    simpa using w2
   rw [i1,i2,z1,z2]
   have e : decide (some xs[j] = some ys[j]) = decide (xs[j] = ys[j]) := by simp
   rw [e]
   rcases hc j _ _ z1 z2 with hc | ⟨ha,hb⟩
   ·exact zK hc r1 r2
   ·rw [ha] at r1 ⊢
    rw [hb] at r2 ⊢
    have q1 : u1 = Value.none := r1
    have q2 : u2 = Value.none := r2
    subst q1 q2
    rw [decide_eq_true rfl]
    exact SeqAt.EqAt.same _
  rw [List.size_toArray,← e1,all_eq hl] at key
  exact key _ _ _ _ ⟨.bl (decide (xs = ys)),H,I,rfl,k⟩
 ·have key : SeqAt.RcAt X.A s (.ref p) (.ref q) false := SeqAt.RcAt.lists_lengths pl.isList Wc.isList (by simp; omega) hu
  rw [decide_eq_false (fun z => hl (by rw [z]))] at k
  exact key _ _ _ _ ⟨.bl false,H,I,rfl,k⟩
end
end L2
namespace L2
open PySem PySem.Spec PyProof.Rows
section
variable {X : Cx} {pins : List (Addr × Obj)} {σ : St} {H : Hp} {s : Shared} {h' : Heap}
theorem Inv.mV {t' : Nat} {its : List Addr} {a : Addr} {o : HO} (I : Inv X pins σ H s) (k : ∀ b u,b ∉ its → s.heap.get? b = some u → h'.get? b = some u) (hf : ∀ b ∈ its,jh X pins H b)
  (hp : s.heap.objs.size ≤ a) (new : bz X.prog X.w (upd H a o) h' a o) : Inv X pins σ (upd H a o) { s with heap := h',toks := t' } := by
 have hn : H a = none := I.hok.fresh hp
 have Ej : ∀ b u,H b = some u → b ∉ its := fun b u e z => by rw [(hf b z).1] at e; cases e
 have X0 : ∀ b u,s.heap.get? b = some u → b ≠ a := fun b u e => Nat.ne_of_lt (Nat.lt_of_lt_of_le (Heap.lt_size e) hp)
 refine I.step (g' := s.gens) (d' := s.drawn) (ch := its) (fun b hb => ?_) (fun b o _ _ hc e _ => k b o hc e) (fun b o _ _ hc e _ => ⟨o.slots,k b o hc e⟩) (fun b u _ e n => ?_)
  (fun b o hc e => ⟨o,k b o hc e⟩) (fun b xs e => ?_) (fun b u v e => ?_) (fun b ps e => ⟨#[],?_⟩) (fun m hm => ?_) (fun b u e => ?_) I.bare
 ·obtain ⟨_,f1,f2,f3,f4,f5⟩ := hf b hb
  exact ⟨f3,f1,f4,f5⟩
 ·rw [aw (X0 b u e)]; exact n
 ·rw [aw (aq e hn)]; exact e
 ·rw [aw (aq e hn)]; exact e
 ·rw [aw (aq e hn),e]; simp
 ·obtain ⟨o,es,ep,ho,r⟩ := hm
  exact ⟨o,es,ep,k _ o (fun z => (hf _ z).2.1 rfl) ho,r⟩
 ·by_cases hb : b = a
  ·subst hb
   rw [ah] at e
   cases e
   exact new
  ·rw [aw hb] at e
   refine (I.hok b u e).stay (fun c v hc q => k c v ?_ q) (fun c q => by rw [aw (aq q hn)]; exact q) fun c xs q => by rw [aw (aq q hn)]; exact q
   rcases hc with z | z
   ·rw [z]; exact Ej b u e
   ·exact Ej c _ z
end
def Ite (K : PySem.W.Frag) (a : Addr) : It :=
 ⟨fun i H => ∃ xs x,aZ K H a xs ∧ xs[i]? = some x,
   fun i H x H' => ∃ t y,H t = none ∧ x = .ref t ∧ H' = upd H t (.tup [.int i,y]) ∧ ∀ xs,aZ K H a xs → xs[i]? = some y,
   fun i H => ∃ xs,aZ K H a xs ∧ xs.length ≤ i⟩
theorem uW {P : Program} {w : World} {K : PySem.W.Frag} {elts : List Expr} {x1} {pos : Pos} (a e it : Addr) (hne : e ≠ it) :
  Turn P w K (.Tuple elts x1 pos) (Ite K a) [e,it] e (fun i h => (∃ old,IsEnum h e it i old) ∧ h.IsListIter it a i) where
 mem := by simp
 obj := fun i h st b hb => by
  obtain ⟨⟨old,he⟩,o,eo,c,d⟩ := st
  rcases List.mem_cons.mp hb with rfl | hb
  ·exact ⟨_,he,fun v z => by
    have z' : Data.fields _ = Data.cell v := z
    cases z'⟩
  ·rw [List.mem_singleton.mp hb]
   exact ⟨o,eo,fun v z => by rw [d] at z; cases z⟩
 keep := fun i h h' st k => ⟨st.1.elim fun old he => ⟨old,k e (by simp) _ he⟩,st.2.at fun o eo => k it (by simp) o eo⟩
 item := by
  intro X hP hw hK hc i pins s σ H E I hf st hg
  subst hP hw hK
  obtain ⟨xs,x,hq,hx⟩ := hg
  obtain ⟨⟨old,he⟩,hit⟩ := st
  obtain ⟨its,rv,p,hz⟩ := I.list hq
  obtain ⟨u,hu,ru⟩ := rv.get hx
  refine wpAny_pyNext_enum_item he hit p.isList (x := u) (by simpa using hu) hne fun h1 D6 hit1 ht1 hz1 k1 => ?_
  refine ⟨_,rfl,wpAny_letOwnedTupleGo_enum D6 fun h2 he2 hs2 => ?_⟩
  have wO : s.heap.objs.size ≠ e := Nat.ne_of_gt (Heap.lt_size he)
  have Fd := (hs2.2 s.heap.objs.size wO).trans ht1
  have hk : ∀ b o,b ∉ [e,it] → s.heap.get? b = some o → h2.get? b = some o := fun b o hb e' => by
   have hb' : b ≠ e ∧ b ≠ it := by simpa using hb
   exact (hs2.2 b hb'.1).trans (k1 b o hb'.1 hb'.2 e')
  have hfr : H s.heap.objs.size = none := I.hok.fresh (Nat.le_refl _)
  refine ⟨.ref s.heap.objs.size,upd H s.heap.objs.size (.tup [.int i,x]),I.mV (t' := s.toks + 1) hk hf (Nat.le_refl _) ?_,rfl,⟨_,x,hfr,rfl,rfl,fun ys hy => by rw [I.pL hy hq]; exact hx⟩,⟨⟨u,?_⟩,?_⟩,fun b hb => ?_⟩
  ·exact ⟨by show 2 ≤ sizeLine; decide,[.int i s.toks,u],.cons ⟨_,rfl⟩ (.cons ru .nil),⟨_,Fd,rfl,_,rfl⟩⟩
  ·exact he2
  ·obtain ⟨o,e1,e2⟩ := hit1
   exact ⟨o,(hs2.2 it (Ne.symm hne)).trans e1,e2⟩
  ·have : b ≠ s.heap.objs.size := by
    rcases List.mem_cons.mp hb with rfl | hb
    ·exact Ne.symm wO
    ·rw [List.mem_singleton.mp hb]
     obtain ⟨o,e1,_⟩ := hit
     exact Nat.ne_of_lt (Heap.lt_size e1)
   rw [aw this]
   exact (hf b hb).1
 done := by
  intro X hP hw hK hc i pins s σ H E I hf st hg
  subst hP hw hK
  obtain ⟨xs,hq,hx⟩ := hg
  obtain ⟨⟨old,he⟩,hit⟩ := st
  obtain ⟨its,rv,p,hz⟩ := I.list hq
  obtain ⟨f0,f1,f2,f3,f4,f5⟩ := hf it (by simp)
  have hl := rv.length
  exact wpAny_pyNext_enum_end (I.ok.hd hc) he hit p.isList (by simp; omega) fun h' eb => ⟨rfl,I.turned (t' := s.toks) (fun b o hb e => eb b o hb e) f0 f1 f3 f4 f5⟩
 self := fun _ _ _ _ _ st h => st.1.elim fun _ he => wpAny_pyIter_enum he h
section
variable {X : Cx}
def Fe (K : PySem.W.Frag) (ta : TA) : TI := fun σ H R => ta σ H fun vs H1 => ∃ a,vs = [.ref a] ∧ (∃ xs,aZ K H1 a xs) ∧ R (Ite K a) H1
theorem zL : bootBuiltins "enumerate" = some (.type "enumerate") := by decide +kernel
theorem sZ {a : Expr} {ta : TA} {p pos : Pos} {elts : List Expr} {x1} {tpos : Pos} (hg : Gl X "enumerate") (hm : X.mg "enumerate" = none) (ha : PA X [a] ta) (hs : starEach [a] X.env = [(false,eval a X.env)] := by rfl) :
  PI X (.Tuple elts x1 tpos) (.Call (.Name "enumerate" p) [a] [] pos) (Fe X.K ta) := by
 intro pins s σ H R I h
 refine Call_ (kf I hg hm zL (PyProof.Rows.callWith_type1 (bO (ha pos pins s σ H _ I h) fun us s1 ⟨vs,H1,I1,r1,q1⟩ => ?_) hs rfl))
 obtain ⟨a,e,⟨xs,hq⟩,q⟩ := q1
 subst e
 obtain ⟨u,rfl,ru⟩ := vals1 r1
 cases ru
 obtain ⟨its,rv,p,hz⟩ := I1.list hq
 refine call_enumerate_list p.isList fun h' he hit hsz hk => ?_
 refine wpAny_pyIter_enum he ?_
 refine ⟨s1.heap.objs.size + 1,[s1.heap.objs.size + 1,s1.heap.objs.size],_,_,H1,rfl,I1.kept (t' := s1.toks) hk,uW a _ _ (Nat.succ_ne_self _),⟨⟨_,he⟩,hit⟩,fun b hb => ?_,q⟩
 have hb' : s1.heap.objs.size ≤ b := by
  rcases List.mem_cons.mp hb with rfl | hb
  ·exact Nat.le_succ _
  ·rw [List.mem_singleton.mp hb]; exact Nat.le_refl _
 exact I1.vS hb' (I1.hok.fresh hb')
theorem wQ {K : PySem.W.Frag} {a : Addr} {xs : List V} {g : TG} {tb : TS} {D : Ends} {σ : St} {H : Hp} (Pv : Nat → St → Hp → Prop) (h0 : Pv 0 σ H) (hl : ∀ i σ H,i ≤ xs.length → Pv i σ H → aZ K H a xs)
  (hs : ∀ i x σ H t,xs[i]? = some x → H t = none → Pv i σ H → g (.ref t) σ (upd H t (.tup [.int i,x])) fun σ2 H2 => tb { D with nx := Pv (i + 1),ct := Pv (i + 1),bk := D.nx } σ2 H2) (hd : ∀ σ H,Pv xs.length σ H → D.nx σ H) :
  ∃ W : Nat → Nat → St → Hp → Prop,(∃ m,W 0 m σ H) ∧ ∀ i m σ H,W i m σ H →
   ((Ite K a).stop i H ∧ D.nx σ H) ∨ ((Ite K a).go i H ∧ ∃ N : St → Hp → Prop,(∀ σ' H',N σ' H' → ∃ m',m' < m ∧ W (i + 1) m' σ' H') ∧ ∀ x H',(Ite K a).vH i H x H' → g x σ H' fun σ2 H2 => tb { D with nx := N,ct := N,bk := D.nx } σ2 H2) := by
 refine ⟨fun i m σ H => m = xs.length - i ∧ i ≤ xs.length ∧ Pv i σ H,⟨xs.length,by simp,Nat.zero_le _,h0⟩,?_⟩
 rintro i m σ H ⟨rfl,hi,p⟩
 have q := hl i σ H hi p
 by_cases hlt : i < xs.length
 ·refine .inr ⟨⟨xs,xs[i],q,by simp [hlt]⟩,Pv (i + 1),fun σ' H' p' => ⟨xs.length - (i + 1),by omega,rfl,hlt,p'⟩,fun x H' y => ?_⟩
  obtain ⟨t,y,hn,e1,e2,hy⟩ := y
  subst e1 e2
  exact hs i y σ _ t (hy xs q) hn p
 ·have e : i = xs.length := by omega
  subst e
  exact .inl ⟨⟨xs,q,Nat.le_refl _⟩,hd σ H p⟩
end
end L2
namespace L2
open PySem PySem.W PySem.Spec PySem.Calls PyProof.Rows
def NF (X : Cx) (a : Addr) : Prop := ∀ o u,X.H₀ a ≠ some (.iH o u)
section
variable {X : Cx} {pins : List (Addr × Obj)} {σ : St} {H : Hp} {s : Shared} {a : Addr} {kvs : List (Key × V)}
theorem Inv.freeze (I : Inv X pins σ H s) (e : H a = some (.dK kvs)) : NF X a ∧ ∃ o,s.heap.get? a = some o ∧ Inv X pins σ (upd H a (.iH o (.dK kvs))) s := by
 have x := I.hok a _ e
 obtain ⟨z,y,vs,r,ob,es,ep,g,c⟩ := id x
 refine ⟨fun o u h => ?_,ob,g,?_⟩
 ·have := I.base.iq a o u h
  rw [e] at this
  cases this
 ·exact I.write (x := a) (e := a) (h' := s.heap) (t' := s.toks) (by rw [e]; exact True.intro) (.inl rfl) (fun b u _ q => q) ⟨ob,g⟩ ⟨g,z,y,vs,r,ob,es,ep,g,c⟩
theorem Inv.Kp {o : Obj} (I : Inv X pins σ H s) (e : H a = some (.iH o (.dK kvs))) (n : NF X a) : Inv X pins σ (upd H a (.dK kvs)) s := by
 have x : bz X.prog X.w H s.heap a (.iH o (.dK kvs)) := I.hok a _ e
 have ne : ∀ b u,H b = some u → (∀ o' u',u ≠ .iH o' u') → b ≠ a := fun b u h hn => cq h e (hn _ _)
 refine ⟨I.ok,I.os,I.bare,⟨I.base.keep,I.base.slot,fun b ob q nb hx => ?_,I.base.there,fun b xs q => ?_,fun b ob u q => ?_,fun b ps q => ?_⟩,I.loc,I.cell,?_,fun y c hc => ?_,fun p hp => ?_,fun b u q => ?_,I.len⟩
 ·have h := I.base.free b ob q nb hx
  rw [aw (fun z => by rw [z,e] at h; cases h)]
  exact h
 ·have h := I.base.tups b xs q
  rw [aw (ne b _ h (by intro _ _ z; cases z))]
  exact h
 ·have h := I.base.iq b ob u q
  have hb : b ≠ a := fun z => n ob u (by rw [← z]; exact q)
  rw [aw hb]
  exact h
 ·obtain ⟨more,h⟩ := I.base.jf b ps q
  refine ⟨more,?_⟩
  rw [aw (ne b _ h (by intro _ _ z; cases z))]
  exact h
 ·rw [aw (fun z => by have := I.free; rw [z,e] at this; cases this)]
  exact I.free
 ·rw [aw (fun z => by have := I.dH y c hc; rw [z,e] at this; cases this)]
  exact I.dH y c hc
 ·obtain ⟨p1,p2,p3⟩ := I.pin p hp
  refine ⟨p1,?_,p3⟩
  rw [aw (fun z => by rw [z,e] at p2; cases p2)]
  exact p2
 ·by_cases hb : b = a
  ·subst hb
   rw [ah] at q
   cases q
   exact x.2.stay (fun c v _ q => q) (fun c q => by rw [aw (ne c _ q (by intro _ _ z; cases z))]; exact q) fun c xs q => by rw [aw (ne c _ q (by intro _ _ z; cases z))]; exact q
  ·rw [aw hb] at q
   exact (I.hok b u q).stay (fun c v _ q => q) (fun c q => by rw [aw (ne c _ q (by intro _ _ z; cases z))]; exact q) fun c xs q => by rw [aw (ne c _ q (by intro _ _ z; cases z))]; exact q
end
def Ff (X : Cx) (t : TS) : TS := fun D σ H => t { D with nx := fun σ' H' => ∃ a o kvs,H' a = some (.iH o (.dK kvs)) ∧ NF X a ∧ D.nx σ' (upd H' a (.dK kvs)) } σ H
theorem zM {X : Cx} {st : Stmt} {t : TS} (h : PS X st t) : PS X st (Ff X t) := fun pins s σ H D I hw =>
 wpAny_mono (h pins s σ H _ I hw) (fun f s' q => by
  cases f with
  | next =>
   obtain ⟨σ',H',I',a,o,kvs,ea,n,q⟩ := q
   exact ⟨σ',_,I'.Kp ea n,q⟩
  | brk => exact q
  | cont => exact q
  | ret u => exact q) fun _ _ z => z
theorem kQ {α β : Type} {R : α → β → Prop} {xs : List α} {ys : List β} (r : Paired R xs ys) : ∀ {i : Nat} {x : α},xs[i]? = some x → ∃ y,ys[i]? = some y ∧ R x y := by
 induction r with
 | nil => intro i x h; simp at h
 | cons h t ih =>
  intro i x e
  cases i with
  | zero =>
   have e' := Option.some.inj e
   subst e'
   exact ⟨_,rfl,h⟩
  | succ i => exact ih (by simpa using e)
theorem C0 {P : Program} {w : World} {k : Key} {u : Value} (h : (bH P w).is k u = true) : RelV (kV k) u := by
 rcases cn h with ⟨i,t,rfl,rfl⟩ | ⟨x,t,rfl,rfl⟩
 ·exact ⟨t,rfl⟩
 ·exact ⟨t,rfl⟩
theorem rA {X : Cx} {pins : List (Addr × Obj)} {σ : St} {H : Hp} {s : Shared} {a : Addr} {o : Obj} {kvs : List (Key × V)} (I : Inv X pins σ H s) (e : H a = some (.iH o (.dK kvs))) :
  (a == sysModules) = false ∧ kvs.length ≤ sizeLine ∧ ∃ vs es ep,o.data = .dict es ep ∧ KV kvs vs ∧ s.heap.DictAt (bH X.prog X.w) a vs ep := by
 obtain ⟨g,z,y,vs,r,ob,es,ep,g',c1,c2,c3⟩ := (show bz X.prog X.w H s.heap a (.iH o (.dK kvs)) from I.hok a _ e)
 rw [g] at g'
 cases g'
 exact ⟨y,z,vs,es,ep,c2,r,o,es,g,c1,c2,c3⟩
def Fg (a : Addr) (o : Obj) (kvs : List (Key × V)) : It :=
 ⟨fun i H => H a = some (.iH o (.dK kvs)) ∧ i < kvs.length,
   fun i H x H' => ∃ t k y,H t = none ∧ x = .ref t ∧ kvs[i]? = some (k,y) ∧ H' = upd H t (.tup [kV k,y]),
   fun i H => H a = some (.iH o (.dK kvs)) ∧ kvs.length ≤ i⟩
theorem rB {P : Program} {w : World} {K : PySem.W.Frag} {elts : List Expr} {x1} {pos : Pos} (a it : Addr) (o : Obj) (kvs : List (Key × V)) {es : Array DictEntry} {ep : Nat} (ho : o.data = .dict es ep) :
  Turn P w K (.Tuple elts x1 pos) (Fg a o kvs) [it] it (fun i h => ∃ ok ov,IsItemIter h it a i kvs.length ep ok ov) where
 mem := by simp
 obj := fun i h st b hb => by
  obtain ⟨ok,ov,he⟩ := st
  rw [List.mem_singleton.mp hb]
  exact ⟨_,he,fun v z => by
   have z' : Data.fields _ = Data.cell v := z
   cases z'⟩
 keep := fun i h h' st k => st.elim fun ok st => st.elim fun ov he => ⟨ok,ov,k it (by simp) _ he⟩
 item := by
  intro X hP hw hK hc i pins s σ H E I hf st hg
  subst hP hw hK
  obtain ⟨ha,hi⟩ := hg
  obtain ⟨y,z,vs,es',ep',ho',r,dA⟩ := rA I ha
  rw [ho] at ho'
  cases ho'
  have hl := r.length
  have hk1 : kvs[i]? = some kvs[i] := List.getElem?_eq_getElem hi
  obtain ⟨kv,hkv,rk,ru⟩ := kQ r hk1
  obtain ⟨ok,ov,he⟩ := st
  rw [hl] at he
  refine wpAny_pyNext_items_item he dA (k := kv.1) (v := kv.2) hkv fun key h1 hkey D6 ht1 hz1 k1 => ?_
  refine ⟨_,rfl,wpAny_letOwnedTupleGo_items D6 fun h2 he2 hs2 => ?_⟩
  have wO : s.heap.objs.size ≠ it := Nat.ne_of_gt (Heap.lt_size he)
  have Fd := (hs2.2 s.heap.objs.size wO).trans ht1
  have hk : ∀ b o,b ∉ [it] → s.heap.get? b = some o → h2.get? b = some o := fun b o hb e' => by
   have hb' : b ≠ it := by simpa using hb
   exact (hs2.2 b hb').trans (k1 b o hb' e')
  have hfr : H s.heap.objs.size = none := I.hok.fresh (Nat.le_refl _)
  refine ⟨.ref s.heap.objs.size,upd H s.heap.objs.size (.tup [kV kvs[i].1,kvs[i].2]),I.mV (t' := s.toks) hk hf (Nat.le_refl _) ?_,rfl,⟨_,kvs[i].1,kvs[i].2,hfr,rfl,hk1,rfl⟩,⟨_,_,by rw [hl]; exact he2⟩,fun b hb => ?_⟩
  ·exact ⟨by show 2 ≤ sizeLine; decide,[key,kv.2],.cons (by rw [rk]; exact C0 hkey) (.cons ru .nil),⟨_,Fd,rfl,_,rfl⟩⟩
  ·have : b ≠ s.heap.objs.size := by
    rw [List.mem_singleton.mp hb]
    exact Ne.symm wO
   rw [aw this]
   exact (hf b hb).1
 done := by
  intro X hP hw hK hc i pins s σ H E I hf st hg
  subst hP hw hK
  obtain ⟨ha,hi⟩ := hg
  obtain ⟨y,z,vs,es',ep',ho',r,dA⟩ := rA I ha
  rw [ho] at ho'
  cases ho'
  have hl := r.length
  obtain ⟨ok,ov,he⟩ := st
  rw [hl] at he
  obtain ⟨f0,f1,f2,f3,f4,f5⟩ := hf it (by simp)
  exact wpAny_pyNext_items_end (I.ok.hd hc) he dA (List.getElem?_eq_none (by omega)) fun h' eb => ⟨rfl,I.turned (t' := s.toks) (fun b o hb e => eb b o hb e) f0 f1 f3 f4 f5⟩
 self := fun _ _ _ _ _ st h => st.elim fun ok st => st.elim fun ov he => kcp_self he h
section
variable {X : Cx}
def C1 (X : Cx) (td : TE) : TI := fun σ H R => td σ H fun x H1 => ∃ a kvs,x = .ref a ∧ H1 a = some (.dK kvs) ∧ ∀ o,NF X a → R (Fg a o kvs) (upd H1 a (.iH o (.dK kvs)))
theorem wR {elts : List Expr} {x1} {tpos : Pos} {e : Expr} {apos pos : Pos} {td : TE} (hd : PE X e td) (hbase : attributeBase e "items" X.env (eval e X.env) = eval e X.env := by rfl) (hline : (apos.endLine == pos.line) = true := by rfl) :
  PI X (.Tuple elts x1 tpos) (.Call (.Attribute e "items" apos) [] [] pos) (C1 X td) := by
 intro pins s σ H R I h
 refine wpAny_Call_method (T := "dict") (id := "dict.items") hbase rfl hline PySem.F.plainAttrs_dict PySem.F.slot_dict_items PySem.F.type_dict_items (bO (hd pins s σ H _ I h) fun u s1 ⟨x,H1,I1,rx,a,kvs,ex,ea,q⟩ => ?_)
 subst ex
 obtain rfl : u = Value.ref a := rx
 obtain ⟨z,y,vs,r,dd⟩ := sQ I1.hok ea
 refine ⟨dd.typeIs,dd.mapOf.noDict,?_⟩
 show wpAny _ _ (callWith pos (.builtin "dict.items") [.ref a] [] []) _ _ s1
 refine method_meetsIn PySem.F.slot_dict_items PySem.F.entry_dict_items rfl (PySem.evalArgs_none ⟨rfl,dd.typeIs,PySem.F.args_dict_items_1 _,_,meets_dict_items (bH X.prog X.w) a y,⟨vs,dd⟩,?_⟩)
 obtain ⟨nf,o,ho,I2⟩ := I1.freeze ea
 have I3 := I2.kept (t' := s1.toks) (h' := s1.heap.push { cls := .type "dict_items",data := .fields #[.ref a] }) (fun b o e => Heap.get?_push_of_some _ e)
 obtain ⟨y3,z3,vs3,es,ep,hod,r3,dA⟩ := rA I3 (ah (H := H1) (a := a))
 have hl := r3.length
 refine wpAny_pyIter_items (v := s1.heap.objs.size) (d := a) ⟨_,Heap.get?_push_size _ rfl,rfl,rfl⟩ dA ?_
 have hz : (s1.heap.push { cls := .type "dict_items",data := .fields #[.ref a] }).objs.size = s1.heap.objs.size + 1 := size_push' _ _
 refine ⟨_,[(s1.heap.push { cls := .type "dict_items",data := .fields #[.ref a] }).objs.size],_,_,_,rfl,I3.kept (t' := s1.toks) (fun b o e => Heap.get?_push_of_some _ e),rB a _ o kvs hod,?_,fun b hb => ?_,q o nf⟩
 ·exact ⟨_,_,by rw [hl]; exact Heap.get?_push_size _ rfl⟩
 ·rw [List.mem_singleton.mp hb]
  exact I3.vS (Nat.le_refl _) (I3.hok.fresh (Nat.le_refl _))
theorem uX {a : Addr} {o : Obj} {kvs : List (Key × V)} {g : TG} {tb : TS} {D : Ends} {σ : St} {H : Hp} (Pv : Nat → St → Hp → Prop) (h0 : Pv 0 σ H) (hl : ∀ i σ H,i ≤ kvs.length → Pv i σ H → H a = some (.iH o (.dK kvs)))
  (hs : ∀ i k y σ H t,kvs[i]? = some (k,y) → H t = none → Pv i σ H → g (.ref t) σ (upd H t (.tup [kV k,y])) fun σ2 H2 => tb { D with nx := Pv (i + 1),ct := Pv (i + 1),bk := D.nx } σ2 H2) (hd : ∀ σ H,Pv kvs.length σ H → D.nx σ H) :
  ∃ W : Nat → Nat → St → Hp → Prop,(∃ m,W 0 m σ H) ∧ ∀ i m σ H,W i m σ H →
   ((Fg a o kvs).stop i H ∧ D.nx σ H) ∨ ((Fg a o kvs).go i H ∧ ∃ N : St → Hp → Prop,(∀ σ' H',N σ' H' → ∃ m',m' < m ∧ W (i + 1) m' σ' H') ∧ ∀ x H',(Fg a o kvs).vH i H x H' → g x σ H' fun σ2 H2 => tb { D with nx := N,ct := N,bk := D.nx } σ2 H2) := by
 refine ⟨fun i m σ H => m = kvs.length - i ∧ i ≤ kvs.length ∧ Pv i σ H,⟨kvs.length,by simp,Nat.zero_le _,h0⟩,?_⟩
 rintro i m σ H ⟨rfl,hi,p⟩
 have q := hl i σ H hi p
 by_cases hlt : i < kvs.length
 ·refine .inr ⟨⟨q,hlt⟩,Pv (i + 1),fun σ' H' p' => ⟨kvs.length - (i + 1),by omega,rfl,hlt,p'⟩,fun x H' y => ?_⟩
  obtain ⟨t,k,v,ht,rfl,e,rfl⟩ := y
  exact hs i k v σ H t e ht p
 ·have e : i = kvs.length := by omega
  subst e
  exact .inl ⟨⟨q,Nat.le_refl _⟩,hd σ H p⟩
end
def rC (x : V) : Prop := x = .non ∨ (∃ i,x = .int i) ∨ ∃ t,x = .str t
theorem oH {A : Around} {s : Shared} {x : V} {u v : Value} (h : rC x) (ru : RelV x u) (rv : RelV x v) : SeqAt.EqAt A s u v true := by
 rcases h with rfl | ⟨i,rfl⟩ | ⟨t,rfl⟩
 ·have e1 : u = Value.none := ru
  have e2 : v = Value.none := rv
  subst e1 e2
  exact SeqAt.EqAt.same _
 ·obtain ⟨t1,rfl⟩ := ru
  obtain ⟨t2,rfl⟩ := rv
  have := SeqAt.EqAt.int_int (A := A) (s := s) i t1 i t2
  rwa [beq_self_eq_true] at this
 ·obtain ⟨t1,rfl⟩ := ru
  obtain ⟨t2,rfl⟩ := rv
  have := SeqAt.EqAt.str_str (A := A) (s := s) t t1 t t2
  rwa [beq_self_eq_true] at this
abbrev iD (kvs : List (Int × Int)) : List (Key × V) := kvs.map fun p => (Sum.inl p.1,V.int p.2)
def Kq (H : Hp) (x y : V) : Prop := ∃ p q xs,x = .ref p ∧ y = .ref q ∧ H p = some (.tup xs) ∧ H q = some (.tup xs) ∧ ∀ z ∈ xs,rC z
def D7 (H : Hp) (x y : V) : Prop := (x = y ∧ rC x) ∨ Kq H x y ∨ (∃ p q xs,x = .ref p ∧ y = .ref q ∧ H p = some (.lst xs) ∧ H q = some (.lst xs) ∧ ∀ z ∈ xs,rC z) ∨
 (∃ p q xs ys,x = .ref p ∧ y = .ref q ∧ H p = some (.lst xs) ∧ H q = some (.lst ys) ∧ xs.length = ys.length ∧ ∀ (i : Nat) a b,xs[i]? = some a → ys[i]? = some b → Kq H a b) ∨
 ∃ p q ka kb,x = .ref p ∧ y = .ref q ∧ H p = some (.dK (iD ka)) ∧ H q = some (.dK (iD kb)) ∧ ka.length = kb.length ∧ ∀ c ∈ ka,c ∈ kb
theorem all_true (n : Nat) : ((List.range n).all fun _ => true) = true := by simp
def mX (kv : Key × Value) : Int × Value := match kv.1 with
 | .inl i => (i,kv.2)
 | .inr _ => (0,kv.2)
theorem wU {P : Program} {w : World} (P' : Program) (w' : World) {es : List DictEntry} {vs : List (Key × Value)} (p : Pairs (bH P w) es vs) : (∀ kv ∈ vs,∃ i,kv.1 = Sum.inl i) → Pairs (intKind P' w') es (vs.map mX) := by
 induction p with
 | nil => intro _; exact .nil
 | @cons e kv es vs h1 h2 t ih =>
  intro ha
  obtain ⟨i,hi⟩ := ha kv (by simp)
  rw [hi] at h1
  have e1 : mX kv = (i,kv.2) := by unfold mX; rw [hi]
  rw [List.map_cons,e1]
  exact .cons h1 h2 (ih fun kv hk => ha kv (by simp [hk]))
theorem uY {P : Program} {w : World} {es : List DictEntry} {vs : List (Key × Value)} (p : Pairs (bH P w) es vs) : ∀ e ∈ es,∃ kv ∈ vs,(bH P w).is kv.1 e.key = true := by
 induction p with
 | nil => intro e h; simp at h
 | @cons e kv es vs h1 h2 t ih =>
  intro e' he
  rcases List.mem_cons.mp he with rfl | he
  ·exact ⟨kv,by simp,h1⟩
  ·obtain ⟨kv',a,b⟩ := ih e' he
   exact ⟨kv',by simp [a],b⟩
theorem int_dict {P : Program} {w : World} {h : Heap} {a : Addr} {vs : List (Key × Value)} {kvs : List (Int × Int)} (r : KV (iD kvs) vs) (d : h.DictOf (bH P w) a vs) (P' : Program) (w' : World) :
  ∃ us : List (Int × Value),h.DictOf (intKind P' w') a us ∧ us.map (·.1) = kvs.map (·.1) ∧ ∀ (i : Nat) p,kvs[i]? = some p → ∃ t,us[i]? = some (p.1,Value.int p.2 t) := by
 obtain ⟨o,es,ep,g,ex,dt,hk,hp,hn⟩ := d
 have hl : vs.length = kvs.length := by rw [← r.length,List.length_map]
 have hv : ∀ (i : Nat) p,kvs[i]? = some p → ∃ t,vs[i]? = some (Sum.inl p.1,Value.int p.2 t) := fun i p hi => by
  obtain ⟨y,hy,h1,h2⟩ := kQ r (i := i) (x := (Sum.inl p.1,V.int p.2)) (by rw [List.getElem?_map,hi]; rfl)
  obtain ⟨t,e⟩ := (show ∃ t,y.2 = Value.int p.2 t from h2)
  exact ⟨t,by rw [hy,← e]; congr 1; exact Prod.ext h1.symm rfl⟩
 have hu : ∀ (i : Nat) p,kvs[i]? = some p → ∃ t,(vs.map mX)[i]? = some (p.1,Value.int p.2 t) := fun i p hi => by
  obtain ⟨t,e⟩ := hv i p hi
  exact ⟨t,by rw [List.getElem?_map,e]; rfl⟩
 have hkeys : (vs.map mX).map (·.1) = kvs.map (·.1) := by
  apply List.ext_getElem?
  intro i
  rcases Nat.lt_or_ge i kvs.length with hi | hi
  ·obtain ⟨t,e⟩ := hu i kvs[i] (List.getElem?_eq_getElem hi)
   rw [List.getElem?_map,e,List.getElem?_map,List.getElem?_eq_getElem hi]
   rfl
  ·rw [List.getElem?_eq_none (by rw [List.length_map,List.length_map]; omega),List.getElem?_eq_none (by rw [List.length_map]; omega)]
 have hall : ∀ kv ∈ vs,∃ i,kv.1 = Sum.inl i := fun kv hm => by
  obtain ⟨i,hi,e⟩ := List.getElem_of_mem hm
  obtain ⟨t,e2⟩ := hv i kvs[i] (List.getElem?_eq_getElem (by omega))
  rw [List.getElem?_eq_getElem hi,e] at e2
  exact ⟨_,congrArg Prod.fst (Option.some.inj e2)⟩
 refine ⟨vs.map mX,⟨o,es,ep,g,ex,dt,?_,?_,?_⟩,hkeys,hu⟩
 ·intro e he
  obtain ⟨k,k1,k2⟩ := hk e he
  obtain ⟨kv,hm,h1⟩ := uY hp e (Array.mem_toList_iff.mpr he)
  obtain ⟨i,hi⟩ := hall kv hm
  have ek : k = kv.1 := (bH P w).inj _ _ _ k1 h1
  rw [ek,hi] at k1 k2
  exact ⟨i,k1,k2⟩
 ·exact wU P' w' hp hall
 ·rw [hkeys]
  have e : vs.map (·.1) = (kvs.map (·.1)).map (Sum.inl : Int → Key) := by
   apply List.ext_getElem?
   intro i
   rcases Nat.lt_or_ge i kvs.length with hi | hi
   ·obtain ⟨t,e⟩ := hv i kvs[i] (List.getElem?_eq_getElem hi)
    rw [List.getElem?_map,e,List.getElem?_map,List.getElem?_map,List.getElem?_eq_getElem hi]
    rfl
   ·rw [List.getElem?_eq_none (by rw [List.length_map]; omega),List.getElem?_eq_none (by rw [List.length_map,List.length_map]; omega)]
  rw [e] at hn
  exact List.Pairwise.of_map (Sum.inl : Int → Key) (fun a b h => fun z => h (by rw [z])) hn
theorem tj {A : Around} {s : Shared} {kb : List (Int × Int)} {ub : List (Int × Value)} (hn : (ub.map (·.1)).Nodup) (hb : ∀ (i : Nat) p,kb[i]? = some p → ∃ t,ub[i]? = some (p.1,Value.int p.2 t)) :
  ∀ (ka : List (Int × Int)) (ua : List (Int × Value)),ua.length = ka.length → (∀ (i : Nat) p,ka[i]? = some p → ∃ t,ua[i]? = some (p.1,Value.int p.2 t)) → (∀ c ∈ ka,c ∈ kb) → KeqHits A s ub ua true
 | [],[],_,_,_ => .nil
 | [],_ :: _,h,_,_ => by simp at h
 | _ :: _,[],h,_,_ => by simp at h
 | c :: ka,u :: ua,hl,ha,hm => by
  obtain ⟨t,e⟩ := ha 0 c rfl
  have eu : u = (c.1,Value.int c.2 t) := Option.some.inj e
  subst eu
  obtain ⟨j,hj,ej⟩ := List.getElem_of_mem (hm c (by simp))
  obtain ⟨t2,e2⟩ := hb j c (by rw [List.getElem?_eq_getElem hj,ej])
  have hv : valueAt ub c.1 = some (Value.int c.2 t2) := by
   unfold valueAt
   have hmem : (c.1,Value.int c.2 t2) ∈ ub := List.mem_of_getElem? e2
   have hf : ∀ (l : List (Int × Value)),(l.map (·.1)).Nodup → (c.1,Value.int c.2 t2) ∈ l → l.find? (fun kv => decide (kv.1 = c.1)) = some (c.1,Value.int c.2 t2) := by
    intro l
    induction l with
    | nil => intro _ h; simp at h
    | cons x l ih =>
     intro hnd hx
     rw [List.map_cons,List.nodup_cons] at hnd
     rcases List.mem_cons.mp hx with rfl | hx
     ·simp
     ·have ne : ¬ x.1 = c.1 := fun z => hnd.1 (by rw [z]; exact List.mem_map.mpr ⟨_,hx,rfl⟩)
      rw [List.find?_cons_of_neg (by simpa using ne)]
      exact ih hnd.2 hx
   rw [hf ub hn hmem]
   rfl
  have h1 := SeqAt.EqAt.int_int (A := A) (s := s) c.2 t c.2 t2
  rw [beq_self_eq_true] at h1
  have r := tj (A := A) (s := s) hn hb ka ua (by simpa using hl) (fun i p hi => ha (i + 1) p (by simpa using hi)) (fun c hc => hm c (by simp [hc]))
  have := KeqHits.hit (k := c.1) hv h1 r
  simpa using this
section
variable {X : Cx} {pins : List (Addr × Obj)} {σ : St} {H : Hp} {s : Shared} {A : Around}
theorem C2 (hu : A.units < cLine) (I : Inv X pins σ H s) {x y : V} {u v : Value} (h : Kq H x y) (ru : RelV x u) (rv : RelV y v) : SeqAt.EqAt A s u v true := by
 obtain ⟨p,q,xs,rfl,rfl,hp,hq,hs⟩ := h
 cases ru
 cases rv
 by_cases e : p = q
 ·subst e; exact SeqAt.EqAt.same _
 ·obtain ⟨_,i1,r1,t1⟩ := (show bz X.prog X.w H s.heap p (.tup xs) from I.hok p _ hp)
  obtain ⟨_,i2,r2,t2⟩ := (show bz X.prog X.w H s.heap q (.tup xs) from I.hok q _ hq)
  have l1 := r1.length
  have l2 := r2.length
  have key := SeqAt.RcAt.tuples (A := A) (s := s) (e := fun _ => true) t1 t2 hu fun j h1 h2 => by
   have j1 : j < xs.length := by simp at h1; omega
   have z1 : xs[j]? = some xs[j] := List.getElem?_eq_getElem j1
   obtain ⟨u1,w1,q1⟩ := r1.get z1
   obtain ⟨u2,w2,q2⟩ := r2.get z1
   have e1 : i1.toArray[j] = u1 := by
    have : i1[j]? = some i1[j] := List.getElem?_eq_getElem (by omega)
    rw [this] at w1
    simpa using w1
   have e2 : i2.toArray[j] = u2 := by
    have : i2[j]? = some i2[j] := List.getElem?_eq_getElem (by omega)
    rw [this] at w2
    simpa using w2
   rw [e1,e2]
   exact oH (hs _ (List.getElem_mem j1)) q1 q2
  rw [all_true] at key
  have e3 : (true && i1.toArray.size == i2.toArray.size) = true := by simp; omega
  rw [e3] at key
  exact SeqAt.EqAt.of_refs e key
end
section
variable {prog : Program} {w : World} {K : Type} [DecidableEq K] {knd : KeyKind prog w K} {A : Around} {R : Result → Shared → Prop}
end
end L2
namespace L2
open PySem PySem.Spec PyProof.Rows
def C3 (X : Cx) (k : Nat) (te : TE) (t : TA) : TE := fun σ H Q => te σ H fun x H1 => ∃ (f : Addr) (fd : FuncData) (ps : List Str) (sp : Sp),x = .ref f ∧ aK X.prog X.w X.K X.mg X.base bM k f fd ps sp ∧ Binds X.K fd ps [] ∧ PySem.W.keepIn X.K (.ref f) = true ∧
 t σ H1 fun vs H2 => sp (vs ++ []) H2 Q E0
section
variable {X : Cx} {k : Nat} {e a : Expr} {es : List Expr} {pos : Pos} {te : TE} {t : TA}
theorem wV (he : PE X e te) (hr : cU k X.A) (ha : PA X (a :: es) t)
  (ht : eval (.Call e (a :: es) [] pos) X.env = (do callWith pos (← eval e X.env) [] (backTo pos (starEach (a :: es) X.env)) (backToKw pos (keywordEach [] X.env))) := by rfl)
  (hst : starEach (a :: es) X.env = (false,eval a X.env) :: starEach es X.env := by rfl) (hpl : (backTo pos (starEach es X.env)).any (·.1) = false := by rfl) :
  PE X (.Call e (a :: es) [] pos) (C3 X k te t) := by
 intro pins s σ H Q I h
 rw [ht]
 refine wpAny_bind (bO (he pins s σ H _ I h) fun u s1 ⟨x,H1,I1,rx,f,fd,ps,sp,ex,F,hb,hk,q⟩ => ?_)
 subst ex
 obtain rfl : u = Value.ref f := rx
 refine PySem.W.callWith_K (h₀ := X.base) I1.ok.mod.Cj hk (bO (ha pos pins s1 σ H1 _ I1 q) fun us s2 ⟨vs,H2,I2,r,q2⟩ => ⟨I2.e6,?_⟩) hst hpl
 exact qT F hr hb .nil aP I2 r q2
end
def rE (K : PySem.W.Frag) (P : Params) (a : Addr) (x : Str) (r : Option V) : Prop :=
 ∃ (es : Array DictEntry) (n : Nat),K.lookup a = some ⟨.type "dict",none,.dict es n,#[]⟩ ∧ PySem.W.KeysLit P es.toList ∧ (a == sysModules) = false ∧ ∃ q,PySem.W.nsIn K a x = some q ∧ e8 r q
def Fh (K : PySem.W.Frag) (P : Params) (td ty : TE) : TE := fun σ H Q => td σ H fun x H1 => ty σ H1 fun y H2 => ∃ a k v,x = .ref a ∧ y = .str k ∧ rE K P a k (some v) ∧ Q v H2
section
variable {X : Cx} {o i : Expr} {pos : Pos} {td ty : TE}
theorem oI (ho : PE X o td) (hi : PE X i ty) (hs : EV i) : PE X (.Subscript o i pos) (Fh X.K X.w.params td ty) := by
 intro pins s σ H Q I h
 refine zE PySem.F.slot_dict_getitem.lookup hs (bO (ho pins s σ H _ I h) fun u s1 ⟨x,H1,I1,rx,q1⟩ => bO (hi pins s1 σ H1 _ I1 q1) fun iv s2 ⟨y,H2,I2,ry,a,k,v,ex,ey,g,q2⟩ => ?_)
 subst ex ey
 obtain rfl : u = Value.ref a := rx
 obtain ⟨t,rfl⟩ := ry
 obtain ⟨es,n,hl,hk,hm,q,hq,rq⟩ := g
 obtain ⟨w',hw,CH⟩ := e8.some_of (v := v) (o := q) rq
 subst hw
 have mo := PySem.W.mapOf_K (prog := X.prog) (w := X.w) I2.e6 hl hk
 exact ⟨mo.typeIs,wpAny_getItem_of (strKind_is X.prog X.w k t) mo (PySem.W.find_K hl hq) ⟨v,H2,I2.tok _,CH,q2⟩⟩
end
def C4 (K : PySem.W.Frag) (P : Params) (td ty tx : TE) : TE := fun σ H Q => td σ H fun x H1 => ∃ a,x = .ref a ∧ (∃ es n,K.lookup a = some ⟨.type "dict",none,.dict es n,#[]⟩) ∧ ty σ H1 fun y H2 => tx σ H2 fun z H3 => ∃ k r,y = .str k ∧ rE K P a k r ∧ Q (r.getD z) H3
section
variable {X : Cx} {o e f : Expr} {apos cpos : Pos} {td ty tx : TE}
theorem wW (ho : PE X o td) (he : PE X e ty) (hf : PE X f tx) (m : M2 X o "get" apos e f cpos) : PE X (.Call (.Attribute o "get" apos) [e,f] [] cpos) (C4 X.K X.w.params td ty tx) := by
 intro pins s σ H Q I h
 refine wpAny_Call_method m.base m.few m.line PySem.F.plainAttrs_dict PySem.F.slot_dict_get PySem.F.type_dict_get (bO (ho pins s σ H _ I h) fun u s1 ⟨x,H1,I1,rx,a,ex,⟨es,n,hl⟩,q1⟩ => ?_)
 subst ex
 obtain rfl : u = Value.ref a := rx
 have ga := I1.e6 _ _ hl
 refine ⟨⟨_,ga,rfl⟩,fun b q => ?_,?_⟩
 ·cases q
  exact ⟨_,ga,rfl⟩
 rw [m.trees]
 refine Calls.callWith_builtin rfl (Calls.evalArgs_plain (Calls.spliced_cons (bO (he pins s1 σ H1 _ I1 q1) fun iv s2 ⟨y,H2,I2,ry,q2⟩ =>
  Calls.spliced_cons (bO (hf pins s2 σ H2 _ I2 q2) fun fv s3 ⟨z,H3,I3,rz,k,r,ey,g,q3⟩ => Calls.spliced_nil ?_))))
 subst ey
 obtain ⟨t,rfl⟩ := ry
 obtain ⟨es,n,hl,hk,hm,q,hq,rq⟩ := g
 have mo := PySem.W.mapOf_K (prog := X.prog) (w := X.w) I3.e6 hl hk
 refine call_meetsIn PySem.F.slot_dict_get mo.typeIs PySem.F.entry_dict_get (PySem.F.args_dict_get_3 _ _ _) (meets_dict_get_default (strKind X.prog X.w) a (strKind_is X.prog X.w k t) hm fv) ⟨_,mo,?_⟩
 rw [PySem.W.find_K hl hq]
 exact ⟨r.getD z,H3,I3.tok _,rq.getD rz,q3⟩
end
theorem uZ {K : PySem.W.Frag} {a : Addr} {xs : List V} {g : TG} {tt : TT} {te : TE} {R : Hp → Prop} {D : Addr} {σ0 : St} {H0 : Hp} (Pv : Nat → St → List V → Hp → Prop) (h0 : Pv 0 σ0 [] H0) (hl : ∀ i σ ys H,i ≤ xs.length → Pv i σ ys H → aZ K H a xs)
  (hs : ∀ i x σ ys H t,xs[i]? = some x → H t = none → Pv i σ ys H → g (.ref t) σ (upd H t (.tup [.int i,x])) fun σ2 H2 => tt σ2 H2 fun b H3 =>
   if b = true then te σ2 H3 fun v H4 => H4 D = some (.lst ys) ∧ ys.length < sizeLine ∧ Pv (i + 1) σ2 (ys ++ [v]) (upd H4 D (.lst (ys ++ [v]))) else Pv (i + 1) σ2 ys H3)
  (hd : ∀ σ ys H,Pv xs.length σ ys H → R H) :
  ∃ W : Nat → Nat → St → List V → Hp → Prop,(∃ m,W 0 m σ0 [] H0) ∧ ∀ i m σ ys H,W i m σ ys H →
   ((Ite K a).stop i H ∧ R H) ∨ ((Ite K a).go i H ∧ ∃ N : St → List V → Hp → Prop,(∀ σ' ys' H',N σ' ys' H' → ∃ m',m' < m ∧ W (i + 1) m' σ' ys' H') ∧ ∀ x H',(Ite K a).vH i H x H' → g x σ H' fun σ2 H2 => tt σ2 H2 fun b H3 =>
    if b = true then te σ2 H3 fun v H4 => H4 D = some (.lst ys) ∧ ys.length < sizeLine ∧ N σ2 (ys ++ [v]) (upd H4 D (.lst (ys ++ [v]))) else N σ2 ys H3) := by
 refine ⟨fun i m σ ys H => m = xs.length - i ∧ i ≤ xs.length ∧ Pv i σ ys H,⟨xs.length,by simp,Nat.zero_le _,h0⟩,?_⟩
 rintro i m σ ys H ⟨rfl,hi,p⟩
 have q := hl i σ ys H hi p
 by_cases hlt : i < xs.length
 ·refine .inr ⟨⟨xs,xs[i],q,by simp [hlt]⟩,Pv (i + 1),fun σ' ys' H' p' => ⟨xs.length - (i + 1),by omega,rfl,hlt,p'⟩,fun x H' y => ?_⟩
  obtain ⟨t,y,hn,e1,e2,hy⟩ := y
  subst e1 e2
  exact hs i y σ ys _ t (hy xs q) hn p
 ·have e : i = xs.length := by omega
  subst e
  exact .inl ⟨⟨xs,q,Nat.le_refl _⟩,hd σ ys H p⟩
def Fi (t u : TS) : TS := fun D σ H => ∃ J : St → Hp → Prop,t { D with nx := J } σ H ∧ ∀ σ' H',J σ' H' → u D σ' H'
theorem zN {X : Cx} {st : Stmt} {rest : List Stmt} {t u : TS} (h1 : PS X st t) (h2 : lQ X rest u) : lQ X (st :: rest) (Fi t u) := by
 intro pins s σ H D I h
 obtain ⟨J,h,hJ⟩ := h
 refine wpAny_execs_cons (bO (h1 pins s σ H { D with nx := J } I h) fun f s1 q => ?_)
 cases f with
 | next =>
  obtain ⟨σ',H',I',q⟩ := q
  exact h2 pins s1 σ' H' D I' (hJ _ _ q)
 | ret v => exact q
 | brk => exact q
 | cont => exact q
section
variable {X : Cx}
end
section
variable {σ : St}
end
structure Fj (X : Cx) (st : Stmt) (t : TS) : Prop where
 ps : PS X st t
structure oJ (X : Cx) (b : List Stmt) (t : TS) : Prop where
 ps : lQ X b t
section
variable {X : Cx}
theorem aO {st : Stmt} {t : TS} (h : PS X st t) : Fj X st t := ⟨h⟩
theorem dQ {c : Expr} {a b : List Stmt} {tc : TT} {t u : TS} {pos : Pos} (hc : PT X c tc) (ha : oJ X a t) (hb : oJ X b u) : Fj X (.If c a b pos) (Ep tc t u) := ⟨cI hc ha.ps hb.ps⟩
theorem cK {t : TS} (h : lQ X [] t) : oJ X [] t := ⟨h⟩
theorem az {st : Stmt} {b : List Stmt} {t u : TS} (h : Fj X st t) (k : oJ X b u) : oJ X (st :: b) (En t u) := ⟨aH h.ps k.ps⟩
theorem qf {st : Stmt} {b : List Stmt} {t u : TS} (h : Fj X st t) (k : oJ X b u) : oJ X (st :: b) (Fi t u) := ⟨zN h.ps k.ps⟩
theorem bt {st : Stmt} {t : TS} (h : Fj X st t) : oJ X [st] t := ⟨ay h.ps⟩
theorem iW {b : List Stmt} {t : TS} {R : TS → Prop} (h : oJ X b t) (hr : R t) : ∃ t,lQ X b t ∧ R t := ⟨t,h.ps,hr⟩
end
section
variable {X : Cx}
end
section
variable {X : Cx}
end
section
variable {X : Cx}
end
section
variable {X : Cx} {pins : List (Addr × Obj)} {σ : St} {H : Hp} {s : Shared}
end
section
variable {X : Cx}
end
section
variable {X : Cx}
end
end L2
namespace L2
open PySem PySem.W PySem.Spec PySem.Calls PyProof.Rows
def oK (S : List Addr) (i : Nat) (o : Obj) : Obj := if i ∈ S then { o with data := .freed } else o
def less (h : Heap) (S : List Addr) : Heap := { h with objs := h.objs.mapIdx (oK S) }
theorem iX {h : Heap} {S : List Addr} {b : Addr} (hb : b ∈ S) : (less h S).get? b = none := by
 unfold Heap.get? less
 simp only [Array.getElem?_mapIdx]
 cases e : h.objs[b]? with
 | none => rfl
 | some o =>
  simp only [Option.map_some,oK,if_pos hb]
theorem eA {h : Heap} {S : List Addr} {b : Addr} (hb : b ∉ S) : (less h S).get? b = h.get? b := by
 unfold Heap.get? less
 simp only [Array.getElem?_mapIdx]
 cases e : h.objs[b]? with
 | none => rfl
 | some o =>
  simp only [Option.map_some,oK,if_neg hb]
theorem kX {h : Heap} {S : List Addr} : (less h S).StaysIn h := fun b o e => by
 by_cases hb : b ∈ S
 ·rw [iX hb] at e; cases e
 ·rwa [eA hb] at e
theorem ju {h base : Heap} {S : List Addr} : ∀ {l : List Env},h.FunFrames base l → (∀ b ∈ frs l,b ∈ S) → h.FunFrames (less h S) l
 | [],_,_ => trivial
 | env :: r,⟨hk,⟨L,o,hf,hn,ho,hd⟩,hr⟩,hs => by
  have e : frs (env :: r) = L :: frs r := by unfold frs; rw [List.filterMap_cons,hf]
  rw [e] at hs
  exact ⟨hk,⟨L,o,hf,iX (hs L (by simp)),ho,hd⟩,ju hr fun b hb => hs b (by simp [hb])⟩
theorem bz.some_ {P : Program} {w : World} {H : Hp} {h : Heap} {a : Addr} {o : HO} (x : bz P w H h a o) : ∃ u,h.get? a = some u := by
 cases o with
 | lst xs => obtain ⟨_,_,_,_,e⟩ := x; exact ⟨_,e⟩
 | tup xs => obtain ⟨_,_,_,ob,e,_⟩ := x; exact ⟨_,e⟩
 | dK kvs => obtain ⟨_,_,_,_,o,_,_,e,_⟩ := x; exact ⟨_,e⟩
 | dT kvs => obtain ⟨_,_,_,_,o,_,_,e,_⟩ := x; exact ⟨_,e⟩
 | set S n => obtain ⟨o,_,_,_,e,_⟩ := x; exact ⟨_,e⟩
 | ins C dx fs => obtain ⟨_,_,_,e,_⟩ := x; exact ⟨_,e⟩
 | own y => exact x
 | xd fs => obtain ⟨_,⟨_,_,_,e,_⟩,_⟩ := x; exact ⟨_,e⟩
 | rng lo hi => obtain ⟨_,_,_,e⟩ := x; exact ⟨_,e⟩
 | iH ob u => obtain ⟨e,_⟩ := x; exact ⟨_,e⟩
 | Bv ps => exact ⟨_,(show h.get? a = some _ from x)⟩
 | met f y => exact ⟨_,(show h.get? a = some _ from x)⟩
 | ext φ => exact x.2.1
structure C5 (K : PySem.W.Frag) (C : Addr) (bmB : List Value) (newId : String) : Prop where
 isIn : excIn K C bmB newId = true
theorem C5.obj {K : PySem.W.Frag} {C : Addr} {bmB : List Value} {newId : String} {h₀ : Heap} (c : C5 K C bmB newId) (X : K.In h₀) : ∃ bm N nm q bs hdct sn sub ab col dd k0 k1 k2 k3 k5 mN,
   h₀.get? C = some (excClassObj nm q C N bs bm hdct sn sub ab col dd k0 k1 k2 k3 k5 newId) ∧ h₀.Ns N mN ∧ mN (Str.ofString "__init__") = none ∧ OwnTail h₀ bmB bm := by
 have q := c.isIn
 unfold excIn at q
 split at q
 ·rename_i dd cd sl ho
  split at q
  ·rename_i C' bm k0 k1 k2 k3 n k5 hm hs
   simp only [Bool.and_eq_true,beq_iff_eq,Bool.not_eq_true'] at q
   obtain ⟨⟨⟨⟨⟨rfl,rfl⟩,hdel⟩,ht⟩,hok⟩,hni⟩ := q
   obtain ⟨nm,bs,mro,ns,qn,hd,sn,sub,ab,col,del⟩ := cd
   dsimp only at hm hdel hok hni
   subst hm hdel
   have hsl : sl = #[k0,k1,k2,k3,some (.builtin n),k5] := by
    obtain ⟨l⟩ := sl
    simp only at hs
    rw [hs]
   subst hsl
   exact ⟨bm,ns,nm,qn,bs,hd,sn,sub,ab,col,dd,k0,k1,k2,k3,k5,_,X _ _ ho,.of_isNs (isNs_of_in X hok),nsMap_none_of_in X hok hni,tail_of_in X ht⟩
  ·cases q
 ·cases q
section
variable {P : Program} {w : World} {K : PySem.W.Frag} {mg : Str → Option Value} {base : Heap} {N : List Str} {qual : Str} {scope : Scope} {f : Addr} {cd : Value} {A : Around} {outer : List Env} {s₀ : Shared} {H₀ : Hp} {E : XK}
end
theorem cY.X2 {P : Program} {w : World} {K : PySem.W.Frag} {mg : Str → Option Value} {base : Heap} {CX : sJ} {x qual : Str} {st : Stmt} {f : Addr} {fd : FuncData} {N ps : List Str} {k : Nat} {sp : Sp} (F : cY K x qual st f fd) (S : aG N ps (ai st)) (len : ∀ vs H Q E,sp vs H Q E → vs.length = ps.length)
  (hbody : ∀ (cdv : Value) (A : Around) (outer : List Env) (s : Shared) (H : Hp) (vs : List V) (Q : VK) (E : XK),cU k (A.deeper (envOfC qual (ai st) s.heap.objs.size f cdv)) → sp vs H Q E →
   ∃ t,lQ (gj CX P w K mg base N qual (ai st) f cdv A outer s H E) (aA st) t ∧ t { nx := fun _ H' => Q .non H',rt := Q } (start N vs) H) : aK P w K mg base CX (k + 1) f fd ps sp := by
 obtain ⟨oc,od,kV,doc,pm,an,cdv,ct,osl,rfl,lk,hcd⟩ := F.ex
 exact BG lk hcd S len fun A outer s H vs Q E hr hsp => hbody cdv A outer s H vs Q E hr hsp
section
variable {X : Cx} {pins : List (Addr × Obj)} {σ : St}
theorem wX {B h : Heap} {l : List Env} {ea : Addr} {cls a0 : Value} (fly : B.FlyingW l ea cls a0 h) : ∃ T,B.get? ea = none ∧ B.get? T = none ∧ (less h (frs l ++ [ea,T])).FlyingW l ea cls a0 h := by
 obtain ⟨f1,f2,f3,oe,vs,T,oT,ts,g1,g2,g3,g4,g5,g6,g7,g8,g9⟩ := fly
 exact ⟨T,f2,g5,kX,iX (by simp),ju f3 (fun b hb => by simp [hb]),oe,vs,T,oT,ts,g1,g2,g3,g4,iX (by simp),g6,g7,g8,g9⟩
end
section
variable {X : Cx} {pins : List (Addr × Obj)} {σ : St} {H : Hp} {s : Shared}
theorem gZ {M : Model} {A : Around} {E : Value → Shared → Prop} {i : Nat} {x : Str} {pos : Pos} {Q : Unit → Shared → Prop} (I : Inv X pins σ H s) (hN : X.N.Nodup) (hi : X.N[i]? = some x) (hk : X.env.kindOf x = some .local)
  (h : ∀ s',Inv X pins (σ.set i none) H s' → Q () s') : wpAny M A (do bindName X.env x .none; unbindBehindTheSuite X.env x pos) Q E s := by
 obtain ⟨m,hn,hl⟩ := id I.loc
 have hcls : (X.env.scope.kind == .class || (X.env.scope.kind == .module && X.env.locals != X.env.globals)) = false := by rw [I.ok.kind]; rfl
 have hiσ : i < σ.length := by rw [I.len]; exact (List.getElem?_eq_some_iff.mp hi).1
 have vN := I.vN
 have tracked : ∀ {a : Addr} {h' : Heap},(∃ o,s.heap.get? a = some o ∧ H a = none) → Heap.SameBut a s.heap h' → fY X.prog X.w H h' := fun {a h'} ha hs b ob e => by
  obtain ⟨_,_,hfree⟩ := ha
  refine (I.hok b ob e).stay (fun c w' hc q => (hs.2 c ?_).trans q) (fun _ q => q) fun _ _ q => q
  rintro rfl
  rcases hc with rfl | hc
  ·rw [hfree] at e; cases e
  ·rw [hfree] at hc; cases hc
 refine wpAny_nameGoes_keeps hk hn hcls fun h' v hn' hs => ?_
 obtain ⟨oL,_,_,hoL,_⟩ := id hn
 refine h _ ⟨I.ok,I.os,I.bare,⟨fun b o e n hb hx => ?_,fun b o e n hb hx => ?_,I.base.free,fun b o e hx => ?_,I.base.tups,I.base.iq,I.base.jf⟩,⟨_,hn',fun j y v' e1 e2 e3 => ?_⟩,fun y c e => ?_,I.free,I.dH,fun p hp => ?_,tracked ⟨oL,hoL,I.free⟩ hs,by simpa using I.len⟩
 ·exact (hs.2 b (Nat.ne_of_lt (Nat.lt_of_lt_of_le (Heap.lt_size e) I.ok.above))).trans (I.base.keep b o e n hb hx)
 ·obtain ⟨sl,e1⟩ := I.base.slot b o e n hb hx
  exact ⟨sl,(hs.2 b (Nat.ne_of_lt (Nat.lt_of_lt_of_le (Heap.lt_size e) I.ok.above))).trans e1⟩
 ·obtain ⟨o',e1⟩ := I.base.there b o e hx
  exact ⟨o',(hs.2 b (Nat.ne_of_lt (Nat.lt_of_lt_of_le (Heap.lt_size e) I.ok.above))).trans e1⟩
 ·by_cases hj : j = i
  ·subst hj
   rw [List.getElem?_set_self hiσ] at e2
   cases e2
  ·rw [List.getElem?_set_ne (Ne.symm hj)] at e2
   obtain ⟨u',r',q⟩ := hl j y v' e1 e2 e3
   refine ⟨u',r',?_⟩
   rcases q with ⟨k,e⟩ | ⟨k,c,e,z⟩
   ·refine .inl ⟨k,?_⟩
    have : y ≠ x := fun e => hj (kd hN e1 (e ▸ hi))
    simp [this,e]
   ·exact .inr ⟨k,c,e,z.sameBut hs (vN y c e)⟩
 ·obtain ⟨w',z⟩ := I.cell y c e
  exact ⟨w',z.sameBut hs (vN y c e)⟩
 ·obtain ⟨e,n,ne,nf,d⟩ := I.pin p hp
  exact ⟨(hs.2 p.1 ne).trans e,n,ne,nf,d⟩
abbrev Cx.oM (X : Cx) (ea : Addr) : Cx := { X with A := X.A.mark (some (.ref ea)),calm := false,xe := fun _ _ => False }
theorem Inv.suite (I : Inv X pins σ H s) (ea : Addr) : Inv (X.oM ea) pins σ H s :=
 ⟨⟨I.ok.mod,I.ok.kind,I.ok.glob,I.ok.blt,I.ok.above,I.ok.inj,I.ok.has,I.ok.cab,(fun z => by cases z),I.ok.frames,I.ok.stk,I.ok.Eh,I.ok.bs,I.ok.vG,I.ok.qH,I.ok.qI,I.ok.iu,I.ok.Bw⟩,I.os,I.bare,I.base,I.loc,I.cell,I.free,I.dH,I.pin,I.hok,I.len⟩
theorem Inv.j5 {ea : Addr} (ok : X.Ok) (I : Inv (X.oM ea) pins σ H s) : Inv X pins σ H s := ⟨ok,I.os,I.bare,I.base,I.loc,I.cell,I.free,I.dH,I.pin,I.hok,I.len⟩
end
def Ends.less (D : Ends) (i : Nat) : Ends := { nx := fun σ H => D.nx (σ.set i none) H,rt := D.rt,bk := fun σ H => D.bk (σ.set i none) H,ct := fun σ H => D.ct (σ.set i none) H }
section
variable {X : Cx} {k : Nat} {f C cR : Addr} {fd : FuncData} {ps : List Str} {sp : Sp} {iI : List V} {ds : List Value} {x m n : Str} {np pos apos p2 p3 p4 : Pos} {o : Expr} {ta : TE} {ts : TS} {i : Nat} {b₀ : Stmt} {suite : List Stmt} {L : Addr}
end
end L2
namespace L2
open PySem PySem.W PySem.Spec PySem.Calls PyProof.Rows PySem.Builtin PySem.Builtin.ObjectAttr PySem.Builtin.Getset_descriptor
section
variable {prog : Program} {w : World} {A : Around} {E : Value → Shared → Prop} {s : Shared} {K : PySem.W.Frag} {x C : Addr}
structure Fk (K : PySem.W.Frag) (C : Addr) : Prop where
 ga : findIn K (.ref C) "__getattribute__" = some (some (.builtin "BaseException.__getattribute__"))
 gh : findIn K (.ref C) "__getattr__" = some none
 cl : findIn K (.ref C) "__class__" = some (some (.builtin "object.__class__"))
 gt : specialIn K (.builtin "object.__class__") "__get__" = some (some (.builtin "getset_descriptor.__get__"))
 tk : takesIn K (.builtin "object.__class__") = some true
 ob : mroIn K C (.type "object") = some true
 bx : mroIn K C (.type "BaseException") = some true
 ci : (clsIn K C).isSome = true
theorem u0 {M : Model} {nameV : Value} {Q : Unit → Shared → Prop} (L0 : Looks M s.heap (typeOf (.ref x)) (.ref C)) (L3 : Looks M s.heap (isSubtype (.ref C) (.type "BaseException")) true) (hq : Q () s) : wpAny M A (checkBuiltinCall "BaseException.__getattribute__" ⟨[.ref x,nameV],[]⟩) Q E s := by
 have hk : builtinKind "BaseException.__getattribute__" = some .slot := by decide +kernel
 have hsplit : splitId "BaseException.__getattribute__" = some ("BaseException", "__getattribute__") := by decide +kernel
 have ha := F.args_bexc_ga (.ref x) nameV
 obtain ⟨hh,g,d,t,os⟩ := s
 simp only [checkBuiltinCall,hk,hsplit]
 refine wpAny_bind ?_
 ·unfold isInstance
  repeat (first | lk | wp_step)
  exact hq
end
end L2
namespace L2
open PySem PySem.W PySem.Spec PySem.Calls PyProof.Rows
section
variable {X : Cx} {C : Addr} {Bn : String}
end
def rF (h : Heap) (e : Addr) (od : Option Addr) : Prop := ∃ o,h.get? e = some o ∧ o.dict = od
theorem kY (o : Obj) (f : Array Value → Array Value) : (Obj.mapFields f o).dict = o.dict := by
 unfold Obj.mapFields
 split <;> rfl
section
variable {M : Model} {A : Around} {XE : Value → Shared → Prop} {s : Shared} {B : Heap} {env : Env} {outer l : List Env} {L e : Addr} {cls a0 fl : Value} {od : Option Addr} {Q : Unit → Shared → Prop}
theorem mY {h : Heap} {e b : Addr} {oe o : Obj} {vs : Array Value} (he : h.get? e = some oe) (hd : oe.data = .fields vs) (hb : h.get? b = some o) (n : ∀ vs,o.data ≠ .fields vs) : b ≠ e := fun z => by
 subst z
 cases he.symm.trans hb
 exact n vs hd
theorem wY {oe : Obj} {vs : Array Value} {head : Value} {hn : Bool} (fr : A.frames = some (env :: outer)) (fu : s.heap.FunFrames B (env :: outer)) (hf : env.frame = some L) (he : s.heap.get? e = some oe) (st : B.StaysIn s.heap) (ne : B.get? e = none)
  (hd : oe.data = .fields vs) (sz : 1 < vs.size) (h0 : vs[0]? = some a0) (k : ∀ h',Heap.NotedW B (env :: outer) e oe.cls a0 (rawInt L) s.heap h' → rF h' e oe.dict → Q () { s with heap := h' }) :
  wpAny M A (do
   let a ← frameOf env
   let pl ← entryPlaceOf L hn
   let b ← EntryCells.newEntry head a .none (rawInt L) .none pl
   setField (.ref e) 1 b) Q XE s := by
 have nf : e ∉ frs (env :: outer) := fun z => by
  obtain ⟨_,o,ho,n⟩ := fu.mem z
  cases he.symm.trans ho
  exact n vs hd
 refine wpAny_bind (wpAny_frameOf_fun fr fu hf fun g kg => ?_)
 have e1 : g.get? e = some oe := (kg.2.1 e nf).trans he
 have key : ∀ (tb : Obj) (ts : Array Value),tb.data = .fields ts → ts[3]? = some (rawInt L) → wpAny M A (setField (.ref e) 1 (.ref g.objs.size)) Q XE { s with heap := g.push tb } := fun tb ts td t3 => by
  have e2 := Heap.get?_push_of_some tb e1
  have nT : g.objs.size ≠ e := Nat.ne_of_gt (Heap.lt_size e1)
  have d3 := Obj.data_mapFields hd (·.setIfInBounds 1 (Value.ref g.objs.size))
  have e3 := Heap.get?_update_self (Obj.mapFields (·.setIfInBounds 1 (Value.ref g.objs.size))) e2 (Obj.isFreed_of_fields d3)
  have hT : (g.push tb).get? g.objs.size = some tb := Heap.get?_push_size g (Obj.isFreed_of_fields td)
  have X3 := (Heap.get?_update_other (g.push tb) (Obj.mapFields (·.setIfInBounds 1 (Value.ref g.objs.size))) nT.symm).trans hT
  have keep : ∀ b o,b ≠ e → g.get? b = some o → ((g.push tb).update e (Obj.mapFields (·.setIfInBounds 1 (Value.ref g.objs.size)))).get? b = some o := fun b o n hb => (Heap.get?_update_other _ _ n.symm).trans (Heap.get?_push_of_some _ hb)
  have Wd : B.StaysIn g := fun b o hb => (kg.2.1 b fun z => by
   have := (fu.mem z).1
   rw [hb] at this
   cases this).trans (st b o hb)
  refine wpAny_setField e2 hd sz (k _ ⟨fun b o hb => keep b o (fun z => by rw [z,ne] at hb; cases hb) (Wd b o hb),fu.of_keeps fun b o hb n => ?_,?_,fun b o hb n => ?_⟩ ⟨_,e3,kY _ _⟩)
  ·obtain ⟨sl,hs⟩ := kg.2.2 b o hb
   exact ⟨_,keep b _ (mY he hd hb n) hs,rfl⟩
  ·exact ⟨_,_,g.objs.size,_,_,e3,⟨Obj.cls_mapFields _ _,by rw [Array.getElem?_setIfInBounds_ne (by decide)]; exact h0⟩,d3,by simp [sz],Wd.fresh,nT,X3,td,t3⟩
  ·obtain ⟨sl,hs⟩ := kg.2.2 b o hb
   exact ⟨sl,keep b _ (mY he hd hb n) hs⟩
 refine wpAny_bind (wpAny_entryPlaceOf fun pl hp => ?_)
 unfold EntryCells.newEntry newFields
 refine wpAny_bind (wpAny_newObj_type ?_ (hp.sizeOk5 _ _ _ _ _))
 exact key _ _ rfl (by first | (simp; done) | (rcases hp with rfl | ⟨_,_,_,_,_,_,_,rfl⟩ <;> simp))
theorem rG {oe : Obj} {vs : Array Value} (fr : A.frames = some (env :: outer)) (fu : s.heap.FunFrames B (env :: outer)) (hf : env.frame = some L) (he : s.heap.get? e = some oe) (st : B.StaysIn s.heap) (ne : B.get? e = none)
  (hd : oe.data = .fields vs) (h1 : vs[1]? = some .none) (h0 : vs[0]? = some a0) (k : ∀ h',Heap.NotedW B (env :: outer) e oe.cls a0 (rawInt L) s.heap h' → rF h' e oe.dict → Q () { s with heap := h' }) :
  wpAny M A (noteFrame (.ref e) env) Q XE s := by
 unfold noteFrame
 simp only [hf]
 refine wpAny_bind (wpAny_field he hd h1 ?_)
 rw [if_neg (by decide)]
 exact wY fr fu hf he st ne hd (Array.getElem?_eq_some_iff.mp h1).1 h0 k
theorem u3 (fr : A.frames = some (env :: outer)) (hf : env.frame = some L) (fly : B.FlyingW (env :: outer) e cls a0 s.heap) (dc : rF s.heap e od)
  (k : ∀ h',Heap.NotedW B (env :: outer) e cls a0 (rawInt L) s.heap h' → rF h' e od → Q () { s with heap := h' }) : wpAny M A (noteFrame (.ref e) env) Q XE s := by
 obtain ⟨st,ne,fu,oe,vs,T,oT,ts,he,⟨hc,h0⟩,hd,h1,nT,Te,hT,dT,h3⟩ := fly
 subst hc
 obtain ⟨oe',he',hod⟩ := dc
 cases he.symm.trans he'
 subst hod
 unfold noteFrame
 simp only [hf]
 refine wpAny_bind (wpAny_field he hd h1 ?_)
 rw [if_pos (by simp)]
 refine wpAny_bind (wpAny_field hT dT h3 ?_)
 rw [if_neg (by simp [rawInt])]
 refine wpAny_bind (wpAny_setField hT dT (Array.getElem?_eq_some_iff.mp h3).1 ?_)
 have oth : ∀ b,b ≠ T → (s.heap.update T (Obj.mapFields (·.setIfInBounds 3 Value.none))).get? b = s.heap.get? b := fun b n => Heap.get?_update_other _ _ n.symm
 refine wY fr (fu.of_keeps fun b o hb n => ⟨o,(oth b (mY hT dT hb n)).trans hb,rfl⟩) hf ((oth e Te.symm).trans he) (fun b o hb => (oth b fun z => by
  rw [z,nT] at hb
  cases hb).trans (st b o hb)) ne hd (Array.getElem?_eq_some_iff.mp h1).1 h0 fun h' q q2 => k h' ⟨q.1,q.2.1,q.2.2.1,fun b o hb n => q.2.2.2 b o ((oth b (mY hT dT hb n)).trans hb) n⟩ q2
theorem oN (st : B.StaysIn s.heap) (fu : s.heap.FunFrames B l) (tr : s.heap.TracedAtW B e cls a0 fl) (dc : rF s.heap e od)
  (k : ∀ h',B.StaysIn h' → h'.FunFrames B l → h'.TracedW B e cls a0 → (∀ b o,s.heap.get? b = some o → (∀ vs,o.data ≠ .fields vs) → h'.get? b = some o) → rF h' e od → Q () { s with heap := h' }) : wpAny M A (setFlight (.ref e) none) Q XE s := by
 obtain ⟨oe,vs,T,oT,ts,he,hc,hd,h1,nT,Te,hT,dT,h3⟩ := tr
 obtain ⟨oe',he',hod⟩ := dc
 cases he.symm.trans he'
 have sz : 3 < ts.size := (Array.getElem?_eq_some_iff.mp h3).1
 have oth : ∀ b,b ≠ T → (s.heap.update T (Obj.mapFields (·.setIfInBounds 3 ((none : Option Addr).elim Value.none fun f => rawInt f)))).get? b = s.heap.get? b := fun b n => Heap.get?_update_other _ _ n.symm
 unfold setFlight
 refine wpAny_bind (wpAny_field he hd h1 ?_)
 rw [if_pos (by simp)]
 refine wpAny_setField hT dT sz (k _ (fun b o hb => (oth b fun z => by
  rw [z,nT] at hb
  cases hb).trans (st b o hb)) (fu.of_keeps fun b o hb n => ⟨o,(oth b (mY hT dT hb n)).trans hb,rfl⟩) ?_ (fun b o hb n => (oth b (mY hT dT hb n)).trans hb) ⟨oe,(oth e Te.symm).trans he,hod⟩)
 exact ⟨oe,vs,T,_,_,(oth e Te.symm).trans he,hc,hd,h1,nT,Te,Heap.get?_update_self _ hT (Obj.isFreed_of_fields (Obj.data_mapFields dT _)),Obj.data_mapFields dT _,by simp [sz]⟩
theorem zO {oe : Obj} {vs : Array Value} (fr : A.frames = some (env :: outer)) (fu : s.heap.FunFrames B (env :: outer)) (hf : env.frame = some L) (he : s.heap.get? e = some oe) (st : B.StaysIn s.heap) (ne : B.get? e = none)
  (hd : oe.data = .fields vs) (h1 : vs[1]? = some .none) (h0 : vs[0]? = some a0) (k : ∀ h',B.FlyingW outer e oe.cls a0 h' → s.heap.UpToSlots h' → rF h' e oe.dict → Q () { s with heap := h' }) : wpAny M A (leaving env (.ref e)) Q XE s := by
 unfold leaving
 refine wpAny_bind (rG fr fu hf he st ne hd h1 h0 fun h1 q dc => ?_)
 exact oN (s := { s with heap := h1 }) q.1 q.2.1 q.2.2.1 dc fun h2 a b c d C6 => k h2 ⟨a,ne,b.2.2,c⟩ (Heap.UpToSlots.trans q.2.2.2 fun b o hb n => ⟨o.slots,d b o hb n⟩) C6
theorem C7 (fr : A.frames = some (env :: outer)) (hf : env.frame = some L) (fly : B.FlyingW (env :: outer) e cls a0 s.heap) (dc : rF s.heap e od)
  (k : ∀ h',B.HeldW (env :: outer) e cls a0 L h' → s.heap.UpToSlots h' → rF h' e od → Q () { s with heap := h' }) : wpAny M A (noteFrame (.ref e) env) Q XE s :=
 u3 fr hf fly dc fun h1 q dc => k h1 ⟨q.1,fly.2.1,q.2.1,q.2.2.1⟩ q.2.2.2 dc
theorem C8 (h : B.HeldW l e cls a0 L s.heap) (dc : rF s.heap e od) (k : ∀ h',B.FlyingW l e cls a0 h' → s.heap.UpToSlots h' → rF h' e od → Q () { s with heap := h' }) : wpAny M A (setFlight (.ref e) none) Q XE s :=
 oN h.1 h.2.2.1 h.2.2.2 dc fun h2 a b c d C6 => k h2 ⟨a,h.2.1,b,c⟩ (fun b o hb n => ⟨o.slots,d b o hb n⟩) C6
theorem C9 (h : B.FlyingW l e cls a0 s.heap) (dc : rF s.heap e od) (k : ∀ h',B.FlyingW l e cls a0 h' → s.heap.UpToSlots h' → rF h' e od → Q () { s with heap := h' }) : wpAny M A (setFlight (.ref e) none) Q XE s :=
 oN h.1 h.2.2.1 h.2.2.2.at dc fun h2 a b c d C6 => k h2 ⟨a,h.2.1,b,c⟩ (fun b o hb n => ⟨o.slots,d b o hb n⟩) C6
end
abbrev kZ : List Value := [.type "ValueError",.type "Exception",.type "BaseException",.type "object"]
abbrev eO (C t : Addr) (od : Option Addr) : Obj := { cls := .ref C,dict := od,data := .fields #[.ref t,.none,.none,.none,.bool false,.none] }
structure fz (K : PySem.W.Frag) (C R fI : Addr) : Prop where
 lk : ∃ dd nm bs ns qn sn sub ab col k0 k1 k2 k3 k5,K.lookup C = some ⟨.type "type",dd,.cls ⟨nm,bs,.ref C :: .ref R :: kZ,ns,qn,true,sn,sub,ab,col,false⟩,#[k0,k1,k2,k3,some (.builtin "ValueError.__new__"),k5]⟩
 ini : findIn K (.ref C) "__init__" = some (some (.ref fI))
 fn : typeIn K (.ref fI) = some (.type "function")
 row : C5 K R kZ "ValueError.__new__"
 rtl : mroIn K R (.type "object") = some true
 sa : findIn K (.ref C) "__setattr__" = some (some (.builtin "object.__setattr__"))
 na : takerIn K C "at" = some none
 nat : findIn K (.ref C) "at" = some none
 hd : hasDictIn K C = true
 rd : Fk K C
 sg : specialIn K (.ref R) "__getattribute__" = some (some (.builtin "type.__getattribute__"))
 rr : readsIn K R (.type "type") = true
 fi : findCls K (.ref R) (.type "type") "__init__" = some (.val (.builtin "ValueError.__init__"))
section
variable {K : PySem.W.Frag} {C R fI : Addr} {h : Heap}
theorem fz.obj (c : fz K C R fI) (X : K.In h) : ∃ N nm q bs sn sub ab col dd k0 k1 k2 k3 k5,h.get? C = some (excClassObj nm q C N bs (.ref R :: kZ) true sn sub ab col dd k0 k1 k2 k3 k5 "ValueError.__new__") := by
 obtain ⟨dd,nm,bs,ns,qn,sn,sub,ab,col,k0,k1,k2,k3,k5,e⟩ := c.lk
 exact ⟨ns,nm,qn,bs,sn,sub,ab,col,dd,k0,k1,k2,k3,k5,X _ _ e⟩
theorem fz.tail (c : fz K C R fI) (X : K.In h) : OwnTail h kZ (.ref R :: kZ) := by
 obtain ⟨bm,N,nm,q,bs,hdct,sn,sub,ab,col,dd,k0,k1,k2,k3,k5,mN,hR,hN,hni,_⟩ := c.row.obj X
 exact .own hR hN hni .base
variable {prog : Program} {w : World} {A : Around} {XE : Value → Shared → Prop} {s : Shared}
theorem lV (c : fz K C R fI) (X : K.In s.heap) {rest : List Value} {Q : Fin → Shared → Prop} (hz : rest.length ≤ sizeLine)
  (k : wpAny (model prog w) A (call (.ref fI) (.ref (s.heap.objs.size + 1) :: rest)) (fun r s' => r = .none ∧ Q (.done (.ret (.ref (s.heap.objs.size + 1)))) s') XE { s with heap := (s.heap.push { cls := .type "tuple",data := .seq rest.toArray }).push (eO C s.heap.objs.size none) }) :
  wpAny (model prog w) A (Builtin.«type.__call__» ⟨.ref C :: rest,[]⟩) Q XE s := by
 obtain ⟨N,nm,q,bs,sn,sub,ab,col,dd,k0,k1,k2,k3,k5,hC⟩ := c.obj X
 have T := c.tail X
 have F := PySem.F.excBase_ValueError
 obtain ⟨h,g,d,t,os⟩ := s
 dsimp only at hC T X k ⊢
 repeat (first | with_reducible refine wpAny_loadPart_at hC ?_ | with_reducible refine wpAny_madeBy_exc hC ?_ | wp_step)
 refine codeAny_call_builtin_code (Code.quiet_builtin _ F.quiet) (wpAny_check_new_subT F T hC ?_)
 refine codeAny_exc_new_subT F T hC ?_ hz
 show wpAny _ _ _ _ _ _
 have kp : ∀ b o,h.get? b = some o → ((h.push { cls := .type "tuple",data := .seq rest.toArray }).push (eO C h.objs.size none)).get? b = some o := fun b o e => Heap.get?_push_of_some _ (Heap.get?_push_of_some _ e)
 have X1 := X.keeps kp
 have Wf := kp _ _ hC
 have he : ((h.push { cls := .type "tuple",data := .seq rest.toArray }).push (eO C h.objs.size none)).get? (h.objs.size + 1) = some (eO C h.objs.size none) := by heap_get
 have hcC : (Value.ref C :: .ref R :: kZ).contains (.ref C) = true := by simp
 unfold isInstance
 repeat (first | with_reducible refine wpAny_loadPart_at he ?_ | (with_reducible refine wpAny_isSubtype_exc Wf ?_; rw [hcC]) | wp_step)
 show wpAny _ _ (typeLookup (.ref C) _) _ _ _
 refine (looks_findIn X1 c.ini).here ?_
 refine wpAny_holding (wpAny_bind ?_)
 unfold bindSpecial
 refine wpAny_bind ((looks_typeIn X1 c.fn).here ?_)
 rw [if_pos (by decide)]
 refine wpAny_pure (wpAny_bind (wpAny_mono k (fun r s' hr => ?_) fun _ _ x => x))
 obtain ⟨rfl,hQ⟩ := hr
 wp_walk
 exact hQ
theorem wZ (c : fz K C R fI) (X : K.In s.heap) {rest : List Value} {Q : Value → Shared → Prop} (hz : rest.length ≤ sizeLine)
  (k : wpAny (model prog w) (A.under (.builtin "type.__call__" ⟨.ref C :: rest,[]⟩)) (call (.ref fI) (.ref (s.heap.objs.size + 1) :: rest)) (fun r s' => r = .none ∧ Q (.ref (s.heap.objs.size + 1)) s') XE { s with heap := (s.heap.push { cls := .type "tuple",data := .seq rest.toArray }).push (eO C s.heap.objs.size none) }) :
  wpAny (model prog w) A (call (.ref C) rest) Q XE s := by
 obtain ⟨N,nm,q,bs,sn,sub,ab,col,dd,k0,k1,k2,k3,k5,hC⟩ := c.obj X
 have f1 := tc_lookup
 have f2 := tc_bind (.ref C)
 have hT : s.TypeIs (.ref C) "type" := ⟨_,hC,rfl⟩
 refine wpAny_call (codeAny_of_tree ?_)
 show wpAny _ _ (callAny (.ref C) _) _ _ _
 have k2 := fun Q' k' => lV (prog := prog) (w := w) (A := A.under (.builtin "type.__call__" ⟨.ref C :: rest,[]⟩)) (XE := XE) c X (rest := rest) (Q := Q') hz k'
 obtain ⟨h,g,d,t,os⟩ := s
 dsimp only at hC hT X k k2 ⊢
 repeat (any_goals (first | assumption | with_reducible refine wpAny_loadPart_at hC ?_ | wp_step))
 refine ⟨rfl,?_⟩
 exact codeAny_call_builtin_at (Code.quiet_builtin _ (by decide +kernel)) entry_typeCall (wpAny_check_type_call_sub hC (k2 _ k))
theorem w4 (c : fz K C R fI) (X : K.In s.heap) {e t : Addr} {m : Value} {Q : Value → Shared → Prop} (he : s.heap.get? e = some (eO C t none))
  (k : ∀ h',(∀ b o,b ≠ e → s.heap.get? b = some o → h'.get? b = some o) → h'.get? e = some (eO C s.heap.objs.size none) → Q .none { s with heap := h' }) :
  wpAny (model prog w) A (call (.builtin "ValueError.__init__") [.ref e,m]) Q XE s := by
 obtain ⟨N,nm,q,bs,sn,sub,ab,col,dd,k0,k1,k2,k3,k5,hC⟩ := c.obj X
 have T := c.tail X
 have F := PySem.F.excBase_ValueError
 obtain ⟨h,g,d,tk,os⟩ := s
 dsimp only at hC T X k he ⊢
 refine wpAny_call (codeAny_call_builtin F.init.plain F.initEntry (wpAny_check_init_subT F T hC he rfl ?_))
 have he2 := Heap.get?_push_of_some { cls := .type "tuple",data := .seq #[m] } he
 repeat (first | with_reducible refine wpAny_setField he2 rfl (by decide) ?_ | wp_step)
 refine k _ (fun b o n hb => ?_) ?_
 ·rw [Heap.get?_update_other _ _ (Ne.symm n)]
  exact Heap.get?_push_of_some _ hb
 ·rw [Heap.get?_update_self _ he2 rfl]
  rfl
theorem Dc (c : fz K C R fI) (X : K.In s.heap) {e t : Addr} {v : Value} {Q : Unit → Shared → Prop} (he : s.heap.get? e = some (eO C t none))
  (k : ∀ h' tk',(∀ b o,b ≠ e → s.heap.get? b = some o → h'.get? b = some o) → h'.get? e = some (eO C t (some s.heap.objs.size)) → h'.Ns1 s.heap.objs.size (fun y => if y = "at" then some v else none) → Q () { s with heap := h',toks := tk' }) :
  wpAny (model prog w) A (setAttr (.ref e) "at" v) Q XE s := by
 obtain ⟨N,nm,q,bs,sn,sub,ab,col,dd,k0,k1,k2,k3,k5,hC⟩ := c.obj X
 have SF := PySem.F.store_ValueError
 have J : InstAt s.heap e (eO C t none) C none := ⟨he,rfl,rfl,True.intro⟩
 refine set_plain X J c.sa ?_
 have hm : Looks (model prog w) s.heap (mroOf (.ref C)) (.ref C :: .ref R :: kZ) := (Looks.ld hC).andThen .now
 have sub' : Looks (model prog w) s.heap (isInstance (.ref e) (.type "object")) true := J.type.andThen (looks_mroIn X c.rd.ob)
 refine codeAny_call_builtin SF.slot.plain SF.entry (@check_slot (model prog w) _ _ { s with toks := s.toks + 1 } "object.__setattr__" "object" "__setattr__" (.ref e) [.str "at" s.toks,v] [] _ SF.kind SF.split sub' (SF.args (.ref e) (.str "at" s.toks) v) ?_)
 rw [osa_eq,refuse_eq]
 refine wpAny_bind (wpAny_bind (Looks.here (s := { s with toks := s.toks + 1 }) J.type (wpAny_bind (Looks.here (s := { s with toks := s.toks + 1 }) hm ?_))))
 rw [refuseLoop_ref,refuseLoop_ref,SF.passes]
 refine wpAny_pure (wpAny_bind (Looks.here (s := { s with toks := s.toks + 1 }) J.type (wpAny_bind (Looks.here (s := { s with toks := s.toks + 1 }) (looks_findIn X c.nat) ?_))))
 refine wpAny_bind (wpAny_pure ?_)
 have hc : clsIn K C = some ⟨nm,bs,.ref C :: .ref R :: kZ,N,q,true,sn,sub,ab,col,false⟩ := by
  obtain ⟨CL,nm',bs',ns',qn',sn',sub',ab',col',k0',k1',k2',k3',k5',e'⟩ := c.lk
  have := X _ _ e'
  rw [hC] at this
  cases this
  unfold clsIn
  rw [e']
 refine wpAny_bind (wpAny_pure (wpAny_bind (wpAny_bind (wpAny_loadPart he (wpAny_bind (Looks.here (s := { s with toks := s.toks + 1 }) (looks_clsIn X hc) ?_))))))
 rw [if_neg (by simp)]
 show wpAny _ _ (if (!true || !typeHasDict (Value.ref C)) = true then pure none else _) _ _ _
 rw [if_neg (by simp [typeHasDict])]
 have hs0 : e ≠ s.heap.objs.size := Nat.ne_of_lt (Heap.lt_size he)
 have D6 := Heap.get?_push_of_some { cls := .type "dict",data := .dict #[] } he
 refine wpAny_bind (wpAny_alloc' ?_)
 refine wpAny_bind (wpAny_update' D6 ?_)
 refine wpAny_pure ?_
 have he2 : ((s.heap.push { cls := .type "dict",data := .dict #[] }).update e fun o => { cls := o.cls,dict := some s.heap.objs.size,data := o.data,slots := o.slots }).get? e = some (eO C t (some s.heap.objs.size)) := Heap.get?_update_self _ D6 rfl
 have hd2 : ((s.heap.push { cls := .type "dict",data := .dict #[] }).update e fun o => { cls := o.cls,dict := some s.heap.objs.size,data := o.data,slots := o.slots }).get? s.heap.objs.size = some { cls := .type "dict",data := .dict #[] } :=
  (Heap.get?_update_ne _ _ _ _ hs0.symm).trans (Heap.get?_push_at rfl rfl)
 have kp : ∀ b o,b ≠ e → s.heap.get? b = some o → ((s.heap.push { cls := .type "dict",data := .dict #[] }).update e fun o => { cls := o.cls,dict := some s.heap.objs.size,data := o.data,slots := o.slots }).get? b = some o := fun b o n hb =>
  (Heap.get?_update_ne _ _ _ _ n).trans (Heap.get?_push_of_some _ hb)
 generalize ((s.heap.push { cls := .type "dict",data := .dict #[] }).update e fun o => { cls := o.cls,dict := some s.heap.objs.size,data := o.data,slots := o.slots }) = h2 at he2 hd2 kp ⊢
 have nd : h2.Ns s.heap.objs.size (fun _ => none) := ⟨_,#[],_,hd2,rfl,fun e he => absurd he (by simp),fun _ => rfl⟩
 show wpAny _ _ (Builtin.ObjectAttr.storeInDict s.heap.objs.size (.str "at" s.toks) "at" v) _ _ _
 unfold Builtin.ObjectAttr.storeInDict Builtin.ObjectAttr.newKeyGuard
 refine wpAny_bind (wpAny_pure (wpAny_bind (wpAny_nsSet1 (Heap.Ns1.of_empty nd) fun h3 Wg hs3 => ?_)))
 obtain ⟨oD,esD,epD,hoD,hdD,hcD⟩ := Wg.count (Within.cons "at" v Within.nil)
 refine wpAny_bind (wpAny_lookBehind hoD (by rw [hdD]; exact pastItsLine_dict (Nat.le_trans hcD (by rw [List.length_cons,List.length_nil,sizeLine_eq]; omega))) ?_)
 refine wpAny_pure ?_
 exact k h3 _ (fun b o n hb => (hs3.2 b (Nat.ne_of_lt (Heap.lt_size hb))).trans (kp b o n hb)) ((hs3.2 e hs0).trans he2) Wg
theorem Dd (c : fz K C R fI) (X : K.In s.heap) {e d : Addr} {o : Obj} {mA : Str → Option Value} {v : Value} {expr : Bool} {Q : Value → Shared → Prop} (he : s.heap.get? e = some o) (hcl : o.cls = .ref C) (hnc : notCls o = true) (hd : o.dict = some d) (hn : s.heap.Ns1 d mA) (hv : mA "at" = some v) (hh : handedIn v = true)
  (k : Q v { s with toks := s.toks + 1 }) : wpAny (model prog w) A (getAttr (.ref e) "at" expr) Q XE s := by
 obtain ⟨od,hod,hl⟩ := mq hn
 have J : InstAt s.heap e o C (some od) := ⟨he,hcl,hnc,by rw [hd]; exact hod⟩
 have hf : findObj K C (some od) "at" = some (.value v) := findObj_own c.hd c.nat rfl (by rw [hl,hv])
 have L0 := J.type (M := model prog w)
 have L1 := looks_findIn (M := model prog w) X c.rd.ga
 have L2 := looks_findIn (M := model prog w) X c.rd.gh
 have L3 := looks_mroIn (M := model prog w) X c.rd.bx
 have L4 := looks_find (M := model prog w) X J hf
 have FB := PySem.F.attr_ValueError
 obtain ⟨h,g,dr,tk,os⟩ := s
 dsimp only at X L0 L1 L2 L3 L4 k ⊢
 unfold getAttr getAttrBy
 refine wpAny_bind (wpAny_mkText (wpAny_holding (wpAny_bind (L0.at (wpAny_bind (L1.at ?_))))))
 show wpAny _ _ (getAttrByItsOwn _ _ _ _ _ _) _ _ _
 unfold getAttrByItsOwn hookBefore
 rw [if_pos (show onTheHeap (Value.ref C) = true from rfl)]
 refine wpAny_bind (L2.at (wpAny_bind (wpAny_attempt (wpAny_holding ?_))))
 unfold callGetattribute
 rw [show (expr && onTheHeap (Value.builtin "BaseException.__getattribute__")) = false from Bool.and_false _,if_neg (by decide)]
 unfold boundAndCalled
 rw [FB.ga.bind (.ref e)]
 refine wpAny_bind (wpAny_pure (wpAny_call ?_))
 refine codeAny_call_builtin FB.ga.plain PySem.F.entry_bexc_ga ?_
 refine u0 L0 L3 ?_
 unfold Builtin.«object.__getattribute__»
 refine wpAny_bind (wpAny_pure (wpAny_bind (wpAny_pure (wpAny_bind (L0.here (wpAny_bind (L4.here ?_)))))))
 refine wpAny_pure ?_
 show wpAny _ _ (handedOut v) _ _ _
 rw [handedOut_of hh]
 exact wpAny_pure k
end
def rH (e C : Addr) : HO := .ext fun h => ∃ t,h.get? e = some (eO C t none)
def rJ (e C d : Addr) : HO := .ext fun h => ∃ t,h.get? e = some (eO C t (some d))
theorem tq {P : Program} {w : World} {H : Hp} {h : Heap} {e C t : Addr} (x : h.get? e = some (eO C t none)) : bz P w H h e (rH e C) :=
 ⟨⟨t,x⟩,⟨_,x⟩,fun h1 h2 ⟨t',a⟩ k => ⟨t',k _ a⟩⟩
theorem zP {P : Program} {w : World} {H : Hp} {h : Heap} {e C t d : Addr} (x : h.get? e = some (eO C t (some d))) : bz P w H h e (rJ e C d) :=
 ⟨⟨t,x⟩,⟨_,x⟩,fun h1 h2 ⟨t',a⟩ k => ⟨t',k _ a⟩⟩
section
variable {X : Cx} {C R fI : Addr} {x : Str} {e v2 : Expr} {es : List Expr} {t : TA} {te : TE} {np apos pos p1 p2 p3 : Pos} {cc : Str} {j : Nat}
def Fl (te : TE) : TE := fun σ H Q => te σ H fun v H1 => ∃ i : Int,v = .int i ∧ i.natAbs < 10 ^ 12 ∧ ∀ u : Str,Q (.str u) H1
theorem zQ (he : PE X e te) (hc : cc.length ≤ 1000) : PE X (.JoinedStr [.Constant (.str cc) j p1,.FormattedValue e (-1) none p2] p3) (Fl te) := by
 intro pins s σ H Q I h
 refine JoinedStr_many (joinParts_cons (Constant_str ⟨?_,joinParts_cons (FormattedValue_plain (bO (he pins _ σ H _ (I.tok _) h) fun u s1 ⟨v,H1,I1,r1,i,ev,hi,q⟩ => ?_))⟩))
 ·rw [strLen_append]
  have : (Str.empty).length = 0 := rfl
  rw [sizeLine_eq]
  omega
 ·subst ev
  obtain ⟨tk,rfl⟩ := (show ∃ tk,u = Value.int i tk from r1)
  have hl : i.natAbs.log2 < 1920 := by
   by_cases z : i.natAbs = 0
   ·rw [z]; decide
   ·refine (Nat.log2_lt z).mpr (Nat.lt_of_lt_of_le hi ?_)
    exact Nat.le_trans (show 10 ^ 12 ≤ 2 ^ 40 by decide) (Nat.pow_le_pow_right (by decide) (by decide))
  refine formatField_int_small hl ⟨?_,joinParts_nil ⟨.str _,H1,I1.tok _,⟨_,rfl⟩,q _⟩ ?_⟩
  all_goals
   have h10 := int_text_length_le10 (a := i) (k := 12) (by decide) hi
   have h11 : (Str.ofString (toString i)).length = (toString i).length := PySem.ofString_length _
   have h12 : (Str.empty).length = 0 := rfl
   rw [strLen_append,strLen_append,sizeLine_eq,h11]
   omega
def Fm (C : Addr) (t : TA) : TE := fun σ H Q => t σ H fun vs H1 => ∃ e y,vs = [.ref e,y] ∧ H1 e = some (rH e C) ∧ Q .non (upd H1 e (rH e C))
theorem zR {pl : Sem Bool} (c : fz X.K C R fI) (hg : Gl X x) (hm : X.mg x = some (.ref R)) (ha : PA X (e :: es) t)
  (ht : eval (.Call (.Attribute (.Name x np) "__init__" apos) (e :: es) [] pos) X.env = (do
   let ov ← eval (.Name x np) X.env
   standAt apos.atName
   let (f,first) ← holding [ov] (getMethod ov "__init__" pl)
   callWith pos f first (backTo pos (starEach (e :: es) X.env)) (backToKw pos (keywordEach [] X.env))) := by rfl)
  (he : starEach (e :: es) X.env = (false,eval e X.env) :: starEach es X.env := by rfl) (hpl : (backTo pos (starEach es X.env)).any (·.1) = false := by rfl) (hdb : (x == ("__debug__" : Str)) = false := by decide) :
  PE X (.Call (.Attribute (.Name x np) "__init__" apos) (e :: es) [] pos) (Fm C t) := by
 intro pins s σ H Q I h
 refine methodCall_KW (pl := pl) (e9 I hg hm ?_ hdb) ht
 refine method_cls I.e6 c.sg (cls_value I.e6 c.rr c.fi rfl ?_)
 refine callWith_builtin1 (bO (ha pos pins _ σ H _ (I.tok _) h) fun us s1 ⟨vs,H1,I1,r1,e0,y,ev,hx,q⟩ => ?_) he hpl
 subst ev
 cases r1 with
 | cons r1 r2 =>
  cases r2 with
  | cons r2 r3 =>
   cases r3
   obtain rfl : _ = Value.ref e0 := r1
   obtain ⟨t0,ht0⟩ := (I1.hok e0 _ hx).1
   exact w4 c I1.e6 ht0 fun h' kp e2 => ⟨.non,_,I1.write (x := e0) (e := e0) (t' := s1.toks) (by rw [hx]; exact True.intro) (.inl rfl) kp ⟨_,e2⟩ (tq e2),rfl,q⟩
def Kr (C : Addr) (ta tv : TE) : TS := fun D σ H => tv σ H fun y H1 => ta σ H1 fun z H2 => ∃ e0,z = .ref e0 ∧ H2 e0 = some (rH e0 C) ∧ ∀ d,H2 d = none → d ≠ e0 → D.nx σ (upd (upd H2 d (.xd [("at",y)])) e0 (rJ e0 C d))
theorem zS {y : V} {u : Value} (r : RelV y u) (f : Str) : e8 (([("at",y)] : List (Str × V)).lookup f) (if f = "at" then some u else none) := by
 by_cases h : f = "at"
 ·subst h
  rw [if_pos rfl,List.lookup_cons_self]
  exact r
 ·rw [if_neg h,List.lookup_cons,show (f == ("at" : Str)) = false from beq_eq_false_iff_ne.mpr h]
  exact True.intro
theorem De {o value : Expr} {ta tv : TE} {pos' : Pos} (c : fz X.K C R fI) (ha : PE X o ta) (hv : PE X value tv) (hs : swapsWith value (some (.Attribute o "at" pos')) pos.line X.env = pure false) : PS X (.Assign [.Attribute o "at" pos'] value pos) (Kr C ta tv) := by
 intro pins s σ H D I h
 refine plainObj_wpAny_Assign_Attribute (bO (hv pins s σ H _ I h) fun u s1 ⟨y,H1,I1,ry,q⟩ => bO (ha pins s1 σ H1 _ I1 q) fun ov s2 ⟨z,H2,I2,rz,e0,ez,hx,q2⟩ => ?_) hs
 subst ez
 obtain rfl : ov = Value.ref e0 := rz
 obtain ⟨t0,ht0⟩ := (I2.hok e0 _ hx).1
 refine Dc c I2.e6 ht0 fun h' tk kp e2 ns => ?_
 have n0 : s2.heap.objs.size ≠ e0 := Nat.ne_of_gt (Heap.lt_size ht0)
 obtain ⟨oD,esD,epD,hoD,rD⟩ := id ns
 have fr : oD.isFreed = false := (Heap.get?_some_iff.mp hoD).2
 have g1 : (s2.heap.push oD).get? s2.heap.objs.size = some oD := Heap.get?_push_size s2.heap fr
 have I3 := I2.laid (a := s2.heap.objs.size) (o := .xd [("at",y)]) (h' := s2.heap.push oD) (t' := tk) (fun b u e => Heap.get?_push_of_some _ e) (Nat.le_refl _) ⟨_,⟨oD,esD,epD,g1,rD⟩,zS ry⟩
 have I4 := I3.write (x := e0) (e := e0) (o := rJ e0 C s2.heap.objs.size) (h' := h') (t' := tk) (by rw [aw n0.symm,hx]; exact True.intro) (.inl rfl) (fun b u n e => ?_) ⟨_,e2⟩ (zP e2)
 ·exact ⟨σ,_,I4,q2 _ I2.fresh n0⟩
 ·by_cases hb : b = s2.heap.objs.size
  ·subst hb
   rw [g1] at e
   cases e
   exact hoD
  ·refine kp b u n ?_
   rw [← e]
   exact (Heap.get?_push_ne _ _ _ hb).symm
end
def w6 (C : Addr) : Sp := fun vs H Q _ => ∃ (e : Addr) (i : Int),vs = [.ref e,.int i] ∧ H e = some (rH e C) ∧ i.natAbs < 10 ^ 12 ∧ ∀ d,H d = none → d ≠ e → Q .non (upd (upd H d (.xd [("at",.int i)])) e (rJ e C d))
theorem Fn {H : Hp} {e d : Addr} {a b c : HO} (n : d ≠ e) : upd (upd (upd H e a) d b) e c = upd (upd H d b) e c := by
 funext x
 unfold upd
 by_cases h : x = e
 ·simp [h]
 ·by_cases h2 : x = d
  ·simp [h,h2]
  ·simp [h,h2]
def rm (H : Hp) (e : Addr) : Hp := fun c => if c = e then none else H c
theorem tu {H : Hp} {e c : Addr} (h : c ≠ e) : rm H e c = H c := by
 unfold rm
 rw [if_neg h]
theorem tD {H : Hp} {e : Addr} : rm H e e = none := by
 unfold rm
 rw [if_pos rfl]
theorem zT {H : Hp} {e d : Addr} {a b : HO} (n : d ≠ e) (he : H e = none) : rm (upd (upd H d a) e b) e = upd H d a := by
 funext x
 by_cases h : x = e
 ·subst h
  rw [tD,aw n.symm,he]
 ·rw [tu h,aw h]
def rK (P : Program) (w : World) : sJ := fun outer H s E e s' => ∃ (ea : Addr) (cls a0 : Value) (od : Option Addr) (H' : Hp) (B : Heap),e = .ref ea ∧ B.FlyingW outer ea cls a0 s'.heap ∧ rF s'.heap ea od ∧
 (∀ b o,s.heap.get? b = some o → b ∉ frs outer → ∃ o',B.get? b = some o') ∧ (∀ b o,H' b = some o → ∃ o',B.get? b = some o') ∧
 s'.os = s.os ∧ AllBare s'.gens ∧ Un (frs outer) [] H H' s.heap s'.heap ∧ fY P w H' s'.heap ∧ E cls od H'
section
variable {X : Cx} {C R f : Addr} {fd : FuncData} {k : Nat}
theorem zU {pins : List (Addr × Obj)} {σ : St} {H : Hp} {s : Shared} {i : Int} {us : List Value} {Q : VK} {XE : Value → Shared → Prop} (c : fz X.K C R f) (F : aK X.prog X.w X.K X.mg X.base bM k f fd ["self", "at"] (w6 C)) (hr : cU (k + 1) X.A) (hb : Binds X.K fd ["self", "at"] []) (I : Inv X pins σ H s) (r : Vals [.int i] us) (hi : i.natAbs < 10 ^ 12)
  (h : ∀ e d,s.heap.objs.size ≤ e → H e = none → H d = none → d ≠ e → Q (.ref e) (upd (upd H d (.xd [("at",.int i)])) e (rJ e C d))) : wpAny (model X.prog X.w) X.A (call (.ref C) us) (EP X pins σ Q) XE s := by
 have hz : us.length ≤ sizeLine := by
  rw [← r.length,sizeLine_eq]
  show 1 ≤ 16777216
  decide
 have I1 := I.kept (t' := s.toks) (h' := s.heap.push { cls := .type "tuple",data := .seq us.toArray }) (fun b u e => Heap.get?_push_of_some _ e)
 have he : ((s.heap.push { cls := .type "tuple",data := .seq us.toArray }).push (eO C s.heap.objs.size none)).get? (s.heap.objs.size + 1) = some (eO C s.heap.objs.size none) := by heap_get
 have I2 := I1.laid (a := s.heap.objs.size + 1) (o := rH (s.heap.objs.size + 1) C) (t' := s.toks) (h' := (s.heap.push { cls := .type "tuple",data := .seq us.toArray }).push (eO C s.heap.objs.size none)) (fun b u e => Heap.get?_push_of_some _ e) (Nat.le_of_eq (Heap.size_push _ _)) (tq he)
 have hn : H (s.heap.objs.size + 1) = none := I.hok.fresh (Nat.le_succ _)
 have r2 : Vals (V.ref (s.heap.objs.size + 1) :: [V.int i]) (Value.ref (s.heap.objs.size + 1) :: us) := .cons rfl r
 have hl : (Value.ref (s.heap.objs.size + 1) :: us ++ []).length = ["self", "at"].length := by
  have e := r2.length
  rw [List.append_nil]
  exact e.symm
 have hq : w6 C [V.ref (s.heap.objs.size + 1),V.int i] (upd H (s.heap.objs.size + 1) (rH (s.heap.objs.size + 1) C)) (fun v H2 => v = .non ∧ Q (.ref (s.heap.objs.size + 1)) H2) E0 := by
  refine ⟨_,i,rfl,ah,hi,fun d hd ne => ⟨rfl,?_⟩⟩
  rw [Fn ne]
  rw [aw ne] at hd
  exact h _ d (Nat.le_succ _) hn hd ne
 refine wZ c I.e6 hz (wpAny_call (codeAny_mono (F.run _ X.stack _ _ ⟨Value.ref (s.heap.objs.size + 1) :: us,[]⟩ (Value.ref (s.heap.objs.size + 1) :: us) _ _ E0 (hr.make C us []) (I2.env0.make C us []) (by have := hb _ (Value.ref (s.heap.objs.size + 1) :: us) I2.e6 hl; rw [List.append_nil] at this; exact this) r2 hq) fun r s' hq' => ?_))
 cases r with
 | error e => exact False.elim hq'
 | ok fl =>
  cases fl with
  | ret u =>
   obtain ⟨v,H',I3,rv,ev,q3⟩ := I2.after hq'
   subst ev
   exact ⟨rv,⟨V.ref (s.heap.objs.size + 1),H',I3,rfl,q3⟩⟩
  | next => exact False.elim hq'
  | brk => exact False.elim hq'
  | cont => exact False.elim hq'
theorem rL {M : Model} {A : Around} {XE : Value → Shared → Prop} {K : PySem.W.Frag} {s : Shared} {env : Env} {z : Sem Value} {Q : Flow → Shared → Prop} (c : fz K C R f) (hh : A.handled = none)
  (h : wpAny M A z (fun v s1 => ∃ e t od,v = .ref e ∧ K.In s1.heap ∧ s1.heap.get? e = some (eO C t od) ∧ XE (.ref e) s1) XE s) : wpAny M A (raiseStmt env (some z) none) Q XE s := by
 have hcB : (Value.ref C :: .ref R :: kZ).contains (.type "BaseException") = true := by simp
 unfold raiseStmt
 refine wpAny_bind (wpAny_mono h (fun v s1 h1 => ?_) fun _ _ x => x)
 obtain ⟨e,t,od,rfl,X,he,hE⟩ := h1
 obtain ⟨N,nm,q,bs,sn,sub,ab,col,dd,k0,k1,k2,k3,k5,hC⟩ := c.obj X
 obtain ⟨hp,g,d,tk,os⟩ := s1
 dsimp only at hC he X
 repeat (first | with_reducible refine wpAny_loadPart_at he ?_ | with_reducible refine wpAny_loadPart_at hC ?_ | (with_reducible refine wpAny_isSubtype_exc hC ?_; rw [hcB]) | wp_step)
 exact wpAny_raiseNew_none hh hE
end
def zV (C : Addr) (t : TA) (E : XK) : TS := fun _ σ H => t σ H fun vs H1 => ∃ i : Int,vs = [.int i] ∧ i.natAbs < 10 ^ 12 ∧ ∀ d,H1 d = none → E (.ref C) (some d) (upd H1 d (.xd [("at",.int i)]))
section
variable {P : Program} {w : World} {K : PySem.W.Frag} {mg : Str → Option Value} {base : Heap} {N : List Str} {qual : Str} {scope : Scope} {f : Addr} {cd : Value} {A : Around} {outer : List Env} {s₀ : Shared} {H₀ : Hp} {E : XK}
theorem hU {C R fI : Addr} {fd : FuncData} {k : Nat} {x : Str} {np cpos pos : Pos} {a : Expr} {as : List Expr} {t : TA} (c : fz K C R fI) (kp : keepIn K (.ref C) = true) (F : aK P w K mg base bM k fI fd ["self", "at"] (w6 C)) (hb : Binds K fd ["self", "at"] []) (hr : cU (k + 1) (A.deeper (envOfC qual scope s₀.heap.objs.size f cd))) (hm : mg x = some (.ref C))
  (hg : Gl (gj (rK P w) P w K mg base N qual scope f cd A outer s₀ H₀ E) x) (ha : PA (gj (rK P w) P w K mg base N qual scope f cd A outer s₀ H₀ E) (a :: as) t) (hd : (x == ("__debug__" : Str)) = false := by decide)
  (he : starEach (a :: as) (gj (rK P w) P w K mg base N qual scope f cd A outer s₀ H₀ E).env = (false,eval a (gj (rK P w) P w K mg base N qual scope f cd A outer s₀ H₀ E).env) :: starEach as (gj (rK P w) P w K mg base N qual scope f cd A outer s₀ H₀ E).env := by rfl)
  (hpl : (backTo cpos (starEach as (gj (rK P w) P w K mg base N qual scope f cd A outer s₀ H₀ E).env)).any (·.1) = false := by rfl) :
  PS (gj (rK P w) P w K mg base N qual scope f cd A outer s₀ H₀ E) (.Raise (some (.Call (.Name x np) (a :: as) [] cpos)) none pos) (zV C t E) := by
 intro pins s σ H D I h
 have hr' : cU (k + 1) (gj (rK P w) P w K mg base N qual scope f cd A outer s₀ H₀ E).A := hr
 rw [arm_exec_Raise]
 refine wpAny_bind (wpAny_standAt (rL c (I.ok.hd rfl) (wpAny_bind (wpAny_mono (wpAny_Call_Name_kw (e9 I hg hm (callWith_K (h₀ := base) I.ok.mod.Cj kp (bO (ha cpos pins s σ H _ I h) fun us s1 ⟨vs,H1,I1,r,i,ev,hi,q⟩ => ⟨I1.e6,?_⟩) he hpl) hd)) (fun v s3 h3 => wpAny_bind (wpAny_standAt (wpAny_pure h3))) fun _ _ z => z))))
 subst ev
 refine bO (zU (Q := fun v H2 => ∃ e d,v = .ref e ∧ s1.heap.objs.size ≤ e ∧ H1 e = none ∧ H1 d = none ∧ d ≠ e ∧ H2 = upd (upd H1 d (.xd [("at",.int i)])) e (rJ e C d)) c F hr' hb I1 r hi fun e d h0 h1 h2 h3 => ⟨e,d,rfl,h0,h1,h2,h3,rfl⟩) fun v s4 hv => ?_
 obtain ⟨vv,H4,I4,rv,e,d,rfl,ge,ne,nd,de,Wh⟩ := hv
 obtain rfl : v = Value.ref e := rv
 have Ks : H4 e = some (rJ e C d) := by rw [Wh,ah]
 have hrm : rm H4 e = upd H1 d (.xd [("at",.int i)]) := by rw [Wh]; exact zT de ne
 obtain ⟨t0,ht0⟩ := (I4.hok e _ Ks).1
 refine ⟨e,t0,some d,rfl,I4.e6,ht0,?_⟩
 have bk := I4.bk
 have stk : ∀ {b o},s₀.heap.get? b = some o → b ∉ frs outer → b ∉ frs ((envOfC qual scope s₀.heap.objs.size f cd) :: outer) := fun {b o} hb nf hx => by
  rcases List.mem_cons.mp (I4.j9 b hx) with e | e
  ·have h1 := Heap.lt_size hb
   have h2 : s₀.heap.objs.size ≤ (envOfC qual scope s₀.heap.objs.size f cd).locals := I4.ok.above
   have e : b = (envOfC qual scope s₀.heap.objs.size f cd).locals := e
   rw [e] at h1
   exact absurd h1 (Nat.not_lt.mpr h2)
  ·exact nf e
 have ub : Un (frs outer) [] H₀ H4 s₀.heap s4.heap := I4.base
 have old : ∀ {b o},s₀.heap.get? b = some o → b ≠ e := fun {b o} hb z => by
  have h1 := Heap.lt_size hb
  have h2 : s₀.heap.objs.size ≤ s1.heap.objs.size := I1.sz
  exact absurd h1 (Nat.not_lt.mpr (Nat.le_trans h2 (z ▸ ge)))
 have hk : ∀ {b o},H4 b = some o → b ∉ frs ((envOfC qual scope s₀.heap.objs.size f cd) :: outer) := fun {b o} hb hx => by
  have := I4.iJ b hx
  rw [hb] at this
  cases this
 have nin : ∀ {b},b ∉ frs ((envOfC qual scope s₀.heap.objs.size f cd) :: outer) → b ≠ e → b ∉ frs ((envOfC qual scope s₀.heap.objs.size f cd) :: outer) ++ [e] := fun {b} h1 h2 h3 => by
  rcases List.mem_append.mp h3 with h | h
  ·exact h1 h
  ·exact h2 (by simpa using h)
 refine zO (B := less s4.heap (frs ((envOfC qual scope s₀.heap.objs.size f cd) :: outer) ++ [e])) (L := (envOfC qual scope s₀.heap.objs.size f cd).locals) I4.ok.frames (ju I4.stack fun b h => List.mem_append_left _ h) rfl ht0 kX (iX (by simp)) rfl rfl rfl fun h'' fly up dc => ?_
 have stay : ∀ {b u},b ∉ frs ((envOfC qual scope s₀.heap.objs.size f cd) :: outer) → b ≠ e → s4.heap.get? b = some u → h''.get? b = some u := fun {b u} hb hn hu => fly.1 b u (by rw [eA (nin hb hn)]; exact hu)
 have Fo : ∀ {b o},rm H4 e b = some o → b ≠ e ∧ H4 b = some o := fun {b o} hb => by
  by_cases z : b = e
  ·rw [z,tD] at hb; cases hb
  ·exact ⟨z,by rw [tu z] at hb; exact hb⟩
 have qg : ∀ {b o},H4 b = some o → (∀ φ,o ≠ .ext φ) → rm H4 e b = some o := fun {b o} hb n => by
  have z : b ≠ e := fun z => by
   rw [z,Ks] at hb
   cases hb
   exact n _ rfl
  rw [tu z]
  exact hb
 have slots : ∀ b o,s₀.heap.get? b = some o → H₀ b = none → b ∈ frs outer → ∃ sl,h''.get? b = some { o with slots := sl } := fun b o e n hb => by
  obtain ⟨sl,e1⟩ := ub.slot b o e n hb (by simp)
  obtain ⟨_,o2,e2,nf⟩ := I4.iu.mem hb
  rw [e1] at e2
  cases e2
  obtain ⟨sl',e3⟩ := up b _ e1 nf
  exact ⟨sl',e3⟩
 refine ⟨e,.ref C,.ref t0,some d,rm H4 e,_,rfl,fly,dc,fun b o hb nf => ?_,fun b o hb => ?_,I4.os,I4.bare,⟨fun b o e n nf nx => stay (stk e nf) (old e) (ub.keep b o e n nf nx),fun b o e n hb _ => slots b o e n hb,fun b o e n hx => ?_,fun b o e nx => ?_,fun b xs e => qg (ub.tups b xs e) (by intro _ z; cases z),fun b o u e => qg (ub.iq b o u e) (by intro _ z; cases z),fun b ps e => ?_⟩,fun a o ha => ?_,by rw [hrm]; exact q d nd⟩
 ·obtain ⟨o',e'⟩ := ub.there b o hb (by simp)
  exact ⟨o',by rw [eA (nin (stk hb nf) (old hb))]; exact e'⟩
 ·obtain ⟨z,hb⟩ := Fo hb
  obtain ⟨o',e'⟩ := (I4.hok b o hb).some_
  exact ⟨o',by rw [eA (nin (hk hb) z)]; exact e'⟩
 ·rw [tu (old e)]
  exact ub.free b o e n hx
 ·by_cases hb : b ∈ frs outer
  ·obtain ⟨_,o2,e2,nf⟩ := I4.iu.mem hb
   obtain ⟨sl',e3⟩ := up b _ e2 nf
   exact ⟨_,e3⟩
  ·obtain ⟨o',e'⟩ := ub.there b o e nx
   exact ⟨o',stay (stk e hb) (old e) e'⟩
 ·obtain ⟨more,z⟩ := ub.jf b ps e
  exact ⟨more,qg z (by intro _ z; cases z)⟩
 ·obtain ⟨z,ha⟩ := Fo ha
  refine (I4.hok a o ha).stay (fun b u hc q => ?_) (fun c q => qg q (by intro _ z; cases z)) (fun c xs q => qg q (by intro _ z; cases z))
  rcases hc with rfl | hc
  ·exact stay (hk ha) z q
  ·refine stay (hk hc) (fun z => ?_) q
   rw [z,Ks] at hc
   cases hc
end
def w8 (ea : Addr) (cls : Value) (od : Option Addr) : HO := .ext fun h => ∃ o,h.get? ea = some o ∧ o.cls = cls ∧ notCls o = true ∧ o.dict = od
section
variable {X : Cx} {pins : List (Addr × Obj)} {σ : St} {H : Hp} {s : Shared}
theorem Inv.Df {ea : Addr} {cls : Value} {od : Option Addr} (I : Inv X pins σ H s) (hn : H ea = none) (hs₀ : X.s₀.heap.get? ea = none) (hne : ea ≠ X.env.locals) (hc : ∀ x c,X.env.cells.lookup x = some c → c ≠ ea) (hp : ∀ p ∈ X.pn ++ pins,p.1 ≠ ea) (ho : ∃ o,s.heap.get? ea = some o ∧ o.cls = cls ∧ notCls o = true ∧ o.dict = od) :
  Inv X pins σ (upd H ea (w8 ea cls od)) s := by
 have ne : ∀ {b},b ≠ ea → upd H ea (w8 ea cls od) b = H b := fun h => aw h
 have old : ∀ {b o},X.s₀.heap.get? b = some o → b ≠ ea := fun {b o} h z => by rw [z,hs₀] at h; cases h
 refine ⟨I.ok,I.os,I.bare,⟨I.base.keep,I.base.slot,fun b o e n hx => ?_,I.base.there,fun b xs e => ?_,fun b o u e => ?_,fun b ps e => ?_⟩,I.loc,I.cell,?_,fun x c e => ?_,fun p hp' => ?_,fun b o e => ?_,I.len⟩
 ·rw [ne (old e)]; exact I.base.free b o e n hx
 ·have := I.base.tups b xs e
  rw [ne (aq this hn)]; exact this
 ·have := I.base.iq b o u e
  rw [ne (aq this hn)]; exact this
 ·obtain ⟨more,this⟩ := I.base.jf b ps e
  exact ⟨more,by rw [ne (aq this hn)]; exact this⟩
 ·rw [ne hne.symm]; exact I.free
 ·rw [ne (hc x c e)]; exact I.dH x c e
 ·obtain ⟨a1,a2,a3⟩ := I.pin p hp'
  exact ⟨a1,by rw [ne (hp p hp')]; exact a2,a3⟩
 ·by_cases hb : b = ea
  ·subst hb
   rw [ah] at e
   cases e
   obtain ⟨o,h1,h2⟩ := ho
   exact ⟨⟨o,h1,h2⟩,⟨o,h1⟩,fun h1 h2 ⟨o,a,b⟩ k => ⟨o,k o a,b⟩⟩
  ·rw [ne hb] at e
   exact (I.hok b o e).stay (fun c u _ q => q) (fun c q => by rw [ne (aq q hn)]; exact q) (fun c xs q => by rw [ne (aq q hn)]; exact q)
end
section
variable {X : Cx} {pins : List (Addr × Obj)} {σ : St}
theorem zW {H : Hp} {s s' : Shared} {e : Value} {E : XK} {L : Addr} {hs : List ExceptHandler} {Q : Flow → Shared → Prop} {XE : Value → Shared → Prop} (I : Inv X pins σ H s) (hst : X.stack = X.env :: X.outer) (hL : X.env.frame = some L) (cx : rK X.prog X.w X.stack H s E e s')
  (k : ∀ (ea : Addr) (cls a0 : Value) (od : Option Addr) (H' : Hp) (B : Heap) (s2 : Shared),e = .ref ea → E cls od H' → rF s2.heap ea od → Inv X pins σ H' s2 → B.FlyingW X.stack ea cls a0 s2.heap → (∀ b o,H' b = some o → ∃ o',B.get? b = some o') → (∀ b o,s.heap.get? b = some o → b ∉ frs X.stack → ∃ o',B.get? b = some o') →
   (∀ h6,B.FlyingW X.stack ea cls a0 h6 → s2.heap.UpToSlots h6 → Inv X pins σ H' { s2 with heap := h6 }) → wpAny (model X.prog X.w) X.A (handleBy e X.env hs) Q XE s2) :
  wpAny (model X.prog X.w) X.A (noteFrame e X.env) (fun _ s2 => wpAny (model X.prog X.w) X.A (setFlight e none) (fun _ s3 => wpAny (model X.prog X.w) X.A (handleBy e X.env hs) Q XE s3) XE s2) XE s' := by
 obtain ⟨ea,cls,a0,od,H',B,rfl,fly,dc,hB,hH,os,bare,un,hok,hE⟩ := cx
 obtain ⟨T,be,bT,Kt⟩ := wX fly
 have xc := Kt
 rw [hst] at xc
 have apart : ∀ {b o},B.get? b = some o → b ∉ frs X.stack → b ∉ frs X.stack ++ [ea,T] := fun {b o} hb nf hx => by
  rcases List.mem_append.mp hx with h | h
  ·exact nf h
  ·rcases (show b = ea ∨ b = T by simpa using h) with rfl | rfl
   ·rw [be] at hb; cases hb
   ·rw [bT] at hb; cases hb
 have fr' : ∀ b ∈ frs X.stack,H' b = none := fun b hb => by
  obtain ⟨_,o,ho,_⟩ := I.stack.mem hb
  exact un.free b o ho (I.iJ b hb) (by simp)
 refine C7 (B := less s'.heap (frs (X.env :: X.outer) ++ [ea,T])) (by rw [I.ok.frames,hst]) hL (by rw [← hst] at xc ⊢; exact xc) dc fun h4 Fp X4 Ku => ?_
 refine C8 (s := { s' with heap := h4 }) Fp Ku fun h5 xg X5 Kv => ?_
 have up := X4.trans X5
 rw [← hst] at xg
 have kH : ∀ {b o},H' b = some o → b ∉ frs X.stack ++ [ea,T] := fun {b o} hb => by
  obtain ⟨o',h1⟩ := hH b o hb
  exact apart h1 fun z => by rw [fr' b z] at hb; cases hb
 have inv : ∀ h5,(less s'.heap (frs X.stack ++ [ea,T])).FlyingW X.stack ea cls a0 h5 → s'.heap.UpToSlots h5 → Inv X pins σ H' { s' with heap := h5 } := fun h5 xg up => by
  have stay : ∀ {b u},b ∉ frs X.stack ++ [ea,T] → s'.heap.get? b = some u → h5.get? b = some u := fun {b u} hb hu => xg.1 b u (by rw [eA hb]; exact hu)
  have up1 : ∀ b o,s'.heap.get? b = some o → b ∈ frs X.stack → ∃ sl,h5.get? b = some { o with slots := sl } := fun b o ho hb => by
   obtain ⟨_,o2,e2,nf⟩ := fly.2.2.1.mem hb
   rw [ho] at e2
   cases e2
   exact up b o ho nf
  have X6 : Un (frs X.stack) [] H H' s.heap h5 := by
   refine ⟨fun b o e n nf nx => ?_,fun b o e n hb nx => ?_,un.free,fun b o e nx => ?_,un.tups,un.iq,un.jf⟩
   ·obtain ⟨o',hb⟩ := hB b o e nf
    exact stay (apart hb nf) (un.keep b o e n nf nx)
   ·obtain ⟨sl,e1⟩ := un.slot b o e n hb nx
    obtain ⟨sl',e2⟩ := up1 b _ e1 hb
    exact ⟨sl',e2⟩
   ·obtain ⟨o',e1⟩ := un.there b o e nx
    by_cases hb : b ∈ frs X.stack
    ·obtain ⟨sl',e2⟩ := up1 b _ e1 hb
     exact ⟨_,e2⟩
    ·obtain ⟨o2,h2⟩ := hB b o e hb
     exact ⟨o',stay (apart h2 hb) e1⟩
  have Kw : fY X.prog X.w H' h5 := fun a o e => (hok a o e).stay (fun b u hc q => by
   rcases hc with rfl | hc
   ·exact stay (kH e) q
   ·exact stay (kH hc) q) (fun _ q => q) fun _ _ q => q
  exact I.call' (s' := { s' with heap := h5 }) (ch := []) os X6 Kw bare (fun b z => absurd z (by simp))
 refine k ea cls a0 od H' (less s'.heap (frs X.stack ++ [ea,T])) _ rfl hE Kv (inv h5 xg up) xg (fun b o hb => ?_) (fun b o hb nf => ?_) (fun h6 f6 u6 => inv h6 f6 (up.trans u6))
 ·obtain ⟨u,hu⟩ := (hok b o hb).some_
  exact ⟨u,by rw [eA (kH hb)]; exact hu⟩
 ·obtain ⟨o2,h2⟩ := hB b o hb nf
  obtain ⟨o',e1⟩ := un.there b o hb (by simp)
  exact ⟨o',by rw [eA (apart h2 nf)]; exact e1⟩
end
def Fq (K : PySem.W.Frag) (sp : Sp) (iI : List V) (t : TA) (i : Nat) (cR : Value) (ts : TS) : TS := fun D σ H => t σ H fun vs H1 =>
 sp (vs ++ iI) H1 (fun _ H2 => D.nx σ H2) fun cls od H2 => exmOne K cls cR = some true ∧ ∀ ea,H2 ea = none → ts (D.less i) (σ.set i (some (.ref ea))) (upd H2 ea (w8 ea cls od))
section
variable {X : Cx} {k : Nat} {f cR : Addr} {fd : FuncData} {ps : List Str} {sp : Sp} {iI : List V} {ds : List Value} {x g n : Str} {np gp pos p2 p3 p4 : Pos} {a : Expr} {as : List Expr} {t : TA} {ts : TS} {i : Nat} {b₀ : Stmt} {suite : List Stmt} {L : Addr}
theorem zX {pins : List (Addr × Obj)} {σ : St} {H : Hp} {s : Shared} {Q : VK} {E : XK} {us : List Value} {vs : List V} {XE : Value → Shared → Prop} (F : aK X.prog X.w X.K X.mg X.base (rK X.prog X.w) k f fd ps sp) (hr : cU k X.A) (hb : Binds X.K fd ps ds) (hd : Vals iI ds)
  (I : Inv X pins σ H s) (r : Vals vs us) (h : sp (vs ++ iI) H Q E) (hx : ∀ e s',rK X.prog X.w X.stack H s E e s' → XE e s') : wpAny (model X.prog X.w) X.A (call (.ref f) us) (EP X pins σ Q) XE s := by
 have r2 : Vals (vs ++ iI) (us ++ ds) := r.append hd
 have hl : (us ++ ds).length = ps.length := by rw [← r2.length]; exact F.len _ _ _ _ h
 refine wpAny_call (codeAny_mono (F.run X.A X.stack s H ⟨us,[]⟩ (us ++ ds) (vs ++ iI) Q E hr I.env0 (hb s us I.e6 hl) r2 h) fun r s' hq => ?_)
 cases r with
 | error e => exact hx e s' hq
 | ok fl =>
  cases fl with
  | ret u => exact I.after hq
  | next => exact False.elim hq
  | brk => exact False.elim hq
  | cont => exact False.elim hq
theorem zY (ha : PA X.D4 (a :: as) t) (X7 : Gl X g) (Kx : X.mg g = some (.ref f)) (kp : keepIn X.K (.ref f) = true) (F : aK X.prog X.w X.K X.mg X.base (rK X.prog X.w) k f fd ps sp) (hr : cU k X.A) (hb : Binds X.K fd ps ds) (hd : Vals iI ds)
  (hst : X.stack = X.env :: X.outer) (hL : X.env.frame = some L) (X8 : X.env.locals = L) (hex : X.ex = []) (hg : Gl X x) (hmg : X.mg x = some (.ref cR)) (hN : X.N.Nodup) (hi : X.N[i]? = some n) (hn : X.env.kindOf n = some .local)
  (hs : ∀ ea,lQ (X.oM ea) (b₀ :: suite) ts) (hdg : (g == ("__debug__" : Str)) = false := by decide)
  (he : starEach (a :: as) X.env = (false,eval a X.env) :: starEach as X.env := by rfl) (hpl : (backTo pos (starEach as X.env)).any (·.1) = false := by rfl)
  (hsw : swapsWith (.Call (.Name g gp) (a :: as) [] pos) none p2.line X.env = pure false := by rfl) (hdb : (x == ("__debug__" : Str)) = false := by decide) :
  PS X (.Try [.Expr (.Call (.Name g gp) (a :: as) [] pos) p2] [.ExceptHandler (some (.Name x np)) (some n) (b₀ :: suite) p3] [] [] p4) (Fq X.K sp iI t i (.ref cR) ts) := by
 intro pins s σ H D I h
 refine wpAny_Try_except (wpAny_execs_cons (wpAny_Expr_any (?_) I.quiet hsw))
 refine wpAny_Call_Name_kw (e9 I X7 Kx (callWith_K (h₀ := X.base) I.ok.mod.Cj kp (wpAny_mono (ha pos pins s σ H _ (I.wish _) h) (fun us s1 hu => ?_) fun _ _ z => False.elim z) he hpl) hdg)
 obtain ⟨vs,H1,X9,r,q⟩ := hu
 have I1 : Inv X pins σ H1 s1 := X9.fe
 refine ⟨I1.e6,?_⟩
 refine wpAny_mono (zX F hr hb hd I1 r q fun e s' cx => ?_) (fun v s2 hv => ?_) fun e s' hx => hx
 ·
  refine zW I1 hst hL cx fun ex cls a0 od H' B s2 ee hE dc I2 fly hH hB again => ?_
  subst ee
  obtain ⟨hcls,hsuite⟩ := hE
  obtain ⟨oe,vs,T,oT,tss,g1,g2,g3,g4,g5,g6,g7,g8,g9⟩ := fly.2.2.2
  have Wi : ex ∉ frs X.stack := fun z => by
   obtain ⟨_,o2,e2,nf⟩ := fly.2.2.1.mem z
   rw [g1] at e2
   cases e2
   exact nf _ g3
  have apart : ∀ {b o},s1.heap.get? b = some o → b ≠ ex := fun {b o} hb z => by
   subst z
   obtain ⟨o',h'⟩ := hB b o hb Wi
   rw [fly.2.1] at h'
   cases h'
  have hnone : H' ex = none := by
   cases e : H' ex with
   | none => rfl
   | some o' =>
    obtain ⟨o2,h2⟩ := hH ex o' e
    rw [fly.2.1] at h2
    cases h2
  have IS := I2.suite ex
  refine wpAny_handleBy_cons (codeAny_handlers_test (e9 IS hg hmg ?_ hdb)) (by intro z; cases z)
  have LT : Looks (model X.prog X.w) s2.heap (typeOf (.ref ex)) cls := by
   have this : Looks (model X.prog X.w) s2.heap (typeOf (.ref ex)) oe.cls := (Looks.ld g1).andThen .now
   rw [g2.1] at this
   exact this
  refine (exm_one I2.e6 LT hcls).here ?_
  refine codeAny_handlers_suite_as (C9 fly dc fun h6 Fs Ya Ky => ?_)
  have I6 := again h6 Fs Ya
  obtain ⟨Yb,vs6,T6,oT6,ts6,k1,k2,k3,_⟩ := Fs.2.2.2
  obtain ⟨oe7,k4,k5⟩ := Ky
  cases k1.symm.trans k4
  have I7 := I6.Df (cls := cls) (od := od) hnone (by
   cases e : X.s₀.heap.get? ex with
   | none => rfl
   | some o' =>
    obtain ⟨o2,h2⟩ := I1.base.there ex o' e (by rw [hex]; simp)
    exact absurd rfl (apart h2)) (fun z => Wi (by
     rw [hst,z,X8]
     unfold frs
     rw [List.filterMap_cons,hL]
     simp)) (fun y c e => by
    obtain ⟨v,oc,hc,_⟩ := I1.cell y c e
    exact apart hc) (fun p hp => apart (I1.pin p hp).1) ⟨Yb,k1,k2.1,by unfold notCls; rw [k3],k5⟩
  refine ke I7 hN hi (.inl hn) (v := .ref ex) (u := .ref ex) rfl (fun s8 I8 => ?_) (.inr hn)
  refine wpAny_mono (hs ex pins s8 _ _ _ (I8.suite ex) (hsuite ex hnone)) (fun fl s9 q9 => ?_) fun _ _ z => False.elim z
  show wpAny _ _ _ _ _ _
  cases fl with
  | next =>
   obtain ⟨σ9,H9,I9,q⟩ := q9
   exact gZ (I9.j5 I.ok) hN hi hn fun zf wF => ⟨_,H9,wF,q⟩
  | brk =>
   obtain ⟨σ9,H9,I9,q⟩ := q9
   exact gZ (I9.j5 I.ok) hN hi hn fun zf wF => ⟨_,H9,wF,q⟩
  | cont =>
   obtain ⟨σ9,H9,I9,q⟩ := q9
   exact gZ (I9.j5 I.ok) hN hi hn fun zf wF => ⟨_,H9,wF,q⟩
  | ret u =>
   obtain ⟨v,σ9,H9,I9,r,q⟩ := q9
   exact gZ (I9.j5 I.ok) hN hi hn fun zf wF => ⟨v,_,H9,wF,r,q⟩
 ·
  obtain ⟨v',H2,I2,r2,q2⟩ := hv
  exact wpAny_execs_nil (wpAny_execs_nil ⟨σ,H2,I2,q2⟩)
end
section
variable {X : Cx} {C R fI : Addr} {Bn : String}
def Kz (C : Addr) (ta : TE) : TE := fun σ H Q => ta σ H fun x H1 => ∃ (ea d : Addr) (i : Int),x = .ref ea ∧ H1 ea = some (w8 ea (.ref C) (some d)) ∧ H1 d = some (.xd [("at",.int i)]) ∧ Q (.int i) H1
theorem Dg {o : Expr} {ta : TE} {pos : Pos} (c : fz X.K C R fI) (ha : PE X o ta) (hb : attributeBase o "at" X.env (eval o X.env) = eval o X.env := by rfl) : PE X (.Attribute o "at" pos) (Kz C ta) := by
 intro pins s σ H Q I h
 refine sI hb (bO (ha pins s σ H _ I h) fun u s1 ⟨x,H1,I1,r1,ea,d,i,ex,he,hd,q⟩ => ?_)
 subst ex
 obtain rfl : u = Value.ref ea := r1
 obtain ⟨ob,h1,h2,h3,h4⟩ := (I1.hok ea _ he).1
 obtain ⟨mA,ns,rl⟩ := (show bz X.prog X.w H1 s1.heap d (.xd [("at",.int i)]) from I1.hok d _ hd)
 have ra := rl "at"
 rw [List.lookup_cons_self] at ra
 cases hv : mA "at" with
 | none => rw [hv] at ra; exact False.elim ra
 | some v =>
  rw [hv] at ra
  obtain ⟨tk,rfl⟩ := (show ∃ tk,v = Value.int i tk from ra)
  exact Dd c I1.e6 h1 h2 h3 h4 ns hv rfl ⟨.int i,H1,I1.tok _,⟨_,rfl⟩,q⟩
end
section
variable {X : Cx}
end
section
variable {X : Cx} {k : Nat} {f cR : Addr} {fd : FuncData} {ps : List Str} {sp : Sp} {iI : List V} {ds : List Value} {x n : Str} {np p3 p4 : Pos} {t : TA} {ts : TS} {i : Nat} {st b₀ : Stmt} {suite : List Stmt} {L : Addr} {r : V → TS}
end
end L2
namespace L2
open PySem PySem.Spec PyProof.Rows
theorem zZ {f : Nat → Bool} : ∀ (bs : List Bool),(∀ i b,bs[i]? = some b → f i = b) → (List.range bs.length).all f = bs.all id := by
 intro bs h
 rw [Bool.eq_iff_iff,List.all_eq_true,List.all_eq_true]
 constructor
 ·intro k b hb
  obtain ⟨i,hi,e⟩ := List.getElem_of_mem hb
  have := k i (List.mem_range.mpr hi)
  rw [h i b (by rw [List.getElem?_eq_getElem hi,e])] at this
  exact this
 ·intro k i hi
  have hi := List.mem_range.mp hi
  rw [h i bs[i] (List.getElem?_eq_getElem hi)]
  exact k _ (List.getElem_mem hi)
section
variable {X : Cx}
theorem Ft {bs : List Bool} {its : List Value} (rv : Vals (bs.map V.bl) its) {i : Nat} {v : Value} (h : its.toArray[i]? = some v) : ∃ b,bs[i]? = some b ∧ v = .bool b := by
 have h : its[i]? = some v := by simpa using h
 have hl := rv.length
 rw [List.length_map] at hl
 have hi : i < bs.length := by
  rw [hl]
  exact (List.getElem?_eq_some_iff.mp h).1
 obtain ⟨u,hu,ru⟩ := rv.get (i := i) (x := V.bl bs[i]) (by rw [List.getElem?_map,List.getElem?_eq_getElem hi]; rfl)
 rw [h] at hu
 cases hu
 exact ⟨bs[i],List.getElem?_eq_getElem hi,ru⟩
theorem jv (hc : X.calm = true) : eI X (.builtin "all") (fun xs H Q => ∃ (a : Addr) (bs : List Bool),xs = [.ref a] ∧ aZ X.K H a (bs.map V.bl) ∧ Q (.bl (bs.all id)) H) := by
 intro pins s σ H xs us Q I r h
 obtain ⟨a,bs,rfl,hq,q⟩ := h
 obtain ⟨u,rfl,ru⟩ := vals1 r
 cases ru
 obtain ⟨its,rv,p,hz⟩ := I.list hq
 have hl := p.isList
 have hlt : a < s.heap.objs.size := by obtain ⟨_,e,_⟩ := hl; exact Heap.lt_size e
 have hlen := rv.length
 rw [List.length_map] at hlen
 refine call_all_walk (wpAny_pyIter_list hl ?_)
 refine ⟨s.heap.objs.size,[s.heap.objs.size,a],[s.heap.objs.size],its.toArray.size,_,_,fun i => (bs[i]?).getD true,rfl,Walks.list (A := X.A.in1) (I.ok.hd hc) _ a (Nat.ne_of_lt hlt) its.toArray,
  ⟨⟨_,Heap.get?_push_size _ rfl,rfl,rfl⟩,hl.push _⟩,fun i v s' Q' E' hP hQ => ?_,fun h' tk hk => ?_⟩
 ·obtain ⟨b,e,rfl⟩ := Ft rv hP
  simp only [e,Option.getD_some] at hQ
  exact wpAny_truthy_bool hQ
 ·rw [List.size_toArray,← hlen,zZ bs (fun i b e => by rw [e]; rfl)]
  exact ⟨.bl _,H,I.kept (t' := tk) (fun b x e => hk b x (fun hm => by rw [List.mem_singleton.mp hm] at e; exact Nat.lt_irrefl _ (Heap.lt_size e)) (Heap.get?_push_of_some _ e)),rfl,q⟩
end
section
variable {prog : Program} {w : World} {A : Around} {E : Value → Shared → Prop} {s : Shared}
end
section
variable {prog : Program} {w : World} {A : Around} {E : Value → Shared → Prop} {s : Shared}
end
section
variable {X : Cx}
end
theorem eV {K : PySem.W.Frag} {a : Addr} {xs : List V} {g : TG} {tt : TT} {te : TE} {R : Hp → Prop} {D : Addr} {σ0 : St} {H0 : Hp} (Pv : Nat → St → List V → Hp → Prop) (h0 : Pv 0 σ0 [] H0) (hl : ∀ i σ ys H,i ≤ xs.length → Pv i σ ys H → bX K H a xs)
  (hs : ∀ i x σ ys H,xs[i]? = some x → Pv i σ ys H → g x σ H fun σ2 H2 => tt σ2 H2 fun b H3 =>
   if b = true then te σ2 H3 fun v H4 => H4 D = some (.lst ys) ∧ ys.length < sizeLine ∧ Pv (i + 1) σ2 (ys ++ [v]) (upd H4 D (.lst (ys ++ [v]))) else Pv (i + 1) σ2 ys H3)
  (hd : ∀ σ ys H,Pv xs.length σ ys H → R H) :
  ∃ W : Nat → Nat → St → List V → Hp → Prop,(∃ m,W 0 m σ0 [] H0) ∧ ∀ i m σ ys H,W i m σ ys H →
   ((BD K a).stop i H ∧ R H) ∨ ((BD K a).go i H ∧ ∃ N : St → List V → Hp → Prop,(∀ σ' ys' H',N σ' ys' H' → ∃ m',m' < m ∧ W (i + 1) m' σ' ys' H') ∧ ∀ x H',(BD K a).vH i H x H' → g x σ H' fun σ2 H2 => tt σ2 H2 fun b H3 =>
    if b = true then te σ2 H3 fun v H4 => H4 D = some (.lst ys) ∧ ys.length < sizeLine ∧ N σ2 (ys ++ [v]) (upd H4 D (.lst (ys ++ [v]))) else N σ2 ys H3) := by
 refine ⟨fun i m σ ys H => m = xs.length - i ∧ i ≤ xs.length ∧ Pv i σ ys H,⟨xs.length,by simp,Nat.zero_le _,h0⟩,?_⟩
 rintro i m σ ys H ⟨rfl,hi,p⟩
 have q := hl i σ ys H hi p
 by_cases hlt : i < xs.length
 ·refine .inr ⟨⟨xs,xs[i],q,by simp [hlt]⟩,Pv (i + 1),fun σ' ys' H' p' => ⟨xs.length - (i + 1),by omega,rfl,hlt,p'⟩,fun x H' y => ?_⟩
  obtain ⟨e,y⟩ := y
  subst e
  exact hs i x σ ys _ (y xs q) p
 ·have e : i = xs.length := by omega
  subst e
  exact .inl ⟨⟨xs,q,Nat.le_refl _⟩,hd σ ys H p⟩
end L2
namespace SF
open PySem PySem.Calls PyProof.Rows
section
variable {prog : Program} {w : World} {A : Around} {E : Value → Shared → Prop} {s : Shared}
set_option maxHeartbeats 8000000 in
theorem u5 {l : Addr} {items : Array Value} {ns : List Int} {Q : Value → Shared → Prop} (hh : A.handled = none) (hl : s.heap.IsTuple l items) (hi : IntsAre items.toList ns) (hb : items.size + 1 < scanBound)
  (h : ∀ (h' : Heap) (tk : Nat) (us : List Int),ft prog w h' s.heap.objs.size us → us.length ≤ ns.length → (∀ j,j ∈ us ↔ j ∈ ns) → (∀ b o,b < s.heap.objs.size → s.heap.get? b = some o → h'.get? b = some o) → Q (.ref s.heap.objs.size) { s with heap := h',toks := tk }) :
  wpAny (model prog w) A (call (.type "set") [.ref l]) Q E s := by
 obtain ⟨c,tl,hmro⟩ := PySem.F.called_set.mro
 have hmade := PySem.F.called_set.made
 have hsub := PySem.F.called_set.sub
 refine wpAny_call (codeAny_of_tree ?_)
 show wpAny _ _ (callAny (.type "set") _) _ _ _
 refine wpAny_pure ⟨Code.quiet_builtin _ (by decide +kernel),codeAny_builtin PySem.F.entry_type_call ?_⟩
 rw [Around.under_plain (weight_type_call_type "set" [.ref l] []) rfl]
 have h1 := PySem.F.called_set.notType
 have h2 := PySem.F.called_set.canCreate
 have hct := PySem.F.typeCall_set_1 (.ref l)
 generalize lU : (!w.params.followText "set-order") = led
 repeat (any_goals (first | assumption | wp_step))
 refine codeAny_mono (sY (prog := prog) (w := w) (.ref l) (E := E) (Q₁ := fun obj s₁ => obj = .ref s.heap.objs.size ∧ s₁ = { s with heap := s.heap.push { cls := .type "set",dict := none,data := .set #[] 0 (.fresh 0 0 led) } }) (by rw [lU]; exact ⟨rfl,rfl⟩)) fun r s₁ hr => ?_
 have Km : w.params.followText "set-order" = true ∨ led = true := by
  cases q : w.params.followText "set-order" with
  | true => exact .inl rfl
  | false => rw [q] at lU; exact .inr lU.symm
 cases r with
 | error e => exact hr
 | ok fl =>
  cases fl with
  | next => exact hr.elim
  | brk => exact hr.elim
  | cont => exact hr.elim
  | ret obj =>
   obtain ⟨rfl,rfl⟩ := hr
   have hS : (s.heap.push { cls := .type "set",dict := none,data := .set #[] 0 (.fresh 0 0 led) }).get? s.heap.objs.size = some { cls := .type "set",dict := none,data := .set #[] 0 (.fresh 0 0 led) } := Heap.get?_push_size _ rfl
   have hT : Shared.TypeIs { s with heap := s.heap.push { cls := .type "set",dict := none,data := .set #[] 0 (.fresh 0 0 led) } } (.ref s.heap.objs.size) "set" := ⟨_,hS,rfl⟩
   have hli := PySem.F.called_set.init.lookup
   have hbi := PySem.F.called_set.init.bind (.ref s.heap.objs.size)
   repeat (any_goals (first | assumption | wp_step))
   refine codeAny_mono (codeAny_call_builtin (R := wants (fun r s₂ => r = .none ∧ ∃ h' tk us,s₂ = { s with heap := h',toks := tk } ∧ ft prog w h' s.heap.objs.size us ∧ us.length ≤ ns.length ∧ (∀ j,j ∈ us ↔ j ∈ ns) ∧
     (∀ b o,b < s.heap.objs.size → s.heap.get? b = some o → h'.get? b = some o)) E) PySem.F.called_set.init.plain PySem.F.entry_set_init (check_set_init_1 hT ?_)) fun r₂ s₂ hr₂ => ?_
   ·obtain ⟨ol,hol,hcl,nl,hdl⟩ := hl
    obtain ⟨ocls,odict,odata,oslots⟩ := ol
    simp only at hcl hdl
    subst hcl; subst hdl
    have hol' : (s.heap.push { cls := .type "set",dict := none,data := .set #[] 0 (.fresh 0 0 led) }).get? l = some { cls := .type "tuple",dict := odict,data := .seq items nl,slots := oslots } := Heap.get?_push_of_some _ hol
    have hsls := PySem.F.sub_tuple_set
    have hslf := PySem.F.sub_tuple_frozenset
    have hne : (Value.type "tuple" == Value.type "dict") = false := by decide
    have hl1 : (s.heap.push { cls := .type "set",dict := none,data := .set #[] 0 (.fresh 0 0 led) }).IsTuple l items := ⟨_,hol',rfl,nl,rfl⟩
    unfold Builtin.«set.__init__» noKeywords Builtin.Frozenset.updateFrom
    generalize hPI : pyIter = PI
    wp_walk
    subst hPI
    refine wpAny_pyIter_tuple hl1 ?_
    refine wpAny_bind (wpAny_runValue ?_)
    have hlS : l < s.heap.objs.size := Heap.lt_size hol
    have hh3 : A.in1.in1.in1.handled = none := by simp [hh]
    have hneI : l ≠ (s.heap.push { cls := .type "set",dict := none,data := .set #[] 0 (.fresh 0 0 led) }).objs.size := by
     rw [Heap.size_push]; exact Nat.ne_of_lt (Nat.lt_succ_of_lt hlS)
    have hSf : s.heap.objs.size ∉ [(s.heap.push { cls := .type "set",dict := none,data := .set #[] 0 (.fresh 0 0 led) }).objs.size,l] := by
     rw [Heap.size_push]; simp only [List.mem_cons,List.mem_singleton,List.not_mem_nil,or_false,not_or]
     exact ⟨Nat.ne_of_lt (Nat.lt_succ_self _),Nat.ne_of_gt hlS⟩
    have hval : ∀ (i : Nat) (v : Value),items[i]? = some v → ∃ t,v = .int ((fun i => ns.getD i 0) i) t := fun i v hv =>
     IntsAre.int_at hi i v (by rw [Array.getElem?_toList]; exact hv)
    have hnl : ns.length = items.size := by rw [← IntsAre.length hi,Array.length_toList]
    refine jN ((Walks.tuple hh3 _ l hneI items).toS) s.heap.objs.size hSf (fun i => ns.getD i 0) hval hb (items.size - 0) 0 _ [] (by omega) (Nat.zero_le _)
     ⟨⟨_,Heap.get?_push_size _ rfl,rfl,rfl⟩,(hl1.push _)⟩ ?hS0 (Nat.zero_le _) (fun j => by simp) ?hR
    case hS0 =>
     have hget : ((s.heap.push { cls := .type "set",dict := none,data := .set #[] 0 (.fresh 0 0 led) }).push { cls := .type "tuple_iterator",data := .fields #[.ref l,.int 0 0] }).get? s.heap.objs.size
       = some { cls := .type "set",dict := none,data := .set #[] 0 (.fresh 0 0 led) } := Heap.get?_push_of_some _ hS
     exact ⟨#[],0,.fresh 0 0 led,⟨_,hget,⟨rfl,rfl,rfl⟩,rfl⟩,by rfl,⟨rfl,fun _ i k _ hk => by simp [SetTable.fresh] at hk⟩,Km,fun e he => by simp at he,.nil,List.nodup_nil⟩
    case hR =>
     intro s' us hm hS' hlen hmem
     obtain ⟨h',g',d',tk',os'⟩ := s'
     have eg : g' = s.gens := hm.gens
     have ed : d' = s.drawn := hm.drawn
     have eo : os' = s.os := hm.os
     subst eg; subst ed; subst eo
     show wpAny _ _ _ _ _ _
     refine wpAny_pure ?_
     show wpAny _ _ (ret Value.none) _ _ _
     refine wpAny_pure ⟨rfl,h',tk',us,rfl,hS',by omega,fun j => ?_,fun b o hb e => ?_⟩
     ·rw [hmem]
      constructor
      ·rintro ⟨m,h1,h2⟩
       have hm' : m < ns.length := by omega
       rw [← h2]
       show ns.getD m 0 ∈ ns
       rw [List.getD_eq_getElem?_getD,List.getElem?_eq_getElem hm']
       exact List.getElem_mem hm'
      ·intro hj
       obtain ⟨m,hm',e⟩ := List.getElem_of_mem hj
       refine ⟨m,by omega,?_⟩
       show ns.getD m 0 = j
       rw [List.getD_eq_getElem?_getD,List.getElem?_eq_getElem hm']
       exact e
     have hb1 : b ≠ s.heap.objs.size := Nat.ne_of_lt hb
     have hb2 : b ≠ (s.heap.push { cls := .type "set",dict := none,data := .set #[] 0 (.fresh 0 0 led) }).objs.size := by
      rw [Heap.size_push]; exact Nat.ne_of_lt (Nat.lt_succ_of_lt hb)
     exact hm.heap b o (by simp only [List.mem_cons,List.mem_singleton,List.not_mem_nil,or_false,not_or]; exact ⟨hb1,hb2⟩) (Heap.get?_push_of_some _ (Heap.get?_push_of_some _ e))
   ·cases r₂ with
    | error e => exact hr₂
    | ok fl₂ =>
     cases fl₂ with
     | ret r =>
      obtain ⟨rfl,h',tk,us,rfl,hS',h1',h2',hk'⟩ := hr₂
      repeat (any_goals (first | assumption | wp_step))
      exact h _ _ us hS' h1' h2' hk'
     | _ => exact hr₂.elim
end
end SF
namespace L2
open PySem PySem.Spec PyProof.Rows
section
variable {X : Cx}
theorem xh {h : Heap} {a : Addr} {its : Array Value} (x : IsTup h a its) : h.IsTuple a its := by
 obtain ⟨o,ho,hc,n,hd⟩ := x
 exact ⟨o,ho,hc,n,hd⟩
theorem oO (hc : X.calm = true) : eI X (.type "set") (fun xs H Q => ∃ (p : Addr) (ns : List Int),xs = [.ref p] ∧ bX X.K H p (ns.map V.int) ∧ ns.length < 4000 ∧ ∀ (l : Addr) (us : List Int),H l = none → us.length ≤ ns.length → us.Nodup → (∀ j,j ∈ us ↔ j ∈ ns) → Q (.ref l) (upd H l (iV X.prog X.w l us))) := by
 intro pins s σ H xs Kn Q I r h
 obtain ⟨p,ns,rfl,hp,hz,q⟩ := h
 obtain ⟨u,rfl,ru⟩ := vals1 r
 cases ru
 obtain ⟨its,hv,pl,_⟩ := I.tuple hp
 have hi := intsAre_of hv
 have hl : its.length = ns.length := IntsAre.length hi
 refine SF.u5 (I.ok.hd hc) (items := its.toArray) (ns := ns) (xh pl) (by simpa using hi) (by rw [List.size_toArray,hl]; unfold scanBound; omega) fun h' tk us hS h1 h2 hk => ?_
 have hn : us.Nodup := by obtain ⟨_,_,_,_,_,_,_,_,_,hn⟩ := hS; exact hn
 refine ⟨.ref s.heap.objs.size,upd H s.heap.objs.size (iV X.prog X.w s.heap.objs.size us),I.laid (fun b o e => hk b o (Heap.lt_size e) e) (Nat.le_refl _) ?_,rfl,q _ us I.fresh h1 hn h2⟩
 exact ⟨hS,kO hS,fun h1 h2 x e => SF.ft.at x e⟩
end
def lW (f : Int → Int) (j v : Int) : Int → Int := fun i => if i = j then v else f i
structure Rep (d : List (Key × V)) (f : Int → Int) : Prop where
 isI : ∃ kvs : List (Int × Int),d = iD kvs ∧ (kvs.map (·.1)).Nodup
 val : ∀ j,(cC d (Sum.inl j)).getD (.int 0) = .int (f j)
theorem Rep.nil : Rep [] (fun _ => 0) := ⟨⟨[],rfl,List.nodup_nil⟩,fun _ => rfl⟩
theorem oP {kvs : List (Int × Int)} {j : Int} : ∀ {x : V},cC (iD kvs) (Sum.inl j) = some x → ∃ v,x = .int v ∧ (j,v) ∈ kvs := by
 induction kvs with
 | nil => intro x h; cases h
 | cons p r ih =>
  intro x h
  by_cases e : p.1 = j
  ·have : (Sum.inl p.1 : Key) = Sum.inl j := by rw [e]
   rw [show iD (p :: r) = (Sum.inl p.1,V.int p.2) :: iD r from rfl,cw this] at h
   have h := Option.some.inj h
   exact ⟨p.2,h.symm,by rw [← e]; simp⟩
  ·have : ¬ (Sum.inl p.1 : Key) = Sum.inl j := fun z => e (Sum.inl.inj z)
   rw [show iD (p :: r) = (Sum.inl p.1,V.int p.2) :: iD r from rfl,cy this] at h
   obtain ⟨v,a,b⟩ := ih h
   exact ⟨v,a,by simp [b]⟩
theorem lf {j v : Int} : ∀ {kvs : List (Int × Int)},(kvs.map (·.1)).Nodup → (j,v) ∈ kvs → cC (iD kvs) (Sum.inl j) = some (.int v)
 | [],_,h => by simp at h
 | p :: r,hn,h => by
  rw [List.map_cons,List.nodup_cons] at hn
  rcases List.mem_cons.mp h with e | h
  ·rw [show iD (p :: r) = (Sum.inl p.1,V.int p.2) :: iD r from rfl,cw (by rw [← e])]
   rw [← e]
  ·have ne : ¬ (Sum.inl p.1 : Key) = Sum.inl j := fun z => hn.1 (by rw [Sum.inl.inj z]; exact List.mem_map.mpr ⟨_,h,rfl⟩)
   rw [show iD (p :: r) = (Sum.inl p.1,V.int p.2) :: iD r from rfl,cy ne]
   exact lf hn.2 h
theorem Dh {kvs : List (Int × Int)} {j v : Int} (hn : (kvs.map (·.1)).Nodup) : ∃ kvs',putK (iD kvs) (Sum.inl j) (.int v) = iD kvs' ∧ (kvs'.map (·.1)).Nodup ∧ kvs'.length ≤ kvs.length + 1 ∧ (v ≠ 0 → (∀ p ∈ kvs,p.2 ≠ 0) → ∀ p ∈ kvs',p.2 ≠ 0) := by
 by_cases h : cC (iD kvs) (Sum.inl j : Key) = none
 ·refine ⟨kvs ++ [(j,v)],?_,?_,by simp,fun hv hz p hp => ?_⟩
  ·rw [ko _ h]
   simp [iD]
  ·rw [List.map_append,List.nodup_append]
   refine ⟨hn,by simp,fun a ha b hb e => ?_⟩
   have hb : b = j := by simpa using hb
   subst hb
   have := wC h
   apply this
   obtain ⟨p,hp,rfl⟩ := List.mem_map.mp ha
   exact List.mem_map.mpr ⟨(Sum.inl p.1,.int p.2),List.mem_map.mpr ⟨p,hp,rfl⟩,by rw [e]⟩
  ·rcases List.mem_append.mp hp with hp | hp
   ·exact hz p hp
   ·rw [List.mem_singleton.mp hp]
    exact hv
 ·refine ⟨kvs.map fun p => if p.1 = j then (p.1,v) else p,?_,?_,by simp,fun hv hz p hp => ?_⟩
  ·unfold putK
   rw [d9,if_pos (by cases e : cC (iD kvs) (Sum.inl j : Key) with | none => exact absurd e h | some _ => rfl)]
   unfold iD
   rw [List.map_map,List.map_map]
   refine List.map_congr_left fun p _ => ?_
   show (if (Sum.inl p.1 : Key) = Sum.inl j then ((Sum.inl p.1 : Key),V.int v) else (Sum.inl p.1,V.int p.2)) = (Sum.inl (if p.1 = j then (p.1,v) else p).1,V.int (if p.1 = j then (p.1,v) else p).2)
   by_cases e : p.1 = j
   ·rw [if_pos (by rw [e]),if_pos e]
   ·rw [if_neg (fun z => e (Sum.inl.inj z)),if_neg e]
  ·rw [List.map_map]
   have : ((fun p : Int × Int => p.1) ∘ fun p => if p.1 = j then (p.1,v) else p) = fun p => p.1 := by
    funext p
    show (if p.1 = j then (p.1,v) else p).1 = p.1
    split <;> rfl
   rw [this]
   exact hn
  ·obtain ⟨q,hq,rfl⟩ := List.mem_map.mp hp
   by_cases e : q.1 = j
   ·rw [if_pos e]; exact hv
   ·rw [if_neg e]; exact hz q hq
theorem Rep.put {d : List (Key × V)} {f : Int → Int} (r : Rep d f) (j v : Int) : Rep (putK d (Sum.inl j) (.int v)) (lW f j v) := by
 obtain ⟨⟨kvs,rfl,hn⟩,hv⟩ := r
 obtain ⟨kvs',e,hn',_⟩ := Dh (j := j) (v := v) hn
 refine ⟨⟨kvs',e,hn'⟩,fun i => ?_⟩
 rw [pS]
 unfold lW
 by_cases h : i = j
 ·rw [if_pos (by rw [h]),if_pos h]
  rfl
 ·rw [if_neg (fun z => h (Sum.inl.inj z)),if_neg h]
  exact hv i
structure NZ (d : List (Key × V)) (f : Int → Int) : Prop where
 rep : Rep d f
 nz : ∀ k v,(k,v) ∈ d → v ≠ .int 0
theorem rM : ∀ (a b : List Int),a.Nodup → (∀ x ∈ a,x ∈ b) → a.length ≤ b.length
 | [],_,_,_ => Nat.zero_le _
 | x :: a,b,hn,h => by
  rw [List.nodup_cons] at hn
  have hx := h x (by simp)
  have := rM a (b.erase x) hn.2 fun y hy => (List.mem_erase_of_ne (show y ≠ x from fun e => hn.1 (by rw [← e]; exact hy))).mpr (h y (by simp [hy]))
  rw [List.length_erase_of_mem hx] at this
  have : 0 < b.length := List.length_pos_of_mem hx
  simp only [List.length_cons]
  omega
theorem NZ.sub {d e : List (Key × V)} {f : Int → Int} (a : NZ d f) (b : NZ e f) : ∃ ka kb,d = iD ka ∧ e = iD kb ∧ ka.length = kb.length ∧ ∀ c ∈ ka,c ∈ kb := by
 obtain ⟨⟨⟨ka,rfl,na⟩,va⟩,za⟩ := a
 obtain ⟨⟨⟨kb,rfl,nb⟩,vb⟩,zb⟩ := b
 have sub : ∀ {ka kb : List (Int × Int)},(ka.map (·.1)).Nodup → (kb.map (·.1)).Nodup → (∀ j,(cC (iD ka) (Sum.inl j)).getD (.int 0) = .int (f j)) → (∀ j,(cC (iD kb) (Sum.inl j)).getD (.int 0) = .int (f j)) → (∀ k v,(k,v) ∈ iD ka → v ≠ .int 0) → ∀ c ∈ ka,c ∈ kb := by
  intro ka kb na nb va vb za c hc
  have h1 := lf na (show (c.1,c.2) ∈ ka from hc)
  have h2 := va c.1
  rw [h1] at h2
  have h3 : c.2 = f c.1 := V.int.inj h2
  have h4 : c.2 ≠ 0 := fun z => za (Sum.inl c.1) (.int c.2) (List.mem_map.mpr ⟨c,hc,rfl⟩) (by rw [z])
  have h5 := vb c.1
  cases e : cC (iD kb) (Sum.inl c.1 : Key) with
  | none =>
   rw [e] at h5
   exact absurd (V.int.inj h5) (fun z => h4 (by rw [h3,← z]))
  | some x =>
   rw [e] at h5
   obtain ⟨v,rfl,hm⟩ := oP e
   have h6 : v = f c.1 := V.int.inj h5
   rw [h6,← h3] at hm
   exact hm
 refine ⟨ka,kb,rfl,rfl,?_,sub na nb va vb za⟩
 have l1 := rM (ka.map (·.1)) (kb.map (·.1)) na fun x hx => by
  obtain ⟨c,hc,rfl⟩ := List.mem_map.mp hx
  exact List.mem_map.mpr ⟨c,sub na nb va vb za c hc,rfl⟩
 have l2 := rM (kb.map (·.1)) (ka.map (·.1)) nb fun x hx => by
  obtain ⟨c,hc,rfl⟩ := List.mem_map.mp hx
  exact List.mem_map.mpr ⟨c,sub nb na vb va zb c hc,rfl⟩
 rw [List.length_map,List.length_map] at l1 l2
 omega
end L2
namespace L2
open PySem PySem.W PySem.Spec PySem.Calls PyProof.Rows
section
variable {X : Cx} {pins : List (Addr × Obj)} {σ : St} {H : Hp} {s : Shared}
theorem qh (hu : X.A.units < cLine) (I : Inv X pins σ H s) {p q : Addr} {xs ys : List V} (hp : H p = some (.lst xs)) (hq : H q = some (.lst ys)) (hl : xs.length = ys.length)
  (he : ∀ (i : Nat) a b u v,xs[i]? = some a → ys[i]? = some b → RelV a u → RelV b v → SeqAt.EqAt X.A.in1 s u v true) : SeqAt.RcNeAt X.A s (.ref p) (.ref q) false := by
 obtain ⟨i1,r1,t1,_⟩ := I.list (aZ.of hp)
 obtain ⟨i2,r2,t2,_⟩ := I.list (aZ.of hq)
 have l1 := r1.length
 have l2 := r2.length
 have key : SeqAt.RcNeAt X.A s (.ref p) (.ref q) (!(List.range i1.toArray.size).all fun _ => true) := by
  refine SeqAt.RcNeAt.lists t1.isList t2.isList (by simp; omega) hu fun j h1 h2 => ?_
  have j1 : j < xs.length := by simp at h1; omega
  have j2 : j < ys.length := by simp at h2; omega
  have z1 : xs[j]? = some xs[j] := List.getElem?_eq_getElem j1
  have z2 : ys[j]? = some ys[j] := List.getElem?_eq_getElem j2
  obtain ⟨u1,w1,q1⟩ := r1.get z1
  obtain ⟨u2,w2,q2⟩ := r2.get z2
  have e1 : i1.toArray[j] = u1 := by
   have : i1[j]? = some i1[j] := List.getElem?_eq_getElem (by omega)
   rw [this] at w1
   simpa using w1
  have e2 : i2.toArray[j] = u2 := by
   have : i2[j]? = some i2[j] := List.getElem?_eq_getElem (by omega)
   rw [this] at w2
   simpa using w2
  rw [e1,e2]
  exact he j _ _ _ _ z1 z2 q1 q2
 rw [all_true] at key
 exact key
def KA : R2 := fun x y H Q => D7 H x y ∧ Q (.bl false) H
theorem gw (hu : X.A.units + 2 < cLine) : iL X (compareOp .NotEq) KA := by
 intro pins s σ H x y v u Q I rx ry h
 obtain ⟨h,k⟩ := h
 rcases h with ⟨rfl,hs⟩ | ⟨p,q,xs,rfl,rfl,hp,hq,hs⟩ | ⟨p,q,xs,rfl,rfl,hp,hq,hs⟩ | ⟨p,q,xs,ys,rfl,rfl,hp,hq,hl,hs⟩ | ⟨p,q,ka,kb,rfl,rfl,hp,hq,hl,hs⟩
 ·rcases hs with rfl | ⟨i,rfl⟩ | ⟨t,rfl⟩
  ·exact pO pins s σ H .non .non v u Q I rx ry ⟨rfl,k⟩
  ·exact pO pins s σ H (.int i) (.int i) v u Q I rx ry ⟨rfl,by simpa using k⟩
  ·exact pO pins s σ H (.str t) (.str t) v u Q I rx ry ⟨rfl,by simpa using k⟩
 ·cases rx
  cases ry
  obtain ⟨_,i1,r1,t1⟩ := (show bz X.prog X.w H s.heap p (.tup xs) from I.hok p _ hp)
  obtain ⟨_,i2,r2,t2⟩ := (show bz X.prog X.w H s.heap q (.tup xs) from I.hok q _ hq)
  have l1 := r1.length
  have l2 := r2.length
  have key := SeqAt.RcNeAt.tuples (A := X.A) (s := s) (e := fun _ => true) t1 t2 (by omega) fun j h1 h2 => by
   have j1 : j < xs.length := by simp at h1; omega
   have z1 : xs[j]? = some xs[j] := List.getElem?_eq_getElem j1
   obtain ⟨u1,w1,q1⟩ := r1.get z1
   obtain ⟨u2,w2,q2⟩ := r2.get z1
   have e1 : i1.toArray[j] = u1 := by
    have : i1[j]? = some i1[j] := List.getElem?_eq_getElem (by omega)
    rw [this] at w1
    simpa using w1
   have e2 : i2.toArray[j] = u2 := by
    have : i2[j]? = some i2[j] := List.getElem?_eq_getElem (by omega)
    rw [this] at w2
    simpa using w2
   rw [e1,e2]
   exact oH (hs _ (List.getElem_mem j1)) q1 q2
  rw [all_true] at key
  have e3 : (!(true && i1.toArray.size == i2.toArray.size)) = false := by simp; omega
  rw [e3] at key
  exact key _ _ _ _ ⟨.bl false,H,I,rfl,k⟩
 ·cases rx
  cases ry
  exact qh (by omega) I hp hq rfl (fun i a b u v ha hb r1 r2 => by rw [ha] at hb; cases hb; exact oH (hs a (List.mem_of_getElem? ha)) r1 r2) _ _ _ _ ⟨.bl false,H,I,rfl,k⟩
 ·cases rx
  cases ry
  exact qh (by omega) I hp hq hl (fun i a b u v ha hb r1 r2 => C2 (A := X.A.in1) (by show X.A.units + 1 < cLine; omega) I (hs i a b ha hb) r1 r2) _ _ _ _ ⟨.bl false,H,I,rfl,k⟩
 ·cases rx
  cases ry
  obtain ⟨_,y1,vs1,r1,d1⟩ := sQ I.hok hp
  obtain ⟨_,y2,vs2,r2,d2⟩ := sQ I.hok hq
  obtain ⟨ua,da,na,va⟩ := int_dict r1 d1 X.prog X.w
  obtain ⟨ub,db,nb,vb⟩ := int_dict r2 d2 X.prog X.w
  have hnb : (ub.map (·.1)).Nodup := by
   obtain ⟨_,_,_,_,_,_,_,_,hn⟩ := db
   exact hn
  have la : ua.length = ka.length := by have := congrArg List.length na; simpa using this
  have lb : ub.length = kb.length := by have := congrArg List.length nb; simpa using this
  refine keq_ne y1 y2 da db (by omega) (r := true) (fun _ => tj hnb vb ka ua la va hs) ?_
  have e3 : (ua.length == ub.length && true) = true := by simp; omega
  rw [e3]
  exact ⟨.bl false,H,I,rfl,k⟩
end
theorem oQ {X : Cx} : eI X (.type "dict") (fun xs H Q => ∃ (p : Addr) (kvs : List (Key × V)),xs = [.ref p] ∧ H p = some (.dK kvs) ∧ ∀ l,H l = none → Q (.ref l) (upd H l (.dK kvs))) := by
 intro pins s σ H xs Kn Q I r h
 obtain ⟨p,kvs,rfl,hp,q⟩ := h
 obtain ⟨u,rfl,ru⟩ := vals1 r
 cases ru
 exact wA I (.of hp) fun l s' hl I' => ⟨.ref l,_,I',rfl,q l hl⟩
end L2
namespace L2
open PySem PySem.Spec PyProof.Rows
structure j6 (sc scope : Scope) (N N' : List Str) (fr : List (Option Nat)) (y0 : Str) : Prop where
 kind : scope.kind = .function
 cf : ∀ n acc,cellsFrom n scope.names acc = (y0,n) :: acc
 pc : ∀ h : Heap,pushCells h scope.names = h.push { cls := .type "cell",data := .cell none }
 only : ∀ z ∈ scope.names,z.2 = .cell → z.1 = y0
 Yc : scope.names.lookup y0 = some .cell
 names : ∀ y ∈ scope.names,y.2 = .local → scope.names.lookup y.1 = some .local
 free : ∀ y ∈ scope.names,y.2 = .free → sc.names.lookup y.1 = some .cell
 nd : N'.Nodup
 fr : jq sc scope N N' fr = true
def dF (X : Cx) (scope : Scope) (C : Addr) (N' : List Str) (s₀ : Shared) (H₀ : Hp) (fp : List Addr) (y0 : Str) : Cx where
 prog := X.prog
 w := X.w
 K := X.K
 mg := X.mg
 base := X.base
 A := X.A
 N := N'
 s₀ := s₀
 H₀ := H₀
 env := compEnvC scope ((y0,C + 1) :: fq scope X.env) C X.env
 outer := X.stack
 stack := X.stack
 ex := fp
 calm := true
 fn := fun x => x == y0
 pn := []
 xe := fun _ _ => False
theorem Aa {M : Model} {A : Around} {E : Value → Shared → Prop} {s : Shared} {scope : Scope} {globals : Addr} {closure : List (Str × Addr)} {qual : Str} {outer : Env} {code : Value} {builtins : Addr} {Q : Env → Shared → Prop} {y0 : Str}
  (cf : ∀ n acc,cellsFrom n scope.names acc = (y0,n) :: acc) (pc : ∀ h : Heap,pushCells h scope.names = h.push { cls := .type "cell",data := .cell none })
  (hQ : ∀ h' : Heap,h' = (s.heap.push { cls := .type "dict",data := .dict #[] }).push { cls := .type "cell",data := .cell none } → h'.Ns s.heap.objs.size (fun _ => none) → h'.IsCell (s.heap.objs.size + 1) none → (∀ b o,s.heap.get? b = some o → h'.get? b = some o) →
   Q { scope,locals := s.heap.objs.size,globals,cells := (y0,s.heap.objs.size + 1) :: closure,qual,func := none,code := outer.code,frame := outer.frame,builtins := outer.builtins } { s with heap := h' }) :
  wpAny M A (newFunctionEnv scope globals closure [] qual none code (some outer) builtins) Q E s := by
 simp only [newFunctionEnv,Option.isSome_some,if_true]
 refine wpAny_bind (wpAny_alloc ?_)
 refine wpAny_bind (wpAny_layCells _ (fun name kind cells => by cases hkc : kind == NameKind.cell <;> simp [hkc]) _ _ _ _ ?_)
 rw [cf,pc]
 rw [show ({ s with heap := s.heap.push { cls := .type "dict",data := .dict #[] } } : Shared).heap.objs.size = s.heap.objs.size + 1 from Heap.size_push ..]
 refine wpAny_bind ?_
 rw [List.forIn_nil]
 refine wpAny_pure (wpAny_pure (hQ _ rfl ?_ ?_ ?_))
 ·exact (Heap.Ns.new s.heap (.type "dict")).keeps fun b o e => Heap.get?_push_of_some _ e
 ·have := Heap.get?_push_size (s.heap.push { cls := .type "dict",data := .dict #[] }) (o := { cls := .type "cell",data := .cell none }) rfl
  rw [Heap.size_push] at this
  exact ⟨_,this,rfl⟩
 ·intro b o e
  exact Heap.get?_push_of_some _ (Heap.get?_push_of_some _ e)
section
variable {X : Cx} {scope : Scope} {N' : List Str} {fr : List (Option Nat)} {pins : List (Addr × Obj)} {σ : St} {H : Hp} {s : Shared} {fp : List Addr} {y0 : Str}
theorem Inv.Di {h1 : Heap} {t1 : Nat} {m : Str → Option Value} (S : j6 X.env.scope scope X.N N' fr y0) (hc : X.calm = true) (I : Inv X pins σ H s) (hf : ∀ b ∈ fp,jh X pins H b) (hlt : ∀ b ∈ fp,b < s.heap.objs.size)
  (hns : h1.Ns s.heap.objs.size m) (old : ∀ b o,s.heap.get? b = some o → h1.get? b = some o) (hcell : h1.IsCell (s.heap.objs.size + 1) none) :
  Inv (dF X scope s.heap.objs.size N' s H fp y0) [] (kI fr σ) H { s with heap := h1,toks := t1 } := by
 have hfree : ∀ y ∈ scope.names,y.2 = .free → ∃ c,X.env.cells.lookup y.1 = some c := fun y hy e => I.ok.has y.1 (.inl (S.free y hy e))
 have cl1 : ∀ y c,(fq scope X.env).lookup y = some c → X.env.cells.lookup y = some c := fun y c e => by
  rcases kx (cs := []) hfree (PySem.mem_of_lookup e) with q | q
  ·exact absurd q (by simp)
  ·exact q
 have Fu : ∀ y,y ≠ y0 → ((relabel scope X.env).names.lookup y = some .cell ∨ (relabel scope X.env).names.lookup y = some .free) → ∃ c,(fq scope X.env).lookup y = some c := fun y hne hy => by
  have q : (y,NameKind.free) ∈ scope.names := by
   have m : ∃ k,(k = NameKind.cell ∨ k = NameKind.free) ∧ (y,k) ∈ (relabel scope X.env).names := by
    rcases hy with hy | hy
    ·exact ⟨_,.inl rfl,PySem.mem_of_lookup hy⟩
    ·exact ⟨_,.inr rfl,PySem.mem_of_lookup hy⟩
   obtain ⟨k,hk,m⟩ := m
   obtain ⟨⟨n,k0⟩,hm,e⟩ := List.mem_map.mp m
   dsimp only at e
   by_cases hq : (k0 == NameKind.free && X.env.scope.kind == .function && X.env.kindOf n == some .cell) = true
   ·rw [if_pos hq] at e
    simp only [Bool.and_eq_true,beq_iff_eq] at hq
    injection e with e1 e2
    rw [← e1,← hq.1.1]
    exact hm
   ·rw [if_neg hq] at e
    injection e with e1 e2
    subst e1 e2
    rcases hk with hk | hk
    ·exact absurd (S.only _ hm hk) hne
    ·rw [← hk]; exact hm
  obtain ⟨c,mc⟩ := kz (env := X.env) (cs := []) q
  exact iz mc
 have lk : ∀ {y c},List.lookup y ((y0,s.heap.objs.size + 1) :: fq scope X.env) = some c → (y = y0 ∧ c = s.heap.objs.size + 1) ∨ (y ≠ y0 ∧ (fq scope X.env).lookup y = some c) := fun {y c} e => by
  rw [List.lookup_cons] at e
  cases hy : y == y0 with
  | true => rw [hy] at e; exact .inl ⟨by simpa using hy,(Option.some.inj e).symm⟩
  | false => rw [hy] at e; exact .inr ⟨by simpa using hy,e⟩
 have Wj : ∀ {y},y ≠ y0 → List.lookup y ((y0,s.heap.objs.size + 1) :: fq scope X.env) = (fq scope X.env).lookup y := fun {y} hne => by
  rw [List.lookup_cons]
  have : (y == y0) = false := by simpa using hne
  rw [this]
 have has : ∀ y,((relabel scope X.env).names.lookup y = some .cell ∨ (relabel scope X.env).names.lookup y = some .free) → ∃ c,List.lookup y ((y0,s.heap.objs.size + 1) :: fq scope X.env) = some c := fun y hy => by
  by_cases hne : y = y0
  ·subst hne; exact ⟨s.heap.objs.size + 1,by rw [List.lookup_cons]; simp⟩
  ·rw [Wj hne]; exact Fu y hne hy
 have Kd : ∀ y c,X.env.cells.lookup y = some c → c < s.heap.objs.size := fun y c e => by
  obtain ⟨v,q⟩ := I.cell y c e
  exact q.lt
 refine ⟨⟨I.ok.mod,S.kind,I.ok.glob,I.ok.blt,Nat.le_refl _,fun x y c e1 e2 => (by
    rcases lk e1 with ⟨a1,b1⟩ | ⟨a1,b1⟩ <;> rcases lk e2 with ⟨a2,b2⟩ | ⟨a2,b2⟩
    ·rw [a1,a2]
    ·exact absurd (Kd _ _ (cl1 _ _ b2)) (by rw [b1]; exact Nat.not_lt.mpr (Nat.le_succ _))
    ·exact absurd (Kd _ _ (cl1 _ _ b1)) (by rw [b2]; exact Nat.not_lt.mpr (Nat.le_succ _))
    ·exact I.ok.inj x y c (cl1 x c b1) (cl1 y c b2)),has,fun x c e z => (by
    rcases lk z with ⟨a1,b1⟩ | ⟨a1,b1⟩
    ·rw [b1]; exact Nat.le_succ _
    ·have e : (x == y0) = true := e
     exact absurd (by simpa using e) a1),fun _ => I.ok.hd hc,I.ok.frames,.inl rfl,
   fun b hb => ⟨Nat.ne_of_lt (hlt b hb),fun x c e => (by
    rcases lk e with ⟨a1,b1⟩ | ⟨a1,b1⟩
    ·rw [b1]; exact Nat.ne_of_gt (Nat.lt_succ_of_lt (hlt b hb))
    ·exact (hf b hb).2.2.2.2.1 x c (cl1 x c b1))⟩,I.bs,Nat.le_trans I.ok.vG I.sz,fun b o e hb => ?_,fun b hb z => ?_,I.stack,I.iJ⟩,
  rfl,I.bare,Un.kept old,⟨m,hns,fun i x v e1 e2 e3 => ?_⟩,fun x c e => ?_,I.fresh,fun x c e => (by
    rcases lk e with ⟨a1,b1⟩ | ⟨a1,b1⟩
    ·rw [b1]; exact I.hok.fresh (Nat.le_succ _)
    ·exact I.dH x c (cl1 x c b1)),fun p hp => absurd hp (by simp [dF]),I.hok.kept old,?_⟩
 ·rcases (hf b hb).2.2.2.1 with z | z
  ·exact I.ok.qH b o e z
  ·exact absurd (Nat.lt_of_lt_of_le (Heap.lt_size e) (Nat.le_trans I.ok.vG z)) (Nat.lt_irrefl _)
 ·rcases List.mem_cons.mp (I.j9 b z) with q | q
  ·exact (hf b hb).2.1 q
  ·exact (hf b hb).2.2.1 q
 ·
  have e2 : (kI fr σ)[i]? = some (some v) := e2
  unfold kI at e2
  rw [List.getElem?_map] at e2
  cases q : fr[i]? with
  | none => rw [q] at e2; cases e2
  | some o =>
   rw [q] at e2
   cases o with
   | none => cases e2
   | some j =>
    have e2 : (σ[j]?).join = some v := Option.some.inj e2
    have e4 : σ[j]? = some (some v) := by
     cases r : σ[j]? with
     | none => rw [r] at e2; cases e2
     | some w => rw [r] at e2; exact congrArg some e2
    obtain ⟨f1,f2,f3⟩ := j4 S.fr e1 q
    obtain ⟨m0,_,hl⟩ := I.loc
    obtain ⟨u,r,l⟩ := hl j x v f1 e4 (.inr (.inl f3))
    refine ⟨u,r,.inr ⟨.inl (bY I.ok.kind f2 f3),?_⟩⟩
    have hxy : x ≠ y0 := fun z => by rw [z,S.Yc] at f2; cases f2
    obtain ⟨c,hc⟩ := Fu x hxy (.inl (bY I.ok.kind f2 f3))
    rcases l with ⟨k,_⟩ | ⟨_,c',hc',ho⟩
    ·have k : X.env.scope.names.lookup x = some .local := k
     rw [f3] at k; cases k
    ·have e : c = c' := Option.some.inj ((cl1 x c hc).symm.trans hc')
     subst e
     obtain ⟨o,ho,hd⟩ := ho
     exact ⟨c,(Wj hxy).trans hc,o,old c o ho,hd⟩
 ·rcases lk e with ⟨a1,b1⟩ | ⟨a1,b1⟩
  ·rw [b1]; exact ⟨none,hcell⟩
  ·obtain ⟨v,o,ho,hd⟩ := I.cell x c (cl1 x c b1)
   exact ⟨v,o,old c o ho,hd⟩
 ·show (kI fr σ).length = N'.length
  unfold kI
  rw [List.length_map]
  exact iQ S.fr
end
theorem u7 {X : Cx} {elt tg iter : Expr} {ifs : List Expr} {scope : Scope} {pos cpos : Pos} {wi : TI} {g : TG} {tt : TT} {te : TE} {N' : List Str} {fr : List (Option Nat)} {y0 : Str} (S : j6 X.env.scope scope X.N N' fr y0) (hc : X.calm = true) (hi : PI X tg iter wi)
  (hg : ∀ C s0 H0 fp,PG (dF X scope C N' s0 H0 fp y0) tg g) (ht : ∀ C s0 H0 fp,zG (dF X scope C N' s0 H0 fp y0) ifs tt) (he : ∀ C s0 H0 fp,PE (dF X scope C N' s0 H0 fp y0) elt te)
  (hs : ∀ x,foldedSetIterable iter X.env x = pure x) {pins : List (Addr × Obj)} {s : Shared} {σ : St} {H : Hp} {Q : VK} (I : Inv X pins σ H s) (h : pX fr wi g tt te σ H Q) (use : Option (Value → Sem Unit)) (QQ : Value → Shared → Prop)
  (fin : ∀ (D C : Addr) (H5 : Hp) (s6 : Shared),Inv X pins σ H5 s6 → Q (.ref D) H5 → H5 C = none → C ≠ X.env.locals → X.s₀.heap.objs.size ≤ C → (∀ x c,X.env.cells.lookup x = some c → c ≠ C) → (∀ p ∈ X.pn ++ pins,p.1 ≠ C) → (∃ m,s6.heap.Ns C m) →
   compPost (model X.prog X.w) X.A X.xe use QQ (.ref D) C (.ok .next) s6) :
  wpAny (model X.prog X.w) X.A (comprehension (.ListComp elt [⟨tg,iter,ifs,0⟩] scope pos) scope X.env cpos (newList []) false (eval iter X.env) use) QQ X.xe s := by
 have hfree : ∀ y ∈ scope.names,y.2 = .free → ∃ c,X.env.cells.lookup y.1 = some c := fun y hy e => I.ok.has y.1 (.inl (S.free y hy e))
 refine wpAny_comprehension_free (use := use) rfl hs (sU hfree) S.kind S.names (bO (hi pins s σ H _ I h) fun v s1 h1 => bO h1 fun itv s2 h2 => ?_)
 obtain ⟨it,fp,tn,J,H2,e,I2,T,st2,f2,hD⟩ := h2
 subst e
 obtain ⟨W,⟨m0,w0⟩,turn⟩ := hD s2.heap.objs.size I2.fresh
 refine wpAny_newObj_type ?_
 have I3 : Inv X pins σ (upd H2 s2.heap.objs.size (.lst [])) { s2 with heap := s2.heap.push { cls := .type "list",data := .seq ([] : List Value).toArray },toks := s2.toks } := I2.zB (ys := []) .nil (Nat.zero_le _)
 revert I3
 generalize eD : s2.heap.objs.size = D at *
 generalize e3 : ({ s2 with heap := s2.heap.push { cls := .type "list",data := .seq ([] : List Value).toArray },toks := s2.toks } : Shared) = s3
 intro I3
 have k3 : ∀ b o,s2.heap.get? b = some o → s3.heap.get? b = some o := fun b o e => by rw [← e3]; exact Heap.get?_push_of_some _ e
 refine Aa S.cf S.pc (fun h4 eh4 hns KC old => ?_)
 have fD : ∀ b ∈ fp,b ≠ D := fun b hb z => by
  obtain ⟨o,ho,_⟩ := T.obj _ _ st2 b hb
  exact absurd (Heap.lt_size ho) (by rw [z,eD]; exact Nat.lt_irrefl _)
 have f3 : ∀ b ∈ fp,jh X pins (upd H2 D (.lst [])) b := fun b hb => ⟨by rw [aw (fD b hb)]; exact (f2 b hb).1,(f2 b hb).2⟩
 have l3 : ∀ b ∈ fp,b < s3.heap.objs.size := fun b hb => by
  obtain ⟨o,ho,_⟩ := T.obj _ _ st2 b hb
  exact Heap.lt_size (k3 b o ho)
 have I4 := Inv.Di (t1 := s3.toks) (scope := scope) S hc I3 f3 l3 hns old KC
 generalize eX : dF X scope s3.heap.objs.size N' s3 (upd H2 D (.lst [])) fp y0 = X' at I4
 have zH : tn 0 h4 := T.keep _ _ _ st2 fun b hb o e => old b o (k3 b o e)
 have stat : ∀ {H' : Hp},(∀ b ∈ fp,H' b = none) → ∀ b ∈ fp,jh X' [] H' b := fun {H'} hn b hb => by
  subst eX
  refine ⟨hn b hb,Nat.ne_of_lt (l3 b hb),?_,.inl hb,?_,fun p hp => absurd hp (by simp [dF])⟩
  ·exact I4.ok.qI b hb
  ·exact (I4.ok.Eh b hb).2
 show codeAny _ _ (.compStart _ 0 (.ref it) (.ref D) (compEnvC scope ((y0,s3.heap.objs.size + 1) :: fq scope X.env) s3.heap.objs.size X.env)) (compPost _ _ _ use _ (.ref D) s3.heap.objs.size) _
 have hX : X'.prog = X.prog ∧ X'.w = X.w ∧ X'.K = X.K ∧ X'.A = X.A ∧ X'.calm = true ∧ X'.env = compEnvC scope ((y0,s3.heap.objs.size + 1) :: fq scope X.env) s3.heap.objs.size X.env ∧ X'.xe = (fun _ _ => False) ∧ X'.s₀ = s3 ∧ X'.H₀ = upd H2 D (.lst []) ∧ X'.fs = frs X.stack ∧ X'.ex = fp := by
  subst eX
  exact ⟨rfl,rfl,rfl,rfl,rfl,rfl,rfl,rfl,rfl,rfl,rfl⟩
 have hg' : PG X' tg g := by subst eX; exact hg _ _ _ _
 have ht' : zG X' ifs tt := by subst eX; exact ht _ _ _ _
 have he' : PE X' elt te := by subst eX; exact he _ _ _ _
 clear eX
 obtain ⟨x1,x2,x3,x4,x5,x6,x7,x8,x9,x10,x11⟩ := hX
 have loop : codeAny (model X.prog X.w) X.A (.compLoop (.ListComp elt [⟨tg,iter,ifs,0⟩] scope pos) 0 (.ref it) (.ref D) (compEnvC scope ((y0,s3.heap.objs.size + 1) :: fq scope X.env) s3.heap.objs.size X.env))
   (compPost (model X.prog X.w) X.A X.xe use QQ (.ref D) s3.heap.objs.size) { s3 with heap := h4,toks := s3.toks } := by
  refine iS (fun n s' => ∃ i σ' ys H',Inv X' [] σ' H' s' ∧ tn i s'.heap ∧ (∀ b ∈ fp,H' b = none) ∧ W i n σ' ys H') ?_ m0 ⟨0,_,[],_,I4,zH,fun b hb => (f3 b hb).1,w0⟩
  rintro n s5 ⟨i,σ5,ys,H5,I5,sD,CA,w5⟩
  rcases turn i n σ5 ys H5 w5 with ⟨stop,qn⟩ | ⟨go,N,hN,step⟩
  ·have z := T.done X' x1 x2 x3 x5 i [] s5 σ5 H5 (fun _ _ => False) I5 (stat CA) sD stop
   rw [x4] at z
   refine bO z fun r s6 ⟨hr,I6⟩ => ?_
   subst hr
   obtain ⟨mm,EY,_⟩ := I6.loc
   have hL : X'.env.locals = s3.heap.objs.size := by rw [x6]; rfl
   rw [hL] at EY
   have nC : H5 s3.heap.objs.size = none := by have := I6.free; rw [hL] at this; exact this
   have base := I6.base
   rw [x8,x9,x10,x11] at base
   have hok : fY X.prog X.w H5 s6.heap := by have q := I6.hok; rw [x1,x2] at q; exact q
   have os : s6.os = s3.os := by have := I6.os; rw [x8] at this; exact this
   have IX : Inv X pins σ H5 s6 := I3.call' os base hok I6.bare fun b hb => ⟨(f3 b hb).2.2.2.1,(f3 b hb).2.1,(f3 b hb).2.2.2.2.1,(f3 b hb).2.2.2.2.2⟩
   refine fin D s3.heap.objs.size H5 s6 IX qn nC (Nat.ne_of_gt I3.lt) I3.sz (fun x c e => ?_) (fun p hp => ?_) ⟨mm,EY⟩
   ·obtain ⟨v,q⟩ := I3.cell x c e
    exact Nat.ne_of_lt q.lt
   ·exact Nat.ne_of_lt (Heap.lt_size (I3.pin p hp).1)
  ·have z := T.item X' x1 x2 x3 x5 i [] s5 σ5 H5 (fun _ _ => False) I5 (stat CA) sD go
   rw [x4] at z
   refine bO z fun r s6 ⟨u,hr,h6⟩ => ?_
   subst hr
   refine bO h6 fun _ s7 ⟨x,H7,I7,r7,y7,CU,Kf⟩ => ?_
   have Kg := I7.pinned (stat Kf) (T.obj _ _ CU)
   have again : ∀ {σ' : St} {H' : Hp} {s' : Shared},Inv X' ([] ++ ji fp s7.heap) σ' H' s' → Inv X' [] σ' H' s' ∧ tn (i + 1) s'.heap ∧ ∀ b ∈ fp,H' b = none := fun {σ' H' s'} J => by
    refine ⟨J.gg,T.keep _ _ _ CU fun b hb o e => (J.pin (b,o) (List.mem_append_right _ (List.mem_append_right _ (dw hb e)))).1,fun b hb => ?_⟩
    obtain ⟨o,e,d⟩ := T.obj _ _ CU b hb
    exact (J.pin (b,o) (List.mem_append_right _ (List.mem_append_right _ (dw hb e)))).2.1
   have z := hg' _ s7 σ5 H7 x u _ Kg r7 (step x H7 y7)
   rw [x1,x2,x4,x6,x7] at z
   refine bO z fun _ s8 ⟨σ8,H8,I8,q8⟩ => ?_
   have z := ht' _ s8 σ8 H8 _ I8 q8
   rw [x1,x2,x4,x6,x7] at z
   refine bO z fun b s9 ⟨H9,I9,q9⟩ => ?_
   cases b with
   | false =>
    rw [if_neg Bool.false_ne_true] at q9 ⊢
    obtain ⟨m',hm,w9⟩ := hN _ _ _ q9
    obtain ⟨a1,a2,a3⟩ := again I9
    exact ⟨m',hm,i + 1,σ8,ys,H9,a1,a2,a3,w9⟩
   | true =>
    rw [if_pos rfl] at q9 ⊢
    have z := he' _ s9 σ8 H9 _ I9 q9
    rw [x1,x2,x4,x6,x7] at z
    refine bO z fun v' zf ⟨y,Jh,wF,r10,CV,hz,w10⟩ => ?_
    have z := dh (X := X') _ zf σ8 Jh (.ref D) [y] (.ref D) [v'] (fun _ H' => N σ8 (ys ++ [y]) H') wF rfl (.cons r10 .nil) ⟨D,ys,y,rfl,rfl,CV,hz,w10⟩
    rw [x1,x2,x4,x7] at z
    refine bO z fun _ XT ⟨_,Kh,Ki,_,w11⟩ => ?_
    obtain ⟨m',hm,w11⟩ := hN _ _ _ w11
    obtain ⟨a1,a2,a3⟩ := again Ki
    exact ⟨m',hm,i + 1,σ8,_,Kh,a1,a2,a3,w11⟩
 exact codeAny_compStart_list loop (T.self _ 0 _ _ _ zH loop)
theorem xj {X : Cx} {elt tg iter : Expr} {ifs : List Expr} {scope : Scope} {pos : Pos} {wi : TI} {g : TG} {tt : TT} {te : TE} {N' : List Str} {fr : List (Option Nat)} {y0 : Str} (S : j6 X.env.scope scope X.N N' fr y0) (hc : X.calm = true) (hi : PI X tg iter wi)
  (hg : ∀ C s0 H0 fp,PG (dF X scope C N' s0 H0 fp y0) tg g) (ht : ∀ C s0 H0 fp,zG (dF X scope C N' s0 H0 fp y0) ifs tt) (he : ∀ C s0 H0 fp,PE (dF X scope C N' s0 H0 fp y0) elt te)
  (hs : ∀ x,foldedSetIterable iter X.env x = pure x := by intro _; rfl) : PE X (.ListComp elt [⟨tg,iter,ifs,0⟩] scope pos) (pX fr wi g tt te) := by
 intro pins s σ H Q I h
 rw [eval_ListComp]
 refine u7 S hc hi hg ht he hs I h none _ fun D C H5 s6 IX q nC c1 c2 c3 c4 hm => ?_
 obtain ⟨m,hm⟩ := hm
 refine ⟨m,hm,fun h' hs' => ⟨.ref D,H5,IX.turned (t' := s6.toks) (it := C) (fun b o hb e => hs'.extBut b o hb e) nC c1 (.inr c2) c3 c4,rfl,q⟩⟩
end L2
namespace SF
open PySem PySem.Spec PyProof.Rows
open Sem (wp)
open AutoSeq1 (wpAny_loadPart')
section
variable {prog : Program} {w : World} {A : Around} {E : Value → Shared → Prop} {s : Shared}
end
end SF
namespace L2
open PySem PySem.Spec PyProof.Rows
section
variable {X : Cx}
end
end L2
namespace PySem.W.Fast
def tw14457292792085956593 : Nat := 0
def tw4202092455031466118 : Nat := 0
def tw42586307393941130 : Nat := 0
def tw13506996444097394652 : Nat := 0
def tw10521400741951466443 : Nat := 0
def tw9995686458852777019 : Nat := 0
def tw14709461629501571746 : Nat := 0
def tw14943655812472279717 : Nat := 0
def tw812128056473768755 : Nat := 0
def tw10965704522659982926 : Nat := 0
def tw16751575872904968951 : Nat := 0
def tw10566089592887656685 : Nat := 0
def tw9590958450649883876 : Nat := 0
def tw16056804267540847912 : Nat := 0
def tw5164991745684699911 : Nat := 0
def tw15102083685326558213 : Nat := 0
def tw13083209030845270355 : Nat := 0
def tw9476072683744088614 : Nat := 0
def tw14928217792259304893 : Nat := 0
def tw16006645989592969397 : Nat := 0
def tw13341455790802313020 : Nat := 0
def tw1814380345494246918 : Nat := 0
def tw9388621713420304663 : Nat := 0
def tw2888974537582486944 : Nat := 0
def tw6192308777384112035 : Nat := 0
def tw1648245663391815237 : Nat := 0
def tw11054366982631767047 : Nat := 0
def tw15555879398857299635 : Nat := 0
def tw1307607587933101936 : Nat := 0
def tw16043491791287153699 : Nat := 0
def tw15599783951451991837 : Nat := 0
def tw17950258911919482156 : Nat := 0
def tw3015131501543494716 : Nat := 0
def tw15216093243127372753 : Nat := 0
def tw14155720091171878868 : Nat := 0
def tw17780291356245315061 : Nat := 0
def tw10400527657024175748 : Nat := 0
def tw9085552481876606564 : Nat := 0
def tw3890377200644194177 : Nat := 0
def tw8506336840941730189 : Nat := 0
def tw4293380763936078723 : Nat := 0
def tw281178846181304963 : Nat := 0
def tw689236977898854402 : Nat := 0
def tw7451361052586925238 : Nat := 0
def tw2023529311377181627 : Nat := 0
def tw1077792355827329519 : Nat := 0
def tw1711660644621765011 : Nat := 0
def tw11254200856803407688 : Nat := 0
end PySem.W.Fast
namespace My
open PySem L2
theorem _root_.L2.cU.u {n : Nat} {A : Around} (hr : cU n A) (k : Nat) (h : k ≤ 64 := by decide) : A.units + k < cLine := Nat.lt_of_le_of_lt (Nat.add_le_add_left h _) hr.units
abbrev KI (K : PySem.W.Frag) (f : Addr) : Prop := PySem.W.keepIn K (.ref f) = true
theorem Ab : 0 ≤ sizeLine := by decide
theorem fX : 1 ≤ sizeLine := by decide
theorem lX : 2 ≤ sizeLine := by decide
theorem gA : 3 ≤ sizeLine := by decide
theorem Ac : 4 ≤ sizeLine := by decide
theorem Fv : 5 ≤ sizeLine := by decide
theorem KD : 7 ≤ sizeLine := by decide
theorem KG : 8 ≤ sizeLine := by decide
theorem KH : (0 : Int) < 2 := by decide
theorem KJ : (0 : Int) < 3 := by decide
theorem lY : (0 : Int) < 2147483399 := by decide
theorem cN : (0 : Int) < 2147483647 := by decide
open List (all_eq_true any_cons dropLast_concat_getLast filter_append length_append length_map length_set length_singleton length_take map_append map_cons map_drop map_nil map_set map_take mem_append mem_cons mem_map mem_range mem_singleton nodup_append nodup_cons not_mem_nil replicate sum_cons take_add_one take_length take_succ zip_cons_cons)
open PySem.W (Frag KeysLit OpenLaw WalkO clsIn codeIn excIn exmOne findIn fnOf hasDictIn isFn kIn_of keepIn kitMeta kitOne mg_none_of mg_of mroIn nsIn specialIn typeIn)
open Option (map_eq_some_iff)
open Nat (le_of_ble_eq_true le_refl le_succ le_trans)
def top (i : Nat) : Stmt := PySem.Challenge.pw_widenrows_k94_whole_free_boxes_change_no.main.body.getD i (.Pass ⟨0,0,0,0⟩)
abbrev mZ : Stmt := top 7
abbrev eW : Stmt := top 8
abbrev ng : Stmt := top 9
abbrev jw : Stmt := top 12
abbrev u9 : Stmt := top 13
abbrev iC : Stmt := top 19
abbrev hV : Stmt := top 20
abbrev jx : Stmt := top 21
abbrev jy : Stmt := top 22
abbrev fH : Stmt := top 23
abbrev iE : Stmt := top 24
abbrev jP : Stmt := top 25
abbrev fJ : Stmt := top 26
abbrev iF : Stmt := top 27
abbrev iY : Stmt := top 28
abbrev nh : Stmt := top 55
abbrev jz : Stmt := top 56
abbrev rN : Stmt := top 57
abbrev lg : Stmt := top 58
abbrev jA : Stmt := top 59
abbrev eL : Stmt := top 60
abbrev hW : Stmt := top 61
abbrev jQ : Stmt := top 62
abbrev jX : Stmt := top 63
theorem dY : bootBuiltins "list" = some (.type "list") := by decide +kernel
theorem iZ : bootBuiltins "tuple" = some (.type "tuple") := by decide +kernel
theorem rO : bootBuiltins "set" = some (.type "set") := by decide +kernel
theorem Ad : bootBuiltins "bool" = some (.type "bool") := by decide +kernel
theorem cX : bootBuiltins "len" = some (.builtin "len") := by decide +kernel
theorem jB : bootBuiltins "sorted" = some (.builtin "sorted") := by decide +kernel
theorem oR : bootBuiltins "isinstance" = some (.builtin "isinstance") := by decide +kernel
theorem at0 {α : Type} (a : α) (r : List α) : lM (a :: r) 0 = some a := bJ (j := 0) rfl
theorem at1 {α : Type} (a b : α) (r : List α) : lM (a :: b :: r) 1 = some b := bJ (j := 1) rfl
theorem at2 {α : Type} (a b c : α) (r : List α) : lM (a :: b :: c :: r) 2 = some c := bJ (j := 2) rfl
theorem strEq {a b : Str} (h : decide (V.str a = V.str b) = true) : a = b := V.str.inj (of_decide_eq_true h)
theorem BK {a b : Str} (h : ¬ decide (V.str a = V.str b) = true) : ¬ a = b := fun e => h (by rw [e]; exact decide_eq_true rfl)
theorem fK (w : Str) : ∀ ss : List Str,inV (.str w) (ss.map V.str) = decide (w ∈ ss)
 | [] => rfl
 | x :: r => by
  have ih := fK w r
  unfold inV at ih ⊢
  rw [map_cons,any_cons,ih]
  show ((x == w) || _) = _
  by_cases h : x = w
  ·subst h
   simp
  ·have h' : ¬ w = x := fun e => h e.symm
   simp [h,h']
theorem ao {H : Hp} {l : Addr} {o : HO} (h : H l = none) : Same H (upd H l o) := fun b u e => by
 rw [aw (aq e h)]
 exact e
theorem xk : bootBuiltins "int" = some (.type "int") := by decide +kernel
theorem rP : bootBuiltins "all" = some (.builtin "all") := by decide +kernel
theorem oS : bootBuiltins "max" = some (.builtin "max") := by decide +kernel
theorem jC {H : Hp} {l a : Addr} {o u : HO} (n : H l = none) (h : H a = some u) : upd H l o a = some u := by
 rw [aw (aq h n)]
 exact h
theorem bU {H H1 : Hp} {l : Addr} {o : HO} (e : Same H H1) (h : H l = none) : Same H (upd H1 l o) := fun b u z => by
 rw [aw (aq z h)]
 exact e b u z
def i0 : List Str := ["stop", "back", "halt", "set", "more", "copy", "add", "less", "load", "keep", "tell", "see", "put", "take", "jump", "zero", "below", "call", "mark", "table"]
def w2 : List Str := ["copy", "add", "less", "load", "keep"]
def w1 : List Str := ["set", "more", "tell", "see", "put", "take", "zero", "below", "table"]
def w7 : List Str := ["set", "more", "copy", "add", "less", "load", "take"]
def fA : List Str := ["copy", "load"]
def fB : List Str := ["add", "less", "keep"]
def fC : List Str := ["more", "tell", "see", "put", "zero", "below", "table"]
def fD : List Str := ["stop", "back", "halt", "set", "take", "jump", "call", "mark"]
def places : List (Str × List Int) := [("more",[1]),("copy",[2]),("add",[1,2]),("less",[1,2]),("load",[2]),("keep",[1,2]),("tell",[1]),("see",[1]),("put",[1]),("zero",[1]),("below",[1]),("table",[1])]
def dZ (u : Str) (items : List V) : Prop := (u ∈ w2 → ∃ b c : Int,items = [.int b,.int c]) ∧ (u ∈ w1 → ∃ (b : Int) (r : List V),items = .int b :: r)
theorem dZ.one {u : Str} {b : Int} {r : List V} (h : ¬ u ∈ w2) : dZ u (.int b :: r) := ⟨fun z => absurd z h,fun _ => ⟨b,r,rfl⟩⟩
theorem xl {K : Frag} {a b : String} {r : Bool} (h1 : (Value.type a == Value.type b) = false) (h2 : kitMeta b = true) (h3 : (fastBuiltinMro a).map (·.contains (Value.type b)) = some r) : kitOne K (.type a) (.type b) = some r := by
 unfold kitOne
 rw [if_neg (by rw [h1]; decide)]
 show (if kitMeta b = true then (fastBuiltinMro a).map (·.contains (Value.type b)) else none) = some r
 rw [if_pos h2]
 exact h3
theorem oU {K : Frag} {a : String} (h : (Value.type a == Value.type a) = true) : kitOne K (.type a) (.type a) = some true := by
 unfold kitOne
 rw [if_pos h]
theorem rQ {K : Frag} : kitOne K (.type "int") (.type "bool") = some false := xl (by decide) (by decide +kernel) (by decide +kernel)
theorem rR {K : Frag} : kitOne K (.type "bool") (.type "int") = some true := xl (by decide) (by decide +kernel) (by decide +kernel)
theorem vd {K : Frag} : kitOne K (.type "int") (.type "int") = some true := oU (by decide)
theorem qj {K : Frag} : kitOne K (.type "bool") (.type "bool") = some true := oU (by decide)
theorem lZ {K : Frag} : kitOne K (.type "tuple") (.type "tuple") = some true := oU (by decide)
theorem ql {K : Frag} : kitOne K (.type "list") (.type "list") = some true := oU (by decide)
def bZ : List Str := ["stop", "back", "halt", "jump"]
def eS : List Str := ["jump", "call", "mark"]
def zb : List Str := ["zero", "below"]
def Parts (H : Hp) (w : Str) (items : List V) (ts : List Int) : Prop :=
 if w = "table" then ∃ (b : V) (q : Addr),items = [b,.ref q] ∧ H q = some (.tup (ts.map V.int))
 else if w ∈ eS then ∃ (t : Int) (f : V),items = [.int t,f] ∧ ts = [t]
 else if w ∈ zb then ∃ (b : V) (t : Int) (f : V),items = [b,.int t,f] ∧ ts = [t] else ts = []
def qm (H : Hp) (r : Addr) (w : Str) (ts : List Int) : Prop := ∃ items,H r = some (.tup (.str w :: items)) ∧ Parts H w items ts
theorem Parts.same {H H' : Hp} {w : Str} {items : List V} {ts : List Int} (e : Same H H') (h : Parts H w items ts) : Parts H' w items ts := by
 unfold Parts at h ⊢
 split
 ·rename_i h1
  rw [if_pos h1] at h
  obtain ⟨b,q,h2,h3⟩ := h
  exact ⟨b,q,h2,e _ _ h3⟩
 ·rename_i h1
  rw [if_neg h1] at h
  exact h
theorem qm.same {H H' : Hp} {r : Addr} {w : Str} {ts : List Int} (e : Same H H') (h : qm H r w ts) : qm H' r w ts := by
 obtain ⟨items,h1,h2⟩ := h
 exact ⟨items,e _ _ h1,h2.same e⟩
def ni : List Str := ["stop", "back", "halt"]
structure Txt (K : Frag) (pr : Params) (mg : Str → Option Value) : Prop where
 rat : ∃ p,mg "READ_AT" = some (.ref p) ∧ (∃ es n,K.lookup p = some ⟨.type "dict",none,.dict es n,#[]⟩) ∧ (∀ x ∈ places,∃ q,rE K pr p x.1 (some (.ref q)) ∧ ∀ H,bX K H q (x.2.map V.int)) ∧ ∀ u ∈ fD,rE K pr p u none
 wr : ∃ p,mg "WRITING" = some (.ref p) ∧ ∀ H,bX K H p (w7.map V.str)
 ends : ∃ p,mg "ENDS" = some (.ref p) ∧ ∀ H,bX K H p (ni.map V.str)
 non : ∃ p,mg "NOT_GOING_ON" = some (.ref p) ∧ ∀ H,bX K H p (bZ.map V.str)
 KL : ∃ p,mg "ALL_BOXES" = some (.ref p) ∧ ∀ H,bX K H p ([0,1,2,3,4,5,6,7].map V.int)
 bnd : ∃ p,mg "BOUNDS" = some (.ref p) ∧ ∃ q,rE K pr p "box" (some (.ref q)) ∧ ∀ H,bX K H q [.int 0,.int 7]
 set : mg "set" = none
 sorted : mg "sorted" = none
 list : mg "list" = none
 int : mg "int" = none
 bool : mg "bool" = none
 tuple : mg "tuple" = none
 Jj : mg "isinstance" = none
 min : mg "min" = none
 range : mg "range" = none
 len : mg "len" = none
 all : mg "all" = none
 enum : mg "enumerate" = none
 max : mg "max" = none
 dict : mg "dict" = none
 abs : mg "abs" = none
def fM (ms : List Int) (p : Int → Prop) : Prop := ms.Pairwise (· ≤ ·) ∧ ms.Nodup ∧ ∀ j,j ∈ ms ↔ p j
theorem fM.eq {p : Int → Prop} : ∀ {ms ns : List Int},fM ms p → fM ns p → ms = ns := by
 intro ms ns a b
 have hp : ms.Perm ns := (List.perm_ext_iff_of_nodup a.2.1 b.2.1).mpr fun j => (a.2.2 j).trans (b.2.2 j).symm
 exact hp.eq_of_pairwise (le := (· ≤ ·)) (fun x y _ _ h1 h2 => Int.le_antisymm h1 h2) a.1 b.1
def Need (u : Str) (items : List V) (j : Int) : Prop := (u ∈ fA ∧ items[1]? = some (.int j)) ∨ (u ∈ fB ∧ (items[0]? = some (.int j) ∨ items[1]? = some (.int j))) ∨ (u ∈ fC ∧ items[0]? = some (.int j))
def tE (u : Str) (items : List V) (ms : List Int) : Prop := (u ∈ w7 ∧ ∃ b r,items = .int b :: r ∧ ms = [b]) ∨ (¬ u ∈ w7 ∧ ms = [])
theorem xm {u : Str} {items : List V} (h : dZ u items) (hu : u ∈ w7) : ∃ b r,items = V.int b :: r := by
 rcases (by decide +kernel : ∀ u ∈ w7,u ∈ w1 ∨ u ∈ w2) u hu with z | z
 ·exact h.2 z
 ·obtain ⟨b,c,e⟩ := h.1 z
  exact ⟨b,_,e⟩
section
variable {P : Program} {w : World} {K : Frag} {mg : Str → Option Value} {base : Heap}
local macro_rules | `(tactic| walk_at "hp") => `(tactic| first | assumption | exact ah | (refine jC (by assumption) ?_; walk_at "hp") | (refine at_same (by assumption) ?_; walk_at "hp"))
local macro_rules | `(tactic| walk_at "sq") => `(tactic| first | exact aZ.of (by walk_at "hp") | exact bX.of (by walk_at "hp") | assumption | exact .inl (by walk_at "sq") | exact .inr (by walk_at "sq") | exact ⟨_,by walk_at "sq"⟩)
local macro_rules | `(tactic| walk_at "ix") => `(tactic| first | exact at0 _ _ | exact at1 _ _ _ | exact at2 _ _ _ _ | assumption)
local macro_rules | `(tactic| walk_at "sz") => `(tactic| exact le_of_ble_eq_true rfl)
local macro_rules | `(tactic| walk_at "c") => `(tactic| first | assumption | (refine ⟨by decide,by decide⟩) | (refine ⟨by decide,by decide,by decide⟩) | (refine .inl ⟨by decide,by decide⟩) | (refine .inr ⟨by decide,by decide⟩) | (exact (by decide)) | omega)
local macro_rules | `(tactic| walk_at "r1") => `(tactic| first
 | (refine ⟨_,rfl,?_⟩)
 | (refine ⟨_,_,rfl,rfl,?_⟩)
 | (refine ⟨_,?_,_,?_,rfl,rfl,?sq,?ix,?k⟩; rotate_left 2; (case sq => walk_at "sq"); (case ix => walk_at "ix"))
 | (refine ⟨_,?_,rfl,?sq,?k⟩; rotate_left 1; (case sq => walk_at "sq"))
 | (refine ⟨_,?_,rfl,?sq,rfl,rfl,?k⟩; rotate_left 1; (case sq => walk_at "sq"))
 | (refine ⟨by walk_at "sz",fun _ _ => ?_⟩)
 | (refine EX ?_) | (refine iP ?_)
 | (refine ⟨rfl,_,rfl,?_⟩)
 | (refine ⟨rfl,?_⟩)
 | (refine ⟨by walk_at "c",?_⟩))
local macro_rules | `(tactic| walk_at "rd") => `(tactic| repeat walk_at "r1")
def lh : Sp := fun vs H Q _ => ∃ (r : Addr) (u : Str) (items : List V),vs = [.ref r] ∧ H r = some (.tup (.str u :: items)) ∧ dZ u items ∧ ∀ (l : Addr) (ms : List Int) (H' : Hp),Same H H' → H l = none → H' l = some (.lst (ms.map V.int)) → tE u items ms → Q (.ref l) H'
theorem xr : aG ["row"] ["row"] (ai hV) := ⟨rfl,rfl,rfl,by decide +kernel,rfl,by decide +kernel,by decide +kernel⟩
theorem vf {f : Addr} {fd : FuncData} (F : cY K "writes_of" "writes_of" hV f fd) (T : Txt K w.params mg) : aK P w K mg base bM 1 f fd ["row"] lh := by
 refine F.ok xr (fun vs H Q E h => ?_) (fun cdv A outer s H vs Q E hr h => ?_)
 ·obtain ⟨r,u,items,rfl,_⟩ := h
  rfl
 ·obtain ⟨r,u,items,rfl,hR,hI,k⟩ := h
  obtain ⟨p,hp,hq⟩ := T.wr
  have hq := hq H
  refine ⟨_,(ay (aQ (pK (aR dB (aI aS (pv 0) ak (fun _ _ => rfl)) (dS (v := .ref p) rfl hp rfl) rfl) (ck (ae (aI aS (pv 0) ak (fun _ _ => rfl)) aj)) (ck aj)))),?_⟩
  walk_at "rd"
  rw [show inV (.str u) (w7.map V.str) = decide (u ∈ w7) from fK _ _]
  refine cV (fun e => ?_) (fun e => ?_)
  ·have e := of_decide_eq_true e
   obtain ⟨b,r',rfl⟩ := xm hI e
   walk_at "rd"
   exact k _ [b] _ (ao (by assumption)) (by assumption) ah (.inl ⟨e,b,r',rfl,rfl⟩)
  ·have e : ¬ u ∈ w7 := fun z => e (decide_eq_true z)
   walk_at "rd"
   exact k _ [] _ (ao (by assumption)) (by assumption) ah (.inr ⟨e,rfl⟩)
def tF : Sp := fun vs H Q _ => ∃ (r : Addr) (u : Str) (items : List V),vs = [.ref r] ∧ H r = some (.tup (.str u :: items)) ∧ u ∈ i0 ∧ dZ u items ∧ ∀ (l : Addr) (ms : List Int) (H' : Hp),Same H H' → H l = none → H' l = some (.lst (ms.map V.int)) → ms.length ≤ 2 → fM ms (Need u items) → Q (.ref l) H'
theorem vg {u : Str} {items : List V} (hu : u ∈ i0) (hI : dZ u items) : ∃ (ps ns : List Int),ps.length = ns.length ∧ ns.length ≤ 2 ∧ ((u,ps) ∈ places ∨ (u ∈ fD ∧ ps = [])) ∧ (∀ (i : Nat) p n,ps[i]? = some p → ns[i]? = some n → lM (.str u :: items) p = some (.int n)) ∧ ∀ j,j ∈ ns ↔ Need u items j := by
 rcases (by decide +kernel : ∀ u ∈ i0,u ∈ fA ∨ u ∈ fB ∨ u ∈ fC ∨ u ∈ fD) u hu with h | h | h | h
 ·obtain ⟨b,c,rfl⟩ := hI.1 ((by decide +kernel : ∀ u ∈ fA,u ∈ w2) u h)
  refine ⟨[2],[c],rfl,by simp,.inl ((by decide +kernel : ∀ u ∈ fA,(u,([2] : List Int)) ∈ places) u h),fun i p n a b => ?_,fun j => ?_⟩
  ·cases i with
   | zero => simp at a b; subst a; subst b; exact at2 _ _ _ _
   | succ i => simp at a
  ·have n1 := (by decide +kernel : ∀ u ∈ fA,¬ u ∈ fB ∧ ¬ u ∈ fC) u h
   simp [Need,h,n1.1,n1.2,eq_comm]
 ·obtain ⟨b,c,rfl⟩ := hI.1 ((by decide +kernel : ∀ u ∈ fB,u ∈ w2) u h)
  refine ⟨[1,2],[b,c],rfl,by simp,.inl ((by decide +kernel : ∀ u ∈ fB,(u,([1,2] : List Int)) ∈ places) u h),fun i p n a b => ?_,fun j => ?_⟩
  ·cases i with
   | zero => simp at a b; subst a; subst b; exact at1 _ _ _
   | succ i => cases i with
    | zero => simp at a b; subst a; subst b; exact at2 _ _ _ _
    | succ i => simp at a
  ·have n1 := (by decide +kernel : ∀ u ∈ fB,¬ u ∈ fA ∧ ¬ u ∈ fC) u h
   simp [Need,h,n1.1,n1.2,eq_comm]
 ·obtain ⟨b,r,rfl⟩ : ∃ (b : Int) (r : List V),items = .int b :: r := hI.2 ((by decide +kernel : ∀ u ∈ fC,u ∈ w1) u h)
  refine ⟨[1],[b],rfl,by simp,.inl ((by decide +kernel : ∀ u ∈ fC,(u,([1] : List Int)) ∈ places) u h),fun i p n a b => ?_,fun j => ?_⟩
  ·cases i with
   | zero => simp at a b; subst a; subst b; exact at1 _ _ _
   | succ i => simp at a
  ·have n1 := (by decide +kernel : ∀ u ∈ fC,¬ u ∈ fA ∧ ¬ u ∈ fB) u h
   simp [Need,h,n1.1,n1.2,eq_comm]
 ·refine ⟨[],[],rfl,by simp,.inr ⟨h,rfl⟩,fun i p n a => by simp at a,fun j => ?_⟩
  have n1 := (by decide +kernel : ∀ u ∈ fD,¬ u ∈ fA ∧ ¬ u ∈ fB ∧ ¬ u ∈ fC) u h
  simp [Need,n1.1,n1.2.1,n1.2.2]
theorem Ae : aG ["row"] ["row"] (ai iC) := ⟨rfl,rfl,rfl,by decide +kernel,rfl,by decide +kernel,by decide +kernel⟩
def vh : Scope := { kind := .function,names := [(".0",.local),("place",.local),("row",.free)],isGenerator := false,isCoroutine := false,more := [] }
theorem nq : cH (ai iC) vh ["row"] ["place", "row"] [none,some 0] := ⟨rfl,by decide +kernel,by decide +kernel,by decide +kernel,by decide +kernel,by decide +kernel⟩
theorem xt {f : Addr} {fd : FuncData} (F : cY K "reads_of" "reads_of" iC f fd) (T : Txt K w.params mg) : aK P w K mg base bM 1 f fd ["row"] tF := by
 refine F.ok Ae (fun vs H Q E h => ?_) (fun cdv A outer s H vs Q E hr h => ?_)
 ·obtain ⟨r,u,items,rfl,_⟩ := h
  rfl
 ·obtain ⟨r,u,items,rfl,hR,hu,hI,k⟩ := h
  obtain ⟨p,hp,hd,h1,h2⟩ := T.rat
  obtain ⟨ps,ns,hl,h2n,hps,hat,hmem⟩ := vg hu hI
  obtain ⟨rr,hk,hrr⟩ : ∃ rr,rE K w.params p u rr ∧ ((∃ q,rr = some (.ref q) ∧ ∀ H,bX K H q (ps.map V.int)) ∨ (rr = none ∧ ps = [])) := by
   rcases hps with h | ⟨h,e⟩
   ·obtain ⟨q,a,b⟩ := h1 _ h
    exact ⟨_,a,.inl ⟨q,rfl,b⟩⟩
   ·exact ⟨none,h2 u h,.inr ⟨rfl,e⟩⟩
  refine ⟨_,(ay (aQ (aU (ei rfl) (by rfl) T.sorted jB (ae (bK (jO rfl) (by rfl) T.set rO (ae (dW (N' := ["place", "row"]) (fr := [none,some 0]) nq rfl (iy (wW (dS (v := .ref p) (by rfl) hp rfl) (aI aS (pv 0) ak (fun _ _ => rfl)) (cj aj) ⟨rfl,rfl,rfl,rfl⟩)) (fun C s0 H0 fp => (bp (i := 0) nq.nd rfl (Or.inl rfl))) (fun C s0 H0 fp => dn) (fun C s0 H0 fp => (aI (r := EI K) aS (pv 1) (pv 0) (fun _ _ => rfl)))) aj)) aj)))),?_⟩
  refine ⟨p,rfl,hd,_,rfl,r,_,_,_,rfl,rfl,bX.of hR,at0 _ _,(by walk_at "sz"),fun t nt => ⟨u,rr,rfl,hk,?_⟩⟩
  have s0 := ao (o := .tup []) nt
  obtain ⟨a,ha,Wk⟩ : ∃ a,rr.getD (.ref t) = .ref a ∧ ∀ H',Same (upd H t (.tup [])) H' → bX K H' a (ps.map V.int) := by
   rcases hrr with ⟨q,rfl,b⟩ | ⟨rfl,rfl⟩
   ·exact ⟨q,rfl,fun H' _ => b H'⟩
   ·exact ⟨t,rfl,fun H' s' => bX.of (s' _ _ ah)⟩
  rw [ha]
  refine ⟨a,rfl,⟨_,Wk _ (Same.refl _)⟩,fun D nD => eV (K := K) (a := a) (xs := ps.map V.int) (fun i σ ys H2 => ∃ v,σ = [v,some (.ref r)] ∧ ys = (ns.take i).map V.int ∧ Same (upd H t (.tup [])) H2 ∧ H2 D = some (.lst ys)) ?_ ?_ ?_ ?_⟩
  ·exact ⟨none,rfl,rfl,ao nD,ah⟩
  ·rintro i σ ys H2 _ ⟨v,rfl,rfl,s2,_⟩
   exact Wk _ s2
  ·rintro i x σ ys H2 hx ⟨v,rfl,rfl,s2,hD⟩
   rw [List.getElem?_map] at hx
   obtain ⟨pp,hpp,rfl⟩ := map_eq_some_iff.mp hx
   have hil := (List.getElem?_eq_some_iff.mp hpp).1
   have hnn : ns[i]? = some ns[i] := List.getElem?_eq_getElem (by omega)
   refine ⟨_,rfl,_,rfl,r,_,_,.int ns[i],rfl,rfl,bX.of (s2 _ _ (s0 _ _ hR)),hat i pp _ hpp hnn,hD,?_,?_⟩
   ·rw [length_map]
    exact cD (by rw [length_take]; omega)
   ·refine ⟨_,rfl,?_,bU s2 nD,ah⟩
    rw [take_succ,hnn,map_append]
    rfl
  ·rintro σ ys H2 ⟨v,rfl,rfl,s2,hD⟩
   have e : ns.take (ps.map V.int).length = ns := by rw [length_map,hl,take_length]
   rw [e] at hD
   have sH := s0.trans s2
   refine ⟨D,ns,rfl,aZ.of hD,by omega,fun l' us KN hus hnd KO => ⟨l',us,rfl,ah,by omega,fun l2 ms Dj hpm BJ => ?_⟩⟩
   have s3 := sH.trans (ao (o := iV P w l' us) KN)
   exact k l2 ms _ (s3.trans (ao Dj)) (s3.free Dj) ah (by rw [hpm.length_eq]; omega) ⟨BJ,hpm.nodup_iff.mpr hnd,fun j => by rw [hpm.mem_iff,KO,hmem]⟩
end
theorem oV {c A B : Prop} [Decidable c] (h : c) (a : A) : if c then A else B := by rw [if_pos h]; exact a
theorem jD {c A B : Prop} [Decidable c] (h : ¬ c) (b : B) : if c then A else B := by rw [if_neg h]; exact b
theorem vi {K : Frag} {H H' : Hp} {x : V} {t : Value} (s : Same H H') (h : fh K H x t) : fh K H' x t := by
 cases h with
 | non => exact .non
 | bl x => exact .bl x
 | int i => exact .int i
 | str x => exact .str x
 | flt x => exact .flt x
 | lst e => exact .lst (s _ _ e)
 | iH e => exact .iH (s _ _ e)
 | tup e => exact .tup (s _ _ e)
 | dK e => exact .dK (s _ _ e)
 | dT e => exact .dT (s _ _ e)
 | ins e a b c d f => exact .ins (s _ _ e) a b c d f
def lj (K : Frag) (H : Hp) (x : V) (b : Bool) : Prop := (∃ i : Int,x = .int i ∧ b = decide (0 ≤ i ∧ i ≤ 7)) ∨ (b = false ∧ ((∃ y,x = .bl y) ∨ ∃ t,fh K H x t ∧ kitOne K t (.type "int") = some false))
theorem lj.same {K : Frag} {H H' : Hp} {x : V} {b : Bool} (s : Same H H') (h : lj K H x b) : lj K H' x b := by
 rcases h with h | ⟨h,h2 | ⟨t,h3,h4⟩⟩
 ·exact .inl h
 ·exact .inr ⟨h,.inl h2⟩
 ·exact .inr ⟨h,.inr ⟨t,vi s h3,h4⟩⟩
section
variable {P : Program} {w : World} {K : Frag} {mg : Str → Option Value} {base : Heap}
def tH : Sp := fun vs H Q _ => ∃ (x : V) (b : Bool),vs = [x] ∧ ((b = true ∧ ∃ i,x = .int i) ∨ (b = false ∧ ((∃ y,x = .bl y) ∨ ∃ t,fh K H x t ∧ kitOne K t (.type "int") = some false))) ∧ Q (.bl b) H
theorem Af : aG ["thing"] ["thing"] (ai jw) := ⟨rfl,rfl,rfl,by decide +kernel,rfl,by decide +kernel,by decide +kernel⟩
theorem xu {f : Addr} {fd : FuncData} (F : cY K "is_whole" "is_whole" jw f fd) (T : Txt K w.params mg) : aK P w K mg base bM 1 f fd ["thing"] (tH (K := K)) := by
 refine F.ok Af (fun vs H Q E h => ?_) (fun cdv A outer s H vs Q E hr h => ?_)
 ·obtain ⟨x,b,rfl,_⟩ := h
  rfl
 ·obtain ⟨x,b,rfl,h,k⟩ := h
  refine ⟨_,(ay (aQ (vP (aU eK (by rfl) T.Jj oR (ae (pv 0) (ae (j0 (v := .ty "int") (by rfl) T.int xk rfl) aj))) (oo (Cp (aU eK (by rfl) T.Jj oR (ae (pv 0) (ae (j0 (v := .ty "bool") (by rfl) T.bool Ad rfl) aj)))))))),?_⟩
  rcases h with ⟨rfl,i,rfl⟩ | ⟨rfl,⟨y,rfl⟩ | ⟨t,ht,hk⟩⟩
  ·refine ⟨_,rfl,_,_,_,_,rfl,.int _,vd,true,rfl,oV rfl ?_⟩
   exact ⟨_,rfl,_,_,_,_,rfl,.int _,rQ,false,rfl,k⟩
  ·refine ⟨_,rfl,_,_,_,_,rfl,.bl _,rR,true,rfl,oV rfl ?_⟩
   exact ⟨_,rfl,_,_,_,_,rfl,.bl _,qj,true,rfl,k⟩
  ·exact ⟨_,rfl,_,_,_,_,rfl,ht,hk,false,rfl,jD (by decide) k⟩
def BL : Sp := fun vs H Q _ => ∃ (x : V) (b : Bool),vs = [.str "box",x] ∧ lj K H x b ∧ Q (.bl b) H
theorem Fw : aG ["kind", "thing"] ["kind", "thing"] (ai u9) := ⟨rfl,rfl,rfl,by decide +kernel,rfl,by decide +kernel,by decide +kernel⟩
theorem Dk {f fW : Addr} {fd xv : FuncData} (F : cY K "is_number_of" "is_number_of" u9 f fd) (T : Txt K w.params mg) (GW : aK P w K mg base bM 1 fW xv ["thing"] (tH (K := K))) (kW : KI K fW) (bW : Binds K xv ["thing"] []) (mW : mg "is_whole" = some (.ref fW)) : aK P w K mg base bM 2 f fd ["kind", "thing"] (BL (K := K)) := by
 refine F.ok Fw (fun vs H Q E h => ?_) (fun cdv A outer s H vs Q E hr h => ?_)
 ·obtain ⟨x,b,rfl,_⟩ := h
  rfl
 ·obtain ⟨x,b,rfl,h,k⟩ := h
  obtain ⟨p,hp,q,hk,hq⟩ := T.bnd
  refine ⟨_,(ay (aQ (vP (aL GW hr (by rfl) mW kW bW .nil aP (ae (pv 1) aj)) (oo (vY vW vW (aI aS (oI (dS (v := .ref p) (by rfl) hp rfl) (pv 0) (fun _ _ => rfl)) ak (fun _ _ => rfl)) (pv 1) (aI aS (oI (dS (v := .ref p) (by rfl) hp rfl) (pv 0) (fun _ _ => rfl)) ak (fun _ _ => rfl))))))),?_⟩
  rcases h with ⟨i,rfl,rfl⟩ | ⟨rfl,h⟩
  ·refine ⟨_,rfl,_,true,rfl,.inl ⟨rfl,i,rfl⟩,true,rfl,oV rfl ?_⟩
   refine ⟨_,rfl,p,_,_,rfl,rfl,hk,q,_,0,_,rfl,rfl,hq _,at0 _ _,_,rfl,_,_,rfl,rfl,_,rfl,?_⟩
   by_cases h0 : 0 ≤ i
   ·refine oV (decide_eq_true h0) ?_
    refine ⟨_,rfl,p,_,_,rfl,rfl,hk,q,_,1,_,rfl,rfl,hq _,at1 _ _ _,_,_,rfl,rfl,?_⟩
    have e : decide (0 ≤ i ∧ i ≤ 7) = decide (i ≤ 7) := decide_eq_decide.mpr ⟨fun z => z.2,fun z => ⟨h0,z⟩⟩
    rw [e] at k
    exact k
   ·refine jD (fun z => h0 (of_decide_eq_true z)) ?_
    rw [decide_eq_false (fun z => h0 z.1)] at k
    exact k
  ·exact ⟨_,rfl,_,false,rfl,.inr ⟨rfl,h⟩,false,rfl,jD (by decide) k⟩
def eB (H : Hp) (v : V) (ms : List Int) : Prop := ∃ q,v = .ref q ∧ H q = some (.tup (ms.map V.int)) ∧ (∀ b ∈ ms,0 ≤ b ∧ b ≤ 7) ∧ ms.Pairwise (· ≤ ·) ∧ ms.Nodup ∧ ms.length < 64
def Fx (K : Frag) (H : Hp) (v : V) : Prop := (∃ t,fh K H v t ∧ kitOne K t (.type "tuple") = some false) ∨
 (∃ (q : Addr) (xs : List V) (bs : List Bool),v = .ref q ∧ H q = some (.tup xs) ∧ bs.length = xs.length ∧ (∀ (i : Nat) x b,xs[i]? = some x → bs[i]? = some b → lj K H x b) ∧ bs.all id = false ∧ xs.length < 64) ∨
 (∃ (q : Addr) (ms : List Int),v = .ref q ∧ H q = some (.tup (ms.map V.int)) ∧ (∀ b ∈ ms,0 ≤ b ∧ b ≤ 7) ∧ ms.length < 64 ∧ ¬ (ms.Pairwise (· ≤ ·) ∧ ms.Nodup))
theorem eB.same {H H' : Hp} {v : V} {ms : List Int} (s : Same H H') (h : eB H v ms) : eB H' v ms := by
 obtain ⟨q,a,b,c⟩ := h
 exact ⟨q,a,s _ _ b,c⟩
def tI : Sp := fun vs H Q _ => ∃ (v : V) (b : Bool),vs = [v] ∧ ((b = true ∧ ∃ ms,eB H v ms) ∨ (b = false ∧ Fx K H v)) ∧ ∀ H',Same H H' → Q (.bl b) H'
theorem Ag : aG ["thing"] ["thing"] (ai fH) := ⟨rfl,rfl,rfl,by decide +kernel,rfl,by decide +kernel,by decide +kernel⟩
def vj : Scope := { kind := .function,names := [(".0",.local),("box",.local),("is_number_of",.globalImplicit)],isGenerator := false,isCoroutine := false,more := [] }
theorem nr : cH (ai fH) vj ["thing"] ["box"] [none] := ⟨rfl,by decide +kernel,by decide +kernel,by decide +kernel,by decide +kernel,by decide +kernel⟩
theorem xA {f fN : Addr} {fd nu : FuncData} (F : cY K "is_claim" "is_claim" fH f fd) (T : Txt K w.params mg) (GN : aK P w K mg base bM 2 fN nu ["kind", "thing"] (BL (K := K))) (kN : KI K fN) (bN : Binds K nu ["kind", "thing"] []) (mN : mg "is_number_of" = some (.ref fN)) : aK P w K mg base bM 3 f fd ["thing"] (tI (K := K)) := by
 refine F.ok Ag (fun vs H Q E h => ?_) (fun cdv A outer s H vs Q E hr h => ?_)
 ·obtain ⟨v,b,rfl,_⟩ := h
  rfl
 ·obtain ⟨v,b,rfl,h,k⟩ := h
  have hu : (A.deeper (PyProof.Rows.envOfC "is_claim" (ai fH) s.heap.objs.size f cdv)).units < cLine := Nat.lt_of_succ_lt (cJ hr)
  refine ⟨_,(aH (cI (kj (jg (fc (aU eK (by rfl) T.Jj oR (ae (pv 0) (ae (j0 (v := .ty "tuple") (by rfl) T.tuple iZ rfl) aj))))) (kh (jg (fc (aU (jv rfl) (by rfl) T.all rP (ae (dW (X := (gj bM P w K mg base ["thing"] "is_claim" (ai fH) f cdv A outer s H E).D4) (N' := ["box"]) (fr := [none]) nr rfl (iy (pv 0)) (fun C s0 H0 fp => (bp (i := 0) nr.nd rfl (Or.inl rfl))) (fun C s0 H0 fp => dn) (fun C s0 H0 fp => (aL GN hr (by rfl) mN kN bN .nil aP (ae aY (ae (pv 0) aj))))) aj)))))).pt (ay (aQ fZ)) aW)
   (ay (aQ (eJ (wN hu) (bK cu (by rfl) T.list dY (ae (pv 0) aj)) (aU (ei rfl) (by rfl) T.sorted jB (ae (bK (oO rfl) (by rfl) T.set rO (ae (pv 0) aj)) aj)) (bh _))))),?_⟩
  rcases (show (∃ t,b = false ∧ fh K H v t ∧ kitOne K t (.type "tuple") = some false) ∨ (∃ (q : Addr) (xs : List V) (bs : List Bool),v = .ref q ∧ H q = some (.tup xs) ∧ bs.length = xs.length ∧ (∀ (i : Nat) x b,xs[i]? = some x → bs[i]? = some b → lj K H x b) ∧ xs.length < 64 ∧ ((bs.all id = false ∧ b = false) ∨ ∃ ms : List Int,xs = ms.map V.int ∧ bs.all id = true ∧ b = decide (ms.Pairwise (· ≤ ·) ∧ ms.Nodup))) by
   have Fy : ∀ (q : Addr) (ms : List Int),H q = some (.tup (ms.map V.int)) → (∀ b ∈ ms,0 ≤ b ∧ b ≤ 7) → (∀ (i : Nat) x b,(ms.map V.int)[i]? = some x → (ms.map fun _ => true)[i]? = some b → lj K H x b) := fun q ms _ hr i x b hx hb => by
    rw [List.getElem?_map] at hx hb
    cases hm : ms[i]? with
    | none => rw [hm] at hx; cases hx
    | some z =>
     rw [hm] at hx hb
     cases hx
     cases hb
     exact .inl ⟨z,rfl,(decide_eq_true (hr z (List.mem_of_getElem? hm))).symm⟩
   have Fz : ∀ ms : List Int,(ms.map fun _ => true).all id = true := fun ms => by simp
   rcases h with ⟨rfl,ms,q,hv,hq,hr,hp,hn,hl⟩ | ⟨rfl,hb⟩
   ·exact .inr ⟨q,_,_,hv,hq,by simp,Fy q ms hq hr,by rw [length_map]; exact hl,.inr ⟨ms,rfl,Fz ms,(decide_eq_true ⟨hp,hn⟩).symm⟩⟩
   ·rcases hb with ⟨t,ht,hk⟩ | ⟨q,xs,bs,hv,hq,hl,hbx,hf,h64⟩ | ⟨q,ms,hv,hq,hr,hl,hn⟩
    ·exact .inl ⟨t,rfl,ht,hk⟩
    ·exact .inr ⟨q,xs,bs,hv,hq,hl,hbx,h64,.inl ⟨hf,rfl⟩⟩
    ·exact .inr ⟨q,_,_,hv,hq,by simp,Fy q ms hq hr,by rw [length_map]; exact hl,.inr ⟨ms,rfl,Fz ms,(decide_eq_false hn).symm⟩⟩) with ⟨t,rfl,ht,hk⟩ | ⟨q,xs,bs,rfl,hq,hl,hbx,h64,fin⟩
  ·refine ⟨_,rfl,_,_,_,_,rfl,ht,hk,_,rfl,oV rfl ?_⟩
   exact k _ (.refl _)
  ·refine ⟨_,rfl,_,_,_,_,rfl,.tup hq,lZ,_,rfl,jD (by decide) ?_⟩
   refine ⟨_,rfl,q,rfl,⟨_,bX.of hq⟩,fun D nD => eV (K := K) (a := q) (xs := xs) (fun i σ ys H1 => ∃ (v : Option V),σ = [v] ∧ ys = (bs.take i).map V.bl ∧ Same H H1 ∧ H1 D = some (.lst ys)) ?_ ?_ ?_ ?_⟩
   ·exact ⟨none,rfl,rfl,ao nD,ah⟩
   ·rintro i σ ys H1 _ ⟨v,rfl,rfl,s1,_⟩
    exact bX.of (s1 _ _ hq)
   ·rintro i x σ ys H1 hx ⟨v,rfl,rfl,s1,hD⟩
    have hil := (List.getElem?_eq_some_iff.mp hx).1
    have hbb : bs[i]? = some bs[i] := List.getElem?_eq_getElem (by omega)
    refine ⟨_,rfl,x,bs[i],rfl,(hbx i x _ hx hbb).same s1,hD,?_,?_⟩
    ·rw [length_map,length_take]
     exact cD (by omega)
    ·refine ⟨_,rfl,?_,bU s1 nD,ah⟩
     rw [take_succ,hbb,map_append]
     rfl
   ·rintro σ ys H1 ⟨v,rfl,rfl,s1,hD⟩
    rw [show bs.take xs.length = bs by rw [← hl,take_length]] at hD
    refine ⟨D,bs,rfl,aZ.of hD,_,rfl,?_⟩
    rcases fin with ⟨hf,rfl⟩ | ⟨ms,rfl,ht,rfl⟩
    ·rw [hf]
     exact oV rfl (k H1 s1)
    ·rw [ht]
     refine jD (by decide) ?_
     refine ⟨_,rfl,q,_,rfl,.inr (bX.of (s1 _ _ hq)),fun l nl => ?_⟩
     have s2 := s1.trans (ao (o := .lst (ms.map V.int)) nl)
     have hll : upd H1 l (.lst (ms.map V.int)) l = _ := ah
     generalize upd H1 l (.lst (ms.map V.int)) = H2 at s2 hll ⊢
     rw [length_map] at h64
     refine ⟨_,rfl,q,ms,rfl,bX.of (s2 _ _ hq),by omega,fun l2 us Dj hlen hnd hmem => ?_⟩
     have z3 := ao (o := iV P w l2 us) Dj
     have h3 : upd H2 l2 (iV P w l2 us) l2 = _ := ah
     have KP := z3 _ _ hll
     have s3 := s2.trans z3
     refine ⟨l2,us,rfl,h3,by omega,fun l3 ss Yd hperm BJ => ?_⟩
     have z4 := ao (o := .lst (ss.map V.int)) Yd
     refine ⟨l,l3,_,_,rfl,rfl,aZ.of (z4 _ _ KP),aZ.of ah,fun i a b ha hb => ?_,?_⟩
     ·rw [List.getElem?_map] at ha hb
      cases h1 : ms[i]? with
      | none => rw [h1] at ha; cases ha
      | some x =>
       cases h2 : ss[i]? with
       | none => rw [h2] at hb; cases hb
       | some y =>
        rw [h1] at ha
        rw [h2] at hb
        cases ha
        cases hb
        exact .inl (.inr (.inl ⟨_,_,rfl,rfl⟩))
     ·have e : decide (ms.map V.int = ss.map V.int) = decide (ms.Pairwise (· ≤ ·) ∧ ms.Nodup) := by
       refine decide_eq_decide.mpr ⟨fun z => ?_,fun z => ?_⟩
       ·have z2 : ms = ss := (List.map_inj_right (fun _ _ h => V.int.inj h)).mp z
        rw [z2]
        exact ⟨BJ,hperm.nodup_iff.mpr hnd⟩
       ·have r1 : fM ms (· ∈ ms) := ⟨z.1,z.2,fun j => Iff.rfl⟩
        have r2 : fM ss (· ∈ ms) := ⟨BJ,hperm.nodup_iff.mpr hnd,fun j => by rw [hperm.mem_iff,hmem]⟩
        rw [fM.eq r1 r2]
      have kk := k _ (s3.trans z4)
      rw [← e] at kk
      exact kk
end
section
variable {P : Program} {w : World} {K : Frag} {mg : Str → Option Value} {base : Heap}
def xB : Sp := fun vs H Q _ => ∃ (r : Addr) (w : Str) (items : List V),vs = [.ref r] ∧ H r = some (.tup (.str w :: items)) ∧ Q (.bl (!decide (w ∈ bZ))) H
theorem Dl : aG ["row"] ["row"] (ai mZ) := ⟨rfl,rfl,rfl,by decide +kernel,rfl,by decide +kernel,by decide +kernel⟩
theorem Ah {f : Addr} {fd : FuncData} (F : cY K "goes_on" "goes_on" mZ f fd) (T : Txt K w.params mg) : aK P w K mg base bM 1 f fd ["row"] xB := by
 refine F.ok Dl (fun vs H Q E h => ?_) (fun cdv A outer s H vs Q E hr h => ?_)
 ·obtain ⟨r,w,items,rfl,_⟩ := h
  rfl
 ·obtain ⟨r,w',items,rfl,hR,k⟩ := h
  obtain ⟨p,hp,hq⟩ := T.non
  refine ⟨_,ay (aQ (eJ dU (aI aS (pv 0) ak (fun _ _ => rfl)) (dS (v := .ref p) rfl hp rfl) rfl)),?_⟩
  refine ⟨_,rfl,r,_,0,.str w',rfl,rfl,bX.of hR,at0 _ _,p,_,rfl,.inr (hq _),rfl,rfl,?_⟩
  show Q (.bl (!inV (.str w') (bZ.map V.str))) H
  rw [fK]
  exact k
def jE : Sp := fun vs H Q _ => ∃ (r : Addr) (w : Str) (ts : List Int),vs = [.ref r] ∧ qm H r w ts ∧ ∀ (l : Addr) (H' : Hp),Same H H' → H l = none → H' l = some (.lst (ts.map V.int)) → Q (.ref l) H'
theorem nF : aG ["row", "word"] ["row"] (ai eW) := ⟨rfl,rfl,rfl,by decide +kernel,rfl,by decide +kernel,by decide +kernel⟩
theorem rS {f : Addr} {fd : FuncData} (F : cY K "targets_of" "targets_of" eW f fd) (T : Txt K w.params mg) : aK P w K mg base bM 1 f fd ["row"] jE := by
 refine F.ok nF (fun vs H Q E h => ?_) (fun cdv A outer s H vs Q E hr h => ?_)
 ·obtain ⟨r,w,ts,rfl,_⟩ := h
  rfl
 ·obtain ⟨r,w',ts,rfl,⟨items,hR,hP⟩,k⟩ := h
  refine ⟨_,aH (bg (i := 1) nF.nd rfl (Or.inl rfl) (aI aS (pv 0) ak (fun _ _ => rfl)))
   (aH (cI (aR kl (pv 1) aY (bh _)) (ay (aQ (bK cu (by rfl) T.list dY (ae (aI aS (pv 0) ak (fun _ _ => rfl)) aj)))) aW)
   (aH (cI (aR dB (pv 1) (cj (ae aY (ae aY (ae aY aj)))) rfl) (ay (aQ (ck (ae (aI aS (pv 0) ak (fun _ _ => rfl)) aj)))) aW)
   (aH (cI (aR dB (pv 1) (cj (ae aY (ae aY aj))) rfl) (ay (aQ (ck (ae (aI aS (pv 0) ak (fun _ _ => rfl)) aj)))) aW)
   (ay (aQ (ck aj)))))),?_⟩
  refine ⟨_,rfl,r,_,0,.str w',rfl,rfl,bX.of hR,at0 _ _,_,rfl,rfl,_,rfl,?_⟩
  refine cV (fun h1 => ?_) (fun h1 => ?_)
  ·have h1 := strEq h1
   unfold Parts at hP
   rw [if_pos h1] at hP
   obtain ⟨b,q,rfl,hq⟩ := hP
   refine ⟨_,rfl,r,_,2,.ref q,rfl,rfl,bX.of hR,at2 _ _ _ _,q,_,rfl,.inr (bX.of hq),fun l hl => ?_⟩
   exact k l _ (ao hl) hl ah
  ·have h1 := BK h1
   unfold Parts at hP
   rw [if_neg h1] at hP
   refine ⟨_,rfl,gA,fun t ht => ⟨t,eS.map V.str,rfl,.inr (bX.of ah),rfl,rfl,_,rfl,?_⟩⟩
   have s1 := ao (o := .tup (eS.map V.str)) ht
   have Ye := s1 _ _ hR
   rw [show inV (.str w') (eS.map V.str) = decide (w' ∈ eS) from fK _ _]
   refine cV (fun h2 => ?_) (fun h2 => ?_)
   ·have h2 := of_decide_eq_true h2
    rw [if_pos h2] at hP
    obtain ⟨t',f',rfl,rfl⟩ := hP
    refine ⟨_,rfl,r,_,1,.int t',rfl,rfl,bX.of Ye,at1 _ _ _,fX,fun l hl => ?_⟩
    exact k l _ (s1.trans (ao hl)) (s1.free hl) ah
   ·have h2 : ¬ w' ∈ eS := fun e => h2 (decide_eq_true e)
    rw [if_neg h2] at hP
    refine ⟨_,rfl,lX,fun t2 Fd => ⟨t2,zb.map V.str,rfl,.inr (bX.of ah),rfl,rfl,_,rfl,?_⟩⟩
    have s2 := s1.trans (ao (o := .tup (zb.map V.str)) Fd)
    have xC := s2 _ _ hR
    rw [show inV (.str w') (zb.map V.str) = decide (w' ∈ zb) from fK _ _]
    refine cV (fun h3 => ?_) (fun h3 => ?_)
    ·have h3 := of_decide_eq_true h3
     rw [if_pos h3] at hP
     obtain ⟨b,t',f',rfl,rfl⟩ := hP
     refine ⟨_,rfl,r,_,2,.int t',rfl,rfl,bX.of xC,at2 _ _ _ _,fX,fun l hl => ?_⟩
     exact k l _ (s2.trans (ao hl)) (s2.free hl) ah
    ·have h3 : ¬ w' ∈ zb := fun e => h3 (decide_eq_true e)
     rw [if_neg h3] at hP
     subst hP
     refine ⟨Ab,fun l hl => ?_⟩
     exact k l _ (s2.trans (ao hl)) (s2.free hl) ah
def xD : Sp := fun vs H Q _ => ∃ (p q : Addr) (rows : List V) (r : Nat) (w : Str) (ts : List Int),vs = [.ref p,.int r] ∧ aZ K H p rows ∧ rows[r]? = some (.ref q) ∧ qm H q w ts ∧ ts.length ≤ 16 ∧
 ∀ (l : Addr) (ms : List Int) (H' : Hp),Same H H' → H l = none → H' l = some (.lst (ms.map V.int)) → ms.Pairwise (· ≤ ·) → ms.Nodup → (∀ j,j ∈ ms ↔ j ∈ ts ∨ (¬ w ∈ bZ ∧ j = r + 1)) → Q (.ref l) H'
theorem xE : aG ["rows", "r", "ways"] ["rows", "r"] (ai ng) := ⟨rfl,rfl,rfl,by decide +kernel,rfl,by decide +kernel,by decide +kernel⟩
theorem Ai {f fG fT : Addr} {fd xF FA : FuncData} (F : cY K "ways_of" "ways_of" ng f fd) (T : Txt K w.params mg) (GG : aK P w K mg base bM 1 fG xF ["row"] xB) (kG : KI K fG) (bG : Binds K xF ["row"] []) (mG : mg "goes_on" = some (.ref fG)) (GT : aK P w K mg base bM 1 fT FA ["row"] jE) (kT : KI K fT) (bT : Binds K FA ["row"] []) (mT : mg "targets_of" = some (.ref fT)) : aK P w K mg base bM 2 f fd ["rows", "r"] (xD (K := K)) := by
 refine F.ok xE (fun vs H Q E h => ?_) (fun cdv A outer s H vs Q E hr h => ?_)
 ·obtain ⟨p,q,rows,r,w,ts,rfl,_⟩ := h
  rfl
 ·obtain ⟨p,q,rows,r,w',ts,rfl,hS,hq,hR,hlen,k⟩ := h
  refine ⟨_,aH (bg (i := 2) xE.nd rfl (Or.inl rfl) (aL GT hr (by rfl) mT kT bT .nil aP (ae (aI aJ (pv 0) (pv 1) (fun _ _ => rfl)) aj)))
   (aH (cI (fc (aL GG hr (by rfl) mG kG bG .nil aP (ae (aI aJ (pv 0) (pv 1) (fun _ _ => rfl)) aj)))
    (ay (cO (mJ PySem.F.plainAttrs_list PySem.F.slot_list_append PySem.F.type_list_append dh (pv 2) (ae (aV dz (pv 1) ak) aj)))) aW)
   (ay (aQ (aU (ei rfl) (by rfl) T.sorted jB (ae (bK (jO rfl) (by rfl) T.set rO (ae (pv 2) aj)) aj))))),?_⟩
  refine ⟨_,rfl,_,rfl,p,rows,r,.ref q,rfl,rfl,hS,bJ hq,q,w',ts,rfl,hR,fun l H1 s1 nl hl => ?_⟩
  have hS1 := s1.seq hS
  obtain ⟨items,hq1,_⟩ := hR.same s1
  refine ⟨_,rfl,_,rfl,p,rows,r,.ref q,rfl,rfl,hS1,bJ hq,q,w',items,rfl,hq1,_,rfl,?_⟩
  have fin : ∀ (ns : List Int) (H2 : Hp),Same H H2 → H2 l = some (.lst (ns.map V.int)) → ns.length ≤ 17 → (∀ j,j ∈ ns ↔ j ∈ ts ∨ (¬ w' ∈ bZ ∧ j = r + 1)) →
    ∃ v,[some (V.ref p),some (V.int r),some (V.ref l)][2]? = some (some v) ∧ ∃ (p' : Addr) (ns' : List Int),[v] = [V.ref p'] ∧ aZ K H2 p' (ns'.map V.int) ∧ ns'.length < 4000 ∧ ∀ (l' : Addr) (us : List Int),H2 l' = none → us.length ≤ ns'.length → us.Nodup → (∀ j,j ∈ us ↔ j ∈ ns') →
     ∃ (p2 : Addr) (Fb : List Int),[V.ref l'] = [V.ref p2] ∧ (upd H2 l' (iV P w l' us)) p2 = some (iV P w p2 Fb) ∧ Fb.length < 64 ∧ ∀ (l2 : Addr) (ms : List Int),(upd H2 l' (iV P w l' us)) l2 = none → ms.Perm Fb → ms.Pairwise (· ≤ ·) → Q (.ref l2) (upd (upd H2 l' (iV P w l' us)) l2 (.lst (ms.map V.int))) := by
   intro ns H2 s2 h2 hl2 hm
   refine ⟨_,rfl,l,ns,rfl,aZ.of h2,by omega,fun l' us KN hu hnd KO => ⟨l',us,rfl,ah,by omega,fun l2 ms Dj hp BJ => ?_⟩⟩
   have s3 := s2.trans (ao (o := iV P w l' us) KN)
   exact k l2 ms _ (s3.trans (ao Dj)) (s3.free Dj) ah BJ (hp.nodup_iff.mpr hnd) (fun j => by rw [hp.mem_iff,KO,hm])
  refine cV (fun h1 => ?_) (fun h1 => ?_)
  ·have h1 : ¬ w' ∈ bZ := by simpa using h1
   refine ⟨_,rfl,.inl ⟨rfl,_,aZ.of hl⟩,_,rfl,_,_,rfl,rfl,l,_,_,rfl,rfl,hl,?_,?_⟩
   ·rw [length_map]
    exact cD (by omega)
   ·have e : (ts.map V.int ++ [V.int ((r : Int) + 1)]) = (ts ++ [(r : Int) + 1]).map V.int := by simp
    rw [e]
    refine fin (ts ++ [(r : Int) + 1]) _ ?_ ah (by simp; omega) (fun j => ?_)
    ·intro b o z
     rw [aw (aq z nl)]
     exact s1 b o z
    ·rw [mem_append,mem_singleton]
     exact ⟨fun z => z.imp id fun e => ⟨h1,e⟩,fun z => z.imp id fun e => e.2⟩
  ·have h1 : w' ∈ bZ := by simpa using h1
   refine fin ts _ s1 hl (by omega) (fun j => ⟨.inl,fun z => z.elim id fun e => absurd h1 e.1⟩)
end
theorem hZ (w : Int) : ∀ ss : List Int,inV (.int w) (ss.map V.int) = decide (w ∈ ss)
 | [] => rfl
 | x :: r => by
  have ih := hZ w r
  unfold inV at ih ⊢
  rw [map_cons,any_cons,ih]
  show ((x == w) || _) = _
  by_cases h : x = w
  ·subst h
   simp
  ·have h' : ¬ w = x := fun e => h e.symm
   simp [h,h']
theorem eY (ms : List Int) : (ms.map V.int).all iN = true := by
 rw [all_eq_true]
 intro x hx
 obtain ⟨i,_,rfl⟩ := mem_map.mp hx
 rfl
theorem ia : ∀ {ms xs : List Int},ms.Nodup → (∀ j ∈ ms,j ∈ xs) → ms.length ≤ xs.length
 | [],_,_,_ => Nat.zero_le _
 | m :: ms,xs,hn,h => by
  have hm : m ∈ xs := h m (by simp)
  have := ia (ms := ms) (xs := xs.erase m) (nodup_cons.mp hn).2 (fun j hj => (List.mem_erase_of_ne (fun (e : j = m) => (nodup_cons.mp hn).1 (by rw [← e]; exact hj))).mpr (h j (by simp [hj])))
  rw [List.length_erase_of_mem hm] at this
  have : 0 < xs.length := List.length_pos_of_mem hm
  simp
  omega
theorem jF {n : Nat} (h : n ≤ 1000000) : n ≤ sizeLine := le_trans h (by decide)
theorem cg {n : Nat} (h : n ≤ 1000000) : n < sizeLine := Nat.lt_of_le_of_lt h (by decide)
structure FR where
 u : Str
 is : List Int
 ts : List Int
def FR.Ok (d : FR) : Prop := d.u ∈ i0 ∧ (d.u = "table" → ∃ b,d.is = [b]) ∧ (d.u ∈ eS → ∃ t f,d.is = [t,f] ∧ d.ts = [t]) ∧ (d.u ∈ zb → ∃ b t f,d.is = [b,t,f] ∧ d.ts = [t]) ∧
 (¬ d.u = "table" → ¬ d.u ∈ eS → ¬ d.u ∈ zb → d.ts = []) ∧ (d.u ∈ w2 → ∃ b c,d.is = [b,c]) ∧ (d.u ∈ w1 → ∃ b r,d.is = b :: r)
def KQ (H : Hp) (q : Addr) (d : FR) : Prop := (d.u = "table" ∧ ∃ b p,d.is = [b] ∧ H q = some (.tup [.str d.u,.int b,.ref p]) ∧ H p = some (.tup (d.ts.map V.int))) ∨ (¬ d.u = "table" ∧ H q = some (.tup (.str d.u :: d.is.map V.int)))
def dR (H : Hp) (q : Addr) (d : FR) : Prop := d.Ok ∧ KQ H q d
theorem dR.same {H H' : Hp} {q : Addr} {d : FR} (s : Same H H') (h : dR H q d) : dR H' q d := by
 obtain ⟨o,h⟩ := h
 refine ⟨o,?_⟩
 rcases h with ⟨a,b,p,e,h1,h2⟩ | ⟨a,h1⟩
 ·exact .inl ⟨a,b,p,e,s _ _ h1,s _ _ h2⟩
 ·exact .inr ⟨a,s _ _ h1⟩
theorem dR.parts {H : Hp} {q : Addr} {d : FR} (h : dR H q d) : ∃ items,H q = some (.tup (.str d.u :: items)) ∧ dZ d.u items ∧ Parts H d.u items d.ts ∧ ∀ (i : Nat) (b : Int),(d.u ∈ w1 ∨ d.u ∈ w2) → i < 2 → (d.u ∈ w1 → i = 0) → (items[i]? = some (.int b) ↔ d.is[i]? = some b) := by
 obtain ⟨⟨hu,h1,h2,h3,h4,h5,h6⟩,h⟩ := h
 rcases h with ⟨a,b,p,e,g1,g2⟩ | ⟨a,g1⟩
 ·refine ⟨_,g1,dZ.one (by rw [a]; decide),?_,fun i b' _ hi hw => ?_⟩
  ·unfold Parts
   rw [if_pos a]
   exact ⟨_,p,rfl,g2⟩
  ·have : i = 0 := hw (by rw [a]; decide)
   subst this
   rw [e]
   simp
 ·refine ⟨_,g1,⟨fun z => ?_,fun z => ?_⟩,?_,fun i b' _ hi hw => ?_⟩
  ·obtain ⟨b,c,e⟩ := h5 z
   exact ⟨b,c,by rw [e]; rfl⟩
  ·obtain ⟨b,r,e⟩ := h6 z
   exact ⟨b,r.map V.int,by rw [e]; rfl⟩
  ·unfold Parts
   rw [if_neg a]
   split
   ·rename_i z
    obtain ⟨t,f,e1,e2⟩ := h2 z
    exact ⟨t,.int f,by rw [e1]; rfl,e2⟩
   ·rename_i z1
    split
    ·rename_i z
     obtain ⟨b,t,f,e1,e2⟩ := h3 z
     exact ⟨.int b,t,.int f,by rw [e1]; rfl,e2⟩
    ·rename_i z2
     exact h4 a z1 z2
  ·rw [List.getElem?_map,map_eq_some_iff]
   exact ⟨fun ⟨y,e1,e2⟩ => by cases e2; exact e1,fun e => ⟨b',e,rfl⟩⟩
def cz (d : FR) (b : Int) : Bool := decide (d.u ∈ ni) || ((decide (d.u ∈ fA) && decide (d.is[1]? = some b)) || ((decide (d.u ∈ fB) && (decide (d.is[0]? = some b) || decide (d.is[1]? = some b))) || (decide (d.u ∈ fC) && decide (d.is[0]? = some b))))
def jY (d : FR) (b : Int) : Bool := decide (d.u ∈ w7) && decide (d.is[0]? = some b)
def lN (d : FR) (r : Nat) : List Int := if d.u = "call" ∨ d.u ∈ bZ then d.ts else d.ts ++ [(r : Int) + 1]
def qo (cl : List (List Int)) (b s : Int) : Bool := match cl[s.toNat]? with
 | some c => decide (b ∈ c)
 | none => false
def dC (d : FR) (cl : List (List Int)) (r : Nat) (b : Int) : Bool := !cz d b && (jY d b || (lN d r).all (qo cl b))
theorem qp {H : Hp} {q : Addr} {d : FR} {items : List V} (h : dR H q d) (hi : ∀ (i : Nat) (b : Int),(d.u ∈ w1 ∨ d.u ∈ w2) → i < 2 → (d.u ∈ w1 → i = 0) → (items[i]? = some (.int b) ↔ d.is[i]? = some b)) (b : Int) : cz d b = true ↔ (d.u ∈ ni ∨ Need d.u items b) := by
 have hA : d.u ∈ fA → (items[1]? = some (.int b) ↔ d.is[1]? = some b) := fun z => by
  have := (by decide +kernel : ∀ u ∈ fA,u ∈ w2 ∧ ¬ u ∈ w1) _ z
  exact hi 1 b (.inr this.1) (by decide) (fun y => absurd y this.2)
 have Yf : d.u ∈ fB → (items[0]? = some (.int b) ↔ d.is[0]? = some b) := fun z => by
  have := (by decide +kernel : ∀ u ∈ fB,u ∈ w2 ∧ ¬ u ∈ w1) _ z
  exact hi 0 b (.inr this.1) (by decide) (fun y => absurd y this.2)
 have Yg : d.u ∈ fB → (items[1]? = some (.int b) ↔ d.is[1]? = some b) := fun z => by
  have := (by decide +kernel : ∀ u ∈ fB,u ∈ w2 ∧ ¬ u ∈ w1) _ z
  exact hi 1 b (.inr this.1) (by decide) (fun y => absurd y this.2)
 have hC : d.u ∈ fC → (items[0]? = some (.int b) ↔ d.is[0]? = some b) := fun z => by
  have := (by decide +kernel : ∀ u ∈ fC,u ∈ w1) _ z
  exact hi 0 b (.inl this) (by decide) (fun _ => rfl)
 unfold cz Need
 simp only [Bool.or_eq_true,Bool.and_eq_true,decide_eq_true_iff]
 refine or_congr_right (or_congr (and_congr_right fun z => (hA z).symm) (or_congr (and_congr_right fun z => or_congr (Yf z).symm (Yg z).symm) (and_congr_right fun z => (hC z).symm)))
theorem nG {d : FR} {items : List V} (hu : dZ d.u items) (hi : ∀ (i : Nat) (b : Int),(d.u ∈ w1 ∨ d.u ∈ w2) → i < 2 → (d.u ∈ w1 → i = 0) → (items[i]? = some (.int b) ↔ d.is[i]? = some b)) {ms : List Int} (h : tE d.u items ms) (b : Int) : decide (b ∈ ms) = jY d b := by
 unfold jY
 rcases h with ⟨a,b0,r,e,rfl⟩ | ⟨a,rfl⟩
 ·rw [decide_eq_true a,Bool.true_and]
  refine decide_eq_decide.mpr ?_
  have hw := (by decide +kernel : ∀ u ∈ w7,u ∈ w1 ∨ u ∈ w2) _ a
  rw [← hi 0 b hw (by decide) (fun _ => rfl),e]
  simp [eq_comm]
 ·rw [decide_eq_false a]
  simp
section
variable {P : Program} {w : World} {K : Frag} {mg : Str → Option Value} {base : Heap}
def oW : Sp := fun vs H Q _ => ∃ (q : Addr) (b : Int) (d : FR),vs = [.ref q,.int b] ∧ dR H q d ∧ ∀ H',Same H H' → Q (.bl (cz d b)) H'
theorem Aj : aG ["row", "box"] ["row", "box"] (ai jx) := ⟨rfl,rfl,rfl,by decide +kernel,rfl,by decide +kernel,by decide +kernel⟩
theorem xG {f fR : Addr} {fd BM : FuncData} (F : cY K "needs_at_once" "needs_at_once" jx f fd) (T : Txt K w.params mg) (GR : aK P w K mg base bM 1 fR BM ["row"] tF) (kR : KI K fR) (bR : Binds K BM ["row"] []) (mR : mg "reads_of" = some (.ref fR)) : aK P w K mg base bM 2 f fd ["row", "box"] oW := by
 refine F.ok Aj (fun vs H Q E h => ?_) (fun cdv A outer s H vs Q E hr h => ?_)
 ·obtain ⟨q,b,d,rfl,_⟩ := h
  rfl
 ·obtain ⟨q,b,d,rfl,hR,k⟩ := h
  obtain ⟨p,hp,hq⟩ := T.ends
  obtain ⟨items,g1,g2,g3,g4⟩ := hR.parts
  refine ⟨_,(ay (aQ (Bz (eJ dB (aI aS (pv 0) ak (fun _ _ => rfl)) (dS (v := .ref p) (by rfl) hp rfl) rfl) (oo (eJ dB (pv 1) (aL GR hr (by rfl) mR kR bR .nil aP (ae (pv 0) aj)) rfl))))),?_⟩
  refine ⟨_,rfl,q,_,0,_,rfl,rfl,bX.of g1,at0 _ _,p,_,rfl,.inr (hq _),rfl,rfl,_,rfl,?_⟩
  rw [show inV (.str d.u) (ni.map V.str) = decide (d.u ∈ ni) from fK _ _]
  refine cV (fun e => ?_) (fun e => ?_)
  ·have : cz d b = true := (qp hR g4 b).mpr (.inl (of_decide_eq_true e))
   have kk := k H (.refl _)
   rw [this] at kk
   exact kk
  ·have e : ¬ d.u ∈ ni := fun z => e (decide_eq_true z)
   refine ⟨_,rfl,_,rfl,q,d.u,_,rfl,g1,hR.1.1,g2,fun l ms H' s' nl hl hlen Yh => ?_⟩
   refine ⟨l,_,rfl,.inl (aZ.of hl),rfl,eY ms,?_⟩
   have kk := k H' s'
   have e2 : cz d b = decide (b ∈ ms) := by
    rw [Bool.eq_iff_iff,decide_eq_true_iff,qp hR g4 b,Yh.2.2 b]
    exact ⟨fun z => z.elim (fun y => absurd y e) id,.inr⟩
   rw [e2,← hZ] at kk
   exact kk
def eM (H : Hp) (lr : Addr) (ds : List FR) : Prop := ∃ qs : List Addr,H lr = some (.lst (qs.map V.ref)) ∧ qs.length = ds.length ∧ ∀ (i : Nat) q d,qs[i]? = some q → ds[i]? = some d → dR H q d
theorem eM.same {H H' : Hp} {lr : Addr} {ds : List FR} (s : Same H H') (h : eM H lr ds) : eM H' lr ds := by
 obtain ⟨qs,a,b,c⟩ := h
 exact ⟨qs,s _ _ a,b,fun i q d h1 h2 => (c i q d h1 h2).same s⟩
theorem eM.get {H : Hp} {lr : Addr} {ds : List FR} {r : Nat} {d : FR} (h : eM H lr ds) (hd : ds[r]? = some d) : ∃ (qs : List Addr) (q : Addr),H lr = some (.lst (qs.map V.ref)) ∧ lM (qs.map V.ref) (r : Int) = some (.ref q) ∧ (qs.map V.ref)[r]? = some (.ref q) ∧ dR H q d := by
 obtain ⟨qs,a,b,c⟩ := h
 have hr := (List.getElem?_eq_some_iff.mp hd).1
 have hq : qs[r]? = some (qs[r]'(by omega)) := List.getElem?_eq_getElem _
 have hq' : (qs.map V.ref)[r]? = some (.ref (qs[r]'(by omega))) := by rw [List.getElem?_map,hq]; rfl
 exact ⟨qs,_,a,bJ hq',hq',c r _ d hq hd⟩
def oX : Sp := fun vs H Q _ => ∃ (lr : Addr) (ds : List FR) (r : Nat) (d : FR),vs = [.ref lr,.int (r : Int)] ∧ eM H lr ds ∧ ds[r]? = some d ∧ d.ts.length ≤ 16 ∧ ∀ (l : Addr) (ms : List Int) (H' : Hp),Same H H' → H l = none → H' l = some (.lst (ms.map V.int)) → ms.length ≤ 1000 → (∀ j,j ∈ ms ↔ j ∈ lN d r) → Q (.ref l) H'
theorem Ak : aG ["rows", "r"] ["rows", "r"] (ai jy) := ⟨rfl,rfl,rfl,by decide +kernel,rfl,by decide +kernel,by decide +kernel⟩
theorem xH {f fT fW : Addr} {fd FA xv : FuncData} (F : cY K "ways_ahead" "ways_ahead" jy f fd) (T : Txt K w.params mg) (GT : aK P w K mg base bM 1 fT FA ["row"] jE) (kT : KI K fT) (bT : Binds K FA ["row"] []) (mT : mg "targets_of" = some (.ref fT)) (GW : aK P w K mg base bM 2 fW xv ["rows", "r"] (xD (K := K))) (kW : KI K fW) (bW : Binds K xv ["rows", "r"] []) (mW : mg "ways_of" = some (.ref fW)) : aK P w K mg base bM 3 f fd ["rows", "r"] oX := by
 refine F.ok Ak (fun vs H Q E h => ?_) (fun cdv A outer s H vs Q E hr h => ?_)
 ·obtain ⟨lr,ds,r,d,rfl,_⟩ := h
  rfl
 ·obtain ⟨lr,ds,r,d,rfl,hR,hd,ht,k⟩ := h
  have hr1 := hr.mono (show 1 ≤ 2 by decide)
  obtain ⟨qs,q,g1,g2,Wm,g3⟩ := hR.get hd
  obtain ⟨items,i1,i2,i3,i4⟩ := g3.parts
  refine ⟨_,(ay (aQ (pK (aR kl (aI aS (aI aJ (pv 0) (pv 1) (fun _ _ => rfl)) ak (fun _ _ => rfl)) aY (bh _)) (aL GT hr1 (by rfl) mT kT bT .nil aP (ae (aI aJ (pv 0) (pv 1) (fun _ _ => rfl)) aj)) (aL GW hr (by rfl) mW kW bW .nil aP (ae (pv 0) (ae (pv 1) aj)))))),?_⟩
  refine ⟨_,rfl,_,rfl,lr,_,_,_,rfl,rfl,aZ.of g1,g2,q,_,0,_,rfl,rfl,bX.of i1,at0 _ _,rfl,_,rfl,?_⟩
  refine cV (fun e => ?_) (fun e => ?_)
  ·have e := strEq e
   refine ⟨_,rfl,_,rfl,lr,_,_,_,rfl,rfl,aZ.of g1,g2,q,d.u,d.ts,rfl,⟨items,i1,i3⟩,fun l H' s' nl hl => ?_⟩
   refine k l d.ts H' s' nl hl (by omega) fun j => ?_
   unfold lN
   rw [if_pos (.inl e)]
  ·have e := BK e
   refine ⟨_,rfl,_,rfl,lr,q,_,r,d.u,d.ts,rfl,aZ.of g1,Wm,⟨items,i1,i3⟩,ht,fun l ms H' s' nl hl hp hn hm => ?_⟩
   have hms : ms.length ≤ 17 := by
    have hsub : ms ⊆ d.ts ++ [(r : Int) + 1] := fun j hj => by
     rw [mem_append,mem_singleton]
     exact ((hm j).mp hj).imp id fun z => z.2
    have := ia hn hsub
    rw [length_append,length_singleton] at this
    omega
   refine k l ms H' s' nl hl (by omega) fun j => ?_
   rw [hm j]
   unfold lN
   by_cases hn : d.u ∈ bZ
   ·rw [if_pos (.inr hn)]
    exact ⟨fun z => z.elim id fun y => absurd hn y.1,.inl⟩
   ·rw [if_neg (fun z => z.elim e hn),mem_append,mem_singleton]
    exact ⟨fun z => z.imp id fun y => y.2,fun z => z.imp id fun y => ⟨hn,y⟩⟩
def df (H : Hp) (lc : Addr) (cl : List (List Int)) : Prop := ∃ cs : List V,H lc = some (.lst cs) ∧ cs.length = cl.length ∧ ∀ (i : Nat) c ms,cs[i]? = some c → cl[i]? = some ms → eB H c ms
theorem df.same {H H' : Hp} {lc : Addr} {cl : List (List Int)} (s : Same H H') (h : df H lc cl) : df H' lc cl := by
 obtain ⟨cs,a,b,c⟩ := h
 exact ⟨cs,s _ _ a,b,fun i x ms h1 h2 => (c i x ms h1 h2).same s⟩
def tJ : Sp := fun vs H Q _ => ∃ (lr lc : Addr) (ds : List FR) (cl : List (List Int)) (r : Nat) (d : FR) (b : Int),vs = [.ref lr,.ref lc,.int (r : Int),.int b] ∧ eM H lr ds ∧ df H lc cl ∧ ds[r]? = some d ∧ d.ts.length ≤ 16 ∧ (∀ s ∈ lN d r,0 ≤ s ∧ s < cl.length) ∧ ∀ H',Same H H' → Q (.bl (dC d cl r b)) H'
theorem Al : aG ["rows", "claims", "r", "box"] ["rows", "claims", "r", "box"] (ai iE) := ⟨rfl,rfl,rfl,by decide +kernel,rfl,by decide +kernel,by decide +kernel⟩
def vk : Scope := { kind := .function,names := [(".0",.local),("s",.local),("box",.free),("claims",.free)],isGenerator := false,isCoroutine := false,more := [] }
theorem nI : cH (ai iE) vk ["rows", "claims", "r", "box"] ["s", "box", "claims"] [none,some 3,some 1] := ⟨rfl,by decide +kernel,by decide +kernel,by decide +kernel,by decide +kernel,by decide +kernel⟩
theorem xI {f fN fW fA : Addr} {fd nu xv xJ : FuncData} (F : cY K "is_right" "is_right" iE f fd) (T : Txt K w.params mg) (GN : aK P w K mg base bM 2 fN nu ["row", "box"] oW) (kN : KI K fN) (bN : Binds K nu ["row", "box"] []) (mN : mg "needs_at_once" = some (.ref fN)) (GW : aK P w K mg base bM 1 fW xv ["row"] lh) (kW : KI K fW) (bW : Binds K xv ["row"] []) (mW : mg "writes_of" = some (.ref fW)) (GA : aK P w K mg base bM 3 fA xJ ["rows", "r"] oX) (kA : KI K fA) (bA : Binds K xJ ["rows", "r"] []) (mA : mg "ways_ahead" = some (.ref fA)) : aK P w K mg base bM 4 f fd ["rows", "claims", "r", "box"] tJ := by
 refine F.ok Al (fun vs H Q E h => ?_) (fun cdv A outer s H vs Q E hr h => ?_)
 ·obtain ⟨lr,lc,ds,cl,r,d,b,rfl,_⟩ := h
  rfl
 ·obtain ⟨lr,lc,ds,cl,r,d,b,rfl,hR,hC,hd,ht,hin,k⟩ := h
  have hr1 := hr.mono (show 1 ≤ _ by decide)
  have KR := hr.mono (show 2 ≤ _ by decide)
  obtain ⟨qs,q,g1,g2,Wm,g3⟩ := hR.get hd
  refine ⟨_,(aH (cI (fc (aL GN KR (by rfl) mN kN bN .nil aP (ae (aI aJ (pv 0) (pv 2) (fun _ _ => rfl)) (ae (pv 3) aj)))) (ay (aQ fZ)) aW)
   (ay (aQ (Bz (eJ dB (pv 3) (aL GW hr1 (by rfl) mW kW bW .nil aP (ae (aI aJ (pv 0) (pv 2) (fun _ _ => rfl)) aj)) rfl) (oo (aU (jv rfl) (by rfl) T.all rP (ae (dW (N' := ["s", "box", "claims"]) (fr := [none,some 3,some 1]) nI rfl (eG (aL GA hr (by rfl) mA kA bA .nil aP (ae (pv 0) (ae (pv 2) aj)))) (fun C s0 H0 fp => (bp (i := 0) nI.nd rfl (Or.inl rfl))) (fun C s0 H0 fp => dn) (fun C s0 H0 fp => (eJ (r := Jf K false) dB (pv 1) (aI (r := wj K) aJ (pv 2) (pv 0) (fun _ _ => rfl)) rfl))) aj))))))),?_⟩
  refine ⟨_,rfl,_,rfl,lr,_,_,_,rfl,rfl,aZ.of g1,g2,_,rfl,q,b,d,rfl,g3,fun H1 s1 => ⟨_,rfl,?_⟩⟩
  refine cV (fun e => ?_) (fun e => ?_)
  ·have kk := k H1 s1
   unfold dC at kk
   rw [e] at kk
   exact kk
  ·have e : cz d b = false := by simpa using e
   unfold dC at k
   rw [e] at k
   obtain ⟨items,i1,i2,i3,i4⟩ := (g3.same s1).parts
   refine ⟨_,rfl,_,rfl,_,rfl,lr,_,_,_,rfl,rfl,aZ.of (s1 _ _ g1),g2,q,d.u,items,rfl,i1,i2,fun l ms H2 s2 nl hl hw => ?_⟩
   refine ⟨l,_,rfl,.inl (aZ.of hl),rfl,eY ms,_,rfl,?_⟩
   have s12 := s1.trans s2
   rw [show inV (.int b) (ms.map V.int) = jY d b from (hZ _ _).trans (nG i2 i4 hw b)]
   refine cV (fun e2 => ?_) (fun e2 => ?_)
   ·have e2 : jY d b = true := e2
    have kk := k H2 s12
    rw [e2] at kk
    exact kk
   ·have e2 : jY d b = false := by simpa using e2
    rw [e2] at k
    obtain ⟨cs,c1,c2,c3⟩ := hC
    refine ⟨_,rfl,_,rfl,lr,ds,r,d,rfl,hR.same s12,hd,ht,fun la as H3 s3 nla hla hal ham => ?_⟩
    have KS := s12.trans s3
    have Yi := KS _ _ c1
    refine ⟨la,rfl,⟨_,aZ.of hla⟩,fun D nD => gY (K := K) (a := la) (xs := as.map V.int) (fun i σ ys H4 => ∃ v : Option V,σ = [v,some (.int b),some (.ref lc)] ∧ ys = ((as.take i).map (qo cl b)).map V.bl ∧ Same H3 H4 ∧ H4 D = some (.lst ys)) ?_ ?_ ?_ ?_⟩
    ·exact ⟨none,rfl,rfl,ao nD,ah⟩
    ·rintro i σ ys H4 _ ⟨v,rfl,rfl,s4,_⟩
     exact aZ.of (s4 _ _ hla)
    ·rintro i x σ ys H4 hx ⟨v,rfl,rfl,s4,hD⟩
     rw [List.getElem?_map] at hx
     obtain ⟨j,hj,rfl⟩ := map_eq_some_iff.mp hx
     have hil := (List.getElem?_eq_some_iff.mp hj).1
     obtain ⟨h0,h1⟩ := hin j ((ham j).mp (List.mem_of_getElem? hj))
     obtain ⟨jn,rfl⟩ := Int.eq_ofNat_of_zero_le h0
     have hjn : jn < cl.length := by omega
     have hcl : cl[jn]? = some cl[jn] := List.getElem?_eq_getElem hjn
     have hcs : cs[jn]? = some (cs[jn]'(by omega)) := List.getElem?_eq_getElem _
     obtain ⟨qc,FC,hq1,_⟩ := c3 jn _ _ hcs hcl
     rw [FC] at hcs
     have KU : qo cl b ((jn : Nat) : Int) = decide (b ∈ cl[jn]) := by
      unfold qo
      rw [Int.toNat_natCast,hcl]
     refine ⟨_,rfl,_,rfl,_,rfl,lc,_,_,_,rfl,rfl,aZ.of (s4 _ _ Yi),bJ (j := jn) hcs,qc,_,rfl,.inr (bX.of (s4 _ _ (KS _ _ hq1))),rfl,eY _,hD,?_,_,rfl,?_,bU s4 nD,ah⟩
     ·rw [length_map,length_map,length_take]
      exact cg (by omega)
     ·rw [take_add_one,hj,map_append,map_append]
      show _ = _ ++ [V.bl (qo cl b ((jn : Nat) : Int))]
      rw [KU,← hZ]
      rfl
    ·rintro σ ys H4 ⟨v,rfl,rfl,s4,hD⟩
     rw [length_map,take_length] at hD
     refine ⟨D,_,rfl,aZ.of hD,?_⟩
     have kk := k H4 (KS.trans s4)
     have e3 : (lN d r).all (qo cl b) = (as.map (qo cl b)).all id := by
      rw [Bool.eq_iff_iff,all_eq_true,all_eq_true]
      exact ⟨fun z y hy => by obtain ⟨j,hj,rfl⟩ := mem_map.mp hy; exact z j ((ham j).mp hj),fun z j hj => z _ (mem_map.mpr ⟨j,(ham j).mpr hj,rfl⟩)⟩
     rw [e3] at kk
     exact kk
end
theorem rT {X : Cx} {K : Frag} (hK : X.K = K) {i j : Nat} {x y : Str} {px py pt : Pos} {k : Nat} (hc : X.calm = true) (hN : X.N.Nodup) (hi : X.N[i]? = some x) (hx : Loc X.env.scope x) (hj : X.N[j]? = some y) (hy : Loc X.env.scope y)
  (hf : X.fn x = true ∨ X.env.scope.names.lookup x = some .local := by first | exact .inl rfl | exact .inr rfl) (hf2 : X.fn y = true ∨ X.env.scope.names.lookup y = some .local := by first | exact .inl rfl | exact .inr rfl) :
  PG X (.Tuple [.Name x px,.Name y py] k pt) (Et K 2 (vQ (pM i) (vQ (pM j) Es))) := hK ▸ Cv (n := 2) hc (pN (bp hN hi hx hf) (pN (bp hN hj hy hf2) zl))
def lq (ds : List FR) (cl : List (List Int)) (r : Nat) : Bool := match ds[r]?,cl[r]? with
 | some d,some c => c.any fun b => !dC d cl r b
 | _,_ => false
def firstBad (ds : List FR) (cl : List (List Int)) : Option Nat := (List.range ds.length).find? (lq ds cl)
def lu (ds : List FR) : Prop := ∀ (r : Nat) d,ds[r]? = some d → d.ts.length ≤ 16 ∧ ∀ s ∈ lN d r,0 ≤ s ∧ s < ds.length
theorem vm {ds : List FR} {cl : List (List Int)} {r : Nat} (hr : r < ds.length) (h : lq ds cl r = true) (hlt : ∀ j,j < r → lq ds cl j = false) : firstBad ds cl = some r := by
 unfold firstBad
 rw [List.find?_range_eq_some]
 exact ⟨h,mem_range.mpr hr,fun j hj => by rw [hlt j hj]; rfl⟩
theorem xK {ds : List FR} {cl : List (List Int)} (h : ∀ j,j < ds.length → lq ds cl j = false) : firstBad ds cl = none := by
 unfold firstBad
 rw [List.find?_eq_none]
 intro j hj
 rw [h j (mem_range.mp hj)]
 decide
section
variable {P : Program} {w : World} {K : Frag} {mg : Str → Option Value} {base : Heap}
def xM (Dm : Addr) : Sp := fun vs H Q E => ∃ (lr lc : Addr) (ds : List FR) (cl : List (List Int)),vs = [.ref lr,.ref lc] ∧ eM H lr ds ∧ df H lc cl ∧ cl.length = ds.length ∧ ds.length ≤ 3000 ∧ lu ds ∧
 (firstBad ds cl = none → ∀ H',Same H H' → Q .non H') ∧ ∀ r,firstBad ds cl = some r → ∀ H' d,Same H H' → H' d = some (.xd [("at",.int (r : Int))]) → E (.ref Dm) (some d) H'
theorem rV : aG ["rows", "claims", "r", "claim"] ["rows", "claims"] (ai jP) := ⟨rfl,rfl,rfl,by decide +kernel,rfl,by decide +kernel,by decide +kernel⟩
def xN : Scope := { kind := .function,names := [(".0",.local),("box",.local),("is_right",.globalImplicit),("claims",.free),("r",.free),("rows",.free)],isGenerator := false,isCoroutine := false,more := [] }
theorem qq : cH (ai jP) xN ["rows", "claims", "r", "claim"] ["box", "rows", "claims", "r"] [none,some 0,some 1,some 2] := ⟨rfl,by decide +kernel,by decide +kernel,by decide +kernel,by decide +kernel,by decide +kernel⟩
theorem Am {f fL fR Dm R fI : Addr} {fd FD BM FE : FuncData} (F : cY K "check_free" "check_free" jP f fd) (T : Txt K w.params mg) (GL : aK P w K mg base bM 3 fL FD ["thing"] (tI (K := K))) (kL : KI K fL) (bL : Binds K FD ["thing"] []) (mL : mg "is_claim" = some (.ref fL)) (GR : aK P w K mg base bM 4 fR BM ["rows", "claims", "r", "box"] tJ) (kR : KI K fR) (bR : Binds K BM ["rows", "claims", "r", "box"] []) (mR : mg "is_right" = some (.ref fR))
  (cx : fz K Dm R fI) (kC : KI K Dm) (GI : aK P w K mg base bM 1 fI FE ["self", "at"] (w6 Dm)) (bI : Binds K FE ["self", "at"] []) (Ao : mg "NoFree" = some (.ref Dm)) : aK P w K mg base (rK P w) 5 f fd ["rows", "claims"] (xM Dm) := by
 refine F.X2 rV (fun vs H Q E h => ?_) (fun cdv A outer s H vs Q E hr h => ?_)
 ·obtain ⟨lr,lc,ds,cl,rfl,_⟩ := h
  rfl
 ·obtain ⟨lr,l,ds,cl,rfl,hR,hC,hlen,hn,hP,hq,hE⟩ := h
  have hr2 := hr.mono (show 2 ≤ 4 by decide)
  have Yj := hr.mono (show 3 ≤ 4 by decide)
  refine ⟨_,(aH (cI (jg (fc (aU eK (by rfl) T.Jj oR (ae (pv 1) (ae (j0 (v := .ty "list") (by rfl) T.list dY rfl) aj))))) (ay (hU cx kC GI bI hr2 Ao (by rfl) (ae ak aj))) aW)
   (aH (dO PassesOwn.leaving rfl (cM rfl T.range (ae (aU aX (by rfl) T.len cX (ae (pv 0) aj)) aj)) (bp (i := 2) rV.nd rfl (Or.inr rfl)) (ay (cI (kj (aR Ez (pv 2) (aU aX (by rfl) T.len cX (ae (pv 1) aj)) (bh _)) (kh (jg (fc (aL GL Yj (by rfl) mL kL bL .nil aP (ae (aI aJ (pv 1) (pv 2) (fun _ _ => rfl)) aj)))))).pt (ay (hU cx kC GI bI hr2 Ao (by rfl) (ae (pv 2) aj))) aW)))
   (aH (cI (aR sG (aU aX (by rfl) T.len cX (ae (pv 1) aj)) (aU aX (by rfl) T.len cX (ae (pv 0) aj)) (bh _)) (ay (hU cx kC GI bI hr2 Ao (by rfl) (ae (aU aX (by rfl) T.len cX (ae (pv 0) aj)) aj))) aW)
   (ay (dO PassesOwn.leaving rfl (sZ rfl T.enum (ae (pv 1) aj)) (rT (K := K) (i := 2) (j := 3) rfl rfl rV.nd rfl (Or.inr rfl) rfl (Or.inl rfl)) (ay (cI (jg (fc (aU (jv rfl) (by rfl) T.all rP (ae (dW (X := (gj (rK P w) P w K mg base ["rows", "claims", "r", "claim"] "check_free" (ai jP) f cdv A outer s H E)) (N' := ["box", "rows", "claims", "r"]) (fr := [none,some 0,some 1,some 2]) qq rfl (iy (pv 3)) (fun C s0 H0 fp => (bp (i := 0) qq.nd rfl (Or.inl rfl))) (fun C s0 H0 fp => dn) (fun C s0 H0 fp => (aL GR hr (by rfl) mR kR bR .nil aP (ae (pv 1) (ae (pv 2) (ae (pv 3) (ae (pv 0) aj))))))) aj)))) (ay (hU cx kC GI bI hr2 Ao (by rfl) (ae (pv 2) aj))) aW))))))),?_⟩
  obtain ⟨qs,g1,g2,g3⟩ := id hR
  obtain ⟨cs,c1,c2,c3⟩ := id hC
  have KW : ∀ {r : Nat},r < 3000 → ((r : Int)).natAbs < 10 ^ 12 := fun {r} h => by omega
  have gd : ∀ j,j < ds.length → ∃ x ms,cs[j]? = some x ∧ cl[j]? = some ms ∧ eB H x ms := fun j hj => by
   have h1 : cs[j]? = some (cs[j]'(by omega)) := List.getElem?_eq_getElem _
   have h2 : cl[j]? = some (cl[j]'(by omega)) := List.getElem?_eq_getElem _
   exact ⟨_,_,h1,h2,c3 j _ _ h1 h2⟩
  refine ⟨_,rfl,_,_,_,_,rfl,.lst c1,ql,_,rfl,jD (by decide) ?_⟩
  refine ⟨_,rfl,lr,_,rfl,.inl (aZ.of g1),_,rfl,by rw [length_map]; omega,by rw [length_map]; omega,eT (n := (((qs.map V.ref).length : Nat) : Int).toNat) (fun i σ H6 => ∃ v2 : Option V,σ = [some (.ref lr),some (.ref l),v2,none] ∧ Same H H6) ?_ ?_ ?_⟩
  ·exact ⟨none,rfl,.refl _⟩
  ·rintro i σ H6 hi ⟨v2,rfl,s6⟩
   have hin : i < ds.length := by
    rw [Int.toNat_natCast,length_map,g2] at hi
    exact hi
   obtain ⟨x,ms,hx,_,hg⟩ := gd i hin
   refine ⟨_,rfl,_,rfl,l,_,rfl,.inl (aZ.of (s6 _ _ c1)),_,_,rfl,rfl,_,rfl,?_⟩
   refine jD (fun z => absurd (of_decide_eq_true z) (by omega)) ?_
   refine ⟨_,rfl,_,rfl,l,_,_,x,rfl,rfl,aZ.of (s6 _ _ c1),(by rw [Int.zero_add]; exact bJ hx),x,true,rfl,.inl ⟨rfl,ms,hg.same s6⟩,fun H7 s7 => ⟨_,rfl,jD (by decide) ?_⟩⟩
   exact ⟨_,rfl,s6.trans s7⟩
  ·rintro σ H6 ⟨v2,rfl,s6⟩
   have h6 := s6 _ _ c1
   have Yk := s6 _ _ g1
   refine ⟨_,rfl,l,_,rfl,.inl (aZ.of h6),_,rfl,lr,_,rfl,.inl (aZ.of Yk),_,_,rfl,rfl,_,rfl,?_⟩
   refine jD (fun z => absurd (of_decide_eq_true z) (by rw [length_map]; omega)) ?_
   refine ⟨_,rfl,l,rfl,⟨_,aZ.of h6⟩,wQ (xs := cs) (fun i σ H7 => i ≤ ds.length ∧ (∀ j,j < i → lq ds cl j = false) ∧ ∃ v2 v3 : Option V,σ = [some (.ref lr),some (.ref l),v2,v3] ∧ Same H H7) ?_ ?_ ?_ ?_⟩
   ·exact ⟨Nat.zero_le _,fun j hj => absurd hj (by omega),_,_,rfl,s6⟩
   ·rintro i σ H7 hi ⟨_,_,v2,v3,rfl,s7⟩
    exact aZ.of (s7 _ _ c1)
   ·rintro i x σ H7 tt hx Yl ⟨_,hlt,v2,v3,rfl,s7⟩
    have hic := (List.getElem?_eq_some_iff.mp hx).1
    have hid : i < ds.length := by omega
    obtain ⟨x',ms,hx',hms,hg⟩ := gd i hid
    rw [hx] at hx'
    cases hx'
    have hd : ds[i]? = some ds[i] := List.getElem?_eq_getElem hid
    generalize ds[i] = d at hd
    obtain ⟨p1,p2⟩ := hP i d hd
    have D8 := s7.trans (ao (o := .tup [V.int i,x]) Yl)
    have htt : upd H7 tt (.tup [V.int i,x]) tt = _ := ah
    generalize upd H7 tt (.tup [V.int i,x]) = H8 at D8 htt ⊢
    refine ⟨tt,_,rfl,bX.of htt,rfl,_,_,rfl,_,_,rfl,rfl,?_⟩
    obtain ⟨q,rfl,Dn,hr8,_,_,h64⟩ := hg
    refine ⟨_,rfl,q,rfl,⟨_,bX.of (D8 _ _ Dn)⟩,fun D nD => eV (K := K) (a := q) (xs := ms.map V.int) (fun j σ ys H9 => ∃ v : Option V,σ = [v,some (.ref lr),some (.ref l),some (.int (i : Int))] ∧ ys = ((ms.take j).map (dC d cl i)).map V.bl ∧ Same H8 H9 ∧ H9 D = some (.lst ys)) ?_ ?_ ?_ ?_⟩
    ·exact ⟨none,rfl,rfl,ao nD,ah⟩
    ·rintro j σ ys H9 _ ⟨v,rfl,rfl,s9,_⟩
     exact bX.of (s9 _ _ (D8 _ _ Dn))
    ·rintro j y σ ys H9 hy ⟨v,rfl,rfl,s9,hD⟩
     rw [List.getElem?_map] at hy
     obtain ⟨b,hb1,rfl⟩ := map_eq_some_iff.mp hy
     have hjl := (List.getElem?_eq_some_iff.mp hb1).1
     have t9 := D8.trans s9
     refine ⟨_,rfl,_,rfl,_,rfl,_,rfl,lr,l,ds,cl,i,d,b,rfl,hR.same t9,hC.same t9,hd,p1,fun s hs => by rw [hlen]; exact p2 s hs,fun Jh zf => ⟨zf _ _ hD,?_,_,rfl,?_,bU (s9.trans zf) nD,ah⟩⟩
     ·rw [length_map,length_map,length_take]
      exact cg (by omega)
     ·rw [take_add_one,hb1,map_append,map_append]
      rfl
    ·rintro σ ys H9 ⟨v,rfl,rfl,s9,hD⟩
     rw [length_map,take_length] at hD
     refine ⟨D,_,rfl,aZ.of hD,_,rfl,?_⟩
     have hbad : lq ds cl i = !((ms.map (dC d cl i)).all id) := by
      unfold lq
      rw [hd,hms]
      show (ms.any fun b => !dC d cl i b) = _
      rw [List.all_map,Bool.eq_iff_iff,List.any_eq_true]
      simp
     refine cV (fun e => ?_) (fun e => ?_)
     ·have hb : lq ds cl i = true := by rw [hbad]; exact e
      exact ⟨_,rfl,_,rfl,KW (by omega),fun dd nd => hE i (vm hid hb hlt) _ dd ((D8.trans s9).trans (ao nd)) ah⟩
     ·have hb : lq ds cl i = false := by
       rw [hbad]
       exact Bool.eq_false_iff.mpr e
      refine ⟨hid,fun j hj => ?_,_,_,rfl,D8.trans s9⟩
      rcases Nat.lt_or_eq_of_le (Nat.le_of_lt_succ hj) with z | z
      ·exact hlt j z
      ·rw [z]; exact hb
   ·rintro σ H7 ⟨_,hlt,v2,v3,rfl,s7⟩
    exact hq (xK fun j hj => hlt j (by omega)) _ s7
end
theorem i5 {X : Cx} : iL X (binaryOp .FloorDiv) (rI (fun _ j => 0 < j ∧ j < 18446744073709551616) fun i j => .int (i / j)) := Je fun i j _ _ _ _ _ hc q => by
 have h1 : (0 : Int) < j := hc.1
 have h2 : j < 18446744073709551616 := hc.2
 refine PyProof.Rows.floordiv_int (by omega) (by rw [Int.fdiv_eq_ediv_of_nonneg i (by omega)]; exact q) (.inl (PyProof.noPylong_of_log2 ?_))
 have h3 : j.natAbs.log2 < 64 := (Nat.log2_lt (by omega)).mpr (by omega)
 omega
def lO (H : Hp) (a : Addr) : Prop := ∃ x y z : Int,H a = some (.lst [.int x,.int y,.int z])
def aM (a : Addr) (H H' : Hp) : Prop := ∀ c o,c ≠ a → H c = some o → H' c = some o
theorem aM.trans {a : Addr} {H H' Wn : Hp} (e : aM a H H') (e' : aM a H' Wn) : aM a H Wn := fun c o n h => e' c o n (e c o n h)
theorem aM.put {a : Addr} {H : Hp} {o : HO} : aM a H (upd H a o) := fun c u n h => by rw [aw n]; exact h
theorem aM.of {a : Addr} {H H1 H2 : Hp} (e : Same H H1) (n : H a = none) (x : aM a H1 H2) : Same H H2 := fun c o h => x c o (aq h n) (e c o h)
theorem aM.same {a : Addr} {H H' : Hp} (e : Same H H') : aM a H H' := fun c o _ h => e c o h
theorem i6 (ws : List Str) (d c : Int) (h0 : c ≤ d) (h1 : d < c + ws.length) : ∃ u,u ∈ ws ∧ lM (ws.map V.str) (d - c) = some (.str u) := by
 obtain ⟨j,hj⟩ := Int.eq_ofNat_of_zero_le (show 0 ≤ d - c by omega)
 have hl : j < ws.length := by omega
 refine ⟨ws[j],List.getElem_mem hl,?_⟩
 rw [hj]
 refine bJ (j := j) ?_
 rw [List.getElem?_map,List.getElem?_eq_getElem hl]
 rfl
theorem aM.new {l : Addr} {H H1 : Hp} {q : Addr} {o : HO} (x : aM l H H1) (n : H1 q = none) : aM l H (upd H1 q o) := x.trans (.same (ao n))
theorem aM.free {l : Addr} {H H1 : Hp} {q : Addr} (x : aM l H H1) (h : q ≠ l) (n : H1 q = none) : H q = none := by
 cases e : H q with
 | none => rfl
 | some o => rw [x q o h e] at n; exact absurd n (by simp)
theorem lO.ne {H : Hp} {l q : Addr} (h : lO H l) (n : H q = none) : q ≠ l := by
 rintro rfl
 obtain ⟨_,_,_,h⟩ := h
 rw [h] at n
 exact absurd n (by simp)
theorem lO.upd {H : Hp} {l q : Addr} {o : HO} (h : lO H l) (n : q ≠ l) : lO (upd H q o) l := by
 obtain ⟨x,y,z,h⟩ := h
 exact ⟨x,y,z,by rw [aw n.symm]; exact h⟩
theorem lO.new {H : Hp} {l q : Addr} {o : HO} (h : lO H l) (n : H q = none) : lO (L2.upd H q o) l := h.upd (h.ne n)
def iG (u : Str) : Prop := u ∈ i0 ∧ ¬ u = "table" ∧ ¬ u ∈ eS ∧ ¬ u ∈ zb
instance {u : Str} : Decidable (iG u) := by unfold iG; infer_instance
theorem i7 {H : Hp} {q : Addr} {u : Str} {b c : Int} (hu : iG u) (h : H q = some (.tup [.str u,.int b,.int c])) : dR H q ⟨u,[b,c],[]⟩ :=
 ⟨⟨hu.1,fun z => absurd z hu.2.1,fun z => absurd z hu.2.2.1,fun z => absurd z hu.2.2.2,fun _ _ _ => rfl,fun _ => ⟨b,c,rfl⟩,fun _ => ⟨b,[c],rfl⟩⟩,.inr ⟨hu.2.1,h⟩⟩
theorem tK {H : Hp} {q : Addr} {u : Str} {b : Int} (hu : iG u ∧ ¬ u ∈ w2) (h : H q = some (.tup [.str u,.int b])) : dR H q ⟨u,[b],[]⟩ :=
 ⟨⟨hu.1.1,fun z => absurd z hu.1.2.1,fun z => absurd z hu.1.2.2.1,fun z => absurd z hu.1.2.2.2,fun _ _ _ => rfl,fun z => absurd z hu.2,fun _ => ⟨b,[],rfl⟩⟩,.inr ⟨hu.1.2.1,h⟩⟩
theorem oY {H : Hp} {q : Addr} {u : Str} (hu : iG u ∧ ¬ u ∈ w2 ∧ ¬ u ∈ w1) (h : H q = some (.tup [.str u])) : dR H q ⟨u,[],[]⟩ :=
 ⟨⟨hu.1.1,fun z => absurd z hu.1.2.1,fun z => absurd z hu.1.2.2.1,fun z => absurd z hu.1.2.2.2,fun _ _ _ => rfl,fun z => absurd z hu.2.1,fun z => absurd z hu.2.2⟩,.inr ⟨hu.1.2.1,h⟩⟩
theorem tL {H : Hp} {q : Addr} {u : Str} {t f : Int} (hu : u ∈ eS) (h : H q = some (.tup [.str u,.int t,.int f])) : dR H q ⟨u,[t,f],[t]⟩ := by
 have hw := (by decide : ∀ u ∈ eS,u ∈ i0 ∧ ¬ u = "table" ∧ ¬ u ∈ zb ∧ ¬ u ∈ w2 ∧ ¬ u ∈ w1) u hu
 exact ⟨⟨hw.1,fun z => absurd z hw.2.1,fun _ => ⟨t,f,rfl,rfl⟩,fun z => absurd z hw.2.2.1,fun _ z => absurd hu z,fun z => absurd z hw.2.2.2.1,fun z => absurd z hw.2.2.2.2⟩,.inr ⟨hw.2.1,h⟩⟩
theorem Dp {H : Hp} {q : Addr} {u : Str} {b t f : Int} (hu : u ∈ zb) (h : H q = some (.tup [.str u,.int b,.int t,.int f])) : dR H q ⟨u,[b,t,f],[t]⟩ := by
 have hw := (by decide : ∀ u ∈ zb,u ∈ i0 ∧ ¬ u = "table" ∧ ¬ u ∈ eS ∧ ¬ u ∈ w2) u hu
 exact ⟨⟨hw.1,fun z => absurd z hw.2.1,fun z => absurd z hw.2.2.1,fun _ => ⟨b,t,f,rfl,rfl⟩,fun _ _ z => absurd hu z,fun z => absurd z hw.2.2.2,fun _ => ⟨b,_,rfl⟩⟩,.inr ⟨hw.2.1,h⟩⟩
theorem vn {H : Hp} {q p : Addr} {b : Int} {ts : List Int} (h : H q = some (.tup [.str "table",.int b,.ref p])) (hp : H p = some (.tup (ts.map V.int))) : dR H q ⟨"table",[b],ts⟩ :=
 ⟨⟨(by decide : ("table" : Str) ∈ i0),fun _ => ⟨b,rfl⟩,fun z => absurd z (by decide : ¬ ("table" : Str) ∈ eS),fun z => absurd z (by decide : ¬ ("table" : Str) ∈ zb),fun z => absurd rfl z,fun z => absurd z (by decide : ¬ ("table" : Str) ∈ w2),fun _ => ⟨b,[],rfl⟩⟩,.inl ⟨rfl,b,p,rfl,h,hp⟩⟩
def Bx (b : Int) : Prop := 0 ≤ b ∧ b < 8
def vI (u : Str) : Nat := if u ∈ (["stop", "back"] : List Str) then 0 else if u ∈ (["halt", "tell", "table"] : List Str) then 1 else if u ∈ zb then 3 else 2
def tM (d : FR) : Prop := d.is.length = vI d.u ∧ (d.u ∈ w2 → ∀ b ∈ d.is,Bx b) ∧ (d.u ∈ w1 → ∀ b r,d.is = b :: r → Bx b)
theorem oZ {u : Str} {b c : Int} (ha : vI u = 2) (hb : Bx b) (hc : Bx c) : tM ⟨u,[b,c],[]⟩ := ⟨ha.symm,fun _ x hx => by rcases mem_cons.mp hx with rfl | hx; exact hb; rw [mem_singleton.mp hx]; exact hc,fun _ x r e => by cases e; exact hb⟩
theorem tN {b v : Int} (hb : Bx b) : tM ⟨"set",[b,v],[]⟩ := ⟨rfl,fun z => absurd z (by decide : ¬ ("set" : Str) ∈ w2),fun _ x r e => by cases e; exact hb⟩
theorem tO {u : Str} {b : Int} (ha : vI u = 1) (hb : Bx b) : tM ⟨u,[b],[]⟩ := ⟨ha.symm,fun _ x hx => by rw [mem_singleton.mp hx]; exact hb,fun _ x r e => by cases e; exact hb⟩
theorem o8 {u : Str} (ha : vI u = 0) : tM ⟨u,[],[]⟩ := ⟨ha.symm,fun _ x hx => by simp at hx,fun _ x r e => by cases e⟩
theorem tP {u : Str} {t f : Int} (hu : u ∈ eS) : tM ⟨u,[t,f],[t]⟩ := by
 have h := (by decide : ∀ u ∈ eS,vI u = 2 ∧ ¬ u ∈ w1 ∧ ¬ u ∈ w2) u hu
 exact ⟨h.1.symm,fun z => absurd z h.2.2,fun z => absurd z h.2.1⟩
theorem Dq {u : Str} {b t f : Int} (hu : u ∈ zb) (hb : Bx b) : tM ⟨u,[b,t,f],[t]⟩ := by
 have h := (by decide : ∀ u ∈ zb,vI u = 3 ∧ ¬ u ∈ w2) u hu
 exact ⟨h.1.symm,fun z => absurd z h.2,fun _ x r e => by cases e; exact hb⟩
theorem Ap {b : Int} {ts : List Int} (hb : Bx b) : tM ⟨"table",[b],ts⟩ := ⟨rfl,fun z => absurd z (by decide : ¬ ("table" : Str) ∈ w2),fun _ x r e => by cases e; exact hb⟩
def BO (H : Hp) (q : Addr) (n : Int) : Prop := ∃ d : FR,dR H q d ∧ d.ts.length ≤ 16 ∧ (∀ t ∈ d.ts,0 ≤ t ∧ t < n) ∧ tM d
section
variable {P : Program} {w : World} {K : Frag} {mg : Str → Option Value} {base : Heap}
def rW : Sp := fun vs H Q _ => ∃ (a : Addr) (ns : List Int) (k : Int),vs = [.ref a,.int k] ∧ aZ K H a (ns.map V.int) ∧ 0 ≤ k ∧ ∀ c : Int,Q (.int c) H
theorem Dr : aG ["_law_script", "_law_k"] ["_law_script", "_law_k"] (ai nh) := ⟨rfl,rfl,rfl,by decide +kernel,rfl,by decide +kernel,by decide +kernel⟩
theorem Aq {f : Addr} {fd : FuncData} (F : cY K "_law_cell_at" "_law_cell_at" nh f fd) (T : Txt K w.params mg) : aK P w K mg base bM 1 f fd ["_law_script", "_law_k"] (rW (K := K)) := by
 refine F.ok Dr (fun vs H Q E h => ?_) (fun cdv A outer s H vs Q E hr h => ?_)
 ·obtain ⟨a,ns,k,rfl,_⟩ := h
  rfl
 ·obtain ⟨a,ns,k,rfl,hS,hk,q⟩ := h
  refine ⟨_,aH (cI (aR ik (pv 1) (aU aX (by rfl) T.len cX (ae (pv 0) aj)) (bh _)) (ay (aQ (aI aJ (pv 0) (pv 1) (fun _ _ => rfl)))) aW)
   (ay (aQ ak)),?_⟩
  refine ⟨_,rfl,_,rfl,a,_,rfl,.inl hS,_,_,rfl,rfl,_,rfl,?_⟩
  refine cV (fun h1 => ?_) (fun h1 => ?_)
  ·have h1 := of_decide_eq_true h1
   rw [length_map] at h1
   obtain ⟨j,rfl⟩ := Int.eq_ofNat_of_zero_le hk
   have hj : j < ns.length := by omega
   refine ⟨_,rfl,_,rfl,a,_,_,.int ns[j],rfl,rfl,hS,bJ (j := j) ?_,q _⟩
   rw [List.getElem?_map,List.getElem?_eq_getElem hj]
   rfl
  ·exact q 0
def i9 : Sp := fun vs H Q _ => ∃ (a : Addr) (b : Int),vs = [.ref a,.int b] ∧ lO H a ∧ 0 < b ∧ b < 18446744073709551616 ∧ ∀ (d : Int) (H' : Hp),0 ≤ d → d < b → lO H' a → aM a H H' → Q (.int d) H'
theorem j7 : aG ["_law_state", "_law_base", "_law_found", "_law_number_here"] ["_law_state", "_law_base"] (ai jz) := ⟨rfl,rfl,rfl,by decide +kernel,rfl,by decide +kernel,by decide +kernel⟩
theorem xO {f : Addr} {fd : FuncData} (F : cY K "_law_digit" "_law_digit" jz f fd) (T : Txt K w.params mg) : aK P w K mg base bM 1 f fd ["_law_state", "_law_base"] i9 := by
 refine F.ok j7 (fun vs H Q E h => ?_) (fun cdv A outer s H vs Q E hr h => ?_)
 ·obtain ⟨a,b,rfl,_⟩ := h
  rfl
 ·obtain ⟨a,b,rfl,⟨x,y,z,hS⟩,hb,hb2,k⟩ := h
  refine ⟨_,aH (cI (aR sG (aI aJ (pv 0) ak (fun _ _ => rfl)) ak (bh _))
    (aH (bg (i := 2) j7.nd rfl (Or.inl rfl) (aV dP (aI aJ (pv 0) ak (fun _ _ => rfl)) (pv 1)))
    (aH (dN (aV i5 (aI aJ (pv 0) ak (fun _ _ => rfl)) (pv 1)) (dM (pv 0) ak set_list))
    (ay (aQ (pv 2))))) aW)
   (aH (dN (aV dz (aI aJ (pv 0) ak (fun _ _ => rfl)) ak) (dM (pv 0) ak set_list))
   (aH (bg (i := 3) j7.nd rfl (Or.inl rfl) (aV dP (aV gi (aV dz (aV dz (aI aJ (pv 0) ak (fun _ _ => rfl)) (aV gi ak (aI aJ (pv 0) ak (fun _ _ => rfl)))) ak) ak) ak))
   (aH (bg (i := 3) j7.nd rfl (Or.inl rfl) (aV dP (aV gi (pv 3) (aV dz (aV i5 (pv 3) ak) ak)) ak))
   (ay (aQ (aV dP (aV dP (aV gi (pv 3) (aV dz (aV i5 (pv 3) ak) ak)) ak) (pv 1))))))),?_⟩
  refine ⟨_,rfl,a,_,_,.int x,rfl,rfl,aZ.of hS,at0 _ _,_,_,rfl,rfl,_,rfl,?_⟩
  refine cV (fun e => ?_) (fun _ => ?_)
  ·refine ⟨_,rfl,a,_,_,.int x,rfl,rfl,aZ.of hS,at0 _ _,_,rfl,_,_,rfl,rfl,hb,?_⟩
   refine ⟨_,rfl,a,_,_,.int x,rfl,rfl,aZ.of hS,at0 _ _,_,rfl,_,_,rfl,rfl,⟨hb,hb2⟩,?_⟩
   refine ⟨_,rfl,a,_,_,0,rfl,rfl,hS,rfl,_,rfl,?_⟩
   exact k _ _ (Int.emod_nonneg _ (by omega)) (Int.emod_lt_of_pos _ hb) ⟨_,_,_,ah⟩ aM.put
  ·refine ⟨_,rfl,a,_,_,.int z,rfl,rfl,aZ.of hS,at2 _ _ _ _,_,_,rfl,rfl,?_⟩
   refine ⟨_,rfl,a,_,_,2,rfl,rfl,hS,rfl,?_⟩
   refine ⟨_,rfl,a,_,_,.int y,rfl,rfl,aZ.of ah,at1 _ _ _,_,rfl,a,_,_,.int (z + 1),rfl,rfl,aZ.of ah,at2 _ _ _ _,_,_,rfl,rfl,.inl ⟨by decide,by decide⟩,_,_,rfl,rfl,_,_,rfl,rfl,_,_,rfl,rfl,.inr ⟨by decide,by decide⟩,_,_,rfl,rfl,cN,?_⟩
   generalize hn : (y + 7919 * (z + 1) + 1) * 48271 % 2147483647 = n1
   have p1 : 0 ≤ n1 ∧ n1 < 2147483647 := by
    rw [← hn]
    exact ⟨Int.emod_nonneg _ (by decide),Int.emod_lt_of_pos _ (by decide)⟩
   refine ⟨_,rfl,_,rfl,_,_,rfl,rfl,⟨by show (0 : Int) < 1009; decide,by show (1009 : Int) < _; decide⟩,_,_,rfl,rfl,_,_,rfl,rfl,.inl ⟨by omega,by omega⟩,_,_,rfl,rfl,cN,?_⟩
   generalize hn2 : n1 * (n1 / 1009 + 69621) % 2147483647 = n2
   have p2 : 0 ≤ n2 ∧ n2 < 2147483647 := by
    rw [← hn2]
    exact ⟨Int.emod_nonneg _ (by decide),Int.emod_lt_of_pos _ (by decide)⟩
   refine ⟨_,rfl,_,rfl,_,_,rfl,rfl,⟨by show (0 : Int) < 2003; decide,by show (2003 : Int) < _; decide⟩,_,_,rfl,rfl,_,_,rfl,rfl,.inl ⟨by omega,by omega⟩,_,_,rfl,rfl,lY,_,rfl,_,_,rfl,rfl,hb,?_⟩
   exact k _ _ (Int.emod_nonneg _ (by omega)) (Int.emod_lt_of_pos _ hb) ⟨_,_,_,ah⟩ aM.put
def BP : Sp := fun vs H Q _ => ∃ c n bx : Int,vs = [.int c,.int n,.int bx] ∧ 1 ≤ n ∧ n ≤ 1000 ∧ 2 ≤ bx ∧ bx ≤ 8 ∧ ∀ (q : Addr) (H' : Hp),Same H H' → BO H' q n → Q (.ref q) H'
theorem nJ : aG ["_law_cell", "_law_many", "_law_boxes", "_law_state", "_law_word", "_law_b", "_law_c", "_law_target"] ["_law_cell", "_law_many", "_law_boxes"] (ai rN) := ⟨rfl,rfl,rfl,by decide +kernel,rfl,by decide +kernel,by decide +kernel⟩
def Ar : Scope := { kind := .function,names := [(".0",.local),("_law_k",.local),("_law_digit",.globalImplicit),("_law_many",.free),("_law_state",.free)],isGenerator := false,isCoroutine := false,more := [] }
theorem tQ : cH (ai rN) Ar ["_law_cell", "_law_many", "_law_boxes", "_law_state", "_law_word", "_law_b", "_law_c", "_law_target"] ["_law_k", "_law_state", "_law_many"] [none,some 3,some 1] := ⟨rfl,by decide +kernel,by decide +kernel,by decide +kernel,by decide +kernel,by decide +kernel⟩
theorem Ds {f fD : Addr} {fd Wo : FuncData} (F : cY K "_law_row" "_law_row" rN f fd) (T : Txt K w.params mg) (GD : aK P w K mg base bM 1 fD Wo ["_law_state", "_law_base"] i9) (kD : KI K fD) (bD : Binds K Wo ["_law_state", "_law_base"] []) (mD : mg "_law_digit" = some (.ref fD)) : aK P w K mg base bM 2 f fd ["_law_cell", "_law_many", "_law_boxes"] BP := by
 refine F.ok nJ (fun vs H Q E h => ?_) (fun cdv A outer s H vs Q E hr h => ?_)
 ·obtain ⟨c,n,bx,rfl,_⟩ := h
  rfl
 ·obtain ⟨c,mm,bx,rfl,n0,n1,Wp,Wq,k⟩ := h
  refine iW (az (aO (bg (i := 3) nJ.nd rfl (Or.inr rfl) (ck (ae (aU (gW rfl) (by rfl) T.max oS (ae ak (ae (aV dk (pv 0) (aV jj ak ak)) aj))) (ae (aV dP (pv 0) ak) (ae ak aj))))))
   (az (aO (bg (i := 4) nJ.nd rfl (Or.inl rfl) (aL GD hr (by rfl) mD kD bD .nil aP (ae (pv 3) (ae ak aj)))))
   (az (aO (bg (i := 5) nJ.nd rfl (Or.inl rfl) (aL GD hr (by rfl) mD kD bD .nil aP (ae (pv 3) (ae (pv 2) aj)))))
   (az (aO (bg (i := 6) nJ.nd rfl (Or.inl rfl) (aL GD hr (by rfl) mD kD bD .nil aP (ae (pv 3) (ae (pv 2) aj)))))
   (az (aO (bg (i := 7) nJ.nd rfl (Or.inl rfl) (aL GD hr (by rfl) mD kD bD .nil aP (ae (pv 3) (ae (pv 1) aj)))))
   (az (dQ (aR ik (pv 4) ak (bh _)) (bt (aO (aQ (aI aJ (ck (ae (cj (ae aY aj)) (ae (cj (ae aY aj)) (ae (cj (ae aY (ae (pv 6) aj))) aj)))) (pv 4) (fun _ _ => rfl))))) (cK aW))
   (az (dQ (aR ik (pv 4) ak (bh _)) (bt (aO (aQ (cj (ae (aI aJ (ck (ae aY (ae aY (ae aY (ae aY (ae aY aj)))))) (aV dk (pv 4) ak) (fun _ _ => rfl)) (ae (pv 5) (ae (pv 6) aj))))))) (cK aW))
   (az (dQ (aR ik (pv 4) ak (bh _)) (bt (aO (aQ (cj (ae (aI aJ (ck (ae aY (ae aY (ae aY (ae aY (ae aY aj)))))) (aV dk (pv 4) ak) (fun _ _ => rfl)) (ae (pv 5) (ae (pv 6) aj))))))) (cK aW))
   (az (dQ (aR ik (pv 4) ak (bh _)) (bt (aO (aQ (aI aJ (ck (ae (cj (ae aY (ae (pv 5) aj))) (ae (cj (ae aY (ae (pv 5) (ae (aV dk ak (pv 6)) aj)))) (ae (cj (ae aY (ae (pv 6) (ae (pv 5) aj)))) (ae (cj (ae aY (ae (pv 6) (ae (pv 5) aj)))) aj))))) (aV dk (pv 4) ak) (fun _ _ => rfl))))) (cK aW))
   (az (dQ (aR ik (pv 4) ak (bh _)) (bt (aO (aQ (cj (ae (aI aJ (ck (ae aY (ae aY (ae aY aj)))) (aV dk (pv 4) ak) (fun _ _ => rfl)) (ae (pv 7) (ae ak aj))))))) (cK aW))
   (az (dQ (aR ik (pv 4) ak (bh _)) (bt (aO (aQ (cj (ae (aI aJ (ck (ae aY (ae aY aj))) (aV dk (pv 4) ak) (fun _ _ => rfl)) (ae (pv 5) (ae (pv 7) (ae ak aj)))))))) (cK aW))
   (bt (aO (aQ (cj (ae aY (ae (pv 5) (ae (bK eR (by rfl) T.tuple iZ (ae (aV wx (ck (ae (pv 7) aj)) (dW (N' := ["_law_k", "_law_state", "_law_many"]) (fr := [none,some 3,some 1]) tQ rfl (cM rfl T.range (ae (pv 6) aj)) (fun C s0 H0 fp => (bp (i := 0) tQ.nd rfl (Or.inl rfl))) (fun C s0 H0 fp => dn) (fun C s0 H0 fp => (aL GD hr (by rfl) mD kD bD .nil aP (ae (pv 1) (ae (pv 2) aj)))))) aj)) aj)))))))))))))))))) ?_
  refine ⟨_,rfl,_,_,rfl,rfl,⟨by decide,by decide,by decide⟩,_,_,rfl,rfl,_,_,rfl,_,rfl,_,_,rfl,rfl,cN,gA,fun l nl => ?_⟩
  have fin : ∀ q H',aM l H H' → BO H' q mm → Q (.ref q) H' := fun q H' x g => k q H' (aM.of (Same.refl H) nl x) g
  refine ⟨_,rfl,l,23,rfl,⟨_,_,_,ah⟩,by decide,by decide,fun d H1 d0 d1 t1 z1 => ?_⟩
  have x1 := (aM.same (ao nl)).trans z1
  refine ⟨_,rfl,_,rfl,l,bx,rfl,t1,by omega,by omega,fun b H2 b0 b1 t2 z2 => ?_⟩
  have x2 := x1.trans z2
  refine ⟨_,rfl,_,rfl,l,bx,rfl,t2,by omega,by omega,fun cc H3 c0 c1 t3 z3 => ?_⟩
  have x3 := x2.trans z3
  refine ⟨_,rfl,_,rfl,l,mm,rfl,t3,by omega,by omega,fun tg H4 Jk Jl t4 z4 => ?_⟩
  have x4 := x3.trans z4
  clear z1 z2 z3 z4 x1 x2 x3 t1 t2 t3
  have hb : Bx b := ⟨b0,by omega⟩
  have hc : Bx cc := ⟨c0,by omega⟩
  refine ⟨_,rfl,_,_,rfl,rfl,_,rfl,?_⟩
  refine cV (fun e => ?_) (fun e => ?_)
  ·have e : d < 3 := of_decide_eq_true e
   refine ⟨fX,fun q1 m1 => ⟨fX,fun q2 m2 => ⟨_,rfl,lX,fun q3 m3 => ⟨gA,fun ll ml => ?_⟩⟩⟩⟩
   have s1 := ao (o := .tup [V.str "stop"]) m1
   have y1 : upd H4 q1 (.tup [V.str "stop"]) q1 = _ := ah
   generalize upd H4 q1 (.tup [V.str "stop"]) = G1 at s1 y1 m2 m3 ml ⊢
   have s2 := ao (o := .tup [V.str "back"]) m2
   have y2 : upd G1 q2 (.tup [V.str "back"]) q2 = _ := ah
   generalize upd G1 q2 (.tup [V.str "back"]) = G2 at s2 y2 m3 ml ⊢
   have s3 := ao (o := .tup [V.str "halt",V.int cc]) m3
   have y3 : upd G2 q3 (.tup [V.str "halt",V.int cc]) q3 = _ := ah
   generalize upd G2 q3 (.tup [V.str "halt",V.int cc]) = G3 at s3 y3 ml ⊢
   have s4 := ao (o := .lst [V.ref q1,V.ref q2,V.ref q3]) ml
   have xf := x4.trans (.same (s1.trans (s2.trans (s3.trans s4))))
   have e5 : d = 0 ∨ d = 1 ∨ d = 2 := by omega
   rcases e5 with rfl | rfl | rfl
   ·exact ⟨_,rfl,ll,_,_,.ref q1,rfl,rfl,aZ.of ah,at0 _ _,fin _ _ xf ⟨_,oY (by decide) ((s2.trans (s3.trans s4)) _ _ y1),by simp,by simp,o8 rfl⟩⟩
   ·exact ⟨_,rfl,ll,_,_,.ref q2,rfl,rfl,aZ.of ah,at1 _ _ _,fin _ _ xf ⟨_,oY (by decide) ((s3.trans s4) _ _ y2),by simp,by simp,o8 rfl⟩⟩
   ·exact ⟨_,rfl,ll,_,_,.ref q3,rfl,rfl,aZ.of ah,at2 _ _ _ _,fin _ _ xf ⟨_,tK (by decide) (s4 _ _ y3),by simp,by simp,tO rfl hc⟩⟩
  have e : ¬ d < 3 := fun z => e (decide_eq_true z)
  refine ⟨_,rfl,_,_,rfl,rfl,_,rfl,?_⟩
  refine cV (fun e2 => ?_) (fun e2 => ?_)
  ·have e2 : d < 8 := of_decide_eq_true e2
   refine ⟨Fv,fun lw mw => ?_⟩
   obtain ⟨u,hu,hat⟩ := i6 ["copy", "add", "less", "load", "keep"] d 3 (by omega) (by show d < 3 + 5; omega)
   refine ⟨_,rfl,_,_,rfl,rfl,lw,_,_,.str u,rfl,rfl,aZ.of ah,hat,_,rfl,_,rfl,gA,fun q m => ?_⟩
   exact fin _ _ ((x4.new mw).new m) ⟨_,i7 ((by decide : ∀ u ∈ (["copy", "add", "less", "load", "keep"] : List Str),iG u) u hu) ah,by simp,by simp,oZ ((by decide : ∀ u ∈ (["copy", "add", "less", "load", "keep"] : List Str),vI u = 2) u hu) hb hc⟩
  have e2 : ¬ d < 8 := fun z => e2 (decide_eq_true z)
  refine ⟨_,rfl,_,_,rfl,rfl,_,rfl,?_⟩
  refine cV (fun e3 => ?_) (fun e3 => ?_)
  ·have e3 : d < 13 := of_decide_eq_true e3
   refine ⟨Fv,fun lw mw => ?_⟩
   obtain ⟨u,hu,hat⟩ := i6 ["set", "more", "see", "put", "take"] d 8 (by omega) (by show d < 8 + 5; omega)
   refine ⟨_,rfl,_,_,rfl,rfl,lw,_,_,.str u,rfl,rfl,aZ.of ah,hat,_,rfl,_,rfl,gA,fun q m => ?_⟩
   exact fin _ _ ((x4.new mw).new m) ⟨_,i7 ((by decide : ∀ u ∈ (["set", "more", "see", "put", "take"] : List Str),iG u) u hu) ah,by simp,by simp,oZ ((by decide : ∀ u ∈ (["set", "more", "see", "put", "take"] : List Str),vI u = 2) u hu) hb hc⟩
  have e3 : ¬ d < 13 := fun z => e3 (decide_eq_true z)
  refine ⟨_,rfl,_,_,rfl,rfl,_,rfl,?_⟩
  refine cV (fun e4 => ?_) (fun e4 => ?_)
  ·have e4 : d < 17 := of_decide_eq_true e4
   refine ⟨_,rfl,lX,fun q1 m1 => ⟨_,rfl,_,rfl,_,_,rfl,rfl,gA,fun q2 m2 => ⟨_,rfl,_,rfl,gA,fun q3 m3 => ⟨_,rfl,_,rfl,gA,fun q4 m4 => ⟨Ac,fun ll ml => ?_⟩⟩⟩⟩⟩
   have s1 := ao (o := .tup [V.str "tell",V.int b]) m1
   have y1 : upd H4 q1 (.tup [V.str "tell",V.int b]) q1 = _ := ah
   generalize upd H4 q1 (.tup [V.str "tell",V.int b]) = G1 at s1 y1 m2 m3 m4 ml ⊢
   have s2 := ao (o := .tup [V.str "set",V.int b,V.int (0 - cc)]) m2
   have y2 : upd G1 q2 (.tup [V.str "set",V.int b,V.int (0 - cc)]) q2 = _ := ah
   generalize upd G1 q2 (.tup [V.str "set",V.int b,V.int (0 - cc)]) = G2 at s2 y2 m3 m4 ml ⊢
   have s3 := ao (o := .tup [V.str "set",V.int cc,V.int b]) m3
   have y3 : upd G2 q3 (.tup [V.str "set",V.int cc,V.int b]) q3 = _ := ah
   generalize upd G2 q3 (.tup [V.str "set",V.int cc,V.int b]) = G3 at s3 y3 m4 ml ⊢
   have s4 := ao (o := .tup [V.str "copy",V.int cc,V.int b]) m4
   have y4 : upd G3 q4 (.tup [V.str "copy",V.int cc,V.int b]) q4 = _ := ah
   generalize upd G3 q4 (.tup [V.str "copy",V.int cc,V.int b]) = G4 at s4 y4 ml ⊢
   have s5 := ao (o := .lst [V.ref q1,V.ref q2,V.ref q3,V.ref q4]) ml
   have xf := x4.trans (.same (s1.trans (s2.trans (s3.trans (s4.trans s5)))))
   have e5 : d = 13 ∨ d = 14 ∨ d = 15 ∨ d = 16 := by omega
   rcases e5 with rfl | rfl | rfl | rfl
   ·exact ⟨_,rfl,_,_,rfl,rfl,ll,_,_,.ref q1,rfl,rfl,aZ.of ah,at0 _ _,fin _ _ xf ⟨_,tK (by decide) ((s2.trans (s3.trans (s4.trans s5))) _ _ y1),by simp,by simp,tO rfl hb⟩⟩
   ·exact ⟨_,rfl,_,_,rfl,rfl,ll,_,_,.ref q2,rfl,rfl,aZ.of ah,at1 _ _ _,fin _ _ xf ⟨_,i7 (by decide) ((s3.trans (s4.trans s5)) _ _ y2),by simp,by simp,tN hb⟩⟩
   ·exact ⟨_,rfl,_,_,rfl,rfl,ll,_,_,.ref q3,rfl,rfl,aZ.of ah,bJ (j := 2) rfl,fin _ _ xf ⟨_,i7 (by decide) ((s4.trans s5) _ _ y3),by simp,by simp,tN hc⟩⟩
   ·exact ⟨_,rfl,_,_,rfl,rfl,ll,_,_,.ref q4,rfl,rfl,aZ.of ah,bJ (j := 3) rfl,fin _ _ xf ⟨_,i7 (by decide) (s5 _ _ y4),by simp,by simp,oZ rfl hc hb⟩⟩
  have e4 : ¬ d < 17 := fun z => e4 (decide_eq_true z)
  have Wr : ∀ t ∈ [tg],0 ≤ t ∧ t < mm := fun t ht => by rw [mem_singleton.mp ht]; exact ⟨Jk,Jl⟩
  refine ⟨_,rfl,_,_,rfl,rfl,_,rfl,?_⟩
  refine cV (fun D9 => ?_) (fun D9 => ?_)
  ·have D9 : d < 20 := of_decide_eq_true D9
   refine ⟨gA,fun lw mw => ?_⟩
   obtain ⟨u,hu,hat⟩ := i6 ["jump", "call", "mark"] d 17 (by omega) (by show d < 17 + 3; omega)
   refine ⟨_,rfl,_,_,rfl,rfl,lw,_,_,.str u,rfl,rfl,aZ.of ah,hat,?_⟩
   refine ⟨_,rfl,gA,fun q m => ?_⟩
   exact fin _ _ ((x4.new mw).new m) ⟨_,tL hu ah,by simp,Wr,tP hu⟩
  have D9 : ¬ d < 20 := fun z => D9 (decide_eq_true z)
  refine ⟨_,rfl,_,_,rfl,rfl,_,rfl,?_⟩
  refine cV (fun e7 => ?_) (fun e7 => ?_)
  ·have e7 : d < 22 := of_decide_eq_true e7
   refine ⟨lX,fun lw mw => ?_⟩
   obtain ⟨u,hu,hat⟩ := i6 ["zero", "below"] d 20 (by omega) (by show d < 20 + 2; omega)
   refine ⟨_,rfl,_,_,rfl,rfl,lw,_,_,.str u,rfl,rfl,aZ.of ah,hat,_,rfl,_,rfl,Ac,fun q m => ?_⟩
   exact fin _ _ ((x4.new mw).new m) ⟨_,Dp hu ah,by simp,Wr,Dq hu hb⟩
  clear e e2 e3 e4 D9 e7
  refine ⟨_,rfl,_,rfl,fX,fun l0 KY => ?_⟩
  have x5 := x4.new (o := .lst [V.int tg]) KY
  have t5 := t4.new (o := .lst [V.int tg]) KY
  have h0 : upd H4 l0 (.lst [V.int tg]) l0 = _ := ah
  have g0 := t4.ne KY
  generalize upd H4 l0 (.lst [V.int tg]) = H5 at x5 t5 h0 ⊢
  have hcc : 0 ≤ cc ∧ cc < 8 := ⟨c0,by omega⟩
  refine ⟨_,rfl,_,rfl,by omega,by omega,fun D nD => ?_⟩
  have gD := t5.ne nD
  have KZ := x5.free gD nD
  have Jm : l0 ≠ D := fun z => by rw [z,nD] at h0; cases h0
  refine ef (n := cc.toNat) (fun i σ ys H8 => ∃ (v : Option V) (ts : List Int),σ = [v,some (.ref l),some (.int mm)] ∧ ys = ts.map V.int ∧ ts.length = i ∧ aM l H H8 ∧ lO H8 l ∧ H8 D = some (.lst ys) ∧ H8 l0 = some (.lst [V.int tg]) ∧ ∀ t ∈ ts,0 ≤ t ∧ t < mm) ?_ ?_ ?_
  ·exact ⟨none,[],rfl,rfl,rfl,x5.new nD,t5.new nD,ah,by rw [aw Jm]; exact h0,fun t h => absurd h (by simp)⟩
  ·rintro i σ ys H8 hi ⟨v,ts,rfl,rfl,hl,x8,t8,hD,h8,hts⟩
   refine ⟨_,rfl,_,rfl,l,mm,rfl,t8,by omega,by omega,fun t H9 y0 y1 t9 z9 => ⟨z9 _ _ gD hD,?_,?_⟩⟩
   ·rw [length_map]
    exact cD (by omega)
   ·refine ⟨_,ts ++ [t],rfl,by simp,by simp [hl],?_,t9.upd gD,ah,by rw [aw Jm]; exact z9 _ _ g0 h8,fun t' h' => ?_⟩
    ·intro c' o h1 h2
     rw [aw (aq h2 KZ)]
     exact z9 _ _ h1 (x8 _ _ h1 h2)
    ·rcases mem_append.mp h' with h' | h'
     ·exact hts t' h'
     ·rw [mem_singleton.mp h']
      exact ⟨y0,y1⟩
  ·rintro σ ys H8 ⟨v,ts,rfl,rfl,hl,x8,t8,hD,h8,hts⟩
   refine ⟨l0,D,_,_,rfl,rfl,h8,hD,jF (by simp; omega),fun lx nx => ?_⟩
   have ex : [V.int tg] ++ ts.map V.int = (tg :: ts).map V.int := rfl
   rw [ex]
   have x9 := x8.new (o := .lst ((tg :: ts).map V.int)) nx
   have h9 : upd H8 lx (.lst ((tg :: ts).map V.int)) lx = _ := ah
   generalize upd H8 lx (.lst ((tg :: ts).map V.int)) = H9 at x9 h9 ⊢
   refine ⟨lx,_,rfl,.inl ⟨aZ.of h9,fun p np => ⟨gA,fun q m => ?_⟩⟩⟩
   refine fin _ _ ((x9.new np).new m) ⟨_,vn (ts := tg :: ts) ah (ao m _ _ ah),(by simp; omega),(fun t ht => ?_),Ap hb⟩
   rcases mem_cons.mp ht with rfl | ht
   ·exact ⟨Jk,Jl⟩
   ·exact hts t ht
end
abbrev vo : Stmt := top 30
abbrev ib : Stmt := top 52
theorem cE : ∀ (ns : List Str) (vs : List V) (i : Nat) (x : Str),ns.Nodup → ns[i]? = some x → (ns.zip vs).lookup x = vs[i]?
 | [],_,i,x,_,h => by simp at h
 | n :: ns,[],i,x,_,h => by simp
 | n :: ns,v :: vs,0,x,_,h => by
  have e : n = x := by simpa using h
  subst e
  rw [zip_cons_cons,List.lookup_cons_self]
  rfl
 | n :: ns,v :: vs,i + 1,x,hn,h => by
  have hn' := nodup_cons.mp hn
  have hm : x ∈ ns := List.mem_of_getElem? (by simpa using h)
  have ne : ¬ x = n := fun e => hn'.1 (e ▸ hm)
  rw [zip_cons_cons,List.lookup_cons,show (x == n) = false from beq_eq_false_iff_ne.mpr ne]
  exact cE ns vs i x hn'.2 (by simpa using h)
theorem tR : ∀ (ns : List Str) (vs : List V) (x : Str),¬ x ∈ ns → (ns.zip vs).lookup x = none
 | [],_,_,_ => by simp
 | _ :: _,[],_,_ => by simp
 | n :: ns,v :: vs,x,h => by
  have ne : ¬ x = n := fun e => h (by simp [e])
  rw [zip_cons_cons,List.lookup_cons,show (x == n) = false from beq_eq_false_iff_ne.mpr ne]
  exact tR ns vs x fun z => h (by simp [z])
theorem j8 (y : V) : ∀ (ns : List Str) (vs : List V) (i : Nat) (x : Str),ns.Nodup → ns[i]? = some x → i < vs.length → cT x y (ns.zip vs) = ns.zip (vs.set i y)
 | [],_,i,x,_,h,_ => by simp at h
 | n :: ns,[],i,x,_,h,l => by simp at l
 | n :: ns,v :: vs,0,x,_,h,_ => by
  have e : n = x := by simpa using h
  subst e
  show (if n = n then _ else _) = _
  rw [if_pos rfl]
  rfl
 | n :: ns,v :: vs,i + 1,x,hn,h,l => by
  have hn' := nodup_cons.mp hn
  have hm : x ∈ ns := List.mem_of_getElem? (by simpa using h)
  have ne : ¬ n = x := fun e => hn'.1 (e ▸ hm)
  show (if n = x then _ else (n,v) :: cT x y (ns.zip vs)) = _
  rw [if_neg ne,j8 y ns vs i x hn'.2 (by simpa using h) (by simpa using l)]
  rfl
theorem dq (y : V) (x : Str) : ∀ (ns : List Str) (vs : List V),¬ x ∈ ns → ns.length = vs.length → cT x y (ns.zip vs) = (ns ++ [x]).zip (vs ++ [y])
 | [],[],_,_ => rfl
 | [],_ :: _,_,h => by simp at h
 | _ :: _,[],_,h => by simp at h
 | n :: ns,v :: vs,h,l => by
  have ne : ¬ n = x := fun e => h (by simp [e])
  show (if n = x then _ else (n,v) :: cT x y (ns.zip vs)) = _
  rw [if_neg ne,dq y x ns vs (fun z => h (by simp [z])) (by simpa using l)]
  rfl
def names : List Str := ["program", "in_boxes", "in_cells", "in_asides", "rung", "told_numbers", "seen_numbers", "pile", "marks_done", "here", "how_ended"]
theorem cA : names.Nodup := by decide +kernel
structure MA where
 (dx p1 p2 p3 p4 p5 p6 p7 p8 : Addr)
def vals (m : MA) (k : Int) (h w : V) : List V := [.ref m.p1,.ref m.p2,.ref m.p3,.ref m.p4,.ref m.p5,.ref m.p6,.ref m.p7,.ref m.p8,.int k,h,w]
abbrev dj (m : MA) (k : Int) (h w : V) : List (Str × V) := names.zip (vals m k h w)
section
variable {m : MA} {k : Int} {h w v : V}
theorem Dt : (dj m k h w).lookup ("program" : Str) = some (V.ref m.p1) := cE names _ 0 _ cA rfl
theorem cS : (dj m k h w).lookup ("in_boxes" : Str) = some (V.ref m.p2) := cE names _ 1 _ cA rfl
theorem rX : (dj m k h w).lookup ("in_cells" : Str) = some (V.ref m.p3) := cE names _ 2 _ cA rfl
theorem xP : (dj m k h w).lookup ("in_asides" : Str) = some (V.ref m.p4) := cE names _ 3 _ cA rfl
theorem Du : (dj m k h w).lookup ("rung" : Str) = some (V.ref m.p5) := cE names _ 4 _ cA rfl
theorem xQ : (dj m k h w).lookup ("told_numbers" : Str) = some (V.ref m.p6) := cE names _ 5 _ cA rfl
theorem xR : (dj m k h w).lookup ("seen_numbers" : Str) = some (V.ref m.p7) := cE names _ 6 _ cA rfl
theorem o9 : (dj m k h w).lookup ("pile" : Str) = some (V.ref m.p8) := cE names _ 7 _ cA rfl
theorem tS : (dj m k h w).lookup ("marks_done" : Str) = some (V.int k) := cE names _ 8 _ cA rfl
theorem ly : (dj m k h w).lookup ("here" : Str) = some h := cE names _ 9 _ cA rfl
theorem eF {x : Str} (hx : ¬ x ∈ names) : (dj m k h w).lookup x = none := tR names _ x hx
theorem gB : cT "here" v (dj m k h w) = dj m k v w := (j8 v names (vals m k h w) 9 _ cA rfl (by show 9 < 11; decide)).trans rfl
theorem FG : cT "how_ended" v (dj m k h w) = dj m k h v := (j8 v names (vals m k h w) 10 _ cA rfl (by show 10 < 11; decide)).trans rfl
theorem Au {j : Int} : cT "marks_done" (.int j) (dj m k h w) = dj m j h w := (j8 (.int j) names (vals m k h w) 8 _ cA rfl (by show 8 < 11; decide)).trans rfl
theorem ip : (dj m k h w).length < 1000 := by
 show 11 < 1000
 decide
end
def Own (m : MA) (x c : Addr) : Prop := c = x ∨ c = m.p2 ∨ c = m.p3 ∨ c = m.p4 ∨ c = m.p5 ∨ c = m.p6 ∨ c = m.p7 ∨ c = m.p8
def Fr (m : MA) (x : Addr) (H H' : Hp) : Prop := ∀ c o,¬ Own m x c → H c = some o → H' c = some o
theorem Fr.refl {m : MA} {x : Addr} {H : Hp} : Fr m x H H := fun _ _ _ e => e
theorem Fr.trans {m : MA} {x : Addr} {H H1 H2 : Hp} (a : Fr m x H H1) (b : Fr m x H1 H2) : Fr m x H H2 := fun c o n e => b c o n (a c o n e)
theorem Fr.same {m : MA} {x : Addr} {H H1 : Hp} (e : Same H H1) : Fr m x H H1 := fun c o _ h => e c o h
theorem Fr.upd {m : MA} {x p : Addr} {H : Hp} {o : HO} (h : Own m x p) : Fr m x H (upd H p o) := fun c u n e => by
 have ne : c ≠ p := fun z => n (by rw [z]; exact h)
 rw [aw ne]
 exact e
structure Zt where
 here : V
 how : Option (List V)
 bs : List Int
 cf : Int → Int
 af : Int → Int
 told : List Int
 seen : List (Int × Int)
 pile : List Int
 k : Int
def jR (H : Hp) (v : V) : Option (List V) → Prop
 | none => v = .non
 | some xs => ∃ p,v = .ref p ∧ H p = some (.tup xs)
def eC (H : Hp) (ps : List Addr) (sn : List (Int × Int)) : Prop := ps.length = sn.length ∧ ∀ (i : Nat) p c,ps[i]? = some p → sn[i]? = some c → H p = some (.tup [.int c.1,.int c.2])
def cF (H H' : Hp) : Prop := ∀ b xs,H b = some (.tup xs) → H' b = some (.tup xs)
theorem cF.of {H H' : Hp} (e : Same H H') : cF H H' := fun b xs h => e b _ h
theorem cF.upd {H : Hp} {p : Addr} {o o' : HO} (h : H p = some o) (n : ∀ xs,o ≠ .tup xs) : cF H (upd H p o') := fun b xs e => by
 rw [aw (cq e h (fun z => n xs z.symm))]
 exact e
theorem jR.tups {H H' : Hp} {v : V} {w : Option (List V)} (e : cF H H') (h : jR H v w) : jR H' v w := by
 cases w with
 | none => exact h
 | some xs =>
  obtain ⟨p,a,b⟩ := h
  exact ⟨p,a,e _ _ b⟩
theorem eC.tups {H H' : Hp} {ps : List Addr} {sn : List (Int × Int)} (e : cF H H') (h : eC H ps sn) : eC H' ps sn := ⟨h.1,fun i p c a b => e _ _ (h.2 i p c a b)⟩
structure Apart (m : MA) : Prop where
 (n12 : m.p1 ≠ m.p2) (n16 : m.p1 ≠ m.p6) (n17 : m.p1 ≠ m.p7) (n18 : m.p1 ≠ m.p8) (n26 : m.p2 ≠ m.p6) (n27 : m.p2 ≠ m.p7) (n28 : m.p2 ≠ m.p8) (Jo : m.p6 ≠ m.p7) (Jp : m.p6 ≠ m.p8) (Jq : m.p7 ≠ m.p8)
 (n34 : m.p3 ≠ m.p4) (n35 : m.p3 ≠ m.p5) (n45 : m.p4 ≠ m.p5)
structure MG (C : Addr) (H : Hp) (x : Addr) (m : MA) (rows : List V) (au : List (Key × V)) (B : Nat) (z : Zt) : Prop where
 obj : ∃ w,H x = some (.ins C m.dx (dj m z.k z.here w)) ∧ jR H w z.how
 prog : H m.p1 = some (.lst rows)
 box : H m.p2 = some (.lst (z.bs.map V.int))
 b8 : z.bs.length = 8
 cell : ∃ d,H m.p3 = some (.dK d) ∧ Rep d z.cf ∧ d.length ≤ B
 rY : ∃ d,H m.p4 = some (.dK d) ∧ Rep d z.af ∧ d.length ≤ B
 rg : H m.p5 = some (.dK au)
 told : H m.p6 = some (.lst (z.told.map V.int))
 seen : ∃ ps,H m.p7 = some (.lst (ps.map V.ref)) ∧ eC H ps z.seen
 jZ : H m.p8 = some (.lst (z.pile.map V.int))
 ap : Apart m
 lens : z.told.length ≤ B ∧ z.seen.length ≤ B ∧ z.pile.length ≤ B
 big : B ≤ 900
section
variable {C x : Addr} {H H' : Hp} {m : MA} {rows : List V} {au : List (Key × V)} {B : Nat} {z : Zt}
theorem MG.same (M : MG C H x m rows au B z) (e : Same H H') : MG C H' x m rows au B z := by
 obtain ⟨w,o1,o2⟩ := M.obj
 obtain ⟨d,c1,c2⟩ := M.cell
 obtain ⟨d',a1,a2⟩ := M.rY
 obtain ⟨ps,s1,s2⟩ := M.seen
 exact ⟨⟨w,e _ _ o1,o2.tups (.of e)⟩,e _ _ M.prog,e _ _ M.box,M.b8,⟨d,e _ _ c1,c2⟩,⟨d',e _ _ a1,a2⟩,e _ _ M.rg,e _ _ M.told,⟨ps,e _ _ s1,s2.tups (.of e)⟩,e _ _ M.jZ,M.ap,M.lens,M.big⟩
theorem MG.more (M : MG C H x m rows au B z) {B' : Nat} (h : B ≤ B') (hb : B' ≤ 900) : MG C H x m rows au B' z := by
 obtain ⟨d,c1,c2,c3⟩ := M.cell
 obtain ⟨d',a1,a2,a3⟩ := M.rY
 obtain ⟨l1,l2,l3⟩ := M.lens
 exact ⟨M.obj,M.prog,M.box,M.b8,⟨d,c1,c2,by omega⟩,⟨d',a1,a2,by omega⟩,M.rg,M.told,M.seen,M.jZ,M.ap,⟨by omega,by omega,by omega⟩,hb⟩
theorem MG.Dv (M : MG C H x m rows au B z) {q : Addr} {xs : List V} (h : H q = some (.tup xs)) : ¬ Own m x q := by
 obtain ⟨w,o1,o2⟩ := M.obj
 obtain ⟨d,c1,c2⟩ := M.cell
 obtain ⟨d',a1,a2⟩ := M.rY
 obtain ⟨ps,s1,s2⟩ := M.seen
 rintro (rfl | rfl | rfl | rfl | rfl | rfl | rfl | rfl)
 ·rw [o1] at h; cases h
 ·rw [M.box] at h; cases h
 ·rw [c1] at h; cases h
 ·rw [a1] at h; cases h
 ·rw [M.rg] at h; cases h
 ·rw [M.told] at h; cases h
 ·rw [s1] at h; cases h
 ·rw [M.jZ] at h; cases h
theorem MG.tups (M : MG C H x m rows au B z) (f : Fr m x H H') {q : Addr} {xs : List V} (h : H q = some (.tup xs)) : H' q = some (.tup xs) := f q _ (M.Dv h) h
theorem MG.put (M : MG C H x m rows au B z) {k' : Int} {eN w' : V} {Dw : Option (List V)} (hw : jR H w' Dw) : MG C (upd H x (.ins C m.dx (dj m k' eN w'))) x m rows au B { z with k := k',here := eN,how := Dw } := by
 obtain ⟨w,o1,o2⟩ := M.obj
 obtain ⟨d,c1,c2⟩ := M.cell
 obtain ⟨d',a1,a2⟩ := M.rY
 obtain ⟨ps,s1,s2⟩ := M.seen
 have e : ∀ {c o},H c = some o → (∀ fs,o ≠ .ins C m.dx fs) → upd H x (.ins C m.dx (dj m k' eN w')) c = some o := fun {c o} h n => by
  rw [aw (cq h o1 (n _))]
  exact h
 have t : cF H (upd H x (.ins C m.dx (dj m k' eN w'))) := .upd o1 (by intro _ z; cases z)
 exact ⟨⟨w',ah,hw.tups t⟩,e M.prog (by intro _ z; cases z),e M.box (by intro _ z; cases z),M.b8,⟨d,e c1 (by intro _ z; cases z),c2⟩,⟨d',e a1 (by intro _ z; cases z),a2⟩,e M.rg (by intro _ z; cases z),e M.told (by intro _ z; cases z),⟨ps,e s1 (by intro _ z; cases z),s2.tups t⟩,e M.jZ (by intro _ z; cases z),M.ap,M.lens,M.big⟩
theorem MG.x_ (M : MG C H x m rows au B z) {p : Addr} {o : HO} (h : H p = some o) (n : ∀ fs,o ≠ .ins C m.dx fs) : x ≠ p := by
 obtain ⟨w,o1,_⟩ := M.obj
 exact cq o1 h (fun z => n _ z.symm)
theorem MG.lz (M : MG C H x m rows au B z) {bs' : List Int} (h8 : bs'.length = 8) : MG C (upd H m.p2 (.lst (bs'.map V.int))) x m rows au B { z with bs := bs' } := by
 obtain ⟨w,o1,o2⟩ := M.obj
 obtain ⟨d,c1,c2⟩ := M.cell
 obtain ⟨d',a1,a2⟩ := M.rY
 obtain ⟨ps,s1,s2⟩ := M.seen
 have t : cF H (upd H m.p2 (.lst (bs'.map V.int))) := .upd M.box (by intro _ z; cases z)
 have e : ∀ {c o},H c = some o → c ≠ m.p2 → upd H m.p2 (.lst (bs'.map V.int)) c = some o := fun {c o} h n => by rw [aw n]; exact h
 exact ⟨⟨w,e o1 (M.x_ M.box (by intro _ z; cases z)),o2.tups t⟩,e M.prog M.ap.n12,ah,h8,⟨d,e c1 (cq c1 M.box (by intro z; cases z)),c2⟩,⟨d',e a1 (cq a1 M.box (by intro z; cases z)),a2⟩,e M.rg (cq M.rg M.box (by intro z; cases z)),e M.told M.ap.n26.symm,⟨ps,e s1 M.ap.n27.symm,s2.tups t⟩,e M.jZ M.ap.n28.symm,M.ap,M.lens,M.big⟩
theorem MG.FH (M : MG C H x m rows au B z) {t' : List Int} (hl : t'.length ≤ B) : MG C (upd H m.p6 (.lst (t'.map V.int))) x m rows au B { z with told := t' } := by
 obtain ⟨w,o1,o2⟩ := M.obj
 obtain ⟨d,c1,c2⟩ := M.cell
 obtain ⟨d',a1,a2⟩ := M.rY
 obtain ⟨ps,s1,s2⟩ := M.seen
 have t : cF H (upd H m.p6 (.lst (t'.map V.int))) := .upd M.told (by intro _ z; cases z)
 have e : ∀ {c o},H c = some o → c ≠ m.p6 → upd H m.p6 (.lst (t'.map V.int)) c = some o := fun {c o} h n => by rw [aw n]; exact h
 exact ⟨⟨w,e o1 (M.x_ M.told (by intro _ z; cases z)),o2.tups t⟩,e M.prog M.ap.n16,e M.box M.ap.n26,M.b8,⟨d,e c1 (cq c1 M.told (by intro z; cases z)),c2⟩,⟨d',e a1 (cq a1 M.told (by intro z; cases z)),a2⟩,e M.rg (cq M.rg M.told (by intro z; cases z)),ah,⟨ps,e s1 M.ap.Jo.symm,s2.tups t⟩,e M.jZ M.ap.Jp.symm,M.ap,⟨hl,M.lens.2⟩,M.big⟩
theorem MG.FJ (M : MG C H x m rows au B z) {ps : List Addr} {sn : List (Int × Int)} (hs : eC H ps sn) (hl : sn.length ≤ B) : MG C (upd H m.p7 (.lst (ps.map V.ref))) x m rows au B { z with seen := sn } := by
 obtain ⟨w,o1,o2⟩ := M.obj
 obtain ⟨d,c1,c2⟩ := M.cell
 obtain ⟨d',a1,a2⟩ := M.rY
 obtain ⟨ps0,s1,s2⟩ := M.seen
 have t : cF H (upd H m.p7 (.lst (ps.map V.ref))) := .upd s1 (by intro _ z; cases z)
 have e : ∀ {c o},H c = some o → c ≠ m.p7 → upd H m.p7 (.lst (ps.map V.ref)) c = some o := fun {c o} h n => by rw [aw n]; exact h
 exact ⟨⟨w,e o1 (M.x_ s1 (by intro _ z; cases z)),o2.tups t⟩,e M.prog M.ap.n17,e M.box M.ap.n27,M.b8,⟨d,e c1 (cq c1 s1 (by intro z; cases z)),c2⟩,⟨d',e a1 (cq a1 s1 (by intro z; cases z)),a2⟩,e M.rg (cq M.rg s1 (by intro z; cases z)),e M.told M.ap.Jo,⟨ps,ah,hs.tups t⟩,e M.jZ M.ap.Jq.symm,M.ap,⟨M.lens.1,hl,M.lens.2.2⟩,M.big⟩
theorem MG.BQ (M : MG C H x m rows au B z) {p' : List Int} (hl : p'.length ≤ B) : MG C (upd H m.p8 (.lst (p'.map V.int))) x m rows au B { z with pile := p' } := by
 obtain ⟨w,o1,o2⟩ := M.obj
 obtain ⟨d,c1,c2⟩ := M.cell
 obtain ⟨d',a1,a2⟩ := M.rY
 obtain ⟨ps,s1,s2⟩ := M.seen
 have t : cF H (upd H m.p8 (.lst (p'.map V.int))) := .upd M.jZ (by intro _ z; cases z)
 have e : ∀ {c o},H c = some o → c ≠ m.p8 → upd H m.p8 (.lst (p'.map V.int)) c = some o := fun {c o} h n => by rw [aw n]; exact h
 exact ⟨⟨w,e o1 (M.x_ M.jZ (by intro _ z; cases z)),o2.tups t⟩,e M.prog M.ap.n18,e M.box M.ap.n28,M.b8,⟨d,e c1 (cq c1 M.jZ (by intro z; cases z)),c2⟩,⟨d',e a1 (cq a1 M.jZ (by intro z; cases z)),a2⟩,e M.rg (cq M.rg M.jZ (by intro z; cases z)),e M.told M.ap.Jp,⟨ps,e s1 M.ap.Jq,s2.tups t⟩,ah,M.ap,⟨M.lens.1,M.lens.2.1,hl⟩,M.big⟩
theorem MG.cells (M : MG C H x m rows au B z) {d0 : List (Key × V)} {f : Int → Int} (r : Rep d0 f) (hl : d0.length ≤ B) : MG C (upd H m.p3 (.dK d0)) x m rows au B { z with cf := f } := by
 obtain ⟨w,o1,o2⟩ := M.obj
 obtain ⟨d,c1,c2⟩ := M.cell
 obtain ⟨d',a1,a2⟩ := M.rY
 obtain ⟨ps,s1,s2⟩ := M.seen
 have t : cF H (upd H m.p3 (.dK d0)) := .upd c1 (by intro _ z; cases z)
 have e : ∀ {c o},H c = some o → c ≠ m.p3 → upd H m.p3 (.dK d0) c = some o := fun {c o} h n => by rw [aw n]; exact h
 exact ⟨⟨w,e o1 (M.x_ c1 (by intro _ z; cases z)),o2.tups t⟩,e M.prog (cq M.prog c1 (by intro z; cases z)),e M.box (cq M.box c1 (by intro z; cases z)),M.b8,⟨d0,ah,r,hl⟩,⟨d',e a1 M.ap.n34.symm,a2⟩,e M.rg M.ap.n35.symm,e M.told (cq M.told c1 (by intro z; cases z)),⟨ps,e s1 (cq s1 c1 (by intro z; cases z)),s2.tups t⟩,e M.jZ (cq M.jZ c1 (by intro z; cases z)),M.ap,M.lens,M.big⟩
theorem MG.FK (M : MG C H x m rows au B z) {d0 : List (Key × V)} {f : Int → Int} (r : Rep d0 f) (hl : d0.length ≤ B) : MG C (upd H m.p4 (.dK d0)) x m rows au B { z with af := f } := by
 obtain ⟨w,o1,o2⟩ := M.obj
 obtain ⟨d,c1,c2⟩ := M.cell
 obtain ⟨d',a1,a2⟩ := M.rY
 obtain ⟨ps,s1,s2⟩ := M.seen
 have t : cF H (upd H m.p4 (.dK d0)) := .upd a1 (by intro _ z; cases z)
 have e : ∀ {c o},H c = some o → c ≠ m.p4 → upd H m.p4 (.dK d0) c = some o := fun {c o} h n => by rw [aw n]; exact h
 exact ⟨⟨w,e o1 (M.x_ a1 (by intro _ z; cases z)),o2.tups t⟩,e M.prog (cq M.prog a1 (by intro z; cases z)),e M.box (cq M.box a1 (by intro z; cases z)),M.b8,⟨d,e c1 M.ap.n34,c2⟩,⟨d0,ah,r,hl⟩,e M.rg M.ap.n45.symm,e M.told (cq M.told a1 (by intro z; cases z)),⟨ps,e s1 (cq s1 a1 (by intro z; cases z)),s2.tups t⟩,e M.jZ (cq M.jZ a1 (by intro z; cases z)),M.ap,M.lens,M.big⟩
theorem MG.at (M : MG C H x m rows au B z) {b : Int} (hb : Bx b) : lM (z.bs.map V.int) b = some (.int (z.bs.getD b.toNat 0)) := by
 obtain ⟨j,rfl⟩ := Int.eq_ofNat_of_zero_le hb.1
 have hj : j < z.bs.length := by have := hb.2; have := M.b8; omega
 refine bJ (j := j) ?_
 rw [List.getElem?_map,List.getElem?_eq_getElem hj,Int.toNat_natCast,List.getD_eq_getElem?_getD,List.getElem?_eq_getElem hj]
 rfl
theorem MG.ix (M : MG C H x m rows au B z) {b : Int} (hb : Bx b) : uP (z.bs.map V.int).length b = some b.toNat := by
 obtain ⟨j,rfl⟩ := Int.eq_ofNat_of_zero_le hb.1
 rw [length_map,M.b8]
 have := hb.2
 unfold uP
 rw [if_pos (by omega),if_pos (by omega)]
end
structure gE (K : Frag) (mg : Str → Option Value) (C : Addr) : Prop where
 cl : Cls K C
 nP : cP K C "program"
 nB : cP K C "in_boxes"
 nC : cP K C "in_cells"
 nA : cP K C "in_asides"
 nR : cP K C "rung"
 nT : cP K C "told_numbers"
 nS : cP K C "seen_numbers"
 nL : cP K C "pile"
 nM : cP K C "marks_done"
 nH : cP K C "here"
 nE : cP K C "how_ended"
abbrev gF : Stmt := top 31
abbrev gG : Stmt := top 32
abbrev gH : Stmt := top 33
abbrev jS : Stmt := top 34
abbrev gJ : Stmt := top 35
abbrev gK : Stmt := top 36
abbrev jT : Stmt := top 37
abbrev gL : Stmt := top 38
abbrev gM : Stmt := top 39
abbrev gN : Stmt := top 40
abbrev gO : Stmt := top 41
abbrev jU : Stmt := top 42
abbrev jV : Stmt := top 43
abbrev gP : Stmt := top 44
abbrev gQ : Stmt := top 45
abbrev gR : Stmt := top 46
abbrev eP : Stmt := top 47
abbrev gS : Stmt := top 48
abbrev gT : Stmt := top 49
abbrev eQ : Stmt := top 50
section
variable {P : Program} {w : World} {K : Frag} {mg : Str → Option Value} {base : Heap}
abbrev Zt.bx (z : Zt) (b : Int) : Int := z.bs.getD b.toNat 0
def BR (C : Addr) : Sp := fun vs H Q _ => ∃ (x q : Addr) (m : MA) (rows : List V) (au : List (Key × V)) (B : Nat) (z : Zt) (h : Int) (u : Str) (b v : Int),vs = [.ref x,.ref q] ∧ MG C H x m rows au B z ∧ B < 900 ∧ z.here = .int h ∧ H q = some (.tup [.str u,.int b,.int v]) ∧ Bx b ∧ ∀ H',Fr m x H H' → MG C H' x m rows au (B + 1) { z with bs := z.bs.set b.toNat (v) } → Q .non H'
def xS (C : Addr) : Sp := fun vs H Q _ => ∃ (x q : Addr) (m : MA) (rows : List V) (au : List (Key × V)) (B : Nat) (z : Zt) (h : Int) (u : Str) (b v : Int),vs = [.ref x,.ref q] ∧ MG C H x m rows au B z ∧ B < 900 ∧ z.here = .int h ∧ H q = some (.tup [.str u,.int b,.int v]) ∧ Bx b ∧ ∀ H',Fr m x H H' → MG C H' x m rows au (B + 1) { z with bs := z.bs.set b.toNat (z.bx b + v) } → Q .non H'
def xT (C : Addr) : Sp := fun vs H Q _ => ∃ (x q : Addr) (m : MA) (rows : List V) (au : List (Key × V)) (B : Nat) (z : Zt) (h : Int) (u : Str) (b v : Int),vs = [.ref x,.ref q] ∧ MG C H x m rows au B z ∧ B < 900 ∧ z.here = .int h ∧ H q = some (.tup [.str u,.int b,.int v]) ∧ Bx b ∧ Bx v ∧ ∀ H',Fr m x H H' → MG C H' x m rows au (B + 1) { z with bs := z.bs.set b.toNat (z.bx v) } → Q .non H'
def BU (C : Addr) : Sp := fun vs H Q _ => ∃ (x q : Addr) (m : MA) (rows : List V) (au : List (Key × V)) (B : Nat) (z : Zt) (h : Int) (u : Str) (b v : Int),vs = [.ref x,.ref q] ∧ MG C H x m rows au B z ∧ B < 900 ∧ z.here = .int h ∧ H q = some (.tup [.str u,.int b,.int v]) ∧ Bx b ∧ Bx v ∧ ∀ H',Fr m x H H' → MG C H' x m rows au (B + 1) { z with bs := z.bs.set b.toNat (z.bx b + z.bx v) } → Q .non H'
def xU (C : Addr) : Sp := fun vs H Q _ => ∃ (x q : Addr) (m : MA) (rows : List V) (au : List (Key × V)) (B : Nat) (z : Zt) (h : Int) (u : Str) (b v : Int),vs = [.ref x,.ref q] ∧ MG C H x m rows au B z ∧ B < 900 ∧ z.here = .int h ∧ H q = some (.tup [.str u,.int b,.int v]) ∧ Bx b ∧ Bx v ∧ ∀ H',Fr m x H H' → MG C H' x m rows au (B + 1) { z with bs := z.bs.set b.toNat (z.bx b - z.bx v) } → Q .non H'
def xV (C : Addr) : Sp := fun vs H Q _ => ∃ (x q : Addr) (m : MA) (rows : List V) (au : List (Key × V)) (B : Nat) (z : Zt) (h : Int) (u : Str) (b v : Int),vs = [.ref x,.ref q] ∧ MG C H x m rows au B z ∧ B < 900 ∧ z.here = .int h ∧ H q = some (.tup [.str u,.int b,.int v]) ∧ Bx b ∧ Bx v ∧ ∀ H',Fr m x H H' → MG C H' x m rows au (B + 1) { z with bs := z.bs.set b.toNat (z.cf (z.bx v)) } → Q .non H'
def xW (C : Addr) : Sp := fun vs H Q _ => ∃ (x q : Addr) (m : MA) (rows : List V) (au : List (Key × V)) (B : Nat) (z : Zt) (h : Int) (u : Str) (b v : Int),vs = [.ref x,.ref q] ∧ MG C H x m rows au B z ∧ B < 900 ∧ z.here = .int h ∧ H q = some (.tup [.str u,.int b,.int v]) ∧ Bx b ∧ ∀ H',Fr m x H H' → MG C H' x m rows au (B + 1) { z with bs := z.bs.set b.toNat (z.af v) } → Q .non H'
def xX (C : Addr) : Sp := fun vs H Q _ => ∃ (x q : Addr) (m : MA) (rows : List V) (au : List (Key × V)) (B : Nat) (z : Zt) (h : Int) (u : Str) (b v : Int),vs = [.ref x,.ref q] ∧ MG C H x m rows au B z ∧ B < 900 ∧ z.here = .int h ∧ H q = some (.tup [.str u,.int b,.int v]) ∧ Bx b ∧ Bx v ∧ ∀ H',Fr m x H H' → MG C H' x m rows au (B + 1) { z with cf := lW z.cf (z.bx b) (z.bx v) } → Q .non H'
def BV (C : Addr) : Sp := fun vs H Q _ => ∃ (x q : Addr) (m : MA) (rows : List V) (au : List (Key × V)) (B : Nat) (z : Zt) (h : Int) (u : Str) (b v : Int),vs = [.ref x,.ref q] ∧ MG C H x m rows au B z ∧ B < 900 ∧ z.here = .int h ∧ H q = some (.tup [.str u,.int b,.int v]) ∧ Bx b ∧ ∀ H',Fr m x H H' → MG C H' x m rows au (B + 1) { z with af := lW z.af v (z.bx b) } → Q .non H'
def xY (C : Addr) : Sp := fun vs H Q _ => ∃ (x q : Addr) (m : MA) (rows : List V) (au : List (Key × V)) (B : Nat) (z : Zt) (h : Int) (u : Str) (b : Int),vs = [.ref x,.ref q] ∧ MG C H x m rows au B z ∧ B < 900 ∧ z.here = .int h ∧ H q = some (.tup [.str u,.int b]) ∧ Bx b ∧ ∀ H',Fr m x H H' → MG C H' x m rows au (B + 1) { z with told := z.told ++ [z.bx b] } → Q .non H'
def BW (C : Addr) : Sp := fun vs H Q _ => ∃ (x q : Addr) (m : MA) (rows : List V) (au : List (Key × V)) (B : Nat) (z : Zt) (h : Int) (u : Str) (b v : Int),vs = [.ref x,.ref q] ∧ MG C H x m rows au B z ∧ B < 900 ∧ z.here = .int h ∧ H q = some (.tup [.str u,.int b,.int v]) ∧ Bx b ∧ ∀ H',Fr m x H H' → MG C H' x m rows au (B + 1) { z with seen := z.seen ++ [(v,z.bx b)] } → Q .non H'
def xZ (C : Addr) : Sp := fun vs H Q _ => ∃ (x q : Addr) (m : MA) (rows : List V) (au : List (Key × V)) (B : Nat) (z : Zt) (h : Int) (u : Str) (t f : Int),vs = [.ref x,.ref q] ∧ MG C H x m rows au B z ∧ B < 900 ∧ z.here = .int h ∧ H q = some (.tup [.str u,.int t,.int f]) ∧ ∀ H',Fr m x H H' → MG C H' x m rows au (B + 1) { z with here := .int t } → Q .non H'
def ya (C : Addr) : Sp := fun vs H Q _ => ∃ (x q : Addr) (m : MA) (rows : List V) (au : List (Key × V)) (B : Nat) (z : Zt) (h : Int) (u : Str) (b t f : Int),vs = [.ref x,.ref q] ∧ MG C H x m rows au B z ∧ B < 900 ∧ z.here = .int h ∧ H q = some (.tup [.str u,.int b,.int t,.int f]) ∧ Bx b ∧ ∀ H',Fr m x H H' → MG C H' x m rows au (B + 1) { z with here := .int (if z.bx b = 0 then t else h) } → Q .non H'
def tT (C : Addr) : Sp := fun vs H Q _ => ∃ (x q : Addr) (m : MA) (rows : List V) (au : List (Key × V)) (B : Nat) (z : Zt) (h : Int) (u : Str) (b t f : Int),vs = [.ref x,.ref q] ∧ MG C H x m rows au B z ∧ B < 900 ∧ z.here = .int h ∧ H q = some (.tup [.str u,.int b,.int t,.int f]) ∧ Bx b ∧ ∀ H',Fr m x H H' → MG C H' x m rows au (B + 1) { z with here := .int (if z.bx b < 0 then t else h) } → Q .non H'
def tU (C : Addr) : Sp := fun vs H Q _ => ∃ (x q : Addr) (m : MA) (rows : List V) (au : List (Key × V)) (B : Nat) (z : Zt) (h : Int) (u : Str) (b : Int) (p : Addr) (ts : List Int),vs = [.ref x,.ref q] ∧ MG C H x m rows au B z ∧ B < 900 ∧ z.here = .int h ∧ H q = some (.tup [.str u,.int b,.ref p]) ∧ Bx b ∧ H p = some (.tup (ts.map V.int)) ∧ ∀ H',Fr m x H H' → MG C H' x m rows au (B + 1) { z with here := .int (if 0 ≤ z.bx b ∧ z.bx b < ts.length then ts.getD (z.bx b).toNat 0 else h) } → Q .non H'
def rZ (C : Addr) : Sp := fun vs H Q _ => ∃ (x q : Addr) (m : MA) (rows : List V) (au : List (Key × V)) (B : Nat) (z : Zt) (h : Int) (u : Str) (t f : Int),vs = [.ref x,.ref q] ∧ MG C H x m rows au B z ∧ B < 900 ∧ z.here = .int h ∧ H q = some (.tup [.str u,.int t,.int f]) ∧ ∀ H',Fr m x H H' → MG C H' x m rows au (B + 1) { z with pile := z.pile ++ [h],here := .int t } → Q .non H'
def yb (C : Addr) : Sp := fun vs H Q _ => ∃ (x q : Addr) (m : MA) (rows : List V) (au : List (Key × V)) (B : Nat) (z : Zt) (h : Int) (u : Str) (items : List V),vs = [.ref x,.ref q] ∧ MG C H x m rows au B z ∧ B < 900 ∧ z.here = .int h ∧ H q = some (.tup (.str u :: items)) ∧ ∀ H',Fr m x H H' → MG C H' x m rows au (B + 1) { z with here := .non,how := some [.str "stop"] } → Q .non H'
def yc (C : Addr) : Sp := fun vs H Q _ => ∃ (x q : Addr) (m : MA) (rows : List V) (au : List (Key × V)) (B : Nat) (z : Zt) (h : Int) (u : Str) (v : Int),vs = [.ref x,.ref q] ∧ MG C H x m rows au B z ∧ B < 900 ∧ z.here = .int h ∧ H q = some (.tup [.str u,.int v]) ∧ ∀ H',Fr m x H H' → MG C H' x m rows au (B + 1) { z with here := .non,how := some [.str "halt",.int v] } → Q .non H'
def yd (C : Addr) : Sp := fun vs H Q _ => ∃ (x q : Addr) (m : MA) (rows : List V) (au : List (Key × V)) (B : Nat) (z : Zt) (h : Int) (u : Str) (t f : Int) (o : Option V),vs = [.ref x,.ref q] ∧ MG C H x m rows au B z ∧ B < 900 ∧ z.here = .int h ∧ H q = some (.tup [.str u,.int t,.int f]) ∧ cC au (Sum.inl z.k) = o ∧ (o.isSome = true → ∀ H',Fr m x H H' → MG C H' x m rows au (B + 1) { z with k := z.k + 1,pile := z.pile ++ [h],here := .int t } → Q .non H') ∧ (o.isSome = false → ∀ H',Fr m x H H' → MG C H' x m rows au (B + 1) { z with k := z.k + 1 } → Q .non H')
def ye (C : Addr) : Sp := fun vs H Q _ => ∃ (x q : Addr) (m : MA) (rows : List V) (au : List (Key × V)) (B : Nat) (z : Zt) (h : Int) (u : Str) (items : List V),vs = [.ref x,.ref q] ∧ MG C H x m rows au B z ∧ B < 900 ∧ z.here = .int h ∧ H q = some (.tup (.str u :: items)) ∧ (z.pile = [] → ∀ H',Fr m x H H' → MG C H' x m rows au (B + 1) { z with here := .non,how := some [.str "home"] } → Q .non H') ∧ (∀ (r : List Int) (p : Int),z.pile = r ++ [p] → ∀ H',Fr m x H H' → MG C H' x m rows au (B + 1) { z with pile := r,here := .int p } → Q .non H')
def tV (C : Addr) : Sp := fun vs H Q _ => ∃ (x p : Addr) (xs : List V) (m : MA) (rows : List V) (au : List (Key × V)) (B : Nat) (z : Zt),vs = [.ref x,.ref p] ∧ H p = some (.tup xs) ∧ MG C H x m rows au B z ∧ ∀ H',Fr m x H H' → MG C H' x m rows au B { z with here := .non,how := some xs } → Q .non H'
theorem FL : aG ["machine", "how"] ["machine", "how"] (ai vo) := ⟨rfl,rfl,rfl,by decide +kernel,rfl,by decide +kernel,by decide +kernel⟩
theorem Dx {f C : Addr} {fd : FuncData} (F : cY K "end" "end" vo f fd) (T : gE K mg C) : aK P w K mg base bM 1 f fd ["machine", "how"] (tV C) := by
 refine F.ok FL (fun vs H Q E h => ?_) (fun cdv A outer s H vs Q E hr h => ?_)
 ·obtain ⟨x,p,xs,m,rows,au,B,z,rfl,_⟩ := h
  rfl
 ·obtain ⟨x,p,xs,m,rows,au,B,z,rfl,hp,M,k⟩ := h
  obtain ⟨w0,ho,hw⟩ := M.obj
  refine ⟨_,aH (cB (pv 0) iw rfl) (ay (cB (pv 0) (pv 1) rfl)),?_⟩
  refine ⟨_,rfl,x,C,m.dx,_,rfl,ho,T.cl,T.nH,ip,?_⟩
  rw [gB]
  have M2 := M.put (k' := z.k) (eN := .non) hw
  refine ⟨_,rfl,_,rfl,x,C,m.dx,_,rfl,ah,T.cl,T.nE,ip,?_⟩
  rw [FG]
  have hp2 : upd H x (.ins C m.dx (dj m z.k .non w0)) p = some (.tup xs) := by
   rw [aw (cq hp ho (by intro z; cases z))]
   exact hp
  exact k _ ((Fr.upd (.inl rfl)).trans (Fr.upd (.inl rfl))) (M2.put (k' := z.k) (eN := .non) (w' := .ref p) (Dw := some xs) ⟨p,rfl,hp2⟩)
theorem Dy : aG ["machine", "row"] ["machine", "row"] (ai jS) := ⟨rfl,rfl,rfl,by decide +kernel,rfl,by decide +kernel,by decide +kernel⟩
theorem Dz {f C : Addr} {fd : FuncData} (F : cY K "do_set" "do_set" jS f fd) (T : gE K mg C) : aK P w K mg base bM 1 f fd ["machine", "row"] (BR C) := by
 refine F.ok Dy (fun vs H Q E h => ?_) (fun cdv A outer s H vs Q E hr h => ?_)
 ·obtain ⟨x,q,m,rows,au,B,z,h,u,b,v,rfl,_⟩ := h
  rfl
 ·obtain ⟨x,q,m,rows,au,B,z,h,u,b,v,rfl,M,hB,hh,hq,hb,k⟩ := h
  have hu := cJ hr
  obtain ⟨w0,ho,hw⟩ := M.obj
  have M1 := M.more (le_succ B) (by omega)
  refine ⟨_,ay (dN (aI aS (pv 1) ak (fun _ _ => rfl)) (dM (aT (pv 0) rfl) (aI aS (pv 1) ak (fun _ _ => rfl)) set_list)),?_⟩
  refine ⟨_,rfl,q,_,_,.int v,rfl,rfl,bX.of hq,at2 _ _ _ _,_,rfl,x,C,m.dx,_,_,rfl,ho,T.cl,T.nB,cS,_,rfl,q,_,_,.int b,rfl,rfl,bX.of hq,at1 _ _ _,m.p2,_,_,_,rfl,rfl,M.box,M.ix hb,?_⟩
  rw [← map_set]
  exact k _ (Fr.upd (.inr (.inl rfl))) (M1.lz (by rw [length_set]; exact M.b8))
theorem Av : aG ["machine", "row"] ["machine", "row"] (ai gJ) := ⟨rfl,rfl,rfl,by decide +kernel,rfl,by decide +kernel,by decide +kernel⟩
theorem Aw {f C : Addr} {fd : FuncData} (F : cY K "do_more" "do_more" gJ f fd) (T : gE K mg C) : aK P w K mg base bM 1 f fd ["machine", "row"] (xS C) := by
 refine F.ok Av (fun vs H Q E h => ?_) (fun cdv A outer s H vs Q E hr h => ?_)
 ·obtain ⟨x,q,m,rows,au,B,z,h,u,b,v,rfl,_⟩ := h
  rfl
 ·obtain ⟨x,q,m,rows,au,B,z,h,u,b,v,rfl,M,hB,hh,hq,hb,k⟩ := h
  have hu := cJ hr
  obtain ⟨w0,ho,hw⟩ := M.obj
  have M1 := M.more (le_succ B) (by omega)
  refine ⟨_,ay (dN (aV dz (aI aJ (aT (pv 0) rfl) (aI aS (pv 1) ak (fun _ _ => rfl)) (fun _ _ => rfl)) (aI aS (pv 1) ak (fun _ _ => rfl))) (dM (aT (pv 0) rfl) (aI aS (pv 1) ak (fun _ _ => rfl)) set_list)),?_⟩
  refine ⟨_,rfl,x,C,m.dx,_,_,rfl,ho,T.cl,T.nB,cS,_,rfl,q,_,_,.int b,rfl,rfl,bX.of hq,at1 _ _ _,m.p2,_,_,_,rfl,rfl,aZ.of M.box,M.at hb,_,rfl,q,_,_,.int v,rfl,rfl,bX.of hq,at2 _ _ _ _,_,_,rfl,rfl,_,rfl,x,C,m.dx,_,_,rfl,ho,T.cl,T.nB,cS,_,rfl,q,_,_,.int b,rfl,rfl,bX.of hq,at1 _ _ _,m.p2,_,_,_,rfl,rfl,M.box,M.ix hb,?_⟩
  rw [← map_set]
  exact k _ (Fr.upd (.inr (.inl rfl))) (M1.lz (by rw [length_set]; exact M.b8))
theorem Ax : aG ["machine", "row"] ["machine", "row"] (ai gK) := ⟨rfl,rfl,rfl,by decide +kernel,rfl,by decide +kernel,by decide +kernel⟩
theorem Ay {f C : Addr} {fd : FuncData} (F : cY K "do_copy" "do_copy" gK f fd) (T : gE K mg C) : aK P w K mg base bM 1 f fd ["machine", "row"] (xT C) := by
 refine F.ok Ax (fun vs H Q E h => ?_) (fun cdv A outer s H vs Q E hr h => ?_)
 ·obtain ⟨x,q,m,rows,au,B,z,h,u,b,v,rfl,_⟩ := h
  rfl
 ·obtain ⟨x,q,m,rows,au,B,z,h,u,b,v,rfl,M,hB,hh,hq,hb,hv,k⟩ := h
  have hu := cJ hr
  obtain ⟨w0,ho,hw⟩ := M.obj
  have M1 := M.more (le_succ B) (by omega)
  refine ⟨_,ay (dN (aI aJ (aT (pv 0) rfl) (aI aS (pv 1) ak (fun _ _ => rfl)) (fun _ _ => rfl)) (dM (aT (pv 0) rfl) (aI aS (pv 1) ak (fun _ _ => rfl)) set_list)),?_⟩
  refine ⟨_,rfl,x,C,m.dx,_,_,rfl,ho,T.cl,T.nB,cS,_,rfl,q,_,_,.int v,rfl,rfl,bX.of hq,at2 _ _ _ _,m.p2,_,_,_,rfl,rfl,aZ.of M.box,M.at hv,_,rfl,x,C,m.dx,_,_,rfl,ho,T.cl,T.nB,cS,_,rfl,q,_,_,.int b,rfl,rfl,bX.of hq,at1 _ _ _,m.p2,_,_,_,rfl,rfl,M.box,M.ix hb,?_⟩
  rw [← map_set]
  exact k _ (Fr.upd (.inr (.inl rfl))) (M1.lz (by rw [length_set]; exact M.b8))
theorem DA : aG ["machine", "row"] ["machine", "row"] (ai jT) := ⟨rfl,rfl,rfl,by decide +kernel,rfl,by decide +kernel,by decide +kernel⟩
theorem DB {f C : Addr} {fd : FuncData} (F : cY K "do_add" "do_add" jT f fd) (T : gE K mg C) : aK P w K mg base bM 1 f fd ["machine", "row"] (BU C) := by
 refine F.ok DA (fun vs H Q E h => ?_) (fun cdv A outer s H vs Q E hr h => ?_)
 ·obtain ⟨x,q,m,rows,au,B,z,h,u,b,v,rfl,_⟩ := h
  rfl
 ·obtain ⟨x,q,m,rows,au,B,z,h,u,b,v,rfl,M,hB,hh,hq,hb,hv,k⟩ := h
  have hu := cJ hr
  obtain ⟨w0,ho,hw⟩ := M.obj
  have M1 := M.more (le_succ B) (by omega)
  refine ⟨_,ay (dN (aV dz (aI aJ (aT (pv 0) rfl) (aI aS (pv 1) ak (fun _ _ => rfl)) (fun _ _ => rfl)) (aI aJ (aT (pv 0) rfl) (aI aS (pv 1) ak (fun _ _ => rfl)) (fun _ _ => rfl))) (dM (aT (pv 0) rfl) (aI aS (pv 1) ak (fun _ _ => rfl)) set_list)),?_⟩
  refine ⟨_,rfl,x,C,m.dx,_,_,rfl,ho,T.cl,T.nB,cS,_,rfl,q,_,_,.int b,rfl,rfl,bX.of hq,at1 _ _ _,m.p2,_,_,_,rfl,rfl,aZ.of M.box,M.at hb,_,rfl,x,C,m.dx,_,_,rfl,ho,T.cl,T.nB,cS,_,rfl,q,_,_,.int v,rfl,rfl,bX.of hq,at2 _ _ _ _,m.p2,_,_,_,rfl,rfl,aZ.of M.box,M.at hv,_,_,rfl,rfl,_,rfl,x,C,m.dx,_,_,rfl,ho,T.cl,T.nB,cS,_,rfl,q,_,_,.int b,rfl,rfl,bX.of hq,at1 _ _ _,m.p2,_,_,_,rfl,rfl,M.box,M.ix hb,?_⟩
  rw [← map_set]
  exact k _ (Fr.upd (.inr (.inl rfl))) (M1.lz (by rw [length_set]; exact M.b8))
theorem Az : aG ["machine", "row"] ["machine", "row"] (ai gL) := ⟨rfl,rfl,rfl,by decide +kernel,rfl,by decide +kernel,by decide +kernel⟩
theorem AB {f C : Addr} {fd : FuncData} (F : cY K "do_less" "do_less" gL f fd) (T : gE K mg C) : aK P w K mg base bM 1 f fd ["machine", "row"] (xU C) := by
 refine F.ok Az (fun vs H Q E h => ?_) (fun cdv A outer s H vs Q E hr h => ?_)
 ·obtain ⟨x,q,m,rows,au,B,z,h,u,b,v,rfl,_⟩ := h
  rfl
 ·obtain ⟨x,q,m,rows,au,B,z,h,u,b,v,rfl,M,hB,hh,hq,hb,hv,k⟩ := h
  have hu := cJ hr
  obtain ⟨w0,ho,hw⟩ := M.obj
  have M1 := M.more (le_succ B) (by omega)
  refine ⟨_,ay (dN (aV dk (aI aJ (aT (pv 0) rfl) (aI aS (pv 1) ak (fun _ _ => rfl)) (fun _ _ => rfl)) (aI aJ (aT (pv 0) rfl) (aI aS (pv 1) ak (fun _ _ => rfl)) (fun _ _ => rfl))) (dM (aT (pv 0) rfl) (aI aS (pv 1) ak (fun _ _ => rfl)) set_list)),?_⟩
  refine ⟨_,rfl,x,C,m.dx,_,_,rfl,ho,T.cl,T.nB,cS,_,rfl,q,_,_,.int b,rfl,rfl,bX.of hq,at1 _ _ _,m.p2,_,_,_,rfl,rfl,aZ.of M.box,M.at hb,_,rfl,x,C,m.dx,_,_,rfl,ho,T.cl,T.nB,cS,_,rfl,q,_,_,.int v,rfl,rfl,bX.of hq,at2 _ _ _ _,m.p2,_,_,_,rfl,rfl,aZ.of M.box,M.at hv,_,_,rfl,rfl,_,rfl,x,C,m.dx,_,_,rfl,ho,T.cl,T.nB,cS,_,rfl,q,_,_,.int b,rfl,rfl,bX.of hq,at1 _ _ _,m.p2,_,_,_,rfl,rfl,M.box,M.ix hb,?_⟩
  rw [← map_set]
  exact k _ (Fr.upd (.inr (.inl rfl))) (M1.lz (by rw [length_set]; exact M.b8))
theorem AF : aG ["machine", "row"] ["machine", "row"] (ai gM) := ⟨rfl,rfl,rfl,by decide +kernel,rfl,by decide +kernel,by decide +kernel⟩
theorem AG {f C : Addr} {fd : FuncData} (F : cY K "do_load" "do_load" gM f fd) (T : gE K mg C) : aK P w K mg base bM 1 f fd ["machine", "row"] (xV C) := by
 refine F.ok AF (fun vs H Q E h => ?_) (fun cdv A outer s H vs Q E hr h => ?_)
 ·obtain ⟨x,q,m,rows,au,B,z,h,u,b,v,rfl,_⟩ := h
  rfl
 ·obtain ⟨x,q,m,rows,au,B,z,h,u,b,v,rfl,M,hB,hh,hq,hb,hv,k⟩ := h
  have hu := cJ hr
  obtain ⟨w0,ho,hw⟩ := M.obj
  have M1 := M.more (le_succ B) (by omega)
  refine ⟨_,ay (dN (pV hu (aT (pv 0) rfl) (aI aJ (aT (pv 0) rfl) (aI aS (pv 1) ak (fun _ _ => rfl)) (fun _ _ => rfl)) ak ⟨rfl,rfl,rfl,rfl⟩) (dM (aT (pv 0) rfl) (aI aS (pv 1) ak (fun _ _ => rfl)) set_list)),?_⟩
  obtain ⟨d,c1,c2,c3⟩ := M.cell
  refine ⟨_,rfl,x,C,m.dx,_,_,rfl,ho,T.cl,T.nC,rX,m.p3,rfl,.inl ⟨_,.of c1⟩,_,rfl,x,C,m.dx,_,_,rfl,ho,T.cl,T.nB,cS,_,rfl,q,_,_,.int v,rfl,rfl,bX.of hq,at2 _ _ _ _,m.p2,_,_,_,rfl,rfl,aZ.of M.box,M.at hv,_,jm.k (k := Sum.inl (z.bx v)) c1,?_⟩
  rw [c2.val]
  refine ⟨_,rfl,x,C,m.dx,_,_,rfl,ho,T.cl,T.nB,cS,_,rfl,q,_,_,.int b,rfl,rfl,bX.of hq,at1 _ _ _,m.p2,_,_,_,rfl,rfl,M.box,M.ix hb,?_⟩
  rw [← map_set]
  exact k _ (Fr.upd (.inr (.inl rfl))) (M1.lz (by rw [length_set]; exact M.b8))
theorem AH : aG ["machine", "row"] ["machine", "row"] (ai gP) := ⟨rfl,rfl,rfl,by decide +kernel,rfl,by decide +kernel,by decide +kernel⟩
theorem AI {f C : Addr} {fd : FuncData} (F : cY K "do_take" "do_take" gP f fd) (T : gE K mg C) : aK P w K mg base bM 1 f fd ["machine", "row"] (xW C) := by
 refine F.ok AH (fun vs H Q E h => ?_) (fun cdv A outer s H vs Q E hr h => ?_)
 ·obtain ⟨x,q,m,rows,au,B,z,h,u,b,v,rfl,_⟩ := h
  rfl
 ·obtain ⟨x,q,m,rows,au,B,z,h,u,b,v,rfl,M,hB,hh,hq,hb,k⟩ := h
  have hu := cJ hr
  obtain ⟨w0,ho,hw⟩ := M.obj
  have M1 := M.more (le_succ B) (by omega)
  refine ⟨_,ay (dN (pV hu (aT (pv 0) rfl) (aI aS (pv 1) ak (fun _ _ => rfl)) ak ⟨rfl,rfl,rfl,rfl⟩) (dM (aT (pv 0) rfl) (aI aS (pv 1) ak (fun _ _ => rfl)) set_list)),?_⟩
  obtain ⟨d,c1,c2,c3⟩ := M.rY
  refine ⟨_,rfl,x,C,m.dx,_,_,rfl,ho,T.cl,T.nA,xP,m.p4,rfl,.inl ⟨_,.of c1⟩,_,rfl,q,_,_,.int v,rfl,rfl,bX.of hq,at2 _ _ _ _,_,jm.k (k := Sum.inl (v)) c1,?_⟩
  rw [c2.val]
  refine ⟨_,rfl,x,C,m.dx,_,_,rfl,ho,T.cl,T.nB,cS,_,rfl,q,_,_,.int b,rfl,rfl,bX.of hq,at1 _ _ _,m.p2,_,_,_,rfl,rfl,M.box,M.ix hb,?_⟩
  rw [← map_set]
  exact k _ (Fr.upd (.inr (.inl rfl))) (M1.lz (by rw [length_set]; exact M.b8))
theorem AJ : aG ["machine", "row"] ["machine", "row"] (ai gN) := ⟨rfl,rfl,rfl,by decide +kernel,rfl,by decide +kernel,by decide +kernel⟩
theorem AK {f C : Addr} {fd : FuncData} (F : cY K "do_keep" "do_keep" gN f fd) (T : gE K mg C) : aK P w K mg base bM 1 f fd ["machine", "row"] (xX C) := by
 refine F.ok AJ (fun vs H Q E h => ?_) (fun cdv A outer s H vs Q E hr h => ?_)
 ·obtain ⟨x,q,m,rows,au,B,z,h,u,b,v,rfl,_⟩ := h
  rfl
 ·obtain ⟨x,q,m,rows,au,B,z,h,u,b,v,rfl,M,hB,hh,hq,hb,hv,k⟩ := h
  have hu := cJ hr
  obtain ⟨w0,ho,hw⟩ := M.obj
  have M1 := M.more (le_succ B) (by omega)
  refine ⟨_,ay (fj hu (aT (pv 0) rfl) (aI aJ (aT (pv 0) rfl) (aI aS (pv 1) ak (fun _ _ => rfl)) (fun _ _ => rfl)) (aI aJ (aT (pv 0) rfl) (aI aS (pv 1) ak (fun _ _ => rfl)) (fun _ _ => rfl)) rfl),?_⟩
  obtain ⟨d,c1,c2,c3⟩ := M.cell
  have hb9 := M.big
  refine ⟨_,rfl,x,C,m.dx,_,_,rfl,ho,T.cl,T.nB,cS,_,rfl,q,_,_,.int v,rfl,rfl,bX.of hq,at2 _ _ _ _,m.p2,_,_,_,rfl,rfl,aZ.of M.box,M.at hv,_,rfl,x,C,m.dx,_,_,rfl,ho,T.cl,T.nC,rX,_,rfl,x,C,m.dx,_,_,rfl,ho,T.cl,T.nB,cS,_,rfl,q,_,_,.int b,rfl,rfl,bX.of hq,at1 _ _ _,m.p2,_,_,_,rfl,rfl,aZ.of M.box,M.at hb,m.p3,_,rfl,ku.k (k := Sum.inl (z.bx b)) c1 (cD (by omega)),?_⟩
  exact k _ (Fr.upd (.inr (.inr (.inl rfl)))) (M1.cells (c2.put _ _) (le_trans (cQ d _ _) (by omega)))
theorem DC : aG ["machine", "row"] ["machine", "row"] (ai jV) := ⟨rfl,rfl,rfl,by decide +kernel,rfl,by decide +kernel,by decide +kernel⟩
theorem DE {f C : Addr} {fd : FuncData} (F : cY K "do_put" "do_put" jV f fd) (T : gE K mg C) : aK P w K mg base bM 1 f fd ["machine", "row"] (BV C) := by
 refine F.ok DC (fun vs H Q E h => ?_) (fun cdv A outer s H vs Q E hr h => ?_)
 ·obtain ⟨x,q,m,rows,au,B,z,h,u,b,v,rfl,_⟩ := h
  rfl
 ·obtain ⟨x,q,m,rows,au,B,z,h,u,b,v,rfl,M,hB,hh,hq,hb,k⟩ := h
  have hu := cJ hr
  obtain ⟨w0,ho,hw⟩ := M.obj
  have M1 := M.more (le_succ B) (by omega)
  refine ⟨_,ay (fj hu (aT (pv 0) rfl) (aI aS (pv 1) ak (fun _ _ => rfl)) (aI aJ (aT (pv 0) rfl) (aI aS (pv 1) ak (fun _ _ => rfl)) (fun _ _ => rfl)) rfl),?_⟩
  obtain ⟨d,c1,c2,c3⟩ := M.rY
  have hb9 := M.big
  refine ⟨_,rfl,x,C,m.dx,_,_,rfl,ho,T.cl,T.nB,cS,_,rfl,q,_,_,.int b,rfl,rfl,bX.of hq,at1 _ _ _,m.p2,_,_,_,rfl,rfl,aZ.of M.box,M.at hb,_,rfl,x,C,m.dx,_,_,rfl,ho,T.cl,T.nA,xP,_,rfl,q,_,_,.int v,rfl,rfl,bX.of hq,at2 _ _ _ _,m.p4,_,rfl,ku.k (k := Sum.inl v) c1 (cD (by omega)),?_⟩
  exact k _ (Fr.upd (.inr (.inr (.inr (.inl rfl))))) (M1.FK (c2.put _ _) (le_trans (cQ d _ _) (by omega)))
theorem AO : aG ["machine", "row"] ["machine", "row"] (ai gO) := ⟨rfl,rfl,rfl,by decide +kernel,rfl,by decide +kernel,by decide +kernel⟩
theorem AQ {f C : Addr} {fd : FuncData} (F : cY K "do_tell" "do_tell" gO f fd) (T : gE K mg C) : aK P w K mg base bM 1 f fd ["machine", "row"] (xY C) := by
 refine F.ok AO (fun vs H Q E h => ?_) (fun cdv A outer s H vs Q E hr h => ?_)
 ·obtain ⟨x,q,m,rows,au,B,z,h,u,b,rfl,_⟩ := h
  rfl
 ·obtain ⟨x,q,m,rows,au,B,z,h,u,b,rfl,M,hB,hh,hq,hb,k⟩ := h
  have hu := cJ hr
  obtain ⟨w0,ho,hw⟩ := M.obj
  have M1 := M.more (le_succ B) (by omega)
  refine ⟨_,ay (cO (mJ PySem.F.plainAttrs_list PySem.F.slot_list_append PySem.F.type_list_append dh (aT (pv 0) rfl) (ae (aI aJ (aT (pv 0) rfl) (aI aS (pv 1) ak (fun _ _ => rfl)) (fun _ _ => rfl)) aj))),?_⟩
  have hb9 := M.big
  have hl := M.lens
  refine ⟨_,rfl,x,C,m.dx,_,_,rfl,ho,T.cl,T.nT,xQ,.inl ⟨rfl,_,aZ.of M.told⟩,_,rfl,x,C,m.dx,_,_,rfl,ho,T.cl,T.nB,cS,_,rfl,q,_,_,.int b,rfl,rfl,bX.of hq,at1 _ _ _,m.p2,_,_,_,rfl,rfl,aZ.of M.box,M.at hb,m.p6,_,_,rfl,rfl,M.told,(by rw [length_map]; exact cD (by omega)),?_⟩
  rw [show z.told.map V.int ++ [V.int (z.bx b)] = (z.told ++ [z.bx b]).map V.int by simp]
  exact k _ (Fr.upd (.inr (.inr (.inr (.inr (.inr (.inl rfl))))))) (M1.FH (by rw [length_append]; show z.told.length + 1 ≤ B + 1; omega))
theorem DF : aG ["machine", "row"] ["machine", "row"] (ai jU) := ⟨rfl,rfl,rfl,by decide +kernel,rfl,by decide +kernel,by decide +kernel⟩
theorem DG {f C : Addr} {fd : FuncData} (F : cY K "do_see" "do_see" jU f fd) (T : gE K mg C) : aK P w K mg base bM 1 f fd ["machine", "row"] (BW C) := by
 refine F.ok DF (fun vs H Q E h => ?_) (fun cdv A outer s H vs Q E hr h => ?_)
 ·obtain ⟨x,q,m,rows,au,B,z,h,u,b,v,rfl,_⟩ := h
  rfl
 ·obtain ⟨x,q,m,rows,au,B,z,h,u,b,v,rfl,M,hB,hh,hq,hb,k⟩ := h
  have hu := cJ hr
  obtain ⟨w0,ho,hw⟩ := M.obj
  have M1 := M.more (le_succ B) (by omega)
  refine ⟨_,ay (cO (mJ PySem.F.plainAttrs_list PySem.F.slot_list_append PySem.F.type_list_append dh (aT (pv 0) rfl) (ae (cj (ae (aI aS (pv 1) ak (fun _ _ => rfl)) (ae (aI aJ (aT (pv 0) rfl) (aI aS (pv 1) ak (fun _ _ => rfl)) (fun _ _ => rfl)) aj))) aj))),?_⟩
  have hb9 := M.big
  have hl := M.lens
  obtain ⟨ps,s1,s2⟩ := M.seen
  have hpl := s2.1
  refine ⟨_,rfl,x,C,m.dx,_,_,rfl,ho,T.cl,T.nS,xR,.inl ⟨rfl,_,aZ.of s1⟩,_,rfl,q,_,_,.int v,rfl,rfl,bX.of hq,at2 _ _ _ _,_,rfl,x,C,m.dx,_,_,rfl,ho,T.cl,T.nB,cS,_,rfl,q,_,_,.int b,rfl,rfl,bX.of hq,at1 _ _ _,m.p2,_,_,_,rfl,rfl,aZ.of M.box,M.at hb,lX,fun t nt => ?_⟩
  have e1 := ao (o := .tup [.int v,.int (z.bx b)]) nt
  refine ⟨m.p7,_,_,rfl,rfl,e1 _ _ s1,(by rw [length_map]; exact cD (by omega)),?_⟩
  rw [show ps.map V.ref ++ [V.ref t] = (ps ++ [t]).map V.ref by simp]
  refine k _ ((Fr.same e1).trans (Fr.upd (.inr (.inr (.inr (.inr (.inr (.inr (.inl rfl))))))))) ((M1.same e1).FJ ⟨by rw [length_append,length_append,hpl]; rfl,fun i p c hp hc => ?_⟩ (by rw [length_append]; show z.seen.length + 1 ≤ B + 1; omega))
  rcases Nat.lt_or_ge i ps.length with hi | hi
  ·rw [List.getElem?_append_left hi] at hp
   rw [List.getElem?_append_left (by omega)] at hc
   exact e1 _ _ (s2.2 i p c hp hc)
  ·rw [List.getElem?_append_right hi] at hp
   rw [List.getElem?_append_right (by omega)] at hc
   have h0 : i - ps.length = 0 := by
    have := (List.getElem?_eq_some_iff.mp hp).1
    simp at this
    omega
   have h1 : i - z.seen.length = 0 := by omega
   rw [h0] at hp
   rw [h1] at hc
   have hp := Option.some.inj hp
   have hc := Option.some.inj hc
   subst hp hc
   exact ah
theorem AR : aG ["machine", "row"] ["machine", "row"] (ai gQ) := ⟨rfl,rfl,rfl,by decide +kernel,rfl,by decide +kernel,by decide +kernel⟩
theorem AT {f C : Addr} {fd : FuncData} (F : cY K "do_jump" "do_jump" gQ f fd) (T : gE K mg C) : aK P w K mg base bM 1 f fd ["machine", "row"] (xZ C) := by
 refine F.ok AR (fun vs H Q E h => ?_) (fun cdv A outer s H vs Q E hr h => ?_)
 ·obtain ⟨x,q,m,rows,au,B,z,h,u,t,f,rfl,_⟩ := h
  rfl
 ·obtain ⟨x,q,m,rows,au,B,z,h,u,t,f,rfl,M,hB,hh,hq,k⟩ := h
  have hu := cJ hr
  obtain ⟨w0,ho,hw⟩ := M.obj
  have M1 := M.more (le_succ B) (by omega)
  refine ⟨_,ay (cB (pv 0) (aI aS (pv 1) ak (fun _ _ => rfl)) rfl),?_⟩
  refine ⟨_,rfl,q,_,_,.int t,rfl,rfl,bX.of hq,at1 _ _ _,_,rfl,x,C,m.dx,_,rfl,ho,T.cl,T.nH,ip,?_⟩
  rw [gB]
  exact k _ (Fr.upd (.inl rfl)) (M1.put (k' := z.k) (eN := .int t) hw)
theorem AU : aG ["machine", "row"] ["machine", "row"] (ai gR) := ⟨rfl,rfl,rfl,by decide +kernel,rfl,by decide +kernel,by decide +kernel⟩
theorem AV {f C : Addr} {fd : FuncData} (F : cY K "do_zero" "do_zero" gR f fd) (T : gE K mg C) : aK P w K mg base bM 1 f fd ["machine", "row"] (ya C) := by
 refine F.ok AU (fun vs H Q E h => ?_) (fun cdv A outer s H vs Q E hr h => ?_)
 ·obtain ⟨x,q,m,rows,au,B,z,h,u,b,t,f,rfl,_⟩ := h
  rfl
 ·obtain ⟨x,q,m,rows,au,B,z,h,u,b,t,f,rfl,M,hB,hh,hq,hb,k⟩ := h
  have hu := cJ hr
  obtain ⟨w0,ho,hw⟩ := M.obj
  have M1 := M.more (le_succ B) (by omega)
  refine ⟨_,ay (cI (aR kl (aI aJ (aT (pv 0) rfl) (aI aS (pv 1) ak (fun _ _ => rfl)) (fun _ _ => rfl)) ak (bh _)) (ay (cB (pv 0) (aI aS (pv 1) ak (fun _ _ => rfl)) rfl)) aW),?_⟩
  refine ⟨_,rfl,x,C,m.dx,_,_,rfl,ho,T.cl,T.nB,cS,_,rfl,q,_,_,.int b,rfl,rfl,bX.of hq,at1 _ _ _,m.p2,_,_,_,rfl,rfl,aZ.of M.box,M.at hb,rfl,_,rfl,?_⟩
  refine cV (fun e => ?_) (fun e => ?_)
  ·have e := V.int.inj (of_decide_eq_true e)
   refine ⟨_,rfl,q,_,_,.int t,rfl,rfl,bX.of hq,at2 _ _ _ _,_,rfl,x,C,m.dx,_,rfl,ho,T.cl,T.nH,ip,?_⟩
   rw [gB]
   rw [if_pos e] at k
   exact k _ (Fr.upd (.inl rfl)) (M1.put (k' := z.k) (eN := .int t) hw)
  ·rw [if_neg (fun c => e (decide_eq_true (congrArg V.int c))),← hh] at k
   exact k _ Fr.refl M1
theorem yf : aG ["machine", "row"] ["machine", "row"] (ai eP) := ⟨rfl,rfl,rfl,by decide +kernel,rfl,by decide +kernel,by decide +kernel⟩
theorem yg {f C : Addr} {fd : FuncData} (F : cY K "do_below" "do_below" eP f fd) (T : gE K mg C) : aK P w K mg base bM 1 f fd ["machine", "row"] (tT C) := by
 refine F.ok yf (fun vs H Q E h => ?_) (fun cdv A outer s H vs Q E hr h => ?_)
 ·obtain ⟨x,q,m,rows,au,B,z,h,u,b,t,f,rfl,_⟩ := h
  rfl
 ·obtain ⟨x,q,m,rows,au,B,z,h,u,b,t,f,rfl,M,hB,hh,hq,hb,k⟩ := h
  have hu := cJ hr
  obtain ⟨w0,ho,hw⟩ := M.obj
  have M1 := M.more (le_succ B) (by omega)
  refine ⟨_,ay (cI (aR ik (aI aJ (aT (pv 0) rfl) (aI aS (pv 1) ak (fun _ _ => rfl)) (fun _ _ => rfl)) ak (bh _)) (ay (cB (pv 0) (aI aS (pv 1) ak (fun _ _ => rfl)) rfl)) aW),?_⟩
  refine ⟨_,rfl,x,C,m.dx,_,_,rfl,ho,T.cl,T.nB,cS,_,rfl,q,_,_,.int b,rfl,rfl,bX.of hq,at1 _ _ _,m.p2,_,_,_,rfl,rfl,aZ.of M.box,M.at hb,_,_,rfl,rfl,_,rfl,?_⟩
  refine cV (fun e => ?_) (fun e => ?_)
  ·have e := of_decide_eq_true e
   refine ⟨_,rfl,q,_,_,.int t,rfl,rfl,bX.of hq,at2 _ _ _ _,_,rfl,x,C,m.dx,_,rfl,ho,T.cl,T.nH,ip,?_⟩
   rw [gB]
   rw [if_pos e] at k
   exact k _ (Fr.upd (.inl rfl)) (M1.put (k' := z.k) (eN := .int t) hw)
  ·rw [if_neg (fun c => e (decide_eq_true c)),← hh] at k
   exact k _ Fr.refl M1
theorem AW : aG ["machine", "row"] ["machine", "row"] (ai gF) := ⟨rfl,rfl,rfl,by decide +kernel,rfl,by decide +kernel,by decide +kernel⟩
theorem AX {f C : Addr} {fd : FuncData} (F : cY K "do_stop" "do_stop" gF f fd) (T : gE K mg C)
  {fE : Addr} {BX : FuncData} (GE : aK P w K mg base bM 1 fE BX ["machine", "how"] (tV C)) (kE : KI K fE) (bE : Binds K BX ["machine", "how"] []) (mE : mg "end" = some (.ref fE)) : aK P w K mg base bM 2 f fd ["machine", "row"] (yb C) := by
 refine F.ok AW (fun vs H Q E h => ?_) (fun cdv A outer s H vs Q E hr h => ?_)
 ·obtain ⟨x,q,m,rows,au,B,z,h,u,items,rfl,_⟩ := h
  rfl
 ·obtain ⟨x,q,m,rows,au,B,z,h,u,items,rfl,M,hB,hh,hq,k⟩ := h
  have hu := cJ hr
  obtain ⟨w0,ho,hw⟩ := M.obj
  have M1 := M.more (le_succ B) (by omega)
  refine ⟨_,ay (cO (aL GE hr rfl mE kE bE .nil aP (ae (pv 0) (ae (cj (ae aY aj)) aj)))),?_⟩
  refine ⟨_,rfl,fX,fun t nt => ?_⟩
  have s1 := ao (o := .tup [.str "stop"]) nt
  exact ⟨x,t,_,m,rows,au,B + 1,z,rfl,ah,M1.same s1,fun H' e => k H' ((Fr.same s1).trans e)⟩
theorem AY : aG ["machine", "row"] ["machine", "row"] (ai gG) := ⟨rfl,rfl,rfl,by decide +kernel,rfl,by decide +kernel,by decide +kernel⟩
theorem AZ {f C : Addr} {fd : FuncData} (F : cY K "do_halt" "do_halt" gG f fd) (T : gE K mg C)
  {fE : Addr} {BX : FuncData} (GE : aK P w K mg base bM 1 fE BX ["machine", "how"] (tV C)) (kE : KI K fE) (bE : Binds K BX ["machine", "how"] []) (mE : mg "end" = some (.ref fE)) : aK P w K mg base bM 2 f fd ["machine", "row"] (yc C) := by
 refine F.ok AY (fun vs H Q E h => ?_) (fun cdv A outer s H vs Q E hr h => ?_)
 ·obtain ⟨x,q,m,rows,au,B,z,h,u,v,rfl,_⟩ := h
  rfl
 ·obtain ⟨x,q,m,rows,au,B,z,h,u,v,rfl,M,hB,hh,hq,k⟩ := h
  have hu := cJ hr
  obtain ⟨w0,ho,hw⟩ := M.obj
  have M1 := M.more (le_succ B) (by omega)
  refine ⟨_,ay (cO (aL GE hr rfl mE kE bE .nil aP (ae (pv 0) (ae (cj (ae aY (ae (aI aS (pv 1) ak (fun _ _ => rfl)) aj))) aj)))),?_⟩
  refine ⟨_,rfl,_,rfl,q,_,_,.int v,rfl,rfl,bX.of hq,at1 _ _ _,lX,fun t nt => ?_⟩
  have s1 := ao (o := .tup [.str "halt",.int v]) nt
  exact ⟨x,t,_,m,rows,au,B + 1,z,rfl,ah,M1.same s1,fun H' e => k H' ((Fr.same s1).trans e)⟩
theorem A0 : aG ["machine", "row"] ["machine", "row"] (ai gH) := ⟨rfl,rfl,rfl,by decide +kernel,rfl,by decide +kernel,by decide +kernel⟩
theorem A1 {f C : Addr} {fd : FuncData} (F : cY K "do_back" "do_back" gH f fd) (T : gE K mg C)
  {fE : Addr} {BX : FuncData} (GE : aK P w K mg base bM 1 fE BX ["machine", "how"] (tV C)) (kE : KI K fE) (bE : Binds K BX ["machine", "how"] []) (mE : mg "end" = some (.ref fE)) (ln : mg "len" = none) : aK P w K mg base bM 2 f fd ["machine", "row"] (ye C) := by
 refine F.ok A0 (fun vs H Q E h => ?_) (fun cdv A outer s H vs Q E hr h => ?_)
 ·obtain ⟨x,q,m,rows,au,B,z,h,u,items,rfl,_⟩ := h
  rfl
 ·obtain ⟨x,q,m,rows,au,B,z,h,u,items,rfl,M,hB,hh,hq,k⟩ := h
  have hu := cJ hr
  obtain ⟨w0,ho,hw⟩ := M.obj
  have M1 := M.more (le_succ B) (by omega)
  refine ⟨_,ay (cI (aR kl (aU aX (by rfl) ln cX (ae (aT (pv 0) rfl) aj)) ak (bh _)) (ay (cO (aL GE hr (by rfl) mE kE bE .nil aP (ae (pv 0) (ae (cj (ae aY aj)) aj))))) (ay (cB (pv 0) (wo PySem.F.plainAttrs_list PySem.F.slot_list_pop PySem.F.type_list_pop wu (aT (pv 0) rfl)) rfl))),?_⟩
  refine ⟨_,rfl,x,C,m.dx,_,_,rfl,ho,T.cl,T.nL,o9,m.p8,_,rfl,.inl (aZ.of M.jZ),rfl,_,rfl,?_⟩
  refine cV (fun e => ?_) (fun e => ?_)
  ·have e := V.int.inj (of_decide_eq_true e)
   rw [length_map] at e
   have e2 : z.pile = [] := List.eq_nil_of_length_eq_zero (by omega)
   refine ⟨_,rfl,fX,fun t nt => ?_⟩
   have s1 := ao (o := .tup [.str "home"]) nt
   exact ⟨x,t,_,m,rows,au,B + 1,z,rfl,ah,M1.same s1,fun H' e => k.1 e2 H' ((Fr.same s1).trans e)⟩
  ·have e2 : z.pile ≠ [] := fun c => e (by rw [c]; exact decide_eq_true rfl)
   obtain ⟨r,p,e3⟩ : ∃ r p,z.pile = r ++ [p] := ⟨z.pile.dropLast,z.pile.getLast e2,(dropLast_concat_getLast e2).symm⟩
   have hl : (z.pile.map V.int)[(z.pile.map V.int).length - 1]? = some (V.int p) := by
    rw [e3]
    simp
   have hd : (z.pile.map V.int).dropLast = r.map V.int := by
    rw [e3]
    simp
   refine ⟨_,rfl,x,C,m.dx,_,_,rfl,ho,T.cl,T.nL,o9,.inl ⟨rfl,_,aZ.of M.jZ⟩,m.p8,_,V.int p,rfl,rfl,M.jZ,hl,?_⟩
   rw [hd]
   have M2 := M1.BQ (p' := r) (by have := M.lens.2.2; have : z.pile.length = r.length + 1 := (by rw [e3]; simp); omega)
   obtain ⟨w2,ho2,hw2⟩ := M2.obj
   refine ⟨_,rfl,x,C,m.dx,_,rfl,ho2,T.cl,T.nH,ip,?_⟩
   rw [gB]
   exact k.2 r p e3 _ ((Fr.upd (.inr (.inr (.inr (.inr (.inr (.inr (.inr rfl)))))))).trans (Fr.upd (.inl rfl))) (M2.put (k' := z.k) (eN := .int p) hw2)
theorem A2 : aG ["machine", "row"] ["machine", "row"] (ai gS) := ⟨rfl,rfl,rfl,by decide +kernel,rfl,by decide +kernel,by decide +kernel⟩
theorem tW {f C : Addr} {fd : FuncData} (F : cY K "do_call" "do_call" gS f fd) (T : gE K mg C) : aK P w K mg base bM 1 f fd ["machine", "row"] (rZ C) := by
 refine F.ok A2 (fun vs H Q E h => ?_) (fun cdv A outer s H vs Q E hr h => ?_)
 ·obtain ⟨x,q,m,rows,au,B,z,h,u,t,f,rfl,_⟩ := h
  rfl
 ·obtain ⟨x,q,m,rows,au,B,z,h,u,t,f,rfl,M,hB,hh,hq,k⟩ := h
  have hu := cJ hr
  obtain ⟨w0,ho,hw⟩ := M.obj
  have M1 := M.more (le_succ B) (by omega)
  refine ⟨_,aH (cO (mJ PySem.F.plainAttrs_list PySem.F.slot_list_append PySem.F.type_list_append dh (aT (pv 0) rfl) (ae (aT (pv 0) rfl) aj))) (ay (cB (pv 0) (aI aS (pv 1) ak (fun _ _ => rfl)) rfl)),?_⟩
  have hb9 := M.big
  have hl := M.lens
  have hf : (dj m z.k z.here w0).lookup ("here" : Str) = some (V.int h) := by rw [ly,hh]
  refine ⟨_,rfl,x,C,m.dx,_,_,rfl,ho,T.cl,T.nL,o9,.inl ⟨rfl,_,aZ.of M.jZ⟩,_,rfl,x,C,m.dx,_,_,rfl,ho,T.cl,T.nH,hf,m.p8,_,_,rfl,rfl,M.jZ,(by rw [length_map]; exact cD (by omega)),?_⟩
  rw [show z.pile.map V.int ++ [V.int h] = (z.pile ++ [h]).map V.int by simp]
  have M2 := M1.BQ (p' := z.pile ++ [h]) (by rw [length_append]; show z.pile.length + 1 ≤ B + 1; omega)
  obtain ⟨w2,ho2,hw2⟩ := M2.obj
  have hq2 : upd H m.p8 (.lst ((z.pile ++ [h]).map V.int)) q = some (.tup [.str u,.int t,.int f]) := by
   rw [aw (cq hq M.jZ (by intro z; cases z))]
   exact hq
  refine ⟨_,rfl,q,_,_,.int t,rfl,rfl,bX.of hq2,at1 _ _ _,_,rfl,x,C,m.dx,_,rfl,ho2,T.cl,T.nH,ip,?_⟩
  rw [gB]
  exact k _ ((Fr.upd (.inr (.inr (.inr (.inr (.inr (.inr (.inr rfl)))))))).trans (Fr.upd (.inl rfl))) (M2.put (k' := z.k) (eN := .int t) hw2)
theorem tZ : aG ["machine", "row", "number"] ["machine", "row"] (ai gT) := ⟨rfl,rfl,rfl,by decide +kernel,rfl,by decide +kernel,by decide +kernel⟩
theorem A3 {f C : Addr} {fd : FuncData} (F : cY K "do_mark" "do_mark" gT f fd) (T : gE K mg C)
  {fC : Addr} {BZ : FuncData} (GC : aK P w K mg base bM 1 fC BZ ["machine", "row"] (rZ C)) (kC : KI K fC) (bC : Binds K BZ ["machine", "row"] []) (mC : mg "do_call" = some (.ref fC)) : aK P w K mg base bM 2 f fd ["machine", "row"] (yd C) := by
 refine F.ok tZ (fun vs H Q E h => ?_) (fun cdv A outer s H vs Q E hr h => ?_)
 ·obtain ⟨x,q,m,rows,au,B,z,h,u,t,f,o,rfl,_⟩ := h
  rfl
 ·obtain ⟨x,q,m,rows,au,B,z,h,u,t,f,o,rfl,M,hB,hh,hq,hv,k⟩ := h
  have hu := cJ hr
  obtain ⟨w0,ho,hw⟩ := M.obj
  have M1 := M.more (le_succ B) (by omega)
  refine ⟨_,aH (bg (i := 2) tZ.nd rfl (Or.inl rfl) (aT (pv 0) rfl)) (aH (cB (pv 0) (aV dz (pv 2) ak) rfl) (ay (cI (qJ (CM hu (pv 2) (aT (pv 0) rfl))) (ay (cO (aL GC hr (by rfl) mC kC bC .nil aP (ae (pv 0) (ae (pv 1) aj))))) aW))),?_⟩
  refine ⟨_,rfl,x,C,m.dx,_,_,rfl,ho,T.cl,T.nM,tS,?_⟩
  refine ⟨_,rfl,_,_,rfl,rfl,_,rfl,x,C,m.dx,_,rfl,ho,T.cl,T.nM,ip,?_⟩
  rw [Au]
  have M2 := M.put (k' := z.k + 1) (eN := z.here) hw
  refine ⟨_,rfl,_,rfl,x,C,m.dx,_,_,rfl,ah,T.cl,T.nR,Du,m.p5,_,rfl,jm.k (k := Sum.inl z.k) M2.rg,_,rfl,?_⟩
  rw [hv]
  refine cV (fun e => ?_) (fun e => ?_)
  ·have hq2 : upd H x (.ins C m.dx (dj m (z.k + 1) z.here w0)) q = some (.tup [.str u,.int t,.int f]) := by
    rw [aw (cq hq ho (by intro z; cases z))]
    exact hq
   exact ⟨_,rfl,_,rfl,x,q,m,rows,au,B,_,h,u,t,f,rfl,M2,hB,hh,hq2,fun H' e1 e2 => k.1 e H' ((Fr.upd (.inl rfl)).trans e1) e2⟩
  ·exact k.2 (by simpa using e) _ (Fr.upd (.inl rfl)) (M2.more (le_succ B) (by omega))
theorem qr : aG ["machine", "row", "k"] ["machine", "row"] (ai eQ) := ⟨rfl,rfl,rfl,by decide +kernel,rfl,by decide +kernel,by decide +kernel⟩
theorem yh {f C : Addr} {fd : FuncData} (F : cY K "do_table" "do_table" eQ f fd) (T : gE K mg C) (ln : mg "len" = none) : aK P w K mg base bM 1 f fd ["machine", "row"] (tU C) := by
 refine F.ok qr (fun vs H Q E h => ?_) (fun cdv A outer s H vs Q E hr h => ?_)
 ·obtain ⟨x,q,m,rows,au,B,z,h,u,b,p,ts,rfl,_⟩ := h
  rfl
 ·obtain ⟨x,q,m,rows,au,B,z,h,u,b,p,ts,rfl,M,hB,hh,hq,hb,hp,k⟩ := h
  have hu := cJ hr
  obtain ⟨w0,ho,hw⟩ := M.obj
  have M1 := M.more (le_succ B) (by omega)
  refine ⟨_,aH (bg (i := 2) qr.nd rfl (Or.inl rfl) (aI aJ (aT (pv 0) rfl) (aI aS (pv 1) ak (fun _ _ => rfl)) (fun _ _ => rfl))) (ay (cI (vZ vW ik ak (pv 2) (aU aX (by rfl) ln cX (ae (aI aS (pv 1) ak (fun _ _ => rfl)) aj))) (ay (cB (pv 0) (aI aS (aI aS (pv 1) ak (fun _ _ => rfl)) (pv 2) (fun _ _ => rfl)) rfl)) aW)),?_⟩
  refine ⟨_,rfl,x,C,m.dx,_,_,rfl,ho,T.cl,T.nB,cS,_,rfl,q,_,_,.int b,rfl,rfl,bX.of hq,at1 _ _ _,m.p2,_,_,_,rfl,rfl,aZ.of M.box,M.at hb,?_⟩
  unfold Zt.bx at k
  generalize z.bs.getD b.toNat 0 = c at k
  refine ⟨_,rfl,_,_,rfl,rfl,_,rfl,?_⟩
  refine cV (fun e1 => ?_) (fun e1 => ?_)
  ·have e1 := of_decide_eq_true e1
   refine ⟨_,rfl,q,_,_,.ref p,rfl,rfl,bX.of hq,at2 _ _ _ _,p,_,rfl,.inr (bX.of hp),_,_,rfl,rfl,_,rfl,?_⟩
   refine cV (fun e2 => ?_) (fun e2 => ?_)
   ·have e2 := of_decide_eq_true e2
    rw [length_map] at e2
    obtain ⟨j,rfl⟩ := Int.eq_ofNat_of_zero_le e1
    have hj : j < ts.length := by omega
    have hat : lM (ts.map V.int) (j : Int) = some (.int (ts.getD j 0)) := by
     refine bJ (j := j) ?_
     rw [List.getElem?_map,List.getElem?_eq_getElem hj,List.getD_eq_getElem?_getD,List.getElem?_eq_getElem hj]
     rfl
    refine ⟨_,rfl,q,_,_,.ref p,rfl,rfl,bX.of hq,at2 _ _ _ _,_,rfl,p,_,_,_,rfl,rfl,bX.of hp,hat,_,rfl,x,C,m.dx,_,rfl,ho,T.cl,T.nH,ip,?_⟩
    rw [gB]
    rw [if_pos ⟨e1,e2⟩,Int.toNat_natCast] at k
    exact k _ (Fr.upd (.inl rfl)) (M1.put (k' := z.k) (eN := .int (ts.getD j 0)) hw)
   ·rw [if_neg (fun c => e2 (decide_eq_true (by rw [length_map]; exact c.2))),← hh] at k
    exact k _ Fr.refl M1
  ·rw [if_neg (fun c => e1 (decide_eq_true c.1)),← hh] at k
   exact ⟨_,rfl,iP (k _ Fr.refl M1)⟩
end
abbrev nK : Stmt := inClass (top 53) 0
abbrev nO : Stmt := inClass (top 53) 1
abbrev nQ : Stmt := inClass (top 53) 10
theorem A4 : bootBuiltins "dict" = some (.type "dict") := by decide +kernel
theorem aM.refl {a : Addr} {H : Hp} : aM a H H := fun _ _ _ e => e
section
variable {P : Program} {w : World} {K : Frag} {mg : Str → Option Value} {base : Heap}
def z0 (bs : List Int) (cf : Int → Int) : Zt := ⟨.int 0,none,bs,cf,fun _ => 0,[],[],[],0⟩
def yi (C : Addr) : Sp := fun vs H Q _ => ∃ (x dx a1 a2 a3 a4 : Addr) (rows : List V) (bs bells : List Int) (d0 : List (Key × V)) (cf : Int → Int),vs = [.ref x,.ref a1,.ref a2,.ref a3,.ref a4] ∧ H x = some (.ins C dx []) ∧ H a1 = some (.lst rows) ∧ H a2 = some (.lst (bs.map V.int)) ∧ bs.length = 8 ∧
 H a3 = some (.dK d0) ∧ Rep d0 cf ∧ d0.length ≤ 50 ∧ H a4 = some (.lst (bells.map V.int)) ∧ bells.length ≤ 100 ∧ ∀ (m : MA) (au : List (Key × V)) (H' : Hp),(∀ j : Int,(cC au (Sum.inl j)).isSome = decide (j ∈ bells)) → MG C H' x m rows au 50 (z0 bs cf) → aM x H H' → (∀ c,Own m x c ∨ c = m.p1 → c ≠ x → H c = none) → Q .non H'
theorem yj : aG ["self", "rows", "boxes", "cells", "bells", "bell"] ["self", "rows", "boxes", "cells", "bells"] (ai nK) := ⟨rfl,rfl,rfl,by decide +kernel,rfl,by decide +kernel,by decide +kernel⟩
theorem A5 {f C : Addr} {fd : FuncData} (F : cY K "__init__" "Machine.__init__" nK f fd) (TT : Txt K w.params mg) (T : gE K mg C) : aK P w K mg base bM 1 f fd ["self", "rows", "boxes", "cells", "bells"] (yi C) := by
 refine F.ok yj (fun vs H Q E h => ?_) (fun cdv A outer s H vs Q E hr h => ?_)
 ·obtain ⟨x,dx,a1,a2,a3,a4,rows,bs,bells,d0,cf,rfl,_⟩ := h
  rfl
 ·obtain ⟨x,dx,a1,a2,a3,a4,rows,bs,bells,d0,cf,rfl,hx,h1,h2,b8,h3,hrep,hdl,h4,bl,z⟩ := h
  have hu := cJ hr
  refine ⟨_,aH (cB (pv 0) (bK cu (by rfl) TT.list dY (ae (pv 1) aj)) rfl)
   (aH (cB (pv 0) (bK cu (by rfl) TT.list dY (ae (pv 2) aj)) rfl)
   (aH (cB (pv 0) (bK oQ (by rfl) TT.dict A4 (ae (pv 3) aj)) rfl)
   (aH (cB (pv 0) gm rfl) (aH (cB (pv 0) gm rfl)
   (aH (dO PassesOwn.never rfl (eG (pv 4)) (bp (i := 5) yj.nd rfl (Or.inl rfl)) (ay (fj hu (aT (pv 0) rfl) (pv 5) fZ rfl)))
   (aH (cB (pv 0) (ck aj) rfl) (aH (cB (pv 0) (ck aj) rfl) (aH (cB (pv 0) (ck aj) rfl)
   (aH (cB (pv 0) ak rfl) (aH (cB (pv 0) ak rfl) (ay (cB (pv 0) iw rfl)))))))))))),?_⟩
  have xa : ∀ {a o},H a = some o → (∀ fs,o ≠ .ins C dx fs) → a ≠ x := fun {a o} e n => cq e hx (n _)
  have x1 := xa h1 (by intro _ z; cases z)
  have x2 := xa h2 (by intro _ z; cases z)
  have x3 := xa h3 (by intro _ z; cases z)
  have x4 := xa h4 (by intro _ z; cases z)
  have S0 : aM x H H := aM.refl
  have O0 := hx
  refine ⟨_,rfl,a1,_,rfl,.inl (aZ.of h1),fun p1 n1 => ?_⟩
  have y1 : p1 ≠ x := (aq O0 n1).symm
  have f1 : H p1 = none := S0.free y1 n1
  refine ⟨_,rfl,x,C,dx,([] : List (Str × V)),rfl,ao n1 _ _ O0,T.cl,T.nP,(by show 0 < 1000; decide),?_⟩
  rw [show cT ("program" : Str) (V.ref p1) ([] : List (Str × V)) = (List.zip ["program"] [V.ref p1] : List (Str × V)) from rfl]
  obtain ⟨G1,E1⟩ : ∃ G,G = upd (upd H p1 (.lst rows)) x (.ins C dx (List.zip ["program"] [V.ref p1] : List (Str × V))) := ⟨_,rfl⟩
  have R1 : aM x H G1 := by rw [E1]; exact (aM.same (ao n1)).trans aM.put
  have K1 : G1 p1 = some (.lst rows) := by rw [E1,aw y1]; exact ah
  have O1 : G1 x = some (.ins C dx (List.zip ["program"] [V.ref p1] : List (Str × V))) := by rw [E1]; exact ah
  have S1 : aM x H G1 := S0.trans R1
  rw [← E1]
  clear E1
  refine ⟨_,rfl,a2,_,rfl,.inl (aZ.of (S1 _ _ x2 h2)),fun p2 n2 => ?_⟩
  have y2 : p2 ≠ x := (aq O1 n2).symm
  have f2 : H p2 = none := S1.free y2 n2
  refine ⟨_,rfl,x,C,dx,(List.zip ["program"] [V.ref p1] : List (Str × V)),rfl,ao n2 _ _ O1,T.cl,T.nB,(by show 1 < 1000; decide),?_⟩
  rw [show cT ("in_boxes" : Str) (V.ref p2) (List.zip ["program"] [V.ref p1] : List (Str × V)) = (List.zip ["program", "in_boxes"] [V.ref p1,V.ref p2] : List (Str × V)) from dq _ _ _ _ (by decide +kernel) rfl]
  obtain ⟨G2,E2⟩ : ∃ G,G = upd (upd G1 p2 (.lst (bs.map V.int))) x (.ins C dx (List.zip ["program", "in_boxes"] [V.ref p1,V.ref p2] : List (Str × V))) := ⟨_,rfl⟩
  have R2 : aM x G1 G2 := by rw [E2]; exact (aM.same (ao n2)).trans aM.put
  have K2 : G2 p2 = some (.lst (bs.map V.int)) := by rw [E2,aw y2]; exact ah
  have O2 : G2 x = some (.ins C dx (List.zip ["program", "in_boxes"] [V.ref p1,V.ref p2] : List (Str × V))) := by rw [E2]; exact ah
  have S2 : aM x H G2 := S1.trans R2
  rw [← E2]
  clear E2
  refine ⟨_,rfl,a3,_,rfl,S2 _ _ x3 h3,fun p3 n3 => ?_⟩
  have y3 : p3 ≠ x := (aq O2 n3).symm
  have f3 : H p3 = none := S2.free y3 n3
  refine ⟨_,rfl,x,C,dx,(List.zip ["program", "in_boxes"] [V.ref p1,V.ref p2] : List (Str × V)),rfl,ao n3 _ _ O2,T.cl,T.nC,(by show 2 < 1000; decide),?_⟩
  rw [show cT ("in_cells" : Str) (V.ref p3) (List.zip ["program", "in_boxes"] [V.ref p1,V.ref p2] : List (Str × V)) = (List.zip ["program", "in_boxes", "in_cells"] [V.ref p1,V.ref p2,V.ref p3] : List (Str × V)) from dq _ _ _ _ (by decide +kernel) rfl]
  obtain ⟨G3,E3⟩ : ∃ G,G = upd (upd G2 p3 (.dK d0)) x (.ins C dx (List.zip ["program", "in_boxes", "in_cells"] [V.ref p1,V.ref p2,V.ref p3] : List (Str × V))) := ⟨_,rfl⟩
  have R3 : aM x G2 G3 := by rw [E3]; exact (aM.same (ao n3)).trans aM.put
  have K3 : G3 p3 = some (.dK d0) := by rw [E3,aw y3]; exact ah
  have O3 : G3 x = some (.ins C dx (List.zip ["program", "in_boxes", "in_cells"] [V.ref p1,V.ref p2,V.ref p3] : List (Str × V))) := by rw [E3]; exact ah
  have S3 : aM x H G3 := S2.trans R3
  rw [← E3]
  clear E3
  intro p4 n4
  have y4 : p4 ≠ x := (aq O3 n4).symm
  have f4 : H p4 = none := S3.free y4 n4
  refine ⟨_,rfl,x,C,dx,(List.zip ["program", "in_boxes", "in_cells"] [V.ref p1,V.ref p2,V.ref p3] : List (Str × V)),rfl,ao n4 _ _ O3,T.cl,T.nA,(by show 3 < 1000; decide),?_⟩
  rw [show cT ("in_asides" : Str) (V.ref p4) (List.zip ["program", "in_boxes", "in_cells"] [V.ref p1,V.ref p2,V.ref p3] : List (Str × V)) = (List.zip ["program", "in_boxes", "in_cells", "in_asides"] [V.ref p1,V.ref p2,V.ref p3,V.ref p4] : List (Str × V)) from dq _ _ _ _ (by decide +kernel) rfl]
  obtain ⟨G4,E4⟩ : ∃ G,G = upd (upd G3 p4 (.dK [])) x (.ins C dx (List.zip ["program", "in_boxes", "in_cells", "in_asides"] [V.ref p1,V.ref p2,V.ref p3,V.ref p4] : List (Str × V))) := ⟨_,rfl⟩
  have R4 : aM x G3 G4 := by rw [E4]; exact (aM.same (ao n4)).trans aM.put
  have K4 : G4 p4 = some (.dK []) := by rw [E4,aw y4]; exact ah
  have O4 : G4 x = some (.ins C dx (List.zip ["program", "in_boxes", "in_cells", "in_asides"] [V.ref p1,V.ref p2,V.ref p3,V.ref p4] : List (Str × V))) := by rw [E4]; exact ah
  have S4 : aM x H G4 := S3.trans R4
  rw [← E4]
  clear E4
  intro p5 n5
  have y5 : p5 ≠ x := (aq O4 n5).symm
  have f5 : H p5 = none := S4.free y5 n5
  refine ⟨_,rfl,x,C,dx,(List.zip ["program", "in_boxes", "in_cells", "in_asides"] [V.ref p1,V.ref p2,V.ref p3,V.ref p4] : List (Str × V)),rfl,ao n5 _ _ O4,T.cl,T.nR,(by show 4 < 1000; decide),?_⟩
  rw [show cT ("rung" : Str) (V.ref p5) (List.zip ["program", "in_boxes", "in_cells", "in_asides"] [V.ref p1,V.ref p2,V.ref p3,V.ref p4] : List (Str × V)) = (List.zip ["program", "in_boxes", "in_cells", "in_asides", "rung"] [V.ref p1,V.ref p2,V.ref p3,V.ref p4,V.ref p5] : List (Str × V)) from dq _ _ _ _ (by decide +kernel) rfl]
  obtain ⟨G5,E5⟩ : ∃ G,G = upd (upd G4 p5 (.dK [])) x (.ins C dx (List.zip ["program", "in_boxes", "in_cells", "in_asides", "rung"] [V.ref p1,V.ref p2,V.ref p3,V.ref p4,V.ref p5] : List (Str × V))) := ⟨_,rfl⟩
  have R5 : aM x G4 G5 := by rw [E5]; exact (aM.same (ao n5)).trans aM.put
  have K5 : G5 p5 = some (.dK []) := by rw [E5,aw y5]; exact ah
  have O5 : G5 x = some (.ins C dx (List.zip ["program", "in_boxes", "in_cells", "in_asides", "rung"] [V.ref p1,V.ref p2,V.ref p3,V.ref p4,V.ref p5] : List (Str × V))) := by rw [E5]; exact ah
  have S5 : aM x H G5 := S4.trans R5
  rw [← E5]
  clear E5
  refine ⟨_,rfl,a4,rfl,⟨_,aZ.of (S5 _ _ x4 h4)⟩,iK (xs := bells.map V.int) (fun i σ Hc => ∃ (v : Option V) (au : List (Key × V)),σ = [some (.ref x),some (.ref a1),some (.ref a2),some (.ref a3),some (.ref a4),v] ∧ (∀ c o,c ≠ p5 → G5 c = some o → Hc c = some o) ∧ Hc p5 = some (.dK au) ∧ au.length ≤ i ∧ ∀ j : Int,(cC au (Sum.inl j)).isSome = decide (j ∈ bells.take i)) ?_ ?_ ?_ ?_⟩
  ·exact ⟨none,[],rfl,fun _ _ _ e => e,K5,le_refl _,fun j => by simp [cC]⟩
  ·rintro i σ Hc _ ⟨v,au,rfl,e5,_⟩
   have q5 : a4 ≠ p5 := aq h4 f5
   exact aZ.of (e5 _ _ q5 (S5 _ _ x4 h4))
  ·rintro i y σ Hc hy ⟨v,au,rfl,e5,k5,rl,rv⟩
   rw [List.getElem?_map] at hy
   obtain ⟨b,hb,rfl⟩ := map_eq_some_iff.mp hy
   have hil := (List.getElem?_eq_some_iff.mp hb).1
   refine ⟨_,rfl,x,C,dx,_,_,rfl,e5 _ _ y5.symm O5,T.cl,T.nR,(cE ["program", "in_boxes", "in_cells", "in_asides", "rung"] _ 4 _ (by decide +kernel) rfl),_,rfl,p5,_,rfl,ku.k (k := Sum.inl b) k5 (cD (by omega)),?_⟩
   refine ⟨_,_,rfl,fun c o n e => ?_,ah,?_,fun j => ?_⟩
   ·rw [aw n]
    exact e5 c o n e
   ·have := cQ au (Sum.inl b : Key) (V.bl true)
    omega
   ·rw [pS,take_succ,hb]
    by_cases hj : j = b
    ·subst hj
     rw [if_pos rfl]
     simp
    ·rw [if_neg (by intro e; exact hj (Sum.inl.inj e)),rv j]
     simp [hj]
  ·rintro σ Jr ⟨v,au,rfl,e5,k5,rl,rv⟩
   rw [length_map,take_length] at rv
   have Ws := e5 _ _ y5.symm O5
   have Wt : aM x H Jr := fun c o n e => by
    have hc : c ≠ p5 := aq e f5
    exact e5 c o hc (S5 c o n e)
   refine ⟨Ab,fun p6 n6 => ?_⟩
   have y6 : p6 ≠ x := (aq Ws n6).symm
   have f6 : H p6 = none := Wt.free y6 n6
   refine ⟨_,rfl,x,C,dx,(List.zip ["program", "in_boxes", "in_cells", "in_asides", "rung"] [V.ref p1,V.ref p2,V.ref p3,V.ref p4,V.ref p5] : List (Str × V)),rfl,ao n6 _ _ Ws,T.cl,T.nT,(by show 5 < 1000; decide),?_⟩
   rw [show cT ("told_numbers" : Str) (V.ref p6) (List.zip ["program", "in_boxes", "in_cells", "in_asides", "rung"] [V.ref p1,V.ref p2,V.ref p3,V.ref p4,V.ref p5] : List (Str × V)) = (List.zip ["program", "in_boxes", "in_cells", "in_asides", "rung", "told_numbers"] [V.ref p1,V.ref p2,V.ref p3,V.ref p4,V.ref p5,V.ref p6] : List (Str × V)) from dq _ _ _ _ (by decide +kernel) rfl]
   obtain ⟨G6,E6⟩ : ∃ G,G = upd (upd Jr p6 (.lst [])) x (.ins C dx (List.zip ["program", "in_boxes", "in_cells", "in_asides", "rung", "told_numbers"] [V.ref p1,V.ref p2,V.ref p3,V.ref p4,V.ref p5,V.ref p6] : List (Str × V))) := ⟨_,rfl⟩
   have R6 : aM x Jr G6 := by rw [E6]; exact (aM.same (ao n6)).trans aM.put
   have K6 : G6 p6 = some (.lst []) := by rw [E6,aw y6]; exact ah
   have O6 : G6 x = some (.ins C dx (List.zip ["program", "in_boxes", "in_cells", "in_asides", "rung", "told_numbers"] [V.ref p1,V.ref p2,V.ref p3,V.ref p4,V.ref p5,V.ref p6] : List (Str × V))) := by rw [E6]; exact ah
   have S6 : aM x H G6 := Wt.trans R6
   rw [← E6]
   clear E6
   refine ⟨Ab,fun p7 n7 => ?_⟩
   have y7 : p7 ≠ x := (aq O6 n7).symm
   have f7 : H p7 = none := S6.free y7 n7
   refine ⟨_,rfl,x,C,dx,(List.zip ["program", "in_boxes", "in_cells", "in_asides", "rung", "told_numbers"] [V.ref p1,V.ref p2,V.ref p3,V.ref p4,V.ref p5,V.ref p6] : List (Str × V)),rfl,ao n7 _ _ O6,T.cl,T.nS,(by show 6 < 1000; decide),?_⟩
   rw [show cT ("seen_numbers" : Str) (V.ref p7) (List.zip ["program", "in_boxes", "in_cells", "in_asides", "rung", "told_numbers"] [V.ref p1,V.ref p2,V.ref p3,V.ref p4,V.ref p5,V.ref p6] : List (Str × V)) = (List.zip ["program", "in_boxes", "in_cells", "in_asides", "rung", "told_numbers", "seen_numbers"] [V.ref p1,V.ref p2,V.ref p3,V.ref p4,V.ref p5,V.ref p6,V.ref p7] : List (Str × V)) from dq _ _ _ _ (by decide +kernel) rfl]
   obtain ⟨G7,E7⟩ : ∃ G,G = upd (upd G6 p7 (.lst [])) x (.ins C dx (List.zip ["program", "in_boxes", "in_cells", "in_asides", "rung", "told_numbers", "seen_numbers"] [V.ref p1,V.ref p2,V.ref p3,V.ref p4,V.ref p5,V.ref p6,V.ref p7] : List (Str × V))) := ⟨_,rfl⟩
   have R7 : aM x G6 G7 := by rw [E7]; exact (aM.same (ao n7)).trans aM.put
   have K7 : G7 p7 = some (.lst []) := by rw [E7,aw y7]; exact ah
   have O7 : G7 x = some (.ins C dx (List.zip ["program", "in_boxes", "in_cells", "in_asides", "rung", "told_numbers", "seen_numbers"] [V.ref p1,V.ref p2,V.ref p3,V.ref p4,V.ref p5,V.ref p6,V.ref p7] : List (Str × V))) := by rw [E7]; exact ah
   have S7 : aM x H G7 := S6.trans R7
   rw [← E7]
   clear E7
   refine ⟨Ab,fun p8 n8 => ?_⟩
   have y8 : p8 ≠ x := (aq O7 n8).symm
   have f8 : H p8 = none := S7.free y8 n8
   refine ⟨_,rfl,x,C,dx,(List.zip ["program", "in_boxes", "in_cells", "in_asides", "rung", "told_numbers", "seen_numbers"] [V.ref p1,V.ref p2,V.ref p3,V.ref p4,V.ref p5,V.ref p6,V.ref p7] : List (Str × V)),rfl,ao n8 _ _ O7,T.cl,T.nL,(by show 7 < 1000; decide),?_⟩
   rw [show cT ("pile" : Str) (V.ref p8) (List.zip ["program", "in_boxes", "in_cells", "in_asides", "rung", "told_numbers", "seen_numbers"] [V.ref p1,V.ref p2,V.ref p3,V.ref p4,V.ref p5,V.ref p6,V.ref p7] : List (Str × V)) = (List.zip ["program", "in_boxes", "in_cells", "in_asides", "rung", "told_numbers", "seen_numbers", "pile"] [V.ref p1,V.ref p2,V.ref p3,V.ref p4,V.ref p5,V.ref p6,V.ref p7,V.ref p8] : List (Str × V)) from dq _ _ _ _ (by decide +kernel) rfl]
   obtain ⟨G8,E8⟩ : ∃ G,G = upd (upd G7 p8 (.lst [])) x (.ins C dx (List.zip ["program", "in_boxes", "in_cells", "in_asides", "rung", "told_numbers", "seen_numbers", "pile"] [V.ref p1,V.ref p2,V.ref p3,V.ref p4,V.ref p5,V.ref p6,V.ref p7,V.ref p8] : List (Str × V))) := ⟨_,rfl⟩
   have R8 : aM x G7 G8 := by rw [E8]; exact (aM.same (ao n8)).trans aM.put
   have K8 : G8 p8 = some (.lst []) := by rw [E8,aw y8]; exact ah
   have O8 : G8 x = some (.ins C dx (List.zip ["program", "in_boxes", "in_cells", "in_asides", "rung", "told_numbers", "seen_numbers", "pile"] [V.ref p1,V.ref p2,V.ref p3,V.ref p4,V.ref p5,V.ref p6,V.ref p7,V.ref p8] : List (Str × V))) := by rw [E8]; exact ah
   have S8 : aM x H G8 := S7.trans R8
   rw [← E8]
   clear E8
   refine ⟨_,rfl,x,C,dx,(List.zip ["program", "in_boxes", "in_cells", "in_asides", "rung", "told_numbers", "seen_numbers", "pile"] [V.ref p1,V.ref p2,V.ref p3,V.ref p4,V.ref p5,V.ref p6,V.ref p7,V.ref p8] : List (Str × V)),rfl,O8,T.cl,T.nM,(by show 8 < 1000; decide),?_⟩
   rw [show cT ("marks_done" : Str) (V.int 0) (List.zip ["program", "in_boxes", "in_cells", "in_asides", "rung", "told_numbers", "seen_numbers", "pile"] [V.ref p1,V.ref p2,V.ref p3,V.ref p4,V.ref p5,V.ref p6,V.ref p7,V.ref p8] : List (Str × V)) = (List.zip ["program", "in_boxes", "in_cells", "in_asides", "rung", "told_numbers", "seen_numbers", "pile", "marks_done"] [V.ref p1,V.ref p2,V.ref p3,V.ref p4,V.ref p5,V.ref p6,V.ref p7,V.ref p8,V.int 0] : List (Str × V)) from dq _ _ _ _ (by decide +kernel) rfl]
   obtain ⟨G9,E9⟩ : ∃ G,G = upd G8 x (.ins C dx (List.zip ["program", "in_boxes", "in_cells", "in_asides", "rung", "told_numbers", "seen_numbers", "pile", "marks_done"] [V.ref p1,V.ref p2,V.ref p3,V.ref p4,V.ref p5,V.ref p6,V.ref p7,V.ref p8,V.int 0] : List (Str × V))) := ⟨_,rfl⟩
   have R9 : aM x G8 G9 := by rw [E9]; exact aM.put
   have O9 : G9 x = some (.ins C dx (List.zip ["program", "in_boxes", "in_cells", "in_asides", "rung", "told_numbers", "seen_numbers", "pile", "marks_done"] [V.ref p1,V.ref p2,V.ref p3,V.ref p4,V.ref p5,V.ref p6,V.ref p7,V.ref p8,V.int 0] : List (Str × V))) := by rw [E9]; exact ah
   have S9 : aM x H G9 := S8.trans R9
   rw [← E9]
   clear E9
   refine ⟨_,rfl,x,C,dx,(List.zip ["program", "in_boxes", "in_cells", "in_asides", "rung", "told_numbers", "seen_numbers", "pile", "marks_done"] [V.ref p1,V.ref p2,V.ref p3,V.ref p4,V.ref p5,V.ref p6,V.ref p7,V.ref p8,V.int 0] : List (Str × V)),rfl,O9,T.cl,T.nH,(by show 9 < 1000; decide),?_⟩
   rw [show cT ("here" : Str) (V.int 0) (List.zip ["program", "in_boxes", "in_cells", "in_asides", "rung", "told_numbers", "seen_numbers", "pile", "marks_done"] [V.ref p1,V.ref p2,V.ref p3,V.ref p4,V.ref p5,V.ref p6,V.ref p7,V.ref p8,V.int 0] : List (Str × V)) = (List.zip ["program", "in_boxes", "in_cells", "in_asides", "rung", "told_numbers", "seen_numbers", "pile", "marks_done", "here"] [V.ref p1,V.ref p2,V.ref p3,V.ref p4,V.ref p5,V.ref p6,V.ref p7,V.ref p8,V.int 0,V.int 0] : List (Str × V)) from dq _ _ _ _ (by decide +kernel) rfl]
   obtain ⟨FN,E10⟩ : ∃ G,G = upd G9 x (.ins C dx (List.zip ["program", "in_boxes", "in_cells", "in_asides", "rung", "told_numbers", "seen_numbers", "pile", "marks_done", "here"] [V.ref p1,V.ref p2,V.ref p3,V.ref p4,V.ref p5,V.ref p6,V.ref p7,V.ref p8,V.int 0,V.int 0] : List (Str × V))) := ⟨_,rfl⟩
   have FO : aM x G9 FN := by rw [E10]; exact aM.put
   have Ym : FN x = some (.ins C dx (List.zip ["program", "in_boxes", "in_cells", "in_asides", "rung", "told_numbers", "seen_numbers", "pile", "marks_done", "here"] [V.ref p1,V.ref p2,V.ref p3,V.ref p4,V.ref p5,V.ref p6,V.ref p7,V.ref p8,V.int 0,V.int 0] : List (Str × V))) := by rw [E10]; exact ah
   have Yn : aM x H FN := S9.trans FO
   rw [← E10]
   clear E10
   refine ⟨_,rfl,x,C,dx,(List.zip ["program", "in_boxes", "in_cells", "in_asides", "rung", "told_numbers", "seen_numbers", "pile", "marks_done", "here"] [V.ref p1,V.ref p2,V.ref p3,V.ref p4,V.ref p5,V.ref p6,V.ref p7,V.ref p8,V.int 0,V.int 0] : List (Str × V)),rfl,Ym,T.cl,T.nE,(by show 10 < 1000; decide),?_⟩
   rw [show cT ("how_ended" : Str) (V.non) (List.zip ["program", "in_boxes", "in_cells", "in_asides", "rung", "told_numbers", "seen_numbers", "pile", "marks_done", "here"] [V.ref p1,V.ref p2,V.ref p3,V.ref p4,V.ref p5,V.ref p6,V.ref p7,V.ref p8,V.int 0,V.int 0] : List (Str × V)) = (List.zip ["program", "in_boxes", "in_cells", "in_asides", "rung", "told_numbers", "seen_numbers", "pile", "marks_done", "here", "how_ended"] [V.ref p1,V.ref p2,V.ref p3,V.ref p4,V.ref p5,V.ref p6,V.ref p7,V.ref p8,V.int 0,V.int 0,V.non] : List (Str × V)) from dq _ _ _ _ (by decide +kernel) rfl]
   obtain ⟨FP,E11⟩ : ∃ G,G = upd FN x (.ins C dx (List.zip ["program", "in_boxes", "in_cells", "in_asides", "rung", "told_numbers", "seen_numbers", "pile", "marks_done", "here", "how_ended"] [V.ref p1,V.ref p2,V.ref p3,V.ref p4,V.ref p5,V.ref p6,V.ref p7,V.ref p8,V.int 0,V.int 0,V.non] : List (Str × V))) := ⟨_,rfl⟩
   have FQ : aM x FN FP := by rw [E11]; exact aM.put
   have Yo : FP x = some (.ins C dx (List.zip ["program", "in_boxes", "in_cells", "in_asides", "rung", "told_numbers", "seen_numbers", "pile", "marks_done", "here", "how_ended"] [V.ref p1,V.ref p2,V.ref p3,V.ref p4,V.ref p5,V.ref p6,V.ref p7,V.ref p8,V.int 0,V.int 0,V.non] : List (Str × V))) := by rw [E11]; exact ah
   have Yp : aM x H FP := Yn.trans FQ
   rw [← E11]
   clear E11
   have FT : aM x Jr FP := R6.trans (R7.trans (R8.trans (R9.trans (FO.trans FQ))))
   have n15 : p1 ≠ p5 := aq (R4 _ _ y1 (R3 _ _ y1 (R2 _ _ y1 K1))) n5
   have n25 : p2 ≠ p5 := aq (R4 _ _ y2 (R3 _ _ y2 K2)) n5
   have n35 : p3 ≠ p5 := aq (R4 _ _ y3 K3) n5
   have n45 : p4 ≠ p5 := aq K4 n5
   have g1 := e5 _ _ n15 (R5 _ _ y1 (R4 _ _ y1 (R3 _ _ y1 (R2 _ _ y1 K1))))
   have g2 := e5 _ _ n25 (R5 _ _ y2 (R4 _ _ y2 (R3 _ _ y2 K2)))
   have g3 := e5 _ _ n35 (R5 _ _ y3 (R4 _ _ y3 K3))
   have g4 := e5 _ _ n45 (R5 _ _ y4 K4)
   have Wu := R6.trans R7
   have n12 : p1 ≠ p2 := aq K1 n2
   have n34 : p3 ≠ p4 := aq K3 n4
   have n16 : p1 ≠ p6 := aq g1 n6
   have n26 : p2 ≠ p6 := aq g2 n6
   have n17 : p1 ≠ p7 := aq (R6 _ _ y1 g1) n7
   have n27 : p2 ≠ p7 := aq (R6 _ _ y2 g2) n7
   have Jo : p6 ≠ p7 := aq K6 n7
   have n18 : p1 ≠ p8 := aq (Wu _ _ y1 g1) n8
   have n28 : p2 ≠ p8 := aq (Wu _ _ y2 g2) n8
   have Jp : p6 ≠ p8 := aq (R7 _ _ y6 K6) n8
   have Jq : p7 ≠ p8 := aq K7 n8
   refine z ⟨dx,p1,p2,p3,p4,p5,p6,p7,p8⟩ au FP rv ⟨⟨_,Yo,rfl⟩,FT _ _ y1 g1,FT _ _ y2 g2,b8,⟨d0,FT _ _ y3 g3,hrep,hdl⟩,⟨[],FT _ _ y4 g4,Rep.nil,by simp⟩,FT _ _ y5 k5,(R7.trans (R8.trans (R9.trans (FO.trans FQ)))) _ _ y6 K6,⟨[],(R8.trans (R9.trans (FO.trans FQ))) _ _ y7 K7,rfl,fun i p c e => by simp at e⟩,(R9.trans (FO.trans FQ)) _ _ y8 K8,⟨n12,n16,n17,n18,n26,n27,n28,Jo,Jp,Jq,n34,n35,n45⟩,⟨by simp [z0],by simp [z0],by simp [z0]⟩,by omega⟩ Yp ?_
   rintro c ((rfl | rfl | rfl | rfl | rfl | rfl | rfl | rfl) | rfl) hc
   ·exact absurd rfl hc
   ·exact f2
   ·exact f3
   ·exact f4
   ·exact f5
   ·exact f6
   ·exact f7
   ·exact f8
   ·exact f1
end
inductive Rw where
 | stop | back | halt (v : Int) | two (u : Str) (b v : Int) | tell (b : Int) | eS (u : Str) (t f : Int) | zb (u : Str) (b t f : Int) | table (b : Int) (ts : List Int)
def ten : List Str := ["set", "more", "copy", "add", "less", "load", "keep", "see", "put", "take"]
def five : List Str := ["copy", "add", "less", "load", "keep"]
def ja (H : Hp) (q : Addr) (n : Int) : Rw → Prop
 | .stop => H q = some (.tup [.str "stop"])
 | .back => H q = some (.tup [.str "back"])
 | .halt v => H q = some (.tup [.str "halt",.int v])
 | .two u b v => H q = some (.tup [.str u,.int b,.int v]) ∧ u ∈ ten ∧ Bx b ∧ (u ∈ five → Bx v)
 | .tell b => H q = some (.tup [.str "tell",.int b]) ∧ Bx b
 | .eS u t f => H q = some (.tup [.str u,.int t,.int f]) ∧ u ∈ My.eS ∧ 0 ≤ t ∧ t < n
 | .zb u b t f => H q = some (.tup [.str u,.int b,.int t,.int f]) ∧ u ∈ My.zb ∧ Bx b ∧ 0 ≤ t ∧ t < n
 | .table b ts => ∃ p,H q = some (.tup [.str "table",.int b,.ref p]) ∧ H p = some (.tup (ts.map V.int)) ∧ Bx b ∧ ∀ t ∈ ts,0 ≤ t ∧ t < n
theorem ja.tups {H H' : Hp} {q : Addr} {n : Int} {r : Rw} (e : cF H H') (h : ja H q n r) : ja H' q n r := by
 cases r with
 | stop => exact e _ _ h
 | back => exact e _ _ h
 | halt v => exact e _ _ h
 | two u b v => exact ⟨e _ _ h.1,h.2⟩
 | tell b => exact ⟨e _ _ h.1,h.2⟩
 | eS u t f => exact ⟨e _ _ h.1,h.2⟩
 | zb u b t f => exact ⟨e _ _ h.1,h.2⟩
 | table b ts =>
  obtain ⟨p,h1,h2,h3⟩ := h
  exact ⟨p,e _ _ h1,e _ _ h2,h3⟩
def Rw.word : Rw → Str
 | .stop => "stop" | .back => "back" | .halt _ => "halt" | .two u _ _ => u | .tell _ => "tell" | .eS u _ _ => u | .zb u _ _ _ => u | .table _ _ => "table"
def Rw.goes (r : Rw) : Prop := ¬ r.word ∈ bZ
def num (u : Str) (b v : Int) (z : Zt) : Int :=
 if u = "set" then v else if u = "more" then z.bx b + v else if u = "copy" then z.bx v else if u = "add" then z.bx b + z.bx v else if u = "less" then z.bx b - z.bx v
 else if u = "load" then z.cf (z.bx v) else z.af v
def bf (ring : Int → Bool) (r : Rw) (h : Int) (z : Zt) : Zt :=
 match r with
 | .stop => { z with here := .non,how := some [.str "stop"] }
 | .halt v => { z with here := .non,how := some [.str "halt",.int v] }
 | .back => match z.pile.getLast? with
  | none => { z with here := .non,how := some [.str "home"] }
  | some p => { z with here := .int p,pile := z.pile.dropLast }
 | .two u b v =>
  if u = "keep" then { z with here := .int (h + 1),cf := lW z.cf (z.bx b) (z.bx v) }
  else if u = "put" then { z with here := .int (h + 1),af := lW z.af v (z.bx b) }
  else if u = "see" then { z with here := .int (h + 1),seen := z.seen ++ [(v,z.bx b)] }
  else { z with here := .int (h + 1),bs := z.bs.set b.toNat (num u b v z) }
 | .tell b => { z with here := .int (h + 1),told := z.told ++ [z.bx b] }
 | .eS u t _ =>
  if u = "jump" then { z with here := .int t }
  else if u = "call" then { z with here := .int t,pile := z.pile ++ [h + 1] }
  else if ring z.k = true then { z with here := .int t,pile := z.pile ++ [h + 1],k := z.k + 1 } else { z with here := .int (h + 1),k := z.k + 1 }
 | .zb u b t _ => { z with here := .int (if (u = "zero" ∧ z.bx b = 0) ∨ (u = "below" ∧ z.bx b < 0) then t else h + 1) }
 | .table b ts => { z with here := .int (if 0 ≤ z.bx b ∧ z.bx b < ts.length then ts.getD (z.bx b).toNat 0 else h + 1) }
theorem jb {z : Zt} {h : Int} {ring : Int → Bool} {r : List Int} {p : Int} (e : z.pile = r ++ [p]) : bf ring .back h z = { z with here := .int p,pile := r } := by
 unfold bf
 have e1 : z.pile.getLast? = some p := by rw [e]; simp
 have e2 : z.pile.dropLast = r := by rw [e]; simp
 simp only [e1,e2]
theorem dD {z : Zt} {h : Int} {ring : Int → Bool} (e : z.pile = []) : bf ring .back h z = { z with here := .non,how := some [.str "home"] } := by
 unfold bf
 have e1 : z.pile.getLast? = none := by rw [e]; rfl
 simp only [e1]
def jG (n : Nat) (z : Zt) : Prop := (z.here = .non ∨ ∃ r : Nat,z.here = .int r ∧ r < n) ∧ ∀ p ∈ z.pile,0 ≤ p ∧ p < n
theorem jG.step {n : Nat} {z : Zt} {ring : Int → Bool} {r : Rw} {h : Nat} {H : Hp} {q : Addr} (S : jG n z) (hh : h < n) (hr : ja H q n r) (hg : h + 1 = n → r.word ∈ bZ) : jG n (bf ring r h z) := by
 have next : r.goes → ∃ r' : Nat,((h : Int) + 1) = r' ∧ r' < n := fun g => ⟨h + 1,by omega,by
  rcases Nat.lt_or_ge (h + 1) n with l | l
  ·exact l
  ·exact absurd (hg (by omega)) g⟩
 have tgt : ∀ t : Int,0 ≤ t → t < n → ∃ r' : Nat,t = r' ∧ r' < n := fun t a b => ⟨t.toNat,by omega,by omega⟩
 cases r with
 | stop => exact ⟨.inl rfl,S.2⟩
 | halt v => exact ⟨.inl rfl,S.2⟩
 | back =>
  rcases List.eq_nil_or_concat z.pile with e | ⟨r,p,e⟩
  ·rw [dD e]
   exact ⟨.inl rfl,S.2⟩
  ·have e : z.pile = r ++ [p] := by simpa using e
   rw [jb e]
   have hp := S.2 p (by rw [e]; simp)
   obtain ⟨r',e1,e2⟩ := tgt p hp.1 hp.2
   exact ⟨.inr ⟨r',by show V.int p = _; rw [e1],e2⟩,fun p' hp' => S.2 p' (by rw [e]; exact List.mem_append_left _ hp')⟩
 | two u b v =>
  obtain ⟨r',e1,e2⟩ := next ((by decide +kernel : ∀ u ∈ ten,¬ u ∈ bZ) u hr.2.1)
  have e1 : V.int ((h : Int) + 1) = .int r' := by rw [e1]
  simp only [bf]
  split
  ·exact ⟨.inr ⟨r',e1,e2⟩,S.2⟩
  split
  ·exact ⟨.inr ⟨r',e1,e2⟩,S.2⟩
  split
  ·exact ⟨.inr ⟨r',e1,e2⟩,S.2⟩
  ·exact ⟨.inr ⟨r',e1,e2⟩,S.2⟩
 | tell b =>
  obtain ⟨r',e1,e2⟩ := next (show ¬ ("tell" : Str) ∈ bZ by decide +kernel)
  exact ⟨.inr ⟨r',by show V.int ((h : Int) + 1) = _; rw [e1],e2⟩,S.2⟩
 | eS u t f =>
  obtain ⟨t',e1,e2⟩ := tgt t hr.2.2.1 hr.2.2.2
  have e1 : V.int t = .int t' := by rw [e1]
  simp only [bf]
  by_cases hj : u = "jump"
  ·simp only [if_pos hj]
   exact ⟨.inr ⟨t',e1,e2⟩,S.2⟩
  obtain ⟨r',e3,e4⟩ := next (by
   show ¬ u ∈ bZ
   rcases (show u = "jump" ∨ u = "call" ∨ u = "mark" by simpa [My.eS] using hr.2.1) with rfl | rfl | rfl
   ·exact absurd rfl hj
   ·decide +kernel
   ·decide +kernel)
  have pl : ∀ p ∈ z.pile ++ [(h : Int) + 1],0 ≤ p ∧ p < n := fun p hp => by
   rcases mem_append.mp hp with hp | hp
   ·exact S.2 p hp
   ·rw [mem_singleton.mp hp,e3]
    omega
  have e3 : V.int ((h : Int) + 1) = .int r' := by rw [e3]
  simp only [if_neg hj]
  split
  ·exact ⟨.inr ⟨t',e1,e2⟩,pl⟩
  split
  ·exact ⟨.inr ⟨t',e1,e2⟩,pl⟩
  ·exact ⟨.inr ⟨r',e3,e4⟩,S.2⟩
 | zb u b t f =>
  obtain ⟨t',e1,e2⟩ := tgt t hr.2.2.2.1 hr.2.2.2.2
  obtain ⟨r',e3,e4⟩ := next ((by decide +kernel : ∀ u ∈ My.zb,¬ u ∈ bZ) u hr.2.1)
  refine ⟨.inr ?_,S.2⟩
  show ∃ r : Nat,V.int (if (u = "zero" ∧ z.bx b = 0) ∨ (u = "below" ∧ z.bx b < 0) then t else (h : Int) + 1) = .int r ∧ r < n
  split
  ·exact ⟨t',by rw [e1],e2⟩
  ·exact ⟨r',by rw [e3],e4⟩
 | table b ts =>
  obtain ⟨r',e3,e4⟩ := next (show ¬ ("table" : Str) ∈ bZ by decide +kernel)
  refine ⟨.inr ?_,S.2⟩
  show ∃ r : Nat,V.int (if 0 ≤ z.bx b ∧ z.bx b < ts.length then ts.getD (z.bx b).toNat 0 else (h : Int) + 1) = .int r ∧ r < n
  split
  ·rename_i c
   have hl : (z.bx b).toNat < ts.length := by omega
   obtain ⟨p,_,_,_,ht⟩ := hr
   have hm := ht (ts.getD (z.bx b).toNat 0) (by rw [List.getD_eq_getElem?_getD,List.getElem?_eq_getElem hl]; exact List.getElem_mem hl)
   obtain ⟨t',e1,e2⟩ := tgt _ hm.1 hm.2
   exact ⟨t',by rw [e1],e2⟩
  ·exact ⟨r',by rw [e3],e4⟩
theorem FU {m : MA} {k : Int} {h w : V} : (dj m k h w).lookup ("how_ended" : Str) = some w := cE names _ 10 _ cA rfl
abbrev ic : Stmt := inClass (top 53) 2
abbrev jH : Stmt := inClass (top 53) 3
abbrev jI : Stmt := inClass (top 53) 4
abbrev ie : Stmt := inClass (top 53) 5
abbrev nU : Stmt := inClass (top 53) 6
abbrev nV : Stmt := inClass (top 53) 7
abbrev nW : Stmt := inClass (top 53) 8
abbrev ig : Stmt := inClass (top 53) 9
section
variable {P : Program} {w : World} {K : Frag} {mg : Str → Option Value} {base : Heap}
abbrev A6 (C : Addr) (H : Hp) (x : Addr) (z : Zt) (B : Nat) : Prop := ∃ m rows au,MG C H x m rows au B z
def sd (C : Addr) : Sp := fun vs H Q _ => ∃ (x : Addr) (z : Zt) (B : Nat),vs = [.ref x] ∧ A6 C H x z B ∧ Q z.here H
theorem DH : aG ["self"] ["self"] (ai nO) := ⟨rfl,rfl,rfl,by decide +kernel,rfl,by decide +kernel,by decide +kernel⟩
theorem uc {f C : Addr} {fd : FuncData} (F : cY K "row" "Machine.row" nO f fd) (TT : Txt K w.params mg) (T : gE K mg C) : aK P w K mg base bM 1 f fd ["self"] (sd C) := by
 refine F.ok DH (fun vs H Q E h => ?_) (fun cdv A outer s H vs Q E hr h => ?_)
 ·obtain ⟨x,z,B,rfl,_⟩ := h
  rfl
 ·obtain ⟨x,z,B,rfl,⟨m,rows,au,M⟩,q⟩ := h
  obtain ⟨w0,ho,hw⟩ := M.obj
  refine ⟨_,ay (aQ (aT (pv 0) rfl)),?_⟩
  exact ⟨_,rfl,x,C,m.dx,_,_,rfl,ho,T.cl,T.nH,ly,q⟩
def qt (C : Addr) : Sp := fun vs H Q _ => ∃ (x : Addr) (z : Zt) (B : Nat),vs = [.ref x] ∧ A6 C H x z B ∧ ∀ v,jR H v z.how → Q v H
theorem yk : aG ["self"] ["self"] (ai ic) := ⟨rfl,rfl,rfl,by decide +kernel,rfl,by decide +kernel,by decide +kernel⟩
theorem vp {f C : Addr} {fd : FuncData} (F : cY K "ending" "Machine.ending" ic f fd) (TT : Txt K w.params mg) (T : gE K mg C) : aK P w K mg base bM 1 f fd ["self"] (qt C) := by
 refine F.ok yk (fun vs H Q E h => ?_) (fun cdv A outer s H vs Q E hr h => ?_)
 ·obtain ⟨x,z,B,rfl,_⟩ := h
  rfl
 ·obtain ⟨x,z,B,rfl,⟨m,rows,au,M⟩,q⟩ := h
  obtain ⟨w0,ho,hw⟩ := M.obj
  refine ⟨_,ay (aQ (aT (pv 0) rfl)),?_⟩
  exact ⟨_,rfl,x,C,m.dx,_,_,rfl,ho,T.cl,T.nE,FU,q _ hw⟩
def ud (C : Addr) : Sp := fun vs H Q _ => ∃ (x : Addr) (z : Zt) (B : Nat),vs = [.ref x] ∧ A6 C H x z B ∧ ∀ l,H l = none → Q (.ref l) (upd H l (.lst (z.bs.map V.int)))
theorem A7 : aG ["self"] ["self"] (ai jH) := ⟨rfl,rfl,rfl,by decide +kernel,rfl,by decide +kernel,by decide +kernel⟩
theorem yl {f C : Addr} {fd : FuncData} (F : cY K "boxes" "Machine.boxes" jH f fd) (TT : Txt K w.params mg) (T : gE K mg C) : aK P w K mg base bM 1 f fd ["self"] (ud C) := by
 refine F.ok A7 (fun vs H Q E h => ?_) (fun cdv A outer s H vs Q E hr h => ?_)
 ·obtain ⟨x,z,B,rfl,_⟩ := h
  rfl
 ·obtain ⟨x,z,B,rfl,⟨m,rows,au,M⟩,q⟩ := h
  obtain ⟨w0,ho,hw⟩ := M.obj
  refine ⟨_,ay (aQ (bK cu (by rfl) TT.list dY (ae (aT (pv 0) rfl) aj))),?_⟩
  exact ⟨_,rfl,x,C,m.dx,_,_,rfl,ho,T.cl,T.nB,cS,m.p2,_,rfl,.inl (aZ.of M.box),q⟩
def ym (C : Addr) : Sp := fun vs H Q _ => ∃ (x : Addr) (z : Zt) (B : Nat),vs = [.ref x] ∧ A6 C H x z B ∧ ∀ l,H l = none → Q (.ref l) (upd H l (.lst (z.told.map V.int)))
theorem DI : aG ["self"] ["self"] (ai nU) := ⟨rfl,rfl,rfl,by decide +kernel,rfl,by decide +kernel,by decide +kernel⟩
theorem A8 {f C : Addr} {fd : FuncData} (F : cY K "told" "Machine.told" nU f fd) (TT : Txt K w.params mg) (T : gE K mg C) : aK P w K mg base bM 1 f fd ["self"] (ym C) := by
 refine F.ok DI (fun vs H Q E h => ?_) (fun cdv A outer s H vs Q E hr h => ?_)
 ·obtain ⟨x,z,B,rfl,_⟩ := h
  rfl
 ·obtain ⟨x,z,B,rfl,⟨m,rows,au,M⟩,q⟩ := h
  obtain ⟨w0,ho,hw⟩ := M.obj
  refine ⟨_,ay (aQ (bK cu (by rfl) TT.list dY (ae (aT (pv 0) rfl) aj))),?_⟩
  exact ⟨_,rfl,x,C,m.dx,_,_,rfl,ho,T.cl,T.nT,xQ,m.p6,_,rfl,.inl (aZ.of M.told),q⟩
def yn (C : Addr) : Sp := fun vs H Q _ => ∃ (x : Addr) (z : Zt) (B : Nat),vs = [.ref x] ∧ A6 C H x z B ∧ ∀ l ps,eC H ps z.seen → H l = none → Q (.ref l) (upd H l (.lst (ps.map V.ref)))
theorem DJ : aG ["self"] ["self"] (ai nV) := ⟨rfl,rfl,rfl,by decide +kernel,rfl,by decide +kernel,by decide +kernel⟩
theorem A9 {f C : Addr} {fd : FuncData} (F : cY K "seen" "Machine.seen" nV f fd) (TT : Txt K w.params mg) (T : gE K mg C) : aK P w K mg base bM 1 f fd ["self"] (yn C) := by
 refine F.ok DJ (fun vs H Q E h => ?_) (fun cdv A outer s H vs Q E hr h => ?_)
 ·obtain ⟨x,z,B,rfl,_⟩ := h
  rfl
 ·obtain ⟨x,z,B,rfl,⟨m,rows,au,M⟩,q⟩ := h
  obtain ⟨w0,ho,hw⟩ := M.obj
  refine ⟨_,ay (aQ (bK cu (by rfl) TT.list dY (ae (aT (pv 0) rfl) aj))),?_⟩
  obtain ⟨ps,hs,hps⟩ := M.seen
  exact ⟨_,rfl,x,C,m.dx,_,_,rfl,ho,T.cl,T.nS,xR,m.p7,_,rfl,.inl (aZ.of hs),fun l nl => q l ps hps nl⟩
def yo (C : Addr) : Sp := fun vs H Q _ => ∃ (x : Addr) (z : Zt) (B : Nat),vs = [.ref x] ∧ A6 C H x z B ∧ Q (.int z.pile.length) H
theorem DK : aG ["self"] ["self"] (ai nW) := ⟨rfl,rfl,rfl,by decide +kernel,rfl,by decide +kernel,by decide +kernel⟩
theorem Ba {f C : Addr} {fd : FuncData} (F : cY K "deep" "Machine.deep" nW f fd) (TT : Txt K w.params mg) (T : gE K mg C) : aK P w K mg base bM 1 f fd ["self"] (yo C) := by
 refine F.ok DK (fun vs H Q E h => ?_) (fun cdv A outer s H vs Q E hr h => ?_)
 ·obtain ⟨x,z,B,rfl,_⟩ := h
  rfl
 ·obtain ⟨x,z,B,rfl,⟨m,rows,au,M⟩,q⟩ := h
  obtain ⟨w0,ho,hw⟩ := M.obj
  refine ⟨_,ay (aQ (aU aX (by rfl) TT.len cX (ae (aT (pv 0) rfl) aj))),?_⟩
  refine ⟨_,rfl,x,C,m.dx,_,_,rfl,ho,T.cl,T.nL,o9,m.p8,_,rfl,.inl (aZ.of M.jZ),?_⟩
  rw [length_map]
  exact q
def qu (C : Addr) : Sp := fun vs H Q _ => ∃ (x : Addr) (z : Zt) (B : Nat),vs = [.ref x] ∧ A6 C H x z B ∧ Q (.int z.k) H
theorem yp : aG ["self"] ["self"] (ai ig) := ⟨rfl,rfl,rfl,by decide +kernel,rfl,by decide +kernel,by decide +kernel⟩
theorem vq {f C : Addr} {fd : FuncData} (F : cY K "passed" "Machine.passed" ig f fd) (TT : Txt K w.params mg) (T : gE K mg C) : aK P w K mg base bM 1 f fd ["self"] (qu C) := by
 refine F.ok yp (fun vs H Q E h => ?_) (fun cdv A outer s H vs Q E hr h => ?_)
 ·obtain ⟨x,z,B,rfl,_⟩ := h
  rfl
 ·obtain ⟨x,z,B,rfl,⟨m,rows,au,M⟩,q⟩ := h
  obtain ⟨w0,ho,hw⟩ := M.obj
  refine ⟨_,ay (aQ (aT (pv 0) rfl)),?_⟩
  exact ⟨_,rfl,x,C,m.dx,_,_,rfl,ho,T.cl,T.nM,tS,q⟩
def lA : Sp := fun vs H Q _ => ∃ (a : Addr) (d : List (Key × V)) (f : Int → Int),vs = [.ref a] ∧ H a = some (.dK d) ∧ Rep d f ∧ d.length ≤ 900 ∧ ∀ (l : Addr) (d' : List (Key × V)) (H' : Hp),Same H H' → H l = none → H' l = some (.dK d') → NZ d' f → d'.length ≤ d.length → Q (.ref l) H'
theorem lC : aG ["numbers", "others", "place", "number"] ["numbers"] (ai ib) := ⟨rfl,rfl,rfl,by decide +kernel,rfl,by decide +kernel,by decide +kernel⟩
structure Kept (kvs : List (Int × Int)) (i : Nat) (d : List (Key × V)) : Prop where
 isI : ∃ ks : List (Int × Int),d = iD ks ∧ (ks.map (·.1)).Nodup ∧ ∀ p,p ∈ ks ↔ p ∈ kvs.take i ∧ p.2 ≠ 0
 len : d.length ≤ i
theorem vt {f : Addr} {fd : FuncData} (F : cY K "without_noughts" "without_noughts" ib f fd) (TT : Txt K w.params mg) : aK P w K mg base bM 1 f fd ["numbers"] lA := by
 refine F.ok lC (fun vs H Q E h => ?_) (fun cdv A outer s H vs Q E hr h => ?_)
 ·obtain ⟨a,d,f,rfl,_⟩ := h
  rfl
 ·obtain ⟨a,d,f,rfl,ha,hrep,hl,k⟩ := h
  have hu := cJ hr
  refine ⟨_,aH (bg (i := 1) lC.nd rfl (Or.inl rfl) gm)
   (aH (zM (dO PassesOwn.never rfl (wR (pv 0)) (rT (K := K) (i := 2) (j := 3) rfl rfl lC.nd rfl (Or.inl rfl) rfl (Or.inl rfl))
    (ay (cI (aR pO (pv 3) ak (bh _)) (ay (fj hu (pv 1) (pv 2) (pv 3) rfl)) aW))))
   (ay (aQ (pv 1)))),?_⟩
  intro l nl
  obtain ⟨⟨kvs,rfl,hnd⟩,hval⟩ := id hrep
  have la : a ≠ l := aq ha nl
  refine ⟨_,rfl,a,_,rfl,ao nl _ _ ha,fun o nf => ?_⟩
  refine uX (fun i σ H' => ∃ (v1 v2 : Option V) (d : List (Key × V)),σ = [some (.ref a),some (.ref l),v1,v2] ∧ H' a = some (.iH o (.dK (iD kvs))) ∧ H' l = some (.dK d) ∧ Kept kvs i d ∧ ∀ c u,c ≠ a → H c = some u → H' c = some u) ?_ ?_ ?_ ?_
  ·refine ⟨none,none,[],rfl,ah,by rw [aw la.symm]; exact ah,⟨⟨[],rfl,by simp,fun p => by simp⟩,by simp⟩,fun c u n e => ?_⟩
   rw [aw n]
   exact ao nl _ _ e
  ·rintro i σ H' _ ⟨v1,v2,d,rfl,e,_⟩
   exact e
  ·rintro i kk y σ H' t he nt ⟨v1,v2,d,rfl,e1,e2,e3,e4⟩
   have he' : (iD kvs)[i]? = some (kk,y) := he
   unfold iD at he'
   rw [List.getElem?_map] at he'
   obtain ⟨p,hp,hpe⟩ := map_eq_some_iff.mp he'
   have hk : kk = Sum.inl p.1 := (congrArg Prod.fst hpe).symm
   have hy : y = V.int p.2 := (congrArg Prod.snd hpe).symm
   subst hk hy
   have hil := (List.getElem?_eq_some_iff.mp hp).1
   have s0 := ao (o := .tup [kV (Sum.inl p.1),.int p.2]) nt
   have lt : l ≠ t := aq e2 nt
   have ta : a ≠ t := aq e1 nt
   have tk : kvs.take (i + 1) = kvs.take i ++ [p] := by rw [take_succ,hp]; rfl
   refine ⟨t,_,rfl,bX.of ah,rfl,_,_,rfl,_,_,rfl,rfl,?_⟩
   refine ⟨_,rfl,rfl,_,rfl,?_⟩
   obtain ⟨⟨ks,rfl,k1,k2⟩,k3⟩ := e3
   have dl : (iD kvs).length = kvs.length := by unfold iD; rw [length_map]
   refine cV (fun c => ?_) (fun c => ?_)
   ·have c : p.2 ≠ 0 := fun z => by rw [z] at c; exact absurd c (by decide)
    refine ⟨_,rfl,_,rfl,_,rfl,l,_,rfl,ku.k (k := Sum.inl p.1) (s0 _ _ e2) (cD (by omega)),?_⟩
    refine ⟨_,_,_,rfl,?_,ah,⟨?_,?_⟩,fun c u n e => ?_⟩
    ·rw [aw la]
     exact s0 _ _ e1
    ·have hnew : cC (iD ks) (Sum.inl p.1 : Key) = none := by
      cases e : cC (iD ks) (Sum.inl p.1 : Key) with
      | none => rfl
      | some x =>
       exfalso
       obtain ⟨v,_,hm⟩ := oP e
       have hm2 := ((k2 _).mp hm).1
       have Wv : ((kvs.take (i + 1)).map (·.1)).Nodup := by
        rw [map_take]
        exact hnd.sublist (List.take_sublist _ _)
       rw [tk,map_append,nodup_append] at Wv
       exact Wv.2.2 p.1 (mem_map.mpr ⟨_,hm2,rfl⟩) p.1 (by simp) rfl
     refine ⟨ks ++ [p],?_,?_,fun p' => ?_⟩
     ·rw [ko _ hnew]
      simp [iD]
     ·rw [map_append,nodup_append]
      refine ⟨k1,by simp,fun x hx y hy Ww => ?_⟩
      obtain ⟨p',hp',rfl⟩ := mem_map.mp hx
      have hy : y = p.1 := by simpa using hy
      rw [hy] at Ww
      have := lf (v := p'.2) k1 (show (p.1,p'.2) ∈ ks by rw [← Ww]; exact hp')
      rw [hnew] at this
      cases this
     ·rw [mem_append,mem_singleton,k2,tk,mem_append,mem_singleton]
      constructor
      ·rintro (⟨a,b⟩ | rfl)
       ·exact ⟨.inl a,b⟩
       ·exact ⟨.inr rfl,c⟩
      ·rintro ⟨a | rfl,b⟩
       ·exact .inl ⟨a,b⟩
       ·exact .inr rfl
    ·have := cQ (iD ks) (Sum.inl p.1 : Key) (V.int p.2)
     omega
    ·have cl : c ≠ l := aq e nl
     rw [aw cl]
     exact s0 _ _ (e4 c u n e)
   ·have c : p.2 = 0 := by
     rcases Int.decEq p.2 0 with z | z
     ·exact absurd (by simp [z]) c
     ·exact z
    refine ⟨_,_,_,rfl,s0 _ _ e1,s0 _ _ e2,⟨⟨ks,rfl,k1,fun p' => ?_⟩,by omega⟩,fun c u n e => s0 _ _ (e4 c u n e)⟩
    rw [k2,tk,mem_append,mem_singleton]
    constructor
    ·rintro ⟨a,b⟩
     exact ⟨.inl a,b⟩
    ·rintro ⟨a | rfl,b⟩
     ·exact ⟨a,b⟩
     ·exact absurd c b
  ·rintro σ H' ⟨v1,v2,d,rfl,e1,e2,⟨⟨ks,rfl,k1,k2⟩,k3⟩,e4⟩
   refine ⟨a,o,iD kvs,e1,nf,_,rfl,?_⟩
   have dl : (iD kvs).length = kvs.length := by unfold iD; rw [length_map]
   rw [dl] at k2 k3
   refine k l (iD ks) _ (fun c u e => ?_) nl (by rw [aw la.symm]; exact e2) ⟨⟨⟨ks,rfl,k1⟩,fun j => ?_⟩,fun kk v hm => ?_⟩ (by omega)
   ·by_cases ca : c = a
    ·subst ca
     rw [ha] at e
     rw [ah]
     exact e
    ·rw [aw ca]
     exact e4 c u ca e
   ·rw [← hval j]
    cases e : cC (iD ks) (Sum.inl j : Key) with
    | some x =>
     obtain ⟨v,rfl,hm⟩ := oP e
     have hm2 := ((k2 _).mp hm).1
     rw [take_length] at hm2
     rw [lf hnd hm2]
    | none =>
     cases e2 : cC (iD kvs) (Sum.inl j : Key) with
     | none => rfl
     | some x =>
      obtain ⟨v,rfl,hm⟩ := oP e2
      by_cases hv : v = 0
      ·subst hv
       rfl
      ·have := lf k1 ((k2 (j,v)).mpr ⟨by rw [take_length]; exact hm,hv⟩)
       rw [e] at this
       cases this
   ·unfold iD at hm
    obtain ⟨p,hp,e⟩ := mem_map.mp hm
    have : v = V.int p.2 := (congrArg Prod.snd e).symm
    rw [this]
    intro z
    exact ((k2 p).mp hp).2 (V.int.inj z)
def uf (C : Addr) : Sp := fun vs H Q _ => ∃ (x : Addr) (z : Zt) (B : Nat),vs = [.ref x] ∧ A6 C H x z B ∧ ∀ (l : Addr) (d' : List (Key × V)) (H' : Hp),Same H H' → H l = none → H' l = some (.dK d') → NZ d' z.cf → d'.length ≤ B → Q (.ref l) H'
theorem Bb : aG ["self"] ["self"] (ai jI) := ⟨rfl,rfl,rfl,by decide +kernel,rfl,by decide +kernel,by decide +kernel⟩
theorem yq {f C fN : Addr} {fd nu : FuncData} (F : cY K "cells" "Machine.cells" jI f fd) (TT : Txt K w.params mg) (T : gE K mg C) (GN : aK P w K mg base bM 1 fN nu ["numbers"] lA) (kN : KI K fN) (bN : Binds K nu ["numbers"] []) (mN : mg "without_noughts" = some (.ref fN)) : aK P w K mg base bM 2 f fd ["self"] (uf C) := by
 refine F.ok Bb (fun vs H Q E h => ?_) (fun cdv A outer s H vs Q E hr h => ?_)
 ·obtain ⟨x,z,B,rfl,_⟩ := h
  rfl
 ·obtain ⟨x,z,B,rfl,⟨m,rows,au,M⟩,q⟩ := h
  obtain ⟨w0,ho,hw⟩ := M.obj
  obtain ⟨d,hd,hrep,hdl⟩ := M.cell
  have hB := M.big
  refine ⟨_,ay (aQ (aL GN hr (by rfl) mN kN bN .nil aP (ae (aT (pv 0) rfl) aj))),?_⟩
  exact ⟨_,rfl,x,C,m.dx,_,_,rfl,ho,T.cl,T.nC,rX,m.p3,d,z.cf,rfl,hd,hrep,by omega,fun l d' H' s' nl hl hz hle => q l d' H' s' nl hl hz (by omega)⟩
def qv (C : Addr) : Sp := fun vs H Q _ => ∃ (x : Addr) (z : Zt) (B : Nat),vs = [.ref x] ∧ A6 C H x z B ∧ ∀ (l : Addr) (d' : List (Key × V)) (H' : Hp),Same H H' → H l = none → H' l = some (.dK d') → NZ d' z.af → d'.length ≤ B → Q (.ref l) H'
theorem yr : aG ["self"] ["self"] (ai ie) := ⟨rfl,rfl,rfl,by decide +kernel,rfl,by decide +kernel,by decide +kernel⟩
theorem vw {f C fN : Addr} {fd nu : FuncData} (F : cY K "asides" "Machine.asides" ie f fd) (TT : Txt K w.params mg) (T : gE K mg C) (GN : aK P w K mg base bM 1 fN nu ["numbers"] lA) (kN : KI K fN) (bN : Binds K nu ["numbers"] []) (mN : mg "without_noughts" = some (.ref fN)) : aK P w K mg base bM 2 f fd ["self"] (qv C) := by
 refine F.ok yr (fun vs H Q E h => ?_) (fun cdv A outer s H vs Q E hr h => ?_)
 ·obtain ⟨x,z,B,rfl,_⟩ := h
  rfl
 ·obtain ⟨x,z,B,rfl,⟨m,rows,au,M⟩,q⟩ := h
  obtain ⟨w0,ho,hw⟩ := M.obj
  obtain ⟨d,hd,hrep,hdl⟩ := M.rY
  have hB := M.big
  refine ⟨_,ay (aQ (aL GN hr (by rfl) mN kN bN .nil aP (ae (aT (pv 0) rfl) aj))),?_⟩
  exact ⟨_,rfl,x,C,m.dx,_,_,rfl,ho,T.cl,T.nA,xP,m.p4,d,z.af,rfl,hd,hrep,by omega,fun l d' H' s' nl hl hz hle => q l d' H' s' nl hl hz (by omega)⟩
end
section
variable {P : Program} {w : World} {K : Frag} {mg : Str → Option Value} {base : Heap}
theorem sh {ring : Int → Bool} {b v h : Int} {z : Zt} : bf ring (.two "set" b v) h z = { z with here := .int (h + 1),bs := z.bs.set b.toNat (v) } := by
 simp only [bf,num,if_neg (show ¬ ("set" : Str) = "keep" by decide +kernel),if_neg (show ¬ ("set" : Str) = "put" by decide +kernel),if_neg (show ¬ ("set" : Str) = "see" by decide +kernel),if_pos rfl,if_true]
theorem pe {ring : Int → Bool} {b v h : Int} {z : Zt} : bf ring (.two "more" b v) h z = { z with here := .int (h + 1),bs := z.bs.set b.toNat (z.bx b + v) } := by
 simp only [bf,num,if_neg (show ¬ ("more" : Str) = "keep" by decide +kernel),if_neg (show ¬ ("more" : Str) = "put" by decide +kernel),if_neg (show ¬ ("more" : Str) = "see" by decide +kernel),if_neg (show ¬ ("more" : Str) = "set" by decide +kernel),if_pos rfl,if_true]
theorem ph {ring : Int → Bool} {b v h : Int} {z : Zt} : bf ring (.two "copy" b v) h z = { z with here := .int (h + 1),bs := z.bs.set b.toNat (z.bx v) } := by
 simp only [bf,num,if_neg (show ¬ ("copy" : Str) = "keep" by decide +kernel),if_neg (show ¬ ("copy" : Str) = "put" by decide +kernel),if_neg (show ¬ ("copy" : Str) = "see" by decide +kernel),if_neg (show ¬ ("copy" : Str) = "set" by decide +kernel),if_neg (show ¬ ("copy" : Str) = "more" by decide +kernel),if_pos rfl,if_true]
theorem si {ring : Int → Bool} {b v h : Int} {z : Zt} : bf ring (.two "add" b v) h z = { z with here := .int (h + 1),bs := z.bs.set b.toNat (z.bx b + z.bx v) } := by
 simp only [bf,num,if_neg (show ¬ ("add" : Str) = "keep" by decide +kernel),if_neg (show ¬ ("add" : Str) = "put" by decide +kernel),if_neg (show ¬ ("add" : Str) = "see" by decide +kernel),if_neg (show ¬ ("add" : Str) = "set" by decide +kernel),if_neg (show ¬ ("add" : Str) = "more" by decide +kernel),if_neg (show ¬ ("add" : Str) = "copy" by decide +kernel),if_pos rfl,if_true]
theorem pj {ring : Int → Bool} {b v h : Int} {z : Zt} : bf ring (.two "less" b v) h z = { z with here := .int (h + 1),bs := z.bs.set b.toNat (z.bx b - z.bx v) } := by
 simp only [bf,num,if_neg (show ¬ ("less" : Str) = "keep" by decide +kernel),if_neg (show ¬ ("less" : Str) = "put" by decide +kernel),if_neg (show ¬ ("less" : Str) = "see" by decide +kernel),if_neg (show ¬ ("less" : Str) = "set" by decide +kernel),if_neg (show ¬ ("less" : Str) = "more" by decide +kernel),if_neg (show ¬ ("less" : Str) = "copy" by decide +kernel),if_neg (show ¬ ("less" : Str) = "add" by decide +kernel),if_pos rfl,if_true]
theorem pq {ring : Int → Bool} {b v h : Int} {z : Zt} : bf ring (.two "load" b v) h z = { z with here := .int (h + 1),bs := z.bs.set b.toNat (z.cf (z.bx v)) } := by
 simp only [bf,num,if_neg (show ¬ ("load" : Str) = "keep" by decide +kernel),if_neg (show ¬ ("load" : Str) = "put" by decide +kernel),if_neg (show ¬ ("load" : Str) = "see" by decide +kernel),if_neg (show ¬ ("load" : Str) = "set" by decide +kernel),if_neg (show ¬ ("load" : Str) = "more" by decide +kernel),if_neg (show ¬ ("load" : Str) = "copy" by decide +kernel),if_neg (show ¬ ("load" : Str) = "add" by decide +kernel),if_neg (show ¬ ("load" : Str) = "less" by decide +kernel),if_pos rfl,if_true]
theorem pw {ring : Int → Bool} {b v h : Int} {z : Zt} : bf ring (.two "keep" b v) h z = { z with here := .int (h + 1),cf := lW z.cf (z.bx b) (z.bx v) } := by
 simp only [bf,num,if_pos rfl,if_true]
theorem sj {ring : Int → Bool} {b v h : Int} {z : Zt} : bf ring (.two "see" b v) h z = { z with here := .int (h + 1),seen := z.seen ++ [(v,z.bx b)] } := by
 simp only [bf,num,if_neg (show ¬ ("see" : Str) = "keep" by decide +kernel),if_neg (show ¬ ("see" : Str) = "put" by decide +kernel),if_pos rfl,if_true]
theorem sk {ring : Int → Bool} {b v h : Int} {z : Zt} : bf ring (.two "put" b v) h z = { z with here := .int (h + 1),af := lW z.af v (z.bx b) } := by
 simp only [bf,num,if_neg (show ¬ ("put" : Str) = "keep" by decide +kernel),if_pos rfl,if_true]
theorem pz {ring : Int → Bool} {b v h : Int} {z : Zt} : bf ring (.two "take" b v) h z = { z with here := .int (h + 1),bs := z.bs.set b.toNat (z.af v) } := by
 simp only [bf,num,if_neg (show ¬ ("take" : Str) = "keep" by decide +kernel),if_neg (show ¬ ("take" : Str) = "put" by decide +kernel),if_neg (show ¬ ("take" : Str) = "see" by decide +kernel),if_neg (show ¬ ("take" : Str) = "set" by decide +kernel),if_neg (show ¬ ("take" : Str) = "more" by decide +kernel),if_neg (show ¬ ("take" : Str) = "copy" by decide +kernel),if_neg (show ¬ ("take" : Str) = "add" by decide +kernel),if_neg (show ¬ ("take" : Str) = "less" by decide +kernel),if_neg (show ¬ ("take" : Str) = "load" by decide +kernel)]
theorem pA {ring : Int → Bool} {t f h : Int} {z : Zt} : bf ring (.eS "jump" t f) h z = { z with here := .int t } := by
 simp only [bf,if_pos rfl,if_true]
theorem pC {ring : Int → Bool} {t f h : Int} {z : Zt} : bf ring (.eS "call" t f) h z = { z with here := .int t,pile := z.pile ++ [h + 1] } := by
 simp only [bf,if_neg (show ¬ ("call" : Str) = "jump" by decide +kernel),if_pos rfl,if_true]
theorem lF {ring : Int → Bool} {t f h : Int} {z : Zt} (c : ring z.k = true) : bf ring (.eS "mark" t f) h z = { z with here := .int t,pile := z.pile ++ [h + 1],k := z.k + 1 } := by
 simp only [bf,if_neg (show ¬ ("mark" : Str) = "jump" by decide +kernel),if_neg (show ¬ ("mark" : Str) = "call" by decide +kernel),if_pos c]
theorem lG {ring : Int → Bool} {t f h : Int} {z : Zt} (c : ring z.k = false) : bf ring (.eS "mark" t f) h z = { z with here := .int (h + 1),k := z.k + 1 } := by
 simp only [bf,if_neg (show ¬ ("mark" : Str) = "jump" by decide +kernel),if_neg (show ¬ ("mark" : Str) = "call" by decide +kernel),if_neg (show ¬ ring z.k = true by rw [c]; decide)]
theorem Bc {ring : Int → Bool} {b t f h : Int} {z : Zt} : bf ring (.zb "zero" b t f) h z = { z with here := .int (if z.bx b = 0 then t else h + 1) } := by
 show ({ z with here := .int (if (("zero" : Str) = "zero" ∧ z.bx b = 0) ∨ (("zero" : Str) = "below" ∧ z.bx b < 0) then t else h + 1) } : Zt) = _
 by_cases c : z.bx b = 0
 ·rw [if_pos (.inl ⟨rfl,c⟩),if_pos c]
 ·rw [if_neg (fun y => y.elim (fun y => c y.2) (fun y => absurd y.1 (by decide +kernel))),if_neg c]
theorem yt {ring : Int → Bool} {b t f h : Int} {z : Zt} : bf ring (.zb "below" b t f) h z = { z with here := .int (if z.bx b < 0 then t else h + 1) } := by
 show ({ z with here := .int (if (("below" : Str) = "zero" ∧ z.bx b = 0) ∨ (("below" : Str) = "below" ∧ z.bx b < 0) then t else h + 1) } : Zt) = _
 by_cases c : z.bx b < 0
 ·rw [if_pos (.inr ⟨rfl,c⟩),if_pos c]
 ·rw [if_neg (fun y => y.elim (fun y => absurd y.1 (by decide +kernel)) (fun y => c y.2)),if_neg c]
def mh (P : Program) (w : World) (K : Frag) (mg : Str → Option Value) (base : Heap) (pD : Addr) (u : Str) (sp : Sp) : Prop := ∃ (f : Addr) (fd : FuncData),rE K w.params pD u (some (.ref f)) ∧ aK P w K mg base bM 2 f fd ["machine", "row"] sp ∧ Binds K fd ["machine", "row"] [] ∧ KI K f
structure B1 (P : Program) (w : World) (K : Frag) (mg : Str → Option Value) (base : Heap) (C pD : Addr) : Prop where
 gF : mh P w K mg base pD "stop" (yb C)
 gG : mh P w K mg base pD "halt" (yc C)
 gH : mh P w K mg base pD "back" (ye C)
 jS : mh P w K mg base pD "set" (BR C)
 gJ : mh P w K mg base pD "more" (xS C)
 gK : mh P w K mg base pD "copy" (xT C)
 jT : mh P w K mg base pD "add" (BU C)
 gL : mh P w K mg base pD "less" (xU C)
 gM : mh P w K mg base pD "load" (xV C)
 gN : mh P w K mg base pD "keep" (xX C)
 gO : mh P w K mg base pD "tell" (xY C)
 jU : mh P w K mg base pD "see" (BW C)
 jV : mh P w K mg base pD "put" (BV C)
 gP : mh P w K mg base pD "take" (xW C)
 gQ : mh P w K mg base pD "jump" (xZ C)
 gR : mh P w K mg base pD "zero" (ya C)
 eP : mh P w K mg base pD "below" (tT C)
 gS : mh P w K mg base pD "call" (rZ C)
 gT : mh P w K mg base pD "mark" (yd C)
 eQ : mh P w K mg base pD "table" (tU C)
abbrev cm (au : List (Key × V)) : Int → Bool := fun j => (cC au (Sum.inl j)).isSome
def yu (C : Addr) : Sp := fun vs H Q _ => ∃ (x q : Addr) (m : MA) (rows : List V) (au : List (Key × V)) (B : Nat) (z : Zt) (r : Nat) (n : Int) (rw : Rw),vs = [.ref x] ∧ MG C H x m rows au B z ∧ B < 900 ∧ z.here = .int r ∧ rows[r]? = some (.ref q) ∧ ja H q n rw ∧
 ∀ H',Fr m x H H' → MG C H' x m rows au (B + 1) (bf (cm au) rw r z) → Q .non H'
theorem yv : aG ["self", "row"] ["self"] (ai nQ) := ⟨rfl,rfl,rfl,by decide +kernel,rfl,by decide +kernel,by decide +kernel⟩
theorem ja.word {H : Hp} {q : Addr} {n : Int} {rw : Rw} (h : ja H q n rw) : ∃ items,H q = some (.tup (.str rw.word :: items)) := by
 cases rw with
 | stop => exact ⟨_,h⟩
 | back => exact ⟨_,h⟩
 | halt v => exact ⟨_,h⟩
 | two u b v => exact ⟨_,h.1⟩
 | tell b => exact ⟨_,h.1⟩
 | eS u t f => exact ⟨_,h.1⟩
 | zb u b t f => exact ⟨_,h.1⟩
 | table b ts =>
  obtain ⟨p,h,_⟩ := h
  exact ⟨_,h⟩
theorem Bd {f C pD : Addr} {fd : FuncData} (F : cY K "step" "Machine.step" nQ f fd) (T : gE K mg C) (mD : mg "DEEDS" = some (.ref pD)) (D : B1 P w K mg base C pD) : aK P w K mg base bM 3 f fd ["self"] (yu C) := by
 refine F.ok yv (fun vs H Q E h => ?_) (fun cdv A outer s H vs Q E hr h => ?_)
 ·obtain ⟨x,q,m,rows,au,B,z,r,n,rw,rfl,_⟩ := h
  rfl
 ·obtain ⟨x,q,m,rows,au,B,z,r,n,rw,rfl,M,hB,hh,hrow,hR,zz⟩ := h
  obtain ⟨w0,ho,hw⟩ := M.obj
  obtain ⟨items,hq⟩ := hR.word
  refine ⟨_,aH (cI (aR ow (aT (pv 0) rfl) iw (bh _)) uI aW)
   (aH (bg (i := 1) yv.nd rfl (Or.inl rfl) (aI aJ (aT (pv 0) rfl) (aT (pv 0) rfl) (fun _ _ => rfl)))
   (aH (cB (pv 0) (aV dz (aT (pv 0) rfl) ak) rfl)
   (ay (cO (wV (k := 2) (oI (dS (v := .ref pD) (by rfl) mD rfl) (aI aS (pv 1) ak (fun _ _ => rfl)) (fun _ _ => rfl)) hr (ae (pv 0) (ae (pv 1) aj))))))),?_⟩
  rw [hh] at ho
  refine ⟨_,rfl,x,C,m.dx,_,_,rfl,ho,T.cl,T.nH,ly,rfl,_,rfl,?_⟩
  refine iP ?_
  refine ⟨_,rfl,x,C,m.dx,_,_,rfl,ho,T.cl,T.nP,Dt,_,rfl,x,C,m.dx,_,_,rfl,ho,T.cl,T.nH,ly,m.p1,_,_,.ref q,rfl,rfl,aZ.of M.prog,bJ (j := r) hrow,?_⟩
  refine ⟨_,rfl,x,C,m.dx,_,_,rfl,ho,T.cl,T.nH,ly,_,_,rfl,rfl,_,rfl,x,C,m.dx,_,rfl,ho,T.cl,T.nH,ip,?_⟩
  rw [gB]
  have M2 := M.put (k' := z.k) (eN := .int ((r : Int) + 1)) hw
  have fr : Fr m x H (upd H x (.ins C m.dx (dj m z.k (.int ((r : Int) + 1)) w0))) := Fr.upd (.inl rfl)
  have tt : cF H (upd H x (.ins C m.dx (dj m z.k (.int ((r : Int) + 1)) w0))) := .upd ho (by intro _ z; cases z)
  have xC := hR.tups tt
  have hq2 := tt _ _ hq
  refine ⟨_,rfl,q,_,0,.str rw.word,rfl,rfl,bX.of hq2,at0 _ _,pD,rw.word,?_⟩
  suffices hs : ∃ sp : Sp,mh P w K mg base pD rw.word sp ∧ sp ([.ref x,.ref q] ++ []) (upd H x (.ins C m.dx (dj m z.k (.int ((r : Int) + 1)) w0))) (fun _ H1 => Q .non H1) E0 by
   obtain ⟨sp,⟨f,fd,a1,a2,a3,a4⟩,hs⟩ := hs
   exact ⟨.ref f,rfl,rfl,a1,f,fd,_,_,rfl,a2,a3,a4,_,rfl,_,rfl,hs⟩
  have fin : ∀ z',z' = bf (cm au) rw r z → ∀ H',Fr m x (upd H x (.ins C m.dx (dj m z.k (.int ((r : Int) + 1)) w0))) H' → MG C H' x m rows au (B + 1) z' → Q .non H' := fun z' e H' e1 e2 => zz H' (fr.trans e1) (e ▸ e2)
  cases rw with
  | stop => exact ⟨_,D.gF,x,q,m,rows,au,B,_,_,_,_,rfl,M2,hB,rfl,xC,fin _ rfl⟩
  | halt v => exact ⟨_,D.gG,x,q,m,rows,au,B,_,_,_,v,rfl,M2,hB,rfl,xC,fin _ rfl⟩
  | back => exact ⟨_,D.gH,x,q,m,rows,au,B,_,_,_,_,rfl,M2,hB,rfl,xC,fun ep => fin _ (dD (z := z) (h := r) (ring := cm au) ep).symm,fun r' p ep => fin _ (jb (z := z) (h := r) (ring := cm au) ep).symm⟩
  | tell b => exact ⟨_,D.gO,x,q,m,rows,au,B,_,_,_,b,rfl,M2,hB,rfl,xC.1,xC.2,fin _ rfl⟩
  | table b ts =>
   obtain ⟨p,h1,h2,h3,h4⟩ := xC
   exact ⟨_,D.eQ,x,q,m,rows,au,B,_,_,_,b,p,ts,rfl,M2,hB,rfl,h1,h3,h2,fin _ rfl⟩
  | two u b v =>
   obtain ⟨h1,h2,h3,h4⟩ := xC
   rcases (show u = "set" ∨ u = "more" ∨ u = "copy" ∨ u = "add" ∨ u = "less" ∨ u = "load" ∨ u = "keep" ∨ u = "see" ∨ u = "put" ∨ u = "take" by simpa [ten] using h2) with rfl | rfl | rfl | rfl | rfl | rfl | rfl | rfl | rfl | rfl
   ·exact ⟨_,D.jS,x,q,m,rows,au,B,_,_,_,b,v,rfl,M2,hB,rfl,h1,h3,fin _ (sh (z := z) (ring := cm au)).symm⟩
   ·exact ⟨_,D.gJ,x,q,m,rows,au,B,_,_,_,b,v,rfl,M2,hB,rfl,h1,h3,fin _ (pe (z := z) (ring := cm au)).symm⟩
   ·exact ⟨_,D.gK,x,q,m,rows,au,B,_,_,_,b,v,rfl,M2,hB,rfl,h1,h3,h4 (by decide +kernel),fin _ (ph (z := z) (ring := cm au)).symm⟩
   ·exact ⟨_,D.jT,x,q,m,rows,au,B,_,_,_,b,v,rfl,M2,hB,rfl,h1,h3,h4 (by decide +kernel),fin _ (si (z := z) (ring := cm au)).symm⟩
   ·exact ⟨_,D.gL,x,q,m,rows,au,B,_,_,_,b,v,rfl,M2,hB,rfl,h1,h3,h4 (by decide +kernel),fin _ (pj (z := z) (ring := cm au)).symm⟩
   ·exact ⟨_,D.gM,x,q,m,rows,au,B,_,_,_,b,v,rfl,M2,hB,rfl,h1,h3,h4 (by decide +kernel),fin _ (pq (z := z) (ring := cm au)).symm⟩
   ·exact ⟨_,D.gN,x,q,m,rows,au,B,_,_,_,b,v,rfl,M2,hB,rfl,h1,h3,h4 (by decide +kernel),fin _ (pw (z := z) (ring := cm au)).symm⟩
   ·exact ⟨_,D.jU,x,q,m,rows,au,B,_,_,_,b,v,rfl,M2,hB,rfl,h1,h3,fin _ (sj (z := z) (ring := cm au)).symm⟩
   ·exact ⟨_,D.jV,x,q,m,rows,au,B,_,_,_,b,v,rfl,M2,hB,rfl,h1,h3,fin _ (sk (z := z) (ring := cm au)).symm⟩
   ·exact ⟨_,D.gP,x,q,m,rows,au,B,_,_,_,b,v,rfl,M2,hB,rfl,h1,h3,fin _ (pz (z := z) (ring := cm au)).symm⟩
  | eS u t f' =>
   obtain ⟨h1,h2,h3,h4⟩ := xC
   rcases (show u = "jump" ∨ u = "call" ∨ u = "mark" by simpa [My.eS] using h2) with rfl | rfl | rfl
   ·exact ⟨_,D.gQ,x,q,m,rows,au,B,_,_,_,t,f',rfl,M2,hB,rfl,h1,fin _ (pA (z := z) (ring := cm au)).symm⟩
   ·exact ⟨_,D.gS,x,q,m,rows,au,B,_,_,_,t,f',rfl,M2,hB,rfl,h1,fin _ (pC (z := z) (ring := cm au)).symm⟩
   ·exact ⟨_,D.gT,x,q,m,rows,au,B,_,_,_,t,f',_,rfl,M2,hB,rfl,h1,rfl,fun c => fin _ (lF (z := z) (ring := cm au) c).symm,fun c => fin _ (lG (z := z) (ring := cm au) c).symm⟩
  | zb u b t f' =>
   obtain ⟨h1,h2,h3,h4⟩ := xC
   rcases (show u = "zero" ∨ u = "below" by simpa [My.zb] using h2) with rfl | rfl
   ·exact ⟨_,D.gR,x,q,m,rows,au,B,_,_,_,b,t,f',rfl,M2,hB,rfl,h1,h3,fin _ (Bc (z := z) (ring := cm au)).symm⟩
   ·exact ⟨_,D.eP,x,q,m,rows,au,B,_,_,_,b,t,f',rfl,M2,hB,rfl,h1,h3,fin _ (yt (z := z) (ring := cm au)).symm⟩
end
def FV (K : Frag) : List V → Hp → VK → Prop := fun xs H Q => ∃ p ys,xs = [.ref p] ∧ (aZ K H p ys ∨ bX K H p ys) ∧ Q (.int ys.length) H
theorem ug {n : Nat} : uP (n + 1) (-1) = some n := by
 unfold uP
 rw [if_neg (by decide)]
 simp
 try omega
theorem uh {xs : List V} {x : V} : lM (xs ++ [x]) (-1) = some x := by
 unfold lM
 rw [length_append,length_singleton,ug]
 simp
theorem yw {α : Type} (ys : List α) (a b : α) : (ys ++ [a]).set ys.length b = ys ++ [b] := by simp
theorem len_rep (k : Nat) (c : Int) : ((replicate k [V.int c]).flatten).length = k := by simp
theorem qw {K : Frag} {H H' : Hp} {a : Addr} {xs : List V} (e : Same H H') (h : aZ K H a xs) : aZ K H' a xs := by
 rcases h with (h | ⟨o,h⟩) | h
 ·exact .inl (.inl (e _ _ h))
 ·exact .inl (.inr ⟨o,e _ _ h⟩)
 ·exact .inr h
def jc (H H' : Hp) : Prop := ∀ a xs,H a = some (.tup xs) → H' a = some (.tup xs)
theorem jc.put {H : Hp} {l : Addr} {xs : List V} {o : HO} (h : H l = some (.lst xs)) : jc H (upd H l o) := fun a ys e => by
 rw [aw (fun z => by rw [z,h] at e; cases e)]
 exact e
theorem Same.tups {H H' : Hp} (s : Same H H') : jc H H' := fun a xs e => s _ _ e
theorem dR.tups {H H' : Hp} {q : Addr} {d : FR} (s : jc H H') (h : dR H q d) : dR H' q d := by
 obtain ⟨o,h⟩ := h
 refine ⟨o,?_⟩
 rcases h with ⟨a,b,p,e,h1,h2⟩ | ⟨a,h1⟩
 ·exact .inl ⟨a,b,p,e,s _ _ h1,s _ _ h2⟩
 ·exact .inr ⟨a,s _ _ h1⟩
def di (H : Hp) (qs : List Addr) (ds : List FR) (n : Int) : Prop := qs.length = ds.length ∧ ∀ (i : Nat) q d,qs[i]? = some q → ds[i]? = some d → dR H q d ∧ d.ts.length ≤ 16 ∧ (∀ t ∈ d.ts,0 ≤ t ∧ t < n) ∧ tM d
theorem di.nil {H : Hp} {n : Int} : di H [] [] n := ⟨rfl,fun i q d h => by simp at h⟩
theorem di.tups {H H' : Hp} {qs : List Addr} {ds : List FR} {n : Int} (s : jc H H') (h : di H qs ds n) : di H' qs ds n := ⟨h.1,fun i q d a b => ⟨(h.2 i q d a b).1.tups s,(h.2 i q d a b).2⟩⟩
theorem di.same {H H' : Hp} {qs : List Addr} {ds : List FR} {n : Int} (s : Same H H') (h : di H qs ds n) : di H' qs ds n := h.tups (Same.tups s)
theorem di.snoc {H : Hp} {qs : List Addr} {ds : List FR} {n : Int} {q : Addr} {d : FR} (h : di H qs ds n) (r : dR H q d) (hl : d.ts.length ≤ 16) (ht : ∀ t ∈ d.ts,0 ≤ t ∧ t < n) (hb : tM d) : di H (qs ++ [q]) (ds ++ [d]) n := by
 refine ⟨by simp [h.1],fun i x e h1 h2 => ?_⟩
 by_cases hi : i < qs.length
 ·rw [List.getElem?_append_left hi] at h1
  rw [List.getElem?_append_left (by rw [← h.1]; exact hi)] at h2
  exact h.2 i x e h1 h2
 ·have h3 := (List.getElem?_eq_some_iff.mp h1).1
  rw [length_append] at h3
  have e' : i = qs.length := by simp at h3; omega
  subst e'
  have e1 : (qs ++ [q])[qs.length]? = some q := by simp
  have e2 : (ds ++ [d])[qs.length]? = some d := by rw [h.1]; simp
  rw [e1] at h1
  rw [e2] at h2
  cases h1
  cases h2
  exact ⟨r,hl,ht,hb⟩
theorem di.init {H : Hp} {qs : List Addr} {ds : List FR} {n : Int} {q : Addr} {d : FR} (h : di H (qs ++ [q]) (ds ++ [d]) n) : di H qs ds n := by
 have hl : qs.length = ds.length := by have := h.1; simp at this; exact this
 refine ⟨hl,fun i x e h1 h2 => h.2 i x e ?_ ?_⟩
 ·rw [List.getElem?_append_left (List.getElem?_eq_some_iff.mp h1).1]; exact h1
 ·rw [List.getElem?_append_left (List.getElem?_eq_some_iff.mp h2).1]; exact h2
theorem di.Yq {H : Hp} {qs : List Addr} {ds : List FR} {n : Int} (h : di H qs ds n) : ∀ d ∈ ds,tM d ∧ ∀ t ∈ d.ts,0 ≤ t ∧ t < n := fun d hd => by
 obtain ⟨i,hi,e⟩ := List.getElem_of_mem hd
 have h1 : ds[i]? = some d := by rw [List.getElem?_eq_getElem hi,e]
 have h2 : qs[i]? = some (qs[i]'(by rw [h.1]; exact hi)) := List.getElem?_eq_getElem _
 obtain ⟨_,_,a,b⟩ := h.2 i _ d h2 h1
 exact ⟨b,a⟩
theorem di.prog {H : Hp} {qs : List Addr} {ds : List FR} (h : di H qs ds (ds.length : Int)) (hl : ∀ d,ds.getLast? = some d → d.u ∈ bZ) : lu ds := fun r d hd => by
 have hr := (List.getElem?_eq_some_iff.mp hd).1
 have hq : qs[r]? = some (qs[r]'(by rw [h.1]; exact hr)) := List.getElem?_eq_getElem _
 obtain ⟨_,h1,h2,_⟩ := h.2 r _ d hq hd
 refine ⟨h1,fun s hs => ?_⟩
 unfold lN at hs
 split at hs
 ·exact h2 s hs
 ·rename_i hn
  rcases mem_append.mp hs with hs | hs
  ·exact h2 s hs
  ·rw [mem_singleton.mp hs]
   have : r + 1 ≠ ds.length := fun z => hn (.inr (hl d (by rw [List.getLast?_eq_getElem?,show ds.length - 1 = r by omega]; exact hd)))
   omega
section
variable {P : Program} {w : World} {K : Frag} {mg : Str → Option Value} {base : Heap}
def yx : Sp := fun vs H Q _ => ∃ (a : Addr) (ns : List Int),vs = [.ref a] ∧ aZ K H a (ns.map V.int) ∧ ns.length ≤ 63 ∧ ∀ (l : Addr) (ds : List FR) (H' : Hp),Same H H' → H l = none → eM H' l ds → lu ds → (∀ d,ds.getLast? = some d → d.u ∈ bZ) → (∀ d ∈ ds,tM d ∧ ∀ t ∈ d.ts,0 ≤ t ∧ t < (ds.length : Int)) → 1 ≤ ds.length → ds.length ≤ 31 → Q (.ref l) H'
theorem pF : aG ["_law_script", "_law_cells", "_law_boxes", "_law_rows"] ["_law_script"] (ai lg) := ⟨rfl,rfl,rfl,by decide +kernel,rfl,by decide +kernel,by decide +kernel⟩
def yz : Scope := { kind := .function,names := [(".0",.local),("_law_cell",.local),("_law_row",.globalImplicit),("len",.globalImplicit),("_law_boxes",.free),("_law_cells",.free)],isGenerator := false,isCoroutine := false,more := [] }
theorem qy : cH (ai lg) yz ["_law_script", "_law_cells", "_law_boxes", "_law_rows"] ["_law_cell", "_law_boxes", "_law_cells"] [none,some 2,some 1] := ⟨rfl,by decide +kernel,by decide +kernel,by decide +kernel,by decide +kernel,by decide +kernel⟩
theorem Be {f fR fC : Addr} {fd BM BZ : FuncData} (F : cY K "_law_program" "_law_program" lg f fd) (T : Txt K w.params mg) (GR : aK P w K mg base bM 2 fR BM ["_law_cell", "_law_many", "_law_boxes"] BP) (kR : KI K fR) (bR : Binds K BM ["_law_cell", "_law_many", "_law_boxes"] []) (mR : mg "_law_row" = some (.ref fR)) (GC : aK P w K mg base bM 1 fC BZ ["_law_script", "_law_k"] (rW (K := K))) (kC : KI K fC) (bC : Binds K BZ ["_law_script", "_law_k"] []) (mC : mg "_law_cell_at" = some (.ref fC)) : aK P w K mg base bM 3 f fd ["_law_script"] (yx (K := K)) := by
 refine F.ok pF (fun vs H Q E h => ?_) (fun cdv A outer s H vs Q E hr h => ?_)
 ·obtain ⟨a,ns,rfl,_⟩ := h
  rfl
 ·obtain ⟨a,ns,rfl,hS,hn,k⟩ := h
  have hr1 := hr.mono (show 1 ≤ _ by decide)
  refine iW (az (aO (bg (i := 1) pF.nd rfl (Or.inr rfl) (aV wx (pQ zA (pv 0) (oz ak) (oz ak)) (aV CK (ck (ae (aL GC hr1 (by rfl) mC kC bC .nil aP (ae (pv 0) (ae ak aj))) aj)) (bK uL (by rfl) T.int xk (ae (eJ ik (aU aX (by rfl) T.len cX (ae (pv 0) aj)) ak (bh _)) aj))))))
   (az (aO (bg (i := 2) pF.nd rfl (Or.inr rfl) (aI aJ (ck (ae ak (ae ak aj))) (aV dP (aL GC hr1 (by rfl) mC kC bC .nil aP (ae (pv 0) (ae ak aj))) ak) (fun _ _ => rfl))))
   (az (aO (gX (i := 3) (N' := ["_law_cell", "_law_boxes", "_law_cells"]) (fr := [none,some 2,some 1]) pF.nd rfl rfl qy rfl (eG (pv 1)) (fun C s0 H0 fp => (bp (i := 0) qy.nd rfl (Or.inl rfl))) (fun C s0 H0 fp => dn) (fun C s0 H0 fp => (aL GR hr (by rfl) mR kR bR .nil aP (ae (pv 0) (ae (aU (r := FV K) aX (by rfl) T.len cX (ae (pv 2) aj)) (ae (pv 1) aj)))))))
   (qf (dQ (aR dU (aI aS (aI aJ (pv 3) (sE oq ak) (fun _ _ => rfl)) ak (fun _ _ => rfl)) (cj (ae aY (ae aY (ae aY (ae aY aj))))) rfl) (bt (aO (dN (aI aJ (ck (ae (cj (ae aY aj)) (ae (cj (ae aY aj)) (ae (cj (ae aY (ae (aV dP (aI aJ (pv 1) (sE oq ak) (fun _ _ => rfl)) (aU aX (by rfl) T.len cX (ae (pv 1) aj))) (ae ak aj)))) aj)))) (aV dP (aV i5 (aI aJ (pv 1) (sE oq ak) (fun _ _ => rfl)) ak) ak) (fun _ _ => rfl)) (dM (pv 3) (sE oq ak) set_list)))) (cK aW))
   (bt (aO (aQ (pv 3)))))))) ?_
  have sq : ∀ {H' : Hp},Same H H' → aZ K H' a (ns.map V.int) := fun e => qw e hS
  refine ⟨_,rfl,4,rfl,24,rfl,a,_,rfl,hS,fun l1 n1 => ?_⟩
  have DL : ∃ ms : List Int,kn (ns.map V.int) (some 4) (some 24) = ms.map V.int ∧ ms.length = min 24 ns.length - min 4 ns.length := by
   unfold kn
   have h1 : HT.dv (ns.map V.int).length 0 (some 4) = min 4 (ns.map V.int).length := HT.oy ..
   have h2 : HT.dv (ns.map V.int).length (ns.map V.int).length (some 24) = min 24 (ns.map V.int).length := HT.oy ..
   rw [h1,h2]
   refine ⟨_,by rw [← map_drop,← map_take],?_⟩
   simp
   omega
  obtain ⟨ms,hms,hml⟩ := DL
  rw [hms]
  have s1 := ao (o := .lst (ms.map V.int)) n1
  have h1 : upd H l1 (.lst (ms.map V.int)) l1 = _ := ah
  generalize upd H l1 (.lst (ms.map V.int)) = H1 at s1 h1 ⊢
  refine ⟨_,rfl,a,ns,0,rfl,sq s1,by decide,fun c9 => ?_⟩
  refine ⟨le_of_ble_eq_true rfl,fun l2 n2 => ?_⟩
  have s2 := ao (o := .lst [V.int c9]) n2
  have h2 : upd H1 l2 (.lst [V.int c9]) l2 = _ := ah
  have h12 := s2 _ _ h1
  generalize upd H1 l2 (.lst [V.int c9]) = H2 at s2 h2 h12 ⊢
  refine ⟨_,rfl,a,_,rfl,.inl (sq (s1.trans s2)),_,_,rfl,rfl,.inr ⟨_,rfl,?_⟩⟩
  rw [length_map]
  obtain ⟨kk,hkk⟩ : ∃ kk : Int,kk = (if decide ((ns.length : Int) < 5) = true then 1 else 0) := ⟨_,rfl⟩
  rw [← hkk]
  have K0 : 0 ≤ kk ∧ kk ≤ 1 := by rw [hkk]; split <;> decide
  refine ⟨l2,kk,_,rfl,rfl,h2,by omega,by omega,jF (by (try simp); omega),fun l3 n3 => ?_⟩
  refine ⟨l1,l3,_,_,rfl,rfl,ao n3 _ _ h12,ah,jF (by rw [len_rep,length_map]; (try simp); omega),fun lc nc => ?_⟩
  have hcs : ∃ cs : List Int,ms.map V.int ++ (replicate kk.toNat [V.int c9]).flatten = cs.map V.int ∧ 1 ≤ cs.length ∧ cs.length ≤ 31 := by
   rcases (show kk = 0 ∨ kk = 1 by omega) with rfl | rfl
   ·refine ⟨ms,by simp,?_,by omega⟩
    have : ¬ (ns.length : Int) < 5 := fun z => by rw [decide_eq_true z,if_pos rfl] at hkk; omega
    omega
   ·refine ⟨ms ++ [c9],by simp,by simp,?_⟩
    have : (ns.length : Int) < 5 := by
     by_cases z : (ns.length : Int) < 5
     ·exact z
     ·rw [decide_eq_false z,if_neg (by decide)] at hkk; omega
    simp
    omega
  obtain ⟨cs,hcs,c1,c40⟩ := hcs
  have s4 := s1.trans (s2.trans ((ao (o := .lst (replicate kk.toNat [V.int c9]).flatten) n3).trans (ao (o := .lst (ms.map V.int ++ (replicate kk.toNat [V.int c9]).flatten)) nc)))
  have h4 : upd (upd H2 l3 (.lst (replicate kk.toNat [V.int c9]).flatten)) lc (.lst (ms.map V.int ++ (replicate kk.toNat [V.int c9]).flatten)) lc = _ := ah
  generalize upd (upd H2 l3 (.lst (replicate kk.toNat [V.int c9]).flatten)) lc (.lst (ms.map V.int ++ (replicate kk.toNat [V.int c9]).flatten)) = H4 at s4 h4 ⊢
  rw [hcs] at h4
  clear h1 h2 h12 s1 s2 hms hml hkk K0
  refine ⟨le_of_ble_eq_true rfl,fun lb nb => ?_⟩
  have K9 := ao (o := .lst [V.int 8,V.int 3]) nb
  have hlb : upd H4 lb (.lst [V.int 8,V.int 3]) lb = _ := ah
  have h4 := K9 _ _ h4
  have s4 := s4.trans K9
  generalize upd H4 lb (.lst [V.int 8,V.int 3]) = H4 at s4 h4 hlb ⊢
  clear K9 nb
  refine ⟨_,rfl,a,ns,0,rfl,sq s4,by decide,fun cb => ?_⟩
  obtain ⟨bx,hbx,Wp,Wq⟩ : ∃ bx : Int,lM [V.int 8,V.int 3] (cb % 2) = some (.int bx) ∧ 2 ≤ bx ∧ bx ≤ 8 := by
   have h2 : 0 ≤ cb % 2 ∧ cb % 2 < 2 := ⟨Int.emod_nonneg _ (by decide),Int.emod_lt_of_pos _ (by decide)⟩
   rcases (show cb % 2 = 0 ∨ cb % 2 = 1 by omega) with z | z
   ·rw [z]; exact ⟨8,at0 _ _,by decide,by decide⟩
   ·rw [z]; exact ⟨3,at1 _ _ _,by decide,by decide⟩
  refine ⟨_,_,rfl,rfl,KH,lb,_,_,.int bx,rfl,rfl,aZ.of hlb,hbx,?_⟩
  clear hlb hbx
  refine ⟨_,rfl,lc,rfl,⟨_,aZ.of h4⟩,fun D nD => gY (K := K) (a := lc) (xs := cs.map V.int) (fun i σ ys H5 => ∃ (v : Option V) (qs : List Addr) (ds : List FR),σ = [v,some (.int bx),some (.ref lc)] ∧ ys = qs.map V.ref ∧ qs.length = i ∧ di H5 qs ds (cs.length : Int) ∧ Same H4 H5 ∧ H5 D = some (.lst ys)) ?_ ?_ ?_ ?_⟩
  ·exact ⟨none,[],[],rfl,rfl,rfl,.nil,ao nD,ah⟩
  ·rintro i σ ys H5 _ ⟨v,qs,ds,rfl,rfl,hl,hR,s5,hD⟩
   exact aZ.of (s5 _ _ h4)
  ·rintro i x σ ys H5 hx ⟨v,qs,ds,rfl,rfl,hl,hR,s5,hD⟩
   rw [List.getElem?_map] at hx
   obtain ⟨c,hc,rfl⟩ := map_eq_some_iff.mp hx
   have hil := (List.getElem?_eq_some_iff.mp hc).1
   refine ⟨_,rfl,_,rfl,lc,_,rfl,.inl (aZ.of (s5 _ _ h4)),_,rfl,c,_,bx,rfl,(by rw [length_map]; omega),(by rw [length_map]; omega),Wp,Wq,fun q H6 s6 hG => ⟨s6 _ _ hD,cg (by rw [length_map]; omega),?_⟩⟩
   obtain ⟨d,r,La,hts,Lb⟩ := hG
   rw [length_map] at hts
   have st : jc H6 (upd H6 D (.lst (qs.map V.ref ++ [V.ref q]))) := jc.put (s6 _ _ hD)
   exact ⟨_,qs ++ [q],ds ++ [d],rfl,by simp,by simp [hl],((hR.same s6).tups st).snoc (r.tups st) La hts Lb,bU (s5.trans s6) nD,ah⟩
  ·rintro σ xs0 H5 ⟨v,qs,ds,rfl,rfl,hl0,hR,s5,hD⟩
   rw [length_map] at hl0
   have FW := s4.trans s5
   have Wx : H D = none := by
    cases e : H D with
    | none => rfl
    | some o => rw [s4 _ _ e] at nD; cases nD
   obtain ⟨vJ,q,rfl⟩ : ∃ ys x,qs = ys ++ [x] := ⟨_,_,(dropLast_concat_getLast (fun z => by rw [z] at hl0; simp at hl0; omega)).symm⟩
   obtain ⟨es,d,rfl⟩ : ∃ ys x,ds = ys ++ [x] := ⟨_,_,(dropLast_concat_getLast (fun z => by have := hR.1; rw [z] at this; simp at this)).symm⟩
   have FX := hR.init
   have hnn : (es ++ [d]).length = cs.length := by rw [← hR.1]; exact hl0
   have hq : (vJ ++ [q])[vJ.length]? = some q := by simp
   have hd : (es ++ [d])[vJ.length]? = some d := by have := FX.1; rw [this]; simp
   obtain ⟨Yr,_,_,_⟩ := hR.2 _ _ _ hq hd
   obtain ⟨items,i1,_⟩ := Yr.parts
   refine ⟨fun σ H6 => ∃ (qs : List Addr) (ds : List FR),σ = [some (.ref a),some (.ref lc),some (.int bx),some (.ref D)] ∧ Same H H6 ∧ H6 D = some (.lst (qs.map V.ref)) ∧ di H6 qs ds (cs.length : Int) ∧ ds.length = cs.length ∧ ∀ d,ds.getLast? = some d → d.u ∈ bZ,?_,?_⟩
   ·refine ⟨_,rfl,_,rfl,D,_,_,.ref q,rfl,rfl,aZ.of hD,(by rw [map_append]; exact uh),q,_,0,_,rfl,rfl,bX.of i1,at0 _ _,Ac,fun t nt => ⟨t,bZ.map V.str,rfl,.inr (bX.of ah),rfl,rfl,_,rfl,?_⟩⟩
    have s6 := ao (o := .tup [V.str "stop",V.str "back",V.str "halt",V.str "jump"]) nt
    rw [show inV (.str d.u) (bZ.map V.str) = decide (d.u ∈ bZ) from fK _ _]
    generalize upd H5 t (.tup [V.str "stop",V.str "back",V.str "halt",V.str "jump"]) = H6 at s6 ⊢
    refine cV (fun e => ?_) (fun e => ?_)
    ·refine ⟨fX,fun q1 m1 => ⟨fX,fun q2 m2 => ?_⟩⟩
     have s1 := ao (o := .tup [V.str "stop"]) m1
     have y1 : upd H6 q1 (.tup [V.str "stop"]) q1 = _ := ah
     generalize upd H6 q1 (.tup [V.str "stop"]) = G1 at s1 y1 m2 ⊢
     have s2 := ao (o := .tup [V.str "back"]) m2
     have y2 : upd G1 q2 (.tup [V.str "back"]) q2 = _ := ah
     generalize upd G1 q2 (.tup [V.str "back"]) = G2 at s2 y2 ⊢
     have Lc := (s6.trans (s1.trans s2)) _ _ (s5 _ _ h4)
     obtain ⟨zg,cv,rfl⟩ : ∃ ys x,cs = ys ++ [x] := ⟨_,_,(dropLast_concat_getLast (fun z => by rw [z] at c1; simp at c1)).symm⟩
     have Wy : lM ((zg ++ [cv]).map V.int) (-1) = some (.int cv) := by rw [map_append]; exact uh
     refine ⟨_,rfl,_,rfl,lc,_,_,.int cv,rfl,rfl,aZ.of Lc,Wy,_,rfl,lc,_,rfl,.inl (aZ.of Lc),_,_,rfl,rfl,(by show (0 : Int) < (((zg ++ [cv]).map V.int).length : Int); rw [length_map]; simp),gA,fun q3 m3 => ⟨gA,fun ll ml => ?_⟩⟩
     obtain ⟨Jk,Jl⟩ : 0 ≤ (cv % (((zg ++ [cv]).map V.int).length : Int)) ∧ (cv % (((zg ++ [cv]).map V.int).length : Int)) < ((zg ++ [cv]).length : Int) := ⟨Int.emod_nonneg _ (by rw [length_map]; simp; try omega),by rw [length_map]; exact Int.emod_lt_of_pos _ (by simp; try omega)⟩
     have s3 := ao (o := .tup [V.str "jump",V.int (cv % (((zg ++ [cv]).map V.int).length : Int)),V.int 0]) m3
     have y3 : upd G2 q3 (.tup [V.str "jump",V.int (cv % (((zg ++ [cv]).map V.int).length : Int)),V.int 0]) q3 = _ := ah
     have ml : upd G2 q3 (.tup [V.str "jump",V.int (cv % (((zg ++ [cv]).map V.int).length : Int)),V.int 0]) ll = none := ml
     generalize upd G2 q3 (.tup [V.str "jump",V.int (cv % (((zg ++ [cv]).map V.int).length : Int)),V.int 0]) = G3 at s3 y3 ml ⊢
     have s8 := ao (o := .lst [V.ref q1,V.ref q2,V.ref q3]) ml
     have y8 : upd G3 ll (.lst [V.ref q1,V.ref q2,V.ref q3]) ll = _ := ah
     generalize upd G3 ll (.lst [V.ref q1,V.ref q2,V.ref q3]) = G4 at s8 y8 ⊢
     have sa := s6.trans (s1.trans (s2.trans (s3.trans s8)))
     have h4c := (s3.trans s8) _ _ Lc
     have Wz := sa _ _ hD
     have hd3 : 0 ≤ cv / 64 % 3 ∧ cv / 64 % 3 < 3 := ⟨Int.emod_nonneg _ (by decide),Int.emod_lt_of_pos _ (by decide)⟩
     obtain ⟨qx,dx,hat,hrow,htl,htn,nX,hfx⟩ : ∃ (qx : Addr) (dx : FR),lM [V.ref q1,V.ref q2,V.ref q3] (cv / 64 % 3) = some (.ref qx) ∧ dR G4 qx dx ∧ dx.ts.length ≤ 16 ∧ (∀ t ∈ dx.ts,0 ≤ t ∧ t < ((zg ++ [cv]).length : Int)) ∧ dx.u ∈ bZ ∧ tM dx := by
      rcases (show cv / 64 % 3 = 0 ∨ cv / 64 % 3 = 1 ∨ cv / 64 % 3 = 2 by omega) with z | z | z
      ·rw [z]; exact ⟨q1,_,at0 _ _,oY (by decide) ((s2.trans (s3.trans s8)) _ _ y1),by simp,by simp,(by decide : ("stop" : Str) ∈ bZ),o8 rfl⟩
      ·rw [z]; exact ⟨q2,_,at1 _ _ _,oY (by decide) ((s3.trans s8) _ _ y2),by simp,by simp,(by decide : ("back" : Str) ∈ bZ),o8 rfl⟩
      ·rw [z]; exact ⟨q3,_,at2 _ _ _ _,tL (by decide) (s8 _ _ y3),by simp,(fun t ht => by rw [mem_singleton.mp ht]; exact ⟨Jk,Jl⟩),(by decide : ("jump" : Str) ∈ bZ),tP (by decide)⟩
     refine ⟨_,rfl,_,rfl,lc,_,_,.int cv,rfl,rfl,aZ.of h4c,Wy,_,_,rfl,rfl,⟨by show (0 : Int) < 64; decide,by show (64 : Int) < _; decide⟩,_,_,rfl,rfl,KJ,ll,_,_,.ref qx,rfl,rfl,aZ.of y8,hat,?_⟩
     refine ⟨_,rfl,_,rfl,D,_,_,vJ.length,rfl,rfl,Wz,?_,?_⟩
     ·rw [map_append,length_append,length_map,map_cons,map_nil,length_singleton]
      exact ug
     rw [show ((vJ ++ [q]).map V.ref).set vJ.length (V.ref qx) = (vJ ++ [qx]).map V.ref by rw [map_append,show vJ.length = (vJ.map V.ref).length by rw [length_map],map_cons,map_nil,yw,map_append]; rfl]
     have st : jc G4 (upd G4 D (.lst ((vJ ++ [qx]).map V.ref))) := jc.put Wz
     refine ⟨vJ ++ [qx],_,rfl,bU (FW.trans sa) Wx,ah,(FX.same sa).tups st |>.snoc (d := dx) (dR.tups st hrow) htl htn hfx,by have := hnn; simp only [length_append,length_singleton] at this ⊢; exact this,fun d hd => by rw [List.getLast?_concat] at hd; cases hd; exact nX⟩
    ·have e : d.u ∈ bZ := by simpa using e
     exact ⟨vJ ++ [q],es ++ [d],rfl,FW.trans s6,s6 _ _ hD,hR.same s6,hnn,fun d' hd' => by rw [List.getLast?_concat] at hd'; cases hd'; exact e⟩
   ·rintro σ H6 ⟨qs,ds,rfl,s6,Ea,FY,Ys,nX⟩
    refine ⟨_,rfl,?_⟩
    rw [← Ys] at FY
    exact k D ds H6 s6 Wx ⟨qs,Ea,FY.1,fun i q d h1 h2 => (FY.2 i q d h1 h2).1⟩ (FY.prog nX) nX FY.Yq (by omega) (by omega)
end
theorem yA {H : Hp} {a lc : Addr} {as : List Addr} {ms : List Int} (h1 : H lc = some (.lst (as.map V.ref))) (h2 : H a = some (.lst (ms.map V.int))) (hm : as ≠ []) : a ≠ lc := fun z => by
 rw [z,h1] at h2
 cases as with
 | nil => exact hm rfl
 | cons x r =>
  cases ms with
  | nil => cases h2
  | cons y r' => cases h2
theorem ui {n j : Nat} (h : j < n) : uP n (j : Int) = some j := by
 unfold uP
 rw [if_pos (by omega),if_pos (by omega)]
 rfl
def nats (rs : List Nat) : List V := rs.map (fun r : Nat => V.int (r : Int))
theorem vx (rs : List Nat) : nats rs = (rs.map fun r : Nat => (r : Int)).map V.int := by unfold nats; rw [List.map_map]; rfl
theorem qz {rs : List Nat} {i : Nat} {x : V} (h : (nats rs)[i]? = some x) : ∃ r,rs[i]? = some r ∧ x = .int (r : Int) := by
 unfold nats at h
 rw [List.getElem?_map] at h
 obtain ⟨r,hr,rfl⟩ := map_eq_some_iff.mp h
 exact ⟨r,hr,rfl⟩
theorem eZ (rs : List Nat) (r : Nat) : nats rs ++ [V.int (r : Int)] = nats (rs ++ [r]) := by unfold nats; rw [map_append]; rfl
theorem eE (rs : List Nat) : (nats rs).length = rs.length := by unfold nats; rw [length_map]
def lH (H : Hp) (la : Addr) (as : List Addr) (ds : List FR) : Prop := H la = some (.lst (as.map V.ref)) ∧ as.length = ds.length ∧ ∀ (s : Nat) a,as[s]? = some a → ∃ rs : List Nat,H a = some (.lst (nats rs)) ∧ ∀ r : Nat,r ∈ rs ↔ ∃ d,ds[r]? = some d ∧ (s : Int) ∈ lN d r
theorem lH.same {H H' : Hp} {la : Addr} {as : List Addr} {ds : List FR} (s : Same H H') (h : lH H la as ds) : lH H' la as ds :=
 ⟨s _ _ h.1,h.2.1,fun i a e => (h.2.2 i a e).imp fun rs z => ⟨s _ _ z.1,z.2⟩⟩
def vK (G : Hp) (as : List Addr) (ds : List FR) (r : Nat) (ms : List Int) : Prop := ∀ (s : Nat) a,as[s]? = some a → ∃ rs : List Nat,G a = some (.lst (nats rs)) ∧ rs.length ≤ 1000 * r + ms.length ∧ ∀ x : Nat,x ∈ rs ↔ (x < r ∧ ∃ d,ds[x]? = some d ∧ (s : Int) ∈ lN d x) ∨ (x = r ∧ (s : Int) ∈ ms)
theorem yB {as : List Addr} (h : as.Nodup) {i j : Nat} {a : Addr} (h1 : as[i]? = some a) (h2 : as[j]? = some a) : i = j := by
 obtain ⟨l1,e1⟩ := List.getElem?_eq_some_iff.mp h1
 obtain ⟨l2,e2⟩ := List.getElem?_eq_some_iff.mp h2
 exact (List.getElem_inj h).mp (e1.trans e2.symm)
theorem vK.put {G : Hp} {as : List Addr} {ds : List FR} {r s : Nat} {ms : List Int} {a : Addr} {rs : List Nat} (h : vK G as ds r ms) (hn : as.Nodup) (ha : as[s]? = some a) (hrs : G a = some (.lst (nats rs))) : vK (upd G a (.lst (nats (rs ++ [r])))) as ds r (ms ++ [(s : Int)]) := fun s' a' e => by
 obtain ⟨rs',g1,g2,g3⟩ := h s' a' e
 by_cases z : a' = a
 ·subst z
  have es := yB hn e ha
  subst es
  rw [hrs] at g1
  have er : rs' = rs := by
   have : nats rs' = nats rs := (HO.lst.inj (Option.some.inj g1)).symm
   unfold nats at this
   exact (List.map_inj_right (fun x y e => by injection e with e; exact Int.ofNat.inj e)).mp this
  subst er
  refine ⟨_,ah,by simp; omega,fun x => ?_⟩
  rw [mem_append,g3 x,mem_singleton,mem_append,mem_singleton]
  constructor
  ·rintro ((z | z) | z)
   ·exact .inl z
   ·exact .inr ⟨z.1,.inl z.2⟩
   ·exact .inr ⟨z,.inr rfl⟩
  ·rintro (z | ⟨z,y | y⟩)
   ·exact .inl (.inl z)
   ·exact .inl (.inr ⟨z,y⟩)
   ·exact .inr z
 ·refine ⟨rs',by rw [aw z]; exact g1,by simp; omega,fun x => ?_⟩
  rw [g3 x,mem_append,mem_singleton]
  have hne : ¬ (s' : Int) = (s : Int) := fun y => z (by have : s' = s := (by omega); subst this; rw [e] at ha; cases ha; rfl)
  constructor
  ·rintro (y | y)
   ·exact .inl y
   ·exact .inr ⟨y.1,.inl y.2⟩
  ·rintro (y | ⟨y,x1 | x1⟩)
   ·exact .inl y
   ·exact .inr ⟨y,x1⟩
   ·exact absurd x1 hne
theorem vK.next {G : Hp} {as : List Addr} {ds : List FR} {r : Nat} {ms : List Int} {d : FR} (h : vK G as ds r ms) (hd : ds[r]? = some d) (hm : ∀ j,j ∈ ms ↔ j ∈ lN d r) (hl : ms.length ≤ 1000) : vK G as ds (r + 1) [] := fun s a e => by
 obtain ⟨rs,g1,g2,g3⟩ := h s a e
 refine ⟨rs,g1,by simp; omega,fun x => ?_⟩
 rw [g3 x]
 constructor
 ·rintro (⟨y,z⟩ | ⟨y,z⟩)
  ·exact .inl ⟨by omega,z⟩
  ·exact .inl ⟨by omega,d,by rw [y]; exact hd,by rw [y]; exact (hm _).mp z⟩
 ·rintro (⟨y,d',z1,z2⟩ | ⟨_,z⟩)
  ·by_cases q : x = r
   ·subst q
    rw [hd] at z1
    cases z1
    exact .inr ⟨rfl,(hm _).mpr z2⟩
   ·exact .inl ⟨by omega,d',z1,z2⟩
  ·exact (not_mem_nil z).elim
theorem vK.same {G G' : Hp} {as : List Addr} {ds : List FR} {r : Nat} {ms : List Int} (s : Same G G') (h : vK G as ds r ms) : vK G' as ds r ms := fun i a e => (h i a e).imp fun rs z => ⟨s _ _ z.1,z.2⟩
section
variable {P : Program} {w : World} {K : Frag} {mg : Str → Option Value} {base : Heap}
def qA : Sp := fun vs H Q _ => ∃ (lr : Addr) (ds : List FR),vs = [.ref lr] ∧ eM H lr ds ∧ lu ds ∧ ds.length ≤ 3000 ∧ ∀ (l : Addr) (as : List Addr) (H' : Hp),Same H H' → lH H' l as ds → Q (.ref l) H'
theorem Bf : aG ["rows", "ahead", "r", "s"] ["rows"] (ai fJ) := ⟨rfl,rfl,rfl,by decide +kernel,rfl,by decide +kernel,by decide +kernel⟩
def DM : Scope := { kind := .function,names := [(".0",.local),("row",.local)],isGenerator := false,isCoroutine := false,more := [] }
theorem yC : cH (ai fJ) DM ["rows", "ahead", "r", "s"] ["row"] [none] := ⟨rfl,by decide +kernel,by decide +kernel,by decide +kernel,by decide +kernel,by decide +kernel⟩
theorem vy {f fA : Addr} {fd xJ : FuncData} (F : cY K "rows_ahead_of" "rows_ahead_of" fJ f fd) (T : Txt K w.params mg) (GA : aK P w K mg base bM 3 fA xJ ["rows", "r"] oX) (kA : KI K fA) (bA : Binds K xJ ["rows", "r"] []) (mA : mg "ways_ahead" = some (.ref fA)) : aK P w K mg base bM 4 f fd ["rows"] qA := by
 refine F.ok Bf (fun vs H Q E h => ?_) (fun cdv A outer s H vs Q E hr h => ?_)
 ·obtain ⟨lr,ds,rfl,_⟩ := h
  rfl
 ·obtain ⟨lr,ds,rfl,hR,hP,hn,k⟩ := h
  refine iW (az (aO (gX (i := 1) (N' := ["row"]) (fr := [none]) Bf.nd rfl rfl yC rfl (eG (pv 0)) (fun C s0 H0 fp => (bp (i := 0) yC.nd rfl (Or.inl rfl))) (fun C s0 H0 fp => dn) (fun C s0 H0 fp => (ck aj))))
   (az (aO (dO PassesOwn.never rfl (cM rfl T.range (ae (aU aX (by rfl) T.len cX (ae (pv 0) aj)) aj)) (bp (i := 2) Bf.nd rfl (Or.inl rfl)) (ay (dO PassesOwn.never rfl (eG (aL GA hr (by rfl) mA kA bA .nil aP (ae (pv 0) (ae (pv 2) aj)))) (bp (i := 3) Bf.nd rfl (Or.inl rfl)) (ay (cO (mJ PySem.F.plainAttrs_list PySem.F.slot_list_append PySem.F.type_list_append dh (aI aJ (pv 1) (pv 3) (fun _ _ => rfl)) (ae (pv 2) aj))))))))
   (bt (aO (aQ (pv 1)))))) ?_
  have hlr := hR
  obtain ⟨qs,r1,r2,r3⟩ := hR
  refine ⟨_,rfl,lr,rfl,⟨_,aZ.of r1⟩,fun D nD => gY (K := K) (a := lr) (xs := qs.map V.ref) (fun i σ ys G => ∃ (v : Option V) (as : List Addr),σ = [v] ∧ ys = as.map V.ref ∧ as.length = i ∧ as.Nodup ∧ (∀ a ∈ as,H a = none ∧ G a = some (.lst (([] : List Int).map V.int))) ∧ Same H G ∧ G D = some (.lst ys)) ?_ ?_ ?_ ?_⟩
  ·exact ⟨none,[],rfl,rfl,rfl,List.nodup_nil,fun a h => (not_mem_nil h).elim,ao nD,ah⟩
  ·rintro i σ ys G _ ⟨v,as,rfl,rfl,_,_,_,s1,_⟩
   exact aZ.of (s1 _ _ r1)
  ·rintro i x σ ys G hx ⟨v,as,rfl,rfl,hl,hnd,ha,s1,hD⟩
   have hil := (List.getElem?_eq_some_iff.mp hx).1
   rw [length_map] at hil
   refine ⟨le_of_ble_eq_true rfl,fun b nb => ⟨ao nb _ _ hD,cg (by rw [length_map]; omega),_,as ++ [b],rfl,by simp,by simp [hl],?_,fun y hy => ?_,bU (s1.trans (ao nb)) nD,ah⟩⟩
   ·rw [nodup_append]
    refine ⟨hnd,by simp,fun x hx y hy e => ?_⟩
    rw [mem_singleton.mp hy] at e
    have := (ha x hx).2
    rw [e,nb] at this
    cases this
   ·rcases mem_append.mp hy with hy | hy
    ·obtain ⟨y0,y1⟩ := ha y hy
     exact ⟨y0,by rw [aw (yA hD y1 (List.ne_nil_of_mem hy))]; exact ao nb _ _ y1⟩
    ·rw [mem_singleton.mp hy]
     exact ⟨s1.free nb,by rw [aw (fun z => by rw [z,hD] at nb; cases nb)]; exact ah⟩
  ·rintro σ ys G ⟨v,as,rfl,rfl,hl,hnd,ha,s1,hD⟩
   rw [length_map] at hl
   have h0 : vK G as ds 0 [] := fun s a e => ⟨[],(ha a (List.mem_of_getElem? e)).2,by simp,fun x => by simp⟩
   have hna : ∀ a ∈ as,H a = none := fun a h => (ha a h).1
   refine ⟨_,rfl,lr,_,rfl,.inl (aZ.of (s1 _ _ r1)),_,rfl,by rw [length_map]; omega,by rw [length_map]; omega,?_⟩
   refine eT (lo := 0) (n := (((qs.map V.ref).length : Nat) : Int).toNat) (fun i σ G1 => ∃ v2 v3 : Option V,σ = [some (.ref lr),some (.ref D),v2,v3] ∧ Same H G1 ∧ G1 D = some (.lst (as.map V.ref)) ∧ vK G1 as ds i []) ?_ ?_ ?_
   ·exact ⟨_,_,rfl,s1,hD,h0⟩
   ·rintro i σ G1 hi ⟨v2,v3,rfl,s2,hD1,hA⟩
    have hin : i < ds.length := by
     rw [Int.toNat_natCast,length_map,r2] at hi
     exact hi
    have e0 : (0 : Int) + (i : Int) = (i : Int) := by omega
    rw [e0]
    have hd : ds[i]? = some ds[i] := List.getElem?_eq_getElem hin
    generalize ds[i] = d at hd
    obtain ⟨p1,p2⟩ := hP i d hd
    refine ⟨_,rfl,_,rfl,lr,ds,i,d,rfl,hlr.same s2,hd,p1,fun lw ms G2 s3 Yt WB hml hmm => ?_⟩
    have Yu : ∀ a ∈ as,a ≠ lw := fun a ha z => by
     obtain ⟨j,hj,e⟩ := List.getElem_of_mem ha
     obtain ⟨rs,g1,_⟩ := hA j a (by rw [List.getElem?_eq_getElem hj,e])
     rw [z,Yt] at g1
     cases g1
    refine ⟨lw,rfl,⟨_,aZ.of WB⟩,iK (K := K) (a := lw) (xs := ms.map V.int) (fun j σ G3 => ∃ v3 : Option V,σ = [some (.ref lr),some (.ref D),some (.int (i : Int)),v3] ∧ Same H G3 ∧ G3 D = some (.lst (as.map V.ref)) ∧ G3 lw = some (.lst (ms.map V.int)) ∧ vK G3 as ds i (ms.take j)) ?_ ?_ ?_ ?_⟩
    ·exact ⟨_,rfl,s2.trans s3,s3 _ _ hD1,WB,hA.same s3⟩
    ·rintro j σ G3 _ ⟨v3,rfl,_,_,h3,_⟩
     exact aZ.of h3
    ·rintro j x σ G3 hx ⟨v3,rfl,s4,qG,FZ,Ga⟩
     rw [List.getElem?_map] at hx
     obtain ⟨t,ht,rfl⟩ := map_eq_some_iff.mp hx
     have hjl := (List.getElem?_eq_some_iff.mp ht).1
     obtain ⟨t0,t1⟩ := p2 t ((hmm t).mp (List.mem_of_getElem? ht))
     obtain ⟨tn,rfl⟩ := Int.eq_ofNat_of_zero_le t0
     have hat : as[tn]? = some (as[tn]'(by omega)) := List.getElem?_eq_getElem _
     generalize as[tn]'(by omega) = at_ at hat
     obtain ⟨rs,g1,g2,g3⟩ := Ga tn at_ hat
     have hmem := List.mem_of_getElem? hat
     refine ⟨_,rfl,_,rfl,D,_,_,.ref at_,rfl,rfl,aZ.of qG,bJ (j := tn) (by rw [List.getElem?_map,hat]; rfl),.inl ⟨rfl,_,aZ.of g1⟩,_,rfl,at_,_,_,rfl,rfl,g1,Nat.lt_of_le_of_lt (show (nats rs).length ≤ 10000000 by rw [eE]; rw [length_take] at g2; omega) (by decide),?_⟩
     rw [eZ]
     have ne1 : at_ ≠ D := yA qG (by rw [g1,vx]) (List.ne_nil_of_mem hmem)
     refine ⟨_,rfl,bU s4 (hna _ hmem),by rw [aw (Ne.symm ne1)]; exact qG,by rw [aw (Ne.symm (Yu _ hmem))]; exact FZ,?_⟩
     rw [take_add_one,ht]
     exact Ga.put hnd hat g1
    ·rintro σ G3 ⟨v3,rfl,s4,qG,FZ,Ga⟩
     rw [length_map,take_length] at Ga
     exact ⟨_,_,rfl,s4,qG,Ga.next hd hmm hml⟩
   ·rintro σ G1 ⟨v2,v3,rfl,s2,hD1,hA⟩
    rw [Int.toNat_natCast,length_map,r2] at hA
    refine ⟨_,rfl,k D as G1 s2 ⟨hD1,by omega,fun s a e => ?_⟩⟩
    obtain ⟨rs,g1,_,g3⟩ := hA s a e
    refine ⟨rs,g1,fun r => ?_⟩
    rw [g3 r]
    constructor
    ·rintro (⟨_,z⟩ | ⟨_,z⟩)
     ·exact z
     ·exact (not_mem_nil z).elim
    ·rintro ⟨d,z1,z2⟩
     exact .inl ⟨(List.getElem?_eq_some_iff.mp z1).1,d,z1,z2⟩
end
inductive du (ds : List FR) (b : Int) : Nat → Prop
 | now {r : Nat} {d : FR} : ds[r]? = some d → cz d b = true → du ds b r
 | later {r s : Nat} {d : FR} : ds[r]? = some d → jY d b = false → (s : Int) ∈ lN d r → du ds b s → du ds b r
theorem du.lt {ds : List FR} {b : Int} {r : Nat} (h : du ds b r) : r < ds.length := by
 cases h with
 | now h _ => exact (List.getElem?_eq_some_iff.mp h).1
 | later h _ _ _ => exact (List.getElem?_eq_some_iff.mp h).1
def fU (ds : List FR) (b : Int) (r : Nat) : Bool := match ds[r]? with
 | some d => cz d b
 | none => false
def nD (ks : List Nat) : List (Key × V) := ks.map (fun r : Nat => ((Sum.inl (r : Int) : Key),V.bl true))
theorem sm (ks : List Nat) (r : Nat) : cC (nD ks) (Sum.inl (r : Int)) = if r ∈ ks then some (.bl true) else none := by
 induction ks with
 | nil => rfl
 | cons x t ih =>
  show cC ((Sum.inl (x : Int),V.bl true) :: nD t) _ = _
  by_cases e : x = r
  ·subst e
   rw [cw rfl,if_pos (by simp)]
  ·have ne : ¬ ((Sum.inl (x : Int) : Key) = Sum.inl (r : Int)) := fun z => e (by have := Sum.inl.inj z; omega)
   rw [cy ne,ih]
   by_cases h : r ∈ t
   ·rw [if_pos h,if_pos (by simp [h])]
   ·rw [if_neg h,if_neg (by simp [h]; omega)]
theorem yD {ks : List Nat} {r : Nat} (h : ¬ r ∈ ks) : putK (nD ks) (Sum.inl (r : Int)) (.bl true) = nD (ks ++ [r]) := by
 rw [ko _ (by rw [sm,if_neg h])]
 unfold nD
 rw [map_append]
 rfl
theorem yE (ks : List Nat) : (nD ks).length = ks.length := by unfold nD; rw [length_map]
theorem fO : ∀ {ms : List Nat} {n : Nat},ms.Nodup → (∀ j ∈ ms,j < n) → ms.length ≤ n := fun {ms n} hn h => by
 have h2 := ia (ms := ms.map fun r : Nat => (r : Int)) (xs := (List.range n).map fun r : Nat => (r : Int)) (by
  rw [List.nodup_iff_pairwise_ne,List.pairwise_map]
  exact (List.nodup_iff_pairwise_ne.mp hn).imp fun hne e => hne (by omega)) (fun j hj => by
  obtain ⟨r,hr,rfl⟩ := mem_map.mp hj
  exact mem_map.mpr ⟨r,mem_range.mpr (h r hr),rfl⟩)
 simpa using h2
structure Wl (ds : List FR) (b : Int) (ks ws : List Nat) : Prop where
 nd : ks.Nodup
 wd : ws.Nodup
 sub : ∀ x ∈ ws,x ∈ ks
 need : ∀ x ∈ ks,du ds b x
 base : ∀ r,fU ds b r = true → r ∈ ks
def Bg (ds : List FR) (b : Int) (ks ws : List Nat) : Prop := ∀ s ∈ ks,¬ s ∈ ws → ∀ (r : Nat) d,ds[r]? = some d → jY d b = false → (s : Int) ∈ lN d r → r ∈ ks
theorem Wl.all {ds : List FR} {b : Int} {ks : List Nat} (h : Wl ds b ks []) (hs : Bg ds b ks []) (r : Nat) : r ∈ ks ↔ du ds b r := by
 refine ⟨h.need r,fun z => ?_⟩
 induction z with
 | now h1 h2 => exact h.base _ (by unfold fU; rw [h1]; exact h2)
 | later h1 h2 h3 _ ih => exact hs _ ih (by simp) _ _ h1 h2 h3
theorem Wl.len {ds : List FR} {b : Int} {ks ws : List Nat} (h : Wl ds b ks ws) : ks.length ≤ ds.length := fO h.nd fun x hx => (h.need x hx).lt
theorem Wl.Ld {ds : List FR} {b : Int} {ks ws : List Nat} (h : Wl ds b ks ws) : ws.length ≤ ds.length := fO h.wd fun x hx => (h.need x (h.sub x hx)).lt
section
variable {P : Program} {w : World} {K : Frag} {mg : Str → Option Value} {base : Heap}
def uj : Sp := fun vs H Q _ => ∃ (lr la : Addr) (as : List Addr) (b : Int) (ds : List FR),vs = [.ref lr,.ref la,.int b] ∧ eM H lr ds ∧ lH H la as ds ∧ ds.length ≤ 3000 ∧ ∀ (p : Addr) (ks : List Nat) (H' : Hp),Same H H' → H p = none → H' p = some (.dK (nD ks)) → (∀ r,r ∈ ks ↔ du ds b r) → Q (.ref p) H'
theorem vz : aG ["rows", "ahead", "box", "waiting", "needing", "r", "s"] ["rows", "ahead", "box"] (ai iF) := ⟨rfl,rfl,rfl,by decide +kernel,rfl,by decide +kernel,by decide +kernel⟩
def DN : Scope := { kind := .function,names := [(".0",.local),("r",.local),("row",.local),("needs_at_once",.globalImplicit),("box",.free)],isGenerator := false,isCoroutine := false,more := [] }
theorem yF : cH (ai iF) DN ["rows", "ahead", "box", "waiting", "needing", "r", "s"] ["r", "row", "box"] [none,none,some 2] := ⟨rfl,by decide +kernel,by decide +kernel,by decide +kernel,by decide +kernel,by decide +kernel⟩
theorem yG {f fN fW : Addr} {fd nu xv : FuncData} (F : cY K "rows_that_need" "rows_that_need" iF f fd) (T : Txt K w.params mg) (GN : aK P w K mg base bM 2 fN nu ["row", "box"] oW) (kN : KI K fN) (bN : Binds K nu ["row", "box"] []) (mN : mg "needs_at_once" = some (.ref fN)) (GW : aK P w K mg base bM 1 fW xv ["row"] lh) (kW : KI K fW) (bW : Binds K xv ["row"] []) (mW : mg "writes_of" = some (.ref fW)) : aK P w K mg base bM 3 f fd ["rows", "ahead", "box"] uj := by
 refine F.ok vz (fun vs H Q E h => ?_) (fun cdv A outer s H vs Q E hr h => ?_)
 ·obtain ⟨lr,la,as,b,ds,rfl,_⟩ := h
  rfl
 ·obtain ⟨lr,la,as,b,ds,rfl,hR,hA,hn,k⟩ := h
  have hr1 := hr.mono (show 1 ≤ _ by decide)
  have hu := hr.u 1
  refine iW (az (aO (gX (i := 3) (N' := ["r", "row", "box"]) (fr := [none,none,some 2]) vz.nd rfl rfl yF rfl (sZ rfl T.enum (ae (pv 0) aj)) (fun C s0 H0 fp => (rT (K := K) (i := 0) (j := 1) rfl rfl yF.nd rfl (Or.inl rfl) rfl (Or.inl rfl))) (fun C s0 H0 fp => (iR (fc (aL GN hr (by rfl) mN kN bN .nil aP (ae (pv 1) (ae (pv 2) aj)))))) (fun C s0 H0 fp => (pv 0))))
   (az (aO (bg (i := 4) vz.nd rfl (Or.inl rfl) gm))
   (az (aO (dO PassesOwn.never rfl (eG (pv 3)) (bp (i := 5) vz.nd rfl (Or.inl rfl)) (ay (fj hu (pv 4) (pv 5) fZ rfl))))
   (az (aO (vR PassesOwn.never (aR sG (aU aX (by rfl) T.len cX (ae (pv 3) aj)) ak (bh _)) (aH (bg (i := 6) vz.nd rfl (Or.inl rfl) (wo PySem.F.plainAttrs_list PySem.F.slot_list_pop PySem.F.type_list_pop wu (pv 3)))
   (ay (dO PassesOwn.never rfl (eG (aI aJ (pv 1) (pv 6) (fun _ _ => rfl))) (bp (i := 5) vz.nd rfl (Or.inl rfl)) (ay (cI (vO (qJ (mQ hu (pv 5) (pv 4))) (sC (aR dU (pv 2) (aL GW hr1 (by rfl) mW kW bW .nil aP (ae (aI aJ (pv 0) (pv 5) (fun _ _ => rfl)) aj)) rfl))).pt (aH (fj hu (pv 4) (pv 5) fZ rfl)
   (ay (cO (mJ PySem.F.plainAttrs_list PySem.F.slot_list_append PySem.F.type_list_append dh (pv 3) (ae (pv 5) aj))))) aW)))))))
   (bt (aO (aQ (pv 4)))))))) ?_
  have hlr := hR
  obtain ⟨qs,r1,r2,r3⟩ := hR
  refine ⟨_,rfl,lr,rfl,⟨_,aZ.of r1⟩,fun D nD' => uZ (K := K) (a := lr) (xs := qs.map V.ref) (fun i σ ys G => ∃ (v1 v2 : Option V),σ = [v1,v2,some (.int b)] ∧ ys = nats ((List.range i).filter (fU ds b)) ∧ Same H G ∧ G D = some (.lst ys)) ?_ ?_ ?_ ?_⟩
  ·exact ⟨none,none,rfl,rfl,ao nD',ah⟩
  ·rintro i σ ys G _ ⟨v1,v2,rfl,rfl,s1,_⟩
   exact aZ.of (s1 _ _ r1)
  ·rintro i x σ ys G t hx nt ⟨v1,v2,rfl,rfl,s1,hD⟩
   rw [List.getElem?_map] at hx
   obtain ⟨q,hq,rfl⟩ := map_eq_some_iff.mp hx
   have hil := (List.getElem?_eq_some_iff.mp hq).1
   have hd : ds[i]? = some (ds[i]'(by omega)) := List.getElem?_eq_getElem _
   generalize ds[i]'(by omega) = d at hd
   have s2 := ao (o := .tup [V.int i,V.ref q]) nt
   have ht : upd G t (.tup [V.int i,V.ref q]) t = _ := ah
   have hD2 := s2 _ _ hD
   generalize upd G t (.tup [V.int i,V.ref q]) = G1 at s2 ht hD2 ⊢
   have s12 := s1.trans s2
   have Js : (List.range (i + 1)).filter (fU ds b) = if cz d b = true then (List.range i).filter (fU ds b) ++ [i] else (List.range i).filter (fU ds b) := by
    have e : fU ds b i = cz d b := by unfold fU; rw [hd]
    rw [List.range_succ,filter_append]
    cases h : cz d b
    ·rw [List.filter_cons_of_neg (by rw [e,h]; decide)]; simp
    ·rw [List.filter_cons_of_pos (by rw [e,h])]; simp
   refine ⟨t,_,rfl,bX.of ht,rfl,_,_,rfl,_,_,rfl,rfl,?_⟩
   refine ⟨_,rfl,_,rfl,q,b,d,rfl,(r3 i q d hq hd).same s12,fun G2 s3 => ⟨_,rfl,?_⟩⟩
   refine cV (fun e => ?_) (fun e => ?_)
   ·refine ⟨_,rfl,s3 _ _ hD2,?_,_,_,rfl,?_,bU (s12.trans s3) nD',ah⟩
    ·rw [eE]
     exact cg (le_trans (List.length_filter_le _ _) (by rw [List.length_range]; omega))
    ·rw [Js,if_pos e,← eZ]
   ·refine ⟨_,_,rfl,?_,s12.trans s3,s3 _ _ hD2⟩
    rw [Js,if_neg e]
  ·rintro σ ys G ⟨v1,v2,rfl,rfl,s1,hD⟩
   rw [length_map,r2] at hD
   obtain ⟨w0,hw0⟩ : ∃ w0,w0 = (List.range ds.length).filter (fU ds b) := ⟨_,rfl⟩
   rw [← hw0] at hD
   have B2 : ∀ r,r ∈ w0 ↔ fU ds b r = true := fun r => by
    rw [hw0,List.mem_filter,mem_range]
    refine ⟨fun z => z.2,fun z => ⟨?_,z⟩⟩
    unfold fU at z
    cases e : ds[r]? with
    | none => rw [e] at z; cases z
    | some d => exact (List.getElem?_eq_some_iff.mp e).1
   have Bh : w0.Nodup := by rw [hw0]; exact List.nodup_range.sublist List.filter_sublist
   have yH : ∀ r ∈ w0,du ds b r := fun r hr => by
    have z := (B2 r).mp hr
    unfold fU at z
    cases e : ds[r]? with
    | none => rw [e] at z; cases z
    | some d => rw [e] at z; exact .now e z
   refine fun p np => ?_
   have hp0 : H p = none := s1.free np
   have Bi : D ≠ p := fun z => by rw [← z,hD] at np; cases np
   have s2 := s1.trans (ao (o := .dK []) np)
   have hp : upd G p (.dK []) p = some (.dK (nD ([] : List Nat))) := ah
   have hD2 := ao (o := .dK []) np _ _ hD
   generalize upd G p (.dK []) = G1 at s2 hp hD2 ⊢
   refine ⟨_,rfl,D,rfl,⟨_,aZ.of hD2⟩,iK (K := K) (a := D) (xs := nats w0) (fun j σ G2 => ∃ v5 : Option V,σ = [some (.ref lr),some (.ref la),some (.int b),some (.ref D),some (.ref p),v5,none] ∧ Same H G2 ∧ G2 D = some (.lst (nats w0)) ∧ G2 p = some (.dK (nD (w0.take j)))) ?_ ?_ ?_ ?_⟩
   ·exact ⟨_,rfl,s2,hD2,hp⟩
   ·rintro j σ G2 _ ⟨v5,rfl,_,h,_⟩
    exact aZ.of h
   ·rintro j x σ G2 hx ⟨v5,rfl,s3,qG,hp3⟩
    obtain ⟨r,hr',rfl⟩ := qz hx
    have hj := (List.getElem?_eq_some_iff.mp hr').1
    have hnot : ¬ r ∈ w0.take j := fun z => by
     have := List.take_append_drop j w0
     have h2 := Bh
     rw [← this,nodup_append] at h2
     refine h2.2.2 r z r ?_ rfl
     rw [List.drop_eq_getElem_cons hj]
     have e := (List.getElem?_eq_some_iff.mp hr').2
     rw [e]
     simp
    refine ⟨_,rfl,_,rfl,p,_,rfl,ku.k (k := Sum.inl (r : Int)) hp3 (by rw [yE]; exact cg (by rw [length_take]; have := fO Bh (fun x hx => (yH x hx).lt); omega)),?_⟩
    rw [yD hnot]
    refine ⟨_,rfl,bU s3 hp0,by rw [aw Bi]; exact qG,?_⟩
    rw [take_add_one,hr']
    exact ah
   ·rintro σ G2 ⟨v5,rfl,s3,qG,hp3⟩
    rw [eE,take_length] at hp3
    have Le : Wl ds b w0 w0 := ⟨Bh,Bh,fun x hx => hx,yH,fun r hr => (B2 r).mpr hr⟩
    have Lf : Bg ds b w0 w0 := fun s hs hns => absurd hs hns
    refine ⟨fun mm σ G3 => ∃ (ks ws : List Nat) (v5 v6 : Option V),σ = [some (.ref lr),some (.ref la),some (.int b),some (.ref D),some (.ref p),v5,v6] ∧ Same H G3 ∧ G3 D = some (.lst (nats ws)) ∧ G3 p = some (.dK (nD ks)) ∧ Wl ds b ks ws ∧ Bg ds b ks ws ∧ mm = 2 * (ds.length - ks.length) + ws.length,⟨_,w0,w0,v5,none,rfl,s3,qG,hp3,Le,Lf,rfl⟩,?_⟩
    rintro mm σ G3 ⟨ks,ws,v5',v6,rfl,s4,Lg,WC,hwl,hsh,rfl⟩
    refine ⟨_,rfl,D,_,rfl,.inl (aZ.of Lg),_,_,rfl,rfl,_,rfl,?_⟩
    rw [eE]
    refine cV (fun e => ?_) (fun e => ?_)
    ·have e : (0 : Int) < (ws.length : Int) := of_decide_eq_true e
     obtain ⟨vL,sx,rfl⟩ : ∃ ys x,ws = ys ++ [x] := ⟨_,_,(dropLast_concat_getLast (fun z => by rw [z] at e; simp at e)).symm⟩
     refine ⟨fun σ G4 => ∃ (ks' ws' : List Nat) (v5 v6 : Option V),σ = [some (.ref lr),some (.ref la),some (.int b),some (.ref D),some (.ref p),v5,v6] ∧ Same H G4 ∧ G4 D = some (.lst (nats ws')) ∧ G4 p = some (.dK (nD ks')) ∧ Wl ds b ks' ws' ∧ Bg ds b ks' ws' ∧ 2 * (ds.length - ks'.length) + ws'.length < 2 * (ds.length - ks.length) + (vL ++ [sx]).length,fun σ' H' ⟨ks',ws',v5,v6,a1,a2,a3,a4,a5,a6,a7⟩ => ⟨_,a7,ks',ws',v5,v6,a1,a2,a3,a4,a5,a6,rfl⟩,?_⟩
     have hsx : sx ∈ ks := hwl.sub sx (by simp)
     have hsn : ¬ sx ∈ vL := fun z => by
      have := hwl.wd
      rw [nodup_append] at this
      exact this.2.2 sx z sx (by simp) rfl
     refine ⟨_,rfl,.inl ⟨rfl,_,aZ.of Lg⟩,D,nats (vL ++ [sx]),.int (sx : Int),rfl,rfl,Lg,(by rw [eE,← eZ]; simp [nats]),?_⟩
     have ed : (nats (vL ++ [sx])).dropLast = nats vL := by rw [← eZ]; simp
     rw [ed]
     have s5 : Same H (upd G3 D (.lst (nats vL))) := bU s4 nD'
     have WD : upd G3 D (.lst (nats vL)) D = _ := ah
     have WG : upd G3 D (.lst (nats vL)) p = some (.dK (nD ks)) := by rw [aw (Ne.symm Bi)]; exact WC
     generalize upd G3 D (.lst (nats vL)) = G4 at s5 WD WG ⊢
     have Lh : Wl ds b ks vL := ⟨hwl.nd,by have := hwl.wd; rw [nodup_append] at this; exact this.1,fun x hx => hwl.sub x (by simp [hx]),hwl.need,hwl.base⟩
     obtain ⟨q1,q2,q3⟩ := hA
     have hsl : sx < ds.length := (hwl.need sx hsx).lt
     have has : as[sx]? = some (as[sx]'(by omega)) := List.getElem?_eq_getElem _
     generalize as[sx]'(by omega) = ax at has
     obtain ⟨rs,g1,g2⟩ := q3 sx ax has
     have neaD : ax ≠ D := fun z => by rw [z,nD'] at g1; cases g1
     refine ⟨_,rfl,_,rfl,la,_,_,.ref ax,rfl,rfl,aZ.of (s5 _ _ q1),bJ (j := sx) (by rw [List.getElem?_map,has]; rfl),ax,rfl,⟨_,aZ.of (s5 _ _ g1)⟩,?_⟩
     refine iK (K := K) (a := ax) (xs := nats rs) (fun j σ G5 => ∃ (ks' ws' : List Nat) (v5 : Option V),σ = [some (.ref lr),some (.ref la),some (.int b),some (.ref D),some (.ref p),v5,some (.int (sx : Int))] ∧ Same H G5 ∧ G5 D = some (.lst (nats ws')) ∧ G5 p = some (.dK (nD ks')) ∧ Wl ds b ks' ws' ∧ (∀ x ∈ ks,x ∈ ks') ∧ ¬ sx ∈ ws' ∧ (∀ s ∈ ks',s ≠ sx → ¬ s ∈ ws' → ∀ (r : Nat) d,ds[r]? = some d → jY d b = false → (s : Int) ∈ lN d r → r ∈ ks') ∧ (∀ r ∈ rs.take j,∀ d,ds[r]? = some d → jY d b = false → r ∈ ks') ∧ 2 * (ds.length - ks'.length) + ws'.length ≤ 2 * (ds.length - ks.length) + vL.length) ?_ ?_ ?_ ?_
     ·refine ⟨ks,vL,_,rfl,s5,WD,WG,Lh,fun x hx => hx,hsn,fun s hs hne hnw r d h1 h2 h3 => hsh s hs (fun z => ?_) r d h1 h2 h3,fun r hr => by simp at hr,le_refl _⟩
      rcases mem_append.mp z with z | z
      ·exact hnw z
      ·exact hne (mem_singleton.mp z)
     ·rintro j σ G5 _ ⟨ks',ws',v5,rfl,s6,_⟩
      exact aZ.of (s6 _ _ g1)
     ·rintro j x σ G5 hx ⟨ks',ws',v5,rfl,s6,Ea,Gb,jd,hkk,Bj,yI,vA,Li⟩
      obtain ⟨r,hr',rfl⟩ := qz hx
      obtain ⟨d,hd,hsd⟩ := (g2 r).mp (List.mem_of_getElem? hr')
      have tk : rs.take (j + 1) = rs.take j ++ [r] := by rw [take_add_one,hr']; rfl
      refine ⟨_,rfl,_,rfl,p,_,rfl,jm.k (k := Sum.inl (r : Int)) Gb,_,rfl,?_⟩
      rw [sm]
      by_cases hin : r ∈ ks'
      ·rw [if_pos hin]
       refine jD (by decide) ?_
       refine ⟨ks',ws',_,rfl,s6,Ea,Gb,jd,hkk,Bj,yI,fun r' hr'' d' h1 h2 => ?_,Li⟩
       rw [tk] at hr''
       rcases mem_append.mp hr'' with z | z
       ·exact vA r' z d' h1 h2
       ·rw [mem_singleton.mp z]; exact hin
      ·rw [if_neg hin]
       refine oV (by decide) ?_
       obtain ⟨qs',q,y1,y2,y2',y3⟩ := (hlr.same s6).get hd
       obtain ⟨items,i1,i2,_,i4⟩ := y3.parts
       refine ⟨_,rfl,_,rfl,_,rfl,lr,_,_,_,rfl,rfl,aZ.of y1,y2,q,d.u,items,rfl,i1,i2,fun l ms G6 s7 nl hl hw => ?_⟩
       refine ⟨l,_,rfl,.inl (aZ.of hl),rfl,eY ms,_,rfl,?_⟩
       rw [show (if true = true then !inV (.int b) (ms.map V.int) else inV (.int b) (ms.map V.int)) = !jY d b by rw [if_pos rfl,hZ,nG i2 i4 hw b]]
       have WH := s6.trans s7
       have WK := s7 _ _ Ea
       have WL := s7 _ _ Gb
       refine cV (fun ew => ?_) (fun ew => ?_)
       ·have ew : jY d b = false := by simpa using ew
        have B3 : du ds b r := .later hd ew hsd (hwl.need sx hsx)
        have hnew : ¬ r ∈ ws' := fun z => hin (jd.sub r z)
        have hl1 := jd.len
        have hl2 := jd.Ld
        have hlt : ks'.length < ds.length := by
         have := fO (ms := ks' ++ [r]) (n := ds.length) (by
          rw [nodup_append]
          exact ⟨jd.nd,by simp,fun x hx y hy e => hin (by rw [← mem_singleton.mp hy,← e]; exact hx)⟩) (fun x hx => by
          rcases mem_append.mp hx with z | z
          ·exact (jd.need x z).lt
          ·rw [mem_singleton.mp z]; exact B3.lt)
         rw [length_append,length_singleton] at this
         omega
        refine ⟨_,rfl,_,rfl,p,_,rfl,ku.k (k := Sum.inl (r : Int)) WL (by rw [yE]; exact cg (by omega)),?_⟩
        rw [yD hin]
        have s8 : Same H (upd G6 p (.dK (nD (ks' ++ [r])))) := bU WH hp0
        have Lj : upd G6 p (.dK (nD (ks' ++ [r]))) D = some (.lst (nats ws')) := by rw [aw Bi]; exact WK
        have hp8 : upd G6 p (.dK (nD (ks' ++ [r]))) p = _ := ah
        generalize upd G6 p (.dK (nD (ks' ++ [r]))) = G7 at s8 Lj hp8 ⊢
        refine ⟨_,rfl,.inl ⟨rfl,_,aZ.of Lj⟩,_,rfl,D,_,_,rfl,rfl,Lj,cg (by rw [eE]; omega),?_⟩
        rw [eZ]
        refine ⟨ks' ++ [r],ws' ++ [r],_,rfl,bU s8 nD',ah,by rw [aw (Ne.symm Bi)]; exact hp8,⟨?_,?_,fun x hx => ?_,fun x hx => ?_,fun x hx => by simp [jd.base x hx]⟩,fun x hx => by simp [hkk x hx],fun z => ?_,fun s hs hne hnw r' d' h1 h2 h3 => ?_,fun r' hr'' d' h1 h2 => ?_,by simp; omega⟩
        ·rw [nodup_append]
         exact ⟨jd.nd,by simp,fun x hx y hy e => hin (by rw [← mem_singleton.mp hy,← e]; exact hx)⟩
        ·rw [nodup_append]
         exact ⟨jd.wd,by simp,fun x hx y hy e => hnew (by rw [← mem_singleton.mp hy,← e]; exact hx)⟩
        ·rcases mem_append.mp hx with z | z
         ·simp [jd.sub x z]
         ·simp [mem_singleton.mp z]
        ·rcases mem_append.mp hx with z | z
         ·exact jd.need x z
         ·rw [mem_singleton.mp z]; exact B3
        ·rcases mem_append.mp z with z | z
         ·exact Bj z
         ·exact hin (by rw [← mem_singleton.mp z]; exact hkk sx hsx)
        ·rcases mem_append.mp hs with z | z
         ·have := yI s z hne (fun y => hnw (by simp [y])) r' d' h1 h2 h3
          simp [this]
         ·exact absurd (by rw [mem_singleton.mp z]; simp) hnw
        ·rw [tk] at hr''
         rcases mem_append.mp hr'' with z | z
         ·have := vA r' z d' h1 h2
          simp [this]
         ·simp [mem_singleton.mp z]
       ·refine ⟨ks',ws',_,rfl,WH,WK,WL,jd,hkk,Bj,yI,fun r' hr'' d' h1 h2 => ?_,Li⟩
        rw [tk] at hr''
        rcases mem_append.mp hr'' with z | z
        ·exact vA r' z d' h1 h2
        ·have er := mem_singleton.mp z
         subst er
         rw [hd] at h1
         cases h1
         rw [h2] at ew
         exact absurd rfl ew
     ·rintro σ G5 ⟨ks',ws',v5,rfl,s6,Ea,Gb,jd,hkk,Bj,yI,vA,Li⟩
      rw [eE,take_length] at vA
      refine ⟨ks',ws',_,_,rfl,s6,Ea,Gb,jd,fun s hs hnw r d h1 h2 h3 => ?_,by simp; omega⟩
      by_cases hne : s = sx
      ·subst hne
       exact vA r ((g2 r).mpr ⟨d,h1,h3⟩) d h1 h2
      ·exact yI s hs hne hnw r d h1 h2 h3
    ·have e : ws = [] := by
      cases ws with
      | nil => rfl
      | cons x t => exact absurd (decide_eq_true (by simp; try omega)) e
     subst e
     exact ⟨_,rfl,k p ks G3 s4 hp0 WC (hwl.all hsh)⟩
end
def Gc (cs s : Scope) : Scope := { cs with names := cs.names.map fun (n,k) => if (k == NameKind.free && s.kind == .function && s.names.lookup n == some .cell) then (n,NameKind.cell) else (n,k) }
def yJ (K : Frag) : List V → Hp → VK → Prop := fun xs H Q => ∃ p ys,xs = [.ref p] ∧ ((aZ K H p ys ∧ ∀ l,H l = none → Q (.ref l) (upd H l (.tup ys))) ∨ (bX K H p ys ∧ Q (.ref p) H))
def Lk (ks : List Nat) : List (Key × V) := nD ks
noncomputable def lI (ds : List FR) (b : Int) (r : Nat) : Bool := @decide (du ds b r) (Classical.propDecidable _)
theorem nY {ds : List FR} {b : Int} {r : Nat} : lI ds b r = true ↔ du ds b r := by
 unfold lI
 exact @decide_eq_true_iff _ (Classical.propDecidable _)
noncomputable def dG (ds : List FR) (r : Nat) : List Int := ([0,1,2,3,4,5,6,7] : List Int).filter fun b => !lI ds b r
noncomputable def fQ (ds : List FR) : List (List Int) := (List.range ds.length).map (dG ds)
theorem je (ds : List FR) : (fQ ds).length = ds.length := by unfold fQ; rw [length_map,List.length_range]
theorem Bk {ds : List FR} {r : Nat} (h : r < ds.length) : (fQ ds)[r]? = some (dG ds r) := by
 unfold fQ
 rw [List.getElem?_map,List.getElem?_range h]
 rfl
theorem yK {ds : List FR} {r : Nat} {b : Int} : b ∈ dG ds r ↔ (0 ≤ b ∧ b ≤ 7) ∧ ¬ du ds b r := by
 unfold dG
 rw [List.mem_filter]
 refine and_congr ?_ ?_
 ·constructor
  ·intro h
   simp at h
   omega
  ·intro h
   have : b = 0 ∨ b = 1 ∨ b = 2 ∨ b = 3 ∨ b = 4 ∨ b = 5 ∨ b = 6 ∨ b = 7 := by omega
   simp
   exact this
 ·rw [Bool.not_eq_true',← nY,Bool.not_eq_true]
theorem vB (ds : List FR) (r : Nat) : (∀ b ∈ dG ds r,0 ≤ b ∧ b ≤ 7) ∧ (dG ds r).Pairwise (· ≤ ·) ∧ (dG ds r).Nodup ∧ (dG ds r).length ≤ 8 :=
 ⟨fun b hb => (yK.mp hb).1,(show ([0,1,2,3,4,5,6,7] : List Int).Pairwise (· ≤ ·) by decide).sublist List.filter_sublist,(show ([0,1,2,3,4,5,6,7] : List Int).Nodup by decide).sublist List.filter_sublist,List.length_filter_le _ _⟩
theorem right_of {ds : List FR} {cl : List (List Int)} (h : firstBad ds cl = none) {r : Nat} {d : FR} {c : List Int} (hd : ds[r]? = some d) (hc : cl[r]? = some c) : ∀ b ∈ c,dC d cl r b = true := fun b hb => by
 unfold firstBad at h
 rw [List.find?_eq_none] at h
 have := h r (mem_range.mpr (List.getElem?_eq_some_iff.mp hd).1)
 unfold lq at this
 rw [hd,hc] at this
 cases e : dC d cl r b with
 | true => rfl
 | false => exact absurd (List.any_eq_true.mpr ⟨b,hb,by rw [e]; rfl⟩) this
section
variable {P : Program} {w : World} {K : Frag} {mg : Str → Option Value} {base : Heap}
def yL : Sp := fun vs H Q _ => ∃ (lr : Addr) (ds : List FR),vs = [.ref lr] ∧ eM H lr ds ∧ lu ds ∧ ds.length ≤ 3000 ∧ ∀ (l : Addr) (H' : Hp),Same H H' → H l = none → df H' l (fQ ds) → Q (.ref l) H'
theorem DO : aG ["rows", "ahead", "needing"] ["rows"] (ai iY) := ⟨rfl,rfl,rfl,by decide +kernel,rfl,by decide +kernel,by decide +kernel⟩
def DP : Scope := { kind := .function,names := [(".0",.local),("box",.local),("rows_that_need",.globalImplicit),("ahead",.free),("rows",.free)],isGenerator := false,isCoroutine := false,more := [] }
theorem yM : cH (ai iY) DP ["rows", "ahead", "needing"] ["box", "rows", "ahead"] [none,some 0,some 1] := ⟨rfl,by decide +kernel,by decide +kernel,by decide +kernel,by decide +kernel,by decide +kernel⟩
def yN : Scope := { kind := .function,names := [(".0",.local),("r",.cell),("tuple",.globalImplicit),("ALL_BOXES",.globalImplicit),("needing",.free)],isGenerator := false,isCoroutine := false,more := [] }
theorem yO : j6 (ai iY) yN ["rows", "ahead", "needing"] ["r", "needing"] [none,some 2] "r" := ⟨rfl,fun _ _ => rfl,fun _ => rfl,by decide +kernel,by decide +kernel,by decide +kernel,by decide +kernel,by decide +kernel,by decide +kernel⟩
def DQ : Scope := { kind := .function,names := [(".0",.local),("box",.local),("needing",.free),("r",.free)],isGenerator := false,isCoroutine := false,more := [] }
theorem yP : cH (Gc yN (ai iY)) DQ ["r", "needing"] ["box", "r", "needing"] [none,some 0,some 1] := ⟨rfl,by decide +kernel,by decide +kernel,by decide +kernel,by decide +kernel,by decide +kernel⟩
theorem Bl {f fA fN : Addr} {fd xJ nu : FuncData} (F : cY K "free_boxes" "free_boxes" iY f fd) (T : Txt K w.params mg) (GA : aK P w K mg base bM 4 fA xJ ["rows"] qA) (kA : KI K fA) (bA : Binds K xJ ["rows"] []) (mA : mg "rows_ahead_of" = some (.ref fA)) (GN : aK P w K mg base bM 3 fN nu ["rows", "ahead", "box"] uj) (kN : KI K fN) (bN : Binds K nu ["rows", "ahead", "box"] []) (mN : mg "rows_that_need" = some (.ref fN)) : aK P w K mg base bM 5 f fd ["rows"] yL := by
 refine F.ok DO (fun vs H Q E h => ?_) (fun cdv A outer s H vs Q E hr h => ?_)
 ·obtain ⟨lr,ds,rfl,_⟩ := h
  rfl
 ·obtain ⟨lr,ds,rfl,hR,hP,hn,k⟩ := h
  have KR := hr.mono (show 3 ≤ _ by decide)
  have hu := hr.u 1
  obtain ⟨p8,hp8,Dn⟩ := T.KL
  refine iW (az (aO (bg (i := 1) DO.nd rfl (Or.inr rfl) (aL GA hr (by rfl) mA kA bA .nil aP (ae (pv 0) aj))))
   (az (aO (bg (i := 2) DO.nd rfl (Or.inr rfl) (dW (N' := ["box", "rows", "ahead"]) (fr := [none,some 0,some 1]) yM rfl (iy (dS (v := .ref p8) (by rfl) hp8 rfl)) (fun C s0 H0 fp => (bp (i := 0) yM.nd rfl (Or.inl rfl))) (fun C s0 H0 fp => dn) (fun C s0 H0 fp => (aL GN KR (by rfl) mN kN bN .nil aP (ae (pv 1) (ae (pv 2) (ae (pv 0) aj))))))))
   (bt (aO (aQ (xj (y0 := "r") (N' := ["r", "needing"]) (fr := [none,some 2]) yO rfl (cM rfl T.range (ae (aU aX (by rfl) T.len cX (ae (pv 0) aj)) aj)) (fun C s0 H0 fp => (bp (i := 0) yO.nd rfl (Or.inr rfl))) (fun C s0 H0 fp => dn) (fun C s0 H0 fp => (bK (r := yJ K) eR (by rfl) T.tuple iZ (ae (dW (wi := Cz K (tC (V.ref p8))) (N' := ["box", "r", "needing"]) (fr := [none,some 0,some 1]) yP rfl (iy (dS (v := .ref p8) (by rfl) hp8 rfl)) (fun C s0 H0 fp => (bp (i := 0) yP.nd rfl (Or.inl rfl))) (fun C s0 H0 fp => (iR (qJ (mQ hu (pv 1) (aI (r := wj K) aJ (pv 2) (pv 0) (fun _ _ => rfl)))))) (fun C s0 H0 fp => (pv 0))) aj))))))))) ?_
  refine ⟨_,rfl,lr,ds,rfl,hR,hP,hn,fun la as G1 s1 hA => ?_⟩
  have WM : ∀ (i : Nat) x,(([0,1,2,3,4,5,6,7] : List Int).map V.int)[i]? = some x → x = .int (i : Int) ∧ i < 8 := fun i x h => by
   match i,h with
   | 0,h => cases h; exact ⟨rfl,by decide⟩
   | 1,h => cases h; exact ⟨rfl,by decide⟩
   | 2,h => cases h; exact ⟨rfl,by decide⟩
   | 3,h => cases h; exact ⟨rfl,by decide⟩
   | 4,h => cases h; exact ⟨rfl,by decide⟩
   | 5,h => cases h; exact ⟨rfl,by decide⟩
   | 6,h => cases h; exact ⟨rfl,by decide⟩
   | 7,h => cases h; exact ⟨rfl,by decide⟩
  have Gd := hR.same s1
  refine ⟨p8,rfl,⟨_,Dn _⟩,fun D nD => eV (K := K) (a := p8) (xs := ([0,1,2,3,4,5,6,7] : List Int).map V.int) (fun i σ ys G => ∃ (v : Option V) (es : List Addr),σ = [v,some (.ref lr),some (.ref la)] ∧ ys = es.map V.ref ∧ es.length = i ∧ (∀ (j : Nat) a,es[j]? = some a → ∃ ks,G a = some (.dK (Lk ks)) ∧ ∀ r,r ∈ ks ↔ du ds (j : Int) r) ∧ Same G1 G ∧ G D = some (.lst ys)) ?_ ?_ ?_ ?_⟩
  ·exact ⟨none,[],rfl,rfl,rfl,fun j a h => by simp at h,ao nD,ah⟩
  ·rintro i σ ys G _ ⟨v,es,rfl,rfl,_,_,s2,_⟩
   exact Dn _
  ·rintro i x σ ys G hx ⟨v,es,rfl,rfl,hl,hes,s2,hD⟩
   obtain ⟨rfl,hi⟩ := WM i x hx
   refine ⟨_,rfl,_,rfl,_,rfl,lr,la,as,(i : Int),ds,rfl,Gd.same s2,hA.same s2,hn,fun pd ks G2 s3 np hp hks => ⟨s3 _ _ hD,cg (by rw [length_map]; omega),_,es ++ [pd],rfl,by simp,by simp [hl],fun j a h => ?_,bU (s2.trans s3) nD,ah⟩⟩
   by_cases hj : j < es.length
   ·rw [List.getElem?_append_left hj] at h
    obtain ⟨ks',y1,y2⟩ := hes j a h
    exact ⟨ks',by rw [aw (fun z => by rw [z,hD] at y1; cases y1)]; exact s3 _ _ y1,y2⟩
   ·have h3 := (List.getElem?_eq_some_iff.mp h).1
    rw [length_append,length_singleton] at h3
    have ej : j = es.length := by omega
    subst ej
    rw [show (es ++ [pd])[es.length]? = some pd by simp] at h
    cases h
    rw [hl]
    exact ⟨ks,by rw [aw (fun z => by rw [z,hD] at np; cases np)]; exact hp,hks⟩
  ·rintro σ ys G ⟨v,es,rfl,rfl,hl,hes,s2,hD⟩
   have hl8 : es.length = 8 := hl
   obtain ⟨qs,r1,r2,r3⟩ := Gd.same s2
   have s12 := s1.trans s2
   refine ⟨_,rfl,lr,_,rfl,.inl (aZ.of r1),_,rfl,by rw [length_map]; omega,by rw [length_map]; omega,fun D2 Bm => ?_⟩
   refine ef (n := (((qs.map V.ref).length : Nat) : Int).toNat) (fun i σ ys G2 => ∃ (v : Option V) (ts : List Addr),σ = [v,some (.ref D)] ∧ ys = ts.map V.ref ∧ ts.length = i ∧ (∀ (j : Nat) t,ts[j]? = some t → G2 t = some (.tup ((dG ds j).map V.int))) ∧ Same G G2 ∧ G2 D2 = some (.lst ys)) ?_ ?_ ?_
   ·exact ⟨none,[],rfl,rfl,rfl,fun j a h => by simp at h,ao Bm,ah⟩
   ·rintro i σ ys G2 hi ⟨v,ts,rfl,rfl,hlt,hts,s3,hD2⟩
    have hin : i < ds.length := by
     rw [Int.toNat_natCast,length_map,r2] at hi
     exact hi
    have e0 : (0 : Int) + (i : Int) = (i : Int) := by omega
    rw [e0]
    refine ⟨p8,rfl,⟨_,Dn _⟩,fun D3 WN => eV (K := K) (a := p8) (xs := ([0,1,2,3,4,5,6,7] : List Int).map V.int) (fun j σ zs G3 => ∃ v : Option V,σ = [v,some (.int (i : Int)),some (.ref D)] ∧ zs = ((([0,1,2,3,4,5,6,7] : List Int).take j).filter fun b => !lI ds b i).map V.int ∧ Same G2 G3 ∧ G3 D3 = some (.lst zs)) ?_ ?_ ?_ ?_⟩
    ·exact ⟨none,rfl,rfl,ao WN,ah⟩
    ·rintro j σ zs G3 _ ⟨v,rfl,rfl,_,_⟩
     exact Dn _
    ·rintro j x σ zs G3 hx ⟨v,rfl,rfl,s4,qG⟩
     obtain ⟨rfl,hj⟩ := WM j x hx
     have Ln : es[j]? = some (es[j]'(by omega)) := List.getElem?_eq_getElem _
     generalize es[j]'(by omega) = ej at Ln
     obtain ⟨ks,y1,y2⟩ := hes j ej Ln
     have y3 := s4 _ _ (s3 _ _ y1)
     have h8 : ([0,1,2,3,4,5,6,7] : List Int)[j]? = some (j : Int) := by
      rw [List.getElem?_map] at hx
      obtain ⟨y,hy,e⟩ := map_eq_some_iff.mp hx
      rw [hy]
      exact congrArg some (V.int.inj e)
     have tk : ([0,1,2,3,4,5,6,7] : List Int).take (j + 1) = ([0,1,2,3,4,5,6,7] : List Int).take j ++ [(j : Int)] := by rw [take_add_one,h8]; rfl
     refine ⟨_,rfl,_,rfl,_,rfl,D,_,_,.ref ej,rfl,rfl,aZ.of (s4 _ _ (s3 _ _ hD)),bJ (j := j) (by rw [List.getElem?_map,Ln]; rfl),ej,_,rfl,jm.k (k := Sum.inl (i : Int)) y3,_,rfl,?_⟩
     have hb : (!(cC (Lk ks) (Sum.inl (i : Int))).isSome) = !lI ds (j : Int) i := by
      refine congrArg _ ?_
      unfold Lk
      rw [sm,Bool.eq_iff_iff,nY,← y2 i]
      by_cases z : i ∈ ks
      ·rw [if_pos z]; exact ⟨fun _ => z,fun _ => rfl⟩
      ·rw [if_neg z]; exact ⟨fun y => (by cases y),fun y => absurd y z⟩
     rw [hb]
     refine cV (fun e => ?_) (fun e => ?_)
     ·refine ⟨_,rfl,qG,cg ?_,_,rfl,?_,bU s4 WN,ah⟩
      ·rw [length_map]
       exact le_trans (List.length_filter_le _ _) (by rw [length_take]; simp; omega)
      ·rw [tk,filter_append,map_append,List.filter_cons_of_pos (p := fun b => !lI ds b i) e]
       rfl
     ·refine ⟨_,rfl,?_,s4,qG⟩
      rw [tk,filter_append,List.filter_cons_of_neg (p := fun b => !lI ds b i) e]
      simp
    ·rintro σ zs G3 ⟨v,rfl,rfl,s4,qG⟩
     have qG : G3 D3 = some (.lst ((dG ds i).map V.int)) := qG
     have Ge := s4 _ _ hD2
     refine ⟨D3,_,rfl,.inl ⟨aZ.of qG,fun t nt => ⟨ao nt _ _ Ge,cg (by rw [length_map]; omega),_,ts ++ [t],rfl,by simp,by simp [hlt],fun j a h => ?_,bU (s3.trans (s4.trans (ao nt))) Bm,ah⟩⟩⟩
     by_cases hj : j < ts.length
     ·rw [List.getElem?_append_left hj] at h
      have y1 := hts j a h
      rw [aw (fun z => by rw [z,hD2] at y1; cases y1)]
      exact ao nt _ _ (s4 _ _ y1)
     ·have h3 := (List.getElem?_eq_some_iff.mp h).1
      rw [length_append,length_singleton] at h3
      have ej : j = ts.length := by omega
      subst ej
      rw [show (ts ++ [t])[ts.length]? = some t by simp] at h
      cases h
      rw [aw (fun z => by rw [z,Ge] at nt; cases nt),hlt]
      exact ah
   ·rintro σ ys G2 ⟨v,ts,rfl,rfl,hlt,hts,s3,hD2⟩
    rw [Int.toNat_natCast,length_map,r2] at hlt
    refine k D2 G2 (s12.trans s3) (s12.free Bm) ⟨_,hD2,by rw [length_map,je]; exact hlt,fun i c ms h1 h2 => ?_⟩
    rw [List.getElem?_map] at h1
    obtain ⟨t,ht,rfl⟩ := map_eq_some_iff.mp h1
    have hi := (List.getElem?_eq_some_iff.mp ht).1
    rw [Bk (by omega)] at h2
    cases h2
    obtain ⟨f1,f2,f3,f4⟩ := vB ds i
    exact ⟨t,rfl,hts i t ht,f1,f2,f3,by omega⟩
end
def cZ : Rw → FR
 | .stop => ⟨"stop",[],[]⟩ | .back => ⟨"back",[],[]⟩ | .halt v => ⟨"halt",[v],[]⟩ | .two u b v => ⟨u,[b,v],[]⟩ | .tell b => ⟨"tell",[b],[]⟩
 | .eS u t f => ⟨u,[t,f],[t]⟩ | .zb u b t f => ⟨u,[b,t,f],[t]⟩ | .table b ts => ⟨"table",[b],ts⟩
theorem rw_of {H : Hp} {q : Addr} {d : FR} {n : Int} (h : dR H q d) (hb : tM d) (ht : ∀ t ∈ d.ts,0 ≤ t ∧ t < n) : ∃ r : Rw,ja H q n r ∧ d = cZ r := by
 obtain ⟨u,is,ts⟩ := d
 obtain ⟨⟨o1,o2,o3,o4,o5,o6,o7⟩,hA⟩ := h
 obtain ⟨l,b2,b1⟩ := hb
 simp only at o1 o2 o3 o4 o5 o6 o7 l b2 b1 ht
 have cls := (by decide +kernel : ∀ u ∈ i0,u ∈ (["stop", "back"] : List Str) ∨ u = "halt" ∨ u ∈ ten ∨ u = "tell" ∨ u ∈ eS ∨ u ∈ zb ∨ u = "table") u o1
 have Eb : ¬ u = "table" → H q = some (.tup (.str u :: is.map V.int)) := fun z => by
  rcases hA with ⟨a,_⟩ | ⟨_,a⟩
  ·exact absurd a z
  ·exact a
 rcases cls with hu | rfl | hu | rfl | hu | hu | rfl
 ·have a := (by decide +kernel : ∀ u ∈ (["stop", "back"] : List Str),vI u = 0 ∧ ¬ u = "table" ∧ ¬ u ∈ eS ∧ ¬ u ∈ zb) u hu
  have e1 : is = [] := List.length_eq_zero_iff.mp (l.trans a.1)
  have e2 := o5 a.2.1 a.2.2.1 a.2.2.2
  have hq := Eb a.2.1
  subst e1 e2
  rcases (show u = "stop" ∨ u = "back" by simpa using hu) with rfl | rfl
  ·exact ⟨.stop,hq,rfl⟩
  ·exact ⟨.back,hq,rfl⟩
 ·obtain ⟨v,e1⟩ := List.length_eq_one_iff.mp (l.trans (show vI "halt" = 1 from rfl))
  have e2 := o5 (by decide) (by decide) (by decide)
  have hq := Eb (by decide)
  subst e1 e2
  exact ⟨.halt v,hq,rfl⟩
 ·have a := (by decide +kernel : ∀ u ∈ ten,vI u = 2 ∧ ¬ u = "table" ∧ ¬ u ∈ eS ∧ ¬ u ∈ zb ∧ (u ∈ w1 ∨ u ∈ w2)) u hu
  obtain ⟨b,v,e1⟩ : ∃ b v,is = [b,v] := by
   match is,l.trans a.1 with
   | [b,v],_ => exact ⟨b,v,rfl⟩
  have e2 := o5 a.2.1 a.2.2.1 a.2.2.2.1
  have hq := Eb a.2.1
  subst e1 e2
  refine ⟨.two u b v,⟨hq,hu,?_,fun z => b2 z v (by simp)⟩,rfl⟩
  rcases a.2.2.2.2 with z | z
  ·exact b1 z b _ rfl
  ·exact b2 z b (by simp)
 ·obtain ⟨v,e1⟩ := List.length_eq_one_iff.mp (l.trans (show vI "tell" = 1 from rfl))
  have e2 := o5 (by decide) (by decide) (by decide)
  have hq := Eb (by decide)
  subst e1 e2
  exact ⟨.tell v,⟨hq,b1 (by decide) v _ rfl⟩,rfl⟩
 ·obtain ⟨t,f,e1,e2⟩ := o3 hu
  have hq := Eb ((by decide +kernel : ∀ u ∈ eS,¬ u = "table") u hu)
  subst e1 e2
  exact ⟨.eS u t f,⟨hq,hu,(ht t (by simp)).1,(ht t (by simp)).2⟩,rfl⟩
 ·obtain ⟨b,t,f,e1,e2⟩ := o4 hu
  have a := (by decide +kernel : ∀ u ∈ zb,¬ u = "table" ∧ u ∈ w1) u hu
  have hq := Eb a.1
  subst e1 e2
  exact ⟨.zb u b t f,⟨hq,hu,b1 a.2 b _ rfl,(ht t (by simp)).1,(ht t (by simp)).2⟩,rfl⟩
 ·rcases hA with ⟨_,b,p,e1,h1,h2⟩ | ⟨a,_⟩
  ·simp only at e1 h1 h2
   subst e1
   exact ⟨.table b ts,⟨p,h1,h2,b1 (by decide) b _ rfl,ht⟩,rfl⟩
  ·exact absurd rfl a
def qB (F : List Int) (bs bs' : List Int) : Prop := bs.length = 8 ∧ bs'.length = 8 ∧ ∀ j,Bx j → ¬ j ∈ F → bs.getD j.toNat 0 = bs'.getD j.toNat 0
theorem lJ {bs : List Int} {j b : Int} {x : Int} (h8 : bs.length = 8) (hj : Bx j) (hb : Bx b) : (bs.set b.toNat x).getD j.toNat 0 = if j = b then x else bs.getD j.toNat 0 := by
 have h1 := hb.1
 have h2 := hb.2
 have h3 := hj.1
 rw [List.getD_eq_getElem?_getD,List.getD_eq_getElem?_getD,List.getElem?_set]
 by_cases e : j = b
 ·subst e
  rw [if_pos rfl,if_pos rfl,if_pos (by omega)]
  rfl
 ·rw [if_neg (by omega),if_neg e]
theorem qB.set {F F' bs bs' : List Int} {b x : Int} (A : qB F bs bs') (hb : Bx b) (h : ∀ j ∈ F,j ≠ b → j ∈ F') : qB F' (bs.set b.toNat x) (bs'.set b.toNat x) := by
 refine ⟨by rw [length_set]; exact A.1,by rw [length_set]; exact A.2.1,fun j hj n => ?_⟩
 rw [lJ A.1 hj hb,lJ A.2.1 hj hb]
 by_cases e : j = b
 ·rw [if_pos e,if_pos e]
 ·rw [if_neg e,if_neg e]
  exact A.2.2 j hj fun z => n (h j z e)
theorem qB.go {F F' bs bs' : List Int} (A : qB F bs bs') (h : ∀ j ∈ F,j ∈ F') : qB F' bs bs' := ⟨A.1,A.2.1,fun j hj n => A.2.2 j hj fun z => n (h j z)⟩
section
variable {ds : List FR} {cl : List (List Int)} {h : Nat} {c : List Int} {z : Zt} {bs' : List Int}
theorem onward {d : FR} (R : ∀ b ∈ c,dC d cl h b = true) {s : Nat} {c' : List Int} (hs : ((s : Nat) : Int) ∈ lN d h) (hc : cl[s]? = some c') : ∀ j ∈ c,jY d j = false → j ∈ c' := fun j hj hw => by
 have := R j hj
 unfold dC at this
 rw [hw,Bool.false_or,Bool.and_eq_true] at this
 have h2 := all_eq_true.mp this.2 _ hs
 unfold qo at h2
 rw [Int.toNat_natCast,hc] at h2
 simpa using h2
theorem gU {d : FR} {s : Nat} (n : ¬ (d.u = "call" ∨ d.u ∈ bZ)) (e : (h : Int) + 1 = s) : ((s : Nat) : Int) ∈ lN d h := by
 unfold lN
 rw [if_neg n,← e]
 exact List.mem_append_right _ (mem_singleton.mpr rfl)
theorem sr {d : FR} {t : Int} (ht : t ∈ d.ts) : t ∈ lN d h := by
 unfold lN
 split
 ·exact ht
 ·exact List.mem_append_left _ ht
theorem unread {d : FR} (R : ∀ b ∈ c,dC d cl h b = true) {b : Int} (hn : cz d b = true) : ¬ b ∈ c := fun z => by
 have := R b z
 unfold dC at this
 rw [hn] at this
 cases this
end
def Both (ring : Int → Bool) (r : Rw) (h : Nat) (z : Zt) (bs' : List Int) (cl : List (List Int)) : Prop :=
 ∃ jJ,bf ring r h { z with bs := bs' } = { bf ring r h z with bs := jJ } ∧ (∀ (s : Nat) c',(bf ring r h z).here = .int s → cl[s]? = some c' → qB c' (bf ring r h z).bs jJ) ∧ ((bf ring r h z).here = .non → qB [] (bf ring r h z).bs jJ)
theorem bQ {ring : Int → Bool} {r : Rw} {h : Nat} {z y : Zt} {bs' jJ : List Int} {cl : List (List Int)} {i : Int} (e : bf ring r h z = y) (e' : bf ring r h { z with bs := bs' } = { y with bs := jJ }) (hy : y.here = .int i) (k : ∀ (s : Nat) c',i = s → cl[s]? = some c' → qB c' y.bs jJ) : Both ring r h z bs' cl := by
 refine ⟨jJ,by rw [e,e'],fun s c' a b => ?_,fun a => ?_⟩
 ·rw [e,hy] at a
  rw [e]
  exact k s c' (V.int.inj a) b
 ·rw [e,hy] at a
  cases a
theorem sim {ring : Int → Bool} {r : Rw} {h : Nat} {z : Zt} {bs' c : List Int} {ds : List FR} {cl : List (List Int)} {H : Hp} {q : Addr} {n : Int} (hF : firstBad ds cl = none) (hd : ds[h]? = some (cZ r)) (hc : cl[h]? = some c) (hr : ja H q n r) (A : qB c z.bs bs') : Both ring r h z bs' cl := by
 have R := right_of hF hd hc
 have same : ∀ b,Bx b → cz (cZ r) b = true → bs'.getD b.toNat 0 = z.bx b := fun b hb hn => (A.2.2 b hb (unread R hn)).symm
 have next : ∀ (s : Nat) c',((s : Nat) : Int) ∈ lN (cZ r) h → cl[s]? = some c' → (∀ j,jY (cZ r) j = false) → qB c' z.bs bs' := fun s c' hs hc' hw => A.go fun j hj => onward R hs hc' j hj (hw j)
 have all : (∀ b,cz (cZ r) b = true) → ∀ F,qB F z.bs bs' := fun hn F => A.go fun j hj => absurd hj (unread R (hn j))
 cases r with
 | stop => exact ⟨bs',rfl,(fun s c' a _ => by cases a),fun _ => all (fun b => rfl) _⟩
 | halt v => exact ⟨bs',rfl,(fun s c' a _ => by cases a),fun _ => all (fun b => rfl) _⟩
 | back =>
  have ha := all (fun b => rfl)
  rcases List.eq_nil_or_concat z.pile with e | ⟨r,p,e⟩
  ·refine ⟨bs',?_,fun s c' a _ => ?_,fun _ => ?_⟩
   ·rw [dD (z := z) e,dD (z := { z with bs := bs' }) e]
   ·rw [dD (z := z) e] at a
    cases a
   ·rw [dD (z := z) e]
    exact ha _
  ·have e : z.pile = r ++ [p] := by simpa using e
   refine bQ (jJ := bs') (jb (z := z) e) (jb (z := { z with bs := bs' }) e) rfl fun s c' _ _ => ha _
 | two u b v =>
  obtain ⟨_,hu,hb,h5⟩ := hr
  have hs : ∀ {s : Nat} {u : Str},((h : Int) + 1) = s → ¬ (u = "call" ∨ u ∈ bZ) → ((s : Nat) : Int) ∈ lN ⟨u,[b,v],[]⟩ h := fun {s u} e n => by
   exact gU n e
  rcases (show u = "set" ∨ u = "more" ∨ u = "copy" ∨ u = "add" ∨ u = "less" ∨ u = "load" ∨ u = "keep" ∨ u = "see" ∨ u = "put" ∨ u = "take" by simpa [ten] using hu) with rfl | rfl | rfl | rfl | rfl | rfl | rfl | rfl | rfl | rfl
  ·refine bQ (jJ := bs'.set b.toNat (v)) sh ((sh (z := { z with bs := bs' })).trans ?_) rfl fun s c' e h' => A.set hb fun j hj ne => onward R (hs e (by decide +kernel)) h' j hj (by unfold jY cZ; simp [ne.symm])
   show ({ z with bs := bs'.set b.toNat (v),here := .int ((h : Int) + 1) } : Zt) = _
   rfl
  ·have n0 := same b hb (by unfold cz cZ; simp [fA,fB,fC])
   refine bQ (jJ := bs'.set b.toNat (z.bx b + v)) pe ((pe (z := { z with bs := bs' })).trans ?_) rfl fun s c' e h' => A.set hb fun j hj ne => onward R (hs e (by decide +kernel)) h' j hj (by unfold jY cZ; simp [ne.symm])
   show ({ z with bs := bs'.set b.toNat (bs'.getD b.toNat 0 + v),here := .int ((h : Int) + 1) } : Zt) = _
   rw [n0]
  ·have n1 := same v (h5 (by decide +kernel)) (by unfold cz cZ; simp [fA,fB,fC])
   refine bQ (jJ := bs'.set b.toNat (z.bx v)) ph ((ph (z := { z with bs := bs' })).trans ?_) rfl fun s c' e h' => A.set hb fun j hj ne => onward R (hs e (by decide +kernel)) h' j hj (by unfold jY cZ; simp [ne.symm])
   show ({ z with bs := bs'.set b.toNat (bs'.getD v.toNat 0),here := .int ((h : Int) + 1) } : Zt) = _
   rw [n1]
  ·have n0 := same b hb (by unfold cz cZ; simp [fA,fB,fC])
   have n1 := same v (h5 (by decide +kernel)) (by unfold cz cZ; simp [fA,fB,fC])
   refine bQ (jJ := bs'.set b.toNat (z.bx b + z.bx v)) si ((si (z := { z with bs := bs' })).trans ?_) rfl fun s c' e h' => A.set hb fun j hj ne => onward R (hs e (by decide +kernel)) h' j hj (by unfold jY cZ; simp [ne.symm])
   show ({ z with bs := bs'.set b.toNat (bs'.getD b.toNat 0 + bs'.getD v.toNat 0),here := .int ((h : Int) + 1) } : Zt) = _
   rw [n0,n1]
  ·have n0 := same b hb (by unfold cz cZ; simp [fA,fB,fC])
   have n1 := same v (h5 (by decide +kernel)) (by unfold cz cZ; simp [fA,fB,fC])
   refine bQ (jJ := bs'.set b.toNat (z.bx b - z.bx v)) pj ((pj (z := { z with bs := bs' })).trans ?_) rfl fun s c' e h' => A.set hb fun j hj ne => onward R (hs e (by decide +kernel)) h' j hj (by unfold jY cZ; simp [ne.symm])
   show ({ z with bs := bs'.set b.toNat (bs'.getD b.toNat 0 - bs'.getD v.toNat 0),here := .int ((h : Int) + 1) } : Zt) = _
   rw [n0,n1]
  ·have n1 := same v (h5 (by decide +kernel)) (by unfold cz cZ; simp [fA,fB,fC])
   refine bQ (jJ := bs'.set b.toNat (z.cf (z.bx v))) pq ((pq (z := { z with bs := bs' })).trans ?_) rfl fun s c' e h' => A.set hb fun j hj ne => onward R (hs e (by decide +kernel)) h' j hj (by unfold jY cZ; simp [ne.symm])
   show ({ z with bs := bs'.set b.toNat (z.cf (bs'.getD v.toNat 0)),here := .int ((h : Int) + 1) } : Zt) = _
   rw [n1]
  ·have n0 := same b hb (by unfold cz cZ; simp [fA,fB,fC])
   have n1 := same v (h5 (by decide +kernel)) (by unfold cz cZ; simp [fA,fB,fC])
   refine bQ (jJ := bs') pw ((pw (z := { z with bs := bs' })).trans ?_) rfl fun s c' e h' => next s c' (hs e (by decide +kernel)) h' fun j => rfl
   show ({ z with bs := bs',here := .int ((h : Int) + 1),cf := lW z.cf (bs'.getD b.toNat 0) (bs'.getD v.toNat 0) } : Zt) = _
   rw [n0,n1]
  ·have n0 := same b hb (by unfold cz cZ; simp [fA,fB,fC])
   refine bQ (jJ := bs') sj ((sj (z := { z with bs := bs' })).trans ?_) rfl fun s c' e h' => next s c' (hs e (by decide +kernel)) h' fun j => rfl
   show ({ z with bs := bs',here := .int ((h : Int) + 1),seen := z.seen ++ [(v,bs'.getD b.toNat 0)] } : Zt) = _
   rw [n0]
  ·have n0 := same b hb (by unfold cz cZ; simp [fA,fB,fC])
   refine bQ (jJ := bs') sk ((sk (z := { z with bs := bs' })).trans ?_) rfl fun s c' e h' => next s c' (hs e (by decide +kernel)) h' fun j => rfl
   show ({ z with bs := bs',here := .int ((h : Int) + 1),af := lW z.af v (bs'.getD b.toNat 0) } : Zt) = _
   rw [n0]
  ·refine bQ (jJ := bs'.set b.toNat (z.af v)) pz ((pz (z := { z with bs := bs' })).trans ?_) rfl fun s c' e h' => A.set hb fun j hj ne => onward R (hs e (by decide +kernel)) h' j hj (by unfold jY cZ; simp [ne.symm])
   show ({ z with bs := bs'.set b.toNat (z.af v),here := .int ((h : Int) + 1) } : Zt) = _
   rfl
 | tell b =>
  obtain ⟨_,hb⟩ := hr
  have e1 := same b hb (by unfold cz cZ; simp [fC])
  refine bQ (jJ := bs') rfl (show _ = ({ z with here := .int ((h : Int) + 1),told := z.told ++ [z.bx b],bs := bs' } : Zt) from ?_) rfl fun s c' e h' => next s c' ?_ h' fun j => rfl
  ·show ({ z with bs := bs',here := .int ((h : Int) + 1),told := z.told ++ [bs'.getD b.toNat 0] } : Zt) = _
   rw [e1]
  ·exact gU (d := ⟨"tell",[b],[]⟩) (show ¬ (("tell" : Str) = "call" ∨ ("tell" : Str) ∈ bZ) by decide +kernel) e
 | eS u t f =>
  obtain ⟨_,hu,_,_⟩ := hr
  have hw : ∀ j,jY (cZ (.eS u t f)) j = false := fun j => by
   unfold jY
   show (decide (u ∈ w7) && _) = false
   rw [decide_eq_false ((by decide +kernel : ∀ u ∈ eS,¬ u ∈ w7) u hu),Bool.false_and]
  have ht : ∀ s : Nat,t = s → ((s : Nat) : Int) ∈ lN (cZ (.eS u t f)) h := fun s e => by
   exact sr (d := ⟨u,[t,f],[t]⟩) (mem_singleton.mpr e.symm)
  rcases (show u = "jump" ∨ u = "call" ∨ u = "mark" by simpa [My.eS] using hu) with rfl | rfl | rfl
  ·exact bQ (jJ := bs') pA (pA (z := { z with bs := bs' })) rfl fun s c' e h' => next s c' (ht s e) h' hw
  ·exact bQ (jJ := bs') pC (pC (z := { z with bs := bs' })) rfl fun s c' e h' => next s c' (ht s e) h' hw
  ·cases ek : ring z.k with
   | true => exact bQ (jJ := bs') (lF ek) (lF (z := { z with bs := bs' }) ek) rfl fun s c' e h' => next s c' (ht s e) h' hw
   | false =>
    refine bQ (jJ := bs') (lG ek) (lG (z := { z with bs := bs' }) ek) rfl fun s c' e h' => next s c' ?_ h' hw
    exact gU (d := ⟨"mark",[t,f],[t]⟩) (show ¬ (("mark" : Str) = "call" ∨ ("mark" : Str) ∈ bZ) by decide +kernel) e
 | zb u b t f =>
  obtain ⟨_,hu,hb,_,_⟩ := hr
  have a := (by decide +kernel : ∀ u ∈ zb,u ∈ fC ∧ ¬ u ∈ w7 ∧ ¬ (u = "call" ∨ u ∈ bZ)) u hu
  have hw : ∀ j,jY (cZ (.zb u b t f)) j = false := fun j => by
   unfold jY
   show (decide (u ∈ w7) && _) = false
   rw [decide_eq_false a.2.1,Bool.false_and]
  have e1 := same b hb (by unfold cz cZ; simp [a.1])
  refine bQ (jJ := bs') (i := if (u = "zero" ∧ z.bx b = 0) ∨ (u = "below" ∧ z.bx b < 0) then t else (h : Int) + 1) rfl (show _ = ({ z with here := .int (if (u = "zero" ∧ z.bx b = 0) ∨ (u = "below" ∧ z.bx b < 0) then t else (h : Int) + 1),bs := bs' } : Zt) from ?_) rfl fun s c' e h' => next s c' ?_ h' hw
  ·show ({ z with bs := bs',here := .int (if (u = "zero" ∧ bs'.getD b.toNat 0 = 0) ∨ (u = "below" ∧ bs'.getD b.toNat 0 < 0) then t else (h : Int) + 1) } : Zt) = _
   rw [e1]
  ·split at e
   ·exact sr (d := ⟨u,[b,t,f],[t]⟩) (mem_singleton.mpr e.symm)
   ·exact gU (d := ⟨u,[b,t,f],[t]⟩) a.2.2 e
 | table b ts =>
  obtain ⟨_,_,_,hb,_⟩ := hr
  have e1 := same b hb (by unfold cz cZ; simp [fC])
  refine bQ (jJ := bs') (i := if 0 ≤ z.bx b ∧ z.bx b < ts.length then ts.getD (z.bx b).toNat 0 else (h : Int) + 1) rfl (show _ = ({ z with here := .int (if 0 ≤ z.bx b ∧ z.bx b < ts.length then ts.getD (z.bx b).toNat 0 else (h : Int) + 1),bs := bs' } : Zt) from ?_) rfl fun s c' e h' => next s c' ?_ h' fun j => rfl
  ·show ({ z with bs := bs',here := .int (if 0 ≤ bs'.getD b.toNat 0 ∧ bs'.getD b.toNat 0 < ts.length then ts.getD (bs'.getD b.toNat 0).toNat 0 else (h : Int) + 1) } : Zt) = _
   rw [e1]
  ·split at e
   ·rename_i hh
    refine sr (d := ⟨"table",[b],ts⟩) ?_
    rw [← e,List.getD_eq_getElem?_getD,List.getElem?_eq_getElem (by omega)]
    exact List.getElem_mem _
   ·exact gU (d := ⟨"table",[b],ts⟩) (show ¬ (("table" : Str) = "call" ∨ ("table" : Str) ∈ bZ) by decide +kernel) e
theorem pG : ¬ ("row" : Str) ∈ names := by decide +kernel
theorem nZ : ¬ ("ending" : Str) ∈ names := by decide +kernel
theorem qC : ¬ ("boxes" : Str) ∈ names := by decide +kernel
theorem qD : ¬ ("cells" : Str) ∈ names := by decide +kernel
theorem n9 : ¬ ("asides" : Str) ∈ names := by decide +kernel
theorem uk : ¬ ("told" : Str) ∈ names := by decide +kernel
theorem um : ¬ ("seen" : Str) ∈ names := by decide +kernel
theorem uo : ¬ ("deep" : Str) ∈ names := by decide +kernel
theorem og : ¬ ("passed" : Str) ∈ names := by decide +kernel
theorem uq : ¬ ("step" : Str) ∈ names := by decide +kernel
theorem DR {A : Around} {k : Nat} (hr : cU k A) : A.units + 2 < cLine := Nat.lt_of_le_of_lt (Nat.add_le_add_left (by decide : 2 ≤ 64) _) hr.units
def zi (z : Zt) : Prop := (z.here = .non ∨ ∃ i,z.here = .int i) ∧ ∀ xs,z.how = some xs → ∀ y ∈ xs,rC y
theorem vC (l : List Int) : ∀ z ∈ l.map V.int,rC z := fun z h => by
 obtain ⟨i,_,rfl⟩ := mem_map.mp h
 exact .inr (.inl ⟨i,rfl⟩)
theorem eq_int {H : Hp} (i : Int) : D7 H (.int i) (.int i) := .inl ⟨rfl,.inr (.inl ⟨i,rfl⟩)⟩
theorem Bo {H : Hp} {p q : Addr} {l : List Int} (h1 : H p = some (.lst (l.map V.int))) (h2 : H q = some (.lst (l.map V.int))) : D7 H (.ref p) (.ref q) := .inr (.inr (.inl ⟨p,q,_,rfl,rfl,h1,h2,vC l⟩))
theorem B4 {H : Hp} {p q : Addr} {d e : List (Key × V)} {f : Int → Int} (h1 : H p = some (.dK d)) (h2 : H q = some (.dK e)) (z1 : NZ d f) (z2 : NZ e f) : D7 H (.ref p) (.ref q) := by
 obtain ⟨ka,kb,rfl,rfl,hl,hm⟩ := z1.sub z2
 exact .inr (.inr (.inr (.inr ⟨p,q,ka,kb,rfl,rfl,h1,h2,hl,hm⟩)))
theorem DS {H : Hp} {v w : V} {z : Zt} (hz : zi z) (h1 : jR H v z.how) (h2 : jR H w z.how) : D7 H v w := by
 cases e : z.how with
 | none =>
  rw [e] at h1 h2
  cases h1
  cases h2
  exact .inl ⟨rfl,.inl rfl⟩
 | some xs =>
  rw [e] at h1 h2
  obtain ⟨p,rfl,hp⟩ := h1
  obtain ⟨q,rfl,hq⟩ := h2
  exact .inr (.inl ⟨p,q,xs,rfl,rfl,hp,hq,hz.2 xs e⟩)
theorem Bp {H : Hp} {p q : Addr} {ps qs : List Addr} {sn : List (Int × Int)} (h1 : H p = some (.lst (ps.map V.ref))) (h2 : H q = some (.lst (qs.map V.ref))) (z1 : eC H ps sn) (z2 : eC H qs sn) : D7 H (.ref p) (.ref q) := by
 refine .inr (.inr (.inr (.inl ⟨p,q,_,_,rfl,rfl,h1,h2,by rw [length_map,length_map,z1.1,z2.1],fun i a b ha hb => ?_⟩)))
 rw [List.getElem?_map] at ha hb
 obtain ⟨t,ht,rfl⟩ := map_eq_some_iff.mp ha
 obtain ⟨u,hu,rfl⟩ := map_eq_some_iff.mp hb
 have hi : i < sn.length := by rw [← z1.1]; exact (List.getElem?_eq_some_iff.mp ht).1
 have hc := List.getElem?_eq_getElem hi
 refine ⟨t,u,_,rfl,rfl,z1.2 i t _ ht hc,z2.2 i u _ hu hc,fun y hy => ?_⟩
 rcases (show y = V.int sn[i].1 ∨ y = V.int sn[i].2 by simpa using hy) with rfl | rfl
 ·exact .inr (.inl ⟨_,rfl⟩)
 ·exact .inr (.inl ⟨_,rfl⟩)
theorem eC.same {H H' : Hp} {ps : List Addr} {sn : List (Int × Int)} (h : eC H ps sn) (s : Same H H') : eC H' ps sn := ⟨h.1,fun i p c a b => s _ _ (h.2 i p c a b)⟩
theorem yQ {K : Frag} {H H' : Hp} {a : Addr} {xs : List V} (e : Same H H') (h : bX K H a xs) : bX K H' a xs := by
 rcases h with (h | ⟨o,h⟩) | h
 ·exact .inl (.inl (e _ _ h))
 ·exact .inl (.inr ⟨o,e _ _ h⟩)
 ·exact .inr h
section
variable {P : Program} {w : World} {K : Frag} {mg : Str → Option Value} {base : Heap}
structure Acc (P : Program) (w : World) (K : Frag) (mg : Str → Option Value) (base : Heap) (C : Addr) : Prop where
 T : gE K mg C
 a0 : ∃ (f : Addr) (fd : FuncData),Meth K C "row" f ∧ aK P w K mg base bM 1 f fd ["self"] (sd C) ∧ Binds K fd ["self"] []
 a1 : ∃ (f : Addr) (fd : FuncData),Meth K C "ending" f ∧ aK P w K mg base bM 1 f fd ["self"] (qt C) ∧ Binds K fd ["self"] []
 a2 : ∃ (f : Addr) (fd : FuncData),Meth K C "boxes" f ∧ aK P w K mg base bM 1 f fd ["self"] (ud C) ∧ Binds K fd ["self"] []
 a3 : ∃ (f : Addr) (fd : FuncData),Meth K C "cells" f ∧ aK P w K mg base bM 2 f fd ["self"] (uf C) ∧ Binds K fd ["self"] []
 a4 : ∃ (f : Addr) (fd : FuncData),Meth K C "asides" f ∧ aK P w K mg base bM 2 f fd ["self"] (qv C) ∧ Binds K fd ["self"] []
 a5 : ∃ (f : Addr) (fd : FuncData),Meth K C "told" f ∧ aK P w K mg base bM 1 f fd ["self"] (ym C) ∧ Binds K fd ["self"] []
 a6 : ∃ (f : Addr) (fd : FuncData),Meth K C "seen" f ∧ aK P w K mg base bM 1 f fd ["self"] (yn C) ∧ Binds K fd ["self"] []
 a7 : ∃ (f : Addr) (fd : FuncData),Meth K C "deep" f ∧ aK P w K mg base bM 1 f fd ["self"] (yo C) ∧ Binds K fd ["self"] []
 a8 : ∃ (f : Addr) (fd : FuncData),Meth K C "passed" f ∧ aK P w K mg base bM 1 f fd ["self"] (qu C) ∧ Binds K fd ["self"] []
def yR (C : Addr) : Sp := fun vs H Q _ => ∃ (x y tf : Addr) (m m' : MA) (rows fV : List V) (au cL : List (Key × V)) (B B' : Nat) (z : Zt) (bs' F : List Int),vs = [.ref x,.ref y,.ref tf] ∧ MG C H x m rows au B z ∧ MG C H y m' fV cL B' { z with bs := bs' } ∧ zi z ∧ qB F z.bs bs' ∧ bX K H tf (F.map V.int) ∧ ∀ H',Same H H' → Q (.bl true) H'
theorem su : aG ["_law_one", "_law_other", "_law_free", "_law_first", "_law_second"] ["_law_one", "_law_other", "_law_free"] (ai jQ) := ⟨rfl,rfl,rfl,by decide +kernel,rfl,by decide +kernel,by decide +kernel⟩
def yS : Scope := { kind := .function,names := [(".0",.local),("_law_box",.local),("_law_first",.free),("_law_free",.free),("_law_second",.free)],isGenerator := false,isCoroutine := false,more := [] }
theorem qE : cH (ai jQ) yS ["_law_one", "_law_other", "_law_free", "_law_first", "_law_second"] ["_law_box", "_law_free", "_law_first", "_law_second"] [none,some 2,some 3,some 4] := ⟨rfl,by decide +kernel,by decide +kernel,by decide +kernel,by decide +kernel,by decide +kernel⟩
theorem Bq {f C : Addr} {fd : FuncData} (F : cY K "_law_same" "_law_same" jQ f fd) (T : Txt K w.params mg) (Z : Acc P w K mg base C) : aK P w K mg base bM 3 f fd ["_law_one", "_law_other", "_law_free"] (yR (K := K) C) := by
 obtain ⟨TM,⟨f0,Lp,M0,G0,b0⟩,⟨f1,fd1,M1,G1,b1⟩,⟨f2,fd2,M2,G2,b2⟩,⟨f3,fd3,M3,G3,b3⟩,⟨f4,fd4,M4,G4,b4⟩,⟨f5,fd5,M5,G5,b5⟩,⟨f6,fd6,M6,G6,b6⟩,⟨f7,fd7,M7,G7,b7⟩,⟨f8,fd8,M8,G8,b8⟩⟩ := Z
 refine F.ok su (fun vs H Q E h => ?_) (fun cdv A outer s H vs Q E hr h => ?_)
 ·obtain ⟨x,y,tf,m,m',rows,fV,au,cL,B,B',z,bs',F,rfl,_⟩ := h
  rfl
 ·obtain ⟨x,y,tf,m,m',rows,fV,au,cL,B,B',z,bs',F,rfl,M,MO,hz,hA,hF,k⟩ := h
  have hr1 := hr.mono (show 1 ≤ 2 by decide)
  have hu2 := DR hr
  have hu0 : (A.deeper (PyProof.Rows.envOfC "_law_same" (ai jQ) s.heap.objs.size f cdv)).units < cLine := Nat.lt_of_succ_lt (cJ hr)
  obtain ⟨w0,ho,hw⟩ := M.obj
  obtain ⟨w2,ho2,hw2⟩ := MO.obj
  obtain ⟨z',ez⟩ : ∃ z',z' = { z with bs := bs' } := ⟨_,rfl⟩
  rw [← ez] at MO ho2 hw2
  have zh : z'.here = z.here := by rw [ez]
  have zw : z'.how = z.how := by rw [ez]
  have zt : z'.told = z.told := by rw [ez]
  have zs : z'.seen = z.seen := by rw [ez]
  have zc : z'.cf = z.cf := by rw [ez]
  have za : z'.af = z.af := by rw [ez]
  have zp : z'.pile = z.pile := by rw [ez]
  have zk : z'.k = z.k := by rw [ez]
  have zb : z'.bs = bs' := by rw [ez]
  clear ez
  refine iW (az (dQ (kj (aR (gw hu2) (bq (pv 0) TM.cl M0 G0 hr1 b0 .nil aP) (bq (pv 1) TM.cl M0 G0 hr1 b0 .nil aP) (bh _)) (kh (aR (gw hu2) (bq (pv 0) TM.cl M1 G1 hr1 b1 .nil aP) (bq (pv 1) TM.cl M1 G1 hr1 b1 .nil aP) (bh _)))).pt (bt (aO (aQ fZ))) (cK aW))
   (az (dQ (kj (aR (gw hu2) (bq (pv 0) TM.cl M5 G5 hr1 b5 .nil aP) (bq (pv 1) TM.cl M5 G5 hr1 b5 .nil aP) (bh _)) (kj (aR (gw hu2) (bq (pv 0) TM.cl M6 G6 hr1 b6 .nil aP) (bq (pv 1) TM.cl M6 G6 hr1 b6 .nil aP) (bh _)) (kh (aR (gw hu2) (bq (pv 0) TM.cl M8 G8 hr1 b8 .nil aP) (bq (pv 1) TM.cl M8 G8 hr1 b8 .nil aP) (bh _))))).pt (bt (aO (aQ fZ))) (cK aW))
   (az (dQ (kj (aR (gw hu2) (bq (pv 0) TM.cl M3 G3 hr b3 .nil aP) (bq (pv 1) TM.cl M3 G3 hr b3 .nil aP) (bh _)) (kj (aR (gw hu2) (bq (pv 0) TM.cl M4 G4 hr b4 .nil aP) (bq (pv 1) TM.cl M4 G4 hr b4 .nil aP) (bh _)) (kh (aR (gw hu2) (bq (pv 0) TM.cl M7 G7 hr1 b7 .nil aP) (bq (pv 1) TM.cl M7 G7 hr1 b7 .nil aP) (bh _))))).pt (bt (aO (aQ fZ))) (cK aW))
   (az (aO (bg (i := 3) su.nd rfl (Or.inr rfl) (bq (pv 0) TM.cl M2 G2 hr1 b2 .nil aP)))
   (az (aO (bg (i := 4) su.nd rfl (Or.inr rfl) (bq (pv 1) TM.cl M2 G2 hr1 b2 .nil aP)))
   (bt (aO (aQ (eJ (wN hu0) (dW (N' := ["_law_box", "_law_free", "_law_first", "_law_second"]) (fr := [none,some 2,some 3,some 4]) qE rfl (cM rfl T.range (ae ak aj)) (fun C s0 H0 fp => (bp (i := 0) qE.nd rfl (Or.inl rfl))) (fun C s0 H0 fp => (iR (vO (aR (r := Jf K true) dU (pv 0) (pv 1) rfl) (sC (aR pO (aI (r := wj K) aJ (pv 2) (pv 0) (fun _ _ => rfl)) (aI (r := wj K) aJ (pv 3) (pv 0) (fun _ _ => rfl)) (bh _)))).pt)) (fun C s0 H0 fp => (pv 0))) (ck aj) (bh _)))))))))) ?_
  refine ⟨_,rfl,x,m.dx,_,rfl,ho,eF pG,x,z,B,rfl,⟨m,rows,au,M⟩,_,rfl,y,m'.dx,_,rfl,ho2,eF pG,y,z',B',rfl,⟨m',fV,cL,MO⟩,?_⟩
  rw [zh]
  refine ⟨.inl ⟨rfl,hz.1.imp id .inl⟩,_,rfl,iP ?_⟩
  refine ⟨_,rfl,x,m.dx,_,rfl,ho,eF nZ,x,z,B,rfl,⟨m,rows,au,M⟩,fun v hv => ?_⟩
  refine ⟨_,rfl,y,m'.dx,_,rfl,ho2,eF nZ,y,z',B',rfl,⟨m',fV,cL,MO⟩,fun v2 hv2 => ?_⟩
  rw [zw] at hv2
  refine ⟨DS hz hv hv2,_,rfl,iP ?_⟩
  refine ⟨_,rfl,x,m.dx,_,rfl,ho,eF uk,x,z,B,rfl,⟨m,rows,au,M⟩,fun l1 n1 => ?_⟩
  have s1 := ao (o := .lst (z.told.map V.int)) n1
  have g1 : upd H l1 (.lst (z.told.map V.int)) l1 = _ := ah
  generalize upd H l1 (.lst (z.told.map V.int)) = H1 at s1 g1 ⊢
  refine ⟨_,rfl,y,m'.dx,_,rfl,s1 _ _ ho2,eF uk,y,z',B',rfl,⟨m',fV,cL,MO.same s1⟩,fun l2 n2 => ?_⟩
  rw [zt]
  have s2 := ao (o := .lst (z.told.map V.int)) n2
  have g2 : upd H1 l2 (.lst (z.told.map V.int)) l2 = _ := ah
  generalize upd H1 l2 (.lst (z.told.map V.int)) = H2 at s2 g2 ⊢
  refine ⟨Bo (s2 _ _ g1) g2,_,rfl,iP ?_⟩
  have t2 := s1.trans s2
  clear g1 g2
  refine ⟨_,rfl,x,m.dx,_,rfl,t2 _ _ ho,eF um,x,z,B,rfl,⟨m,rows,au,M.same t2⟩,fun l3 ps hs3 n3 => ?_⟩
  have s3 := ao (o := .lst (ps.map V.ref)) n3
  have g3 : upd H2 l3 (.lst (ps.map V.ref)) l3 = _ := ah
  generalize upd H2 l3 (.lst (ps.map V.ref)) = H3 at s3 g3 ⊢
  have t3 := t2.trans s3
  refine ⟨_,rfl,y,m'.dx,_,rfl,t3 _ _ ho2,eF um,y,z',B',rfl,⟨m',fV,cL,MO.same t3⟩,fun l4 ps2 Lq n4 => ?_⟩
  rw [zs] at Lq
  have s4 := ao (o := .lst (ps2.map V.ref)) n4
  have g4 : upd H3 l4 (.lst (ps2.map V.ref)) l4 = _ := ah
  generalize upd H3 l4 (.lst (ps2.map V.ref)) = H4 at s4 g4 ⊢
  have t4 := t3.trans s4
  refine ⟨Bp (s4 _ _ g3) g4 (hs3.same (s3.trans s4)) (Lq.same s4),_,rfl,iP ?_⟩
  clear g3 g4 hs3 Lq
  refine ⟨_,rfl,x,m.dx,_,rfl,t4 _ _ ho,eF og,x,z,B,rfl,⟨m,rows,au,M.same t4⟩,_,rfl,y,m'.dx,_,rfl,t4 _ _ ho2,eF og,y,z',B',rfl,⟨m',fV,cL,MO.same t4⟩,?_⟩
  rw [zk]
  refine ⟨eq_int _,_,rfl,iP ?_⟩
  refine ⟨_,rfl,x,m.dx,_,rfl,t4 _ _ ho,eF qD,x,z,B,rfl,⟨m,rows,au,M.same t4⟩,fun l5 d5 H5 s5 n5 g5 z5 k5 => ?_⟩
  have t5 := t4.trans s5
  refine ⟨_,rfl,y,m'.dx,_,rfl,t5 _ _ ho2,eF qD,y,z',B',rfl,⟨m',fV,cL,MO.same t5⟩,fun l6 d6 H6 s6 n6 g6 z6 k6 => ?_⟩
  rw [zc] at z6
  refine ⟨B4 (s6 _ _ g5) g6 z5 z6,_,rfl,iP ?_⟩
  have t6 := t5.trans s6
  clear g5 g6 z5 z6
  refine ⟨_,rfl,x,m.dx,_,rfl,t6 _ _ ho,eF n9,x,z,B,rfl,⟨m,rows,au,M.same t6⟩,fun l7 d7 H7 s7 n7 g7 z7 k7 => ?_⟩
  have t7 := t6.trans s7
  refine ⟨_,rfl,y,m'.dx,_,rfl,t7 _ _ ho2,eF n9,y,z',B',rfl,⟨m',fV,cL,MO.same t7⟩,fun l8 d8 H8 s8 n8 g8 z8 k8 => ?_⟩
  rw [za] at z8
  refine ⟨B4 (s8 _ _ g7) g8 z7 z8,_,rfl,iP ?_⟩
  have t8 := t7.trans s8
  clear g7 g8 z7 z8
  refine ⟨_,rfl,x,m.dx,_,rfl,t8 _ _ ho,eF uo,x,z,B,rfl,⟨m,rows,au,M.same t8⟩,_,rfl,y,m'.dx,_,rfl,t8 _ _ ho2,eF uo,y,z',B',rfl,⟨m',fV,cL,MO.same t8⟩,?_⟩
  rw [zp]
  refine ⟨eq_int _,_,rfl,iP ?_⟩
  refine ⟨_,rfl,x,m.dx,_,rfl,t8 _ _ ho,eF qC,x,z,B,rfl,⟨m,rows,au,M.same t8⟩,fun lb nb => ?_⟩
  have s9 := ao (o := .lst (z.bs.map V.int)) nb
  have g9 : upd H8 lb (.lst (z.bs.map V.int)) lb = _ := ah
  generalize upd H8 lb (.lst (z.bs.map V.int)) = H9 at s9 g9 ⊢
  have t9 := t8.trans s9
  refine ⟨_,rfl,y,m'.dx,_,rfl,t9 _ _ ho2,eF qC,y,z',B',rfl,⟨m',fV,cL,MO.same t9⟩,fun lc nc => ?_⟩
  rw [zb]
  have sa := ao (o := .lst (bs'.map V.int)) nc
  have ga : upd H9 lc (.lst (bs'.map V.int)) lc = _ := ah
  have gb := sa _ _ g9
  generalize upd H9 lc (.lst (bs'.map V.int)) = HA at sa ga gb ⊢
  have tA := t9.trans sa
  clear g9 s9 sa
  refine ⟨_,rfl,by decide,by decide,fun D nD => ef (n := 8) (fun i σ ys G => ∃ v : Option V,σ = [v,some (.ref tf),some (.ref lb),some (.ref lc)] ∧ ys = [] ∧ Same HA G ∧ G D = some (.lst [])) ?_ ?_ ?_⟩
  ·exact ⟨none,rfl,rfl,ao nD,ah⟩
  ·rintro i σ ys G hi ⟨v,rfl,rfl,sg,hD⟩
   have e0 : (0 : Int) + (i : Int) = (i : Int) := by omega
   rw [e0]
   have at_of : ∀ {bs : List Int},bs.length = 8 → lM (bs.map V.int) (i : Int) = some (.int (bs.getD i 0)) := fun {bs} h8 => by
    refine bJ (j := i) ?_
    rw [List.getElem?_map,List.getElem?_eq_getElem (by omega),List.getD_eq_getElem?_getD,List.getElem?_eq_getElem (by omega)]
    rfl
   have hF' : bX K G tf (F.map V.int) := yQ (tA.trans sg) hF
   refine ⟨_,rfl,_,rfl,tf,_,rfl,.inr hF',rfl,eY F,_,rfl,?_⟩
   rw [show inV (.int (i : Int)) (F.map V.int) = decide ((i : Int) ∈ F) from hZ _ _]
   by_cases hm : (i : Int) ∈ F
   ·rw [decide_eq_true hm]
    exact iP ⟨_,rfl,rfl,sg,hD⟩
   ·rw [decide_eq_false hm]
    refine EX ?_
    refine ⟨_,rfl,_,rfl,lb,_,_,_,rfl,rfl,aZ.of (sg _ _ gb),at_of hA.1,_,rfl,_,rfl,lc,_,_,_,rfl,rfl,aZ.of (sg _ _ ga),at_of hA.2.1,rfl,_,rfl,?_⟩
    have e := hA.2.2 (i : Int) ⟨by omega,by omega⟩ hm
    rw [Int.toNat_natCast] at e
    rw [e]
    refine jD (by simp) ?_
    exact ⟨_,rfl,rfl,sg,hD⟩
  ·rintro σ ys G ⟨v,rfl,rfl,sg,hD⟩
   refine ⟨le_of_ble_eq_true rfl,fun le ne => ?_⟩
   refine ⟨D,le,[],[],rfl,rfl,aZ.of (jC ne hD),aZ.of ah,(fun i a b h => by simp at h),?_⟩
   exact k _ (tA.trans (sg.trans (ao ne)))
end
def Lr : Option Nat → V
 | none => .non
 | some r => .int (r : Int)
section
variable {P : Program} {w : World} {K : Frag} {mg : Str → Option Value} {base : Heap}
def ur : Sp := fun vs H Q _ => ∃ (lr lc : Addr) (ds : List FR) (cl : List (List Int)),vs = [.ref lr,.ref lc] ∧ eM H lr ds ∧ df H lc cl ∧ cl.length = ds.length ∧ ds.length ≤ 3000 ∧ lu ds ∧ ∀ H',Same H H' → Q (Lr (firstBad ds cl)) H'
theorem B5 : aG ["_law_rows", "_law_claims_here", "e"] ["_law_rows", "_law_claims_here"] (ai jA) := ⟨rfl,rfl,rfl,by decide +kernel,rfl,by decide +kernel,by decide +kernel⟩
theorem yT {f fF bj Yv fI : Addr} {fd WO : FuncData} (F : cY K "_law_asked" "_law_asked" jA f fd) (T : Txt K w.params mg) (cx : fz K bj Yv fI) (Ao : mg "NoFree" = some (.ref bj)) (Yw : exmOne K (.ref bj) (.ref bj) = some true)
  (GF : aK P w K mg base (rK P w) 5 fF WO ["rows", "claims"] (xM bj)) (kF : KI K fF) (bF : Binds K WO ["rows", "claims"] []) (mF : mg "check_free" = some (.ref fF)) : aK P w K mg base bM 6 f fd ["_law_rows", "_law_claims_here"] ur := by
 refine F.ok B5 (fun vs H Q E h => ?_) (fun cdv A outer s H vs Q E hr h => ?_)
 ·obtain ⟨lr,lc,ds,cl,rfl,_⟩ := h
  rfl
 ·obtain ⟨lr,lc,ds,cl,rfl,hR,hC,hl,hn,hP,k⟩ := h
  refine ⟨_,(aH (zY (i := 2) (n := "e") (ae (pv 0) (ae (pv 1) aj)) (by rfl) mF kF GF hr bF .nil rfl rfl rfl rfl (by rfl) Ao B5.nd rfl rfl (fun ea => (ay (aQ (Dg cx (pv 2))))))
   (ay (aQ iw))),?_⟩
  refine ⟨_,rfl,_,rfl,lr,lc,ds,cl,rfl,hR,hC,hl,hn,hP,(fun e H1 s1 => ?_),fun r e H7 d s7 hd => ?_⟩
  ·have kk := k H1 s1
   rw [e] at kk
   exact kk
  ·refine ⟨Yw,fun ea Yx => ?_⟩
   have s8 := ao (o := w8 ea (.ref bj) (some d)) Yx
   refine ⟨_,rfl,ea,d,r,rfl,ah,s8 _ _ hd,?_⟩
   have kk := k _ (s7.trans s8)
   rw [e] at kk
   exact kk
end
def pH (ms : List Int) : Prop := (∀ b ∈ ms,0 ≤ b ∧ b ≤ 7) ∧ ms.Pairwise (· ≤ ·) ∧ ms.Nodup
theorem pH.len {ms : List Int} (h : pH ms) : ms.length ≤ 8 := by
 have := ia (xs := [0,1,2,3,4,5,6,7]) h.2.2 (fun j hj => by have := h.1 j hj; simp; omega)
 simpa using this
theorem pH.sub {ms ns : List Int} (h : pH ms) (s : ns.Sublist ms) : pH ns := ⟨fun b hb => h.1 b (s.subset hb),h.2.1.sublist s,h.2.2.sublist s⟩
theorem pH.good {H : Hp} {ms : List Int} {q : Addr} (h : pH ms) (e : H q = some (.tup (ms.map V.int))) : eB H (.ref q) ms := ⟨q,rfl,e,h.1,h.2.1,h.2.2,by have := h.len; omega⟩
theorem eB.box {H : Hp} {v : V} {ms : List Int} (h : eB H v ms) : pH ms := by
 obtain ⟨q,_,_,a,b,c,_⟩ := h
 exact ⟨a,b,c⟩
def total (cl : List (List Int)) : Nat := (cl.map List.length).sum
theorem oh : ∀ {cl : List (List Int)} {r : Nat} {c c' : List Int},cl[r]? = some c → c'.length + 1 = c.length → total (cl.set r c') + 1 = total cl
 | [],_,_,_,h,_ => by simp at h
 | x :: t,0,c,c',h,hl => by
  simp at h
  subst h
  unfold total
  simp
  omega
 | x :: t,r + 1,c,c',h,hl => by
  have := oh (cl := t) (r := r) (by simpa using h) hl
  unfold total at this ⊢
  rw [List.set_cons_succ,map_cons,sum_cons,map_cons,sum_cons]
  omega
theorem yU {cl : List (List Int)} (h : ∀ c ∈ cl,c.length ≤ 8) : total cl ≤ 8 * cl.length := by
 induction cl with
 | nil => simp [total]
 | cons x t ih =>
  have h1 := h x (by simp)
  have h2 := ih fun c hc => h c (by simp [hc])
  unfold total at h2 ⊢
  simp
  omega
theorem yV {ds : List FR} {cl : List (List Int)} {r : Nat} (h : firstBad ds cl = some r) : r < ds.length ∧ ∀ c,cl[r]? = some c → c ≠ [] := by
 unfold firstBad at h
 rw [List.find?_range_eq_some] at h
 refine ⟨mem_range.mp h.2.1,fun c hc z => ?_⟩
 have h1 := h.1
 unfold lq at h1
 rw [hc,z] at h1
 cases e : ds[r]? with
 | none => rw [e] at h1; cases h1
 | some d => rw [e] at h1; cases h1
theorem vD (ms : List Int) (hne : ms ≠ []) : kn (ms.map V.int) (some 1) none = (ms.drop 1).map V.int ∧ ¬ (HT.dv (ms.map V.int).length 0 (some 1) = 0 ∧ HT.dv (ms.map V.int).length (ms.map V.int).length none = (ms.map V.int).length) := by
 have hp : 0 < ms.length := List.length_pos_iff.mpr hne
 have h1 : HT.dv (ms.map V.int).length 0 (some 1) = min 1 (ms.map V.int).length := HT.oy ..
 have h2 : HT.dv (ms.map V.int).length (ms.map V.int).length none = (ms.map V.int).length := rfl
 unfold kn
 rw [h1,h2,length_map]
 have e1 : min 1 ms.length = 1 := by omega
 refine ⟨?_,by omega⟩
 rw [e1,← map_drop,List.take_of_length_le (by rw [length_map,List.length_drop]; omega)]
theorem lK : ∀ {cl : List (List Int)},total cl = 0 → ∀ c ∈ cl,c.length = 0
 | [],_,c,hc => by simp at hc
 | x :: t,h,c,hc => by
  have h : x.length + total t = 0 := by unfold total at h ⊢; simpa using h
  rcases mem_cons.mp hc with rfl | hc
  ·omega
  ·exact lK (cl := t) (by omega) c hc
theorem sv {ds : List FR} {cl : List (List Int)} (hl : cl.length = ds.length) (h : total cl = 0) : firstBad ds cl = none := by
 cases e : firstBad ds cl with
 | none => rfl
 | some r =>
  obtain ⟨hr,hne⟩ := yV e
  have hc : cl[r]? = some (cl[r]'(by omega)) := List.getElem?_eq_getElem _
  have h0 := hne _ hc
  have hm : cl[r]'(by omega) ∈ cl := List.getElem_mem _
  have hz : (cl[r]'(by omega)).length = 0 := lK h _ hm
  exact absurd (List.length_eq_zero_iff.mp hz) h0
theorem sy {H : Hp} {l : Addr} {cl : List (List Int)} (h : df H l cl) : ∀ c ∈ cl,pH c := fun c hc => by
 obtain ⟨cs,h1,h2,h3⟩ := h
 obtain ⟨i,hi,e⟩ := List.getElem_of_mem hc
 exact (h3 i _ c (List.getElem?_eq_getElem (by omega)) (by rw [List.getElem?_eq_getElem hi,e])).box
section
variable {P : Program} {w : World} {K : Frag} {mg : Str → Option Value} {base : Heap}
def qF : Sp := fun vs H Q _ => ∃ (lr : Addr) (c : Int) (ds : List FR),vs = [.ref lr,.int c] ∧ eM H lr ds ∧ lu ds ∧ 1 ≤ ds.length ∧ ds.length ≤ 1000 ∧ ∀ (l : Addr) (cl : List (List Int)) (H' : Hp),Same H H' → df H' l cl → cl.length = ds.length → firstBad ds cl = none → Q (.ref l) H'
theorem oi : aG ["_law_rows", "_law_cell", "_law_claims_here", "_law_state", "_law_turn", "_law_at"] ["_law_rows", "_law_cell"] (ai eL) := ⟨rfl,rfl,rfl,by decide +kernel,rfl,by decide +kernel,by decide +kernel⟩
def uv : Scope := { kind := .function,names := [(".0",.local),("_law_claim",.local),("tuple",.globalImplicit),("_law_state",.free)],isGenerator := false,isCoroutine := false,more := [] }
theorem uw : cH (ai eL) uv ["_law_rows", "_law_cell", "_law_claims_here", "_law_state", "_law_turn", "_law_at"] ["_law_claim", "_law_state"] [none,some 3] := ⟨rfl,by decide +kernel,by decide +kernel,by decide +kernel,by decide +kernel,by decide +kernel⟩
def Br : Scope := { kind := .function,names := [(".0",.local),("_law_box",.local),("_law_digit",.globalImplicit),("_law_state",.free)],isGenerator := false,isCoroutine := false,more := [] }
theorem ux : cH (Gc uv (ai eL)) Br ["_law_claim", "_law_state"] ["_law_box", "_law_state"] [none,some 1] := ⟨rfl,by decide +kernel,by decide +kernel,by decide +kernel,by decide +kernel,by decide +kernel⟩
theorem vE {f fG fA fB : Addr} {fd xF xJ WQ : FuncData} (F : cY K "_law_claims" "_law_claims" eL f fd) (T : Txt K w.params mg) (GG : aK P w K mg base bM 1 fG xF ["_law_state", "_law_base"] i9) (kG : KI K fG) (bG : Binds K xF ["_law_state", "_law_base"] []) (mG : mg "_law_digit" = some (.ref fG)) (GA : aK P w K mg base bM 6 fA xJ ["_law_rows", "_law_claims_here"] ur) (kA : KI K fA) (bA : Binds K xJ ["_law_rows", "_law_claims_here"] []) (mA : mg "_law_asked" = some (.ref fA)) (GB : aK P w K mg base bM 5 fB WQ ["rows"] yL) (kB : KI K fB) (bB : Binds K WQ ["rows"] []) (mB : mg "free_boxes" = some (.ref fB)) : aK P w K mg base bM 7 f fd ["_law_rows", "_law_cell"] qF := by
 refine F.ok oi (fun vs H Q E h => ?_) (fun cdv A outer s H vs Q E hr h => ?_)
 ·obtain ⟨lr,c,ds,rfl,_⟩ := h
  rfl
 ·obtain ⟨lr,c,ds,rfl,hR,hP,hn1,hn,k⟩ := h
  have hr1 := hr.mono (show 1 ≤ _ by decide)
  have Yy := hr.mono (show 5 ≤ _ by decide)
  refine iW (az (aO (bg (i := 2) oi.nd rfl (Or.inl rfl) (aL GB Yy (by rfl) mB kB bB .nil aP (ae (pv 0) aj))))
   (az (aO (bg (i := 3) oi.nd rfl (Or.inr rfl) (ck (ae (aU (gW rfl) (by rfl) T.max oS (ae ak (ae (aV dk (pv 1) (aV jj ak ak)) aj))) (ae (aV dP (pv 1) ak) (ae ak aj))))))
   (qf (dQ (aR kl (aL GG hr1 (by rfl) mG kG bG .nil aP (ae (pv 3) (ae ak aj))) ak (bh _)) (bt (aO (gX (i := 2) (N' := ["_law_claim", "_law_state"]) (fr := [none,some 3]) oi.nd rfl rfl uw rfl (eG (pv 2)) (fun C s0 H0 fp => (bp (i := 0) uw.nd rfl (Or.inl rfl))) (fun C s0 H0 fp => dn) (fun C s0 H0 fp => (bK (r := yJ K) eR (by rfl) T.tuple iZ (ae (dW (wi := Cz K (Ck 0)) (N' := ["_law_box", "_law_state"]) (fr := [none,some 1]) ux rfl (iy (pv 0)) (fun C s0 H0 fp => (bp (i := 0) ux.nd rfl (Or.inl rfl))) (fun C s0 H0 fp => (iR (aR sG (aL GG hr1 (by rfl) mG kG bG .nil aP (ae (pv 1) (ae ak aj))) ak (bh _)))) (fun C s0 H0 fp => (pv 0))) aj)))))) (cK aW))
   (az (aO (dO PassesOwn.never rfl (cM rfl T.range (ae (aV gi ak (aU aX (by rfl) T.len cX (ae (pv 0) aj))) aj)) (bp (i := 4) oi.nd rfl (Or.inl rfl)) (aH (bg (i := 5) oi.nd rfl (Or.inl rfl) (aL GA hr (by rfl) mA kA bA .nil aP (ae (pv 0) (ae (pv 2) aj))))
   (aH (cI (aR ow (pv 5) iw (bh _)) (ay (aQ (pv 2))) aW)
   (ay (dN (pQ CG (aI aJ (pv 2) (pv 5) (fun _ _ => rfl)) (oz ak) zx) (dM (pv 2) (pv 5) set_list)))))))
   (bt (aO (aQ (pv 2)))))))) ?_
  obtain ⟨qs,r1,r2,r3⟩ := id hR
  refine ⟨_,rfl,lr,ds,rfl,hR,hP,by omega,fun l0 G0 s0 Yz Gf => ?_⟩
  refine ⟨_,rfl,_,_,rfl,rfl,⟨by decide,by decide,by decide⟩,_,_,rfl,rfl,_,_,rfl,_,rfl,_,_,rfl,rfl,cN,gA,fun ls B6 => ?_⟩
  have hls : H ls = none := s0.free B6
  generalize hG : upd G0 ls _ = G1
  have t1 : lO G1 ls := by rw [← hG]; exact ⟨_,_,_,ah⟩
  have Jt : Same G0 G1 := by rw [← hG]; exact ao B6
  have s1 : Same H G1 := s0.trans Jt
  have Wf := Gf.same Jt
  have gC : ∀ (x : Addr) u,G0 x = some u → x ≠ ls := fun x u e => aq e B6
  clear hG
  refine ⟨fun σ G => ∃ (l : Addr) (cl : List (List Int)),σ = [some (.ref lr),some (.int c),some (.ref l),some (.ref ls),none,none] ∧ Same H G ∧ H l = none ∧ df G l cl ∧ cl.length = ds.length,?_,?_⟩
  ·refine ⟨_,rfl,ls,2,rfl,t1,by decide,by decide,fun dd G2 _ _ t2 z2 => ⟨rfl,_,rfl,?_⟩⟩
   have s2 : Same H G2 := aM.of s1 hls z2
   obtain ⟨cs,c1,c2,c3⟩ := id Gf
   have WR : df G2 l0 (fQ ds) := ⟨cs,z2 _ _ (gC _ _ c1) (Jt _ _ c1),c2,fun i x ms g1 g2 => by
    obtain ⟨q,rfl,y1,y2⟩ := c3 i x ms g1 g2
    exact ⟨q,rfl,z2 _ _ (gC _ _ y1) (Jt _ _ y1),y2⟩⟩
   refine cV (fun e => ?_) (fun e => ?_)
   ·obtain ⟨YB,d1,d2,d3⟩ := id WR
    have Jm : l0 ≠ ls := gC _ _ c1
    refine ⟨_,rfl,l0,rfl,⟨_,aZ.of d1⟩,fun D nD => ?_⟩
    have gD := t2.ne nD
    have KZ : H D = none := s2.free nD
    refine gY (K := K) (a := l0) (xs := YB) (fun i σ ys G => ∃ (v : Option V) (cl : List (List Int)),σ = [v,some (.ref ls)] ∧ aM ls G2 G ∧ lO G ls ∧ G D = some (.lst ys) ∧ ys.length = i ∧ cl.length = i ∧ ∀ (j : Nat) x ms,ys[j]? = some x → cl[j]? = some ms → eB G x ms ∧ x ≠ .ref ls ∧ x ≠ .ref D) ?_ ?_ ?_ ?_
    ·exact ⟨none,[],rfl,.same (ao nD),t2.new nD,ah,rfl,rfl,fun j x ms h => by simp at h⟩
    ·rintro i σ ys G _ ⟨v,cl,rfl,x3,_⟩
     exact aZ.of (x3 _ _ Jm d1)
    ·rintro i x σ ys G3 hx ⟨v,cl,rfl,x3,t3,h3,hys,hcl,hg⟩
     have hil := (List.getElem?_eq_some_iff.mp hx).1
     have hmm : (fQ ds)[i]? = some ((fQ ds)[i]'(by omega)) := List.getElem?_eq_getElem _
     have gb := (d3 i _ _ hx hmm).box
     obtain ⟨qx,rfl,Ju,_⟩ := d3 i _ _ hx hmm
     clear hmm
     generalize (fQ ds)[i]'(by omega) = Jv at Ju gb
     have gx : qx ≠ ls := fun z => by
      obtain ⟨_,_,_,YC⟩ := t2
      rw [z,YC] at Ju
      cases Ju
     have Gg := x3 _ _ gx Ju
     refine ⟨_,rfl,qx,rfl,⟨_,bX.of Gg⟩,fun D2 Bm => ?_⟩
     have Ls := t3.ne Bm
     have gDD : D ≠ D2 := fun z => by rw [z,Bm] at h3; cases h3
     refine eV (K := K) (a := qx) (xs := Jv.map V.int) (fun j σ ys G7 => ∃ (v : Option V) (ms : List Int),σ = [v,some (.ref ls)] ∧ ys = ms.map V.int ∧ ms.Sublist (Jv.take j) ∧ aM ls G3 G7 ∧ lO G7 ls ∧ G7 D2 = some (.lst ys)) ?_ ?_ ?_ ?_
     ·exact ⟨none,[],rfl,rfl,List.nil_sublist _,.same (ao Bm),t3.new Bm,ah⟩
     ·rintro j σ ys G7 _ ⟨v,ms,rfl,rfl,_,x7,_,_⟩
      exact bX.of (x7 _ _ gx Gg)
     ·rintro j x σ ys G7 hx ⟨v,ms,rfl,rfl,hsub,x7,t7,hD⟩
      rw [List.getElem?_map] at hx
      obtain ⟨b,hb,rfl⟩ := map_eq_some_iff.mp hx
      have tk : Jv.take (j + 1) = Jv.take j ++ [b] := by rw [take_add_one,hb]; rfl
      refine ⟨_,rfl,ls,8,rfl,t7,by decide,by decide,fun d4 G8 _ _ t8 z8 => ⟨_,_,rfl,rfl,_,rfl,?_⟩⟩
      have x8 := x7.trans z8
      refine cV (fun e => ?_) (fun e => ?_)
      ·refine ⟨_,rfl,z8 _ _ Ls hD,cg (by rw [length_map]; have := hsub.length_le; rw [length_take] at this; have := gb.len; omega),_,ms ++ [b],rfl,by simp,?_,?_,t8.upd Ls,ah⟩
       ·rw [tk]; exact hsub.append (.refl _)
       ·intro cc o h1 h2
        rw [aw (aq h2 Bm)]
        exact x8 _ _ h1 h2
      ·exact ⟨_,ms,rfl,rfl,by rw [tk]; exact hsub.trans (List.sublist_append_left ..),x8,t8,z8 _ _ Ls hD⟩
     ·rintro σ ys2 G7 ⟨v2,ms,rfl,rfl,hsub,x7,t7,hD⟩
      rw [length_map,take_length] at hsub
      refine ⟨D2,_,rfl,.inl ⟨aZ.of hD,fun t nt => ?_⟩⟩
      have h7 := x7 _ _ gD h3
      have gt : t ≠ ls := t7.ne nt
      have WT : t ≠ D := fun z => by rw [z,h7] at nt; cases nt
      have s8 := ao (o := .tup (ms.map V.int)) nt
      have ht : upd G7 t (.tup (ms.map V.int)) t = _ := ah
      have t8 := t7.new (o := .tup (ms.map V.int)) nt
      generalize upd G7 t (.tup (ms.map V.int)) = G8 at s8 ht t8 ⊢
      have h8 := s8 _ _ h7
      refine ⟨h8,cg (by rw [hys]; have := je ds; omega),_,cl ++ [ms],rfl,?_,t8.upd gD,ah,by simp [hys],by simp [hcl],fun j x EZ g1 g2 => ?_⟩
      ·intro cc o h1 h2
       rw [aw (aq h2 nD)]
       exact s8 _ _ (x7 _ _ h1 (x3 _ _ h1 h2))
      by_cases hj : j < ys.length
      ·rw [List.getElem?_append_left hj] at g1
       rw [List.getElem?_append_left (by omega)] at g2
       obtain ⟨⟨q,rfl,y1,y2⟩,y3,y4⟩ := hg j x EZ g1 g2
       have gq : q ≠ ls := fun z => y3 (by rw [z])
       have YD : q ≠ D := fun z => y4 (by rw [z])
       exact ⟨⟨q,rfl,by rw [aw YD]; exact s8 _ _ (x7 _ _ gq y1),y2⟩,y3,y4⟩
      ·have h9 := (List.getElem?_eq_some_iff.mp g1).1
       rw [length_append,length_singleton] at h9
       have ej : j = ys.length := by omega
       subst ej
       rw [show (ys ++ [V.ref t])[ys.length]? = some (V.ref t) by simp] at g1
       cases g1
       rw [show (cl ++ [ms])[ys.length]? = some ms by rw [show ys.length = cl.length by omega]; simp] at g2
       cases g2
       exact ⟨(gb.sub hsub).good (by rw [aw WT]; exact ht),fun z => gt (V.ref.inj z),fun z => WT (V.ref.inj z)⟩
    ·rintro σ ys G3 ⟨v,cl,rfl,x3,t3,h3,hys,hcl,hg⟩
     exact ⟨D,cl,rfl,aM.of s2 hls x3,KZ,⟨ys,h3,by omega,fun i x ms g1 g2 => (hg i x ms g1 g2).1⟩,by have := je ds; omega⟩
   ·exact ⟨l0,_,rfl,s2,Yz,WR,je ds⟩
  ·rintro σ G3 ⟨lc,cl,rfl,s3,Lv,Gf,hcl⟩
   have htot : total cl ≤ 8 * ds.length := by
    have := yU (cl := cl) fun c hc => (sy Gf c hc).len
    rw [hcl] at this
    exact this
   refine ⟨_,rfl,lr,_,rfl,.inl (aZ.of (s3 _ _ r1)),_,_,rfl,rfl,.inl ⟨by decide,by decide⟩,?_⟩
   refine ⟨_,rfl,by show -(2 ^ 62) ≤ 8 * (((qs.map V.ref).length : Nat) : Int); omega,by show 8 * (((qs.map V.ref).length : Nat) : Int) < 2 ^ 62; rw [length_map]; omega,?_⟩
   refine eT (lo := 0) (n := (8 * (((qs.map V.ref).length : Nat) : Int)).toNat) (fun i σ G => ∃ (v4 v5 : Option V) (cl : List (List Int)),σ = [some (.ref lr),some (.int c),some (.ref lc),some (.ref ls),v4,v5] ∧ Same H G ∧ df G lc cl ∧ cl.length = ds.length ∧ total cl + i ≤ 8 * ds.length) ?_ ?_ ?_
   ·exact ⟨_,_,cl,rfl,s3,Gf,hcl,by omega⟩
   ·rintro i σ G4 _ ⟨v4,v5,cl,rfl,s4,hC,hl,ht⟩
    refine ⟨_,rfl,_,rfl,lr,lc,ds,cl,rfl,hR.same s4,hC,hl,by omega,hP,fun G5 s5 => ?_⟩
    have FW := s4.trans s5
    have WU := hC.same s5
    refine ⟨_,rfl,rfl,_,rfl,?_⟩
    cases hb : firstBad ds cl with
    | none =>
     refine oV (by simp [Lr]) ?_
     exact ⟨_,rfl,k lc cl G5 FW WU hl hb⟩
    | some r =>
     refine jD (by simp [Lr]) ?_
     obtain ⟨hr',hne⟩ := yV hb
     obtain ⟨cs,c1,c2,c3⟩ := id WU
     have g1 : cs[r]? = some (cs[r]'(by omega)) := List.getElem?_eq_getElem _
     have g2 : cl[r]? = some (cl[r]'(by omega)) := List.getElem?_eq_getElem _
     generalize cl[r]'(by omega) = mr at g2
     obtain ⟨q,eq,hq,_⟩ := c3 r _ _ g1 g2
     have Lw := (c3 r _ _ g1 g2).box
     rw [eq] at g1
     have hmr := hne mr g2
     have hat : lM cs ((r : Nat) : Int) = some (.ref q) := bJ g1
     obtain ⟨ec,DL⟩ := vD mr hmr
     refine ⟨_,rfl,_,rfl,lc,_,_,.ref q,rfl,rfl,aZ.of c1,hat,?_⟩
     refine ⟨1,rfl,q,_,rfl,bX.of hq,DL,fun tn nn => ?_⟩
     have YF : kn (mr.map V.int) (some 1) none = (mr.drop 1).map V.int := ec
     have s7 := ao (o := .tup ((mr.drop 1).map V.int)) nn
     rw [YF]
     have hn' : upd G5 tn (.tup ((mr.drop 1).map V.int)) tn = _ := ah
     generalize upd G5 tn (.tup ((mr.drop 1).map V.int)) = G7 at s7 hn' ⊢
     have c17 := s7 _ _ c1
     refine ⟨_,rfl,_,rfl,lc,_,_,r,rfl,rfl,c17,ui (by omega),?_⟩
     have YG : tn ≠ lc := fun z => by rw [z,c17] at hn'; cases hn'
     have DT : ∀ (j : Nat) x ms,cs[j]? = some x → cl[j]? = some ms → eB (upd G7 lc (.lst (cs.set r (.ref tn)))) x ms := fun j x ms y1 y2 => by
      obtain ⟨q',rfl,z1,z2⟩ := c3 j x ms y1 y2
      exact ⟨q',rfl,by rw [aw (fun z => by rw [z,c1] at z1; cases z1)]; exact s7 _ _ z1,z2⟩
     have hdl : (mr.drop 1).length + 1 = mr.length := by rw [List.length_drop]; have := List.length_pos_iff.mpr hmr; omega
     have htt := oh g2 hdl
     refine ⟨_,_,cl.set r (mr.drop 1),rfl,bU (FW.trans s7) Lv,⟨_,ah,by simp [c2],fun j x ms y1 y2 => ?_⟩,by simp [hl],by omega⟩
     by_cases hj : j = r
     ·subst hj
      rw [List.getElem?_set_self (by omega)] at y1 y2
      cases y1
      cases y2
      exact (Lw.sub (List.drop_sublist _ _)).good (by rw [aw YG]; exact hn')
     ·rw [List.getElem?_set_ne (Ne.symm hj)] at y1 y2
      exact DT j x ms y1 y2
   ·rintro σ G4 ⟨v4,v5,cl,rfl,s4,hC,hl,ht⟩
    refine ⟨_,rfl,k lc cl G4 s4 hC hl (sv hl ?_)⟩
    rw [length_map,r2] at ht
    omega
end
section
variable {P : Program} {w : World} {K : Frag} {mg : Str → Option Value} {base : Heap}
def Gh : Sp := fun vs H Q _ => ∃ a : Addr,vs = [.ref a] ∧ lO H a ∧ ∀ (v : Int) (H' : Hp),lO H' a → aM a H H' → Q (.int v) H'
theorem Gi : aG ["_law_state", "_law_way"] ["_law_state"] (ai hW) := ⟨rfl,rfl,rfl,by decide +kernel,rfl,by decide +kernel,by decide +kernel⟩
theorem Gj {f fG : Addr} {fd xF : FuncData} (F : cY K "_law_number" "_law_number" hW f fd) (T : Txt K w.params mg) (GG : aK P w K mg base bM 1 fG xF ["_law_state", "_law_base"] i9) (kG : KI K fG) (bG : Binds K xF ["_law_state", "_law_base"] []) (mG : mg "_law_digit" = some (.ref fG)) : aK P w K mg base bM 2 f fd ["_law_state"] Gh := by
 refine F.ok Gi (fun vs H Q E h => ?_) (fun cdv A outer s H vs Q E hr h => ?_)
 ·obtain ⟨a,rfl,_⟩ := h
  rfl
 ·obtain ⟨a,rfl,t0,k⟩ := h
  refine iW (az (aO (bg (i := 1) Gi.nd rfl (Or.inl rfl) (aL GG hr (by rfl) mG kG bG .nil aP (ae (pv 0) (ae ak aj)))))
   (az (dQ (aR kl (pv 1) ak (bh _)) (bt (aO (aQ (aV dz (aV gi (aV gi (aL GG hr (by rfl) mG kG bG .nil aP (ae (pv 0) (ae (aV jj ak ak) aj))) (aV jj ak ak)) (aV dk ak (aV gi ak (aL GG hr (by rfl) mG kG bG .nil aP (ae (pv 0) (ae ak aj)))))) ak)))) (cK aW))
   (bt (aO (aQ (aV dk (aL GG hr (by rfl) mG kG bG .nil aP (ae (pv 0) (ae ak aj))) ak)))))) ?_
  refine ⟨_,rfl,a,4,rfl,t0,by decide,by decide,fun d H1 d0 d1 t1 z1 => ?_⟩
  refine ⟨_,rfl,rfl,_,rfl,?_⟩
  refine cV (fun e => ?_) (fun e => ?_)
  ·refine ⟨_,rfl,_,_,rfl,rfl,⟨by decide,by decide,by decide⟩,a,1000000,rfl,t1,by decide,by decide,fun d2 H2 e0 e1 t2 z2 => ?_⟩
   refine ⟨_,_,rfl,rfl,⟨by decide,by decide,by decide⟩,_,_,rfl,rfl,.inl ⟨by omega,by omega⟩,?_⟩
   refine ⟨_,rfl,a,2,rfl,t2,by decide,by decide,fun d3 H3 f0 f1 t3 z3 => ?_⟩
   refine ⟨_,_,rfl,rfl,.inl ⟨by decide,by decide⟩,_,_,rfl,rfl,_,_,rfl,rfl,.inr ⟨by show -(2 ^ 64) < 1 - 2 * d3; omega,by show 1 - 2 * d3 < 2 ^ 64; omega⟩,_,_,rfl,rfl,?_⟩
   exact k _ _ t3 (z1.trans (z2.trans z3))
  ·refine ⟨_,rfl,a,9,rfl,t1,by decide,by decide,fun d2 H2 _ _ t2 z2 => ⟨_,_,rfl,rfl,k _ _ t2 (z1.trans z2)⟩⟩
end
theorem zi.step {n : Nat} {z : Zt} {ring : Int → Bool} {r : Rw} {h : Int} (S : jG n (bf ring r h z)) (Z : zi z) : zi (bf ring r h z) := by
 refine ⟨S.1.imp id (fun ⟨r,e,_⟩ => ⟨r,e⟩),?_⟩
 have one : ∀ (u : Str) (xs : List V),some [V.str u] = some xs → ∀ y ∈ xs,rC y := fun u xs e y hy => by
  cases e
  rw [mem_singleton.mp hy]
  exact .inr (.inr ⟨u,rfl⟩)
 cases r with
 | stop => exact one "stop"
 | halt v =>
  intro xs e y hy
  cases e
  rcases (show y = .str "halt" ∨ y = .int v by simpa using hy) with rfl | rfl
  ·exact .inr (.inr ⟨_,rfl⟩)
  ·exact .inr (.inl ⟨_,rfl⟩)
 | back =>
  rcases List.eq_nil_or_concat z.pile with e | ⟨r,p,e⟩
  ·rw [dD e]
   exact one "home"
  ·have e : z.pile = r ++ [p] := by simpa using e
   rw [jb e]
   exact Z.2
 | two u b v =>
  simp only [bf]
  split
  ·exact Z.2
  split
  ·exact Z.2
  split
  ·exact Z.2
  ·exact Z.2
 | tell b => exact Z.2
 | eS u t f =>
  simp only [bf]
  split
  ·exact Z.2
  split
  ·exact Z.2
  split
  ·exact Z.2
  ·exact Z.2
 | zb u b t f => exact Z.2
 | table b ts => exact Z.2
def yW (m : MA) (x c : Addr) : Prop := Own m x c ∨ c = m.p1
theorem MG.keep {C y : Addr} {H H' : Hp} {m : MA} {rows : List V} {au : List (Key × V)} {B : Nat} {z : Zt} (M : MG C H y m rows au B z) (e : ∀ c o,yW m y c → H c = some o → H' c = some o) (t : cF H H') : MG C H' y m rows au B z := by
 obtain ⟨w,o1,o2⟩ := M.obj
 obtain ⟨d,c1,c2⟩ := M.cell
 obtain ⟨d',a1,a2⟩ := M.rY
 obtain ⟨ps,s1,s2⟩ := M.seen
 exact ⟨⟨w,e _ _ (.inl (.inl rfl)) o1,o2.tups t⟩,e _ _ (.inr rfl) M.prog,e _ _ (.inl (.inr (.inl rfl))) M.box,M.b8,⟨d,e _ _ (.inl (.inr (.inr (.inl rfl)))) c1,c2⟩,⟨d',e _ _ (.inl (.inr (.inr (.inr (.inl rfl))))) a1,a2⟩,e _ _ (.inl (.inr (.inr (.inr (.inr (.inl rfl)))))) M.rg,e _ _ (.inl (.inr (.inr (.inr (.inr (.inr (.inl rfl))))))) M.told,⟨ps,e _ _ (.inl (.inr (.inr (.inr (.inr (.inr (.inr (.inl rfl)))))))) s1,s2.tups t⟩,e _ _ (.inl (.inr (.inr (.inr (.inr (.inr (.inr (.inr rfl)))))))) M.jZ,M.ap,M.lens,M.big⟩
theorem MG.B7 {C x : Addr} {H : Hp} {m : MA} {rows : List V} {au : List (Key × V)} {B : Nat} {z : Zt} (M : MG C H x m rows au B z) (c : Addr) (h : yW m x c) : ∃ o,H c = some o := by
 obtain ⟨w,o1,o2⟩ := M.obj
 obtain ⟨d,c1,c2⟩ := M.cell
 obtain ⟨d',a1,a2⟩ := M.rY
 obtain ⟨ps,s1,s2⟩ := M.seen
 rcases h with (rfl | rfl | rfl | rfl | rfl | rfl | rfl | rfl) | rfl
 ·exact ⟨_,o1⟩
 ·exact ⟨_,M.box⟩
 ·exact ⟨_,c1⟩
 ·exact ⟨_,a1⟩
 ·exact ⟨_,M.rg⟩
 ·exact ⟨_,M.told⟩
 ·exact ⟨_,s1⟩
 ·exact ⟨_,M.jZ⟩
 ·exact ⟨_,M.prog⟩
theorem DU : bootBuiltins "abs" = some (.builtin "abs") := by decide +kernel
structure Pair (C : Addr) (H : Hp) (x y : Addr) (m m' : MA) (rows : List V) (au cL : List (Key × V)) (B : Nat) (z : Zt) (bs' : List Int) : Prop where
 M : MG C H x m rows au B z
 O : MG C H y m' rows cL B { z with bs := bs' }
 d1 : ∀ c,yW m' y c → ¬ Own m x c
 d2 : ∀ c,yW m x c → ¬ Own m' y c
theorem Pair.same {C : Addr} {H H' : Hp} {x y : Addr} {m m' : MA} {rows : List V} {au cL : List (Key × V)} {B : Nat} {z : Zt} {bs' : List Int} (p : Pair C H x y m m' rows au cL B z bs') (s : Same H H') : Pair C H' x y m m' rows au cL B z bs' := ⟨p.M.same s,p.O.same s,p.d1,p.d2⟩
theorem zi.start {bs : List Int} {cf : Int → Int} : zi (z0 bs cf) := ⟨.inr ⟨0,rfl⟩,fun xs h => by cases h⟩
section
variable {P : Program} {w : World} {K : Frag} {mg : Str → Option Value} {base : Heap}
def uy : Sp := fun vs H Q _ => ∃ (a : Addr) (ns : List Int),vs = [.ref a] ∧ aZ K H a (ns.map V.int) ∧ ns.length ≤ 63 ∧ ∀ H',Q (.bl true) H'
theorem dJ : aG ["_law_script", "_law_rows", "_law_claims_here", "_law_cell", "_law_state", "_law_boxes", "_law_cells", "_law_k", "_law_bells", "_law_others", "_law_box", "_law_one", "_law_other", "_law_turn", "_law_here"] ["_law_script"] (ai jX) := ⟨rfl,rfl,rfl,by decide +kernel,rfl,by decide +kernel,by decide +kernel⟩
def Bs : Scope := { kind := .function,names := [(".0",.local),("_law_box",.local),("_law_number",.globalImplicit),("_law_state",.free)],isGenerator := false,isCoroutine := false,more := [] }
theorem uz : cH (ai jX) Bs ["_law_script", "_law_rows", "_law_claims_here", "_law_cell", "_law_state", "_law_boxes", "_law_cells", "_law_k", "_law_bells", "_law_others", "_law_box", "_law_one", "_law_other", "_law_turn", "_law_here"] ["_law_box", "_law_state"] [none,some 4] := ⟨rfl,by decide +kernel,by decide +kernel,by decide +kernel,by decide +kernel,by decide +kernel⟩
def Bt : Scope := { kind := .function,names := [(".0",.local),("_law_k",.local),("_law_digit",.globalImplicit),("_law_state",.free)],isGenerator := false,isCoroutine := false,more := [] }
theorem uD : cH (ai jX) Bt ["_law_script", "_law_rows", "_law_claims_here", "_law_cell", "_law_state", "_law_boxes", "_law_cells", "_law_k", "_law_bells", "_law_others", "_law_box", "_law_one", "_law_other", "_law_turn", "_law_here"] ["_law_k", "_law_state"] [none,some 4] := ⟨rfl,by decide +kernel,by decide +kernel,by decide +kernel,by decide +kernel,by decide +kernel⟩
theorem DV {f C fP fL fC fN fG fS fI f0 fs : Addr} {fd WV FD BZ nu xF WW FE Lp fds : FuncData} (F : cY K "law" "law" jX f fd) (T : Txt K w.params mg)
  (GP : aK P w K mg base bM 3 fP WV ["_law_script"] (yx (K := K))) (kP : KI K fP) (bP : Binds K WV ["_law_script"] []) (mP : mg "_law_program" = some (.ref fP)) (GL : aK P w K mg base bM 7 fL FD ["_law_rows", "_law_cell"] qF) (kL : KI K fL) (bL : Binds K FD ["_law_rows", "_law_cell"] []) (mL : mg "_law_claims" = some (.ref fL)) (GC : aK P w K mg base bM 1 fC BZ ["_law_script", "_law_k"] (rW (K := K))) (kC : KI K fC) (bC : Binds K BZ ["_law_script", "_law_k"] []) (mC : mg "_law_cell_at" = some (.ref fC)) (GN : aK P w K mg base bM 2 fN nu ["_law_state"] Gh) (kN : KI K fN) (bN : Binds K nu ["_law_state"] []) (mN : mg "_law_number" = some (.ref fN)) (GG : aK P w K mg base bM 1 fG xF ["_law_state", "_law_base"] i9) (kG : KI K fG) (bG : Binds K xF ["_law_state", "_law_base"] []) (mG : mg "_law_digit" = some (.ref fG)) (GS : aK P w K mg base bM 3 fS WW ["_law_one", "_law_other", "_law_free"] (yR (K := K) C)) (kS : KI K fS) (bS : Binds K WW ["_law_one", "_law_other", "_law_free"] []) (mS : mg "_law_same" = some (.ref fS))
  (TM : gE K mg C) (WX : mg "Machine" = some (.ref C)) (Mk : Mk K C fI) (GI : aK P w K mg base bM 1 fI FE ["self", "rows", "boxes", "cells", "bells"] (yi C)) (bI : Binds K FE ["self", "rows", "boxes", "cells", "bells"] [])
  (M0 : Meth K C "row" f0) (G0 : aK P w K mg base bM 1 f0 Lp ["self"] (sd C)) (b0 : Binds K Lp ["self"] [])
  (Ms : Meth K C "step" fs) (Gs : aK P w K mg base bM 3 fs fds ["self"] (yu C)) (WY : Binds K fds ["self"] []) : aK P w K mg base bM 8 f fd ["_law_script"] (uy (K := K)) := by
 refine F.ok dJ (fun vs H Q E h => ?_) (fun cdv A outer s H vs Q E hr h => ?_)
 ·obtain ⟨a,ns,rfl,_⟩ := h
  rfl
 ·obtain ⟨a,ns,rfl,hS,hn,k⟩ := h
  have hu : (A.deeper (PyProof.Rows.envOfC "law" (ai jX) s.heap.objs.size f cdv)).units + 1 < cLine := cJ hr
  have Gk := hr.mono (show 3 ≤ _ by decide)
  have hr2 := hr.mono (show 2 ≤ _ by decide)
  have hr1 := hr.mono (show 1 ≤ _ by decide)
  refine iW (az (aO (bg (i := 1) dJ.nd rfl (Or.inl rfl) (aL GP Gk (by rfl) mP kP bP .nil aP (ae (pv 0) aj))))
   (az (aO (bg (i := 2) dJ.nd rfl (Or.inl rfl) (aL GL hr (by rfl) mL kL bL .nil aP (ae (pv 1) (ae (aL GC hr1 (by rfl) mC kC bC .nil aP (ae (pv 0) (ae ak aj))) aj)))))
   (az (aO (bg (i := 3) dJ.nd rfl (Or.inl rfl) (aL GC hr1 (by rfl) mC kC bC .nil aP (ae (pv 0) (ae ak aj)))))
   (az (aO (bg (i := 4) dJ.nd rfl (Or.inr rfl) (ck (ae (aU (gW rfl) (by rfl) T.max oS (ae ak (ae (aV dk (pv 3) (aV jj ak ak)) aj))) (ae (aV dP (pv 3) ak) (ae ak aj))))))
   (az (aO (gX (i := 5) (N' := ["_law_box", "_law_state"]) (fr := [none,some 4]) dJ.nd rfl rfl uz rfl (cM rfl T.range (ae ak aj)) (fun C s0 H0 fp => (bp (i := 0) uz.nd rfl (Or.inl rfl))) (fun C s0 H0 fp => dn) (fun C s0 H0 fp => (aL GN hr2 (by rfl) mN kN bN .nil aP (ae (pv 1) aj)))))
   (az (aO (bg (i := 6) dJ.nd rfl (Or.inl rfl) gm))
   (az (aO (dO PassesOwn.never rfl (cM rfl T.range (ae ak aj)) (bp (i := 7) dJ.nd rfl (Or.inl rfl)) (ay (fj hu (pv 6) (aV dk (pv 7) ak) (aL GN hr2 (by rfl) mN kN bN .nil aP (ae (pv 4) aj)) rfl))))
   (az (aO (gX (i := 8) (N' := ["_law_k", "_law_state"]) (fr := [none,some 4]) dJ.nd rfl rfl uD rfl (cM rfl T.range (ae ak aj)) (fun C s0 H0 fp => (bp (i := 0) uD.nd rfl (Or.inl rfl))) (fun C s0 H0 fp => (iR (aR kl (aL GG hr1 (by rfl) mG kG bG .nil aP (ae (pv 1) (ae ak aj))) ak (bh _)))) (fun C s0 H0 fp => (pv 0))))
   (az (aO (bg (i := 9) dJ.nd rfl (Or.inl rfl) (bK cu (by rfl) T.list dY (ae (pv 5) aj))))
   (az (aO (bg (i := 3) dJ.nd rfl (Or.inl rfl) (aL GC hr1 (by rfl) mC kC bC .nil aP (ae (pv 0) (ae ak aj)))))
   (az (aO (bg (i := 4) dJ.nd rfl (Or.inr rfl) (ck (ae (aU (gW rfl) (by rfl) T.max oS (ae ak (ae (aV dk (pv 3) (aV jj ak ak)) aj))) (ae (aV dP (pv 3) ak) (ae ak aj))))))
   (az (aO (dO PassesOwn.never rfl (iy (aI aJ (pv 2) ak (fun _ _ => rfl))) (bp (i := 10) dJ.nd rfl (Or.inl rfl)) (ay (dN (aV dz (aV dz (aI aJ (pv 9) (pv 10) (fun _ _ => rfl)) ak) (aU v8 (by rfl) T.abs DU (ae (aL GN hr2 (by rfl) mN kN bN .nil aP (ae (pv 4) aj)) aj))) (dM (pv 9) (pv 10) set_list)))))
   (az (aO (bg (i := 11) dJ.nd rfl (Or.inl rfl) (sL Mk GI hr2 rfl WX bI .nil aP (ae (pv 1) (ae (pv 5) (ae (pv 6) (ae (pv 8) aj)))))))
   (az (aO (bg (i := 12) dJ.nd rfl (Or.inl rfl) (sL Mk GI hr2 rfl WX bI .nil aP (ae (pv 1) (ae (pv 9) (ae (pv 6) (ae (pv 8) aj)))))))
   (az (aO (dO PassesOwn.never rfl (cM rfl T.range (ae ak aj)) (bp (i := 13) dJ.nd rfl (Or.inl rfl)) (aH (bg (i := 14) dJ.nd rfl (Or.inl rfl) (bq (pv 11) TM.cl M0 G0 hr1 b0 .nil aP))
   (aH (cI (aR ow (pv 14) iw (bh _)) (ay (aQ (aL GS Gk (by rfl) mS kS bS .nil aP (ae (pv 11) (ae (pv 12) (ae (cj aj) aj)))))) aW)
   (aH (cI (jg (fc (aL GS Gk (by rfl) mS kS bS .nil aP (ae (pv 11) (ae (pv 12) (ae (aI aJ (pv 2) (pv 14) (fun _ _ => rfl)) aj)))))) (ay (aQ fZ)) aW)
   (aH (cO (bq (pv 11) TM.cl Ms Gs Gk WY .nil aP))
   (aH (cI (aR ow (bq (pv 12) TM.cl M0 G0 hr1 b0 .nil aP) iw (bh _)) (ay (aQ fZ)) aW)
   (ay (cO (bq (pv 12) TM.cl Ms Gs Gk WY .nil aP))))))))))
   (bt (aO (aQ fZ)))))))))))))))))) ?_
  have sq : ∀ {H' : Hp},Same H H' → aZ K H' a (ns.map V.int) := fun e => qw e hS
  refine ⟨_,rfl,a,ns,rfl,hS,hn,fun lr ds H1 s1 nlr hR hP nX Lb n1 n31 => ?_⟩
  refine ⟨_,rfl,_,rfl,a,ns,1,rfl,sq s1,by decide,fun c1 => ?_⟩
  refine ⟨lr,c1,ds,rfl,hR,hP,n1,by omega,fun lc cl H2 s2 hC hcl hF => ?_⟩
  have t2 := s1.trans s2
  refine ⟨_,rfl,a,ns,2,rfl,sq t2,by decide,fun c2 => ?_⟩
  refine ⟨_,rfl,_,_,rfl,rfl,⟨by decide,by decide,by decide⟩,_,_,rfl,rfl,_,_,rfl,_,rfl,_,_,rfl,rfl,cN,gA,fun ls B6 => ?_⟩
  generalize hG : upd H2 ls _ = H3
  have st3 : lO H3 ls := by rw [← hG]; exact ⟨_,_,_,ah⟩
  have s3 : Same H2 H3 := by rw [← hG]; exact ao B6
  clear hG
  refine ⟨_,rfl,by decide,by decide,fun lb nb => ef (n := 8) (fun i σ ys G => ∃ (v : Option V) (bs : List Int),σ = [v,some (.ref ls)] ∧ ys = bs.map V.int ∧ bs.length = i ∧ aM ls H3 G ∧ lO G ls ∧ G lb = some (.lst ys)) ?_ ?_ ?_⟩
  ·exact ⟨none,[],rfl,rfl,rfl,.same (ao nb),st3.new nb,ah⟩
  ·rintro i σ ys G hi ⟨v,bs,rfl,rfl,hl,x4,t4,hD⟩
   have gD : lb ≠ ls := st3.ne nb
   refine ⟨_,rfl,ls,rfl,t4,fun v G5 t5 z5 => ⟨z5 _ _ gD hD,cg (by rw [length_map]; omega),_,bs ++ [v],rfl,by simp,by simp [hl],?_,t5.upd gD,ah⟩⟩
   intro c o h1 h2
   rw [aw (aq h2 nb)]
   exact z5 _ _ h1 (x4 _ _ h1 h2)
  rintro σ ys H4 ⟨v,bs,rfl,rfl,b8,x4,zH,hlb⟩
  have gb : lb ≠ ls := st3.ne nb
  have nlb : H2 lb = none := s3.free nb
  have s4 : Same H2 H4 := aM.of s3 B6 x4
  clear x4 st3 nb s3
  intro ld B8
  have gd : ld ≠ ls := zH.ne B8
  have gdb : ld ≠ lb := fun z => by rw [z,hlb] at B8; cases B8
  have Lx : H2 ld = none := s4.free B8
  refine ⟨_,rfl,by decide,by decide,?_⟩
  refine eT (lo := 0) (n := 4) (fun i σ G => ∃ (v7 : Option V) (d : List (Key × V)) (cf : Int → Int),σ = [some (.ref a),some (.ref lr),some (.ref lc),some (.int c2),some (.ref ls),some (.ref lb),some (.ref ld),v7,none,none,none,none,none,none,none] ∧ Same H2 G ∧ lO G ls ∧ G lb = some (.lst (bs.map V.int)) ∧ G ld = some (.dK d) ∧ Rep d cf ∧ d.length ≤ i) ?_ ?_ ?_
  ·exact ⟨none,[],_,rfl,s4.trans (ao B8),zH.new B8,jC B8 hlb,ah,Rep.nil,le_refl _⟩
  ·rintro i σ G hi ⟨v7,d,cf,rfl,s5,t5,h5,hd,hrep,hdl⟩
   refine ⟨_,rfl,ls,rfl,t5,fun v G6 t6 z6 => ?_⟩
   refine ⟨_,rfl,_,rfl,_,_,rfl,rfl,ld,_,rfl,ku.k (k := Sum.inl ((0 : Int) + (i : Int) - 1)) (z6 _ _ gd hd) (cg (by omega)),?_⟩
   refine ⟨_,_,_,rfl,?_,t6.upd gd,by rw [aw gdb.symm]; exact z6 _ _ gb h5,ah,hrep.put _ _,?_⟩
   ·intro c o e
    rw [aw (aq e Lx)]
    exact z6 _ _ (aq e B6) (s5 _ _ e)
   ·have := cQ d (Sum.inl ((0 : Int) + (i : Int) - 1) : Key) (V.int v)
    omega
  rintro σ H5 ⟨v7,d,cf,rfl,s5,sD,WZ,hd,hrep,hdl⟩
  clear s4 zH hlb B8
  refine ⟨_,rfl,by decide,by decide,fun le ne => ef (n := 6) (fun i σ ys G => ∃ (v : Option V) (bl : List Int),σ = [v,some (.ref ls)] ∧ ys = bl.map V.int ∧ bl.length ≤ i ∧ aM ls H5 G ∧ lO G ls ∧ G le = some (.lst ys)) ?_ ?_ ?_⟩
  ·exact ⟨none,[],rfl,rfl,le_refl _,.same (ao ne),sD.new ne,ah⟩
  ·rintro i σ ys G hi ⟨v,bl,rfl,rfl,hl,x6,t6,hD⟩
   have gD : le ≠ ls := sD.ne ne
   refine ⟨_,rfl,ls,2,rfl,t6,by decide,by decide,fun dd G7 _ _ t7 z7 => ⟨rfl,_,rfl,?_⟩⟩
   have x7 := x6.trans z7
   refine cV (fun e => ?_) (fun e => ?_)
   ·refine ⟨_,rfl,z7 _ _ gD hD,cg (by rw [length_map]; omega),_,bl ++ [(0 : Int) + (i : Int)],rfl,by simp,by simp; omega,?_,t7.upd gD,ah⟩
    intro c o h1 h2
    rw [aw (aq h2 ne)]
    exact x7 _ _ h1 h2
   ·exact ⟨_,bl,rfl,rfl,by omega,x7,t7,z7 _ _ gD hD⟩
  rintro σ ys H6 ⟨v6,bl,rfl,rfl,hbl,x6,YH,hle⟩
  have nle : H2 le = none := s5.free ne
  have s6 : Same H2 H6 := fun c o e => x6 _ _ (aq e B6) (s5 _ _ e)
  have Jw := x6 _ _ gb WZ
  have Ly := x6 _ _ gd hd
  have gle : le ≠ ls := sD.ne ne
  clear x6 sD WZ hd s5 ne
  refine ⟨_,rfl,lb,_,rfl,.inl (aZ.of Jw),fun lo nlo => ?_⟩
  have Lz : H2 lo = none := s6.free nlo
  have s7 := s6.trans (ao (o := .lst (bs.map V.int)) nlo)
  have Jx : upd H6 lo (.lst (bs.map V.int)) lo = _ := ah
  have Jy := jC (o := .lst (bs.map V.int)) nlo Jw
  have Jz := jC (o := .lst (bs.map V.int)) nlo Ly
  have JA := jC (o := .lst (bs.map V.int)) nlo hle
  have YJ : lb ≠ lo := aq Jw nlo
  have YK : ld ≠ lo := aq Ly nlo
  have YL : le ≠ lo := aq hle nlo
  generalize upd H6 lo (.lst (bs.map V.int)) = H7 at s7 Jx Jy Jz JA ⊢
  clear Jw Ly hle YH s6 nlo
  refine ⟨_,rfl,a,ns,3,rfl,sq (t2.trans s7),by decide,fun c3 => ?_⟩
  refine ⟨_,rfl,_,_,rfl,rfl,⟨by decide,by decide,by decide⟩,_,_,rfl,rfl,_,_,rfl,_,rfl,_,_,rfl,rfl,cN,gA,fun lt Ec => ?_⟩
  generalize hG : upd H7 lt _ = H8
  have W0 : lO H8 lt := by rw [← hG]; exact ⟨_,_,_,ah⟩
  have Ed : Same H7 H8 := by rw [← hG]; exact ao Ec
  clear hG
  have s8 := s7.trans Ed
  have LA : H2 lt = none := s7.free Ec
  have got : lo ≠ lt := aq Jx Ec
  have YM : lb ≠ lt := aq Jy Ec
  have YN : ld ≠ lt := aq Jz Ec
  have get : le ≠ lt := aq JA Ec
  obtain ⟨cs,k1,k2,k3⟩ := id hC
  have LB : cs[0]? = some (cs[0]'(by omega)) := List.getElem?_eq_getElem _
  have LC : cl[0]? = some (cl[0]'(by omega)) := List.getElem?_eq_getElem _
  obtain ⟨qc,ec,FC,W1,YQ,YR,YS⟩ := k3 0 _ _ LB LC
  rw [ec] at LB
  generalize hc0 : cl[0]'(by omega) = LD at FC W1 YQ YR YS LC
  clear hc0 ec
  refine ⟨_,rfl,lc,_,_,.ref qc,rfl,rfl,aZ.of (s8 _ _ k1),bJ (j := 0) LB,qc,rfl,⟨_,bX.of (s8 _ _ FC)⟩,?_⟩
  refine zq (xs := LD.map V.int) (fun i σ G => ∃ (v10 : Option V) (os : List Int),σ = [some (.ref a),some (.ref lr),some (.ref lc),some (.int c3),some (.ref lt),some (.ref lb),some (.ref ld),v7,some (.ref le),some (.ref lo),v10,none,none,none,none] ∧ Same H2 G ∧ lO G lt ∧ G lb = some (.lst (bs.map V.int)) ∧ G ld = some (.dK d) ∧ G le = some (.lst (bl.map V.int)) ∧ G lo = some (.lst (os.map V.int)) ∧ qB LD bs os) ?_ ?_ ?_ ?_
  ·exact ⟨none,bs,rfl,s8,W0,Ed _ _ Jy,Ed _ _ Jz,Ed _ _ JA,Ed _ _ Jx,b8,b8,fun _ _ _ => rfl⟩
  ·rintro i σ G _ ⟨v10,os,rfl,s9,_⟩
   exact bX.of (s9 _ _ FC)
  ·rintro i x σ G hx ⟨v10,os,rfl,s9,t9,e1,e2,e3,e4,ag⟩
   rw [List.getElem?_map] at hx
   obtain ⟨b,hb,rfl⟩ := map_eq_some_iff.mp hx
   have hbm : b ∈ LD := List.mem_of_getElem? hb
   have hbx : Bx b := by have := W1 b hbm; exact ⟨this.1,by omega⟩
   have DW : b.toNat < os.length := by have := ag.2.1; have := hbx.1; have := hbx.2; omega
   have hbe : ((b.toNat : Nat) : Int) = b := Int.toNat_of_nonneg hbx.1
   have hat : lM (os.map V.int) b = some (.int (os.getD b.toNat 0)) := by
    have := bJ (xs := os.map V.int) (j := b.toNat) (v := .int (os.getD b.toNat 0)) (by rw [List.getElem?_map,List.getElem?_eq_getElem DW,List.getD_eq_getElem?_getD,List.getElem?_eq_getElem DW]; rfl)
    rwa [hbe] at this
   refine ⟨_,rfl,_,rfl,lo,_,_,.int (os.getD b.toNat 0),rfl,rfl,aZ.of e4,hat,_,_,rfl,rfl,?_⟩
   refine ⟨_,rfl,lt,rfl,t9,fun v G6 t6 z6 => ?_⟩
   refine ⟨v,rfl,_,_,rfl,rfl,?_⟩
   have e4' := z6 _ _ got e4
   refine ⟨_,rfl,_,rfl,lo,_,_,b.toNat,rfl,rfl,e4',(by rw [length_map,← hbe,Int.toNat_natCast]; exact ui DW),?_⟩
   rw [← map_set]
   refine ⟨_,_,rfl,?_,t6.upd got,by rw [aw YJ]; exact z6 _ _ YM e1,by rw [aw YK]; exact z6 _ _ YN e2,by rw [aw YL]; exact z6 _ _ get e3,ah,ag.1,by rw [length_set]; exact ag.2.1,fun j hj nj => ?_⟩
   ·intro c o e
    rw [aw (aq e Lz)]
    exact z6 _ _ (aq e LA) (s9 _ _ e)
   ·rw [lJ ag.2.1 hj hbx,if_neg (fun z => nj (by rw [z]; exact hbm))]
    exact ag.2.2 j hj nj
  rintro σ H9 ⟨v10,os,rfl,s9,st9,YT,W2,W3,YV,ag⟩
  clear s8 Ed s7 Jx Jy Jz JA W0
  obtain ⟨qs,r1,r2,r3⟩ := hR
  have Gm := (s2.trans s9) _ _ r1
  refine ⟨_,rfl,_,rfl,_,rfl,_,rfl,fun x dx nx ndx nex => ?_⟩
  have u1 : ∀ {c o},H9 c = some o → upd (upd H9 dx (.own x)) x (.ins C dx []) c = some o := fun {c o} h => by
   rw [aw (aq h nx),aw (aq h ndx)]
   exact h
  refine ⟨x,dx,lr,lb,ld,le,qs.map V.ref,bs,bl,d,cf,rfl,ah,u1 Gm,u1 YT,b8,u1 W2,hrep,by omega,u1 W3,by omega,fun m au HX Js M SX own => ⟨rfl,?_⟩⟩
  have tX : Same H9 HX := fun c o h => SX _ _ (aq h nx) (u1 h)
  have W4 : ∀ {c o},H9 c = some o → ¬ Own m x c := fun {c o} h g => by
   have := own c (.inl g) (aq h nx)
   rw [u1 h] at this
   cases this
  clear u1 own SX
  refine ⟨_,rfl,_,rfl,_,rfl,_,rfl,fun y dy ny YW ney => ?_⟩
  have u2 : ∀ {c o},HX c = some o → upd (upd HX dy (.own y)) y (.ins C dy []) c = some o := fun {c o} h => by
   rw [aw (aq h ny),aw (aq h YW)]
   exact h
  refine ⟨y,dy,lr,lo,ld,le,qs.map V.ref,os,bl,d,cf,rfl,ah,u2 (tX _ _ Gm),u2 (tX _ _ YV),ag.2.1,u2 (tX _ _ W2),hrep,by omega,u2 (tX _ _ W3),by omega,fun m' cL HY LG O SY own' => ⟨rfl,?_⟩⟩
  have tY : Same HX HY := fun c o h => SY _ _ (aq h ny) (u2 h)
  have JB : ∀ {c o},HX c = some o → ¬ yW m' y c := fun {c o} h g => by
   by_cases e : c = y
   ·rw [e,ny] at h
    cases h
   ·have := own' c g e
    rw [u2 h] at this
    cases this
  clear u2 own' SY
  have Gn : cm cL = cm au := funext fun j => (LG j).trans (Js j).symm
  have P0 : Pair C HY x y m m' (qs.map V.ref) au cL 50 (z0 bs cf) os := ⟨M.same tY,O,fun c h g => by
   obtain ⟨o,ho⟩ := M.B7 c (.inl g)
   exact JB ho h,fun c h g => by
   obtain ⟨o,ho⟩ := M.B7 c h
   exact JB ho (.inl g)⟩
  have YX : ¬ Own m x lc := W4 (s9 _ _ k1)
  have YZ : ¬ Own m' y lc := fun g => JB (tX _ _ (s9 _ _ k1)) (.inl g)
  have W5 : Same H2 HY := s9.trans (tX.trans tY)
  have start : ∀ (r : Nat) c,(z0 bs cf).here = .int r → cl[r]? = some c → qB c (z0 bs cf).bs os := fun r c e hc => by
   have e : (0 : Int) = r := V.int.inj e
   have e : r = 0 := by omega
   rw [e,LC] at hc
   cases hc
   exact ag
  clear M O W4 JB tX tY
  refine ⟨_,rfl,by decide,by decide,?_⟩
  refine eT (lo := 0) (n := 60) (fun i σ G => ∃ (LH LI : Option V) (z : Zt) (bs' : List Int),σ = [some (.ref a),some (.ref lr),some (.ref lc),some (.int c3),some (.ref lt),some (.ref lb),some (.ref ld),v7,some (.ref le),some (.ref lo),v10,some (.ref x),some (.ref y),LH,LI] ∧ Pair C G x y m m' (qs.map V.ref) au cL (50 + i) z bs' ∧ jG ds.length z ∧ zi z ∧ (∀ (r : Nat) c,z.here = .int r → cl[r]? = some c → qB c z.bs bs') ∧ (z.here = .non → qB [] z.bs bs') ∧ cF H2 G ∧ G lc = some (.lst cs)) ?_ ?_ ?_
  ·exact ⟨_,_,_,os,rfl,P0,⟨.inr ⟨0,rfl,by omega⟩,fun p hp => absurd hp (by simp [z0])⟩,zi.start,start,(fun e => by cases e),.of W5,W5 _ _ k1⟩
  ·rintro i σ G hi ⟨LH,LI,z,bs',rfl,Pr,St,Zk,ga,gn,tG,LJ⟩
   obtain ⟨w0,ho,hw⟩ := Pr.M.obj
   refine ⟨_,rfl,x,m.dx,_,rfl,ho,eF pG,x,z,50 + i,rfl,⟨m,_,au,Pr.M⟩,?_⟩
   refine ⟨_,rfl,rfl,_,rfl,?_⟩
   rcases St.1 with hh | ⟨r,hh,hrn⟩
   ·refine oV (by rw [hh]; rfl) ?_
    refine ⟨_,rfl,_,rfl,le_of_ble_eq_true rfl,fun te Y0 => ?_⟩
    have yX := Pr.same (ao (o := .tup []) Y0)
    exact ⟨x,y,te,m,m',_,_,au,cL,_,_,z,bs',[],rfl,yX.M,yX.O,Zk,gn hh,bX.of ah,fun H' _ => k H'⟩
   ·refine jD (by rw [hh]; simp) ?_
    have hqr : qs[r]? = some (qs[r]'(by omega)) := List.getElem?_eq_getElem _
    have hdr : ds[r]? = some (ds[r]'hrn) := List.getElem?_eq_getElem _
    have LK : cs[r]? = some (cs[r]'(by omega)) := List.getElem?_eq_getElem _
    have yZ : cl[r]? = some (cl[r]'(by omega)) := List.getElem?_eq_getElem _
    generalize qs[r]'(by omega) = q at hqr
    generalize hdd : ds[r]'hrn = dr at hdr
    generalize cs[r]'(by omega) = cv at LK
    generalize cl[r]'(by omega) = cr at yZ
    obtain ⟨W6,rfl,LL,_⟩ := k3 r _ _ LK yZ
    have fb := Lb dr (List.mem_of_getElem? hdr)
    obtain ⟨rw,W7,hfr⟩ := rw_of (dR.tups (fun b xs e => tG _ _ (s2 _ _ e)) (r3 r q dr hqr hdr)) fb.1 fb.2
    refine ⟨_,rfl,_,rfl,_,rfl,_,rfl,lc,cs,(r : Int),.ref W6,rfl,hh,aZ.of LJ,bJ LK,?_⟩
    refine ⟨x,y,W6,m,m',_,_,au,cL,_,_,z,bs',cr,rfl,Pr.M,Pr.O,Zk,ga r cr hh yZ,bX.of (tG _ _ LL),fun G2 s2' => ?_⟩
    refine ⟨_,rfl,iP ?_⟩
    have yX := Pr.same s2'
    have ho2 := s2' _ _ ho
    have Bu := W7.tups (.of s2')
    have LM := s2' _ _ LJ
    have Y1 : cF H2 G2 := fun b xs e => s2' _ _ (tG _ _ e)
    clear Pr ho W7 LJ tG hw
    obtain ⟨w0',ho,hw⟩ := yX.M.obj
    have hrow : (qs.map V.ref)[r]? = some (.ref q) := by rw [List.getElem?_map,hqr]; rfl
    refine ⟨_,rfl,x,m.dx,_,rfl,ho,eF uq,x,q,m,_,au,50 + i,z,r,_,rw,rfl,yX.M,by omega,hh,hrow,Bu,fun G3 D5 M3 => ?_⟩
    have LN : cF G2 G3 := fun b xs e => yX.M.tups D5 e
    have O3 := yX.O.keep (fun c o hc h => D5 c o (yX.d1 c hc) h) LN
    obtain ⟨w1',W8,hw3⟩ := O3.obj
    refine ⟨_,rfl,y,m'.dx,_,rfl,W8,eF pG,y,_,50 + i,rfl,⟨m',_,cL,O3⟩,?_⟩
    rw [show ({ z with bs := bs' } : Zt).here = .int r from hh]
    refine ⟨rfl,_,rfl,iP ?_⟩
    refine ⟨_,rfl,y,m'.dx,_,rfl,W8,eF uq,y,q,m',_,cL,50 + i,_,r,_,rw,rfl,O3,by omega,hh,hrow,Bu.tups LN,fun G4 LO O4 => ?_⟩
    have W9 : cF G3 G4 := fun b xs e => O3.tups LO e
    have M4 := M3.keep (fun c o hc h => LO c o (yX.d2 c hc) h) W9
    rw [hfr] at hdr
    obtain ⟨jJ,e2,a1,a2⟩ := sim (ring := cm au) (z := z) (bs' := bs') hF hdr yZ Bu (ga r cr hh yZ)
    rw [Gn,e2] at O4
    have S' : jG ds.length (bf (cm au) rw r z) := St.step hrn Bu fun e => by
     have := nX (cZ rw) (by rw [List.getLast?_eq_getElem?,show ds.length - 1 = r by omega]; exact hdr)
     have ew : (cZ rw).u = rw.word := by cases rw <;> rfl
     rw [← ew]
     exact this
    exact ⟨_,_,_,jJ,rfl,⟨M4,O4,yX.d1,yX.d2⟩,S',zi.step S' Zk,a1,a2,fun b xs e => W9 _ _ (LN _ _ (Y1 _ _ e)),LO _ _ YZ (D5 _ _ YX LM)⟩
  ·rintro σ G ⟨LH,LI,z,bs',rfl,_⟩
   exact k _
end
abbrev Ee : Stmt := inClass (top 3) 0
section
variable {P : Program} {w : World} {K : Frag} {mg : Str → Option Value} {base : Heap}
theorem LP : aG ["self", "at"] ["self", "at"] (ai Ee) := ⟨rfl,rfl,rfl,by decide +kernel,rfl,by decide +kernel,by decide +kernel⟩
theorem Gp {f C R : Addr} {fd : FuncData} (F : cY K "__init__" "NoFree.__init__" Ee f fd) (c : fz K C R f) (hm : mg "RowError" = some (.ref R)) : aK P w K mg base bM 1 f fd ["self", "at"] (w6 C) := by
 refine F.ok LP (fun vs H Q E h => ?_) (fun cdv A outer s H vs Q E hr h => ?_)
 ·obtain ⟨e,i,rfl,_⟩ := h
  rfl
 ·obtain ⟨e,i,rfl,he,hi,k⟩ := h
  refine ⟨_,aH (cO (zR c (by rfl) hm (ae (pv 0) (ae (zQ (pv 1) (by decide)) aj)))) (ay (De c (pv 0) (pv 1) rfl)),?_⟩
  refine ⟨_,rfl,_,rfl,i,rfl,hi,fun u => ⟨e,_,rfl,he,?_⟩⟩
  refine ⟨_,rfl,_,rfl,e,rfl,ah,fun d nd de => ?_⟩
  rw [Fn de]
  rw [aw de] at nd
  exact k d nd de
end
set_option maxHeartbeats 8000000
theorem y9 {α : Type} {p : α → Prop} : ∀ x ∈ ([] : List α),p x := fun x h => absurd h (by simp)
theorem bV {α : Type} {p : α → Prop} {a : α} {l : List α} (h : p a) (t : ∀ x ∈ l,p x) : ∀ x ∈ a :: l,p x := fun x hx => by
 rcases mem_cons.mp hx with rfl | hx
 ·exact h
 ·exact t x hx
theorem all_mk {l : OpenLaw} {w : World} {K : Frag} {h : Heap} {mg : Str → Option Value} {fa f0 f1 f2 f3 f4 f5 f6 f7 f8 f9 LQ f11 LR LS LU LV Gq Gr Gu Gv Gw Gx Gy Gz GH GJ GK GO GQ GU GV GX f32 GY GZ Ha LW LX LY LZ L5 L6 L7 L8 Ma Mb : Addr} (X : K.In h) (G : h.Ns mainGlobals mg) (hfa : mg "law" = some (.ref fa))
  {Y2 Y3 Y4 Y5 Y6 Y7 Y8 Y9 Za Zb Zc Zd Ze Zf Zg Zh Zi Zj Zm Zn Md Mf Mg Mh Mi Mj Ml Mp Mq Mr Mt Mu Mv Mw Mx Mz MB MC MD ME MF MH MI MJ MK ML MN MP MQ MR MS MU MV MW MX MY MZ M9 Nb Nc Nf Ng Nh Ni Nj Nk Nm Nn Np Nq Nr Nt Nu Nv Nw Nx Ny Nz NA NB NC ND NG NH NI NJ NK NM NN NP NQ Hb : Option Addr} {Zo Zq sl2 Zr Zu Zv Zw Zx Zy Zz NR NS NT NU NV NW NX NY N0 N2 N3 N4 N5 N6 N7 N8 N9 Oa Ob Oc Od Oe Og Oh Oi Oj Ol Om Oo Oq Ot Ou Ov Ow Ox Oy : Array (Option Value)} {ZA ZC ZD ZE Xa ZF ZG ZI ZJ ZK Xb ZL ZM ZO C6 ZP Xc ZQ ZR ZS ZU ZV Xd ZW ZX ZY Ku Z0 Xe Z1 Z2 Z3 Kv Z4 Xf Z5 Z6 Z7 Ky Z8 Xg Z9 oc7 kV7 dc7 pm7 Xh ct7 oc8 kV8 dc8 pm8 Xi ct8 oc9 kV9 dc9 pm9 Xj ct9 Oz OB OD OG Hd OI OJ OL OM OO He OQ OS OU OV OW Hf OX OY OZ Pa Pb Hg Pg Ph Pj Pk Pl Hh Pm Pn Pp Pq Pt Hi Pu Pw Px Py Pz Hj PB PD PF PH PJ Hk PK PL PN PR PU Hl PV PX PY PZ P1 Hm P2 P4 P5 P6 P7 Hn P8 P9 Qa Qb Qc Ho Qd Qe Qf Qg Qh Hq Qi Qj Qk Ql Qm Hr Qn Qo Qp Qq Qr Hs Qs Qt Qu Qv Qw Ht Qx Qy Qz QA QB Hu QC QD QE QF QG Hv QH QI QJ QK QL Hw QM QN QO QP QR Hx QS QT QU QV QW Hy QX QY QZ Q0 Q5 Hz Q6 Q7 Q8 Q9 Ra HB Rb Rc Rf Rg Rh HC Ri Rj Rk Rm Rn HD Ro Rp Rq Rr Rt HE Ru Rv Rx Ry Rz HF RA RB RD RE RF HG RG RH RI RJ RK HI RL RM RN RO RP HJ RQ RR RS RT RU HK RV RW RX RY RZ HL R0 Sb Sd Se Sf HM Sg Sh Si Sl Sn HN Sq Sr Ss Sv Sw HP Sx Sy HQ HR HS DX HU : Value}
  (a0 : nsIn K mainGlobals "goes_on" = some (some (.ref f0))) (l0 : K.lookup f0 = some ⟨ZA,Y2,.func (fnOf "goes_on" "goes_on" (aF mZ) (aA mZ) (ai mZ) .none ZC ZD ZE Y3 Xa ZF),Zo⟩) (c0 : codeIn K Xa "goes_on" = true) (k0 : keepIn K (.ref f0) = true)
  (a1 : nsIn K mainGlobals "targets_of" = some (some (.ref f1))) (l1 : K.lookup f1 = some ⟨ZG,Y4,.func (fnOf "targets_of" "targets_of" (aF eW) (aA eW) (ai eW) .none ZI ZJ ZK Y5 Xb ZL),Zq⟩) (c1 : codeIn K Xb "targets_of" = true) (k1 : keepIn K (.ref f1) = true)
  (a2 : nsIn K mainGlobals "ways_of" = some (some (.ref f2))) (l2 : K.lookup f2 = some ⟨ZM,Y6,.func (fnOf "ways_of" "ways_of" (aF ng) (aA ng) (ai ng) .none ZO C6 ZP Y7 Xc ZQ),sl2⟩) (c2 : codeIn K Xc "ways_of" = true) (k2 : keepIn K (.ref f2) = true)
  (a3 : nsIn K mainGlobals "is_whole" = some (some (.ref f3))) (l3 : K.lookup f3 = some ⟨ZR,Y8,.func (fnOf "is_whole" "is_whole" (aF jw) (aA jw) (ai jw) .none ZS ZU ZV Y9 Xd ZW),Zr⟩) (c3 : codeIn K Xd "is_whole" = true) (k3 : keepIn K (.ref f3) = true)
  (a4 : nsIn K mainGlobals "is_number_of" = some (some (.ref f4))) (l4 : K.lookup f4 = some ⟨ZX,Za,.func (fnOf "is_number_of" "is_number_of" (aF u9) (aA u9) (ai u9) .none ZY Ku Z0 Zb Xe Z1),Zu⟩) (c4 : codeIn K Xe "is_number_of" = true) (k4 : keepIn K (.ref f4) = true)
  (a5 : nsIn K mainGlobals "reads_of" = some (some (.ref f5))) (l5 : K.lookup f5 = some ⟨Z2,Zc,.func (fnOf "reads_of" "reads_of" (aF iC) (aA iC) (ai iC) .none Z3 Kv Z4 Zd Xf Z5),Zv⟩) (c5 : codeIn K Xf "reads_of" = true) (k5 : keepIn K (.ref f5) = true)
  (a6 : nsIn K mainGlobals "writes_of" = some (some (.ref f6))) (l6 : K.lookup f6 = some ⟨Z6,Ze,.func (fnOf "writes_of" "writes_of" (aF hV) (aA hV) (ai hV) .none Z7 Ky Z8 Zf Xg Z9),Zw⟩) (c6 : codeIn K Xg "writes_of" = true) (k6 : keepIn K (.ref f6) = true)
  (a7 : nsIn K mainGlobals "needs_at_once" = some (some (.ref f7))) (l7 : K.lookup f7 = some ⟨oc7,Zg,.func (fnOf "needs_at_once" "needs_at_once" (aF jx) (aA jx) (ai jx) .none kV7 dc7 pm7 Zh Xh ct7),Zx⟩) (c7 : codeIn K Xh "needs_at_once" = true) (k7 : keepIn K (.ref f7) = true)
  (a8 : nsIn K mainGlobals "ways_ahead" = some (some (.ref f8))) (l8 : K.lookup f8 = some ⟨oc8,Zi,.func (fnOf "ways_ahead" "ways_ahead" (aF jy) (aA jy) (ai jy) .none kV8 dc8 pm8 Zj Xi ct8),Zy⟩) (c8 : codeIn K Xi "ways_ahead" = true) (k8 : keepIn K (.ref f8) = true)
  (a9 : nsIn K mainGlobals "is_claim" = some (some (.ref f9))) (l9 : K.lookup f9 = some ⟨oc9,Zm,.func (fnOf "is_claim" "is_claim" (aF fH) (aA fH) (ai fH) .none kV9 dc9 pm9 Zn Xj ct9),Zz⟩) (c9 : codeIn K Xj "is_claim" = true) (k9 : keepIn K (.ref f9) = true)
  (a10 : nsIn K mainGlobals "is_right" = some (some (.ref LQ))) (l10 : K.lookup LQ = some ⟨Oz,Md,.func (fnOf "is_right" "is_right" (aF iE) (aA iE) (ai iE) .none OB OD OG Mf Hd OI),NR⟩) (c10 : codeIn K Hd "is_right" = true) (k10 : keepIn K (.ref LQ) = true)
  (a11 : nsIn K mainGlobals "check_free" = some (some (.ref f11))) (l11 : K.lookup f11 = some ⟨OJ,Mg,.func (fnOf "check_free" "check_free" (aF jP) (aA jP) (ai jP) .none OL OM OO Mh He OQ),NS⟩) (c11 : codeIn K He "check_free" = true) (k11 : keepIn K (.ref f11) = true)
  (a12 : nsIn K mainGlobals "rows_ahead_of" = some (some (.ref LR))) (l12 : K.lookup LR = some ⟨OS,Mi,.func (fnOf "rows_ahead_of" "rows_ahead_of" (aF fJ) (aA fJ) (ai fJ) .none OU OV OW Mj Hf OX),NT⟩) (c12 : codeIn K Hf "rows_ahead_of" = true) (k12 : keepIn K (.ref LR) = true)
  (a13 : nsIn K mainGlobals "rows_that_need" = some (some (.ref LS))) (l13 : K.lookup LS = some ⟨OY,Ml,.func (fnOf "rows_that_need" "rows_that_need" (aF iF) (aA iF) (ai iF) .none OZ Pa Pb Mp Hg Pg),NU⟩) (c13 : codeIn K Hg "rows_that_need" = true) (k13 : keepIn K (.ref LS) = true)
  (a14 : nsIn K mainGlobals "free_boxes" = some (some (.ref LU))) (l14 : K.lookup LU = some ⟨Ph,Mq,.func (fnOf "free_boxes" "free_boxes" (aF iY) (aA iY) (ai iY) .none Pj Pk Pl Mr Hh Pm),NV⟩) (c14 : codeIn K Hh "free_boxes" = true) (k14 : keepIn K (.ref LU) = true)
  (a15 : nsIn K mainGlobals "end" = some (some (.ref LV))) (l15 : K.lookup LV = some ⟨Pn,Mt,.func (fnOf "end" "end" (aF vo) (aA vo) (ai vo) .none Pp Pq Pt Mu Hi Pu),NW⟩) (c15 : codeIn K Hi "end" = true) (k15 : keepIn K (.ref LV) = true)
  (a16 : nsIn K mainGlobals "do_stop" = some (some (.ref Gq))) (l16 : K.lookup Gq = some ⟨Pw,Mv,.func (fnOf "do_stop" "do_stop" (aF gF) (aA gF) (ai gF) .none Px Py Pz Mw Hj PB),NX⟩) (c16 : codeIn K Hj "do_stop" = true) (k16 : keepIn K (.ref Gq) = true)
  (a17 : nsIn K mainGlobals "do_halt" = some (some (.ref Gr))) (l17 : K.lookup Gr = some ⟨PD,Mx,.func (fnOf "do_halt" "do_halt" (aF gG) (aA gG) (ai gG) .none PF PH PJ Mz Hk PK),NY⟩) (c17 : codeIn K Hk "do_halt" = true) (k17 : keepIn K (.ref Gr) = true)
  (a18 : nsIn K mainGlobals "do_back" = some (some (.ref Gu))) (l18 : K.lookup Gu = some ⟨PL,MB,.func (fnOf "do_back" "do_back" (aF gH) (aA gH) (ai gH) .none PN PR PU MC Hl PV),N0⟩) (c18 : codeIn K Hl "do_back" = true) (k18 : keepIn K (.ref Gu) = true)
  (a19 : nsIn K mainGlobals "do_set" = some (some (.ref Gv))) (l19 : K.lookup Gv = some ⟨PX,MD,.func (fnOf "do_set" "do_set" (aF jS) (aA jS) (ai jS) .none PY PZ P1 ME Hm P2),N2⟩) (c19 : codeIn K Hm "do_set" = true) (k19 : keepIn K (.ref Gv) = true)
  (a20 : nsIn K mainGlobals "do_more" = some (some (.ref Gw))) (l20 : K.lookup Gw = some ⟨P4,MF,.func (fnOf "do_more" "do_more" (aF gJ) (aA gJ) (ai gJ) .none P5 P6 P7 MH Hn P8),N3⟩) (c20 : codeIn K Hn "do_more" = true) (k20 : keepIn K (.ref Gw) = true)
  (a21 : nsIn K mainGlobals "do_copy" = some (some (.ref Gx))) (l21 : K.lookup Gx = some ⟨P9,MI,.func (fnOf "do_copy" "do_copy" (aF gK) (aA gK) (ai gK) .none Qa Qb Qc MJ Ho Qd),N4⟩) (c21 : codeIn K Ho "do_copy" = true) (k21 : keepIn K (.ref Gx) = true)
  (a22 : nsIn K mainGlobals "do_add" = some (some (.ref Gy))) (l22 : K.lookup Gy = some ⟨Qe,MK,.func (fnOf "do_add" "do_add" (aF jT) (aA jT) (ai jT) .none Qf Qg Qh ML Hq Qi),N5⟩) (c22 : codeIn K Hq "do_add" = true) (k22 : keepIn K (.ref Gy) = true)
  (a23 : nsIn K mainGlobals "do_less" = some (some (.ref Gz))) (l23 : K.lookup Gz = some ⟨Qj,MN,.func (fnOf "do_less" "do_less" (aF gL) (aA gL) (ai gL) .none Qk Ql Qm MP Hr Qn),N6⟩) (c23 : codeIn K Hr "do_less" = true) (k23 : keepIn K (.ref Gz) = true)
  (a24 : nsIn K mainGlobals "do_load" = some (some (.ref GH))) (l24 : K.lookup GH = some ⟨Qo,MQ,.func (fnOf "do_load" "do_load" (aF gM) (aA gM) (ai gM) .none Qp Qq Qr MR Hs Qs),N7⟩) (c24 : codeIn K Hs "do_load" = true) (k24 : keepIn K (.ref GH) = true)
  (a25 : nsIn K mainGlobals "do_keep" = some (some (.ref GJ))) (l25 : K.lookup GJ = some ⟨Qt,MS,.func (fnOf "do_keep" "do_keep" (aF gN) (aA gN) (ai gN) .none Qu Qv Qw MU Ht Qx),N8⟩) (c25 : codeIn K Ht "do_keep" = true) (k25 : keepIn K (.ref GJ) = true)
  (a26 : nsIn K mainGlobals "do_tell" = some (some (.ref GK))) (l26 : K.lookup GK = some ⟨Qy,MV,.func (fnOf "do_tell" "do_tell" (aF gO) (aA gO) (ai gO) .none Qz QA QB MW Hu QC),N9⟩) (c26 : codeIn K Hu "do_tell" = true) (k26 : keepIn K (.ref GK) = true)
  (a27 : nsIn K mainGlobals "do_see" = some (some (.ref GO))) (l27 : K.lookup GO = some ⟨QD,MX,.func (fnOf "do_see" "do_see" (aF jU) (aA jU) (ai jU) .none QE QF QG MY Hv QH),Oa⟩) (c27 : codeIn K Hv "do_see" = true) (k27 : keepIn K (.ref GO) = true)
  (a28 : nsIn K mainGlobals "do_put" = some (some (.ref GQ))) (l28 : K.lookup GQ = some ⟨QI,MZ,.func (fnOf "do_put" "do_put" (aF jV) (aA jV) (ai jV) .none QJ QK QL M9 Hw QM),Ob⟩) (c28 : codeIn K Hw "do_put" = true) (k28 : keepIn K (.ref GQ) = true)
  (a29 : nsIn K mainGlobals "do_take" = some (some (.ref GU))) (l29 : K.lookup GU = some ⟨QN,Nb,.func (fnOf "do_take" "do_take" (aF gP) (aA gP) (ai gP) .none QO QP QR Nc Hx QS),Oc⟩) (c29 : codeIn K Hx "do_take" = true) (k29 : keepIn K (.ref GU) = true)
  (a30 : nsIn K mainGlobals "do_jump" = some (some (.ref GV))) (l30 : K.lookup GV = some ⟨QT,Nf,.func (fnOf "do_jump" "do_jump" (aF gQ) (aA gQ) (ai gQ) .none QU QV QW Ng Hy QX),Od⟩) (c30 : codeIn K Hy "do_jump" = true) (k30 : keepIn K (.ref GV) = true)
  (a31 : nsIn K mainGlobals "do_zero" = some (some (.ref GX))) (l31 : K.lookup GX = some ⟨QY,Nh,.func (fnOf "do_zero" "do_zero" (aF gR) (aA gR) (ai gR) .none QZ Q0 Q5 Ni Hz Q6),Oe⟩) (c31 : codeIn K Hz "do_zero" = true) (k31 : keepIn K (.ref GX) = true)
  (a32 : nsIn K mainGlobals "do_below" = some (some (.ref f32))) (l32 : K.lookup f32 = some ⟨Q7,Nj,.func (fnOf "do_below" "do_below" (aF eP) (aA eP) (ai eP) .none Q8 Q9 Ra Nk HB Rb),Og⟩) (c32 : codeIn K HB "do_below" = true) (k32 : keepIn K (.ref f32) = true)
  (a33 : nsIn K mainGlobals "do_call" = some (some (.ref GY))) (l33 : K.lookup GY = some ⟨Rc,Nm,.func (fnOf "do_call" "do_call" (aF gS) (aA gS) (ai gS) .none Rf Rg Rh Nn HC Ri),Oh⟩) (c33 : codeIn K HC "do_call" = true) (k33 : keepIn K (.ref GY) = true)
  (a34 : nsIn K mainGlobals "do_mark" = some (some (.ref GZ))) (l34 : K.lookup GZ = some ⟨Rj,Np,.func (fnOf "do_mark" "do_mark" (aF gT) (aA gT) (ai gT) .none Rk Rm Rn Nq HD Ro),Oi⟩) (c34 : codeIn K HD "do_mark" = true) (k34 : keepIn K (.ref GZ) = true)
  (a35 : nsIn K mainGlobals "do_table" = some (some (.ref Ha))) (l35 : K.lookup Ha = some ⟨Rp,Nr,.func (fnOf "do_table" "do_table" (aF eQ) (aA eQ) (ai eQ) .none Rq Rr Rt Nt HE Ru),Oj⟩) (c35 : codeIn K HE "do_table" = true) (k35 : keepIn K (.ref Ha) = true)
  (a36 : nsIn K mainGlobals "without_noughts" = some (some (.ref LW))) (l36 : K.lookup LW = some ⟨Rv,Nu,.func (fnOf "without_noughts" "without_noughts" (aF ib) (aA ib) (ai ib) .none Rx Ry Rz Nv HF RA),Ol⟩) (c36 : codeIn K HF "without_noughts" = true) (k36 : keepIn K (.ref LW) = true)
  (a37 : nsIn K mainGlobals "_law_cell_at" = some (some (.ref LX))) (l37 : K.lookup LX = some ⟨RB,Nw,.func (fnOf "_law_cell_at" "_law_cell_at" (aF nh) (aA nh) (ai nh) .none RD RE RF Nx HG RG),Om⟩) (c37 : codeIn K HG "_law_cell_at" = true) (k37 : keepIn K (.ref LX) = true)
  (a38 : nsIn K mainGlobals "_law_digit" = some (some (.ref LY))) (l38 : K.lookup LY = some ⟨RH,Ny,.func (fnOf "_law_digit" "_law_digit" (aF jz) (aA jz) (ai jz) .none RI RJ RK Nz HI RL),Oo⟩) (c38 : codeIn K HI "_law_digit" = true) (k38 : keepIn K (.ref LY) = true)
  (a39 : nsIn K mainGlobals "_law_row" = some (some (.ref LZ))) (l39 : K.lookup LZ = some ⟨RM,NA,.func (fnOf "_law_row" "_law_row" (aF rN) (aA rN) (ai rN) .none RN RO RP NB HJ RQ),Oq⟩) (c39 : codeIn K HJ "_law_row" = true) (k39 : keepIn K (.ref LZ) = true)
  (a40 : nsIn K mainGlobals "_law_program" = some (some (.ref L5))) (l40 : K.lookup L5 = some ⟨RR,NC,.func (fnOf "_law_program" "_law_program" (aF lg) (aA lg) (ai lg) .none RS RT RU ND HK RV),Ot⟩) (c40 : codeIn K HK "_law_program" = true) (k40 : keepIn K (.ref L5) = true)
  (a41 : nsIn K mainGlobals "_law_asked" = some (some (.ref L6))) (l41 : K.lookup L6 = some ⟨RW,NG,.func (fnOf "_law_asked" "_law_asked" (aF jA) (aA jA) (ai jA) .none RX RY RZ NH HL R0),Ou⟩) (c41 : codeIn K HL "_law_asked" = true) (k41 : keepIn K (.ref L6) = true)
  (a42 : nsIn K mainGlobals "_law_claims" = some (some (.ref L7))) (l42 : K.lookup L7 = some ⟨Sb,NI,.func (fnOf "_law_claims" "_law_claims" (aF eL) (aA eL) (ai eL) .none Sd Se Sf NJ HM Sg),Ov⟩) (c42 : codeIn K HM "_law_claims" = true) (k42 : keepIn K (.ref L7) = true)
  (a43 : nsIn K mainGlobals "_law_number" = some (some (.ref L8))) (l43 : K.lookup L8 = some ⟨Sh,NK,.func (fnOf "_law_number" "_law_number" (aF hW) (aA hW) (ai hW) .none Si Sl Sn NM HN Sq),Ow⟩) (c43 : codeIn K HN "_law_number" = true) (k43 : keepIn K (.ref L8) = true)
  (a44 : nsIn K mainGlobals "_law_same" = some (some (.ref Ma))) (l44 : K.lookup Ma = some ⟨Sr,NN,.func (fnOf "_law_same" "_law_same" (aF jQ) (aA jQ) (ai jQ) .none Ss Sv Sw NP HP Sx),Ox⟩) (c44 : codeIn K HP "_law_same" = true) (k44 : keepIn K (.ref Ma) = true)
  (a45 : nsIn K mainGlobals "law" = some (some (.ref Mb))) (l45 : K.lookup Mb = some ⟨Sy,NQ,.func (fnOf "law" "law" (aF jX) (aA jX) (ai jX) .none HQ HR HS Hb DX HU),Oy⟩) (c45 : codeIn K DX "law" = true) (k45 : keepIn K (.ref Mb) = true)
  {Sz : Addr} {SA : Option Addr} {SD : Array (Option Value)} {nT0 : Nat} {SE SG SH SJ SK SL SM : Tok} (aT0 : nsIn K mainGlobals "WRITING" = some (some (.ref Sz)))
  (lT0 : K.lookup Sz = some ⟨.type "tuple",SA,.seq #[.str "set" SE,.str "more" SG,.str "copy" SH,.str "add" SJ,.str "less" SK,.str "load" SL,.str "take" SM] nT0,SD⟩)
  {SN : Addr} {SO : Option Addr} {SQ : Array (Option Value)} {nT1 : Nat} {SR SU SV : Tok} (aT1 : nsIn K mainGlobals "ENDS" = some (some (.ref SN)))
  (lT1 : K.lookup SN = some ⟨.type "tuple",SO,.seq #[.str "stop" SR,.str "back" SU,.str "halt" SV] nT1,SQ⟩)
  {SW : Addr} {SZ : Option Addr} {Ta : Array (Option Value)} {nT2 : Nat} {Tb Tc Td Tf : Tok} (aT2 : nsIn K mainGlobals "NOT_GOING_ON" = some (some (.ref SW)))
  (lT2 : K.lookup SW = some ⟨.type "tuple",SZ,.seq #[.str "stop" Tb,.str "back" Tc,.str "halt" Td,.str "jump" Tf] nT2,Ta⟩)
  (z_set : nsIn K mainGlobals "set" = some none)
  (z_sorted : nsIn K mainGlobals "sorted" = some none)
  (z_list : nsIn K mainGlobals "list" = some none)
  (z_int : nsIn K mainGlobals "int" = some none)
  (z_bool : nsIn K mainGlobals "bool" = some none)
  (z_tuple : nsIn K mainGlobals "tuple" = some none)
  (z_isinstance : nsIn K mainGlobals "isinstance" = some none)
  (z_min : nsIn K mainGlobals "min" = some none)
  (z_range : nsIn K mainGlobals "range" = some none)
  (z_len : nsIn K mainGlobals "len" = some none)
  (z_all : nsIn K mainGlobals "all" = some none)
  (z_enumerate : nsIn K mainGlobals "enumerate" = some none)
  (z_max : nsIn K mainGlobals "max" = some none)
  (z_dict : nsIn K mainGlobals "dict" = some none)
  (z_abs : nsIn K mainGlobals "abs" = some none)
  {pB : Addr} {lL : Array DictEntry} {nB : Nat} (aB : nsIn K mainGlobals "READ_AT" = some (some (.ref pB))) (lB : K.lookup pB = some ⟨.type "dict",none,.dict lL nB,#[]⟩) (kB : KeysLit w.params lL.toList) (oB : (pB == sysModules) = false)
  {Tg : Addr} {Ti : Option Addr} {Tj : Array (Option Value)} {nB0 : Nat} {HV : Tok} (eB0 : nsIn K pB "more" = some (some (.ref Tg))) (lB0 : K.lookup Tg = some ⟨.type "tuple",Ti,.seq #[.int (1) HV] nB0,Tj⟩)
  {Tn : Addr} {Tp : Option Addr} {Tq : Array (Option Value)} {nB1 : Nat} {HW : Tok} (eB1 : nsIn K pB "copy" = some (some (.ref Tn))) (lB1 : K.lookup Tn = some ⟨.type "tuple",Tp,.seq #[.int (2) HW] nB1,Tq⟩)
  {Tr : Addr} {Ts : Option Addr} {Tt : Array (Option Value)} {nB2 : Nat} {HZ Ia : Tok} (eB2 : nsIn K pB "add" = some (some (.ref Tr))) (lB2 : K.lookup Tr = some ⟨.type "tuple",Ts,.seq #[.int (1) HZ,.int (2) Ia] nB2,Tt⟩)
  {Tv : Addr} {Tw : Option Addr} {Tx : Array (Option Value)} {nB3 : Nat} {Ib Ic : Tok} (eB3 : nsIn K pB "less" = some (some (.ref Tv))) (lB3 : K.lookup Tv = some ⟨.type "tuple",Tw,.seq #[.int (1) Ib,.int (2) Ic] nB3,Tx⟩)
  {Tz : Addr} {TB : Option Addr} {TF : Array (Option Value)} {nB4 : Nat} {Ie : Tok} (eB4 : nsIn K pB "load" = some (some (.ref Tz))) (lB4 : K.lookup Tz = some ⟨.type "tuple",TB,.seq #[.int (2) Ie] nB4,TF⟩)
  {TH : Addr} {TJ : Option Addr} {TK : Array (Option Value)} {nB5 : Nat} {Ig Ih : Tok} (eB5 : nsIn K pB "keep" = some (some (.ref TH))) (lB5 : K.lookup TH = some ⟨.type "tuple",TJ,.seq #[.int (1) Ig,.int (2) Ih] nB5,TK⟩)
  {TL : Addr} {TN : Option Addr} {TQ : Array (Option Value)} {nB6 : Nat} {Ii : Tok} (eB6 : nsIn K pB "tell" = some (some (.ref TL))) (lB6 : K.lookup TL = some ⟨.type "tuple",TN,.seq #[.int (1) Ii] nB6,TQ⟩)
  {TU : Addr} {TV : Option Addr} {TX : Array (Option Value)} {nB7 : Nat} {Ij : Tok} (eB7 : nsIn K pB "see" = some (some (.ref TU))) (lB7 : K.lookup TU = some ⟨.type "tuple",TV,.seq #[.int (1) Ij] nB7,TX⟩)
  {TY : Addr} {T2 : Option Addr} {T3 : Array (Option Value)} {nB8 : Nat} {Ik : Tok} (eB8 : nsIn K pB "put" = some (some (.ref TY))) (lB8 : K.lookup TY = some ⟨.type "tuple",T2,.seq #[.int (1) Ik] nB8,T3⟩)
  {T4 : Addr} {T5 : Option Addr} {T7 : Array (Option Value)} {nB9 : Nat} {Il : Tok} (eB9 : nsIn K pB "zero" = some (some (.ref T4))) (lB9 : K.lookup T4 = some ⟨.type "tuple",T5,.seq #[.int (1) Il] nB9,T7⟩)
  {DY : Addr} {Im : Option Addr} {Io : Array (Option Value)} {T8 : Nat} {DZ : Tok} (eB10 : nsIn K pB "below" = some (some (.ref DY))) (lB10 : K.lookup DY = some ⟨.type "tuple",Im,.seq #[.int (1) DZ] T8,Io⟩)
  {D0 : Addr} {Ip : Option Addr} {Iq : Array (Option Value)} {T9 : Nat} {D1 : Tok} (eB11 : nsIn K pB "table" = some (some (.ref D0))) (lB11 : K.lookup D0 = some ⟨.type "tuple",Ip,.seq #[.int (1) D1] T9,Iq⟩)
  (x0 : nsIn K pB "stop" = some none)
  (x1 : nsIn K pB "back" = some none)
  (x2 : nsIn K pB "halt" = some none)
  (x3 : nsIn K pB "set" = some none)
  (x4 : nsIn K pB "take" = some none)
  (x5 : nsIn K pB "jump" = some none)
  (x6 : nsIn K pB "call" = some none)
  (x7 : nsIn K pB "mark" = some none)
  {pD : Addr} {esD : Array DictEntry} {nD : Nat} (aD : nsIn K mainGlobals "BOUNDS" = some (some (.ref pD))) (lD : K.lookup pD = some ⟨.type "dict",none,.dict esD nD,#[]⟩) (kD : KeysLit w.params esD.toList) (oD : (pD == sysModules) = false)
  {Ua : Addr} {Ub : Option Addr} {Uc : Array (Option Value)} {nD0 : Nat} {Ir Iu : Tok} (eD0 : nsIn K pD "box" = some (some (.ref Ua))) (lD0 : K.lookup Ua = some ⟨.type "tuple",Ub,.seq #[.int (0) Ir,.int (7) Iu] nD0,Uc⟩)
  {bj : Addr} (xNoFree : nsIn K mainGlobals "NoFree" = some (some (.ref bj)))
  {cW : Addr} (xRowError : nsIn K mainGlobals "RowError" = some (some (.ref cW)))
  {gI : Addr} {Ud Ue : Option Addr} {Ug : Array (Option Value)} {Uh Ui Uj Uk Iv Ul : Value} (agI : findIn K (.ref bj) "__init__" = some (some (.ref gI))) (igI : typeIn K (.ref gI) = some (.type "function")) (lgI : K.lookup gI = some ⟨Uh,Ud,.func (fnOf "__init__" "NoFree.__init__" (aF Ee) (aA Ee) (ai Ee) .none Ui Uj Uk Ue Iv Ul),Ug⟩) (cgI : codeIn K Iv "NoFree.__init__" = true) (kgI : keepIn K (.ref gI) = true)
  {ddC : Option Addr} {nmC qnC : Str} {bsC Um : List Value} {nsC : Addr} {snC : List Str} {abC : Bool} {Uo : Option Bool} {k0C k1C k2C k3C k5C : Option Value} {cdE : ClassData} (xlk : K.lookup bj = some ⟨.type "type",ddC,.cls ⟨nmC,bsC,.ref bj :: .ref cW :: kZ,nsC,qnC,true,snC,Um,abC,Uo,false⟩,#[k0C,k1C,k2C,k3C,some (.builtin "ValueError.__new__"),k5C]⟩) (xq : excIn K cW kZ "ValueError.__new__" = true) (xrt : mroIn K cW (.type "object") = some true) (xsa : findIn K (.ref bj) "__setattr__" = some (some (.builtin "object.__setattr__"))) (xna : PySem.W.takerIn K bj "at" = some none) (xnt : findIn K (.ref bj) "at" = some none) (xhd : hasDictIn K bj = true) (xga : findIn K (.ref bj) "__getattribute__" = some (some (.builtin "BaseException.__getattribute__"))) (xgh : findIn K (.ref bj) "__getattr__" = some none) (xcl : findIn K (.ref bj) "__class__" = some (some (.builtin "object.__class__"))) (xgt : specialIn K (.builtin "object.__class__") "__get__" = some (some (.builtin "getset_descriptor.__get__"))) (xtk : PySem.W.takesIn K (.builtin "object.__class__") = some true) (xob : mroIn K bj (.type "object") = some true) (xbx : mroIn K bj (.type "BaseException") = some true) (xci : clsIn K bj = some cdE) (xsg : specialIn K (.ref cW) "__getattribute__" = some (some (.builtin "type.__getattribute__"))) (xrr : PySem.W.readsIn K cW (.type "type") = true) (xfi : PySem.W.findCls K (.ref cW) (.type "type") "__init__" = some (.val (.builtin "ValueError.__init__"))) (xkc : keepIn K (.ref bj) = true) (xexm : exmOne K (.ref bj) (.ref cW) = some true) (xown : kitOne K (.ref bj) (.ref bj) = some true) (xval : kitOne K (.ref bj) (.type "ValueError") = some true)
  {Up : Addr} {Uq : Option Addr} {Ur : Array (Option Value)} {nAB : Nat} {Us Ut Uu Uv Uw Ux Uy Uz : Tok} (aAB : nsIn K mainGlobals "ALL_BOXES" = some (some (.ref Up))) (lAB : K.lookup Up = some ⟨.type "tuple",Uq,.seq #[.int 0 Us,.int 1 Ut,.int 2 Uu,.int 3 Uv,.int 4 Uw,.int 5 Ux,.int 6 Uy,.int 7 Uz] nAB,Ur⟩)
  (xeq1 : exmOne K (.ref bj) (.ref bj) = some true)
  {C : Addr} (aC : nsIn K mainGlobals "Machine" = some (some (.ref C)))
  {g0 : Addr} {UA UB : Option Addr} {UC : Array (Option Value)} {UD UE UG UH Iw UI : Value} (ag0 : findIn K (.ref C) "__init__" = some (some (.ref g0))) (ig0 : isFn K (.ref g0) = true) (lg0 : K.lookup g0 = some ⟨UD,UA,.func (fnOf "__init__" "Machine.__init__" (aF nK) (aA nK) (ai nK) .none UE UG UH UB Iw UI),UC⟩) (cg0 : codeIn K Iw "Machine.__init__" = true) (kg0 : keepIn K (.ref g0) = true)
  {g1 : Addr} {UJ UK : Option Addr} {UL : Array (Option Value)} {UM UN UO UP Iy UQ : Value} (ag1 : findIn K (.ref C) "row" = some (some (.ref g1))) (ig1 : isFn K (.ref g1) = true) (lg1 : K.lookup g1 = some ⟨UM,UJ,.func (fnOf "row" "Machine.row" (aF nO) (aA nO) (ai nO) .none UN UO UP UK Iy UQ),UL⟩) (cg1 : codeIn K Iy "Machine.row" = true) (kg1 : keepIn K (.ref g1) = true)
  {g2 : Addr} {UR US : Option Addr} {UT : Array (Option Value)} {UU UW UX UY Iz UZ : Value} (ag2 : findIn K (.ref C) "ending" = some (some (.ref g2))) (ig2 : isFn K (.ref g2) = true) (lg2 : K.lookup g2 = some ⟨UU,UR,.func (fnOf "ending" "Machine.ending" (aF ic) (aA ic) (ai ic) .none UW UX UY US Iz UZ),UT⟩) (cg2 : codeIn K Iz "Machine.ending" = true) (kg2 : keepIn K (.ref g2) = true)
  {g3 : Addr} {U0 U1 : Option Addr} {U2 : Array (Option Value)} {U3 U4 U5 U6 IA U7 : Value} (ag3 : findIn K (.ref C) "boxes" = some (some (.ref g3))) (ig3 : isFn K (.ref g3) = true) (lg3 : K.lookup g3 = some ⟨U3,U0,.func (fnOf "boxes" "Machine.boxes" (aF jH) (aA jH) (ai jH) .none U4 U5 U6 U1 IA U7),U2⟩) (cg3 : codeIn K IA "Machine.boxes" = true) (kg3 : keepIn K (.ref g3) = true)
  {g4 : Addr} {U8 U9 : Option Addr} {Va : Array (Option Value)} {Vb Vc Vd Ve IB Vf : Value} (ag4 : findIn K (.ref C) "cells" = some (some (.ref g4))) (ig4 : isFn K (.ref g4) = true) (lg4 : K.lookup g4 = some ⟨Vb,U8,.func (fnOf "cells" "Machine.cells" (aF jI) (aA jI) (ai jI) .none Vc Vd Ve U9 IB Vf),Va⟩) (cg4 : codeIn K IB "Machine.cells" = true) (kg4 : keepIn K (.ref g4) = true)
  {g5 : Addr} {Vg Vh : Option Addr} {Vi : Array (Option Value)} {Vj Vk Vl Vm IC Vn : Value} (ag5 : findIn K (.ref C) "asides" = some (some (.ref g5))) (ig5 : isFn K (.ref g5) = true) (lg5 : K.lookup g5 = some ⟨Vj,Vg,.func (fnOf "asides" "Machine.asides" (aF ie) (aA ie) (ai ie) .none Vk Vl Vm Vh IC Vn),Vi⟩) (cg5 : codeIn K IC "Machine.asides" = true) (kg5 : keepIn K (.ref g5) = true)
  {g6 : Addr} {Vo Vp : Option Addr} {Vq : Array (Option Value)} {Vr Vs Vt Vu IE Vv : Value} (ag6 : findIn K (.ref C) "told" = some (some (.ref g6))) (ig6 : isFn K (.ref g6) = true) (lg6 : K.lookup g6 = some ⟨Vr,Vo,.func (fnOf "told" "Machine.told" (aF nU) (aA nU) (ai nU) .none Vs Vt Vu Vp IE Vv),Vq⟩) (cg6 : codeIn K IE "Machine.told" = true) (kg6 : keepIn K (.ref g6) = true)
  {g7 : Addr} {Vw Vx : Option Addr} {Vy : Array (Option Value)} {Vz VA VB VC IG VD : Value} (ag7 : findIn K (.ref C) "seen" = some (some (.ref g7))) (ig7 : isFn K (.ref g7) = true) (lg7 : K.lookup g7 = some ⟨Vz,Vw,.func (fnOf "seen" "Machine.seen" (aF nV) (aA nV) (ai nV) .none VA VB VC Vx IG VD),Vy⟩) (cg7 : codeIn K IG "Machine.seen" = true) (kg7 : keepIn K (.ref g7) = true)
  {g8 : Addr} {VE VF : Option Addr} {VG : Array (Option Value)} {VH VI VJ VL IH VM : Value} (ag8 : findIn K (.ref C) "deep" = some (some (.ref g8))) (ig8 : isFn K (.ref g8) = true) (lg8 : K.lookup g8 = some ⟨VH,VE,.func (fnOf "deep" "Machine.deep" (aF nW) (aA nW) (ai nW) .none VI VJ VL VF IH VM),VG⟩) (cg8 : codeIn K IH "Machine.deep" = true) (kg8 : keepIn K (.ref g8) = true)
  {g9 : Addr} {VN VO : Option Addr} {VP : Array (Option Value)} {VQ VR VT VU II VW : Value} (ag9 : findIn K (.ref C) "passed" = some (some (.ref g9))) (ig9 : isFn K (.ref g9) = true) (lg9 : K.lookup g9 = some ⟨VQ,VN,.func (fnOf "passed" "Machine.passed" (aF ig) (aA ig) (ai ig) .none VR VT VU VO II VW),VP⟩) (cg9 : codeIn K II "Machine.passed" = true) (kg9 : keepIn K (.ref g9) = true)
  {JC : Addr} {IJ IK : Option Addr} {IL : Array (Option Value)} {IQ IU IV IW B9 IY : Value} (ag10 : findIn K (.ref C) "step" = some (some (.ref JC))) (ig10 : isFn K (.ref JC) = true) (lg10 : K.lookup JC = some ⟨IQ,IJ,.func (fnOf "step" "Machine.step" (aF nQ) (aA nQ) (ai nQ) .none IU IV IW IK B9 IY),IL⟩) (cg10 : codeIn K B9 "Machine.step" = true) (kg10 : keepIn K (.ref JC) = true)
  (pg : PySem.W.plainGet K C Str.empty = true) (hd : hasDictIn K C = true) (po : PySem.W.plainOver K C = true) (sa : findIn K (.ref C) "__setattr__" = some (some (.builtin "object.__setattr__"))) (mkc : PySem.W.makesIn K C = true) (kc : keepIn K (.ref C) = true)
  (n_program : findIn K (.ref C) "program" = some none)
  (n_in_boxes : findIn K (.ref C) "in_boxes" = some none)
  (n_in_cells : findIn K (.ref C) "in_cells" = some none)
  (n_in_asides : findIn K (.ref C) "in_asides" = some none)
  (n_rung : findIn K (.ref C) "rung" = some none)
  (n_told_numbers : findIn K (.ref C) "told_numbers" = some none)
  (n_seen_numbers : findIn K (.ref C) "seen_numbers" = some none)
  (n_pile : findIn K (.ref C) "pile" = some none)
  (n_marks_done : findIn K (.ref C) "marks_done" = some none)
  (n_here : findIn K (.ref C) "here" = some none)
  (n_how_ended : findIn K (.ref C) "how_ended" = some none)
  {pE : Addr} {lP : Array DictEntry} {nE : Nat} (aE : nsIn K mainGlobals "DEEDS" = some (some (.ref pE))) (lE : K.lookup pE = some ⟨.type "dict",none,.dict lP nE,#[]⟩) (kE : KeysLit w.params lP.toList) (oE : (pE == sysModules) = false)
  (e_stop : nsIn K pE "stop" = some (some (.ref Gq)))
  (e_halt : nsIn K pE "halt" = some (some (.ref Gr)))
  (e_back : nsIn K pE "back" = some (some (.ref Gu)))
  (e_set : nsIn K pE "set" = some (some (.ref Gv)))
  (e_more : nsIn K pE "more" = some (some (.ref Gw)))
  (e_copy : nsIn K pE "copy" = some (some (.ref Gx)))
  (e_add : nsIn K pE "add" = some (some (.ref Gy)))
  (e_less : nsIn K pE "less" = some (some (.ref Gz)))
  (e_load : nsIn K pE "load" = some (some (.ref GH)))
  (e_keep : nsIn K pE "keep" = some (some (.ref GJ)))
  (e_tell : nsIn K pE "tell" = some (some (.ref GK)))
  (e_see : nsIn K pE "see" = some (some (.ref GO)))
  (e_put : nsIn K pE "put" = some (some (.ref GQ)))
  (e_take : nsIn K pE "take" = some (some (.ref GU)))
  (e_jump : nsIn K pE "jump" = some (some (.ref GV)))
  (e_zero : nsIn K pE "zero" = some (some (.ref GX)))
  (e_below : nsIn K pE "below" = some (some (.ref f32)))
  (e_call : nsIn K pE "call" = some (some (.ref GY)))
  (e_mark : nsIn K pE "mark" = some (some (.ref GZ)))
  (e_table : nsIn K pE "table" = some (some (.ref Ha)))
  : ∃ fd : FuncData,(∀ (s : Shared) (v : Value),BindsTo s fd ⟨[v],[]⟩ [("_law_script",v)]) ∧ ∀ base : Heap,K.In base → base.Ns mainGlobals mg → aK l.prog w K mg base bM 8 fa fd ["_law_script"] (uy (K := K)) := by
 have e := hfa.symm.trans (mg_of X G a45)
 cases e
 have F0 := aN (st := mZ) l0 c0 k0
 have b0 := F0.binds (ps := ["row"]) fun _ _ _ _ _ _ us hl => match us,hl with | [_],_ => rfl
 have m0 := mg_of X G a0
 have F1 := aN (st := eW) l1 c1 k1
 have b1 := F1.binds (ps := ["row"]) fun _ _ _ _ _ _ us hl => match us,hl with | [_],_ => rfl
 have m1 := mg_of X G a1
 have F2 := aN (st := ng) l2 c2 k2
 have b2 := F2.binds (ps := ["rows", "r"]) fun _ _ _ _ _ _ us hl => match us,hl with | [_,_],_ => rfl
 have m2 := mg_of X G a2
 have F3 := aN (st := jw) l3 c3 k3
 have b3 := F3.binds (ps := ["thing"]) fun _ _ _ _ _ _ us hl => match us,hl with | [_],_ => rfl
 have m3 := mg_of X G a3
 have F4 := aN (st := u9) l4 c4 k4
 have b4 := F4.binds (ps := ["kind", "thing"]) fun _ _ _ _ _ _ us hl => match us,hl with | [_,_],_ => rfl
 have m4 := mg_of X G a4
 have F5 := aN (st := iC) l5 c5 k5
 have b5 := F5.binds (ps := ["row"]) fun _ _ _ _ _ _ us hl => match us,hl with | [_],_ => rfl
 have m5 := mg_of X G a5
 have F6 := aN (st := hV) l6 c6 k6
 have b6 := F6.binds (ps := ["row"]) fun _ _ _ _ _ _ us hl => match us,hl with | [_],_ => rfl
 have m6 := mg_of X G a6
 have F7 := aN (st := jx) l7 c7 k7
 have b7 := F7.binds (ps := ["row", "box"]) fun _ _ _ _ _ _ us hl => match us,hl with | [_,_],_ => rfl
 have m7 := mg_of X G a7
 have F8 := aN (st := jy) l8 c8 k8
 have b8 := F8.binds (ps := ["rows", "r"]) fun _ _ _ _ _ _ us hl => match us,hl with | [_,_],_ => rfl
 have m8 := mg_of X G a8
 have F9 := aN (st := fH) l9 c9 k9
 have b9 := F9.binds (ps := ["thing"]) fun _ _ _ _ _ _ us hl => match us,hl with | [_],_ => rfl
 have m9 := mg_of X G a9
 have F10 := aN (st := iE) l10 c10 k10
 have b10 := F10.binds (ps := ["rows", "claims", "r", "box"]) fun _ _ _ _ _ _ us hl => match us,hl with | [_,_,_,_],_ => rfl
 have m10 := mg_of X G a10
 have F11 := aN (st := jP) l11 c11 k11
 have b11 := F11.binds (ps := ["rows", "claims"]) fun _ _ _ _ _ _ us hl => match us,hl with | [_,_],_ => rfl
 have m11 := mg_of X G a11
 have F12 := aN (st := fJ) l12 c12 k12
 have b12 := F12.binds (ps := ["rows"]) fun _ _ _ _ _ _ us hl => match us,hl with | [_],_ => rfl
 have m12 := mg_of X G a12
 have F13 := aN (st := iF) l13 c13 k13
 have b13 := F13.binds (ps := ["rows", "ahead", "box"]) fun _ _ _ _ _ _ us hl => match us,hl with | [_,_,_],_ => rfl
 have m13 := mg_of X G a13
 have F14 := aN (st := iY) l14 c14 k14
 have b14 := F14.binds (ps := ["rows"]) fun _ _ _ _ _ _ us hl => match us,hl with | [_],_ => rfl
 have m14 := mg_of X G a14
 have F15 := aN (st := vo) l15 c15 k15
 have VX := F15.binds (ps := ["machine", "how"]) fun _ _ _ _ _ _ us hl => match us,hl with | [_,_],_ => rfl
 have VY := mg_of X G a15
 have F16 := aN (st := gF) l16 c16 k16
 have b16 := F16.binds (ps := ["machine", "row"]) fun _ _ _ _ _ _ us hl => match us,hl with | [_,_],_ => rfl
 have m16 := mg_of X G a16
 have F17 := aN (st := gG) l17 c17 k17
 have b17 := F17.binds (ps := ["machine", "row"]) fun _ _ _ _ _ _ us hl => match us,hl with | [_,_],_ => rfl
 have m17 := mg_of X G a17
 have F18 := aN (st := gH) l18 c18 k18
 have b18 := F18.binds (ps := ["machine", "row"]) fun _ _ _ _ _ _ us hl => match us,hl with | [_,_],_ => rfl
 have m18 := mg_of X G a18
 have F19 := aN (st := jS) l19 c19 k19
 have b19 := F19.binds (ps := ["machine", "row"]) fun _ _ _ _ _ _ us hl => match us,hl with | [_,_],_ => rfl
 have m19 := mg_of X G a19
 have F20 := aN (st := gJ) l20 c20 k20
 have b20 := F20.binds (ps := ["machine", "row"]) fun _ _ _ _ _ _ us hl => match us,hl with | [_,_],_ => rfl
 have m20 := mg_of X G a20
 have F21 := aN (st := gK) l21 c21 k21
 have b21 := F21.binds (ps := ["machine", "row"]) fun _ _ _ _ _ _ us hl => match us,hl with | [_,_],_ => rfl
 have m21 := mg_of X G a21
 have F22 := aN (st := jT) l22 c22 k22
 have b22 := F22.binds (ps := ["machine", "row"]) fun _ _ _ _ _ _ us hl => match us,hl with | [_,_],_ => rfl
 have m22 := mg_of X G a22
 have F23 := aN (st := gL) l23 c23 k23
 have b23 := F23.binds (ps := ["machine", "row"]) fun _ _ _ _ _ _ us hl => match us,hl with | [_,_],_ => rfl
 have m23 := mg_of X G a23
 have F24 := aN (st := gM) l24 c24 k24
 have b24 := F24.binds (ps := ["machine", "row"]) fun _ _ _ _ _ _ us hl => match us,hl with | [_,_],_ => rfl
 have m24 := mg_of X G a24
 have F25 := aN (st := gN) l25 c25 k25
 have b25 := F25.binds (ps := ["machine", "row"]) fun _ _ _ _ _ _ us hl => match us,hl with | [_,_],_ => rfl
 have m25 := mg_of X G a25
 have F26 := aN (st := gO) l26 c26 k26
 have b26 := F26.binds (ps := ["machine", "row"]) fun _ _ _ _ _ _ us hl => match us,hl with | [_,_],_ => rfl
 have m26 := mg_of X G a26
 have F27 := aN (st := jU) l27 c27 k27
 have b27 := F27.binds (ps := ["machine", "row"]) fun _ _ _ _ _ _ us hl => match us,hl with | [_,_],_ => rfl
 have m27 := mg_of X G a27
 have F28 := aN (st := jV) l28 c28 k28
 have b28 := F28.binds (ps := ["machine", "row"]) fun _ _ _ _ _ _ us hl => match us,hl with | [_,_],_ => rfl
 have m28 := mg_of X G a28
 have F29 := aN (st := gP) l29 c29 k29
 have b29 := F29.binds (ps := ["machine", "row"]) fun _ _ _ _ _ _ us hl => match us,hl with | [_,_],_ => rfl
 have m29 := mg_of X G a29
 have F30 := aN (st := gQ) l30 c30 k30
 have b30 := F30.binds (ps := ["machine", "row"]) fun _ _ _ _ _ _ us hl => match us,hl with | [_,_],_ => rfl
 have m30 := mg_of X G a30
 have F31 := aN (st := gR) l31 c31 k31
 have b31 := F31.binds (ps := ["machine", "row"]) fun _ _ _ _ _ _ us hl => match us,hl with | [_,_],_ => rfl
 have m31 := mg_of X G a31
 have F32 := aN (st := eP) l32 c32 k32
 have b32 := F32.binds (ps := ["machine", "row"]) fun _ _ _ _ _ _ us hl => match us,hl with | [_,_],_ => rfl
 have m32 := mg_of X G a32
 have F33 := aN (st := gS) l33 c33 k33
 have Xk := F33.binds (ps := ["machine", "row"]) fun _ _ _ _ _ _ us hl => match us,hl with | [_,_],_ => rfl
 have m33 := mg_of X G a33
 have F34 := aN (st := gT) l34 c34 k34
 have b34 := F34.binds (ps := ["machine", "row"]) fun _ _ _ _ _ _ us hl => match us,hl with | [_,_],_ => rfl
 have m34 := mg_of X G a34
 have F35 := aN (st := eQ) l35 c35 k35
 have b35 := F35.binds (ps := ["machine", "row"]) fun _ _ _ _ _ _ us hl => match us,hl with | [_,_],_ => rfl
 have m35 := mg_of X G a35
 have F36 := aN (st := ib) l36 c36 k36
 have Xl := F36.binds (ps := ["numbers"]) fun _ _ _ _ _ _ us hl => match us,hl with | [_],_ => rfl
 have Xm := mg_of X G a36
 have F37 := aN (st := nh) l37 c37 k37
 have Xn := F37.binds (ps := ["_law_script", "_law_k"]) fun _ _ _ _ _ _ us hl => match us,hl with | [_,_],_ => rfl
 have Xo := mg_of X G a37
 have F38 := aN (st := jz) l38 c38 k38
 have JD := F38.binds (ps := ["_law_state", "_law_base"]) fun _ _ _ _ _ _ us hl => match us,hl with | [_,_],_ => rfl
 have JE := mg_of X G a38
 have F39 := aN (st := rN) l39 c39 k39
 have b39 := F39.binds (ps := ["_law_cell", "_law_many", "_law_boxes"]) fun _ _ _ _ _ _ us hl => match us,hl with | [_,_,_],_ => rfl
 have m39 := mg_of X G a39
 have F40 := aN (st := lg) l40 c40 k40
 have b40 := F40.binds (ps := ["_law_script"]) fun _ _ _ _ _ _ us hl => match us,hl with | [_],_ => rfl
 have m40 := mg_of X G a40
 have F41 := aN (st := jA) l41 c41 k41
 have b41 := F41.binds (ps := ["_law_rows", "_law_claims_here"]) fun _ _ _ _ _ _ us hl => match us,hl with | [_,_],_ => rfl
 have m41 := mg_of X G a41
 have F42 := aN (st := eL) l42 c42 k42
 have b42 := F42.binds (ps := ["_law_rows", "_law_cell"]) fun _ _ _ _ _ _ us hl => match us,hl with | [_,_],_ => rfl
 have m42 := mg_of X G a42
 have F43 := aN (st := hW) l43 c43 k43
 have b43 := F43.binds (ps := ["_law_state"]) fun _ _ _ _ _ _ us hl => match us,hl with | [_],_ => rfl
 have m43 := mg_of X G a43
 have F44 := aN (st := jQ) l44 c44 k44
 have b44 := F44.binds (ps := ["_law_one", "_law_other", "_law_free"]) fun _ _ _ _ _ _ us hl => match us,hl with | [_,_,_],_ => rfl
 have m44 := mg_of X G a44
 have F45 := aN (st := jX) l45 c45 k45
 have T : Txt K w.params mg := ⟨⟨pB,mg_of X G aB,⟨lL,nB,lB⟩,bV ⟨Tg,⟨lL,nB,lB,kB,oB,_,eB0,rfl⟩,fun H => .inr ⟨_,_,_,lB0,rfl,rfl,fX,.cons ⟨_,rfl⟩ (.nil)⟩⟩
   (bV ⟨Tn,⟨lL,nB,lB,kB,oB,_,eB1,rfl⟩,fun H => .inr ⟨_,_,_,lB1,rfl,rfl,fX,.cons ⟨_,rfl⟩ (.nil)⟩⟩
   (bV ⟨Tr,⟨lL,nB,lB,kB,oB,_,eB2,rfl⟩,fun H => .inr ⟨_,_,_,lB2,rfl,rfl,lX,.cons ⟨_,rfl⟩ (.cons ⟨_,rfl⟩ (.nil))⟩⟩
   (bV ⟨Tv,⟨lL,nB,lB,kB,oB,_,eB3,rfl⟩,fun H => .inr ⟨_,_,_,lB3,rfl,rfl,lX,.cons ⟨_,rfl⟩ (.cons ⟨_,rfl⟩ (.nil))⟩⟩
   (bV ⟨Tz,⟨lL,nB,lB,kB,oB,_,eB4,rfl⟩,fun H => .inr ⟨_,_,_,lB4,rfl,rfl,fX,.cons ⟨_,rfl⟩ (.nil)⟩⟩
   (bV ⟨TH,⟨lL,nB,lB,kB,oB,_,eB5,rfl⟩,fun H => .inr ⟨_,_,_,lB5,rfl,rfl,lX,.cons ⟨_,rfl⟩ (.cons ⟨_,rfl⟩ (.nil))⟩⟩
   (bV ⟨TL,⟨lL,nB,lB,kB,oB,_,eB6,rfl⟩,fun H => .inr ⟨_,_,_,lB6,rfl,rfl,fX,.cons ⟨_,rfl⟩ (.nil)⟩⟩
   (bV ⟨TU,⟨lL,nB,lB,kB,oB,_,eB7,rfl⟩,fun H => .inr ⟨_,_,_,lB7,rfl,rfl,fX,.cons ⟨_,rfl⟩ (.nil)⟩⟩
   (bV ⟨TY,⟨lL,nB,lB,kB,oB,_,eB8,rfl⟩,fun H => .inr ⟨_,_,_,lB8,rfl,rfl,fX,.cons ⟨_,rfl⟩ (.nil)⟩⟩
   (bV ⟨T4,⟨lL,nB,lB,kB,oB,_,eB9,rfl⟩,fun H => .inr ⟨_,_,_,lB9,rfl,rfl,fX,.cons ⟨_,rfl⟩ (.nil)⟩⟩
   (bV ⟨DY,⟨lL,nB,lB,kB,oB,_,eB10,rfl⟩,fun H => .inr ⟨_,_,_,lB10,rfl,rfl,fX,.cons ⟨_,rfl⟩ (.nil)⟩⟩
   (bV ⟨D0,⟨lL,nB,lB,kB,oB,_,eB11,rfl⟩,fun H => .inr ⟨_,_,_,lB11,rfl,rfl,fX,.cons ⟨_,rfl⟩ (.nil)⟩⟩
   (y9)))))))))))),
    bV ⟨lL,nB,lB,kB,oB,none,x0,trivial⟩
   (bV ⟨lL,nB,lB,kB,oB,none,x1,trivial⟩
   (bV ⟨lL,nB,lB,kB,oB,none,x2,trivial⟩
   (bV ⟨lL,nB,lB,kB,oB,none,x3,trivial⟩
   (bV ⟨lL,nB,lB,kB,oB,none,x4,trivial⟩
   (bV ⟨lL,nB,lB,kB,oB,none,x5,trivial⟩
   (bV ⟨lL,nB,lB,kB,oB,none,x6,trivial⟩
   (bV ⟨lL,nB,lB,kB,oB,none,x7,trivial⟩
   (y9))))))))⟩,
  ⟨Sz,mg_of X G aT0,fun H => .inr ⟨_,_,_,lT0,rfl,rfl,KD,.cons ⟨_,rfl⟩ (.cons ⟨_,rfl⟩ (.cons ⟨_,rfl⟩ (.cons ⟨_,rfl⟩ (.cons ⟨_,rfl⟩ (.cons ⟨_,rfl⟩ (.cons ⟨_,rfl⟩ (.nil)))))))⟩⟩,⟨SN,mg_of X G aT1,fun H => .inr ⟨_,_,_,lT1,rfl,rfl,gA,.cons ⟨_,rfl⟩ (.cons ⟨_,rfl⟩ (.cons ⟨_,rfl⟩ (.nil)))⟩⟩,⟨SW,mg_of X G aT2,fun H => .inr ⟨_,_,_,lT2,rfl,rfl,Ac,.cons ⟨_,rfl⟩ (.cons ⟨_,rfl⟩ (.cons ⟨_,rfl⟩ (.cons ⟨_,rfl⟩ (.nil))))⟩⟩,⟨Up,mg_of X G aAB,fun H => .inr ⟨_,_,_,lAB,rfl,rfl,KG,.cons ⟨_,rfl⟩ (.cons ⟨_,rfl⟩ (.cons ⟨_,rfl⟩ (.cons ⟨_,rfl⟩ (.cons ⟨_,rfl⟩ (.cons ⟨_,rfl⟩ (.cons ⟨_,rfl⟩ (.cons ⟨_,rfl⟩ (.nil))))))))⟩⟩,
  ⟨pD,mg_of X G aD,Ua,⟨esD,nD,lD,kD,oD,_,eD0,rfl⟩,fun H => .inr ⟨_,_,_,lD0,rfl,rfl,lX,.cons ⟨_,rfl⟩ (.cons ⟨_,rfl⟩ (.nil))⟩⟩,mg_none_of X G z_set,mg_none_of X G z_sorted,mg_none_of X G z_list,mg_none_of X G z_int,mg_none_of X G z_bool,mg_none_of X G z_tuple,mg_none_of X G z_isinstance,mg_none_of X G z_min,mg_none_of X G z_range,mg_none_of X G z_len,mg_none_of X G z_all,mg_none_of X G z_enumerate,mg_none_of X G z_max,mg_none_of X G z_dict,mg_none_of X G z_abs⟩
 refine ⟨fnOf "law" "law" (aF jX) (aA jX) (ai jX) .none HQ HR HS Hb DX HU,fun s v => .of_eq rfl,fun base _ _ => ?_⟩
 have FI := aN (st := Ee) lgI cgI kgI
 have bI := FI.binds (ps := ["self", "at"]) fun _ _ _ _ _ _ us hl => match us,hl with | [_,_],_ => rfl
 have CX : fz K bj cW gI := ⟨⟨_,_,_,_,_,_,_,_,_,_,_,_,_,_,xlk⟩,agI,igI,⟨xq⟩,xrt,xsa,xna,xnt,xhd,⟨xga,xgh,xcl,xgt,xtk,xob,xbx,by rw [xci]; rfl⟩,xsg,xrr,xfi⟩
 have mRE := mg_of X G xRowError
 have Ao := mg_of X G xNoFree
 have GI := Gp (P := l.prog) (w := w) (base := base) FI CX mRE
 have GW := xu (P := l.prog) (w := w) (base := base) F3 T
 have GN := Dk (P := l.prog) (w := w) (base := base) F4 T GW F3.kp b3 m3
 have GGo := Ah (P := l.prog) (w := w) (base := base) F0 T
 have Xp := rS (P := l.prog) (w := w) (base := base) F1 T
 have GWy := Ai (P := l.prog) (w := w) (base := base) F2 T GGo F0.kp b0 m0 Xp F1.kp b1 m1
 have GRd := xt (P := l.prog) (w := w) (base := base) F5 T
 have Xq := vf (P := l.prog) (w := w) (base := base) F6 T
 have Xr := xG (P := l.prog) (w := w) (base := base) F7 T GRd F5.kp b5 m5
 have Xt := xH (P := l.prog) (w := w) (base := base) F8 T Xp F1.kp b1 m1 GWy F2.kp b2 m2
 have GCl := xA (P := l.prog) (w := w) (base := base) F9 T GN F4.kp b4 m4
 have GRi := xI (P := l.prog) (w := w) (base := base) F10 T Xr F7.kp b7 m7 Xq F6.kp b6 m6 Xt F8.kp b8 m8
 have GFr := Am (P := l.prog) (w := w) (base := base) F11 T GCl F9.kp b9 m9 GRi F10.kp b10 m10 CX xkc GI bI Ao
 have GC := Aq (P := l.prog) (w := w) (base := base) F37 T
 have JF := xO (P := l.prog) (w := w) (base := base) F38 T
 have GRo := Ds (P := l.prog) (w := w) (base := base) F39 T JF F38.kp JD JE
 have GPr := Be (P := l.prog) (w := w) (base := base) F40 T GRo F39.kp b39 m39 GC F37.kp Xn Xo
 have GRA := vy (P := l.prog) (w := w) (base := base) F12 T Xt F8.kp b8 m8
 have GRN := yG (P := l.prog) (w := w) (base := base) F13 T Xr F7.kp b7 m7 Xq F6.kp b6 m6
 have GFB := Bl (P := l.prog) (w := w) (base := base) F14 T GRA F12.kp b12 m12 GRN F13.kp b13 m13
 have GAs := yT (P := l.prog) (w := w) (base := base) F41 T CX Ao xeq1 GFr F11.kp b11 m11
 have GCm := vE (P := l.prog) (w := w) (base := base) F42 T JF F38.kp JD JE GAs F41.kp b41 m41 GFB F14.kp b14 m14
 have GNb := Gj (P := l.prog) (w := w) (base := base) F43 T JF F38.kp JD JE
 have Xu := aN (st := nK) lg0 cg0 kg0
 have bm0 := Xu.binds (ps := ["self", "rows", "boxes", "cells", "bells"]) fun _ _ _ _ _ _ us hl => match us,hl with | [_,_,_,_,_],_ => rfl
 have VZ := aN (st := nO) lg1 cg1 kg1
 have Xv := VZ.binds (ps := ["self"]) fun _ _ _ _ _ _ us hl => match us,hl with | [_],_ => rfl
 have Xw := aN (st := ic) lg2 cg2 kg2
 have bm2 := Xw.binds (ps := ["self"]) fun _ _ _ _ _ _ us hl => match us,hl with | [_],_ => rfl
 have Xx := aN (st := jH) lg3 cg3 kg3
 have bm3 := Xx.binds (ps := ["self"]) fun _ _ _ _ _ _ us hl => match us,hl with | [_],_ => rfl
 have Xy := aN (st := jI) lg4 cg4 kg4
 have bm4 := Xy.binds (ps := ["self"]) fun _ _ _ _ _ _ us hl => match us,hl with | [_],_ => rfl
 have Xz := aN (st := ie) lg5 cg5 kg5
 have bm5 := Xz.binds (ps := ["self"]) fun _ _ _ _ _ _ us hl => match us,hl with | [_],_ => rfl
 have XA := aN (st := nU) lg6 cg6 kg6
 have bm6 := XA.binds (ps := ["self"]) fun _ _ _ _ _ _ us hl => match us,hl with | [_],_ => rfl
 have XB := aN (st := nV) lg7 cg7 kg7
 have bm7 := XB.binds (ps := ["self"]) fun _ _ _ _ _ _ us hl => match us,hl with | [_],_ => rfl
 have XC := aN (st := nW) lg8 cg8 kg8
 have bm8 := XC.binds (ps := ["self"]) fun _ _ _ _ _ _ us hl => match us,hl with | [_],_ => rfl
 have XD := aN (st := ig) lg9 cg9 kg9
 have bm9 := XD.binds (ps := ["self"]) fun _ _ _ _ _ _ us hl => match us,hl with | [_],_ => rfl
 have IZ := aN (st := nQ) lg10 cg10 kg10
 have V0 := IZ.binds (ps := ["self"]) fun _ _ _ _ _ _ us hl => match us,hl with | [_],_ => rfl
 have MT : gE K mg C := ⟨⟨pg,hd,po,sa⟩,n_program,n_in_boxes,n_in_cells,n_in_asides,n_rung,n_told_numbers,n_seen_numbers,n_pile,n_marks_done,n_here,n_how_ended⟩
 have GE := Dx (P := l.prog) (w := w) (base := base) F15 MT
 have XF := vt (P := l.prog) (w := w) (base := base) F36 T
 have GCa := tW (P := l.prog) (w := w) (base := base) F33 MT
 have DD : B1 l.prog w K mg base C pE := ⟨⟨Gq,_,⟨lP,nE,lE,kE,oE,_,e_stop,rfl⟩,AX F16 MT GE F15.kp VX VY,b16,F16.kp⟩,⟨Gr,_,⟨lP,nE,lE,kE,oE,_,e_halt,rfl⟩,AZ F17 MT GE F15.kp VX VY,b17,F17.kp⟩,⟨Gu,_,⟨lP,nE,lE,kE,oE,_,e_back,rfl⟩,A1 F18 MT GE F15.kp VX VY T.len,b18,F18.kp⟩,⟨Gv,_,⟨lP,nE,lE,kE,oE,_,e_set,rfl⟩,(Dz (P := l.prog) (base := base) F19 MT).mono (by decide),b19,F19.kp⟩,⟨Gw,_,⟨lP,nE,lE,kE,oE,_,e_more,rfl⟩,(Aw (P := l.prog) (base := base) F20 MT).mono (by decide),b20,F20.kp⟩,⟨Gx,_,⟨lP,nE,lE,kE,oE,_,e_copy,rfl⟩,(Ay (P := l.prog) (base := base) F21 MT).mono (by decide),b21,F21.kp⟩,⟨Gy,_,⟨lP,nE,lE,kE,oE,_,e_add,rfl⟩,(DB (P := l.prog) (base := base) F22 MT).mono (by decide),b22,F22.kp⟩,⟨Gz,_,⟨lP,nE,lE,kE,oE,_,e_less,rfl⟩,(AB (P := l.prog) (base := base) F23 MT).mono (by decide),b23,F23.kp⟩,⟨GH,_,⟨lP,nE,lE,kE,oE,_,e_load,rfl⟩,(AG (P := l.prog) (base := base) F24 MT).mono (by decide),b24,F24.kp⟩,⟨GJ,_,⟨lP,nE,lE,kE,oE,_,e_keep,rfl⟩,(AK (P := l.prog) (base := base) F25 MT).mono (by decide),b25,F25.kp⟩,⟨GK,_,⟨lP,nE,lE,kE,oE,_,e_tell,rfl⟩,(AQ (P := l.prog) (base := base) F26 MT).mono (by decide),b26,F26.kp⟩,⟨GO,_,⟨lP,nE,lE,kE,oE,_,e_see,rfl⟩,(DG (P := l.prog) (base := base) F27 MT).mono (by decide),b27,F27.kp⟩,⟨GQ,_,⟨lP,nE,lE,kE,oE,_,e_put,rfl⟩,(DE (P := l.prog) (base := base) F28 MT).mono (by decide),b28,F28.kp⟩,⟨GU,_,⟨lP,nE,lE,kE,oE,_,e_take,rfl⟩,(AI (P := l.prog) (base := base) F29 MT).mono (by decide),b29,F29.kp⟩,⟨GV,_,⟨lP,nE,lE,kE,oE,_,e_jump,rfl⟩,(AT (P := l.prog) (base := base) F30 MT).mono (by decide),b30,F30.kp⟩,⟨GX,_,⟨lP,nE,lE,kE,oE,_,e_zero,rfl⟩,(AV (P := l.prog) (base := base) F31 MT).mono (by decide),b31,F31.kp⟩,⟨f32,_,⟨lP,nE,lE,kE,oE,_,e_below,rfl⟩,(yg (P := l.prog) (base := base) F32 MT).mono (by decide),b32,F32.kp⟩,⟨GY,_,⟨lP,nE,lE,kE,oE,_,e_call,rfl⟩,(tW (P := l.prog) (base := base) F33 MT).mono (by decide),Xk,F33.kp⟩,⟨GZ,_,⟨lP,nE,lE,kE,oE,_,e_mark,rfl⟩,A3 F34 MT GCa F33.kp Xk m33,b34,F34.kp⟩,⟨Ha,_,⟨lP,nE,lE,kE,oE,_,e_table,rfl⟩,(yh (P := l.prog) (base := base) F35 MT T.len).mono (by decide),b35,F35.kp⟩⟩
 have AA : Acc l.prog w K mg base C := ⟨MT,⟨g1,_,⟨ag1,ig1,kg1⟩,uc VZ T MT,Xv⟩,⟨g2,_,⟨ag2,ig2,kg2⟩,vp Xw T MT,bm2⟩,⟨g3,_,⟨ag3,ig3,kg3⟩,yl Xx T MT,bm3⟩,⟨g4,_,⟨ag4,ig4,kg4⟩,yq Xy T MT XF F36.kp Xl Xm,bm4⟩,⟨g5,_,⟨ag5,ig5,kg5⟩,vw Xz T MT XF F36.kp Xl Xm,bm5⟩,⟨g6,_,⟨ag6,ig6,kg6⟩,A8 XA T MT,bm6⟩,⟨g7,_,⟨ag7,ig7,kg7⟩,A9 XB T MT,bm7⟩,⟨g8,_,⟨ag8,ig8,kg8⟩,Ba XC T MT,bm8⟩,⟨g9,_,⟨ag9,ig9,kg9⟩,vq XD T MT,bm9⟩⟩
 have GSa := Bq (P := l.prog) (w := w) (base := base) F44 T AA
 exact DV F45 T GPr F40.kp b40 m40 GCm F42.kp b42 m42 GC F37.kp Xn Xo GNb F43.kp b43 m43 JF F38.kp JD JE GSa F44.kp b44 m44 MT (mg_of X G aC) ⟨mkc,ag0,ig0,kc⟩ (A5 Xu T MT) bm0 ⟨ag1,ig1,kg1⟩ (uc VZ T MT) Xv ⟨ag10,ig10,kg10⟩ (Bd IZ MT (mg_of X G aE) DD) V0
theorem walk {l : OpenLaw} {q : Program} {loose : List Str} {XP : (Str → Option Value) → Heap → Prop} {YP : World → Heap → Prop} {d : DefRec} {K : Params → Frag} (hn : l.most = some 63) (hdf : d.params.defaults = [])
  (hY : ∀ (w : World) (h : Heap),YP w h → (K w.params).In h)
  (F : ∀ (w : World) (mg : Str → Option Value) (fa : Addr) (h : Heap),(K w.params).In h → h.Ns mainGlobals mg → mg d.name = some (.ref fa) →
   ∃ fd : FuncData,(∀ (s : Shared) (u : Value),BindsTo s fd ⟨[u],[]⟩ [("_law_script",u)]) ∧ ∀ base : Heap,(K w.params).In base → base.Ns mainGlobals mg → aK l.prog w (K w.params) mg base bM 8 fa fd ["_law_script"] (uy (K := K w.params))) :
  WalkO q loose XP YP l.row.toRowW d [] (fun f vs => PySem.call f vs) :=
 L2.sT (n := 63) (k := 8) (x := "_law_script") (CX := fun _ => bM) (sp := fun w => uy (K := K w.params)) hn (by decide) hdf ⟨rfl,by decide,by decide⟩ hY F (fun _ _ a ns hl _ hS => ⟨a,ns,rfl,hS,hl,fun _ => rfl⟩) fun _ _ _ _ _ z => z
end My
open PySem PySem.W PyProof.Rows
set_option maxRecDepth 100000 in
set_option maxHeartbeats 0 in
theorem PySem.Challenge.cw_widenrows_k94_whole_free_boxes_change_no_holds : PySem.Challenge.rw_widenrows_k94_whole_free_boxes_change_no.Holds := by
 w_on; o_law; k_head; (case hw => w_witness2)
 k_fill
 refine My.walk (l := PySem.Challenge.rw_widenrows_k94_whole_free_boxes_change_no) rfl rfl (fun w h Y => kIn_of Y) ?F
 case F =>
  intro w mg fa h KX G hmg
  refine' My.all_mk KX G hmg ?a0 ?l0 ?c0 ?k0 ?a1 ?l1 ?c1 ?k1 ?a2 ?l2 ?c2 ?k2 ?a3 ?l3 ?c3 ?k3 ?a4 ?l4 ?c4 ?k4 ?a5 ?l5 ?c5 ?k5 ?a6 ?l6 ?c6 ?k6 ?a7 ?l7 ?c7 ?k7 ?a8 ?l8 ?c8 ?k8 ?a9 ?l9 ?c9 ?k9 ?a10 ?l10 ?c10 ?k10 ?a11 ?l11 ?c11 ?k11 ?a12 ?l12 ?c12 ?k12 ?a13 ?l13 ?c13 ?k13 ?a14 ?l14 ?c14 ?k14 ?a15 ?l15 ?c15 ?k15 ?a16 ?l16 ?c16 ?k16 ?a17 ?l17 ?c17 ?k17 ?a18 ?l18 ?c18 ?k18 ?a19 ?l19 ?c19 ?k19 ?a20 ?l20 ?c20 ?k20 ?a21 ?l21 ?c21 ?k21 ?a22 ?l22 ?c22 ?k22 ?a23 ?l23 ?c23 ?k23 ?a24 ?l24 ?c24 ?k24 ?a25 ?l25 ?c25 ?k25 ?a26 ?l26 ?c26 ?k26 ?a27 ?l27 ?c27 ?k27 ?a28 ?l28 ?c28 ?k28 ?a29 ?l29 ?c29 ?k29 ?a30 ?l30 ?c30 ?k30 ?a31 ?l31 ?c31 ?k31 ?a32 ?l32 ?c32 ?k32 ?a33 ?l33 ?c33 ?k33 ?a34 ?l34 ?c34 ?k34 ?a35 ?l35 ?c35 ?k35 ?a36 ?l36 ?c36 ?k36 ?a37 ?l37 ?c37 ?k37 ?a38 ?l38 ?c38 ?k38 ?a39 ?l39 ?c39 ?k39 ?a40 ?l40 ?c40 ?k40 ?a41 ?l41 ?c41 ?k41 ?a42 ?l42 ?c42 ?k42 ?a43 ?l43 ?c43 ?k43 ?a44 ?l44 ?c44 ?k44 ?a45 ?l45 ?c45 ?k45 ?aT0 ?lT0 ?aT1 ?lT1 ?aT2 ?lT2 ?z_set ?z_sorted ?z_list ?z_int ?z_bool ?z_tuple ?z_isinstance ?z_min ?z_range ?z_len ?z_all ?z_enumerate ?z_max ?z_dict ?z_abs ?aB ?lB ?kB ?oB ?eB0 ?lB0 ?eB1 ?lB1 ?eB2 ?lB2 ?eB3 ?lB3 ?eB4 ?lB4 ?eB5 ?lB5 ?eB6 ?lB6 ?eB7 ?lB7 ?eB8 ?lB8 ?eB9 ?lB9 ?eB10 ?lB10 ?eB11 ?lB11 ?x0 ?x1 ?x2 ?x3 ?x4 ?x5 ?x6 ?x7 ?aD ?lD ?kD ?oD ?eD0 ?lD0 ?xNoFree ?xRowError ?agI ?igI ?lgI ?cgI ?kgI ?xlk ?xq ?xrt ?xsa ?xna ?xnt ?xhd ?xga ?xgh ?xcl ?xgt ?xtk ?xob ?xbx ?xci ?xsg ?xrr ?xfi ?xkc ?xexm ?xown ?xval ?aAB ?lAB ?xeq1 ?aC ?ag0 ?ig0 ?lg0 ?cg0 ?kg0 ?ag1 ?ig1 ?lg1 ?cg1 ?kg1 ?ag2 ?ig2 ?lg2 ?cg2 ?kg2 ?ag3 ?ig3 ?lg3 ?cg3 ?kg3 ?ag4 ?ig4 ?lg4 ?cg4 ?kg4 ?ag5 ?ig5 ?lg5 ?cg5 ?kg5 ?ag6 ?ig6 ?lg6 ?cg6 ?kg6 ?ag7 ?ig7 ?lg7 ?cg7 ?kg7 ?ag8 ?ig8 ?lg8 ?cg8 ?kg8 ?ag9 ?ig9 ?lg9 ?cg9 ?kg9 ?ag10 ?ig10 ?lg10 ?cg10 ?kg10 ?pg ?hd ?po ?sa ?mkc ?kc ?n_program ?n_in_boxes ?n_in_cells ?n_in_asides ?n_rung ?n_told_numbers ?n_seen_numbers ?n_pile ?n_marks_done ?n_here ?n_how_ended ?aE ?lE ?kE ?oE ?e_stop ?e_halt ?e_back ?e_set ?e_more ?e_copy ?e_add ?e_less ?e_load ?e_keep ?e_tell ?e_see ?e_put ?e_take ?e_jump ?e_zero ?e_below ?e_call ?e_mark ?e_table
  (case a0 => k_is)
  (case l0 => k_is)
  (case c0 => k_is)
  (case k0 => k_is)
  (case a1 => k_is)
  (case l1 => k_is)
  (case c1 => k_is)
  (case k1 => k_is)
  (case a2 => k_is)
  (case l2 => k_is)
  (case c2 => k_is)
  (case k2 => k_is)
  (case a3 => k_is)
  (case l3 => k_is)
  (case c3 => k_is)
  (case k3 => k_is)
  (case a4 => k_is)
  (case l4 => k_is)
  (case c4 => k_is)
  (case k4 => k_is)
  (case a5 => k_is)
  (case l5 => k_is)
  (case c5 => k_is)
  (case k5 => k_is)
  (case a6 => k_is)
  (case l6 => k_is)
  (case c6 => k_is)
  (case k6 => k_is)
  (case a7 => k_is)
  (case l7 => k_is)
  (case c7 => k_is)
  (case k7 => k_is)
  (case a8 => k_is)
  (case l8 => k_is)
  (case c8 => k_is)
  (case k8 => k_is)
  (case a9 => k_is)
  (case l9 => k_is)
  (case c9 => k_is)
  (case k9 => k_is)
  (case a10 => k_is)
  (case l10 => k_is)
  (case c10 => k_is)
  (case k10 => k_is)
  (case a11 => k_is)
  (case l11 => k_is)
  (case c11 => k_is)
  (case k11 => k_is)
  (case a12 => k_is)
  (case l12 => k_is)
  (case c12 => k_is)
  (case k12 => k_is)
  (case a13 => k_is)
  (case l13 => k_is)
  (case c13 => k_is)
  (case k13 => k_is)
  (case a14 => k_is)
  (case l14 => k_is)
  (case c14 => k_is)
  (case k14 => k_is)
  (case a15 => k_is)
  (case l15 => k_is)
  (case c15 => k_is)
  (case k15 => k_is)
  (case a16 => k_is)
  (case l16 => k_is)
  (case c16 => k_is)
  (case k16 => k_is)
  (case a17 => k_is)
  (case l17 => k_is)
  (case c17 => k_is)
  (case k17 => k_is)
  (case a18 => k_is)
  (case l18 => k_is)
  (case c18 => k_is)
  (case k18 => k_is)
  (case a19 => k_is)
  (case l19 => k_is)
  (case c19 => k_is)
  (case k19 => k_is)
  (case a20 => k_is)
  (case l20 => k_is)
  (case c20 => k_is)
  (case k20 => k_is)
  (case a21 => k_is)
  (case l21 => k_is)
  (case c21 => k_is)
  (case k21 => k_is)
  (case a22 => k_is)
  (case l22 => k_is)
  (case c22 => k_is)
  (case k22 => k_is)
  (case a23 => k_is)
  (case l23 => k_is)
  (case c23 => k_is)
  (case k23 => k_is)
  (case a24 => k_is)
  (case l24 => k_is)
  (case c24 => k_is)
  (case k24 => k_is)
  (case a25 => k_is)
  (case l25 => k_is)
  (case c25 => k_is)
  (case k25 => k_is)
  (case a26 => k_is)
  (case l26 => k_is)
  (case c26 => k_is)
  (case k26 => k_is)
  (case a27 => k_is)
  (case l27 => k_is)
  (case c27 => k_is)
  (case k27 => k_is)
  (case a28 => k_is)
  (case l28 => k_is)
  (case c28 => k_is)
  (case k28 => k_is)
  (case a29 => k_is)
  (case l29 => k_is)
  (case c29 => k_is)
  (case k29 => k_is)
  (case a30 => k_is)
  (case l30 => k_is)
  (case c30 => k_is)
  (case k30 => k_is)
  (case a31 => k_is)
  (case l31 => k_is)
  (case c31 => k_is)
  (case k31 => k_is)
  (case a32 => k_is)
  (case l32 => k_is)
  (case c32 => k_is)
  (case k32 => k_is)
  (case a33 => k_is)
  (case l33 => k_is)
  (case c33 => k_is)
  (case k33 => k_is)
  (case a34 => k_is)
  (case l34 => k_is)
  (case c34 => k_is)
  (case k34 => k_is)
  (case a35 => k_is)
  (case l35 => k_is)
  (case c35 => k_is)
  (case k35 => k_is)
  (case a36 => k_is)
  (case l36 => k_is)
  (case c36 => k_is)
  (case k36 => k_is)
  (case a37 => k_is)
  (case l37 => k_is)
  (case c37 => k_is)
  (case k37 => k_is)
  (case a38 => k_is)
  (case l38 => k_is)
  (case c38 => k_is)
  (case k38 => k_is)
  (case a39 => k_is)
  (case l39 => k_is)
  (case c39 => k_is)
  (case k39 => k_is)
  (case a40 => k_is)
  (case l40 => k_is)
  (case c40 => k_is)
  (case k40 => k_is)
  (case a41 => k_is)
  (case l41 => k_is)
  (case c41 => k_is)
  (case k41 => k_is)
  (case a42 => k_is)
  (case l42 => k_is)
  (case c42 => k_is)
  (case k42 => k_is)
  (case a43 => k_is)
  (case l43 => k_is)
  (case c43 => k_is)
  (case k43 => k_is)
  (case a44 => k_is)
  (case l44 => k_is)
  (case c44 => k_is)
  (case k44 => k_is)
  (case a45 => k_is)
  (case l45 => k_is)
  (case c45 => k_is)
  (case k45 => k_is)
  (case aT0 => k_is)
  (case lT0 => k_is)
  (case aT1 => k_is)
  (case lT1 => k_is)
  (case aT2 => k_is)
  (case lT2 => k_is)
  (case z_set => k_is)
  (case z_sorted => k_is)
  (case z_list => k_is)
  (case z_int => k_is)
  (case z_bool => k_is)
  (case z_tuple => k_is)
  (case z_isinstance => k_is)
  (case z_min => k_is)
  (case z_range => k_is)
  (case z_len => k_is)
  (case z_all => k_is)
  (case z_enumerate => k_is)
  (case z_max => k_is)
  (case z_dict => k_is)
  (case z_abs => k_is)
  (case aB => k_is)
  (case lB => k_is)
  (case kB => k_keys)
  (case oB => first | exact rfl | decide | k_is)
  (case eB0 => k_is)
  (case lB0 => k_is)
  (case eB1 => k_is)
  (case lB1 => k_is)
  (case eB2 => k_is)
  (case lB2 => k_is)
  (case eB3 => k_is)
  (case lB3 => k_is)
  (case eB4 => k_is)
  (case lB4 => k_is)
  (case eB5 => k_is)
  (case lB5 => k_is)
  (case eB6 => k_is)
  (case lB6 => k_is)
  (case eB7 => k_is)
  (case lB7 => k_is)
  (case eB8 => k_is)
  (case lB8 => k_is)
  (case eB9 => k_is)
  (case lB9 => k_is)
  (case eB10 => k_is)
  (case lB10 => k_is)
  (case eB11 => k_is)
  (case lB11 => k_is)
  (case x0 => k_is)
  (case x1 => k_is)
  (case x2 => k_is)
  (case x3 => k_is)
  (case x4 => k_is)
  (case x5 => k_is)
  (case x6 => k_is)
  (case x7 => k_is)
  (case aD => k_is)
  (case lD => k_is)
  (case kD => k_keys)
  (case oD => first | exact rfl | decide | k_is)
  (case eD0 => k_is)
  (case lD0 => k_is)
  (case xNoFree => k_is)
  (case xRowError => k_is)
  (case agI => k_is)
  (case igI => k_is)
  (case lgI => k_is)
  (case cgI => k_is)
  (case kgI => k_is)
  (case xlk => k_is)
  (case xq => k_exc)
  (case xrt => k_is)
  (case xsa => k_is)
  (case xna => k_is)
  (case xnt => k_is)
  (case xhd => k_is)
  (case xga => k_is)
  (case xgh => k_is)
  (case xcl => k_is)
  (case xgt => k_is)
  (case xtk => k_is)
  (case xob => k_is)
  (case xbx => k_is)
  (case xci => k_is)
  (case xsg => k_is)
  (case xrr => k_is)
  (case xfi => k_is)
  (case xkc => k_is)
  (case xexm => kts_exm)
  (case xown => kit_is)
  (case xval => kit_is)
  (case aAB => k_is)
  (case lAB => k_is)
  (case xeq1 => kts_exm)
  (case aC => k_is)
  (case ag0 => k_is)
  (case ig0 => k_is)
  (case lg0 => k_is)
  (case cg0 => k_is)
  (case kg0 => k_is)
  (case ag1 => k_is)
  (case ig1 => k_is)
  (case lg1 => k_is)
  (case cg1 => k_is)
  (case kg1 => k_is)
  (case ag2 => k_is)
  (case ig2 => k_is)
  (case lg2 => k_is)
  (case cg2 => k_is)
  (case kg2 => k_is)
  (case ag3 => k_is)
  (case ig3 => k_is)
  (case lg3 => k_is)
  (case cg3 => k_is)
  (case kg3 => k_is)
  (case ag4 => k_is)
  (case ig4 => k_is)
  (case lg4 => k_is)
  (case cg4 => k_is)
  (case kg4 => k_is)
  (case ag5 => k_is)
  (case ig5 => k_is)
  (case lg5 => k_is)
  (case cg5 => k_is)
  (case kg5 => k_is)
  (case ag6 => k_is)
  (case ig6 => k_is)
  (case lg6 => k_is)
  (case cg6 => k_is)
  (case kg6 => k_is)
  (case ag7 => k_is)
  (case ig7 => k_is)
  (case lg7 => k_is)
  (case cg7 => k_is)
  (case kg7 => k_is)
  (case ag8 => k_is)
  (case ig8 => k_is)
  (case lg8 => k_is)
  (case cg8 => k_is)
  (case kg8 => k_is)
  (case ag9 => k_is)
  (case ig9 => k_is)
  (case lg9 => k_is)
  (case cg9 => k_is)
  (case kg9 => k_is)
  (case ag10 => k_is)
  (case ig10 => k_is)
  (case lg10 => k_is)
  (case cg10 => k_is)
  (case kg10 => k_is)
  (case pg => k_is)
  (case hd => k_is)
  (case po => k_is)
  (case sa => k_is)
  (case mkc => k_is)
  (case kc => k_is)
  (case n_program => k_is)
  (case n_in_boxes => k_is)
  (case n_in_cells => k_is)
  (case n_in_asides => k_is)
  (case n_rung => k_is)
  (case n_told_numbers => k_is)
  (case n_seen_numbers => k_is)
  (case n_pile => k_is)
  (case n_marks_done => k_is)
  (case n_here => k_is)
  (case n_how_ended => k_is)
  (case aE => k_is)
  (case lE => k_is)
  (case kE => k_keys)
  (case oE => first | exact rfl | decide | k_is)
  (case e_stop => k_is)
  (case e_halt => k_is)
  (case e_back => k_is)
  (case e_set => k_is)
  (case e_more => k_is)
  (case e_copy => k_is)
  (case e_add => k_is)
  (case e_less => k_is)
  (case e_load => k_is)
  (case e_keep => k_is)
  (case e_tell => k_is)
  (case e_see => k_is)
  (case e_put => k_is)
  (case e_take => k_is)
  (case e_jump => k_is)
  (case e_zero => k_is)
  (case e_below => k_is)
  (case e_call => k_is)
  (case e_mark => k_is)
  (case e_table => k_is)
#print axioms PySem.Challenge.cw_widenrows_k94_whole_free_boxes_change_no_holds
