import PyProof.Rows.All
import Wide.All
import OpenK.AllK
import Wide.FinOn
import Lean
import PyProof.EqAt
import PyProof.EqKinds
import PyProof.TupleCall
import PyProof.NeKinds
import PyProof.ListRange
import KE.KDictSum
import Wide.Seal
import PyProof.EnumIter
import PyProof.EnumFor
import PyProof.EnumMake
import PyProof.EnumStmt
import PyProof.ConsumeWalk
import KE.KPairComp
import PyProof.DictItemsLoops
import KE.KEqDict
import PyProof.AttrMissSeq
import PyProof.CollectWalk
import OpenK.KTop
import PyProof.TupleOps
import PyProof.ListMulRoad
import PyProof.FactsAll.tuple_2
import PyProof.StrBlock2
import PyProof.Rows.SortWalk
import KE.KFind
import PyProof.StationsW
import PyProof.Rows.OwnQ
import OpenK.KOwn
import KE.KTryMore
import PyProof.NsDelKeeps
import PyProof.ExcArgsOwn
import PyProof.ExcAttrAll.ValueError
import PyProof.InstStoreFacts
import PyProof.ExcBaseAll.ValueError
import PyProof.Rows.FStr
import OpenK.KCls
import KE.LcSums
import PyProof.Cells
import PyProof.Rows.TupAdd
import PyProof.ZipIter
import PyProof.TupleIter
import PyProof.WalksMore
import KE.KTurns
import PyProof.FactsAll.tuple_0
import PyProof.FactsAll.tuple_1
import PyProof.FactsAll.tuple_3
import PySem.Challenge.RW_widenrows_k14_units_read_and_spoilt
set_option Elab.async false
set_option linter.all false
set_option maxRecDepth 100000
namespace L2
open PySem PySem.Spec PyProof.Rows
abbrev Key := Sum Int Str
def pO : Key → Value → Bool
 | .inl k,v => Value.isInt k v
 | .inr x,v => Value.isStrOf x v
def O2 (w : World) : Key → Int
 | .inl k => hashInt k
 | .inr x => hashStr w x
theorem cN : ∀ {k : Key} {v : Value},pO k v = true → (∃ i t,k = Sum.inl i ∧ v = Value.int i t) ∨ (∃ x t,k = Sum.inr x ∧ v = Value.str x t)
 | .inl i,v,h => by
  obtain ⟨t,e⟩ := Value.isInt_shape (k := i) (v := v) h
  exact .inl ⟨i,t,rfl,e⟩
 | .inr x,v,h => by
  obtain ⟨t,e⟩ := Value.isStrOf_shape (x := x) (v := v) h
  exact .inr ⟨x,t,rfl,e⟩
theorem yj (i : Int) (t : Tok) : pO (.inl i) (.int i t) = true := by simp [pO,Value.isInt]
theorem yk (x : Str) (t : Tok) : pO (.inr x) (.str x t) = true := by simp [pO,Value.isStrOf]
theorem Fn (a b : Int) : decide ((Sum.inl a : Key) = Sum.inl b) = (a == b) := by
 by_cases e : a = b
 ·subst e; simp
 ·have h : ¬ (Sum.inl a : Key) = Sum.inl b := fun q => e (Sum.inl.inj q)
  rw [decide_eq_false h]
  exact (beq_eq_false_iff_ne.mpr e).symm
theorem Fo (a b : Str) : decide ((Sum.inr a : Key) = Sum.inr b) = decide (a = b) := by
 by_cases e : a = b
 ·subst e; simp
 ·have h : ¬ (Sum.inr a : Key) = Sum.inr b := fun q => e (Sum.inr.inj q)
  rw [decide_eq_false h,decide_eq_false e]
theorem Fp (a : Int) (b : Str) : decide ((Sum.inl a : Key) = Sum.inr b) = false := decide_eq_false (fun q => nomatch q)
theorem Fq (a : Str) (b : Int) : decide ((Sum.inr a : Key) = Sum.inl b) = false := decide_eq_false (fun q => nomatch q)
def cz (prog : Program) (w : World) : PySem.KeyKind prog w Key where
 is := pO
 hash := O2 w
 inj := fun v a b ha hb => by
  rcases cN ha with ⟨i,t,rfl,rfl⟩ | ⟨x,t,rfl,rfl⟩
  ·rcases cN hb with ⟨j,u,rfl,e⟩ | ⟨y,u,rfl,e⟩
   ·injection e with e1 _; rw [e1]
   ·exact nomatch e
  ·rcases cN hb with ⟨j,u,rfl,e⟩ | ⟨y,u,rfl,e⟩
   ·exact nomatch e
   ·injection e with e1 _; rw [e1]
 byValue := fun k v h => by
  rcases cN h with ⟨i,t,rfl,rfl⟩ | ⟨x,t,rfl,rfl⟩ <;> rfl
 pyHash := fun hv h => by
  rcases cN hv with ⟨i,t,rfl,rfl⟩ | ⟨x,t,rfl,rfl⟩
  ·exact wpAny_pyHash_int h
  ·exact wpAny_pyHash_str h
 eqBool := fun hu hv h => by
  rcases cN hu with ⟨i,t,rfl,rfl⟩ | ⟨x,t,rfl,rfl⟩
  ·rcases cN hv with ⟨j,u,rfl,rfl⟩ | ⟨y,u,rfl,rfl⟩
   ·rw [Fn] at h; exact wpAny_eqBool_int h
   ·rw [Fp] at h; exact SeqAt.EqAt.int_str i t y u _ _ _ _ h
  ·rcases cN hv with ⟨j,u,rfl,rfl⟩ | ⟨y,u,rfl,rfl⟩
   ·rw [Fq] at h; exact SeqAt.EqAt.str_int x t j u _ _ _ _ h
   ·rw [Fo] at h; exact wpAny_eqBool_str h
 «strs» := fun k x t v h => by
  rcases cN h with ⟨i,u,rfl,e⟩ | ⟨y,u,rfl,e⟩
  ·exact nomatch e
  ·injection e with e1 _
   subst e1
   cases v <;> rfl
theorem sP (prog : Program) (w : World) (i : Int) (t : Tok) : (cz prog w).is (.inl i) (.int i t) = true := yj i t
theorem sQ (prog : Program) (w : World) (x : Str) (t : Tok) : (cz prog w).is (.inr x) (.str x t) = true := yk x t
inductive V where
 | non | bl (b : Bool) | int (i : Int) | str (x : Str) | zt (b : Array UInt8) | flt (b : UInt64) | ref (a : Addr) | ty (n : String)
 deriving DecidableEq
def RelV : V → Value → Prop
 | .non,u => u = Value.none
 | .bl b,u => u = Value.bool b
 | .int i,u => ∃ t,u = Value.int i t
 | .str x,u => ∃ t,u = Value.str x t
 | .zt b,u => ∃ t,u = Value.bytes b t
 | .flt b,u => ∃ t,u = Value.float b t
 | .ref a,u => u = Value.ref a
 | .ty n,u => u = Value.type n
abbrev Vals : List V → List Value → Prop := Paired RelV
theorem Vals.length {xs : List V} {us : List Value} (r : Vals xs us) : xs.length = us.length := Paired.length r
theorem Vals.get : ∀ {xs : List V} {us : List Value} {i : Nat} {x : V},Vals xs us → xs[i]? = some x → ∃ u,us[i]? = some u ∧ RelV x u
 | _,_,_,_,.nil,e => by simp at e
 | _,_,0,_,.cons r _,e => by simp at e; subst e; exact ⟨_,rfl,r⟩
 | _,_,i + 1,x,.cons _ t,e => by
  obtain ⟨u,h1,h2⟩ := Vals.get (i := i) (x := x) t (by simpa using e)
  exact ⟨u,by simpa using h1,h2⟩
theorem Vals.set {x : V} {u : Value} (r : RelV x u) : ∀ {xs : List V} {us : List Value} (i : Nat),Vals xs us → Vals (xs.set i x) (us.set i u)
 | _,_,_,.nil => .nil
 | _,_,0,.cons _ t => .cons r t
 | _,_,i + 1,.cons q t => .cons q (Vals.set r i t)
theorem Vals.append : ∀ {xs ys : List V} {us ws : List Value},Vals xs us → Vals ys ws → Vals (xs ++ ys) (us ++ ws)
 | _,_,_,_,.nil,s => s
 | _,_,_,_,.cons r t,s => .cons r (Vals.append t s)
theorem Vals.take : ∀ {xs : List V} {us : List Value} (n : Nat),Vals xs us → Vals (xs.take n) (us.take n)
 | _,_,0,_ => .nil
 | _,_,_ + 1,.nil => .nil
 | _,_,n + 1,.cons r t => .cons r (Vals.take n t)
theorem Vals.drop : ∀ {xs : List V} {us : List Value} (n : Nat),Vals xs us → Vals (xs.drop n) (us.drop n)
 | _,_,0,r => r
 | _,_,_ + 1,.nil => .nil
 | _,_,n + 1,.cons _ t => Vals.drop n t
def jU : Option V → Option Value → Prop
 | some v,some u => RelV v u
 | none,none => True
 | _,_ => False
def KV {κ : Type} : List (κ × V) → List (κ × Value) → Prop := Paired fun (p : κ × V) (q : κ × Value) => p.1 = q.1 ∧ RelV p.2 q.2
def kV : Key → V
 | .inl i => .int i
 | .inr x => .str x
inductive HO where
 | lst (xs : List V)
 | tup (xs : List V)
 | dK (kvs : List (Key × V)) | dT (kvs : List (List Key × V))
 | set (S : Int → Bool) (n : Nat)
 | ins (C dx : Addr) (fs : List (Str × V))
 | own (x : Addr)
 | xd (fs : List (Str × V))
 | met (f x : Addr)
 | rng (lo hi : Int)
 | sR (o : Obj) (u : HO)
 | Ei (ps : Array Value)
 | ext (φ : Heap → Prop)
abbrev Hp := Addr → Option HO
def upd (H : Hp) (a : Addr) (o : HO) : Hp := fun b => if b = a then some o else H b
theorem ah {H : Hp} {a : Addr} {o : HO} : upd H a o a = some o := by unfold upd; rw [if_pos rfl]
theorem aX {H : Hp} {a b : Addr} {o : HO} (h : b ≠ a) : upd H a o b = H b := by unfold upd; rw [if_neg h]
theorem Jr {H : Hp} {a b : Addr} {o u : HO} (h : H a = some o) (h' : H b = some u) (d : o ≠ u) : a ≠ b := by
 intro e; subst e; rw [h] at h'; exact d (Option.some.inj h')
theorem cg {H : Hp} {a b : Addr} {o : HO} (h : H a = some o) (h' : H b = none) : a ≠ b := by
 intro e; subst e; rw [h] at h'; cases h'
section
variable (P : Program) (w : World)
def cD (H : Hp) (h : Heap) (a : Addr) : HO → Prop
 | .lst xs => xs.length ≤ sizeLine ∧ ∃ (its : List Value) (n : Nat),Vals xs its ∧ h.get? a = some { cls := .type "list",data := .seq its.toArray n }
 | .tup xs => xs.length ≤ sizeLine ∧ ∃ its : List Value,Vals xs its ∧ IsTup h a its.toArray
 | .dK kvs => kvs.length ≤ sizeLine ∧ (a == sysModules) = false ∧ ∃ vs,KV kvs vs ∧ h.DictOf (cz P w) a vs
 | .dT kvs => kvs.length ≤ sizeLine ∧ (a == sysModules) = false ∧ ∃ xs : List (List Key × Addr × Value),
   Paired (fun (p : List Key × V) (q : List Key × Addr × Value) => p.1 = q.1 ∧ H q.2.1 = some (.tup (p.1.map kV)) ∧ RelV p.2 q.2.2) kvs xs ∧
   ∃ o es ep,h.get? a = some o ∧ o.ExactDict ∧ o.data = .dict es ep ∧ es.toList = xs.map (entryOfKey (tupleKind (cz P w))) ∧ (xs.map (·.1)).Nodup
 | .set S n => h.SetOf (intKind P w) a S n
 | .ins C dx fs => H dx = some (.own a) ∧ fs.length ≤ 1000 ∧ dx ≠ a ∧ h.get? a = some (PySem.W.instObj C dx) ∧
   ∃ mA,h.Ns1 dx mA ∧ (∀ f,jU (fs.lookup f) (mA f)) ∧ PySem.Within mA (fs.map (·.1))
 | .own _ => ∃ o,h.get? a = some o
 | .xd fs => ∃ mA,h.Ns1 a mA ∧ ∀ f,jU (fs.lookup f) (mA f)
 | .rng lo hi => ∃ t u v,h.get? a = some { cls := .type "range",data := .fields #[.int lo t,.int hi u,.int 1 v] }
 | .sR o u => h.get? a = some o ∧ cD H h a u
 | .Ei ps => h.get? a = some { cls := .none,data := .fields ps }
 | .met f x => h.get? a = some (PySem.W.methodObj (.ref f) (.ref x))
 | .ext φ => φ h ∧ (∃ o,h.get? a = some o) ∧ ∀ h1 h2 : Heap,φ h1 → (∀ o,h1.get? a = some o → h2.get? a = some o) → φ h2
def iG (H : Hp) (h : Heap) : Prop := ∀ a o,H a = some o → cD P w H h a o
end
section
variable {P : Program} {w : World} {H H' : Hp} {h h' : Heap} {a : Addr} {o : HO}
theorem cD.lt (x : cD P w H h a o) : a < h.objs.size := by
 cases o with
 | lst xs => obtain ⟨_,_,_,_,e⟩ := x; exact Heap.lt_size e
 | tup xs => obtain ⟨_,_,_,p⟩ := x; exact p.lt
 | dK kvs => obtain ⟨_,_,_,_,o,_,_,e,_⟩ := x; exact Heap.lt_size e
 | dT kvs => obtain ⟨_,_,_,_,o,_,_,e,_⟩ := x; exact Heap.lt_size e
 | set S n => obtain ⟨o,_,_,_,e,_⟩ := x; exact Heap.lt_size e
 | ins C dx fs => obtain ⟨_,_,_,e,_⟩ := x; exact Heap.lt_size e
 | own y => obtain ⟨_,e⟩ := x; exact Heap.lt_size e
 | xd fs => obtain ⟨_,⟨_,_,_,e,_⟩,_⟩ := x; exact Heap.lt_size e
 | rng lo hi => obtain ⟨_,_,_,e⟩ := x; exact Heap.lt_size e
 | sR ob u => obtain ⟨e,_⟩ := x; exact Heap.lt_size e
 | Ei ps => exact Heap.lt_size (show h.get? a = some _ from x)
 | met f y => exact Heap.lt_size (show h.get? a = some _ from x)
 | ext φ => obtain ⟨_,⟨_,e⟩,_⟩ := x; exact Heap.lt_size e
theorem Paired.Fs {α β : Type} {F G : α → β → Prop} : ∀ {l₁ : List α} {l₂ : List β},Paired F l₁ l₂ → (∀ a b,F a b → G a b) → Paired G l₁ l₂
 | _,_,.nil,_ => .nil
 | _,_,.cons r t,f => .cons (f _ _ r) (Paired.Fs t f)
theorem cD.stay (x : cD P w H h a o) (k : ∀ b u,(b = a ∨ H b = some (.own a)) → h.get? b = some u → h'.get? b = some u)
  (ho : ∀ b,H b = some (.own a) → H' b = some (.own a)) (ht : ∀ b xs,H b = some (.tup xs) → H' b = some (.tup xs)) : cD P w H' h' a o := by
 induction o with
 | lst xs => obtain ⟨z,its,n,r,e⟩ := x; exact ⟨z,its,n,r,k _ _ (.inl rfl) e⟩
 | tup xs => obtain ⟨z,its,r,ob,e,c⟩ := x; exact ⟨z,its,r,ob,k _ _ (.inl rfl) e,c⟩
 | dK kvs => obtain ⟨z,y,vs,r,ob,es,ep,e,c⟩ := x; exact ⟨z,y,vs,r,ob,es,ep,k _ _ (.inl rfl) e,c⟩
 | dT kvs =>
  obtain ⟨z,y,xs,r,ob,es,ep,e,c⟩ := x
  exact ⟨z,y,xs,Paired.Fs r fun p q z => ⟨z.1,ht _ _ z.2.1,z.2.2⟩,ob,es,ep,k _ _ (.inl rfl) e,c⟩
 | set S n => obtain ⟨ob,es,ep,t,e,c⟩ := x; exact ⟨ob,es,ep,t,k _ _ (.inl rfl) e,c⟩
 | ins C dx fs =>
  obtain ⟨d,z,ne,e,mA,⟨od,es,ep,e2,c⟩,r⟩ := x
  exact ⟨ho _ d,z,ne,k _ _ (.inl rfl) e,mA,⟨od,es,ep,k _ _ (.inr d) e2,c⟩,r⟩
 | own y => obtain ⟨ob,e⟩ := x; exact ⟨ob,k _ _ (.inl rfl) e⟩
 | xd fs => obtain ⟨mA,⟨od,es,ep,e,c⟩,r⟩ := x; exact ⟨mA,⟨od,es,ep,k _ _ (.inl rfl) e,c⟩,r⟩
 | rng lo hi => obtain ⟨t,u,v,e⟩ := x; exact ⟨t,u,v,k _ _ (.inl rfl) e⟩
 | sR ob u ih => obtain ⟨e,q⟩ := x; exact ⟨k _ _ (.inl rfl) e,ih q⟩
 | Ei ps =>
  have e : h.get? a = some { cls := .none,data := .fields ps } := x
  show h'.get? a = some { cls := .none,data := .fields ps }
  exact k a _ (.inl rfl) e
 | met f y =>
  have e : h.get? a = some (PySem.W.methodObj (.ref f) (.ref y)) := x
  show h'.get? a = some (PySem.W.methodObj (.ref f) (.ref y))
  exact k a _ (.inl rfl) e
 | ext φ => obtain ⟨p,⟨o,e⟩,st⟩ := x; exact ⟨st _ _ p fun o q => k _ _ (.inl rfl) q,⟨o,k _ _ (.inl rfl) e⟩,st⟩
theorem iG.lt (x : iG P w H h) (e : H a = some o) : a < h.objs.size := (x a o e).lt
theorem iG.fresh (x : iG P w H h) (e : h.objs.size ≤ a) : H a = none := by
 cases q : H a with
 | none => rfl
 | some u => exact absurd (Nat.lt_of_lt_of_le (x.lt q) e) (Nat.lt_irrefl _)
theorem iG.kept (x : iG P w H h) (k : ∀ b u,h.get? b = some u → h'.get? b = some u) : iG P w H h' := fun a o e =>
 (x a o e).stay (fun b u _ q => k b u q) (fun _ q => q) fun _ _ q => q
theorem iG.laid (x : iG P w H h) (k : ∀ b u,h.get? b = some u → h'.get? b = some u) (hp : h.objs.size ≤ a) (new : cD P w (upd H a o) h' a o) : iG P w (upd H a o) h' := fun b u e => by
 have hn := x.fresh hp
 by_cases hb : b = a
 ·subst hb; rw [ah] at e; cases e; exact new
 ·rw [aX hb] at e
  exact (x b u e).stay (fun c v _ q => k c v q) (fun c q => by rw [aX (cg q hn)]; exact q) fun c xs q => by rw [aX (cg q hn)]; exact q
end
def Rd (H : Hp) (a : Addr) (u : HO) : Prop := H a = some u ∨ ∃ o,H a = some (.sR o u)
theorem Rd.ok {P : Program} {w : World} {H : Hp} {h : Heap} {a : Addr} {u : HO} (r : Rd H a u) (x : iG P w H h) : cD P w H h a u := by
 rcases r with r | ⟨o,r⟩
 ·exact x a u r
 ·obtain ⟨_,q⟩ := x a _ r
  exact q
def Js : Option HO → Prop
 | some (.lst _) => True
 | some (.dK _) => True
 | some (.dT _) => True
 | some (.set _ _) => True
 | some (.ins _ _ _) => True
 | some (.ext _) => True
 | _ => False
section
variable {P : Program} {w : World} {H : Hp} {h h' : Heap} {x e : Addr} {o' : HO}
theorem iG.write (ok : iG P w H h) (mu : Js (H x)) (he : e = x ∨ H e = some (.own x)) (k : ∀ b u,b ≠ e → h.get? b = some u → h'.get? b = some u) (heo : ∃ u,h'.get? e = some u)
  (new : cD P w (upd H x o') h' x o') : iG P w (upd H x o') h' := fun b u q => by
 have Jt : ∀ c y,H c = some (.own y) → c ≠ x := fun c y r z => by subst z; rw [r] at mu; exact mu
 have O3 : ∀ c xs,H c = some (.tup xs) → c ≠ x := fun c xs r z => by subst z; rw [r] at mu; exact mu
 by_cases hb : b = x
 ·subst hb; rw [ah] at q; cases q; exact new
 ·rw [aX hb] at q
  by_cases hbe : b = e
  ·have q' : H b = some (.own x) := by
    rcases he with z | z
    ·exact absurd (hbe.trans z) hb
    ·rw [hbe]; exact z
   rw [q] at q'; cases q'
   obtain ⟨v,hv⟩ := heo
   exact ⟨v,by rw [hbe]; exact hv⟩
  ·refine (ok b u q).stay (fun c v hc r => k c v ?_ r) (fun c r => by rw [aX (Jt c b r)]; exact r) fun c xs r => by rw [aX (O3 c xs r)]; exact r
   rcases hc with rfl | hc
   ·exact hbe
   ·rintro rfl
    rcases he with z | z
    ·exact Jt c b hc z
    ·rw [hc] at z; cases z; exact hb rfl
end
structure Un (fs ex : List Addr) (H H' : Hp) (h h' : Heap) : Prop where
 keep : ∀ b o,h.get? b = some o → H b = none → b ∉ fs → b ∉ ex → h'.get? b = some o
 slot : ∀ b o,h.get? b = some o → H b = none → b ∈ fs → b ∉ ex → ∃ sl,h'.get? b = some { o with slots := sl }
 free : ∀ b o,h.get? b = some o → H b = none → b ∉ ex → H' b = none
 there : ∀ b o,h.get? b = some o → b ∉ ex → ∃ o',h'.get? b = some o'
 tups : ∀ b xs,H b = some (.tup xs) → H' b = some (.tup xs)
 gT : ∀ b o u,H b = some (.sR o u) → H' b = some (.sR o u)
 iH : ∀ b ps,H b = some (.Ei ps) → ∃ more,H' b = some (.Ei (ps ++ more))
section
variable {fs fs' ex ex' : List Addr} {H H1 H2 : Hp} {h h1 h2 h' : Heap} {a x e : Addr} {o : HO}
theorem Un.any (u : Un fs ex H H1 h h1) {b : Addr} {ob : Obj} (q : h.get? b = some ob) (n : H b = none) (hx : b ∉ ex) : ∃ sl,h1.get? b = some { ob with slots := sl } := by
 by_cases hb : b ∈ fs
 ·exact u.slot b ob q n hb hx
 ·exact ⟨ob.slots,u.keep b ob q n hb hx⟩
theorem Un.trans (a : Un fs ex H H1 h h1) (b : Un fs ex H1 H2 h1 h2) : Un fs ex H H2 h h2 where
 keep := fun c ob q n hc hx => b.keep c ob (a.keep c ob q n hc hx) (a.free c ob q n hx) hc hx
 slot := fun c ob q n hc hx => by
  obtain ⟨sl,e1⟩ := a.slot c ob q n hc hx
  obtain ⟨sl',e2⟩ := b.slot c _ e1 (a.free c ob q n hx) hc hx
  exact ⟨sl',e2⟩
 free := fun c ob q n hx => by
  obtain ⟨o',e1⟩ := a.there c ob q hx
  exact b.free c o' e1 (a.free c ob q n hx) hx
 there := fun c ob q hx => by
  obtain ⟨o',e1⟩ := a.there c ob q hx
  exact b.there c o' e1 hx
 tups := fun c xs q => b.tups c xs (a.tups c xs q)
 gT := fun c ob xs q => b.gT c ob xs (a.gT c ob xs q)
 iH := fun c ps q => by
  obtain ⟨m1,e1⟩ := a.iH c ps q
  obtain ⟨m2,e2⟩ := b.iH c _ e1
  exact ⟨m1 ++ m2,by rw [e2,Array.append_assoc]⟩
theorem Un.kept (k : ∀ b u,h.get? b = some u → h'.get? b = some u) : Un fs ex H H h h' :=
 ⟨fun b ob q _ _ _ => k b ob q,fun b ob q _ _ _ => ⟨ob.slots,k b ob q⟩,fun _ _ _ n _ => n,fun b ob q _ => ⟨ob,k b ob q⟩,fun _ _ q => q,fun _ _ _ q => q,fun _ ps q => ⟨#[],by rw [q]; simp⟩⟩
theorem Un.refl : Un fs ex H H h h := Un.kept fun _ _ q => q
theorem Un.laid (k : ∀ b u,h.get? b = some u → h'.get? b = some u) (hp : h.objs.size ≤ a) (hn : H a = none) : Un fs ex H (upd H a o) h h' where
 keep := fun b u q _ _ _ => k b u q
 slot := fun b u q _ _ _ => ⟨u.slots,k b u q⟩
 free := fun b u q n _ => by rw [aX (Nat.ne_of_lt (Nat.lt_of_lt_of_le (Heap.lt_size q) hp))]; exact n
 there := fun b u q _ => ⟨u,k b u q⟩
 tups := fun b xs q => by rw [aX (cg q hn)]; exact q
 gT := fun b u xs q => by rw [aX (cg q hn)]; exact q
 iH := fun b ps q => ⟨#[],by rw [aX (cg q hn),q]; simp⟩
theorem Un.write (mu : Js (H x)) (he : e = x ∨ H e = some (.own x)) (k : ∀ b u,b ≠ e → h.get? b = some u → h'.get? b = some u) (heo : ∃ u,h'.get? e = some u) : Un fs ex H (upd H x o) h h' := by
 have hx : ∀ b,H b = none → b ≠ x := fun b n z => by subst z; rw [n] at mu; exact mu
 have hb : ∀ b,H b = none → b ≠ e := fun b n z => by
  subst z
  rcases he with r | r
  ·exact hx b n r
  ·rw [n] at r; cases r
 have hm : ∀ b u,H b = some u → ¬ Js (some u) → b ≠ x := fun b u q nm z => by subst z; rw [q] at mu; exact nm mu
 refine ⟨fun b u q n _ _ => k b u (hb b n) q,fun b u q n _ _ => ⟨u.slots,k b u (hb b n) q⟩,fun b u q n _ => by rw [aX (hx b n)]; exact n,fun b u q _ => ?_,
  fun b xs q => by rw [aX (hm b _ q fun z => z)]; exact q,fun b u xs q => by rw [aX (hm b _ q fun z => z)]; exact q,fun b ps q => ⟨#[],by rw [aX (hm b _ q fun z => z),q]; simp⟩⟩
 by_cases hbe : b = e
 ·subst hbe; exact heo
 ·exact ⟨u,k b u hbe q⟩
theorem Un.mono (u : Un fs ex H H1 h h1) (hs : ∀ b ∈ fs,b ∈ fs') (hx : ∀ b ∈ ex,b ∈ ex') : Un fs' ex' H H1 h h1 :=
 ⟨fun b ob q n hb he => u.keep b ob q n (fun z => hb (hs b z)) fun z => he (hx b z),fun _ _ q n _ he => u.any q n fun z => he (hx _ z),fun b ob q n he => u.free b ob q n fun z => he (hx b z),fun b ob q he => u.there b ob q fun z => he (hx b z),u.tups,u.gT,u.iH⟩
end
def NU (h : Heap) (H : Hp) : List Addr := (List.range h.objs.size).filter fun a => (H a).isSome
def qO (h : Heap) (H : Hp) : Heap := PySem.W.hideAll h (NU h H)
theorem yl (h : Heap) (H : Hp) : (qO h H).objs.size = h.objs.size := PySem.W.hideAll_size _ _
theorem zu {h : Heap} {H : Hp} {b : Addr} {o : Obj} (e : h.get? b = some o) (n : H b = none) : (qO h H).get? b = some o :=
 PySem.W.hideAll_get _ e fun hm => by
  have q : (H b).isSome = true := (List.mem_filter.mp hm).2
  rw [n] at q; simp at q
theorem B1 {h : Heap} {H : Hp} {b : Addr} {o : Obj} (e : (qO h H).get? b = some o) : h.get? b = some o ∧ H b = none := by
 have e' : h.get? b = some o := PySem.W.of_hideAll (NU h H) e
 refine ⟨e',?_⟩
 cases q : H b with
 | none => rfl
 | some x =>
  have hm : b ∈ NU h H := List.mem_filter.mpr ⟨List.mem_range.mpr (Heap.lt_size e'),by simp [q]⟩
  have z : (qO h H).get? b = none := PySem.W.hideAll_none (NU h H) hm
  rw [z] at e; cases e
structure Mod (K : PySem.W.Frag) (mg : Str → Option Value) (base : Heap) : Prop where
 Ju : K.In base
 glob : base.Ns mainGlobals mg
 blt : ∃ mb,base.Ns builtinsNs mb ∧ ∀ x : Str,x ≠ "__name__" → mb x = bootBuiltins x
 nolimit : base.NoLimit
structure Cx where
 prog : Program
 w : World
 K : PySem.W.Frag
 mg : Str → Option Value
 base : Heap
 A : Around
 N : List Str
 s₀ : Shared
 H₀ : Hp
 env : Env
 outer : List Env
 stack : List Env
 ex : List Addr
 fn : Str → Bool
 calm : Bool
 pn : List (Addr × Obj)
 xe : Value → Shared → Prop
def frs (l : List Env) : List Addr := l.filterMap (·.frame)
abbrev Cx.fs (X : Cx) : List Addr := frs X.outer
def O4 (sc : Scope) (x : Str) : Prop := sc.names.lookup x = some .local ∨ sc.names.lookup x = some .cell ∨ sc.names.lookup x = some .free
def Loc (sc : Scope) (x : Str) : Prop := sc.names.lookup x = some .local ∨ sc.names.lookup x = some .cell
def Look (env : Env) (h : Heap) (m : Str → Option Value) (x : Str) (u : Value) : Prop :=
 (env.kindOf x = some .local ∧ m x = some u) ∨ ((env.kindOf x = some .cell ∨ env.kindOf x = some .free) ∧ ∃ c,env.cells.lookup x = some c ∧ h.IsCell c (some u))
structure Cx.Ok (X : Cx) : Prop where
 mod : Mod X.K X.mg X.base
 kind : X.env.scope.kind = .function
 glob : X.env.globals = mainGlobals
 blt : X.env.builtins = builtinsNs
 above : X.s₀.heap.objs.size ≤ X.env.locals
 inj : ∀ x y c,X.env.cells.lookup x = some c → X.env.cells.lookup y = some c → x = y
 has : ∀ x,(X.env.kindOf x = some .cell ∨ X.env.kindOf x = some .free) → ∃ c,X.env.cells.lookup x = some c
 cab : ∀ x c,X.fn x = true → X.env.cells.lookup x = some c → X.s₀.heap.objs.size ≤ c
 hd : X.calm = true → X.A.handled = none
 frames : X.A.frames = some X.stack
 stk : X.stack = X.outer ∨ (X.stack = X.env :: X.outer ∧ X.env.frame = some X.env.locals)
 Jv : ∀ b ∈ X.ex,b ≠ X.env.locals ∧ ∀ x c,X.env.cells.lookup x = some c → c ≠ b
 bs : ∀ b o,X.base.get? b = some o → X.s₀.heap.get? b = some o ∧ X.H₀ b = none
 BM : X.base.objs.size ≤ X.s₀.heap.objs.size
 ym : ∀ b o,X.base.get? b = some o → b ∉ X.ex
 uJ : ∀ b ∈ X.ex,b ∉ X.fs
 jM : X.s₀.heap.FunFrames X.base X.outer
 Ej : ∀ b ∈ X.fs,X.H₀ b = none
structure Inv (X : Cx) (pins : List (Addr × Obj)) (σ : List (Option V)) (H : Hp) (s : Shared) : Prop where
 ok : X.Ok
 os : s.os = X.s₀.os
 bare : AllBare s.gens
 base : Un X.fs X.ex X.H₀ H X.s₀.heap s.heap
 loc : ∃ m,s.heap.Ns X.env.locals m ∧ ∀ (i : Nat) (x : Str) (v : V),X.N[i]? = some x → σ[i]? = some (some v) → O4 X.env.scope x → ∃ u,RelV v u ∧ Look X.env s.heap m x u
 cell : ∀ x c,X.env.cells.lookup x = some c → ∃ v,s.heap.IsCell c v
 free : H X.env.locals = none
 fQ : ∀ x c,X.env.cells.lookup x = some c → H c = none
 pin : ∀ p ∈ X.pn ++ pins,s.heap.get? p.1 = some p.2 ∧ H p.1 = none ∧ p.1 ≠ X.env.locals ∧ p.1 ∉ X.fs ∧ ∀ v,p.2.data ≠ .cell v
 hok : iG X.prog X.w H s.heap
 len : σ.length = X.N.length
section
variable {X : Cx} {pins : List (Addr × Obj)} {σ : List (Option V)} {H H' : Hp} {s : Shared} {h' : Heap}
theorem Cx.Ok.O5 (ok : X.Ok) {b : Addr} {o : Obj} (e : X.base.get? b = some o) : b ∉ X.fs := fun hb => by
 have := (ok.jM.mem hb).1
 rw [e] at this; cases this
theorem Inv.bs (I : Inv X pins σ H s) : ∀ b o,X.base.get? b = some o → s.heap.get? b = some o ∧ H b = none := fun b o e =>
 ⟨I.base.keep b o (I.ok.bs b o e).1 (I.ok.bs b o e).2 (I.ok.O5 e) (I.ok.ym b o e),I.base.free b o (I.ok.bs b o e).1 (I.ok.bs b o e).2 (I.ok.ym b o e)⟩
theorem Inv.bk (I : Inv X pins σ H s) : ∀ b o,X.base.get? b = some o → s.heap.get? b = some o := fun b o e => (I.bs b o e).1
theorem Inv.mod (I : Inv X pins σ H s) : Mod X.K X.mg X.base := I.ok.mod
theorem Inv.jF (I : Inv X pins σ H s) : X.K.In s.heap := I.ok.mod.Ju.keeps I.bk
theorem Inv.lt (I : Inv X pins σ H s) : X.env.locals < s.heap.objs.size := let ⟨_,hn,_⟩ := I.loc; hn.lt
theorem Inv.sz (I : Inv X pins σ H s) : X.s₀.heap.objs.size ≤ s.heap.objs.size := Nat.le_trans I.ok.above (Nat.le_of_lt I.lt)
theorem Inv.O6 (I : Inv X pins σ H s) {a : Addr} (h : s.heap.objs.size ≤ a) : a ∉ X.fs := fun hb => by
 obtain ⟨_,o,ho,_⟩ := I.ok.jM.mem hb
 exact absurd (Nat.lt_of_lt_of_le (Heap.lt_size ho) (Nat.le_trans I.sz h)) (Nat.lt_irrefl _)
theorem Inv.zv (I : Inv X pins σ H s) : ∀ x c,X.env.cells.lookup x = some c → c ≠ X.env.locals := fun x c e z => by
 obtain ⟨v,o,ho,hd⟩ := I.cell x c e
 obtain ⟨m,⟨o',es,ep,ho',hd',_⟩,_⟩ := I.loc
 rw [z,ho'] at ho; cases ho; rw [hd'] at hd; cases hd
theorem Inv.jM (I : Inv X pins σ H s) : s.heap.FunFrames X.base X.outer := by
 have all : ∀ (l : List Env),(∀ b ∈ frs l,b ∈ X.fs) → X.s₀.heap.FunFrames X.base l → s.heap.FunFrames X.base l := by
  intro l
  induction l with
  | nil => intro _ _; trivial
  | cons env r ih =>
   intro hs hl
   obtain ⟨hk,⟨L,o,hf,hn,ho,hd⟩,hr⟩ := hl
   have hL : L ∈ X.fs := hs L (by unfold frs; rw [List.filterMap_cons,hf]; exact List.mem_cons_self)
   obtain ⟨sl,e⟩ := I.base.slot L o ho (I.ok.Ej L hL) hL fun z => I.ok.uJ L z hL
   exact ⟨hk,⟨L,_,hf,hn,e,hd⟩,ih (fun b hb => hs b (by unfold frs; rw [List.filterMap_cons,hf]; exact List.mem_cons_of_mem _ hb)) hr⟩
 exact all X.outer (fun _ hb => hb) I.ok.jM
theorem Inv.stack (I : Inv X pins σ H s) : s.heap.FunFrames X.base X.stack := by
 rcases I.ok.stk with e | ⟨e,hf⟩
 ·rw [e]; exact I.jM
 ·rw [e]
  obtain ⟨m,hn,_⟩ := I.loc
  refine .cons (by rw [I.ok.kind]; decide) hf hn ?_ I.jM
  exact Heap.get?_none_of_le (Nat.le_trans I.ok.BM I.ok.above)
theorem Inv.kX (I : Inv X pins σ H s) : ∀ b ∈ frs X.stack,b ∈ X.env.locals :: X.fs := fun b hb => by
 rcases I.ok.stk with e | ⟨e,hf⟩
 ·rw [e] at hb; exact List.mem_cons_of_mem _ hb
 ·rw [e] at hb
  unfold frs at hb
  rw [List.filterMap_cons,hf] at hb
  exact hb
theorem Inv.i7 (I : Inv X pins σ H s) : ∀ b ∈ frs X.stack,H b = none := fun b hb => by
 rcases List.mem_cons.mp (I.kX b hb) with e | hb
 ·rw [e]; exact I.free
 ·obtain ⟨_,o,ho,_⟩ := I.ok.jM.mem hb
  exact I.base.free b o ho (I.ok.Ej b hb) fun z => I.ok.uJ b z hb
theorem Inv.step {g' : Array GenState} {t' : Nat} {d' : Drawn} {ch : List Addr} (I : Inv X pins σ H s)
  (hch : ∀ b ∈ ch,(b ∈ X.ex ∨ X.s₀.heap.objs.size ≤ b) ∧ b ≠ X.env.locals ∧ (∀ x c,X.env.cells.lookup x = some c → c ≠ b) ∧ ∀ p ∈ X.pn ++ pins,p.1 ≠ b)
  (keep : ∀ b o,b ≠ X.env.locals → b ∉ X.fs → b ∉ ch → s.heap.get? b = some o → H b = none → h'.get? b = some o)
  (slot : ∀ b o,b ≠ X.env.locals → b ∈ X.fs → b ∉ ch → s.heap.get? b = some o → H b = none → ∃ sl,h'.get? b = some { o with slots := sl }) (free : ∀ b o,b ∉ ch → s.heap.get? b = some o → H b = none → H' b = none)
  (there : ∀ b o,b ∉ ch → s.heap.get? b = some o → ∃ o',h'.get? b = some o')
  (tups : ∀ b xs,H b = some (.tup xs) → H' b = some (.tup xs)) (gT : ∀ b o u,H b = some (.sR o u) → H' b = some (.sR o u)) (iH : ∀ b ps,H b = some (.Ei ps) → ∃ more,H' b = some (.Ei (ps ++ more)))
  (ns : ∀ m,s.heap.Ns X.env.locals m → h'.Ns X.env.locals m) (hok : iG X.prog X.w H' h') (hg : AllBare g') :
  Inv X pins σ H' { s with heap := h',gens := g',drawn := d',toks := t' } := by
 have neL : ∀ b o,X.s₀.heap.get? b = some o → b ≠ X.env.locals := fun b o e => Nat.ne_of_lt (Nat.lt_of_lt_of_le (Heap.lt_size e) I.ok.above)
 have NV : ∀ b o,X.s₀.heap.get? b = some o → b ∉ X.ex → b ∉ ch := fun b o e hx hb => by
  rcases (hch b hb).1 with z | z
  ·exact hx z
  ·exact absurd (Nat.lt_of_lt_of_le (Heap.lt_size e) z) (Nat.lt_irrefl _)
 have cellK : ∀ x c,X.env.cells.lookup x = some c → ∀ v,s.heap.IsCell c v → h'.IsCell c v := fun x c e v ⟨o,ho,hd⟩ => by
  have Jw : c ∉ ch := fun z => (hch c z).2.2.1 x c e rfl
  by_cases hc : c ∈ X.fs
  ·obtain ⟨sl,q⟩ := slot c o (I.zv x c e) hc Jw ho (I.fQ x c e)
   exact ⟨_,q,hd⟩
  ·exact ⟨o,keep c o (I.zv x c e) hc Jw ho (I.fQ x c e),hd⟩
 refine ⟨I.ok,I.os,hg,⟨fun b o e n hb hx => ?_,fun b o e n hb hx => ?_,fun b o e n hx => ?_,fun b o e hx => ?_,fun b xs e => tups b xs (I.base.tups b xs e),fun b o xs e => gT b o xs (I.base.gT b o xs e),fun b ps e => ?_⟩,?_,fun x c e => ?_,?_,fun x c e => ?_,fun p hp => ?_,hok,I.len⟩
 ·exact keep b o (neL b o e) hb (NV b o e hx) (I.base.keep b o e n hb hx) (I.base.free b o e n hx)
 ·obtain ⟨sl,e1⟩ := I.base.slot b o e n hb hx
  obtain ⟨sl',e2⟩ := slot b _ (neL b o e) hb (NV b o e hx) e1 (I.base.free b o e n hx)
  exact ⟨sl',e2⟩
 ·obtain ⟨o',e1⟩ := I.base.there b o e hx
  exact free b o' (NV b o e hx) e1 (I.base.free b o e n hx)
 ·obtain ⟨o',e1⟩ := I.base.there b o e hx
  exact there b o' (NV b o e hx) e1
 ·obtain ⟨m1,e1⟩ := I.base.iH b ps e
  obtain ⟨m2,e2⟩ := iH b _ e1
  exact ⟨m1 ++ m2,by rw [e2,Array.append_assoc]⟩
 ·obtain ⟨m,hn,hl⟩ := I.loc
  refine ⟨m,ns m hn,fun i x v e1 e2 e3 => ?_⟩
  obtain ⟨u,r,l⟩ := hl i x v e1 e2 e3
  refine ⟨u,r,?_⟩
  rcases l with l | ⟨k,c,e,z⟩
  ·exact .inl l
  ·exact .inr ⟨k,c,e,cellK x c e _ z⟩
 ·obtain ⟨v,z⟩ := I.cell x c e
  exact ⟨v,cellK x c e v z⟩
 ·obtain ⟨m,⟨o,_,_,ho,_⟩,_⟩ := I.loc
  exact free _ o (fun z => (hch _ z).2.1 rfl) ho I.free
 ·obtain ⟨v,o,ho,hd⟩ := I.cell x c e
  exact free c o (fun z => (hch c z).2.2.1 x c e rfl) ho (I.fQ x c e)
 ·obtain ⟨e,n,ne,nf,d⟩ := I.pin p hp
  have Jw : p.1 ∉ ch := fun z => (hch p.1 z).2.2.2 p hp rfl
  exact ⟨keep p.1 p.2 ne nf Jw e n,free p.1 p.2 Jw e n,ne,nf,d⟩
theorem Inv.un {t' : Nat} (I : Inv X pins σ H s) (u : Un X.fs [] H H' s.heap h') (hok : iG X.prog X.w H' h') : Inv X pins σ H' { s with heap := h',toks := t' } := by
 obtain ⟨m,⟨o,es,ep,ho,r⟩,_⟩ := id I.loc
 obtain ⟨sl,hL⟩ := u.any ho I.free (by simp)
 exact I.step (g' := s.gens) (d' := s.drawn) (ch := []) (fun _ z => nomatch z) (fun b o _ hb _ e n => u.keep b o e n hb (by simp)) (fun b o _ hb _ e n => u.slot b o e n hb (by simp)) (fun b o _ e n => u.free b o e n (by simp)) (fun b o _ e => u.there b o e (by simp)) u.tups u.gT u.iH (fun m' hm => by
  obtain ⟨o',es',ep',ho',r'⟩ := hm
  rw [ho] at ho'; cases ho'
  exact ⟨_,es',ep',hL,r'⟩) hok I.bare
theorem Inv.call {g' : Array GenState} {t' : Nat} {d' : Drawn} {ch : List Addr} (I : Inv X pins σ H s) (u : Un (frs X.stack) ch H H' s.heap h') (hok : iG X.prog X.w H' h') (hg : AllBare g')
  (hch : ∀ b ∈ ch,(b ∈ X.ex ∨ X.s₀.heap.objs.size ≤ b) ∧ b ≠ X.env.locals ∧ (∀ x c,X.env.cells.lookup x = some c → c ≠ b) ∧ ∀ p ∈ X.pn ++ pins,p.1 ≠ b) :
  Inv X pins σ H' { s with heap := h',gens := g',drawn := d',toks := t' } := by
 obtain ⟨m,⟨o,es,ep,ho,r⟩,_⟩ := id I.loc
 obtain ⟨sl,hL⟩ := u.any ho I.free fun z => (hch _ z).2.1 rfl
 exact I.step (ch := ch) hch (fun b o hL hb hc e n => u.keep b o e n (fun z => (List.mem_cons.mp (I.kX b z)).elim hL hb) hc) (fun b o _ _ hc e n => u.any e n hc) (fun b o hc e n => u.free b o e n hc) (fun b o hc e => u.there b o e hc) u.tups u.gT u.iH (fun m' hm => by
  obtain ⟨o',es',ep',ho',r'⟩ := hm
  rw [ho] at ho'; cases ho'
  exact ⟨_,es',ep',hL,r'⟩) hok hg
theorem Inv.turned {t' : Nat} {it : Addr} (I : Inv X pins σ H s) (k : ∀ b o,b ≠ it → s.heap.get? b = some o → h'.get? b = some o) (hn : H it = none) (hL : it ≠ X.env.locals)
  (h1 : it ∈ X.ex ∨ X.s₀.heap.objs.size ≤ it) (h2 : ∀ x c,X.env.cells.lookup x = some c → c ≠ it) (h3 : ∀ p ∈ X.pn ++ pins,p.1 ≠ it) : Inv X pins σ H { s with heap := h',toks := t' } := by
 have Jy : ∀ b u,H b = some u → b ≠ it := fun b u e z => by rw [z,hn] at e; cases e
 refine I.step (g' := s.gens) (d' := s.drawn) (ch := [it]) (fun b hb => ?_) (fun b o _ _ hc e _ => k b o (fun z => hc (by simp [z])) e) (fun b o _ _ hc e _ => ⟨o.slots,k b o (fun z => hc (by simp [z])) e⟩) (fun _ _ _ _ n => n)
  (fun b o hc e => ⟨o,k b o (fun z => hc (by simp [z])) e⟩) (fun _ _ e => e) (fun _ _ _ e => e) (fun b ps e => ⟨#[],by rw [e]; simp⟩) (fun m hm => ?_) (fun b u e => ?_) I.bare
 ·have e : b = it := by simpa using hb
  subst e
  exact ⟨h1,hL,h2,h3⟩
 ·obtain ⟨o,es,ep,ho,r⟩ := hm
  exact ⟨o,es,ep,k _ o (Ne.symm hL) ho,r⟩
 ·refine (I.hok b u e).stay (fun c v hc q => k c v ?_ q) (fun _ q => q) fun _ _ q => q
  rcases hc with z | z
  ·rw [z]; exact Jy b u e
  ·exact Jy c _ z
theorem Inv.tok (I : Inv X pins σ H s) (t : Nat) : Inv X pins σ H { s with toks := t } := I.un (h' := s.heap) (t' := t) Un.refl I.hok
theorem Inv.kept {t' : Nat} (I : Inv X pins σ H s) (k : ∀ b u,s.heap.get? b = some u → h'.get? b = some u) : Inv X pins σ H { s with heap := h',toks := t' } := I.un (Un.kept k) (I.hok.kept k)
theorem Inv.laid {a : Addr} {o : HO} {t' : Nat} (I : Inv X pins σ H s) (k : ∀ b u,s.heap.get? b = some u → h'.get? b = some u) (hp : s.heap.objs.size ≤ a) (new : cD X.prog X.w (upd H a o) h' a o) :
  Inv X pins σ (upd H a o) { s with heap := h',toks := t' } := I.un (Un.laid k hp (I.hok.fresh hp)) (I.hok.laid k hp new)
theorem Inv.write {x e : Addr} {o : HO} {t' : Nat} (I : Inv X pins σ H s) (mu : Js (H x)) (he : e = x ∨ H e = some (.own x)) (k : ∀ b u,b ≠ e → s.heap.get? b = some u → h'.get? b = some u) (heo : ∃ u,h'.get? e = some u)
  (new : cD X.prog X.w (upd H x o) h' x o) : Inv X pins σ (upd H x o) { s with heap := h',toks := t' } := I.un (Un.write mu he k heo) (I.hok.write mu he k heo new)
theorem Inv.wA {sS : List (Addr × Obj)} (I : Inv X pins σ H s) (h : ∀ p ∈ sS,s.heap.get? p.1 = some p.2 ∧ H p.1 = none ∧ p.1 ≠ X.env.locals ∧ p.1 ∉ X.fs ∧ ∀ v,p.2.data ≠ .cell v) : Inv X sS σ H s :=
 ⟨I.ok,I.os,I.bare,I.base,I.loc,I.cell,I.free,I.fQ,fun p hp => (List.mem_append.mp hp).elim (fun z => I.pin p (List.mem_append_left _ z)) (h p),I.hok,I.len⟩
theorem nW {N : List Str} (hN : N.Nodup) {i j : Nat} {x : Str} (a : N[i]? = some x) (b : N[j]? = some x) : i = j := by
 obtain ⟨h1,e1⟩ := List.getElem?_eq_some_iff.mp a
 obtain ⟨h2,e2⟩ := List.getElem?_eq_some_iff.mp b
 exact (List.getElem_inj hN).mp (e1.trans e2.symm)
theorem pQ {M : Model} {A : Around} {E : Value → Shared → Prop} {i : Nat} {x : Str} {v : V} {u : Value} {Q : Unit → Shared → Prop} (I : Inv X pins σ H s) (hN : X.N.Nodup) (hi : X.N[i]? = some x) (hx : Loc X.env.scope x) (r : RelV v u)
  (h : ∀ s',Inv X pins (σ.set i (some v)) H s' → (∃ a,Heap.SameBut a s.heap s'.heap ∧ (a = X.env.locals ∨ X.env.cells.lookup x = some a)) → Q () s') (hf : X.fn x = true ∨ X.env.scope.names.lookup x = some .local := by first | exact .inl rfl | exact .inr rfl | assumption) : wpAny M A (storeName X.env x u) Q E s := by
 obtain ⟨m,hn,hl⟩ := id I.loc
 have hcls : (X.env.scope.kind == .class || (X.env.scope.kind == .module && X.env.locals != X.env.globals)) = false := by rw [I.ok.kind]; rfl
 have hiσ : i < σ.length := by rw [I.len]; exact (List.getElem?_eq_some_iff.mp hi).1
 have zv := I.zv
 have tracked : ∀ {a : Addr} {h' : Heap},(∃ o,s.heap.get? a = some o ∧ H a = none) → Heap.SameBut a s.heap h' → iG X.prog X.w H h' := fun {a h'} ha hs b ob e => by
  obtain ⟨_,_,hfree⟩ := ha
  refine (I.hok b ob e).stay (fun c w' hc q => (hs.2 c ?_).trans q) (fun _ q => q) fun _ _ q => q
  rintro rfl
  rcases hc with rfl | hc
  ·rw [hfree] at e; cases e
  ·rw [hfree] at hc; cases hc
 rcases hx with hk | hk
 ·refine wpAny_storeName_local hk hn (fun h' hn' hs => ?_) hcls
  obtain ⟨oL,_,_,hoL,_⟩ := id hn
  refine h _ ⟨I.ok,I.os,I.bare,⟨fun b o e n hb hx => ?_,fun b o e n hb hx => ?_,I.base.free,fun b o e hx => ?_,I.base.tups,I.base.gT,I.base.iH⟩,⟨_,hn',fun j y v' e1 e2 e3 => ?_⟩,fun y c e => ?_,I.free,I.fQ,fun p hp => ?_,tracked ⟨oL,hoL,I.free⟩ hs,by simpa using I.len⟩ ⟨_,hs,.inl rfl⟩
  ·exact (hs.2 b (Nat.ne_of_lt (Nat.lt_of_lt_of_le (Heap.lt_size e) I.ok.above))).trans (I.base.keep b o e n hb hx)
  ·obtain ⟨sl,e1⟩ := I.base.slot b o e n hb hx
   exact ⟨sl,(hs.2 b (Nat.ne_of_lt (Nat.lt_of_lt_of_le (Heap.lt_size e) I.ok.above))).trans e1⟩
  ·obtain ⟨o',e1⟩ := I.base.there b o e hx
   exact ⟨o',(hs.2 b (Nat.ne_of_lt (Nat.lt_of_lt_of_le (Heap.lt_size e) I.ok.above))).trans e1⟩
  ·by_cases hj : j = i
   ·subst hj
    rw [hi] at e1; cases e1
    rw [List.getElem?_set_self hiσ] at e2
    cases e2
    exact ⟨u,r,.inl ⟨hk,by simp⟩⟩
   ·rw [List.getElem?_set_ne (Ne.symm hj)] at e2
    obtain ⟨u',r',q⟩ := hl j y v' e1 e2 e3
    refine ⟨u',r',?_⟩
    rcases q with ⟨k,e⟩ | ⟨k,c,e,z⟩
    ·refine .inl ⟨k,?_⟩
     have : y ≠ x := fun e => hj (nW hN e1 (e ▸ hi))
     simp [this,e]
    ·exact .inr ⟨k,c,e,z.sameBut hs (zv y c e)⟩
  ·obtain ⟨w',z⟩ := I.cell y c e
   exact ⟨w',z.sameBut hs (zv y c e)⟩
  ·obtain ⟨e,n,ne,nf,d⟩ := I.pin p hp
   exact ⟨(hs.2 p.1 ne).trans e,n,ne,nf,d⟩
 ·have hfn : X.fn x = true := by
   rcases hf with z | z
   ·exact z
   ·rw [z] at hk; cases hk
  obtain ⟨c,hc⟩ := I.ok.has x (.inl hk)
  obtain ⟨w',z⟩ := I.cell x c hc
  refine wpAny_storeName_cell I.ok.kind hk hc z (fun h' hc' hs => ?_)
  obtain ⟨oc,hoc,O7⟩ := id z
  refine h { s with heap := h' } ⟨I.ok,I.os,I.bare,⟨fun b o e n hb hx => ?_,fun b o e n hb hx => ?_,I.base.free,fun b o e hx => ?_,I.base.tups,I.base.gT,I.base.iH⟩,⟨m,hn.sameBut hs (Ne.symm (zv x c hc)),fun j y v' e1 e2 e3 => ?_⟩,fun y c' e => ?_,I.free,I.fQ,fun p hp => ?_,tracked ⟨oc,hoc,I.fQ x c hc⟩ hs,by simpa using I.len⟩ ⟨c,hs,.inr hc⟩
  ·exact (hs.2 b (Nat.ne_of_lt (Nat.lt_of_lt_of_le (Heap.lt_size e) (I.ok.cab x c hfn hc)))).trans (I.base.keep b o e n hb hx)
  ·obtain ⟨sl,e1⟩ := I.base.slot b o e n hb hx
   exact ⟨sl,(hs.2 b (Nat.ne_of_lt (Nat.lt_of_lt_of_le (Heap.lt_size e) (I.ok.cab x c hfn hc)))).trans e1⟩
  ·obtain ⟨o',e1⟩ := I.base.there b o e hx
   exact ⟨o',(hs.2 b (Nat.ne_of_lt (Nat.lt_of_lt_of_le (Heap.lt_size e) (I.ok.cab x c hfn hc)))).trans e1⟩
  ·by_cases hj : j = i
   ·subst hj
    rw [hi] at e1; cases e1
    rw [List.getElem?_set_self hiσ] at e2
    cases e2
    exact ⟨u,r,.inr ⟨.inl hk,c,hc,hc'⟩⟩
   ·rw [List.getElem?_set_ne (Ne.symm hj)] at e2
    obtain ⟨u',r',q⟩ := hl j y v' e1 e2 e3
    refine ⟨u',r',?_⟩
    rcases q with q | ⟨k,c',e,z'⟩
    ·exact .inl q
    ·refine .inr ⟨k,c',e,z'.sameBut hs ?_⟩
     rintro rfl
     exact hj (nW hN e1 (I.ok.inj _ _ _ e hc ▸ hi))
  ·by_cases hcc : c' = c
   ·subst hcc; exact ⟨_,hc'⟩
   ·obtain ⟨w2,z2⟩ := I.cell y c' e
    exact ⟨w2,z2.sameBut hs hcc⟩
  ·obtain ⟨e,n,ne,nf,d⟩ := I.pin p hp
   refine ⟨(hs.2 p.1 ?_).trans e,n,ne,nf,d⟩
   intro q
   rw [q,hoc] at e
   have q' : oc = p.2 := Option.some.inj e
   exact d w' (by rw [← q']; exact O7)
theorem jV {M : Model} {A : Around} {E : Value → Shared → Prop} {i : Nat} {x : Str} {v : V} {u : Value} {Q : Unit → Shared → Prop} (I : Inv X pins σ H s) (hN : X.N.Nodup) (hi : X.N[i]? = some x) (hx : Loc X.env.scope x) (r : RelV v u)
  (h : ∀ s',Inv X pins (σ.set i (some v)) H s' → Q () s') (hf : X.fn x = true ∨ X.env.scope.names.lookup x = some .local := by first | exact .inl rfl | exact .inr rfl | assumption) : wpAny M A (storeName X.env x u) Q E s :=
 pQ I hN hi hx r (fun s' I' _ => h s' I') hf
theorem Inv.call' {s' : Shared} {ch : List Addr} (I : Inv X pins σ H s) (ho : s'.os = s.os) (u : Un (frs X.stack) ch H H' s.heap s'.heap) (hok : iG X.prog X.w H' s'.heap) (hg : AllBare s'.gens)
  (hch : ∀ b ∈ ch,(b ∈ X.ex ∨ X.s₀.heap.objs.size ≤ b) ∧ b ≠ X.env.locals ∧ (∀ x c,X.env.cells.lookup x = some c → c ≠ b) ∧ ∀ p ∈ X.pn ++ pins,p.1 ≠ b) : Inv X pins σ H' s' := by
 obtain ⟨h',g',d',t',o'⟩ := s'
 have e : o' = s.os := ho
 subst e
 exact I.call (g' := g') (t' := t') (d' := d') u hok hg hch
end
abbrev XK := Value → Option Addr → Hp → Prop
abbrev St := List (Option V)
abbrev VK := V → Hp → Prop
abbrev TE := St → Hp → VK → Prop
abbrev TT := St → Hp → (Bool → Hp → Prop) → Prop
abbrev TA := St → Hp → (List V → Hp → Prop) → Prop
structure Ends where
 nx : St → Hp → Prop
 rt : VK
 bk : St → Hp → Prop := fun _ _ => False
 ct : St → Hp → Prop := fun _ _ => False
abbrev TS := Ends → St → Hp → Prop
def EP (X : Cx) (pins : List (Addr × Obj)) (σ : St) (Q : VK) (u : Value) (s' : Shared) : Prop := ∃ v H',Inv X pins σ H' s' ∧ RelV v u ∧ Q v H'
def TP (X : Cx) (pins : List (Addr × Obj)) (σ : St) (Q : Bool → Hp → Prop) (b : Bool) (s' : Shared) : Prop := ∃ H',Inv X pins σ H' s' ∧ Q b H'
def AP (X : Cx) (pins : List (Addr × Obj)) (σ : St) (Q : List V → Hp → Prop) (us : List Value) (s' : Shared) : Prop := ∃ vs H',Inv X pins σ H' s' ∧ Vals vs us ∧ Q vs H'
def SP (X : Cx) (pins : List (Addr × Obj)) (D : Ends) (f : Flow) (s' : Shared) : Prop :=
 match f with
 | .next => ∃ σ' H',Inv X pins σ' H' s' ∧ D.nx σ' H'
 | .brk => ∃ σ' H',Inv X pins σ' H' s' ∧ D.bk σ' H'
 | .cont => ∃ σ' H',Inv X pins σ' H' s' ∧ D.ct σ' H'
 | .ret u => ∃ v σ' H',Inv X pins σ' H' s' ∧ RelV v u ∧ D.rt v H'
def PE (X : Cx) (e : Expr) (t : TE) : Prop :=
 ∀ (pins : List (Addr × Obj)) (s : Shared) (σ : St) (H : Hp) (Q : VK),Inv X pins σ H s → t σ H Q → wpAny (model X.prog X.w) X.A (eval e X.env) (EP X pins σ Q) X.xe s
def PT (X : Cx) (e : Expr) (t : TT) : Prop :=
 ∀ (pins : List (Addr × Obj)) (s : Shared) (σ : St) (H : Hp) (Q : Bool → Hp → Prop),Inv X pins σ H s → t σ H Q → wpAny (model X.prog X.w) X.A (isTrue e X.env (eval e X.env)) (TP X pins σ Q) X.xe s
def PW (X : Cx) (e : Expr) (t : TT) : Prop :=
 ∀ (whole : Sem Value) (pins : List (Addr × Obj)) (s : Shared) (σ : St) (H : Hp) (Q : Bool → Hp → Prop),Inv X pins σ H s → t σ H Q → wpAny (model X.prog X.w) X.A (isTrue e X.env whole) (TP X pins σ Q) X.xe s
theorem PW.pt {X : Cx} {e : Expr} {t : TT} (h : PW X e t) : PT X e t := h _
def PA (X : Cx) (es : List Expr) (t : TA) : Prop :=
 ∀ (pos : Pos) (pins : List (Addr × Obj)) (s : Shared) (σ : St) (H : Hp) (Q : List V → Hp → Prop),Inv X pins σ H s → t σ H Q → wpAny (model X.prog X.w) X.A (spliced (backTo pos (starEach es X.env))) (AP X pins σ Q) X.xe s
def PS (X : Cx) (st : Stmt) (t : TS) : Prop :=
 ∀ (pins : List (Addr × Obj)) (s : Shared) (σ : St) (H : Hp) (D : Ends),Inv X pins σ H s → t D σ H → wpAny (model X.prog X.w) X.A (exec st X.env) (SP X pins D) X.xe s
def pR (X : Cx) (st : List Stmt) (t : TS) : Prop :=
 ∀ (pins : List (Addr × Obj)) (s : Shared) (σ : St) (H : Hp) (D : Ends),Inv X pins σ H s → t D σ H → wpAny (model X.prog X.w) X.A (execs st X.env) (SP X pins D) X.xe s
theorem cE {α : Type} {t : Sem α} {Q Q' : α → Shared → Prop} {M : Model} {A : Around} {E : Value → Shared → Prop} {s : Shared} (h : wpAny M A t Q E s) (hQ : ∀ a s,Q a s → Q' a s) : wpAny M A t Q' E s := wpAny_mono h hQ fun _ _ x => x
section
variable {X : Cx}
def Jz (i : Nat) : TE := fun σ H Q => ∃ v,σ[i]? = some (some v) ∧ Q v H
def tC (v : V) : TE := fun _ H Q => Q v H
theorem Ft {i : Nat} {x : Str} {pos : Pos} (hN : X.N[i]? = some x) (hv : O4 X.env.scope x) (hd : (x == ("__debug__" : Str)) = false := by decide) (hcd : (x == ("__classdict__" : Str)) = false := by decide) : PE X (.Name x pos) (Jz i) := by
 intro pins s σ H Q I h
 obtain ⟨v,e,h⟩ := h
 obtain ⟨m,hn,hl⟩ := I.loc
 obtain ⟨u,r,l⟩ := hl i x v hN e hv
 have fin : EP X pins σ Q u s := ⟨v,H,I,r,h⟩
 rcases l with ⟨hk,hm⟩ | ⟨hk,c,hc,hcell⟩
 ·exact wpAny_Name (wpAny_loadName_local I.ok.kind hk hn hm fin) hd
 ·rcases hk with hk | hk
  ·exact wpAny_Name (wpAny_loadName_cell I.ok.kind hk hc hcell fin) hd
  ·exact wpAny_Name (wpAny_loadName_free I.ok.kind hk hc hcell fin hcd) hd
theorem ai {i j pos} : PE X (.Constant (.int i) j pos) (tC (.int i)) := fun _ _ _ H _ I h => wpAny_Constant_int ⟨.int i,H,I.tok _,⟨_,rfl⟩,h⟩
theorem iN {b j pos} : PE X (.Constant (.bool b) j pos) (tC (.bl b)) := fun _ _ _ H _ I h => Constant_bool ⟨.bl b,H,I,rfl,h⟩
theorem cH {j pos} : PE X (.Constant .none j pos) (tC .non) := fun _ _ _ H _ I h => Constant_none ⟨.non,H,I,rfl,h⟩
theorem ak {x j pos} : PE X (.Constant (.str x) j pos) (tC (.str x)) := fun _ _ _ H _ I h => Calls.Constant_str ⟨.str x,H,I.tok _,⟨_,rfl⟩,h⟩
def Gl (X : Cx) (x : Str) : Prop := X.env.kindOf x = some .globalImplicit
theorem i9 {E : Value → Shared → Prop} {pins : List (Addr × Obj)} {s : Shared} {σ : St} {H : Hp} {x : Str} {u : Value} {pos : Pos} {Q : Value → Shared → Prop} (I : Inv X pins σ H s) (hg : Gl X x) (hm : X.mg x = some u) (h : Q u s)
  (hd : (x == ("__debug__" : Str)) = false := by decide) : wpAny (model X.prog X.w) X.A (eval (.Name x pos) X.env) Q E s :=
 Calls.Name_function_global I.ok.kind hg (Calls.loadGlobal_global (by rw [I.ok.glob]; exact I.mod.glob.keeps I.bk) hm h) hd
theorem nX {E : Value → Shared → Prop} {pins : List (Addr × Obj)} {s : Shared} {σ : St} {H : Hp} {x : Str} {u : Value} {pos : Pos} {Q : Value → Shared → Prop} (I : Inv X pins σ H s) (hg : Gl X x) (hm : X.mg x = none) (hv : bootBuiltins x = some u) (h : Q u s)
  (hn : x ≠ "__name__" := by decide) (hd : (x == ("__debug__" : Str)) = false := by decide) : wpAny (model X.prog X.w) X.A (eval (.Name x pos) X.env) Q E s := by
 obtain ⟨mb,h1,h2⟩ := I.mod.blt
 exact Calls.Name_function_global I.ok.kind hg (Calls.loadGlobal_builtin (by rw [I.ok.glob]; exact I.mod.glob.keeps I.bk) hm (by rw [I.ok.blt]; exact h1.keeps I.bk) ((h2 x hn).trans hv) h) hd
theorem cu {x : Str} {v : V} {u : Value} {pos : Pos} (hg : Gl X x) (hm : X.mg x = some u) (r : RelV v u) (hd : (x == ("__debug__" : Str)) = false := by decide) : PE X (.Name x pos) (tC v) :=
 fun _ _ _ H _ I h => i9 I hg hm ⟨v,H,I,r,h⟩ hd
theorem gU {x : Str} {v : V} {u : Value} {pos : Pos} (hg : Gl X x) (hm : X.mg x = none) (hv : bootBuiltins x = some u) (r : RelV v u) (hn : x ≠ "__name__" := by decide) (hd : (x == ("__debug__" : Str)) = false := by decide) : PE X (.Name x pos) (tC v) :=
 fun _ _ _ H _ I h => nX I hg hm hv ⟨v,H,I,r,h⟩ hn hd
variable {a b : Expr} {ta tb : TE} {pos : Pos}
def tB (t : TE) : TT := fun σ H Q => t σ H fun x H1 => ∃ c,x = .bl c ∧ Q c H1
theorem cP {e : Expr} {t : TE} (h : PE X e t) (he : ∀ whole,isTrue e X.env whole = (do let v ← whole; standAt e.pos; holding [v] (truthy v)) := by intro _; rfl) : PT X e (tB t) := by
 intro pins s σ H Q I hw
 refine isTrue_plain (cE (h pins s σ H _ I hw) fun v s1 ⟨x,H1,I1,r1,q1⟩ => ?_) (he _)
 obtain ⟨d,rfl,q⟩ := q1
 cases r1
 exact wpAny_truthy_bool ⟨H1,I1,q⟩
variable {tA NW : TT} {rest : List Expr}
def O8 (t u : TT) : TT := fun σ H Q => t σ H fun c H1 => if c = true then u σ H1 Q else Q false H1
def tOr (t u : TT) : TT := fun σ H Q => t σ H fun c H1 => if c = true then Q true H1 else u σ H1 Q
def O9 (t : TT) : TT := fun σ H Q => t σ H fun c H1 => Q (!c) H1
theorem gW (ha : PT X a tA) : PW X (.BoolOp .And [a] pos) tA := by
 intro wh pins s σ H Q I h
 refine isTrue_and (cE (ha pins s σ H Q I h) fun c s1 e => ?_)
 cases c with
 | true => exact isTrue_and_nil e
 | false => exact e
theorem eZ (ha : PT X a tA) : PW X (.BoolOp .Or [a] pos) tA := by
 intro wh pins s σ H Q I h
 refine isTrue_or (cE (ha pins s σ H Q I h) fun c s1 e => ?_)
 cases c with
 | false => exact isTrue_or_nil e
 | true => exact e
theorem gX (ha : PT X a tA) (hb : PW X (.BoolOp .And (b :: rest) pos) NW) : PW X (.BoolOp .And (a :: b :: rest) pos) (O8 tA NW) := by
 intro wh pins s σ H Q I h
 refine isTrue_and (cE (ha pins s σ H _ I h) fun c s1 ⟨H1,I1,q1⟩ => ?_)
 cases c with
 | true => exact hb wh pins s1 σ H1 Q I1 q1
 | false => exact ⟨H1,I1,q1⟩
theorem iD (ha : PT X a tA) (hb : PW X (.BoolOp .Or (b :: rest) pos) NW) : PW X (.BoolOp .Or (a :: b :: rest) pos) (tOr tA NW) := by
 intro wh pins s σ H Q I h
 refine isTrue_or (cE (ha pins s σ H _ I h) fun c s1 ⟨H1,I1,q1⟩ => ?_)
 cases c with
 | true => exact ⟨H1,I1,q1⟩
 | false => exact hb wh pins s1 σ H1 Q I1 q1
theorem dI (ha : PT X a tA) : PT X (.UnaryOp .Not a pos) (O9 tA) := by
 intro pins s σ H Q I h
 exact isTrue_not (ha pins s σ H (fun c H1 => Q (!c) H1) I h)
def JA (ta tb : TE) : TE := fun σ H Q => ta σ H fun x H1 => ∃ c,x = .bl c ∧ if c = true then tb σ H1 Q else Q (.bl false) H1
def Pa (ta tb : TE) : TE := fun σ H Q => ta σ H fun x H1 => ∃ c,x = .bl c ∧ if c = true then Q (.bl true) H1 else tb σ H1 Q
def JB (ta : TE) : TE := fun σ H Q => ta σ H fun x H1 => ∃ c,x = .bl c ∧ Q (.bl (!c)) H1
theorem iO {op} {t : TE} (h : PE X a t) : PE X (.BoolOp op [a] pos) t := fun pins s σ H Q I hw => BoolOp_one (h pins s σ H Q I hw)
theorem nY (ha : PE X a ta) (hb : PE X (.BoolOp .And (b :: rest) pos) tb) : PE X (.BoolOp .And (a :: b :: rest) pos) (JA ta tb) := by
 intro pins s σ H Q I h
 refine BoolOp_and (cE (ha pins s σ H _ I h) fun v s1 ⟨x,H1,I1,r1,q1⟩ => ?_)
 obtain ⟨c,rfl,q1⟩ := q1
 cases r1
 refine wpAny_truthy_bool ?_
 cases c with
 | true => exact hb pins s1 σ H1 Q I1 q1
 | false => exact ⟨.bl false,H1,I1,rfl,q1⟩
theorem zx (ha : PE X a ta) (hb : PE X (.BoolOp .Or (b :: rest) pos) tb) : PE X (.BoolOp .Or (a :: b :: rest) pos) (Pa ta tb) := by
 intro pins s σ H Q I h
 refine BoolOp_or (cE (ha pins s σ H _ I h) fun v s1 ⟨x,H1,I1,r1,q1⟩ => ?_)
 obtain ⟨c,rfl,q1⟩ := q1
 cases r1
 refine wpAny_truthy_bool ?_
 cases c with
 | false => exact hb pins s1 σ H1 Q I1 q1
 | true => exact ⟨.bl true,H1,I1,rfl,q1⟩
theorem Fu (ha : PE X a ta) : PE X (.UnaryOp .Not a pos) (JB ta) := by
 intro pins s σ H Q I h
 refine UnaryOp_ (cE (ha pins s σ H _ I h) fun v s1 ⟨x,H1,I1,r1,q1⟩ => ?_)
 obtain ⟨c,rfl,q1⟩ := q1
 cases r1
 exact not_of (wpAny_truthy_bool ⟨.bl (!c),H1,I1,rfl,q1⟩)
def tIf (t : TT) (ta tb : TE) : TE := fun σ H Q => t σ H fun c H1 => if c = true then ta σ H1 Q else tb σ H1 Q
theorem jW {c : Expr} (hc : PT X c tA) (ha : PE X a ta) (hb : PE X b tb) : PE X (.IfExp c a b pos) (tIf tA ta tb) := by
 intro pins s σ H Q I h
 refine wpAny_IfExp (cE (hc pins s σ H _ I h) fun d s1 ⟨H1,I1,q1⟩ => ?_)
 cases d with
 | true => exact ha pins s1 σ H1 Q I1 q1
 | false => exact hb pins s1 σ H1 Q I1 q1
end
def bq (K : PySem.W.Frag) (H : Hp) (a : Addr) (xs : List V) : Prop :=
 Rd H a (.lst xs) ∨
  ∃ (o : Obj) (its : Array Value) (n : Nat),K.lookup a = some o ∧ o.cls = .type "list" ∧ o.dict = none ∧ o.data = .seq its n ∧ its.size ≤ sizeLine ∧ Vals xs its.toList
def aZ (K : PySem.W.Frag) (H : Hp) (a : Addr) (xs : List V) : Prop :=
 Rd H a (.tup xs) ∨
  ∃ (o : Obj) (its : Array Value) (n : Nat),K.lookup a = some o ∧ o.cls = .type "tuple" ∧ o.data = .seq its n ∧ its.size ≤ sizeLine ∧ Vals xs its.toList
def Pb : Value → Option V
 | .none => some .non
 | .bool b => some (.bl b)
 | .int i _ => some (.int i)
 | .str x _ => some (.str x)
 | .bytes b _ => some (.zt b)
 | .float b _ => some (.flt b)
 | .ref a => some (.ref a)
 | .type n => some (.ty n)
 | _ => none
theorem RelV.abs {x : V} {u : Value} (r : RelV x u) : Pb u = some x := by
 cases x with
 | non => cases r; rfl
 | bl _ => cases r; rfl
 | int _ => obtain ⟨t,rfl⟩ := r; rfl
 | str _ => obtain ⟨t,rfl⟩ := r; rfl
 | zt _ => obtain ⟨t,rfl⟩ := r; rfl
 | flt _ => obtain ⟨t,rfl⟩ := r; rfl
 | ref _ => cases r; rfl
 | ty _ => cases r; rfl
theorem RelV.inj {x y : V} {u : Value} (r : RelV x u) (q : RelV y u) : x = y := Option.some.inj (r.abs.symm.trans q.abs)
theorem Vals.inj : ∀ {xs ys : List V} {us : List Value},Vals xs us → Vals ys us → xs = ys
 | _,_,_,.nil,.nil => rfl
 | _,_,_,.cons r t,.cons r' t' => by rw [r.inj r',Vals.inj t t']
section
variable {X : Cx} {pins : List (Addr × Obj)} {σ : St} {H : Hp} {s : Shared} {a : Addr} {xs ys : List V}
theorem bq.of {K : PySem.W.Frag} (h : H a = some (.lst xs)) : bq K H a xs := .inl (.inl h)
theorem aZ.of {K : PySem.W.Frag} (h : H a = some (.tup xs)) : aZ K H a xs := .inl (.inl h)
theorem Inv.list (I : Inv X pins σ H s) (h : bq X.K H a xs) : ∃ its : List Value,Vals xs its ∧ PlainL s.heap a its.toArray ∧ xs.length ≤ sizeLine := by
 rcases h with h | ⟨o,its,n,hk,hc,hd,hs,hz,r⟩
 ·obtain ⟨z,its,n,r,e⟩ := h.ok I.hok
  exact ⟨its,r,⟨_,n,e,rfl,rfl,rfl⟩,z⟩
 ·refine ⟨its.toList,r,⟨o,n,I.jF a o hk,hc,hd,by simpa using hs⟩,?_⟩
  have e := r.length
  simp only [Array.length_toList] at e
  omega
theorem Inv.tuple (I : Inv X pins σ H s) (h : aZ X.K H a xs) : ∃ its : List Value,Vals xs its ∧ IsTup s.heap a its.toArray ∧ xs.length ≤ sizeLine := by
 rcases h with h | ⟨o,its,n,hk,hc,hs,hz,r⟩
 ·obtain ⟨z,its,r,p⟩ := h.ok I.hok
  exact ⟨its,r,p,z⟩
 ·refine ⟨its.toList,r,⟨o,I.jF a o hk,hc,n,by simpa using hs⟩,?_⟩
  have e := r.length
  simp only [Array.length_toList] at e
  omega
theorem Inv.nZ (I : Inv X pins σ H s) (h : bq X.K H a xs) (h' : bq X.K H a ys) : xs = ys := by
 obtain ⟨its,r,⟨o,n,e,_,_,d⟩,_⟩ := I.list h
 obtain ⟨its',r',⟨o',n',e',_,_,d'⟩,_⟩ := I.list h'
 rw [e] at e'; cases e'
 rw [d] at d'
 injection d' with d1 _
 have : its = its' := by simpa using congrArg Array.toList d1
 subst this
 exact r.inj r'
theorem Inv.pS (I : Inv X pins σ H s) (h : aZ X.K H a xs) (h' : aZ X.K H a ys) : xs = ys := by
 obtain ⟨its,r,⟨o,e,_,n,d⟩,_⟩ := I.tuple h
 obtain ⟨its',r',⟨o',e',_,n',d'⟩,_⟩ := I.tuple h'
 rw [e] at e'; cases e'
 rw [d] at d'
 injection d' with d1 _
 have : its = its' := by simpa using congrArg Array.toList d1
 subst this
 exact r.inj r'
end
abbrev Cx.wish (X : Cx) (E : Value → Shared → Prop) : Cx := { X with xe := E }
abbrev Cx.I0 (X : Cx) : Cx := X.wish fun _ _ => False
theorem Cx.Ok.wish {X : Cx} (ok : X.Ok) (E : Value → Shared → Prop) : (X.wish E).Ok :=
 ⟨ok.mod,ok.kind,ok.glob,ok.blt,ok.above,ok.inj,ok.has,ok.cab,ok.hd,ok.frames,ok.stk,ok.Jv,ok.bs,ok.BM,ok.ym,ok.uJ,ok.jM,ok.Ej⟩
theorem Cx.Ok.gq {X : Cx} {E : Value → Shared → Prop} (ok : (X.wish E).Ok) : X.Ok :=
 ⟨ok.mod,ok.kind,ok.glob,ok.blt,ok.above,ok.inj,ok.has,ok.cab,ok.hd,ok.frames,ok.stk,ok.Jv,ok.bs,ok.BM,ok.ym,ok.uJ,ok.jM,ok.Ej⟩
section
variable {X : Cx} {pins : List (Addr × Obj)} {σ : St} {H : Hp} {s : Shared} {E : Value → Shared → Prop}
theorem Inv.wish (I : Inv X pins σ H s) (E : Value → Shared → Prop) : Inv (X.wish E) pins σ H s := ⟨I.ok.wish E,I.os,I.bare,I.base,I.loc,I.cell,I.free,I.fQ,I.pin,I.hok,I.len⟩
theorem Inv.gq (I : Inv (X.wish E) pins σ H s) : Inv X pins σ H s := ⟨I.ok.gq,I.os,I.bare,I.base,I.loc,I.cell,I.free,I.fQ,I.pin,I.hok,I.len⟩
theorem SP.gq {D : Ends} {f : Flow} {s' : Shared} (h : SP (X.wish E) pins D f s') : SP X pins D f s' := by
 cases f with
 | next => obtain ⟨σ',H',I,q⟩ := h; exact ⟨σ',H',I.gq,q⟩
 | brk => obtain ⟨σ',H',I,q⟩ := h; exact ⟨σ',H',I.gq,q⟩
 | cont => obtain ⟨σ',H',I,q⟩ := h; exact ⟨σ',H',I.gq,q⟩
 | ret u => obtain ⟨v,σ',H',I,r,q⟩ := h; exact ⟨v,σ',H',I.gq,r,q⟩
theorem pR.I0 {st : List Stmt} {t : TS} (h : pR X.I0 st t) : pR X st t := fun pins s σ H D I hw =>
 wpAny_mono (h pins s σ H D (I.wish _) hw) (fun _ _ q => q.gq) fun _ _ z => False.elim z
end
section
variable {X : Cx} {st : Stmt} {rest : List Stmt} {t u : TS} {e : Expr} {te : TE} {pos : Pos}
def JC : TS := fun D σ H => D.nx σ H
def JD (t u : TS) : TS := fun D σ H => t { D with nx := u D } σ H
theorem aD : pR X [] JC := fun _ _ σ H _ I h => wpAny_execs_nil ⟨σ,H,I,h⟩
theorem aC (h1 : PS X st t) (h2 : pR X rest u) : pR X (st :: rest) (JD t u) := by
 intro pins s σ H D I h
 refine wpAny_execs_cons (cE (h1 pins s σ H { D with nx := u D } I h) fun f s1 q => ?_)
 cases f with
 | next =>
  obtain ⟨σ',H',I',q⟩ := q
  exact h2 pins s1 σ' H' D I' q
 | ret v => exact q
 | brk => exact q
 | cont => exact q
theorem aG (h1 : PS X st t) : pR X [st] t := by
 intro pins s σ H D I h
 refine wpAny_execs_cons (cE (h1 pins s σ H D I h) fun f s1 q => ?_)
 cases f with
 | next => exact wpAny_execs_nil q
 | ret v => exact q
 | brk => exact q
 | cont => exact q
theorem Inv.quiet {pins : List (Addr × Obj)} {σ : St} {H : Hp} {s : Shared} (I : Inv X pins σ H s) : interactive X.env = false := by simp [interactive,I.ok.kind]
def JE (te : TE) : TS := fun D σ H => te σ H fun _ H1 => D.nx σ H1
theorem cV (he : PE X e te) (hs : swapsWith e none pos.line X.env = pure false := by rfl) : PS X (.Expr e pos) (JE te) := by
 intro pins s σ H D I h
 exact wpAny_Expr_any (cE (he pins s σ H _ I h) fun v s1 ⟨x,H1,I1,r1,q1⟩ => ⟨σ,H1,I1,q1⟩) I.quiet hs
def Pg (te : TE) : TS := fun D σ H => te σ H D.rt
theorem aA (he : PE X e te) : PS X (.Return (some e) pos) (Pg te) := by
 intro pins s σ H D I h
 exact wpAny_Return_some (cE (he pins s σ H _ I h) fun v s1 ⟨x,H1,I1,r1,q1⟩ => ⟨x,σ,H1,I1,r1,q1⟩)
def JF (c : TT) (t u : TS) : TS := fun D σ H => c σ H fun b H1 => if b = true then t D σ H1 else u D σ H1
theorem cK {c : Expr} {a b : List Stmt} {tc : TT} (hc : PT X c tc) (ha : pR X a t) (hb : pR X b u) : PS X (.If c a b pos) (JF tc t u) := by
 intro pins s σ H D I h
 refine wpAny_If (cE (hc pins s σ H _ I h) fun d s1 ⟨H1,I1,q1⟩ => ?_)
 cases d with
 | true => exact ha pins s1 σ H1 D I1 q1
 | false => exact hb pins s1 σ H1 D I1 q1
end
abbrev TG := V → St → Hp → (St → Hp → Prop) → Prop
abbrev Fv := List V → St → Hp → (St → Hp → Prop) → Prop
def PG (X : Cx) (target : Expr) (t : TG) : Prop :=
 ∀ (pins : List (Addr × Obj)) (s : Shared) (σ : St) (H : Hp) (v : V) (u : Value) (Q : St → Hp → Prop),Inv X pins σ H s → RelV v u → t v σ H Q →
  wpAny (model X.prog X.w) X.A (assign target X.env u) (fun _ s' => ∃ σ' H',Inv X pins σ' H' s' ∧ Q σ' H') X.xe s
def NX (X : Cx) (ts : List Expr) (t : Fv) : Prop :=
 ∀ (pins : List (Addr × Obj)) (s : Shared) (σ : St) (H : Hp) (vs : List V) (us : List Value) (Q : St → Hp → Prop),Inv X pins σ H s → Vals vs us → t vs σ H Q →
  wpAny (model X.prog X.w) X.A (assignInOrder ((assignEach ts X.env).map (·.2)) us) (fun _ s' => ∃ σ' H',Inv X pins σ' H' s' ∧ Q σ' H') X.xe s
abbrev Fw := V → V → V → Hp → (Hp → Prop) → Prop
def JG (X : Cx) (t : Fw) : Prop :=
 ∀ (pins : List (Addr × Obj)) (s : Shared) (σ : St) (H : Hp) (o i v : V) (ov iv u : Value) (Q : Hp → Prop),Inv X pins σ H s → RelV o ov → RelV i iv → RelV v u → t o i v H Q →
  wpAny (model X.prog X.w) X.A (setItem ov iv u) (fun _ s' => ∃ H',Inv X pins σ H' s' ∧ Q H') X.xe s
section
variable {X : Cx} {pos : Pos}
def n4 (i : Nat) : TG := fun v σ H Q => Q (σ.set i (some v)) H
theorem cq {i : Nat} {x : Str} (hN : X.N.Nodup) (hi : X.N[i]? = some x) (hx : Loc X.env.scope x) (hf : X.fn x = true ∨ X.env.scope.names.lookup x = some .local := by first | exact .inl rfl | exact .inr rfl | assumption) : PG X (.Name x pos) (n4 i) := by
 intro pins s σ H v u Q I r h
 exact wpAny_assign_Name (jV I hN hi hx r (fun s' I' => ⟨_,H,I',h⟩) hf)
def JH : Fv := fun vs σ H Q => vs = [] ∧ Q σ H
def zy (t : TG) (u : Fv) : Fv := fun vs σ H Q => ∃ v r,vs = v :: r ∧ t v σ H fun σ' H' => u r σ' H' Q
theorem nA : NX X [] JH := by
 intro pins s σ H vs us Q I r h
 obtain ⟨e,h⟩ := h
 subst e
 cases r
 exact assignInOrder_nil ⟨σ,H,I,h⟩
theorem dA {e : Expr} {es : List Expr} {t : TG} {u : Fv} (h1 : PG X e t) (h2 : NX X es u)
  (hs : (assignEach (e :: es) X.env).map (·.2) = assign e X.env :: (assignEach es X.env).map (·.2) := by rfl) : NX X (e :: es) (zy t u) := by
 intro pins s σ H vs us Q I r h
 obtain ⟨v,vr,e1,h⟩ := h
 subst e1
 cases r with
 | cons r rr =>
  rw [hs]
  refine assignInOrder_cons (cE (h1 pins s σ H _ _ _ I r h) fun _ s1 ⟨σ1,H1,I1,q1⟩ => ?_)
  exact h2 pins s1 σ1 H1 _ _ Q I1 rr q1
def JI (K : PySem.W.Frag) (n : Nat) (t : Fv) : TG := fun v σ H Q => ∃ a xs,v = .ref a ∧ aZ K H a xs ∧ xs.length = n ∧ t xs σ H Q
theorem qP {es : List Expr} {k : Nat} {t : Fv} {n : Nat} (hc : X.calm = true) (h : NX X es t)
  (hn : (assignEach es X.env).length = n := by rfl) (hst : (assignEach es X.env).findIdx? (·.1) = none := by rfl) : PG X (.Tuple es k pos) (JI X.K n t) := by
 intro pins s σ H v u Q I r hw
 obtain ⟨a,xs,e1,hq,hl,hw⟩ := hw
 subst e1
 cases r
 obtain ⟨its,rv,ht,hz⟩ := I.tuple hq
 refine assign_Tuple_tuple (I.ok.hd hc) ht (by simp [hn,← hl,rv.length]) hst fun h' hx => ?_
 have I1 : Inv X pins σ H { s with heap := h' } := I.kept (t' := s.toks) fun b o e => hx b o (Nat.ne_of_lt (Heap.lt_size e)) e
 exact h pins _ σ H xs _ Q I1 (by simpa using rv) hw
def Ph (to ti : TE) (t : Fw) : TG := fun v σ H Q => to σ H fun o H1 => ti σ H1 fun i H2 => t o i v H2 fun H3 => Q σ H3
theorem uK {o i : Expr} {to ti : TE} {t : Fw} (ho : PE X o to) (hi : PE X i ti) (hs : JG X t)
  (ha : ∀ v,assign (.Subscript o i pos) X.env v = (do
   let ov ← holding [v] (eval o X.env)
   let iv ← holding [v,ov] (eval i X.env)
   standAt pos
   holding [v,ov,iv] (setItem ov iv v)
   release [v,ov,iv] []) := by intro _; rfl) : PG X (.Subscript o i pos) (Ph to ti t) := by
 intro pins s σ H v u Q I r h
 rw [ha]
 refine wpAny_bind (wpAny_holding (cE (ho pins s σ H _ I h) fun ov s1 ⟨x,H1,I1,r1,q1⟩ => ?_))
 refine wpAny_bind (wpAny_holding (cE (hi pins s1 σ H1 _ I1 q1) fun iv s2 ⟨y,H2,I2,r2,q2⟩ => ?_))
 refine wpAny_bind (wpAny_standAt (wpAny_bind (wpAny_holding (cE (hs pins s2 σ H2 x y v ov iv u _ I2 r1 r2 r q2) fun _ s3 ⟨H3,I3,q3⟩ => ?_))))
 exact wpAny_release ⟨σ,H3,I3,q3⟩
def zA (te : TE) (g : TG) : TS := fun D σ H => te σ H fun x H1 => g x σ H1 D.nx
theorem qQ {tg e : Expr} {te : TE} {g : TG} (he : PE X e te) (hg : PG X tg g) (hs : swapsWithSole [tg] e pos.line X.env = pure false := by rfl) (hw : swappedStores [tg] e X.env = pure none := by rfl)
  (h1 : (assignEach [tg] X.env).map (·.2) = [assign tg X.env] := by rfl) : PS X (.Assign [tg] e pos) (zA te g) := by
 intro pins s σ H D I h
 refine wpAny_Assign_stores (cE (he pins s σ H _ I h) fun v s1 ⟨x,H1,I1,r1,q1⟩ => ?_) hs hw
 rw [h1]
 exact cE (hg pins s1 σ H1 x v _ I1 r1 q1) fun _ s2 q => q
theorem aF {i : Nat} {x : Str} {e : Expr} {te : TE} {pos' : Pos} (hN : X.N.Nodup) (hi : X.N[i]? = some x) (hx : Loc X.env.scope x) (he : PE X e te) (hs : swapsWith e (some (.Name x pos')) pos.line X.env = pure false := by rfl) (hf : X.fn x = true ∨ X.env.scope.names.lookup x = some .local := by first | exact .inl rfl | exact .inr rfl | assumption) :
  PS X (.Assign [.Name x pos'] e pos) (zA te (n4 i)) := by
 intro pins s σ H D I h
 refine wpAny_Assign_Name (cE (he pins s σ H _ I h) fun v s1 ⟨y,H1,I1,r1,q1⟩ => ?_) hs
 exact jV I1 hN hi hx r1 (fun s2 I2 => ⟨_,H1,I2,q1⟩) hf
end
section
variable {X : Cx} {pos : Pos}
def Fx (c : TT) (tb : TS) : TS := fun D σ H => ∃ W : Nat → St → Hp → Prop,(∃ m,W m σ H) ∧ ∀ m σ H,W m σ H →
 c σ H fun b H1 => if b = true then ∃ N : St → Hp → Prop,(∀ σ' H',N σ' H' → ∃ m',m' < m ∧ W m' σ' H') ∧ tb { D with nx := N,ct := N,bk := D.nx } σ H1 else D.nx σ H1
theorem jX {c : Expr} {body : List Stmt} {tc : TT} {tb : TS} (hp : PassesOwn (model X.prog X.w) X.A X.env X.xe) (hc : PT X c tc) (hb : pR X body tb) : PS X (.While c body [] pos) (Fx tc tb) := by
 intro pins s σ H D I h
 obtain ⟨W,⟨m0,w0⟩,turn⟩ := h
 refine wpAny_While (codeAny_whileLoop (fun n s' => ∃ σ' H',Inv X pins σ' H' s' ∧ W n σ' H') ?_ m0 ⟨σ,H,I,w0⟩)
 rintro n s1 ⟨σ1,H1,I1,w1⟩
 refine wpAny_passesOwn hp (cE (hc pins s1 σ1 H1 _ I1 (turn n σ1 H1 w1)) fun b s2 ⟨H2,I2,q2⟩ => ?_)
 cases b with
 | true =>
  obtain ⟨N,hN,q2⟩ := q2
  rw [if_pos rfl]
  refine wpAny_passesOwn hp (cE (hb pins s2 σ1 H2 _ I2 q2) fun f s3 q3 => ?_)
  cases f with
  | next =>
   obtain ⟨σ3,H3,I3,n3⟩ := q3
   obtain ⟨m',hm,w3⟩ := hN σ3 H3 n3
   exact ⟨m',hm,σ3,H3,I3,w3⟩
  | cont =>
   obtain ⟨σ3,H3,I3,n3⟩ := q3
   obtain ⟨m',hm,w3⟩ := hN σ3 H3 n3
   exact ⟨m',hm,σ3,H3,I3,w3⟩
  | brk => exact q3
  | ret v => exact q3
 | false =>
  rw [if_neg Bool.false_ne_true]
  exact wpAny_execs_nil ⟨σ1,H2,I2,q2⟩
end
structure It where
 go : Nat → Hp → Prop
 BO : Nat → Hp → V → Hp → Prop
 stop : Nat → Hp → Prop
def kY (X : Cx) (pins : List (Addr × Obj)) (H : Hp) (b : Addr) : Prop :=
 H b = none ∧ b ≠ X.env.locals ∧ b ∉ X.fs ∧ (b ∈ X.ex ∨ X.s₀.heap.objs.size ≤ b) ∧ (∀ x c,X.env.cells.lookup x = some c → c ≠ b) ∧ ∀ p ∈ X.pn ++ pins,p.1 ≠ b
theorem Inv.B2 {X : Cx} {pins : List (Addr × Obj)} {σ : St} {H H' : Hp} {s : Shared} {b : Addr} (I : Inv X pins σ H s) (hb : s.heap.objs.size ≤ b) (hn : H' b = none) : kY X pins H' b := by
 refine ⟨hn,Nat.ne_of_gt (Nat.lt_of_lt_of_le I.lt hb),I.O6 hb,.inr (Nat.le_trans I.sz hb),fun x c e z => ?_,fun p hp z => ?_⟩
 ·obtain ⟨v,q⟩ := I.cell x c e
  exact absurd (Nat.lt_of_lt_of_le q.lt (by rw [z]; exact hb)) (Nat.lt_irrefl _)
 ·exact absurd (Nat.lt_of_lt_of_le (Heap.lt_size (I.pin p hp).1) (by rw [z]; exact hb)) (Nat.lt_irrefl _)
structure Turn (P : Program) (w : World) (K : PySem.W.Frag) (tg : Expr) (J : It) (fp : List Addr) (it : Addr) (tn : Nat → Heap → Prop) : Prop where
 mem : it ∈ fp
 obj : ∀ i h,tn i h → ∀ b ∈ fp,∃ o,h.get? b = some o ∧ ∀ v,o.data ≠ .cell v
 keep : ∀ i h h',tn i h → (∀ b ∈ fp,∀ o,h.get? b = some o → h'.get? b = some o) → tn i h'
 item : ∀ (X : Cx),X.prog = P → X.w = w → X.K = K → X.calm = true → ∀ (i : Nat) (pins : List (Addr × Obj)) (s : Shared) (σ : St) (H : Hp) (E : Value → Shared → Prop),Inv X pins σ H s → (∀ b ∈ fp,kY X pins H b) → tn i s.heap → J.go i H →
  wpAny (model P w) X.A (pyNext (.ref it)) (fun r s1 => ∃ u,r = some u ∧
   wpAny (model P w) X.A (letOwnedTupleGo tg (.ref it) u) (fun _ s2 => ∃ x H',Inv X pins σ H' s2 ∧ RelV x u ∧ J.BO i H x H' ∧ tn (i + 1) s2.heap ∧ ∀ b ∈ fp,H' b = none) E s1) E s
 done : ∀ (X : Cx),X.prog = P → X.w = w → X.K = K → X.calm = true → ∀ (i : Nat) (pins : List (Addr × Obj)) (s : Shared) (σ : St) (H : Hp) (E : Value → Shared → Prop),Inv X pins σ H s → (∀ b ∈ fp,kY X pins H b) → tn i s.heap → J.stop i H →
  wpAny (model P w) X.A (pyNext (.ref it)) (fun r s1 => r = none ∧ Inv X pins σ H s1) E s
 self : ∀ (A : Around) (i : Nat) (s : Shared) (Q : Value → Shared → Prop) (E : Value → Shared → Prop),tn i s.heap → Q (.ref it) s → wpAny (model P w) A (pyIter (.ref it)) Q E s
abbrev TI := St → Hp → (It → Hp → Prop) → Prop
def PIE (X : Cx) (pins : List (Addr × Obj)) (σ : St) (tg : Expr) (R : It → Hp → Prop) (itv : Value) (s2 : Shared) : Prop :=
 ∃ (it : Addr) (fp : List Addr) (tn : Nat → Heap → Prop) (J : It) (H' : Hp),itv = .ref it ∧ Inv X pins σ H' s2 ∧ Turn X.prog X.w X.K tg J fp it tn ∧ tn 0 s2.heap ∧ (∀ b ∈ fp,kY X pins H' b) ∧ R J H'
def PI (X : Cx) (tg iter : Expr) (wi : TI) : Prop :=
 ∀ (pins : List (Addr × Obj)) (s : Shared) (σ : St) (H : Hp) (R : It → Hp → Prop),Inv X pins σ H s → wi σ H R →
  wpAny (model X.prog X.w) X.A (eval iter X.env) (fun v s1 => wpAny (model X.prog X.w) X.A (pyIter v) (PIE X pins σ tg R) X.xe s1) X.xe s
theorem zB {M : Model} {A : Around} {E : Value → Shared → Prop} {s : Shared} {tg : Expr} {it : Addr} {u : Value} {o : Obj} {n : String} {vs : Array Value} {Q : Unit → Shared → Prop} (ho : s.heap.get? it = some o) (hc : o.cls = .type n) (hd : o.data = .fields vs)
  (hn : ["enumerate", "zip", "dict_itemiterator", "dict_reverseitemiterator", "odict_iterator", "itertools.zip_longest", "itertools.pairwise"].contains n = false) (hQ : Q () s) : wpAny M A (letOwnedTupleGo tg (.ref it) u) Q E s := by
 unfold letOwnedTupleGo
 cases tg <;> first
  | exact wpAny_pure hQ
  | (cases u <;> first
    | exact wpAny_pure hQ
    | (refine wpAny_bind (wpAny_load ho ?_)
       rw [hc,hd]
       show wpAny M A (if (["enumerate", "zip", "dict_itemiterator", "dict_reverseitemiterator", "odict_iterator", "itertools.zip_longest", "itertools.pairwise"].contains n && vs[0]? == some (rawInt _)) = true then _ else _) Q E s
       rw [if_neg (by intro h; rw [hn,Bool.false_and] at h; cases h)]
       exact wpAny_pure hQ))
def Ek (K : PySem.W.Frag) (a : Addr) : It :=
 ⟨fun i H => ∃ xs x,bq K H a xs ∧ xs[i]? = some x,fun i H x H' => H' = H ∧ ∀ xs,bq K H a xs → xs[i]? = some x,fun i H => ∃ xs,bq K H a xs ∧ xs.length ≤ i⟩
def JJ (K : PySem.W.Frag) (a : Addr) : It :=
 ⟨fun i H => ∃ xs x,aZ K H a xs ∧ xs[i]? = some x,fun i H x H' => H' = H ∧ ∀ xs,aZ K H a xs → xs[i]? = some x,fun i H => ∃ xs,aZ K H a xs ∧ xs.length ≤ i⟩
def B3 (lo : Int) (n : Nat) : It := ⟨fun i _ => i < n,fun i H x H' => H' = H ∧ x = .int (lo + i),fun i _ => n ≤ i⟩
theorem yn {P : Program} {w : World} {K : PySem.W.Frag} {tg : Expr} (a it : Addr) : Turn P w K tg (Ek K a) [it] it (fun i h => h.IsListIter it a i) where
 mem := by simp
 obj := fun i h st b hb => by
  have e : b = it := by simpa using hb
  subst e
  obtain ⟨o,e,c,d⟩ := st
  exact ⟨o,e,fun v z => by rw [d] at z; cases z⟩
 keep := fun i h h' st k => st.at fun o e => k it (by simp) o e
 item := by
  intro X hP hw hK hc i pins s σ H E I hf st hg
  subst hP hw hK
  obtain ⟨xs,x,hq,hx⟩ := hg
  obtain ⟨its,rv,p,hz⟩ := I.list hq
  obtain ⟨u,hu,ru⟩ := rv.get hx
  obtain ⟨f0,f1,f2,f3,f4,f5⟩ := hf it (by simp)
  refine wpAny_pyNext_list_item st p.isList (x := u) (by simpa using hu) fun h' st' sb => ?_
  have I1 : Inv X pins σ H { s with heap := h' } := I.turned (t' := s.toks) (fun b o hb e => (sb.2 b hb).trans e) f0 f1 f3 f4 f5
  obtain ⟨o,e,c,d⟩ := id st'
  exact ⟨u,rfl,zB (s := { s with heap := h' }) e c d (by decide) ⟨x,H,I1,ru,⟨rfl,fun ys hy => by rw [I.nZ hy hq]; exact hx⟩,st',fun b hb => (hf b hb).1⟩⟩
 done := by
  intro X hP hw hK hc i pins s σ H E I hf st hg
  subst hP hw hK
  obtain ⟨xs,hq,hx⟩ := hg
  obtain ⟨its,rv,p,hz⟩ := I.list hq
  obtain ⟨f0,f1,f2,f3,f4,f5⟩ := hf it (by simp)
  have hl := rv.length
  exact wpAny_pyNext_list_end (I.ok.hd hc) st p.isList (by simp; omega) fun h' eb => ⟨rfl,I.turned (t' := s.toks) (fun b o hb e => eb b o hb e) f0 f1 f3 f4 f5⟩
 self := fun _ _ _ _ _ st h => wpAny_pyIter_listiter st h
theorem uM {P : Program} {w : World} {K : PySem.W.Frag} {tg : Expr} (a it : Addr) : Turn P w K tg (JJ K a) [it] it (fun i h => h.IsTupleIter it a i) where
 mem := by simp
 obj := fun i h st b hb => by
  have e : b = it := by simpa using hb
  subst e
  obtain ⟨o,e,c,d⟩ := st
  exact ⟨o,e,fun v z => by rw [d] at z; cases z⟩
 keep := fun i h h' st k => st.at fun o e => k it (by simp) o e
 item := by
  intro X hP hw hK hc i pins s σ H E I hf st hg
  subst hP hw hK
  obtain ⟨xs,x,hq,hx⟩ := hg
  obtain ⟨its,rv,p,hz⟩ := I.tuple hq
  obtain ⟨u,hu,ru⟩ := rv.get hx
  obtain ⟨f0,f1,f2,f3,f4,f5⟩ := hf it (by simp)
  refine wpAny_pyNext_tuple_item st (show s.heap.IsTuple a its.toArray from p) (x := u) (by simpa using hu) fun h' st' sb => ?_
  have I1 : Inv X pins σ H { s with heap := h' } := I.turned (t' := s.toks) (fun b o hb e => (sb.2 b hb).trans e) f0 f1 f3 f4 f5
  obtain ⟨o,e,c,d⟩ := id st'
  exact ⟨u,rfl,zB (s := { s with heap := h' }) e c d (by decide) ⟨x,H,I1,ru,⟨rfl,fun ys hy => by rw [I.pS hy hq]; exact hx⟩,st',fun b hb => (hf b hb).1⟩⟩
 done := by
  intro X hP hw hK hc i pins s σ H E I hf st hg
  subst hP hw hK
  obtain ⟨xs,hq,hx⟩ := hg
  obtain ⟨its,rv,p,hz⟩ := I.tuple hq
  obtain ⟨f0,f1,f2,f3,f4,f5⟩ := hf it (by simp)
  have hl := rv.length
  exact wpAny_pyNext_tuple_end (I.ok.hd hc) st (show s.heap.IsTuple a its.toArray from p) (by simp; omega) fun h' eb => ⟨rfl,I.turned (t' := s.toks) (fun b o hb e => eb b o hb e) f0 f1 f3 f4 f5⟩
 self := fun _ _ _ _ _ st h => wpAny_pyIter_tupleiter st h
theorem uN {P : Program} {w : World} {K : PySem.W.Frag} {tg : Expr} (it : Addr) (lo : Int) (n : Nat) : Turn P w K tg (B3 lo n) [it] it (fun i h => IsRangeIter h it (lo + (i : Nat) * 1) ((n : Int) - (i : Nat)) 1) where
 mem := by simp
 obj := fun i h st b hb => by
  have e : b = it := by simpa using hb
  subst e
  exact ⟨_,st,fun v z => by
   have z' : Data.fields _ = Data.cell v := z
   cases z'⟩
 keep := fun i h h' st k => k it (by simp) _ st
 item := by
  intro X hP hw hK hc i pins s σ H E I hf st hg
  subst hP hw hK
  obtain ⟨f0,f1,f2,f3,f4,f5⟩ := hf it (by simp)
  have W := Walks.range (prog := X.prog) (w := X.w) (I.ok.hd hc) it lo 1 n
  refine W.item i s _ _ hg st fun v h' tk hv st' kk => ?_
  obtain ⟨t,rfl⟩ := hv
  have I1 : Inv X pins σ H { s with heap := h',toks := tk } := I.turned (fun b o hb e => kk b o (by simpa using hb) e) f0 f1 f3 f4 f5
  refine ⟨_,rfl,zB (s := { s with heap := h',toks := tk }) (n := "range_iterator") st' rfl rfl (by decide) ⟨.int (lo + i),H,I1,⟨t,?_⟩,⟨rfl,rfl⟩,st',fun b hb => (hf b hb).1⟩⟩
  rw [Int.mul_one]
 done := by
  intro X hP hw hK hc i pins s σ H E I hf st hg
  subst hP hw hK
  obtain ⟨f0,f1,f2,f3,f4,f5⟩ := hf it (by simp)
  exact wpAny_pyNext_range_end (I.ok.hd hc) st (by have : n ≤ i := hg; omega) fun h' eb => ⟨rfl,I.turned (t' := s.toks) (fun b o hb e => eb b o hb e) f0 f1 f3 f4 f5⟩
 self := fun _ _ _ _ _ st h => wpAny_pyIter_rangeiter st h
section
variable {X : Cx} {tg : Expr}
def JK (K : PySem.W.Frag) (tl : TE) : TI := fun σ H R => tl σ H fun x H1 => ∃ a,x = .ref a ∧ (∃ xs,bq K H1 a xs) ∧ R (Ek K a) H1
def Pj (K : PySem.W.Frag) (tl : TE) : TI := fun σ H R => tl σ H fun x H1 => ∃ a,x = .ref a ∧ (∃ xs,aZ K H1 a xs) ∧ R (JJ K a) H1
theorem ja {l : Expr} {tl : TE} (hl : PE X l tl) : PI X tg l (JK X.K tl) := by
 intro pins s σ H R I h
 refine cE (hl pins s σ H _ I h) fun v s1 ⟨x,H1,I1,r1,q1⟩ => ?_
 obtain ⟨a,e,⟨xs,hq⟩,q⟩ := q1
 subst e
 cases r1
 obtain ⟨its,rv,p,hz⟩ := I1.list hq
 refine wpAny_pyIter_list p.isList ?_
 refine ⟨s1.heap.objs.size,[s1.heap.objs.size],_,_,H1,rfl,I1.kept (t' := s1.toks) fun b o e => Heap.get?_push_of_some _ e,yn a _,⟨_,Heap.get?_push_size _ rfl,rfl,rfl⟩,fun b hb => ?_,q⟩
 have e : b = s1.heap.objs.size := by simpa using hb
 subst e
 exact I1.B2 (Nat.le_refl _) (I1.hok.fresh (Nat.le_refl _))
theorem qR {l : Expr} {tl : TE} (hl : PE X l tl) : PI X tg l (Pj X.K tl) := by
 intro pins s σ H R I h
 refine cE (hl pins s σ H _ I h) fun v s1 ⟨x,H1,I1,r1,q1⟩ => ?_
 obtain ⟨a,e,⟨xs,hq⟩,q⟩ := q1
 subst e
 cases r1
 obtain ⟨its,rv,p,hz⟩ := I1.tuple hq
 refine wpAny_pyIter_tuple (show s1.heap.IsTuple a its.toArray from p) ?_
 refine ⟨s1.heap.objs.size,[s1.heap.objs.size],_,_,H1,rfl,I1.kept (t' := s1.toks) fun b o e => Heap.get?_push_of_some _ e,uM a _,⟨_,Heap.get?_push_size _ rfl,rfl,rfl⟩,fun b hb => ?_,q⟩
 have e : b = s1.heap.objs.size := by simpa using hb
 subst e
 exact I1.B2 (Nat.le_refl _) (I1.hok.fresh (Nat.le_refl _))
theorem zC {pins : List (Addr × Obj)} {σ : St} {H : Hp} {s : Shared} {R : It → Hp → Prop} {E : Value → Shared → Prop} {lo hi : Int} {t u v : Tok} {tk : Nat} (I : Inv X pins σ H s) (h1 : -(2 ^ 62) ≤ lo) (h2 : lo < 2 ^ 62) (h3 : -(2 ^ 62) ≤ hi) (h4 : hi < 2 ^ 62)
  (q : R (B3 lo (hi - lo).toNat) H) : wpAny (model X.prog X.w) X.A (pyIter (.ref s.heap.objs.size)) (PIE X pins σ tg R) E { s with heap := s.heap.push { cls := .type "range",data := .fields #[.int lo t,.int hi u,.int 1 v] },toks := tk } := by
 refine wpAny_pyIter_range (IsRange.new ..) (small_one h1 h2 h3 h4) ?_
 have I1 : Inv X pins σ H { s with heap := s.heap.push { cls := .type "range",data := .fields #[.int lo t,.int hi u,.int 1 v] },toks := tk } := I.kept fun b o e => Heap.get?_push_of_some _ e
 refine ⟨(s.heap.push { cls := .type "range",data := .fields #[.int lo t,.int hi u,.int 1 v] }).objs.size,[(s.heap.push { cls := .type "range",data := .fields #[.int lo t,.int hi u,.int 1 v] }).objs.size],_,_,H,rfl,
  I1.kept (t' := tk) fun b o e => Heap.get?_push_of_some _ e,uN _ lo (hi - lo).toNat,?_,fun b hb => ?_,q⟩
 ·have e1 : lo + ((0 : Nat) : Int) * 1 = lo := by simp
  have e2 : (((hi - lo).toNat : Nat) : Int) - ((0 : Nat) : Int) = Builtin.Range.rangeSize lo hi 1 := by rw [rangeSize_one]; split <;> omega
  show IsRangeIter _ _ (lo + ((0 : Nat) : Int) * 1) ((((hi - lo).toNat : Nat) : Int) - ((0 : Nat) : Int)) 1
  rw [e1,e2]
  exact Heap.get?_push_size _ rfl
 ·have e : b = (s.heap.push { cls := .type "range",data := .fields #[.int lo t,.int hi u,.int 1 v] }).objs.size := by simpa using hb
  subst e
  exact I1.B2 (Nat.le_refl _) (I1.hok.fresh (Nat.le_refl _))
def JL (ta : TA) : TI := fun σ H R => ta σ H fun vs H1 => ∃ j : Int,vs = [.int j] ∧ -(2 ^ 62) ≤ j ∧ j < 2 ^ 62 ∧ R (B3 0 j.toNat) H1
theorem dP {a : Expr} {ta : TA} {p pos : Pos} (hg : Gl X "range") (hm : X.mg "range" = none) (ha : PA X [a] ta) (hs : starEach [a] X.env = [(false,eval a X.env)] := by rfl) : PI X tg (.Call (.Name "range" p) [a] [] pos) (JL ta) := by
 intro pins s σ H R I h
 refine Call_ (nX I hg hm boot_range (PyProof.Rows.callWith_type1 (cE (ha pos pins s σ H _ I h) fun us s1 ⟨vs,H1,I1,r1,q1⟩ => ?_) hs rfl))
 obtain ⟨j,e,q1,q2,q⟩ := q1
 subst e
 cases r1 with
 | cons r rr =>
  cases rr
  obtain ⟨t,rfl⟩ := r
  exact call_range_1 (zC I1 (by omega) (by omega) q1 q2 (by simpa using q))
def Pk (wi : TI) (g : TG) (tb : TS) : TS := fun D σ H => wi σ H fun J H1 => ∃ W : Nat → Nat → St → Hp → Prop,(∃ m,W 0 m σ H1) ∧ ∀ i m σ H,W i m σ H →
 (J.stop i H ∧ D.nx σ H) ∨ (J.go i H ∧ ∃ N : St → Hp → Prop,(∀ σ' H',N σ' H' → ∃ m',m' < m ∧ W (i + 1) m' σ' H') ∧ ∀ x H',J.BO i H x H' → g x σ H' fun σ2 H2 => tb { D with nx := N,ct := N,bk := D.nx } σ2 H2)
def lg (fp : List Addr) (h : Heap) : List (Addr × Obj) := fp.filterMap fun b => (h.get? b).map fun o => (b,o)
theorem d5 {fp : List Addr} {h : Heap} {b : Addr} {o : Obj} (hb : b ∈ fp) (e : h.get? b = some o) : (b,o) ∈ lg fp h := List.mem_filterMap.mpr ⟨b,hb,by rw [e]; rfl⟩
theorem yo {fp : List Addr} {h : Heap} {p : Addr × Obj} (hp : p ∈ lg fp h) : p.1 ∈ fp ∧ h.get? p.1 = some p.2 := by
 obtain ⟨b,hb,e⟩ := List.mem_filterMap.mp hp
 cases q : h.get? b with
 | none => rw [q] at e; cases e
 | some o =>
  rw [q] at e
  have e' : (b,o) = p := Option.some.inj e
  subst e'
  exact ⟨hb,q⟩
theorem Inv.pinned {pins : List (Addr × Obj)} {σ : St} {H : Hp} {s : Shared} {fp : List Addr} (I : Inv X pins σ H s) (hf : ∀ b ∈ fp,kY X pins H b) (ho : ∀ b ∈ fp,∃ o,s.heap.get? b = some o ∧ ∀ v,o.data ≠ .cell v) : Inv X (pins ++ lg fp s.heap) σ H s :=
 I.wA fun p hp => (List.mem_append.mp hp).elim (fun z => I.pin p (List.mem_append_right _ z)) fun z => by
  obtain ⟨hb,e⟩ := yo z
  obtain ⟨f0,f1,f2,_⟩ := hf p.1 hb
  obtain ⟨o,e',d⟩ := ho p.1 hb
  rw [e] at e'; cases e'
  exact ⟨e,f0,f1,f2,d⟩
theorem Inv.iP {pins pl : List (Addr × Obj)} {σ : St} {H : Hp} {s : Shared} (I : Inv X (pins ++ pl) σ H s) : Inv X pins σ H s := I.wA fun p hp => I.pin p (List.mem_append_right _ (List.mem_append_left _ hp))
theorem fc {iter : Expr} {body : List Stmt} {wi : TI} {g : TG} {tb : TS} {pos : Pos} (hp : PassesOwn (model X.prog X.w) X.A X.env X.xe) (hc : X.calm = true) (hi : PI X tg iter wi) (hg : PG X tg g) (hb : pR X body tb)
  (hs : ∀ x,foldedSetIterable iter X.env x = pure x := by intro _; rfl) : PS X (.For tg iter body [] pos) (Pk wi g tb) := by
 intro pins s σ H D I h
 refine wpAny_For (cE (hi pins s σ H _ I h) fun v s1 h1 => cE h1 fun itv s2 h2 => ?_) hs
 obtain ⟨it,fp,tn,J,H2,e,I2,T,st2,f2,W,⟨m0,w0⟩,turn⟩ := h2
 subst e
 have stat : ∀ {H' : Hp},(∀ b ∈ fp,H' b = none) → ∀ b ∈ fp,kY X pins H' b := fun hn b hb => ⟨hn b hb,(f2 b hb).2⟩
 refine codeAny_forLoop_any (fun n s' => ∃ i σ' H',Inv X pins σ' H' s' ∧ tn i s'.heap ∧ (∀ b ∈ fp,H' b = none) ∧ W i n σ' H') ?_ m0 ⟨0,σ,H2,I2,st2,fun b hb => (f2 b hb).1,w0⟩
 rintro n s3 ⟨i,σ3,H3,I3,st3,fr3,w3⟩
 rcases turn i n σ3 H3 w3 with ⟨stop,qn⟩ | ⟨go,N,hN,step⟩
 ·refine wpAny_passesOwn hp (cE (T.done X rfl rfl rfl hc i pins s3 σ3 H3 X.xe I3 (stat fr3) st3 stop) fun r s4 ⟨hr,I4⟩ => ?_)
  subst hr
  exact wpAny_execs_nil ⟨σ3,H3,I4,qn⟩
 ·refine wpAny_passesOwn hp (cE (T.item X rfl rfl rfl hc i pins s3 σ3 H3 X.xe I3 (stat fr3) st3 go) fun r s4 ⟨u,hr,h4⟩ => ?_)
  subst hr
  refine wpAny_passesOwn hp (cE h4 fun _ s5 ⟨x,H5,I5,r5,y5,B4,Fy⟩ => ?_)
  have I5' := I5.pinned (stat Fy) (T.obj _ _ B4)
  refine wpAny_passesOwn hp (cE (hg _ s5 σ3 H5 x u _ I5' r5 (step x H5 y5)) fun _ s6 ⟨σ6,H6,I6,q6⟩ => ?_)
  refine wpAny_passesOwn hp (cE (hb _ s6 σ6 H6 _ I6 q6) fun f s7 q7 => ?_)
  have again : ∀ {σ7 : St} {H7 : Hp},Inv X (pins ++ lg fp s5.heap) σ7 H7 s7 → N σ7 H7 → ∃ m,m < n ∧ ∃ i σ' H',Inv X pins σ' H' s7 ∧ tn i s7.heap ∧ (∀ b ∈ fp,H' b = none) ∧ W i m σ' H' := fun {σ7 H7} I7 n7 => by
   obtain ⟨m',hm,w7⟩ := hN σ7 H7 n7
   refine ⟨m',hm,i + 1,σ7,H7,I7.iP,T.keep _ _ _ B4 fun b hb o e => (I7.pin (b,o) (List.mem_append_right _ (List.mem_append_right _ (d5 hb e)))).1,fun b hb => ?_,w7⟩
   obtain ⟨o,e,d⟩ := T.obj _ _ B4 b hb
   exact (I7.pin (b,o) (List.mem_append_right _ (List.mem_append_right _ (d5 hb e)))).2.1
  cases f with
  | next => obtain ⟨σ7,H7,I7,n7⟩ := q7; exact again I7 n7
  | cont => obtain ⟨σ7,H7,I7,n7⟩ := q7; exact again I7 n7
  | brk => obtain ⟨σ7,H7,I7,q7⟩ := q7; exact ⟨σ7,H7,I7.iP,q7⟩
  | ret v => obtain ⟨x7,σ7,H7,I7,r7,q7⟩ := q7; exact ⟨x7,σ7,H7,I7.iP,r7,q7⟩
end
theorem n8 {K : PySem.W.Frag} {a : Addr} {xs : List V} {g : TG} {tb : TS} {D : Ends} {σ : St} {H : Hp} (Pv : Nat → St → Hp → Prop) (h0 : Pv 0 σ H) (hl : ∀ i σ H,i ≤ xs.length → Pv i σ H → bq K H a xs)
  (hs : ∀ i x σ H,xs[i]? = some x → Pv i σ H → g x σ H fun σ2 H2 => tb { D with nx := Pv (i + 1),ct := Pv (i + 1),bk := D.nx } σ2 H2) (hd : ∀ σ H,Pv xs.length σ H → D.nx σ H) :
  ∃ W : Nat → Nat → St → Hp → Prop,(∃ m,W 0 m σ H) ∧ ∀ i m σ H,W i m σ H →
   ((Ek K a).stop i H ∧ D.nx σ H) ∨ ((Ek K a).go i H ∧ ∃ N : St → Hp → Prop,(∀ σ' H',N σ' H' → ∃ m',m' < m ∧ W (i + 1) m' σ' H') ∧ ∀ x H',(Ek K a).BO i H x H' → g x σ H' fun σ2 H2 => tb { D with nx := N,ct := N,bk := D.nx } σ2 H2) := by
 refine ⟨fun i m σ H => m = xs.length - i ∧ i ≤ xs.length ∧ Pv i σ H,⟨xs.length,by simp,Nat.zero_le _,h0⟩,?_⟩
 rintro i m σ H ⟨rfl,hi,p⟩
 have q := hl i σ H hi p
 by_cases hlt : i < xs.length
 ·refine .inr ⟨⟨xs,xs[i],q,by simp [hlt]⟩,Pv (i + 1),fun σ' H' p' => ⟨xs.length - (i + 1),by omega,rfl,hlt,p'⟩,fun x H' y => ?_⟩
  obtain ⟨e,y⟩ := y
  subst e
  exact hs i x σ _ (y xs q) p
 ·have e : i = xs.length := by omega
  subst e
  exact .inl ⟨⟨xs,q,Nat.le_refl _⟩,hd σ H p⟩
theorem eW {lo : Int} {n : Nat} {g : TG} {tb : TS} {D : Ends} {σ : St} {H : Hp} (Pv : Nat → St → Hp → Prop) (h0 : Pv 0 σ H)
  (hs : ∀ i σ H,i < n → Pv i σ H → g (.int (lo + i)) σ H fun σ2 H2 => tb { D with nx := Pv (i + 1),ct := Pv (i + 1),bk := D.nx } σ2 H2) (hd : ∀ σ H,Pv n σ H → D.nx σ H) :
  ∃ W : Nat → Nat → St → Hp → Prop,(∃ m,W 0 m σ H) ∧ ∀ i m σ H,W i m σ H →
   ((B3 lo n).stop i H ∧ D.nx σ H) ∨ ((B3 lo n).go i H ∧ ∃ N : St → Hp → Prop,(∀ σ' H',N σ' H' → ∃ m',m' < m ∧ W (i + 1) m' σ' H') ∧ ∀ x H',(B3 lo n).BO i H x H' → g x σ H' fun σ2 H2 => tb { D with nx := N,ct := N,bk := D.nx } σ2 H2) := by
 refine ⟨fun i m σ H => m = n - i ∧ i ≤ n ∧ Pv i σ H,⟨n,by simp,Nat.zero_le _,h0⟩,?_⟩
 rintro i m σ H ⟨rfl,hi,p⟩
 by_cases hlt : i < n
 ·refine .inr ⟨hlt,Pv (i + 1),fun σ' H' p' => ⟨n - (i + 1),by omega,rfl,hlt,p'⟩,fun x H' y => ?_⟩
  obtain ⟨e,y⟩ := y
  subst e y
  exact hs i σ _ hlt p
 ·have e : i = n := by omega
  subst e
  exact .inl ⟨Nat.le_refl _,hd σ H p⟩
abbrev R2 := V → V → Hp → VK → Prop
def iQ (X : Cx) (f : Value → Value → Sem Value) (r : R2) : Prop :=
 ∀ (pins : List (Addr × Obj)) (s : Shared) (σ : St) (H : Hp) (x y : V) (v u : Value) (Q : VK),Inv X pins σ H s → RelV x v → RelV y u → r x y H Q →
  wpAny (model X.prog X.w) X.A (f v u) (EP X pins σ Q) X.xe s
def Pm (X : Cx) (f : Value → Sem Value) (r : V → Hp → VK → Prop) : Prop :=
 ∀ (pins : List (Addr × Obj)) (s : Shared) (σ : St) (H : Hp) (x : V) (v : Value) (Q : VK),Inv X pins σ H s → RelV x v → r x H Q →
  wpAny (model X.prog X.w) X.A (f v) (EP X pins σ Q) X.xe s
def gM (X : Cx) (f : Value) (r : List V → Hp → VK → Prop) : Prop :=
 ∀ (pins : List (Addr × Obj)) (s : Shared) (σ : St) (H : Hp) (xs : List V) (us : List Value) (Q : VK),Inv X pins σ H s → Vals xs us → r xs H Q →
  wpAny (model X.prog X.w) X.A (call f us) (EP X pins σ Q) X.xe s
def B5 (r : R2) (ta tb : TE) : TE := fun σ H Q => ta σ H fun x H1 => tb σ H1 fun y H2 => r x y H2 Q
def tUn (r : V → Hp → VK → Prop) (ta : TE) : TE := fun σ H Q => ta σ H fun x H1 => r x H1 Q
def rI (C : Int → Int → Prop) (g : Int → Int → V) : R2 := fun x y H Q => ∃ i j,x = .int i ∧ y = .int j ∧ C i j ∧ Q (g i j) H
def B6 (g : Int → Int → V) : R2 := fun x y H Q => ∃ i j,x = .int i ∧ y = .int j ∧ Q (g i j) H
def rU (g : Int → V) : V → Hp → VK → Prop := fun x H Q => ∃ i,x = .int i ∧ Q (g i) H
section
variable {X : Cx} {a b c : Expr} {ta tb tc : TE} {pos : Pos}
theorem Fz (ha : PE X a ta) (hb : PE X b tb) {pins : List (Addr × Obj)} {s : Shared} {σ : St} {H : Hp} {R : V → V → Hp → Prop} (I : Inv X pins σ H s)
  (h : ta σ H fun x H1 => tb σ H1 fun y H2 => R x y H2) {Q : Value → Shared → Prop} {f : Value → Value → Sem Value}
  (hf : ∀ v u s2 x y H2,Inv X pins σ H2 s2 → RelV x v → RelV y u → R x y H2 → wpAny (model X.prog X.w) X.A (f v u) Q X.xe s2) :
  wpAny (model X.prog X.w) X.A (eval a X.env) (fun v s₁ => wpAny (model X.prog X.w) X.A (eval b X.env) (fun u s₂ => wpAny (model X.prog X.w) X.A (f v u) Q X.xe s₂) X.xe s₁) X.xe s := by
 refine cE (ha pins s σ H _ I h) fun v s1 ⟨x,H1,I1,r1,q1⟩ => ?_
 refine cE (hb pins s1 σ H1 _ I1 q1) fun u s2 ⟨y,H2,I2,r2,q2⟩ => ?_
 exact hf v u s2 x y H2 I2 r1 r2 q2
theorem au {op : Operator} {r : R2} (ho : iQ X (binaryOp op) r) (ha : PE X a ta) (hb : PE X b tb) : PE X (.BinOp a op b pos) (B5 r ta tb) := by
 intro pins s σ H Q I h
 exact wpAny_BinOp (Fz ha hb I h fun v u s2 x y H2 I2 rx ry q => ho pins s2 σ H2 x y v u Q I2 rx ry q)
theorem dQ {op : UnaryOp} {r : V → Hp → VK → Prop} (ho : Pm X (unaryOp op) r) (ha : PE X a ta) : PE X (.UnaryOp op a pos) (tUn r ta) := by
 intro pins s σ H Q I h
 exact UnaryOp_ (cE (ha pins s σ H _ I h) fun v s1 ⟨x,H1,I1,r1,q1⟩ => ho pins s1 σ H1 x v Q I1 r1 q1)
theorem NY {f : Value → Value → Sem Value} {C : Int → Int → Prop} {g : Int → Int → Int}
  (rule : ∀ (i j : Int) (t u : Tok) (s : Shared) (Q : Value → Shared → Prop) (E : Value → Shared → Prop),C i j → Q (.int (g i j) s.toks) { s with toks := s.toks + 1 } → wpAny (model X.prog X.w) X.A (f (.int i t) (.int j u)) Q E s) :
  iQ X f (rI C fun i j => .int (g i j)) := by
 intro pins s σ H x y v u Q I rx ry h
 obtain ⟨i,j,rfl,rfl,hc,q⟩ := h
 obtain ⟨t,rfl⟩ := rx
 obtain ⟨t',rfl⟩ := ry
 exact rule i j t t' s _ _ hc ⟨.int (g i j),H,I.tok _,⟨_,rfl⟩,q⟩
theorem JM {f : Value → Value → Sem Value} {g : Int → Int → Int}
  (rule : ∀ (i j : Int) (t u : Tok) (s : Shared) (Q : Value → Shared → Prop) (E : Value → Shared → Prop),Q (.int (g i j) s.toks) { s with toks := s.toks + 1 } → wpAny (model X.prog X.w) X.A (f (.int i t) (.int j u)) Q E s) :
  iQ X f (B6 fun i j => .int (g i j)) := by
 intro pins s σ H x y v u Q I rx ry h
 obtain ⟨i,j,rfl,rfl,q⟩ := h
 obtain ⟨t,rfl⟩ := rx
 obtain ⟨t',rfl⟩ := ry
 exact rule i j t t' s _ _ ⟨.int (g i j),H,I.tok _,⟨_,rfl⟩,q⟩
theorem B7 {f : Value → Value → Sem Value} {g : Int → Int → Bool}
  (rule : ∀ (i j : Int) (t u : Tok) (s : Shared) (Q : Value → Shared → Prop) (E : Value → Shared → Prop),Q (.bool (g i j)) s → wpAny (model X.prog X.w) X.A (f (.int i t) (.int j u)) Q E s) :
  iQ X f (B6 fun i j => .bl (g i j)) := by
 intro pins s σ H x y v u Q I rx ry h
 obtain ⟨i,j,rfl,rfl,q⟩ := h
 obtain ⟨t,rfl⟩ := rx
 obtain ⟨t',rfl⟩ := ry
 exact rule i j t t' s _ _ ⟨.bl (g i j),H,I,rfl,q⟩
def n9 (i j : Int) : Prop := 0 ≤ j ∧ j ≤ 1000000 ∧ i.natAbs < 2 ^ 64
def FA (i j : Int) : Prop := (-(2 ^ 64) < i ∧ i < 2 ^ 64) ∨ (-(2 ^ 64) < j ∧ j < 2 ^ 64)
theorem FA.ok {i j : Int} (h : FA i j) : IntMulOk i j := by
 rcases h with ⟨h1,h2⟩ | ⟨h1,h2⟩
 ·exact .of_left (intBits_le_64 h1 h2)
 ·exact .of_right (intBits_le_64 h1 h2)
theorem aO : iQ X (binaryOp .Add) (B6 fun i j => .int (i + j)) := JM fun _ _ _ _ _ _ _ q => add_int q
theorem dU : iQ X (binaryOp .Sub) (B6 fun i j => .int (i - j)) := JM fun _ _ _ _ _ _ _ q => sub_int q
theorem cS : iQ X (binaryOp .Mult) (rI FA fun i j => .int (i * j)) := NY fun _ _ _ _ _ _ _ hc q => mul_int q hc.ok
theorem bV : iQ X (binaryOp .Mod) (rI (fun _ j => 0 < j) fun i j => .int (i % j)) := NY fun i j _ _ _ _ _ hc q => by
 have h1 : (0 : Int) < j := hc
 exact mod_int' (by omega) (by rw [Int.fmod_eq_emod_of_nonneg i (by omega)]; exact q)
theorem gu : iQ X (binaryOp .Pow) (rI n9 fun i j => .int (i ^ j.toNat)) := NY fun _ _ _ _ _ _ _ hc q => pow_int_small hc.1 hc.2.1 hc.2.2 q
theorem unI {f : Value → Sem Value} {g : Int → Int}
  (rule : ∀ (i : Int) (t : Tok) (s : Shared) (Q : Value → Shared → Prop) (E : Value → Shared → Prop),Q (.int (g i) s.toks) { s with toks := s.toks + 1 } → wpAny (model X.prog X.w) X.A (f (.int i t)) Q E s) :
  Pm X f (rU fun i => .int (g i)) := by
 intro pins s σ H x v Q I rx h
 obtain ⟨i,rfl,q⟩ := h
 obtain ⟨t,rfl⟩ := rx
 exact rule i t s _ _ ⟨.int (g i),H,I.tok _,⟨_,rfl⟩,q⟩
theorem cT : Pm X (unaryOp .USub) (rU fun i => .int (-i)) := unI fun _ _ _ _ _ q => neg_int q
end
def JN : V → V → Bool
 | .non,.non => true | .non,.int _ => true | .int _,.non => true | .non,.bl _ => true | .bl _,.non => true | .non,.str _ => true | .str _,.non => true
 | .int _,.int _ => true | .bl _,.bl _ => true | .str _,.str _ => true | .zt _,.zt _ => true
 | .int _,.str _ => true | .str _,.int _ => true | .bl _,.str _ => true | .str _,.bl _ => true
 | _,_ => false
def rEq : R2 := fun x y H Q => JN x y = true ∧ Q (.bl (decide (x = y))) H
def rNe : R2 := fun x y H Q => JN x y = true ∧ Q (.bl (!decide (x = y))) H
theorem wB {i j : Int} : decide (V.int i = V.int j) = (i == j) := by
 rw [Bool.eq_iff_iff]
 simp
theorem zD {i j : Bool} : decide (V.bl i = V.bl j) = (i == j) := by
 rw [Bool.eq_iff_iff]
 simp
theorem wC {i j : Str} : decide (V.str i = V.str j) = (i == j) := by
 rw [Bool.eq_iff_iff]
 simp
theorem wD {i j : Array UInt8} : decide (V.zt i = V.zt j) = (i.toList == j.toList) := by
 rw [Bool.eq_iff_iff]
 cases i
 cases j
 simp
section
variable {X : Cx} {a b c : Expr} {ta tb tc : TE} {pos : Pos}
theorem cr {pins : List (Addr × Obj)} {σ : St} {H : Hp} {s : Shared} {Q : VK} {k k' : Bool} (I : Inv X pins σ H s) (q : Q (.bl k) H) (e : k = k') : EP X pins σ Q (.bool k') s := by
 subst e
 exact ⟨.bl k,H,I,rfl,q⟩
theorem cw : iQ X (compareOp .Eq) rEq := by
 intro pins s σ H x y v u Q I rx ry h
 obtain ⟨hs,q⟩ := h
 cases x with
 | non =>
  cases rx
  cases y with
  | non => cases ry; exact PySem.EqNone.eq_none_none (cr I q (by simp))
  | bl j => cases ry; exact PySem.EqNone.eq_none_bool (cr I q (by simp))
  | int j => obtain ⟨t',rfl⟩ := ry; exact PySem.EqNone.eq_none_int (cr I q (by simp))
  | str j => obtain ⟨t',rfl⟩ := ry; exact PySem.EqNone.eq_none_str (cr I q (by simp))
  | _ => exact absurd (show false = true from hs) Bool.false_ne_true
 | bl i =>
  cases rx
  cases y with
  | non => cases ry; exact PySem.EqNone.eq_bool_none (cr I q (by simp))
  | bl j => cases ry; exact eq_bool (cr I q zD)
  | str j => obtain ⟨t',rfl⟩ := ry; exact PySem.EqMixed.eq_bool_str (cr I q (by simp))
  | _ => exact absurd (show false = true from hs) Bool.false_ne_true
 | int i =>
  obtain ⟨t,rfl⟩ := rx
  cases y with
  | non => cases ry; exact PySem.EqNone.eq_int_none (cr I q (by simp))
  | int j => obtain ⟨t',rfl⟩ := ry; exact eq_int (cr I q wB)
  | str j => obtain ⟨t',rfl⟩ := ry; exact PySem.EqMixed.eq_int_str (cr I q (by simp))
  | _ => exact absurd (show false = true from hs) Bool.false_ne_true
 | str i =>
  obtain ⟨t,rfl⟩ := rx
  cases y with
  | non => cases ry; exact PySem.EqNone.eq_str_none (cr I q (by simp))
  | bl j => cases ry; exact PySem.EqMixed.eq_str_bool (cr I q (by simp))
  | int j => obtain ⟨t',rfl⟩ := ry; exact PySem.EqMixed.eq_str_int (cr I q (by simp))
  | str j => obtain ⟨t',rfl⟩ := ry; exact eq_str (cr I q wC)
  | _ => exact absurd (show false = true from hs) Bool.false_ne_true
 | zt i =>
  obtain ⟨t,rfl⟩ := rx
  cases y with
  | zt j => obtain ⟨t',rfl⟩ := ry; exact PySem.W.eq_bytes (cr I q wD)
  | _ => exact absurd (show false = true from hs) Bool.false_ne_true
 | _ => cases y <;> exact absurd (show false = true from hs) Bool.false_ne_true
theorem JO : iQ X (compareOp .NotEq) rNe := by
 intro pins s σ H x y v u Q I rx ry h
 obtain ⟨hs,q⟩ := h
 cases x with
 | non =>
  cases rx
  cases y with
  | non => cases ry; exact PySem.EqNone.ne_none_none (cr I q (by simp))
  | bl j => cases ry; exact PySem.EqNone.ne_none_bool (cr I q (by simp))
  | int j => obtain ⟨t',rfl⟩ := ry; exact PySem.EqNone.ne_none_int (cr I q (by simp))
  | str j => obtain ⟨t',rfl⟩ := ry; exact PySem.EqNone.ne_none_str (cr I q (by simp))
  | _ => exact absurd (show false = true from hs) Bool.false_ne_true
 | bl i =>
  cases rx
  cases y with
  | non => cases ry; exact PySem.EqNone.ne_bool_none (cr I q (by simp))
  | bl j => cases ry; exact ne_bool (cr I q (congrArg not zD))
  | str j => obtain ⟨t',rfl⟩ := ry; exact PySem.EqMixed.ne_bool_str (cr I q (by simp))
  | _ => exact absurd (show false = true from hs) Bool.false_ne_true
 | int i =>
  obtain ⟨t,rfl⟩ := rx
  cases y with
  | non => cases ry; exact PySem.EqNone.ne_int_none (cr I q (by simp))
  | int j => obtain ⟨t',rfl⟩ := ry; exact ne_int (cr I q (congrArg not wB))
  | str j => obtain ⟨t',rfl⟩ := ry; exact PySem.EqMixed.ne_int_str (cr I q (by simp))
  | _ => exact absurd (show false = true from hs) Bool.false_ne_true
 | str i =>
  obtain ⟨t,rfl⟩ := rx
  cases y with
  | non => cases ry; exact PySem.EqNone.ne_str_none (cr I q (by simp))
  | bl j => cases ry; exact PySem.EqMixed.ne_str_bool (cr I q (by simp))
  | int j => obtain ⟨t',rfl⟩ := ry; exact PySem.EqMixed.ne_str_int (cr I q (by simp))
  | str j => obtain ⟨t',rfl⟩ := ry; exact ne_str (cr I q (congrArg not wC))
  | _ => exact absurd (show false = true from hs) Bool.false_ne_true
 | zt i =>
  obtain ⟨t,rfl⟩ := rx
  cases y with
  | zt j => obtain ⟨t',rfl⟩ := ry; exact PySem.W.ne_bytes (cr I q (congrArg not wD))
  | _ => exact absurd (show false = true from hs) Bool.false_ne_true
 | _ => cases y <;> exact absurd (show false = true from hs) Bool.false_ne_true
theorem jY : iQ X (compareOp .Lt) (B6 fun i j => .bl (decide (i < j))) := B7 fun _ _ _ _ _ _ _ q => lt_int q
theorem jZ : iQ X (compareOp .LtE) (B6 fun i j => .bl (decide (i ≤ j))) := B7 fun _ _ _ _ _ _ _ q => le_int q
theorem wF : iQ X (compareOp .Gt) (B6 fun i j => .bl (decide (j < i))) := B7 fun _ _ _ _ _ _ _ q => gt_int q
theorem sT : iQ X (compareOp .GtE) (B6 fun i j => .bl (decide (j ≤ i))) := B7 fun _ _ _ _ _ _ _ q => ge_int q
theorem lj : iQ X (compareOp .Is) (fun x y H Q => y = .non ∧ Q (.bl (decide (x = .non))) H) := by
 intro pins s σ H x y v u Q I rx ry h
 obtain ⟨rfl,q⟩ := h
 cases ry
 refine is_none_gen (cr I q ?_)
 cases x <;> first
  | (cases rx; rfl)
  | (obtain ⟨t,rfl⟩ := rx; rfl)
theorem aL (b : Expr) {op : CmpOp} (h : op ≠ .In := by decide) (h2 : op ≠ .NotIn := by decide) : behindInMarks op b = false := by
 have e1 : (op == CmpOp.In) = false := by cases op <;> first | rfl | exact absurd rfl h
 have e2 : (op == CmpOp.NotIn) = false := by cases op <;> first | rfl | exact absurd rfl h2
 cases b <;> simp [behindInMarks,e1,e2]
theorem cF {op : CmpOp} {r : R2} (ho : iQ X (compareOp op) r) (ha : PE X a ta) (hb : PE X b tb) (hm : behindInMarks op b = false) : PE X (.Compare a [op] [b] pos) (B5 r ta tb) := by
 intro pins s σ H Q I h
 exact wpAny_Compare1 (Fz ha hb I h fun v u s2 x y H2 I2 rx ry q => ho pins s2 σ H2 x y v u Q I2 rx ry q) hm
def El (t : TE) : TT := fun σ H Q => t σ H fun x H' => ∃ k,x = .bl k ∧ Q k H'
theorem az {op : CmpOp} {r : R2} (ho : iQ X (compareOp op) r) (ha : PE X a ta) (hb : PE X b tb) (hm : behindInMarks op b = false) : PT X (.Compare a [op] [b] pos) (El (B5 r ta tb)) := by
 intro pins s σ H Q I h
 refine wpAny_isTrue_Compare1 (cE (ha pins s σ H _ I h) fun v s1 ⟨x,H1,I1,r1,q1⟩ => cE (hb pins s1 σ H1 _ I1 q1) fun u s2 ⟨y,H2,I2,r2,q2⟩ =>
  cE (ho pins s2 σ H2 x y v u _ I2 r1 r2 q2) fun c s3 ⟨z,H3,I3,r3,k,e,q3⟩ => ?_) hm
 subst e
 cases r3
 exact wpAny_truthy_bool ⟨H3,I3,q3⟩
def zE (r r' : R2) (ta tb tc : TE) : TE := fun σ H Q => ta σ H fun x H1 => tb σ H1 fun y H2 => r x y H2 fun z H3 => ∃ k,z = .bl k ∧
 (if k = true then tc σ H3 fun w' H4 => r' y w' H4 Q else Q (.bl false) H3)
theorem sU {op op' : CmpOp} {r r' : R2} (ho : iQ X (compareOp op) r) (ho' : iQ X (compareOp op') r') (ha : PE X a ta) (hb : PE X b tb) (hc : PE X c tc)
  (hm : lastMarks [op,op'] [b,c] = false := by with_unfolding_all rfl) : PE X (.Compare a [op,op'] [b,c] pos) (zE r r' ta tb tc) := by
 intro pins s σ H Q I h
 refine Compare_chain (cE (ha pins s σ H _ I h) fun v s1 ⟨x,H1,I1,r1,q1⟩ => chain_link (cE (hb pins s1 σ H1 _ I1 q1) fun u s2 ⟨y,H2,I2,r2,q2⟩ =>
  cE (ho pins s2 σ H2 x y v u _ I2 r1 r2 q2) fun d s3 ⟨z,H3,I3,r3,k,e,q3⟩ => ?_)) hm
 subst e
 cases r3
 refine wpAny_truthy_bool ?_
 cases k with
 | false => exact ite_ff ⟨.bl false,H3,I3,rfl,q3⟩
 | true => exact ite_tt (chain_last (cE (hc pins s3 σ H3 _ I3 q3) fun w' s4 ⟨z',H4,I4,r4,q4⟩ => ho' pins s4 σ H4 y z' u w' Q I4 r2 r4 q4))
theorem sV {op op' : CmpOp} {r r' : R2} (ho : iQ X (compareOp op) r) (ho' : iQ X (compareOp op') r') (ha : PE X a ta) (hb : PE X b tb) (hc : PE X c tc)
  (hm : lastMarks [op,op'] [b,c] = false := by with_unfolding_all rfl) : PT X (.Compare a [op,op'] [b,c] pos) (El (zE r r' ta tb tc)) := by
 intro pins s σ H Q I h
 refine isTrue_chain (cE (ha pins s σ H _ I h) fun v s1 ⟨x,H1,I1,r1,q1⟩ => test_link (cE (hb pins s1 σ H1 _ I1 q1) fun u s2 ⟨y,H2,I2,r2,q2⟩ =>
  cE (ho pins s2 σ H2 x y v u _ I2 r1 r2 q2) fun d s3 ⟨z,H3,I3,r3,k,e,q3⟩ => ?_)) hm
 subst e
 cases r3
 refine wpAny_truthy_bool ?_
 cases k with
 | false =>
  obtain ⟨k',e',q'⟩ := q3
  cases e'
  exact ite_ff ⟨H3,I3,q'⟩
 | true =>
  refine ite_tt (test_last (cE (hc pins s3 σ H3 _ I3 q3) fun w' s4 ⟨z',H4,I4,r4,q4⟩ => cE (ho' pins s4 σ H4 y z' u w' _ I4 r2 r4 q4) fun d' s5 ⟨z2,H5,I5,r5,k2,e2,q5⟩ => ?_))
  subst e2
  cases r5
  exact wpAny_truthy_bool ⟨H5,I5,q5⟩
theorem qS : (sizeLine : Nat) < 2 ^ 63 := by rw [sizeLine_eq]; decide
theorem vals1 {x : V} {us : List Value} (r : Vals [x] us) : ∃ u,us = [u] ∧ RelV x u := by
 cases r with
 | cons r1 r2 => cases r2; exact ⟨_,rfl,r1⟩
theorem vals2 {x y : V} {us : List Value} (r : Vals [x,y] us) : ∃ u w',us = [u,w'] ∧ RelV x u ∧ RelV y w' := by
 cases r with
 | cons r1 r2 =>
  cases r2 with
  | cons r3 r4 => cases r4; exact ⟨_,_,rfl,r1,r3⟩
theorem yp (hc : X.calm = true) : gM X (.builtin "max") (fun xs H Q => ∃ i j,xs = [.int i,.int j] ∧ Q (.int (if j > i then j else i)) H) := by
 intro pins s σ H xs us Q I r h
 obtain ⟨i,j,rfl,q⟩ := h
 obtain ⟨u,w',rfl,⟨t,rfl⟩,⟨t',rfl⟩⟩ := vals2 r
 refine max_two_ints (I.ok.hd hc) fun h' tk k => ⟨_,H,I.kept k,?_,q⟩
 by_cases hj : j > i
 ·rw [if_pos hj,if_pos hj]; exact ⟨_,rfl⟩
 ·rw [if_neg hj,if_neg hj]; exact ⟨_,rfl⟩
theorem yq (hc : X.calm = true) : gM X (.builtin "min") (fun xs H Q => ∃ i j,xs = [.int i,.int j] ∧ Q (.int (if j < i then j else i)) H) := by
 intro pins s σ H xs us Q I r h
 obtain ⟨i,j,rfl,q⟩ := h
 obtain ⟨u,w',rfl,⟨t,rfl⟩,⟨t',rfl⟩⟩ := vals2 r
 refine min_two_ints (I.ok.hd hc) fun h' tk k => ⟨_,H,I.kept k,?_,q⟩
 by_cases hj : j < i
 ·rw [if_pos hj,if_pos hj]; exact ⟨_,rfl⟩
 ·rw [if_neg hj,if_neg hj]; exact ⟨_,rfl⟩
theorem dv : gM X (.type "int") (fun xs H Q => (∃ i,xs = [.int i] ∧ Q (.int i) H) ∨ ∃ k,xs = [.bl k] ∧ Q (.int (if k then 1 else 0)) H) := by
 intro pins s σ H xs us Q I r h
 rcases h with ⟨i,rfl,q⟩ | ⟨k,rfl,q⟩
 ·obtain ⟨u,rfl,t,rfl⟩ := vals1 r
  exact call_int_int ⟨.int i,H,I,⟨_,rfl⟩,q⟩
 ·obtain ⟨u,rfl,r1⟩ := vals1 r
  cases r1
  exact call_int_bool ⟨.int (if k then 1 else 0),H,I.tok _,⟨_,rfl⟩,q⟩
end
structure FC (h : Heap) (x dx C : Addr) (mA : Str → Option Value) : Prop where
 obj : h.get? x = some (PySem.W.instObj C dx)
 ns : h.Ns1 dx mA
 ne : dx ≠ x
theorem pT {h : Heap} {dx : Addr} {mA : Str → Option Value} (n : h.Ns1 dx mA) : ∃ od,h.get? dx = some od ∧ ∀ name,PySem.W.lookIn name od = some (mA name) := by
 obtain ⟨o,es,ep,ho,hd,hk,_,hm⟩ := n
 refine ⟨o,ho,fun name => ?_⟩
 have e := hm name
 unfold nsFind findBy at e
 rw [← Array.find?_toList] at e
 unfold PySem.W.lookIn
 rw [hd]
 dsimp only
 split
 ·rename_i y q
  rw [q] at e
  exact congrArg some e
 ·rename_i q
  rw [q] at e
  have a : es.toList.any (·.refKey) = false := by
   rw [List.any_eq_false]
   intro y hy
   obtain ⟨z,t,hkey⟩ := hk y (Array.mem_toList_iff.mp hy)
   simp [DictEntry.refKey,hkey]
  have a' : ¬ es.toList.any (·.refKey) = true := by rw [a]; exact Bool.false_ne_true
  rw [if_neg a']
  exact congrArg some e
theorem FC.look {h : Heap} {x dx C : Addr} {mA : Str → Option Value} (I : FC h x dx C mA) : ∃ od,PySem.W.InstAt h x (PySem.W.instObj C dx) C (some od) ∧ ∀ name,PySem.W.lookIn name od = some (mA name) :=
 let ⟨od,ho,hl⟩ := pT I.ns
 ⟨od,⟨I.obj,rfl,rfl,ho⟩,hl⟩
section
variable {prog : Program} {w : World} {A : Around} {E : Value → Shared → Prop} {s : Shared} {K : PySem.W.Frag} {x dx C f : Addr} {mA : Str → Option Value} {name : Str} {v : Value}
end
theorem jU.some_of {v : V} {o : Option Value} (r : jU (some v) o) : ∃ u,o = some u ∧ RelV v u := by
 cases o with
 | none => exact (show False from r).elim
 | some u => exact ⟨u,rfl,r⟩
section
variable {P : Program} {w : World} {H H' : Hp} {h h' : Heap} {a C dx : Addr} {fs fs' : List (Str × V)}
theorem B8 (hok : iG P w H h) (e : H a = some (.ins C dx fs)) : ∃ mA,FC h a dx C mA ∧ (∀ f,jU (fs.lookup f) (mA f)) ∧ PySem.Within mA (fs.map (·.1)) ∧ fs.length ≤ 1000 ∧ H dx = some (.own a) := by
 obtain ⟨d,z,ne,ob,mA,n,r,q⟩ := (show cD P w H h a (.ins C dx fs) from hok a _ e)
 exact ⟨mA,⟨ob,n,ne⟩,r,q,z,d⟩
end
structure Cls (K : PySem.W.Frag) (C : Addr) : Prop where
 pg : PySem.W.plainGet K C Str.empty = true
 hd : PySem.W.hasDictIn K C = true
 po : PySem.W.plainOver K C = true
 sa : PySem.W.findIn K (.ref C) "__setattr__" = some (some (.builtin "object.__setattr__"))
theorem Cls.get {K : PySem.W.Frag} {C : Addr} (c : Cls K C) (f : Str) : PySem.W.plainGet K C f = true := c.pg
section
variable {X : Cx} {pins : List (Addr × Obj)} {σ : St} {H : Hp} {s : Shared} {a C dx : Addr} {fs : List (Str × V)} {f : Str} {v : V} {A : Around} {E : Value → Shared → Prop}
theorem B9 {prog : Program} {w : World} {env : Env} {e : Expr} {f : Str} {pos : Pos} {s : Shared} {Q : Value → Shared → Prop} (hb : attributeBase e f env (eval e env) = eval e env)
  (h : wpAny (model prog w) A (eval e env) (fun o s₁ => wpAny (model prog w) A (getAttr o f true) Q E s₁) E s) : wpAny (model prog w) A (eval (.Attribute e f pos) env) Q E s :=
 Attribute_any_ h (by rw [arm_eval_Attribute,hb])
end
section
variable {X : Cx} {o e value : Expr} {f : Str} {pos pos' tpos : Pos} {ta tv : TE}
end
section
variable {X : Cx} {pins : List (Addr × Obj)} {σ : St} {H : Hp} {s : Shared} {A : Around} {E : Value → Shared → Prop} {Q : Value → Shared → Prop} {c : Value} {b : Bool}
inductive iI (K : PySem.W.Frag) (H : Hp) : V → Value → Prop where
 | non : iI K H .non (.type "NoneType")
 | bl (x : Bool) : iI K H (.bl x) (.type "bool")
 | int (i : Int) : iI K H (.int i) (.type "int")
 | str (x : Str) : iI K H (.str x) (.type "str")
 | flt (x : UInt64) : iI K H (.flt x) (.type "float")
 | lst {a : Addr} {xs : List V} (e : H a = some (.lst xs)) : iI K H (.ref a) (.type "list")
 | sR {a : Addr} {o : Obj} {xs : List V} (e : H a = some (.sR o (.lst xs))) : iI K H (.ref a) (.type "list")
 | tup {a : Addr} {xs : List V} (e : H a = some (.tup xs)) : iI K H (.ref a) (.type "tuple")
 | dK {a : Addr} {kvs : List (Key × V)} (e : H a = some (.dK kvs)) : iI K H (.ref a) (.type "dict")
 | dT {a : Addr} {kvs : List (List Key × V)} (e : H a = some (.dT kvs)) : iI K H (.ref a) (.type "dict")
 | ins {a C dx : Addr} {fs : List (Str × V)} (e : H a = some (.ins C dx fs)) (cl : Cls K C) (ha : PySem.W.findIn K (.ref C) "__class__" = some (some (.builtin "object.__class__")))
   (hn : PySem.W.specialIn K (.builtin "object.__class__") "__get__" = some (some (.builtin "getset_descriptor.__get__"))) (htk : PySem.W.takesIn K (.builtin "object.__class__") = some true)
   (hm : PySem.W.mroIn K C (.type "object") = some true) : iI K H (.ref a) (.ref C)
theorem yr {x : V} {u t : Value} (I : Inv X pins σ H s) (rx : RelV x u) (ty : iI X.K H x t) (e : PySem.W.kitOne X.K t c = some b) (h : ∀ tk,Q (.bool b) { s with toks := tk }) :
  wpAny (model X.prog X.w) A (call (.builtin "isinstance") [u,c]) Q E s := by
 cases ty with
 | non => cases (show u = Value.none from rx); exact PySem.W.kia_one PySem.W.kitx_none I.jF True.intro e (fun z => nomatch z) h
 | bl y => cases (show u = Value.bool y from rx); exact PySem.W.kia_one PySem.W.kitx_bool I.jF True.intro e (fun z => nomatch z) h
 | int i => obtain ⟨t,q⟩ := (show ∃ t,u = Value.int i t from rx); cases q; exact PySem.W.kia_one PySem.W.kitx_int I.jF True.intro e (fun z => nomatch z) h
 | str y => obtain ⟨t,q⟩ := (show ∃ t,u = Value.str y t from rx); cases q; exact PySem.W.kia_one PySem.W.kitx_str I.jF True.intro e (fun z => nomatch z) h
 | flt y => obtain ⟨t,q⟩ := (show ∃ t,u = Value.float y t from rx); cases q; exact PySem.W.kia_one PySem.W.kitx_float I.jF True.intro e (fun z => nomatch z) h
 | @lst a xs ea =>
  cases (show u = Value.ref a from rx)
  obtain ⟨_,_,n,_,h1⟩ := (show cD X.prog X.w H s.heap a (.lst xs) from I.hok a _ ea)
  exact PySem.W.kia_one PySem.W.kitx_list I.jF ⟨_,h1,rfl⟩ e (fun z => nomatch z) h
 | @sR a ob xs ea =>
  cases (show u = Value.ref a from rx)
  obtain ⟨_,_,_,n,_,h1⟩ := (show cD X.prog X.w H s.heap a (.sR ob (.lst xs)) from I.hok a _ ea)
  exact PySem.W.kia_one PySem.W.kitx_list I.jF ⟨_,h1,rfl⟩ e (fun z => nomatch z) h
 | @tup a xs ea =>
  cases (show u = Value.ref a from rx)
  obtain ⟨_,_,_,p⟩ := (show cD X.prog X.w H s.heap a (.tup xs) from I.hok a _ ea)
  obtain ⟨o,h1,h2,_⟩ := p
  exact PySem.W.kia_one PySem.W.kitx_tuple I.jF ⟨o,h1,h2⟩ e (fun z => nomatch z) h
 | @dK a kvs ea =>
  cases (show u = Value.ref a from rx)
  obtain ⟨_,_,vs,_,p⟩ := (show cD X.prog X.w H s.heap a (.dK kvs) from I.hok a _ ea)
  obtain ⟨o,es,ep,h1,h2,_⟩ := p
  exact PySem.W.kia_one PySem.W.kitx_dict I.jF ⟨o,h1,h2.1⟩ e (fun z => nomatch z) h
 | @dT a kvs ea =>
  cases (show u = Value.ref a from rx)
  obtain ⟨_,_,xs,_,o,es,ep,h1,h2,_⟩ := (show cD X.prog X.w H s.heap a (.dT kvs) from I.hok a _ ea)
  exact PySem.W.kia_one PySem.W.kitx_dict I.jF ⟨o,h1,h2.1⟩ e (fun z => nomatch z) h
 | @ins a C dx fs ea cl ha hn htk hm =>
  cases (show u = Value.ref a from rx)
  obtain ⟨mA,O,_⟩ := B8 I.hok ea
  obtain ⟨od,J,_⟩ := O.look
  exact PySem.W.kia_one (PySem.W.kitx_own (cl.get _) cl.hd ha hn htk hm) I.jF J e (fun z => nomatch z) h
end
structure dW (k : Nat) (A : Around) : Prop where
 hd : A.handled = none
 dp : A.depth + 3 * k + 5 < recursionLimit
 un : A.units + 16 * k + 200 < cLine
theorem dW.mono {j k : Nat} {A : Around} (r : dW k A) (h : j ≤ k) : dW j A := ⟨r.hd,by have := r.dp; omega,by have := r.un; omega⟩
theorem dW.deeper {k : Nat} {A : Around} (r : dW (k + 1) A) (env : Env) : dW k (A.deeper env) :=
 ⟨r.hd,by have := r.dp; show A.depth + 1 + 3 * k + 5 < _; omega,by have := r.un; show A.units + 3 + 16 * k + 200 < _; omega⟩
theorem uO {A : Around} {C : Addr} {us : List Value} {kw : List (Str × Value)} : (A.under (.builtin "type.__call__" ⟨.ref C :: us,kw⟩)).depth = A.depth + 1 := by
 first | rfl | simp [Around.under,Code.weight,Code.isCreation,Code.isGuard,Code.isCaller,Code.frames,Code.isFrame,guardIds]
theorem uP {A : Around} {C : Addr} {us : List Value} {kw : List (Str × Value)} : (A.under (.builtin "type.__call__" ⟨.ref C :: us,kw⟩)).units = A.units + 1 := by
 first | rfl | simp [Around.under,Code.cUnits,Code.frames,Code.isFrame]
theorem dW.make {k : Nat} {A : Around} (r : dW (k + 1) A) (C : Addr) (us : List Value) (kw : List (Str × Value)) : dW k (A.under (.builtin "type.__call__" ⟨.ref C :: us,kw⟩)) :=
 ⟨r.hd,by have := r.dp; rw [uO]; omega,by have := r.un; rw [uP]; omega⟩
theorem dW.depth {k : Nat} {A : Around} (r : dW k A) : A.depth < recursionLimit := by have := r.dp; omega
theorem dW.units {k : Nat} {A : Around} (r : dW k A) : A.units + 64 < cLine := by have := r.un; omega
def Ca : TA := fun _ H Q => Q [] H
def pU (ta : TE) (tr : TA) : TA := fun σ H Q => ta σ H fun x H1 => tr σ H1 fun xs H2 => Q (x :: xs) H2
section
variable {X : Cx} {e : Expr} {es : List Expr} {te : TE} {t : TA} {pos : Pos}
theorem aj : PA X [] Ca := fun _ _ _ _ H Q I h => Calls.spliced_nil ⟨[],H,I,.nil,h⟩
theorem af (ha : PE X e te) (hr : PA X es t) (hs : starEach (e :: es) X.env = (false,eval e X.env) :: starEach es X.env := by rfl) : PA X (e :: es) (pU te t) := by
 intro pos pins s σ H Q I h
 rw [hs]
 show wpAny _ _ (spliced ((false,eval e X.env) :: backTo pos (starEach es X.env))) _ _ s
 refine Calls.spliced_cons (cE (ha pins s σ H _ I h) fun u s1 ⟨x,H1,I1,r1,q1⟩ => ?_)
 exact cE (hr pos pins s1 σ H1 _ I1 q1) fun us s2 ⟨xs,H2,I2,r2,q2⟩ => ⟨x :: xs,H2,I2,.cons r1 r2,q2⟩
def Cd (t : TA) : TE := fun σ H Q => t σ H fun xs H1 => xs.length ≤ sizeLine ∧ ∀ p,H1 p = none → Q (.ref p) (upd H1 p (.tup xs))
def FD (t : TA) : TE := fun σ H Q => t σ H fun xs H1 => xs.length ≤ sizeLine ∧ ∀ p,H1 p = none → Q (.ref p) (upd H1 p (.lst xs))
theorem aI {x1} (h : PA X es t) : PE X (.Tuple es x1 pos) (Cd t) := by
 intro pins s σ H Q I hq
 refine wpAny_Tuple_spliced (cE (h pos pins s σ H _ I hq) fun us s1 ⟨xs,H1,I1,r,z,q⟩ => ⟨by rw [← r.length]; exact z,?_⟩)
 have hf : H1 s1.heap.objs.size = none := I1.hok.fresh (Nat.le_refl _)
 refine ⟨.ref s1.heap.objs.size,upd H1 s1.heap.objs.size (.tup xs),I1.laid (t' := s1.toks) (fun b u e => Heap.get?_push_of_some _ e) (Nat.le_refl _) ?_,rfl,q _ hf⟩
 exact ⟨z,us,r,⟨_,Heap.get?_push_size _ rfl,rfl,_,rfl⟩⟩
theorem bw (h : PA X es t) : PE X (.List es pos) (FD t) := by
 intro pins s σ H Q I hq
 refine wpAny_List_spliced (cE (h pos pins s σ H _ I hq) fun us s1 ⟨xs,H1,I1,r,z,q⟩ => ⟨by rw [← r.length]; exact z,?_⟩)
 have hf : H1 s1.heap.objs.size = none := I1.hok.fresh (Nat.le_refl _)
 refine ⟨.ref s1.heap.objs.size,upd H1 s1.heap.objs.size (.lst xs),I1.laid (t' := s1.toks) (fun b u e => Heap.get?_push_of_some _ e) (Nat.le_refl _) ?_,rfl,q _ hf⟩
 exact ⟨z,us,0,r,Heap.get?_push_size _ rfl⟩
end
abbrev Sp := List V → Hp → VK → XK → Prop
abbrev yt := List Env → Hp → Shared → XK → Value → Shared → Prop
structure uQ (P : Program) (w : World) (K : PySem.W.Frag) (mg : Str → Option Value) (base : Heap) (A : Around) (outer : List Env) (s : Shared) (H : Hp) : Prop where
 frames : A.frames = some outer
 mod : Mod K mg base
 bs : ∀ b o,base.get? b = some o → s.heap.get? b = some o ∧ H b = none
 BM : base.objs.size ≤ s.heap.objs.size
 jM : s.heap.FunFrames base outer
 Ej : ∀ b ∈ frs outer,H b = none
 hok : iG P w H s.heap
 bare : AllBare s.gens
def CE (outer : List Env) (P : Program) (w : World) (H : Hp) (s : Shared) (Q : VK) (u : Value) (s' : Shared) : Prop :=
 ∃ v H',s'.os = s.os ∧ AllBare s'.gens ∧ Un (frs outer) [] H H' s.heap s'.heap ∧ iG P w H' s'.heap ∧ RelV v u ∧ Q v H'
def CR (CX : yt) (outer : List Env) (P : Program) (w : World) (H : Hp) (s : Shared) (Q : VK) (E : XK) (r : Result) (s' : Shared) : Prop :=
 match r with
 | .ok (.ret u) => CE outer P w H s Q u s'
 | .ok _ => False
 | .error e => CX outer H s E e s'
structure aY (P : Program) (w : World) (K : PySem.W.Frag) (mg : Str → Option Value) (base : Heap) (CX : yt) (k : Nat) (f : Addr) (fd : FuncData) (ps : List Str) (sp : Sp) : Prop where
 len : ∀ vs H Q E,sp vs H Q E → vs.length = ps.length
 run : ∀ (A : Around) (outer : List Env) (s : Shared) (H : Hp) (args : Args) (us : List Value) (vs : List V) (Q : VK) (E : XK),dW k A → uQ P w K mg base A outer s H → BindsTo s fd args (ps.zip us) → Vals vs us → sp vs H Q E →
  codeAny (model P w) A (.call (.ref f) args) (CR CX outer P w H s Q E) s
theorem uQ.make {P : Program} {w : World} {K : PySem.W.Frag} {mg : Str → Option Value} {base : Heap} {A : Around} {outer : List Env} {s : Shared} {H : Hp} (e : uQ P w K mg base A outer s H) (C : Addr) (us : List Value) (kw : List (Str × Value)) :
  uQ P w K mg base (A.under (.builtin "type.__call__" ⟨.ref C :: us,kw⟩)) outer s H := ⟨by first | exact e.frames | (simpa [Around.under,Code.envs,Code.isFrame,pushEnvs] using e.frames),e.mod,e.bs,e.BM,e.jM,e.Ej,e.hok,e.bare⟩
section
variable {X : Cx} {pins : List (Addr × Obj)} {σ : St} {H : Hp} {s s' : Shared}
theorem Inv.env0 (I : Inv X pins σ H s) : uQ X.prog X.w X.K X.mg X.base X.A X.stack s H :=
 ⟨I.ok.frames,I.ok.mod,I.bs,Nat.le_trans I.ok.BM I.sz,I.stack,I.i7,I.hok,I.bare⟩
theorem Inv.after {Q : VK} {u : Value} (I : Inv X pins σ H s) (h : CE X.stack X.prog X.w H s Q u s') : EP X pins σ Q u s' := by
 obtain ⟨v,H',os,bare,un,hok,r,q⟩ := h
 obtain ⟨hh,g,d,t,os'⟩ := s'
 obtain rfl : os' = s.os := os
 exact ⟨v,H',I.call (h' := hh) (g' := g) (d' := d) (t' := t) (ch := []) un hok bare (fun b z => absurd z (by simp)),r,q⟩
end
def JP (sp : Sp) (qT : List V) (E : XK) (t : TA) : TE := fun σ H Q => t σ H fun vs H1 => sp (vs ++ qT) H1 Q E
def Binds (K : PySem.W.Frag) (fd : FuncData) (ps : List Str) (ds : List Value) : Prop :=
 ∀ (s : Shared) (us : List Value),K.In s.heap → (us ++ ds).length = ps.length → BindsTo s fd ⟨us,[]⟩ (ps.zip (us ++ ds))
theorem Binds.all {K : PySem.W.Frag} {fd : FuncData} {ps : List Str} (h : ∀ us : List Value,us.length = ps.length → bindArgs fd ⟨us,[]⟩ = pure (ps.zip us)) : Binds K fd ps [] := fun s us _ hl => by
 rw [List.append_nil] at hl ⊢
 exact .of_eq (h us hl)
def Passes (CX : yt) (X : Cx) (E : XK) : Prop := ∀ (pins : List (Addr × Obj)) (σ : St) (H : Hp) (s : Shared) (e : Value) (s' : Shared),Inv X pins σ H s → CX X.stack H s E e s' → X.xe e s'
section
variable {X : Cx} {CX : yt} {k : Nat} {f C : Addr} {fd : FuncData} {ps : List Str} {sp : Sp} {qT : List V} {ds : List Value} {E : XK} {x m : Str} {p pos apos : Pos} {e o : Expr} {es : List Expr} {ta : TE} {t : TA}
theorem FE {pins : List (Addr × Obj)} {σ : St} {H : Hp} {s : Shared} {Q : VK} {us : List Value} {vs : List V} (F : aY X.prog X.w X.K X.mg X.base CX k f fd ps sp) (hr : dW k X.A) (hb : Binds X.K fd ps ds) (hd : Vals qT ds) (hx : Passes CX X E)
  (I : Inv X pins σ H s) (r : Vals vs us) (h : sp (vs ++ qT) H Q E) : wpAny (model X.prog X.w) X.A (call (.ref f) us) (EP X pins σ Q) X.xe s := by
 have r2 : Vals (vs ++ qT) (us ++ ds) := r.append hd
 have hl : (us ++ ds).length = ps.length := by rw [← r2.length]; exact F.len _ _ _ _ h
 refine wpAny_call (codeAny_mono (F.run X.A X.stack s H ⟨us,[]⟩ (us ++ ds) (vs ++ qT) Q E hr I.env0 (hb s us I.jF hl) r2 h) fun r s' hq => ?_)
 cases r with
 | error e => exact hx pins σ H s e s' I hq
 | ok fl =>
  cases fl with
  | ret u => exact I.after hq
  | next => exact False.elim hq
  | brk => exact False.elim hq
  | cont => exact False.elim hq
theorem aK (F : aY X.prog X.w X.K X.mg X.base CX k f fd ps sp) (hr : dW k X.A) (hg : Gl X x) (hm : X.mg x = some (.ref f)) (hk : PySem.W.keepIn X.K (.ref f) = true) (hb : Binds X.K fd ps ds) (hd : Vals qT ds) (hx : Passes CX X E)
  (ha : PA X (e :: es) t) (hdb : (x == ("__debug__" : Str)) = false := by decide) (he : starEach (e :: es) X.env = (false,eval e X.env) :: starEach es X.env := by rfl) (hpl : (backTo pos (starEach es X.env)).any (·.1) = false := by rfl) :
  PE X (.Call (.Name x p) (e :: es) [] pos) (JP sp qT E t) := by
 intro pins s σ H Q I h
 refine wpAny_Call_Name_kw (i9 I hg hm ?_ hdb)
 refine PySem.W.callWith_K (h₀ := X.base) I.ok.mod.Ju hk (cE (ha pos pins s σ H _ I h) fun us s1 ⟨vs,H1,I1,r,q⟩ => ⟨I1.jF,?_⟩) he hpl
 exact FE F hr hb hd hx I1 r q
end
section
variable {X : Cx} {CX : yt} {k : Nat} {f C : Addr} {fd : FuncData} {ps ks : List Str} {sp : Sp} {E : XK} {x m : Str} {p pos apos kpos : Pos} {e o : Expr} {es : List Expr} {kws : List Keyword} {te ta : TE} {t tk : TA} {nm : Option Str}
variable {g : List Value → List Value → List Value} {gV : List V → List V → List V}
end
structure aW (N P : List Str) (sc : Scope) : Prop where
 kind : sc.kind = .function
 co : sc.isCoroutine = false
 gen : sc.isGenerator = false
 nd : N.Nodup
 pre : N.take P.length = P
 par : ∀ x ∈ P,sc.names.lookup x = some .local ∨ sc.names.lookup x = some .cell
 FG : ∀ y ∈ sc.names,y.2 ≠ .free
theorem pV {kindOf : Str → Option NameKind} {x : Str} : ∀ {binds : List (Str × Value)} {m : Str → Option Value},(∀ v,(x,v) ∉ binds) → bindL kindOf binds m x = m x
 | [],_,_ => rfl
 | (n,v) :: r,m,h => by
  unfold bindL
  rw [pV fun w hw => h w (List.mem_cons_of_mem _ hw)]
  split
  ·have : x ≠ n := by rintro rfl; exact h v List.mem_cons_self
   simp [this]
  ·rfl
theorem pW {kindOf : Str → Option NameKind} {x : Str} : ∀ {binds : List (Str × Value)} {m : Str → Option Value},(∀ v,(x,v) ∉ binds) → bindC kindOf binds m x = m x
 | [],_,_ => rfl
 | (n,v) :: r,m,h => by
  unfold bindC
  rw [pW fun w hw => h w (List.mem_cons_of_mem _ hw)]
  split
  ·rfl
  ·have : x ≠ n := by rintro rfl; exact h v List.mem_cons_self
   simp [this]
theorem pX {kindOf : Str → Option NameKind} {x : Str} {v : Value} : ∀ {P : List Str} {vs : List Value} {i : Nat} {m : Str → Option Value},P.Nodup → P[i]? = some x → vs[i]? = some v → kindOf x = some .local →
  bindL kindOf (P.zip vs) m x = some v
 | [],_,_,_,_,h,_,_ => by simp at h
 | _ :: _,[],_,_,_,_,h,_ => by simp at h
 | p :: P,w :: vs,0,m,nd,h1,h2,hk => by
  simp at h1 h2; subst h1; subst h2
  show bindL kindOf ((p,w) :: P.zip vs) m p = _
  unfold bindL
  rw [pV fun v hv => (List.nodup_cons.mp nd).1 (List.of_mem_zip hv).1,if_pos hk]
  simp
 | p :: P,w :: vs,i + 1,m,nd,h1,h2,hk => by
  show bindL kindOf ((p,w) :: P.zip vs) m x = _
  unfold bindL
  exact pX (i := i) (List.nodup_cons.mp nd).2 (by simpa using h1) (by simpa using h2) hk
theorem pY {kindOf : Str → Option NameKind} {x : Str} {v : Value} : ∀ {P : List Str} {vs : List Value} {i : Nat} {m : Str → Option Value},P.Nodup → P[i]? = some x → vs[i]? = some v → kindOf x ≠ some .local →
  bindC kindOf (P.zip vs) m x = some v
 | [],_,_,_,_,h,_,_ => by simp at h
 | _ :: _,[],_,_,_,_,h,_ => by simp at h
 | p :: P,w :: vs,0,m,nd,h1,h2,hk => by
  simp at h1 h2; subst h1; subst h2
  show bindC kindOf ((p,w) :: P.zip vs) m p = _
  unfold bindC
  rw [pW fun v hv => (List.nodup_cons.mp nd).1 (List.of_mem_zip hv).1,if_neg hk]
  simp
 | p :: P,w :: vs,i + 1,m,nd,h1,h2,hk => by
  show bindC kindOf ((p,w) :: P.zip vs) m x = _
  unfold bindC
  exact pY (i := i) (List.nodup_cons.mp nd).2 (by simpa using h1) (by simpa using h2) hk
def start (N : List Str) (vs : List V) : St := vs.map some ++ List.replicate (N.length - vs.length) none
def fh (CX : yt) (P : Program) (w : World) (K : PySem.W.Frag) (mg : Str → Option Value) (base : Heap) (N : List Str) (qual : Str) (scope : Scope) (f : Addr) (cd : Value) (A : Around) (outer : List Env) (s : Shared) (H : Hp) (E : XK) : Cx where
 prog := P
 w := w
 K := K
 mg := mg
 base := base
 A := A.deeper (envOfC qual scope s.heap.objs.size f cd)
 N := N
 s₀ := s
 H₀ := H
 env := envOfC qual scope s.heap.objs.size f cd
 outer := outer
 stack := envOfC qual scope s.heap.objs.size f cd :: outer
 ex := []
 calm := true
 fn := fun _ => true
 pn := []
 xe := fun e s' => wpAny (model P w) (A.deeper (envOfC qual scope s.heap.objs.size f cd)) (leaving (envOfC qual scope s.heap.objs.size f cd) e) (fun _ s'' => CX outer H s E e s'') (fun e' s'' => CX outer H s E e' s'') s'
theorem sW {sc : Scope} {n : Nat} {x : Str} (h : sc.names.lookup x = some .cell) : ∃ c,(cellsFrom n sc.names []).lookup x = some c := by
 have q := PySem.W.cellsFrom_some sc.names n [] (.inl h)
 exact Option.isSome_iff_exists.mp q
theorem yu {CX : yt} {P : Program} {w : World} {K : PySem.W.Frag} {mg : Str → Option Value} {base : Heap} {N ps : List Str} {qual : Str} {scope : Scope} {f : Addr} {cd : Value} {A : Around} {outer : List Env} {s s1 : Shared} {H : Hp} {E : XK} {us : List Value} {vs : List V}
  (S : aW N ps scope) (hd : A.handled = none) (e0 : uQ P w K mg base A outer s H) (hl : vs.length = ps.length) (r : Vals vs us)
  (x : InCallC s s.heap.objs.size (bindL (envOfC qual scope s.heap.objs.size f cd).kindOf (ps.zip us) fun _ => none) (cellsFrom (s.heap.objs.size + 1) scope.names []) (bindC (envOfC qual scope s.heap.objs.size f cd).kindOf (ps.zip us) fun _ => none) s1) :
  Inv (fh CX P w K mg base N qual scope f cd A outer s H E) [] (start N vs) H s1 := by
 have hpl : ps.length ≤ N.length := by have := congrArg List.length S.pre; rw [List.length_take] at this; omega
 obtain ⟨h1,tk,rfl,hk⟩ := x.done
 have JQ : ∀ b : Addr,b ∉ (fh CX P w K mg base N qual scope f cd A outer s H E).ex := fun b z => absurd (show b ∈ ([] : List Addr) from z) (by simp)
 refine ⟨⟨e0.mod,S.kind,rfl,rfl,Nat.le_refl _,fun y z c h1 h2 => ?_,fun y hy => ?_,fun y c _ h => ?_,fun _ => hd,Around.frames_deeper e0.frames,.inr ⟨rfl,rfl⟩,fun b z => absurd z (JQ b),e0.bs,e0.BM,fun b _ _ => JQ b,fun b z => absurd z (JQ b),e0.jM,e0.Ej⟩,
  rfl,e0.bare,Un.kept hk,⟨_,x.toInCall.ns,fun i y v h1 h2 h3 => ?_⟩,fun y c h => ⟨_,x.cell y c h⟩,e0.hok.fresh (Nat.le_refl _),fun y c h => ?_,fun p hp => absurd (show p ∈ ([] : List (Addr × Obj)) from hp) (by simp),e0.hok.kept hk,?_⟩
 ·exact name_of_addr x.apart (PySem.mem_of_lookup h1) (PySem.mem_of_lookup h2)
 ·have hy : scope.names.lookup y = some .cell ∨ scope.names.lookup y = some .free := hy
  rcases hy with hy | hy
  ·exact sW hy
  ·exact absurd rfl (S.FG _ (PySem.mem_of_lookup hy))
 ·exact Nat.le_of_lt (x.above y c (PySem.mem_of_lookup h))
 ·have hi : i < vs.length := by
   unfold start at h2
   by_cases hi : i < vs.length
   ·exact hi
   ·rw [List.getElem?_append_right (by simpa using hi)] at h2
    rw [List.getElem?_replicate] at h2
    split at h2 <;> cases h2
  have ha : vs[i]? = some v := by
   unfold start at h2
   rw [List.getElem?_append_left (by simpa using hi),List.getElem?_map] at h2
   cases e : vs[i]? with
   | none => rw [e] at h2; cases h2
   | some a => rw [e] at h2; cases h2; rfl
  obtain ⟨u,hu,rv⟩ := r.get ha
  have hp : ps[i]? = some y := by
   rw [← S.pre,List.getElem?_take_of_lt (by omega)]; exact h1
  have ndP : ps.Nodup := by rw [← S.pre]; exact S.nd.sublist (List.take_sublist _ _)
  refine ⟨u,rv,?_⟩
  rcases S.par y (List.mem_of_getElem? hp) with k | k
  ·exact .inl ⟨k,pX ndP hp hu k⟩
  ·obtain ⟨c,e⟩ := sW (n := s.heap.objs.size + 1) k
   refine .inr ⟨.inl k,c,e,?_⟩
   have q := x.cell y c e
   rw [pY ndP hp hu (by show scope.names.lookup y ≠ _; rw [k]; decide)] at q
   exact q
 ·exact e0.hok.fresh (Nat.le_of_lt (x.above y c (PySem.mem_of_lookup h)))
 ·unfold start
  show _ = N.length
  rw [List.length_append,List.length_map,List.length_replicate]
  omega
theorem Em {CX : yt} {P : Program} {w : World} {K : PySem.W.Frag} {mg : Str → Option Value} {base : Heap} {k : Nat} {f : Addr} {name qual : Str} {params : Arguments} {body : List Stmt} {scope : Scope} {dV kV doc pm cdv ct oc : Value} {an od : Option Addr}
  {osl : Array (Option Value)} {N ps : List Str} {sp : Sp} (lk : K.lookup f = some ⟨oc,od,.func (PySem.W.fnOf name qual params body scope dV kV doc pm an cdv ct),osl⟩) (hcd : PySem.W.codeIn K cdv qual = true) (S : aW N ps scope)
  (len : ∀ vs H Q E,sp vs H Q E → vs.length = ps.length)
  (hbody : ∀ (A : Around) (outer : List Env) (s : Shared) (H : Hp) (vs : List V) (Q : VK) (E : XK),dW k (A.deeper (envOfC qual scope s.heap.objs.size f cdv)) → sp vs H Q E →
   ∃ t,pR (fh CX P w K mg base N qual scope f cdv A outer s H E) body t ∧ t { nx := fun _ H' => Q .non H',rt := Q } (start N vs) H) :
  aY P w K mg base CX (k + 1) f (PySem.W.fnOf name qual params body scope dV kV doc pm an cdv ct) ps sp := by
 refine ⟨len,fun A outer s H args us vs Q E hr e0 hb r hsp => ?_⟩
 have hl := len _ _ _ _ hsp
 have KX : K.In s.heap := e0.mod.Ju.keeps fun b o e => (e0.bs b o e).1
 have lim : s.heap.NoLimit := e0.mod.nolimit.keeps fun b o e => (e0.bs b o e).1
 have hkind : ∀ y ∈ ps.zip us,scope.names.lookup y.1 = some .local ∨ (scope.names.lookup y.1 = some .cell ∧ ((cellsFrom (s.heap.objs.size + 1) scope.names []).lookup y.1).isSome = true) := fun ⟨n,v⟩ hy => by
  rcases S.par n (List.of_mem_zip hy).1 with q | q
  ·exact .inl q
  ·exact .inr ⟨q,PySem.W.cellsFrom_some _ _ _ (.inl q)⟩
 refine codeAny_call_function hr.depth (KX _ _ lk) rfl S.co S.gen rfl (PySem.W.codeRec_of KX hcd) (hb _ _ _ _ ?_)
 refine wpAny_newFunctionEnv_cells S.kind hkind fun env he s1 x => ?_
 subst he
 refine ⟨lim.keeps x.toInCall.keep,codeAny_func ?_⟩
 obtain ⟨t,ht,hq⟩ := hbody A outer s H vs Q E (hr.deeper _) hsp
 have I : Inv (fh CX P w K mg base N qual scope f cdv A outer s H E) [] (start N vs) H s1 := yu S hr.hd e0 hl r x
 refine wpAny_mono (ht [] s1 (start N vs) H _ I hq) (fun fl s' hs => ?_) fun e s' hs => hs
 have fin : ∀ {σ' : St} {H' : Hp} {v : V} {u : Value},Inv (fh CX P w K mg base N qual scope f cdv A outer s H E) [] σ' H' s' → RelV v u → Q v H' → CE outer P w H s Q u s' :=
  fun {σ' H' v u} J rv q => ⟨v,H',J.os,J.bare,J.base,J.hok,rv,q⟩
 cases fl with
 | ret u =>
  obtain ⟨v,σ',H',J,rv,q⟩ := hs
  exact fin J rv q
 | next =>
  obtain ⟨σ',H',J,q⟩ := hs
  exact fin (v := V.non) (u := Value.none) J rfl q
 | brk =>
  obtain ⟨_,_,_,q⟩ := hs
  exact False.elim q
 | cont =>
  obtain ⟨_,_,_,q⟩ := hs
  exact False.elim q
section
variable {X : Cx} {x : Str} {p pos : Pos} {e : Expr} {es : List Expr} {t : TA} {id T : String} {r : List V → Hp → VK → Prop}
def tCB (r : List V → Hp → VK → Prop) (t : TA) : TE := fun σ H Q => t σ H fun vs H1 => r vs H1 Q
theorem bf (hc : gM X (.builtin id) r) (hg : Gl X x) (hm : X.mg x = none) (hv : bootBuiltins x = some (.builtin id)) (ha : PA X (e :: es) t) (hn : x ≠ "__name__" := by decide) (hdb : (x == ("__debug__" : Str)) = false := by decide)
  (he : starEach (e :: es) X.env = (false,eval e X.env) :: starEach es X.env := by rfl) (hpl : (backTo pos (starEach es X.env)).any (·.1) = false := by rfl) : PE X (.Call (.Name x p) (e :: es) [] pos) (tCB r t) := by
 intro pins s σ H Q I h
 refine wpAny_Call_Name_kw (nX I hg hm hv ?_ hn hdb)
 exact PyProof.Rows.callWith_builtin1 (cE (ha pos pins s σ H _ I h) fun us s1 ⟨vs,H1,I1,r1,q1⟩ => hc pins s1 σ H1 vs us Q I1 r1 q1) he hpl
theorem bA (hc : gM X (.type T) r) (hg : Gl X x) (hm : X.mg x = none) (hv : bootBuiltins x = some (.type T)) (ha : PA X (e :: es) t) (hn : x ≠ "__name__" := by decide) (hdb : (x == ("__debug__" : Str)) = false := by decide)
  (he : starEach (e :: es) X.env = (false,eval e X.env) :: starEach es X.env := by rfl) (hpl : (backTo pos (starEach es X.env)).any (·.1) = false := by rfl) : PE X (.Call (.Name x p) (e :: es) [] pos) (tCB r t) := by
 intro pins s σ H Q I h
 refine wpAny_Call_Name_kw (nX I hg hm hv ?_ hn hdb)
 exact PyProof.Rows.callWith_type1 (cE (ha pos pins s σ H _ I h) fun us s1 ⟨vs,H1,I1,r1,q1⟩ => hc pins s1 σ H1 vs us Q I1 r1 q1) he hpl
end
end L2
namespace HT
open PySem PyProof.Rows
section
open PySem.SeqAt
open PySem.AutoSeq1 (wpAny_loadPart')
open PySem.MeetsSeq PySem.MeetsSeq2 PySem.MeetsSeq3
end
section
variable {prog : Program} {w : World} {A : Around} {E : Value → Shared → Prop} {s : Shared}
theorem Cg {t b : Addr} {vs ws : List Value} {Q : Value → Shared → Prop} (ht : IsTup s.heap t vs.toArray) (hb : IsTup s.heap b ws.toArray) (hv : vs ≠ [])
  (h1 : ws = [] → Q (.ref t) s) (h2 : ws ≠ [] → Q (.ref s.heap.objs.size) { s with heap := s.heap.push { cls := .type "tuple",data := .seq (vs ++ ws).toArray } })
  (hsz : vs.length + ws.length ≤ sizeLine) : wpAny (model prog w) A (binaryOp .Add (.ref t) (.ref b)) Q E s := by
 obtain ⟨⟨cls,dd,data,sl⟩,ho,hc,n,hd⟩ := id ht
 obtain ⟨⟨cls2,dd2,data2,sl2⟩,ho2,hc2,n2,hd2⟩ := id hb
 simp only at hc hd hc2 hd2
 subst hc hd hc2 hd2
 have e : vs.toArray ++ ws.toArray = (vs ++ ws).toArray := by simp
 by_cases hw : ws = []
 ·exact concat_meets ⟨_,ho,rfl⟩ ⟨_,ho2,rfl⟩ noFill_tuple_add seq_tuple_add PySem.F.slot_tuple_add PySem.F.entry_tuple_add (PySem.F.args_tuple_add_2 _ _)
   (tuple_addW1 t b vs.toArray ws.toArray n n2 dd dd2 sl sl2 (by simpa using hv) (by simp [hw])) ⟨ho,ho2,h1 hw⟩
 ·refine concat_meets ⟨_,ho,rfl⟩ ⟨_,ho2,rfl⟩ noFill_tuple_add seq_tuple_add PySem.F.slot_tuple_add PySem.F.entry_tuple_add (PySem.F.args_tuple_add_2 _ _)
   (tuple_addW2 t b vs.toArray ws.toArray n n2 dd dd2 sl sl2 (by simpa using hv) (by simpa using hw) (by rw [List.size_toArray,List.size_toArray]; exact hsz)) ⟨ho,ho2,?_⟩
  rw [e]
  exact h2 hw
def dz (n d : Nat) : Option Int → Nat
 | none => d
 | some v => if v < 0 then (v + (n : Int)).toNat else min v.toNat n
theorem gY (n d k : Nat) : dz n d (some (k : Int)) = min k n := by
 show (if (k : Int) < 0 then ((k : Int) + (n : Int)).toNat else min (k : Int).toNat n) = min k n
 rw [if_neg (by omega),Int.toNat_natCast]
theorem FH (n d : Nat) (hd : d ≤ n) (o : Option Int) : dz n d o ≤ n := by
 cases o with
 | none => exact hd
 | some v =>
  show (if v < 0 then (v + (n : Int)).toNat else min v.toNat n) ≤ n
  by_cases hv : v < 0
  ·rw [if_pos hv]; omega
  ·rw [if_neg hv]; exact Nat.min_le_right _ _
theorem wG (v : Int) (n d : Nat) : (if v < 0 then max (v + (n : Int)) 0 else min v (n : Int)) = ((dz n d (some v) : Nat) : Int) := by
 show (if v < 0 then max (v + (n : Int)) 0 else min v (n : Int)) = (((if v < 0 then (v + (n : Int)).toNat else min v.toNat n) : Nat) : Int)
 by_cases hv : v < 0
 ·simp only [if_pos hv]; omega
 ·simp only [if_neg hv]; omega
theorem uR (lo hi : Option Int) (n : Nat) : Builtin.Slice.sliceAdjust lo hi 1 (n : Int) = (((dz n 0 lo : Nat) : Int),((dz n n hi : Nat) : Int)) := by
 have h1 : ¬ ((1 : Int) < 0) := by omega
 unfold Builtin.Slice.sliceAdjust
 simp only [h1,if_false]
 refine Prod.ext ?_ ?_
 ·cases lo with
  | none => rfl
  | some v => exact wG v n 0
 ·cases hi with
  | none => rfl
  | some v => exact wG v n n
theorem uS (i j : Nat) : Builtin.Slice.slicePlaces (i : Int) (j : Int) 1 = j - i := by
 unfold Builtin.Slice.slicePlaces
 have h1 : (1 : Int) > 0 := by omega
 simp only [h1,if_true,Int.ediv_one]
 split <;> omega
theorem oa {v : Value} {o : Option Int} {Q : Option Int → Shared → Prop} (p : IsPart v o) (h : Q o s) : wpAny (model prog w) A (Builtin.Slice.slicePartIndex v) Q E s := by
 cases p with
 | none => exact slicePart_none h
 | int i t => exact slicePart_int h
theorem lq {sl : Addr} {vl vu : Value} {lo hi : Option Int} {n : Nat} {Q : Int × Int × Nat → Shared → Prop} (hs : s.heap.IsSliceOf sl vl vu .none) (pl : IsPart vl lo) (pu : IsPart vu hi)
  (h : Q (((dz n 0 lo : Nat) : Int),1,dz n n hi - dz n 0 lo) s) : wpAny (model prog w) A (Builtin.Slice.sliceApplied (.ref sl) (pure (n : Int))) Q E s := by
 obtain ⟨os,hos,hcs,hds⟩ := id hs
 unfold Builtin.Slice.sliceApplied Builtin.Slice.sliceFields
 refine wpAny_bind (wpAny_bind (wpAny_field hos hds (x := vl) rfl (wpAny_bind (wpAny_field hos hds (x := vu) rfl (wpAny_bind (wpAny_field hos hds (x := .none) rfl (wpAny_pure ?_)))))))
 refine wpAny_bind (slicePart_none ?_)
 show wpAny _ _ (if ((1 : Int) == 0) = true then _ else _) _ _ s
 rw [if_neg (by decide)]
 refine wpAny_bind (oa pl (wpAny_bind (oa pu (wpAny_bind (wpAny_pure ?_)))))
 show wpAny _ _ (match Builtin.Slice.sliceAdjust lo hi 1 (n : Int) with | (lo,hi) => pure (lo,(1 : Int),Builtin.Slice.slicePlaces lo hi 1)) _ _ s
 rw [uR lo hi n]
 show wpAny _ _ (pure (((dz n 0 lo : Nat) : Int),(1 : Int),Builtin.Slice.slicePlaces ((dz n 0 lo : Nat) : Int) ((dz n n hi : Nat) : Int) 1)) _ _ s
 rw [uS]
 exact wpAny_pure h
theorem zF (xs : Array Value) (i k : Nat) : ((List.range k).filterMap fun (m : Nat) => xs[((i : Int) + (m : Int) * 1).toNat]?).toArray = ((xs.toList.drop i).take k).toArray := by
 have e : (fun (m : Nat) => xs[((i : Int) + (m : Int) * 1).toNat]?) = fun m => xs[i + m]? := by
  funext m
  have : ((i : Int) + (m : Int) * 1).toNat = i + m := by omega
  rw [this]
 rw [e]
 have := pick_run xs i k
 rw [List.filterMap_map] at this
 have e2 : ((fun x => xs[x]?) ∘ fun x => i + x) = fun m => xs[i + m]? := rfl
 rw [e2] at this
 rw [this]
theorem j0 {t sl : Addr} {items : Array Value} {vl vu : Value} {lo hi : Option Int} {Q : Value → Shared → Prop} (ht : IsTup s.heap t items) (hs : s.heap.IsSliceOf sl vl vu .none) (pl : IsPart vl lo) (pu : IsPart vu hi)
  (hw : ¬ (dz items.size 0 lo = 0 ∧ dz items.size items.size hi = items.size))
  (h : Q (.ref s.heap.objs.size) { s with heap := s.heap.push { cls := .type "tuple",data := .seq ((items.toList.drop (dz items.size 0 lo)).take (dz items.size items.size hi - dz items.size 0 lo)).toArray } })
  (hsz : items.size ≤ sizeLine) : wpAny (model prog w) A (getItem (.ref t) (.ref sl)) Q E s := by
 have wH : sizeOk (.seq ((items.toList.drop (dz items.size 0 lo)).take (dz items.size items.size hi - dz items.size 0 lo)).toArray) := by
  show ((items.toList.drop (dz items.size 0 lo)).take (dz items.size items.size hi - dz items.size 0 lo)).toArray.size ≤ sizeLine
  rw [List.size_toArray,List.length_take,List.length_drop,Array.length_toList]
  omega
 have hj : dz items.size items.size hi ≤ items.size := FH _ _ (Nat.le_refl _) hi
 obtain ⟨os,hos,hcs,hds⟩ := id hs
 have hTs : s.TypeIs (.ref sl) "slice" := ⟨os,hos,hcs⟩
 unfold getItem
 try with_reducible refine wpAny_holding ?_
 first | refine wpAny_bind (wpAny_pure ?_) | skip
 refine wpAny_bind (wpAny_sequenceKey ht.typeIs (by decide) ?_)
 refine wpAny_bind (wpAny_callSpecial?_slot (name := Str.ofString "__getitem__") ht.typeIs PyProof.Rows.slot_tuple_getitem
  (wpAny_call_entry PyProof.Rows.slot_tuple_getitem ht.typeIs entry_tuple_getitem ?_ (args_tuple_getitem _ _)))
 show wpAny _ _ (Builtin.Tuple.tupleItemsOf (.ref t) >>= _) _ _ s
 refine wpAny_bind (tupleItemsOf_ ht ?_)
 refine wpAny_bind (wpAny_typeOf hTs ?_)
 rw [if_pos (by decide)]
 refine wpAny_bind (lq hs pl pu ?_)
 have hno : ¬ ((((dz items.size 0 lo : Nat) : Int) == 0 && (1 : Int) == 1 && (dz items.size items.size hi - dz items.size 0 lo) == items.size) = true) := by
  intro q
  rw [Bool.and_eq_true,Bool.and_eq_true] at q
  have q1 : ((dz items.size 0 lo : Nat) : Int) = 0 := eq_of_beq q.1.1
  have q2 : dz items.size items.size hi - dz items.size 0 lo = items.size := eq_of_beq q.2
  exact hw ⟨by omega,by omega⟩
 show wpAny _ _ (if (((dz items.size 0 lo : Nat) : Int) == 0 && (1 : Int) == 1 && (dz items.size items.size hi - dz items.size 0 lo) == items.size) = true then _ else _) _ _ s
 rw [if_neg hno,zF]
 first
  | exact wpAny_bind (m := Builtin.Tuple.tupleExact _) (wpAny_newObj_type (wpAny_pure ⟨_,rfl,wpAny_pure h⟩) wH)
  | exact wpAny_bind (m := Builtin.Tuple.tupleExact _) (wpAny_newObj_type (wpAny_bind (wpAny_pure (wpAny_pure ⟨_,rfl,wpAny_pure h⟩))) wH)
  | exact wpAny_bind (wpAny_bind (m := Builtin.Tuple.tupleExact _) (wpAny_newObj_type (wpAny_pure (wpAny_pure ⟨_,rfl,wpAny_pure h⟩)) wH))
  | exact wpAny_bind (wpAny_bind (m := Builtin.Tuple.tupleExact _) (wpAny_newObj_type (wpAny_pure ⟨_,rfl,wpAny_pure h⟩) wH))
end
end HT
namespace L2
open PySem PySem.Spec PyProof.Rows
abbrev TO := St → Hp → (Option Int → Hp → Prop) → Prop
def PO (X : Cx) (e : Option Expr) (t : TO) : Prop :=
 ∀ (pins : List (Addr × Obj)) (s : Shared) (σ : St) (H : Hp) (Q : Option Int → Hp → Prop),Inv X pins σ H s → t σ H Q →
  wpAny (model X.prog X.w) X.A (evalPart e X.env) (fun u s' => ∃ o H',Inv X pins σ H' s' ∧ IsPart u o ∧ Q o H') X.xe s
def Ci : TO := fun _ H Q => Q none H
def JR (t : TE) : TO := fun σ H Q => t σ H fun x H1 => ∃ i,x = .int i ∧ Q (some i) H1
theorem intsAre_of {ns : List Int} : ∀ {us : List Value},Vals (ns.map V.int) us → IntsAre us ns := by
 induction ns with
 | nil => intro us r; rw [List.map_nil] at r; cases r; exact .nil
 | cons n ns ih =>
  intro us r
  rw [List.map_cons] at r
  cases r with
  | cons r1 r2 =>
   obtain ⟨t,e⟩ := r1
   subst e
   exact .cons n t (ih r2)
section
variable {X : Cx} {e : Expr} {te : TE} {lo hi : Option Expr} {tl th : TO} {pos p2 : Pos}
theorem fV : PO X none Ci := by
 intro pins s σ H Q I h
 rw [evalPart_none]
 exact wpAny_pure ⟨none,H,I,.none,h⟩
theorem dj (h : PE X e te) : PO X (some e) (JR te) := by
 intro pins s σ H Q I hw
 rw [evalPart_some]
 refine cE (h pins s σ H _ I hw) fun u s1 ⟨x,H1,I1,r1,q1⟩ => ?_
 obtain ⟨i,rfl,q⟩ := q1
 obtain ⟨t,rfl⟩ := r1
 exact ⟨some i,H1,I1,.int i t,q⟩
def Pn (X : Cx) (r : V → Option Int → Option Int → Hp → VK → Prop) : Prop :=
 ∀ (pins : List (Addr × Obj)) (s : Shared) (σ : St) (H : Hp) (x : V) (v vl vu : Value) (lo hi : Option Int) (sl : Addr) (Q : VK),Inv X pins σ H s → RelV x v → s.heap.IsSliceOf sl vl vu .none → IsPart vl lo → IsPart vu hi → r x lo hi H Q →
  ∃ T id,typeLookup (.type T) "__getitem__" = pure (some (.builtin id)) ∧ s.TypeIs v T ∧ wpAny (model X.prog X.w) X.A (getItem v (.ref sl)) (EP X pins σ Q) X.xe s
def tSl (r : V → Option Int → Option Int → Hp → VK → Prop) (te : TE) (tl th : TO) : TE := fun σ H Q => te σ H fun x H1 => tl σ H1 fun l H2 => th σ H2 fun u H3 => r x l u H3 Q
theorem dk {r : V → Option Int → Option Int → Hp → VK → Prop} (hr : Pn X r) (he : PE X e te) (hl : PO X lo tl) (hu : PO X hi th) : PE X (.Subscript e (.Slice lo hi none p2) pos) (tSl r te tl th) := by
 intro pins s σ H Q I h
 refine Subscript_ (cE (he pins s σ H _ I h) fun v s1 ⟨x,H1,I1,r1,q1⟩ => ?_)
 refine wpAny_Slice (cE (hl pins s1 σ H1 _ I1 q1) fun vl s2 ⟨l,H2,I2,pl,q2⟩ => cE (hu pins s2 σ H2 _ I2 q2) fun vu s3 ⟨u,H3,I3,pu,q3⟩ => ?_)
 rw [evalPart_none]
 refine wpAny_pure ?_
 have I4 : Inv X pins σ H3 { s3 with heap := s3.heap.push { cls := .type "slice",data := .fields #[vl,vu,.none] } } := I3.kept (t' := s3.toks) fun b ob q => Heap.get?_push_of_some _ q
 obtain ⟨T,id,hT,ht,hg⟩ := hr pins { s3 with heap := s3.heap.push { cls := .type "slice",data := .fields #[vl,vu,.none] } } σ H3 x v vl vu l u s3.heap.objs.size Q I4 r1 (Heap.IsSliceOf.new ..) pl pu q3
 show wpAny (model X.prog X.w) X.A (subscriptTail e (.Slice lo hi none p2) v (.ref s3.heap.objs.size)) (EP X pins σ Q) X.xe { s3 with heap := s3.heap.push { cls := .type "slice",data := .fields #[vl,vu,.none] } }
 exact tail_any (ops := [.ref s3.heap.objs.size,v]) ht hT hg (by with_unfolding_all rfl)
def gw (xs : List V) (lo hi : Option Int) : List V := (xs.drop (HT.dz xs.length 0 lo)).take (HT.dz xs.length xs.length hi - HT.dz xs.length 0 lo)
theorem lY (xs : List V) (lo hi : Option Int) : (gw xs lo hi).length ≤ xs.length := by
 unfold gw
 rw [List.length_take,List.length_drop]
 omega
def JT (K : PySem.W.Frag) : V → Option Int → Option Int → Hp → VK → Prop := fun x lo hi H Q => ∃ a xs,x = .ref a ∧ aZ K H a xs ∧
 ¬ (HT.dz xs.length 0 lo = 0 ∧ HT.dz xs.length xs.length hi = xs.length) ∧ ∀ p,H p = none → Q (.ref p) (upd H p (.tup (gw xs lo hi)))
theorem ly : Pn X (JT X.K) := by
 intro pins s σ H x v vl vu lo hi sl Q I rx hs pl pu h
 obtain ⟨a,xs,rfl,hx,hw,q⟩ := h
 cases rx
 obtain ⟨its,r,ht,hz⟩ := I.tuple hx
 have hlen : its.toArray.size = xs.length := by rw [List.size_toArray]; exact r.length.symm
 refine ⟨"tuple",_,PyProof.Rows.slot_tuple_getitem.lookup,ht.typeIs,?_⟩
 refine HT.j0 ht hs pl pu (by rw [hlen]; exact hw) ?_ (by rw [hlen]; exact hz)
 rw [hlen]
 refine ⟨.ref s.heap.objs.size,_,I.laid (t' := s.toks) (o := .tup (gw xs lo hi)) (fun b ob q => Heap.get?_push_of_some _ q) (Nat.le_refl _) ?_,rfl,q _ (I.hok.fresh (Nat.le_refl _))⟩
 exact ⟨Nat.le_trans (lY xs lo hi) hz,_,(r.drop (HT.dz xs.length 0 lo)).take (HT.dz xs.length xs.length hi - HT.dz xs.length 0 lo),IsTup.new _ _⟩
def En (K : PySem.W.Frag) : R2 := fun x y H Q => ∃ a b xs ys,x = .ref a ∧ y = .ref b ∧ aZ K H a xs ∧ aZ K H b ys ∧ xs ≠ [] ∧ xs.length + ys.length ≤ sizeLine ∧
 (ys = [] → Q (.ref a) H) ∧ (ys ≠ [] → ∀ p,H p = none → Q (.ref p) (upd H p (.tup (xs ++ ys))))
theorem Vals.qU {xs : List V} {us : List Value} (r : Vals xs us) : us = [] ↔ xs = [] := by
 cases r with
 | nil => simp
 | cons _ _ => simp
theorem gZ : iQ X (binaryOp .Add) (En X.K) := by
 intro pins s σ H x y v u Q I rx ry h
 obtain ⟨a,b,xs,ys,rfl,rfl,ha,hb,hx,hz,q1,q2⟩ := h
 cases rx
 cases ry
 obtain ⟨its,r1,p1,_⟩ := I.tuple ha
 obtain ⟨its2,r2,p2,_⟩ := I.tuple hb
 refine HT.Cg p1 p2 (fun z => hx (r1.qU.mp z)) (fun z => ⟨.ref a,H,I,rfl,q1 (r2.qU.mp z)⟩) (fun z => ?_) (by rw [← r1.length,← r2.length]; exact hz)
 refine ⟨.ref s.heap.objs.size,_,I.laid (t' := s.toks) (o := .tup (xs ++ ys)) (fun b ob q => Heap.get?_push_of_some _ q) (Nat.le_refl _) ?_,rfl,q2 (fun w => z (r2.qU.mpr w)) _ (I.hok.fresh (Nat.le_refl _))⟩
 exact ⟨by rw [List.length_append]; exact hz,_,r1.append r2,IsTup.new _ _⟩
end
def zp (n : Nat) (i : Int) : Option Nat := if 0 ≤ i then (if i < n then some i.toNat else none) else if -(n : Int) ≤ i then some (i + n).toNat else none
def j4 {α : Type} (xs : List α) (i : Int) : Option α := (zp xs.length i).bind fun j => xs[j]?
theorem qV {n : Nat} {i : Int} {j : Nat} (h : zp n i = some j) : seqIndex? i n = some j ∧ j < n ∧ -(n : Int) ≤ i ∧ i < n := by
 unfold zp at h
 by_cases h0 : 0 ≤ i
 ·rw [if_pos h0] at h
  by_cases h1 : i < n
  ·rw [if_pos h1] at h
   have e : i.toNat = j := Option.some.inj h
   exact ⟨by rw [seqIndex_of h0 h1,e],by omega,by omega,h1⟩
  ·rw [if_neg h1] at h; cases h
 ·rw [if_neg h0] at h
  by_cases h1 : -(n : Int) ≤ i
  ·rw [if_pos h1] at h
   have e : (i + n).toNat = j := Option.some.inj h
   exact ⟨by rw [seqIndex_neg (by omega) h1,e],by omega,h1,by omega⟩
  ·rw [if_neg h1] at h; cases h
theorem wI {α : Type} {xs : List α} {i : Int} {v : α} (h : j4 xs i = some v) : ∃ j,seqIndex? i xs.length = some j ∧ xs[j]? = some v ∧ j < xs.length ∧ -(xs.length : Int) ≤ i ∧ i < xs.length := by
 unfold j4 at h
 cases e : zp xs.length i with
 | none => rw [e] at h; cases h
 | some j =>
  rw [e] at h
  obtain ⟨h1,h2,h3,h4⟩ := qV e
  exact ⟨j,h1,h,h2,h3,h4⟩
theorem cI {α : Type} {xs : List α} {j : Nat} {v : α} (h : xs[j]? = some v) : j4 xs (j : Int) = some v := by
 have hj : j < xs.length := (List.getElem?_eq_some_iff.mp h).1
 have e : zp xs.length (j : Int) = some j := by
  unfold zp
  rw [if_pos (by omega),if_pos (by omega)]; simp
 unfold j4; rw [e]; exact h
def Cj (b : Expr) : Prop := ∀ o i,subscripted b false o i = operate [o,i] (getItem o i)
def Pp (X : Cx) (r : R2) : Prop :=
 ∀ (value slice : Expr) (pins : List (Addr × Obj)) (s : Shared) (σ : St) (H : Hp) (x y : V) (v u : Value) (Q : VK),Inv X pins σ H s → RelV x v → RelV y u → r x y H Q →
  subscripted slice false v u = operate [v,u] (getItem v u) → wpAny (model X.prog X.w) X.A (subscriptTail value slice v u) (EP X pins σ Q) X.xe s
def Pq (X : Cx) (id : String) (r : V → List V → Hp → VK → Prop) : Prop :=
 ∀ (pins : List (Addr × Obj)) (s : Shared) (σ : St) (H : Hp) (x : V) (xs : List V) (v : Value) (us : List Value) (Q : VK),Inv X pins σ H s → RelV x v → Vals xs us → r x xs H Q →
  wpAny (model X.prog X.w) X.A (call (.builtin id) (v :: us)) (EP X pins σ Q) X.xe s
section
variable {X : Cx} {a b : Expr} {ta tb : TE} {pos : Pos}
theorem aE {r : R2} (hr : Pp X r) (ha : PE X a ta) (hb : PE X b tb) (hs : Cj b) : PE X (.Subscript a b pos) (B5 r ta tb) := by
 intro pins s σ H Q I h
 exact Subscript_ (Fz ha hb I h fun v u s2 x y H2 I2 rx ry q => hr a b pins s2 σ H2 x y v u Q I2 rx ry q (hs _ _))
def FJ (K : PySem.W.Frag) : R2 := fun x y H Q => ∃ p xs i v,x = .ref p ∧ y = .int i ∧ bq K H p xs ∧ j4 xs i = some v ∧ Q v H
def Pr (K : PySem.W.Frag) : R2 := fun x y H Q => ∃ p xs i v,x = .ref p ∧ y = .int i ∧ aZ K H p xs ∧ j4 xs i = some v ∧ Q v H
theorem aQ : Pp X (FJ X.K) := by
 intro value slice pins s σ H x y v u Q I rx ry h hs
 obtain ⟨p,xs,i,z,rfl,rfl,hq,he,q⟩ := h
 cases rx
 obtain ⟨t,rfl⟩ := ry
 obtain ⟨its,r,pl,hz⟩ := I.list hq
 obtain ⟨j,h1,h2,h3,h4,h5⟩ := wI he
 obtain ⟨w,ew,yv⟩ := r.get h2
 have hl := r.length
 have hn := qS
 have fin : EP X pins σ Q w s := ⟨z,H,I,yv,q⟩
 by_cases h0 : 0 ≤ i
 ·have hj : i.toNat = j := by
   rw [seqIndex_of h0 h5] at h1
   exact Option.some.inj h1
  exact item_listR pl.isList h0 (by omega) (by rw [hj]; simpa using ew) fin hs
 ·have hj : (i + (its.toArray.size : Int)).toNat = j := by
   rw [seqIndex_neg (by omega) h4] at h1
   rw [List.size_toArray,← hl]
   exact Option.some.inj h1
  exact subscriptTail_builtinR (x := w) pl.isList.typeIs slot_list_getitem.lookup
   (wpAny_getItem_list_neg (Q := fun r s' => r = w ∧ EP X pins σ Q r s') pl.isList (by omega) (by rw [List.size_toArray] <;> omega) (by omega) (by rw [hj]; simpa using ew) ⟨rfl,fin⟩) hs
theorem aN : Pp X (Pr X.K) := by
 intro value slice pins s σ H x y v u Q I rx ry h hs
 obtain ⟨p,xs,i,z,rfl,rfl,hq,he,q⟩ := h
 cases rx
 obtain ⟨t,rfl⟩ := ry
 obtain ⟨its,r,pl,hz⟩ := I.tuple hq
 obtain ⟨j,h1,h2,h3,h4,h5⟩ := wI he
 obtain ⟨w,ew,yv⟩ := r.get h2
 have hl := r.length
 have hn := qS
 have fin : EP X pins σ Q w s := ⟨z,H,I,yv,q⟩
 exact subscriptTail_builtinR (x := w) pl.typeIs slot_tuple_getitem.lookup
  (getItem_tuple (j := j) (Q := fun r s' => r = w ∧ EP X pins σ Q r s') pl (by omega) (by omega) (by rw [List.size_toArray,← hl]; exact h1) (by simpa using ew) ⟨rfl,fin⟩) hs
theorem uT (its : List Value) (n j : Nat) (u : Value) : Obj.mapSeq (·.setIfInBounds j u) { cls := .type "list",data := .seq its.toArray n } = { cls := .type "list",data := .seq (its.set j u).toArray n } := by
 simp [Obj.mapSeq]
theorem Inv.lst {pins : List (Addr × Obj)} {σ : St} {H : Hp} {s : Shared} {p : Addr} {xs : List V} (I : Inv X pins σ H s) (h : H p = some (.lst xs)) :
  ∃ (its : List Value) (n : Nat),Vals xs its ∧ s.heap.get? p = some { cls := .type "list",data := .seq its.toArray n } ∧ xs.length ≤ sizeLine := by
 obtain ⟨z,its,n,r,e⟩ := I.hok p _ h
 exact ⟨its,n,r,e,z⟩
theorem Inv.FK {pins : List (Addr × Obj)} {σ : St} {H : Hp} {s : Shared} {p : Addr} {xs ys : List V} {its its' : List Value} {n n' : Nat} {f : Obj → Obj} (I : Inv X pins σ H s) (h : H p = some (.lst xs))
  (ho : s.heap.get? p = some { cls := .type "list",data := .seq its.toArray n }) (hf : f { cls := .type "list",data := .seq its.toArray n } = { cls := .type "list",data := .seq its'.toArray n' }) (r : Vals ys its') (hz : ys.length ≤ sizeLine) (t : Nat) :
  Inv X pins σ (upd H p (.lst ys)) { s with heap := s.heap.update p f,toks := t } := by
 have e : (s.heap.update p f).get? p = some { cls := .type "list",data := .seq its'.toArray n' } := by
  rw [Heap.get?_update_self f ho (by rw [hf] <;> rfl),hf]
 refine I.write (x := p) (e := p) (by rw [h]; trivial) (.inl rfl) (fun b u hb q => (Heap.get?_update_other _ _ (Ne.symm hb)).trans q) ⟨_,e⟩ ?_
 exact ⟨hz,its',n',r,e⟩
def JU : V → V → V → Hp → (Hp → Prop) → Prop := fun o i v H Q => ∃ p xs k j,o = .ref p ∧ i = .int k ∧ H p = some (.lst xs) ∧ zp xs.length k = some j ∧ Q (upd H p (.lst (xs.set j v)))
theorem set_list : JG X JU := by
 intro pins s σ H o i v ov iv u Q I ro ri rv h
 obtain ⟨p,xs,k,j,rfl,rfl,hp,hj,q⟩ := h
 cases ro
 obtain ⟨t,rfl⟩ := ri
 obtain ⟨its,n,r,ho,hz⟩ := I.lst hp
 obtain ⟨h1,h2,h3,h4⟩ := qV hj
 have hl := r.length
 have hn := qS
 have I' : Inv X pins σ (upd H p (.lst (xs.set j v))) { s with heap := s.heap.update p (Obj.mapSeq (·.setIfInBounds j u)) } :=
  I.FK hp ho (uT its n j u) (r.set rv j) (by rw [List.length_set]; exact hz) s.toks
 by_cases h0 : 0 ≤ k
 ·have hk : k.toNat = j := by
   rw [seqIndex_of h0 h4] at h1
   exact Option.some.inj h1
  exact PySem.W.ki_setAt ho h0 (by omega) (by rw [List.size_toArray,← hl]; exact h4) (by rw [hk]; exact ⟨_,I',q⟩)
 ·have hk : (k + (its.toArray.size : Int)).toNat = j := by
   rw [seqIndex_neg (by omega) h3] at h1
   rw [List.size_toArray,← hl]
   exact Option.some.inj h1
  exact PySem.W.ki_setBack ho (by omega) (by rw [List.size_toArray,← hl]; exact h3) (by omega) (by rw [hk]; exact ⟨_,I',q⟩)
theorem qW (lo hi : Option Int) (n : Nat) : (sliceBounds lo hi none n).1 = ((HT.dz n 0 lo : Nat) : Int) ∧ (sliceBounds lo hi none n).2.1 = ((HT.dz n n hi : Nat) : Int) ∧ (sliceBounds lo hi none n).2.2 = 1 := by
 refine ⟨?_,?_,rfl⟩
 ·cases lo with
  | none => simp [sliceBounds,HT.dz]
  | some i =>
   simp only [sliceBounds,HT.dz,Option.getD_none,show (1 : Int) > 0 by decide,if_true]
   by_cases h : i < 0
   ·simp only [h,if_true] <;> omega
   ·simp only [h,if_false] <;> omega
 ·cases hi with
  | none => simp [sliceBounds,HT.dz]
  | some i =>
   simp only [sliceBounds,HT.dz,Option.getD_none,show (1 : Int) > 0 by decide,if_true]
   by_cases h : i < 0
   ·simp only [h,if_true] <;> omega
   ·simp only [h,if_false] <;> omega
theorem pq (its : List Value) (lo hi : Option Int) : slicePick its.toArray lo hi none = ((its.drop (HT.dz its.length 0 lo)).take (HT.dz its.length its.length hi - HT.dz its.length 0 lo)).toArray := by
 obtain ⟨h1,h2,h3⟩ := qW lo hi its.toArray.size
 unfold slicePick
 rw [h1,h2,h3]
 simp only [sliceRange_one,pick_run,List.size_toArray] <;> rfl
def Pt (K : PySem.W.Frag) : V → Option Int → Option Int → Hp → VK → Prop := fun x lo hi H Q => ∃ a xs,x = .ref a ∧ bq K H a xs ∧ ∀ p,H p = none → Q (.ref p) (upd H p (.lst (gw xs lo hi)))
theorem j5 : Pn X (Pt X.K) := by
 intro pins s σ H x v vl vu lo hi sl Q I rx hs pl pu h
 obtain ⟨a,xs,rfl,hx,q⟩ := h
 cases rx
 obtain ⟨its,r,ht,hz⟩ := I.list hx
 have hlen := r.length
 refine ⟨"list",_,slot_list_getitem.lookup,ht.isList.typeIs,?_⟩
 refine wpAny_getItem_list_slice ht.isList hs pl pu .none (by simp) ?_ (by rw [List.size_toArray] <;> omega)
 rw [pq,← hlen]
 refine ⟨.ref s.heap.objs.size,_,I.laid (t' := s.toks) (o := .lst (gw xs lo hi)) (fun b ob q => Heap.get?_push_of_some _ q) (Nat.le_refl _) ?_,rfl,q _ (I.hok.fresh (Nat.le_refl _))⟩
 exact ⟨Nat.le_trans (lY xs lo hi) hz,_,0,(r.drop (HT.dz xs.length 0 lo)).take (HT.dz xs.length xs.length hi - HT.dz xs.length 0 lo),Heap.get?_push_size _ rfl⟩
def iE : V → Bool
 | .non => true
 | .bl _ => true
 | .int _ => true
 | .str _ => true
 | _ => false
def BP : V → V → Bool
 | .non,.non => true
 | .bl a,.bl b => a == b
 | .bl a,.int b => (if a then 1 else 0) == b
 | .int a,.bl b => a == (if b then 1 else 0)
 | .int a,.int b => a == b
 | .str a,.str b => a == b
 | _,_ => false
theorem FL {A : Around} {s : Shared} {y x : V} {u v : Value} (ry : RelV y u) (rx : RelV x v) (fy : iE y = true) (fx : iE x = true) : SeqAt.EqAt A s u v (BP y x) := by
 cases y with
 | non =>
  cases ry
  cases x with
  | non => cases rx; exact SeqAt.EqAt.same _
  | bl b => cases rx; exact SeqAt.EqAt.none_bool b
  | int b => obtain ⟨t,rfl⟩ := rx; exact SeqAt.EqAt.none_int b t
  | str b => obtain ⟨t,rfl⟩ := rx; exact SeqAt.EqAt.none_str b t
  | _ => exact absurd (show false = true from fx) Bool.false_ne_true
 | bl a =>
  cases ry
  cases x with
  | non => cases rx; exact SeqAt.EqAt.bool_none a
  | bl b => cases rx; exact SeqAt.EqAt.bool_bool a b
  | int b => obtain ⟨t,rfl⟩ := rx; exact SeqAt.EqAt.bool_int a b t
  | str b => obtain ⟨t,rfl⟩ := rx; exact SeqAt.EqAt.bool_str a b t
  | _ => exact absurd (show false = true from fx) Bool.false_ne_true
 | int a =>
  obtain ⟨t',rfl⟩ := ry
  cases x with
  | non => cases rx; exact SeqAt.EqAt.int_none a t'
  | bl b => cases rx; exact SeqAt.EqAt.int_bool a t' b
  | int b => obtain ⟨t,rfl⟩ := rx; exact SeqAt.EqAt.int_int a t' b t
  | str b => obtain ⟨t,rfl⟩ := rx; exact SeqAt.EqAt.int_str a t' b t
  | _ => exact absurd (show false = true from fx) Bool.false_ne_true
 | str a =>
  obtain ⟨t',rfl⟩ := ry
  cases x with
  | non => cases rx; exact SeqAt.EqAt.str_none a t'
  | bl b => cases rx; exact SeqAt.EqAt.str_bool a t' b
  | int b => obtain ⟨t,rfl⟩ := rx; exact SeqAt.EqAt.str_int a t' b t
  | str b => obtain ⟨t,rfl⟩ := rx; exact SeqAt.EqAt.str_str a t' b t
  | _ => exact absurd (show false = true from fx) Bool.false_ne_true
 | _ => exact absurd (show false = true from fy) Bool.false_ne_true
def o9 (x : V) (u : Value) : Bool := match u with
 | .none => BP .non x
 | .bool b => BP (.bl b) x
 | .int i _ => BP (.int i) x
 | .str z _ => BP (.str z) x
 | _ => false
theorem qX {x y : V} {u : Value} (r : RelV y u) (f : iE y = true) : o9 x u = BP y x := by
 cases y with
 | non => cases r; rfl
 | bl b => cases r; rfl
 | int i => obtain ⟨t,rfl⟩ := r; rfl
 | str z => obtain ⟨t,rfl⟩ := r; rfl
 | _ => exact absurd (show false = true from f) Bool.false_ne_true
theorem j8 {x : V} : ∀ {xs : List V} {us : List Value},Vals xs us → xs.all iE = true → us.any (o9 x) = xs.any fun y => BP y x
 | _,_,.nil,_ => rfl
 | y :: xs,u :: us,.cons r t,f => by
  rw [List.all_cons,Bool.and_eq_true] at f
  rw [List.any_cons,List.any_cons,qX r f.1,j8 t f.2]
theorem fj {A : Around} {s : Shared} {x : V} {v : Value} (rx : RelV x v) (fx : iE x = true) : ∀ {xs : List V} {us : List Value},Vals xs us → xs.all iE = true → ∀ u ∈ us,SeqAt.EqAt A s u v (o9 x u)
 | _,_,.nil,_ => fun u hu => by cases hu
 | y :: xs,u :: us,.cons r t,f => fun u' hu => by
  rw [List.all_cons,Bool.and_eq_true] at f
  rcases List.mem_cons.mp hu with rfl | hu
  ·rw [qX r f.1]; exact FL r rx f.1 fx
  ·exact fj rx fx t f.2 u' hu
def inV (x : V) (xs : List V) : Bool := xs.any fun y => BP y x
def rIn (K : PySem.W.Frag) (neg : Bool) : R2 := fun x y H Q => ∃ p xs,y = .ref p ∧ (bq K H p xs ∨ aZ K H p xs) ∧ iE x = true ∧ xs.all iE = true ∧ Q (.bl (if neg then !inV x xs else inV x xs)) H
theorem bg : iQ X (compareOp .In) (rIn X.K false) := by
 intro pins s σ H x y v u Q I rx ry h
 obtain ⟨p,xs,rfl,hq,fx,fs,q⟩ := h
 cases ry
 rcases hq with hq | hq
 ·obtain ⟨its,r,pl,hz⟩ := I.list hq
  refine SeqAt.in_listAt (o9 x) pl.isList (fun w hw => fj rx fx r fs w (by simpa using hw)) ⟨.bl _,H,I,rfl,?_⟩
  rw [show its.toArray.any (o9 x) = its.any (o9 x) by simp,j8 r fs]
  exact q
 ·obtain ⟨its,r,pl,hz⟩ := I.tuple hq
  refine SeqAt.in_tupleAt (o9 x) pl (fun w hw => fj rx fx r fs w (by simpa using hw)) ⟨.bl _,H,I,rfl,?_⟩
  rw [show its.toArray.any (o9 x) = its.any (o9 x) by simp,j8 r fs]
  exact q
theorem hU : iQ X (compareOp .NotIn) (rIn X.K true) := by
 intro pins s σ H x y v u Q I rx ry h
 obtain ⟨p,xs,rfl,hq,fx,fs,q⟩ := h
 cases ry
 rcases hq with hq | hq
 ·obtain ⟨its,r,pl,hz⟩ := I.list hq
  refine SeqAt.notIn_listAt (o9 x) pl.isList (fun w hw => fj rx fx r fs w (by simpa using hw)) ⟨.bl _,H,I,rfl,?_⟩
  rw [show its.toArray.any (o9 x) = its.any (o9 x) by simp,j8 r fs]
  exact q
 ·obtain ⟨its,r,pl,hz⟩ := I.tuple hq
  refine SeqAt.notIn_tupleAt (o9 x) pl (fun w hw => fj rx fx r fs w (by simpa using hw)) ⟨.bl _,H,I,rfl,?_⟩
  rw [show its.toArray.any (o9 x) = its.any (o9 x) by simp,j8 r fs]
  exact q
theorem aU : gM X (.builtin "len") (fun xs H Q => ∃ p ys,xs = [.ref p] ∧ (bq X.K H p ys ∨ aZ X.K H p ys) ∧ Q (.int ys.length) H) := by
 intro pins s σ H xs us Q I r h
 obtain ⟨p,ys,rfl,hq,q⟩ := h
 obtain ⟨u,rfl,rx⟩ := vals1 r
 cases rx
 have hn := qS
 rcases hq with hq | hq
 ·obtain ⟨its,r',pl,hz⟩ := I.list hq
  have hlen := r'.length
  exact Calls.call_len_list pl.isList (by simp only [List.size_toArray] <;> omega) ⟨.int ys.length,H,I.tok _,⟨s.toks + 1,by rw [List.size_toArray,hlen]⟩,q⟩
 ·obtain ⟨its,r',pl,hz⟩ := I.tuple hq
  have hlen := r'.length
  exact len_tuple pl (by simp only [List.size_toArray] <;> omega) ⟨.int ys.length,H,I.tok _,⟨s.toks + 1,by rw [List.size_toArray,hlen]⟩,q⟩
theorem dX : gM X (.type "list") (fun xs H Q => ∃ p ys,xs = [.ref p] ∧ (bq X.K H p ys ∨ aZ X.K H p ys) ∧ ∀ l,H l = none → Q (.ref l) (upd H l (.lst ys))) := by
 intro pins s σ H xs us Q I r h
 obtain ⟨p,ys,rfl,hq,q⟩ := h
 obtain ⟨u,rfl,rx⟩ := vals1 r
 cases rx
 have fin : ∀ (its : List Value),Vals ys its → ys.length ≤ sizeLine → ∀ (h' : Heap) (c' : Nat),(∀ b o',s.heap.get? b = some o' → h'.get? b = some o') →
   h'.get? s.heap.objs.size = some { cls := .type "list",dict := none,data := .seq its.toArray c',slots := #[] } → EP X pins σ Q (.ref s.heap.objs.size) { s with heap := h' } := fun its r' hz h' c' kp e =>
  ⟨.ref s.heap.objs.size,_,I.laid (t' := s.toks) kp (Nat.le_refl _) (show cD X.prog X.w _ h' _ (.lst ys) from ⟨hz,its,c',r',e⟩),rfl,q _ (I.hok.fresh (Nat.le_refl _))⟩
 rcases hq with hq | hq
 ·obtain ⟨its,r',pl,hz⟩ := I.list hq
  have hlen := r'.length
  obtain ⟨o,ho,hc,n,hd⟩ := pl.isList
  exact call_list_seq p (.inl rfl) ho hc hd (fun h' c' kp e => fin its r' hz h' c' kp e) (by simp only [List.size_toArray] <;> omega)
 ·obtain ⟨its,r',pl,hz⟩ := I.tuple hq
  have hlen := r'.length
  obtain ⟨o,ho,hc,n,hd⟩ := pl
  exact call_list_seq p (.inr rfl) ho hc hd (fun h' c' kp e => fin its r' hz h' c' kp e) (by simp only [List.size_toArray] <;> omega)
theorem cJ : gM X (.type "tuple") (fun xs H Q => ∃ p ys,xs = [.ref p] ∧ ((bq X.K H p ys ∧ ∀ l,H l = none → Q (.ref l) (upd H l (.tup ys))) ∨ (aZ X.K H p ys ∧ Q (.ref p) H))) := by
 intro pins s σ H xs us Q I r h
 obtain ⟨p,ys,rfl,h⟩ := h
 obtain ⟨u,rfl,rx⟩ := vals1 r
 cases rx
 rcases h with ⟨hq,q⟩ | ⟨hq,q⟩
 ·obtain ⟨its,r',pl,hz⟩ := I.list hq
  have hlen := r'.length
  refine call_tuple_list pl.isList (fun h' kp => ?_) (by simp only [List.size_toArray] <;> omega)
  have I1 : Inv X pins σ H { s with heap := h' } := I.kept (t' := s.toks) kp
  have I2 : Inv X pins σ (upd H h'.objs.size (.tup ys)) { s with heap := h'.push { cls := .type "tuple",data := .seq its.toArray } } :=
   I1.laid (t' := s.toks) (fun b o e => Heap.get?_push_of_some _ e) (Nat.le_refl _) (show cD X.prog X.w _ _ _ (.tup ys) from ⟨hz,its,r',IsTup.new _ _⟩)
  exact ⟨.ref h'.objs.size,_,I2,rfl,q _ (I1.hok.fresh (Nat.le_refl _))⟩
 ·obtain ⟨its,r',pl,hz⟩ := I.tuple hq
  exact call_tuple_same pl ⟨.ref p,H,I,rfl,q⟩
def tyV (K : PySem.W.Frag) (T : String) (x : V) (H : Hp) : Prop := match x with
 | .str _ => T = "str"
 | .int _ => T = "int"
 | .ref p => (T = "list" ∧ ∃ xs,bq K H p xs) ∨ (T = "tuple" ∧ ∃ o,K.lookup p = some o ∧ o.cls = .type "tuple" ∧ o.dict = none) ∨
   (T = "dict" ∧ ((∃ kvs,H p = some (.dK kvs)) ∨ ∃ kvs,H p = some (.dT kvs))) ∨ (T = "set" ∧ ∃ S n,H p = some (.set S n))
 | _ => False
theorem FN {pins : List (Addr × Obj)} {σ : St} {H : Hp} {s : Shared} {T : String} {x : V} {v : Value} (I : Inv X pins σ H s) (r : RelV x v) (ty : tyV X.K T x H) :
  s.TypeIs v T ∧ ∀ a,v = .ref a → ∃ ob,s.heap.get? a = some ob ∧ ob.dict = none := by
 cases x with
 | str z =>
  obtain ⟨t,rfl⟩ := r
  cases (show T = "str" from ty)
  exact ⟨typeIs_str s z t,fun _ e => nomatch e⟩
 | int i =>
  obtain ⟨t,rfl⟩ := r
  cases (show T = "int" from ty)
  exact ⟨typeIs_int s i t,fun _ e => nomatch e⟩
 | ref p =>
  cases r
  rcases ty with ⟨rfl,xs,hq⟩ | ⟨rfl,o,hk,hc,hd⟩ | ⟨rfl,hk⟩ | ⟨rfl,S,n,hk⟩
  ·obtain ⟨its,_,pl,_⟩ := I.list hq
   refine ⟨pl.isList.typeIs,fun a e => ?_⟩
   cases e
   obtain ⟨o,n,e,c,hd,_⟩ := pl
   exact ⟨o,e,hd⟩
  ·refine ⟨⟨o,I.jF p o hk,hc⟩,fun a e => ?_⟩
   cases e
   exact ⟨o,I.jF _ o hk,hd⟩
  ·have z : ∃ o,s.heap.get? p = some o ∧ o.ExactDict := by
    rcases hk with ⟨kvs,hk⟩ | ⟨kvs,hk⟩
    ·obtain ⟨_,_,_,_,o,_,_,e,ex,_⟩ := I.hok p _ hk
     exact ⟨o,e,ex⟩
    ·obtain ⟨_,_,_,_,o,_,_,e,ex,_⟩ := I.hok p _ hk
     exact ⟨o,e,ex⟩
   obtain ⟨o,e,ex⟩ := z
   refine ⟨⟨o,e,ex.1⟩,fun a e2 => ?_⟩
   cases e2
   exact ⟨o,e,ex.2.1⟩
  ·obtain ⟨o,_,_,_,e,ex,_⟩ := I.hok p _ hk
   refine ⟨⟨o,e,ex.1⟩,fun a e2 => ?_⟩
   cases e2
   exact ⟨o,e,ex.2.1⟩
 | _ => exact False.elim ty
def tBM (K : PySem.W.Frag) (T : String) (r : V → List V → Hp → VK → Prop) (to : TE) (t : TA) : TE := fun σ H Q => to σ H fun x H1 => tyV K T x H1 ∧ t σ H1 fun xs H2 => r x xs H2 Q
variable {o e : Expr} {es : List Expr} {to : TE} {t : TA} {name : Str} {apos cpos : Pos} {T id : String} {r : V → List V → Hp → VK → Prop}
theorem eP (pa : PlainAttrs T) (slot : Slot T name id) (hty : typeOf (.builtin id) = pure (.type "method_descriptor")) (hm : Pq X id r) (ho : PE X o to) (ha : PA X (e :: es) t)
  (hbase : attributeBase o name X.env (eval o X.env) = eval o X.env := by rfl)
  (hfew : ((backTo cpos (starEach (e :: es) X.env)).all (fun x => !x.1) && (backToKw cpos (keywordEach [] X.env)).all (fun x => x.1.isSome)
   && decide ((e :: es).length + ([] : List Keyword).length + (if ([] : List Keyword).isEmpty then 0 else 1) < 30)) = true := by rfl)
  (hline : (apos.endLine == cpos.line) = true := by rfl) (hs : starEach (e :: es) X.env = (false,eval e X.env) :: starEach es X.env := by rfl) (hplain : (backTo cpos (starEach es X.env)).any (·.1) = false := by rfl) :
  PE X (.Call (.Attribute o name apos) (e :: es) [] cpos) (tBM X.K T r to t) := by
 intro pins s σ H Q I h
 refine wpAny_Call_method_late hbase hfew hline rfl (cE (ho pins s σ H _ I h) fun v s1 ⟨x,H1,I1,r1,ty,q1⟩ => ?_)
 obtain ⟨h1,h2⟩ := FN I1 r1 ty
 refine ⟨T,id,pa,slot,hty,h1,h2,?_⟩
 have hA := ha cpos pins s1 σ H1 _ I1 q1
 rw [hs] at hA ⊢
 refine Calls.callWith_builtin (by show (false || (backTo cpos (starEach es X.env)).any (·.1)) = false; rw [hplain] <;> rfl) (Calls.evalArgs_plain ?_)
 exact cE hA fun us s2 ⟨vs,H2,I2,r2,q2⟩ => hm pins s2 σ H2 x vs v us Q I2 r1 r2 q2
/- xs.append(e),list.index on a module's tuple .. are Pq facts of 06m -/
end
def NZ (X : Cx) (id : String) (r : V → List V → Hp → VK → Prop) : Prop :=
 ∀ (pins : List (Addr × Obj)) (s : Shared) (σ : St) (H : Hp) (x : V) (xs : List V) (v : Value) (us : List Value) (Q : VK),Inv X pins σ H s → RelV x v → Vals xs us → r x xs H Q →
  wpAny (model X.prog X.w) X.A (call (.builtin id) (v :: us)) (EP X pins σ Q) X.xe s
theorem Vals.one : ∀ {x : V} {us : List Value},Vals [x] us → ∃ u,us = [u] ∧ RelV x u
 | _,_,.cons r .nil => ⟨_,rfl,r⟩
theorem Vals.two : ∀ {x y : V} {us : List Value},Vals [x,y] us → ∃ u v,us = [u,v] ∧ RelV x u ∧ RelV y v
 | _,_,_,.cons r (.cons q .nil) => ⟨_,_,rfl,r,q⟩
theorem Vals.eraseIdx : ∀ {xs : List V} {us : List Value} (i : Nat),Vals xs us → Vals (xs.eraseIdx i) (us.eraseIdx i)
 | _,_,_,.nil => .nil
 | _,_,0,.cons _ t => t
 | _,_,i + 1,.cons r t => .cons r (Vals.eraseIdx i t)
theorem Vals.rep {xs : List V} {us : List Value} (h : Vals xs us) : ∀ k : Nat,Vals (List.replicate k xs).flatten (List.replicate k us).flatten
 | 0 => .nil
 | k + 1 => by
  rw [List.replicate_succ,List.replicate_succ,List.flatten_cons,List.flatten_cons]
  exact Vals.append h (Vals.rep h k)
theorem pZ {α : Type} : ∀ (l : List α) (i : Nat),(l.eraseIdx i).length ≤ l.length
 | [],_ => Nat.le_refl _
 | _ :: _,0 => Nat.le_succ _
 | _ :: r,i + 1 => Nat.succ_le_succ (pZ r i)
theorem foldl_rep (its : List Value) : ∀ (k : Nat) (acc : List Value),
  List.foldl (fun x1 x2 => x1 ++ x2) acc.toArray (List.replicate k its.toArray) = (acc ++ (List.replicate k its).flatten).toArray
 | 0,acc => by simp
 | k + 1,acc => by
  have e : acc.toArray ++ its.toArray = (acc ++ its).toArray := by simp
  have e2 : (acc ++ its) ++ (List.replicate k its).flatten = acc ++ (List.replicate (k + 1) its).flatten := by
   rw [List.replicate_succ,List.flatten_cons,List.append_assoc]
  rw [← e2,← foldl_rep its k (acc ++ its),← e,List.replicate_succ,List.foldl_cons]
section
variable {X : Cx} {pins : List (Addr × Obj)} {σ : St} {H : Hp} {s : Shared} {l b : Addr} {xs ys zs : List V}
theorem Inv.FO {its its' : List Value} {n : Nat} {f : Array Value → Array Value} {t' : Nat} (I : Inv X pins σ H s) (hH : H l = some (.lst xs))
  (e : s.heap.get? l = some { cls := .type "list",data := .seq its.toArray n }) (hf : f its.toArray = its'.toArray) (hv : Vals ys its') (hz : ys.length ≤ sizeLine) :
  Inv X pins σ (upd H l (.lst ys)) { s with heap := s.heap.update l (Obj.mapSeq f),toks := t' } := by
 have q := PySem.IsL.update e f
 rw [hf] at q
 refine I.write (x := l) (e := l) (by rw [hH]; exact trivial) (.inl rfl) (fun b' u hb hu => (Heap.get?_update_other s.heap (Obj.mapSeq f) (Ne.symm hb)).trans hu) ⟨_,q⟩ ?_
 exact ⟨hz,its',_,hv,q⟩
theorem Inv.Ck {its : List Value} {t' : Nat} (I : Inv X pins σ H s) (hv : Vals ys its) (hz : ys.length ≤ sizeLine) :
  Inv X pins σ (upd H s.heap.objs.size (.lst ys)) { s with heap := s.heap.push { cls := .type "list",data := .seq its.toArray },toks := t' } :=
 I.laid (fun _ _ q => Heap.get?_push_of_some _ q) (Nat.le_refl _) ⟨hz,its,0,hv,Heap.get?_push_size _ rfl⟩
theorem Inv.fresh (I : Inv X pins σ H s) : H s.heap.objs.size = none := I.hok.fresh (Nat.le_refl _)
theorem Inv.uU (I : Inv X pins σ H s) (hH : H l = some (.lst xs)) : xs.length ≤ sizeLine ∧ ∃ (its : List Value) (n : Nat),Vals xs its ∧ xs.length = its.length ∧ s.heap.get? l = some { cls := .type "list",data := .seq its.toArray n } := by
 obtain ⟨z,its,n,r,e⟩ := I.hok l _ hH
 exact ⟨z,its,n,r,r.length,e⟩
theorem zG {n : Nat} (h : n ≤ sizeLine) : Builtin.List.listTooLong n = false := by
 unfold Builtin.List.listTooLong
 exact decide_eq_false (by omega)
end
section
variable {X : Cx}
def Cm : V → List V → Hp → VK → Prop := fun x vs H Q => ∃ l xs y,x = .ref l ∧ vs = [y] ∧ H l = some (.lst xs) ∧ xs.length < sizeLine ∧ Q .non (upd H l (.lst (xs ++ [y])))
theorem cG : NZ X "list.append" Cm := by
 intro pins s σ H x vs v us Q I rx rv h
 obtain ⟨l,xs,y,rfl,rfl,hH,hz,q⟩ := h
 cases rx
 obtain ⟨u,rfl,ru⟩ := rv.one
 obtain ⟨z,its,n,r,hl,e⟩ := I.uU hH
 refine call_meets F.slot_list_append ⟨_,e,rfl⟩ F.entry_list_append (F.args_list_append_2 _ _) (PySem.list_append l its.toArray n u (by rw [List.size_toArray]; omega)) ⟨e,?_⟩
 refine ⟨.non,_,I.FO (its' := its ++ [u]) hH e (by simp) (r.append (.cons ru .nil)) ?_,rfl,q⟩
 rw [List.length_append,List.length_singleton]
 omega
def FP : V → List V → Hp → VK → Prop := fun x vs H Q => ∃ l xs i k y,x = .ref l ∧ vs = [.int i] ∧ H l = some (.lst xs) ∧ -(2 ^ 63) ≤ i ∧ i < 2 ^ 63 ∧ seqIndex? i xs.length = some k ∧ xs[k]? = some y ∧ Q y (upd H l (.lst (xs.eraseIdx k)))
theorem zH : NZ X "list.pop" FP := by
 intro pins s σ H x vs v us Q I rx rv h
 obtain ⟨l,xs,i,k,y,rfl,rfl,hH,h1,h2,hk,hy,q⟩ := h
 cases rx
 obtain ⟨u,rfl,ru⟩ := rv.one
 obtain ⟨t,rfl⟩ := ru
 obtain ⟨z,its,n,r,hl,e⟩ := I.uU hH
 obtain ⟨w,hw,yv⟩ := r.get hy
 refine call_meets F.slot_list_pop ⟨_,e,rfl⟩ F.entry_list_pop (F.args_list_pop_2 _ _)
  (MeetsSeq.list_pop_at l its.toArray n i t k w (fitsIndex_both h1 h2) (by rw [List.size_toArray,← hl]; exact hk) (by rw [← Array.getElem?_toList]; exact hw) (by rw [List.size_toArray]; omega)) ⟨e,?_⟩
 refine ⟨y,_,I.FO (its' := its.eraseIdx k) hH e ?_ (r.eraseIdx k) ?_,yv,q⟩
 ·show its.toArray.eraseIdxIfInBounds k = (its.eraseIdx k).toArray
  rw [List.eraseIdxIfInBounds_toArray]
 ·have := pZ xs k
  omega
def Pu : R2 := fun x y H Q => ∃ l b xs zs,x = .ref l ∧ y = .ref b ∧ H l = some (.lst xs) ∧ H b = some (.lst zs) ∧ xs.length + zs.length ≤ sizeLine ∧ ∀ p,H p = none → Q (.ref p) (upd H p (.lst (xs ++ zs)))
theorem hV : iQ X (binaryOp .Add) Pu := by
 intro pins s σ H x y v u Q I rx ry h
 obtain ⟨l,b,xs,zs,rfl,rfl,hH,hB,hz,q⟩ := h
 cases rx
 cases ry
 obtain ⟨z,its,n,r,hl,e⟩ := I.uU hH
 obtain ⟨z2,its2,n2,r2,hl2,e2⟩ := I.uU hB
 refine PySem.P.add_list e e2 ?_ (by rw [List.size_toArray,List.size_toArray]; omega)
 have ea : its.toArray ++ its2.toArray = (its ++ its2).toArray := by simp
 rw [ea]
 exact ⟨.ref _,_,I.Ck (t' := s.toks) (r.append r2) (by rw [List.length_append]; omega),rfl,q _ I.fresh⟩
def Pw : R2 := fun x y H Q => ∃ l k xs,x = .ref l ∧ y = .int k ∧ H l = some (.lst xs) ∧ -(2 ^ 63) ≤ k ∧ k < 2 ^ 63 ∧ xs.length * k.toNat ≤ sizeLine ∧
 ∀ p,H p = none → Q (.ref p) (upd H p (.lst (List.replicate k.toNat xs).flatten))
theorem len_rep {α : Type} (xs : List α) (k : Nat) : (List.replicate k xs).flatten.length = k * xs.length := by
 induction k with
 | zero => simp
 | succ k ih => rw [List.replicate_succ,List.flatten_cons,List.length_append,ih,Nat.succ_mul,Nat.add_comm]
theorem zI : iQ X (binaryOp .Mult) Pw := by
 intro pins s σ H x y v u Q I rx ry h
 obtain ⟨l,k,xs,rfl,rfl,hH,h1,h2,hz,q⟩ := h
 cases rx
 obtain ⟨t,rfl⟩ := ry
 obtain ⟨z,its,n,r,hl,e⟩ := I.uU hH
 have hlen : its.toArray.size * k.toNat ≤ sizeLine := by rw [List.size_toArray,← hl]; exact hz
 have hcap : ¬ its.toArray.size * k.toNat > (2 ^ 63 - 1) / 8 := by
  have : (sizeLine : Nat) ≤ (2 ^ 63 - 1) / 8 := by decide
  omega
 have hfit : ¬ (!Builtin.List.listFitsIndex k) = true := by
  rw [fitsIndex_both h1 h2]
  exact Bool.false_ne_true
 have JV : ¬ Builtin.List.listTooLong (its.toArray.size * k.toNat) = true := by
  rw [zG hlen]
  exact Bool.false_ne_true
 have hnew : List.foldl (fun x1 x2 => x1 ++ x2) #[] (List.replicate (if its.toArray.isEmpty = true then 0 else k.toNat) its.toArray) = (List.replicate k.toNat its).flatten.toArray := by
  have f0 : ∀ m : Nat,List.foldl (fun x1 x2 => x1 ++ x2) #[] (List.replicate m its.toArray) = (List.replicate m its).flatten.toArray := fun m => by
   have := foldl_rep its m []
   rw [List.nil_append] at this
   exact this
  rw [f0]
  cases its with
  | nil => simp
  | cons a r' => rw [if_neg (by simp)]
 refine wpAny_binaryOp_repeat_ref (T := "list") (U := "int") (by decide) ⟨_,e,rfl⟩ (fun s' => typeIs_int s' k t) noFill_list_mul F.fills_int_mul F.slot_int_rmul repeat_list F.slot_int_index.lookup
  (call_meets F.slot_int_rmul (typeIs_int s k t) F.entry_int_rmul (F.args_int_rmul_2 _ _) (int___rmul___int_list k t l its.toArray n)
   ⟨e,rfl,⟨_,e,rfl⟩,call_meets F.slot_list_mul ⟨_,e,rfl⟩ F.entry_list_mul (F.args_list_mul_2 _ _) (AutoListH.list___mul___list_int_3 l its.toArray n k t hfit hcap JV) ⟨e,?_⟩⟩)
 rw [hnew]
 exact ⟨.ref _,_,I.Ck (t' := s.toks) (r.rep k.toNat) (by rw [len_rep,Nat.mul_comm]; exact hz),rfl,q _ I.fresh⟩
end
section
variable {prog : Program} {w : World} {A : Around} {E : Value → Shared → Prop} {s : Shared}
set_option maxRecDepth 100000 in
end
section
variable {X : Cx}
end
section
variable {κ : Type} [DecidableEq κ]
def dB (kvs : List (κ × V)) (k : κ) : Option V := (kvs.find? fun kv => decide (kv.1 = k)).map (·.2)
def putK (kvs : List (κ × V)) (k : κ) (v : V) : List (κ × V) :=
 if (kvs.any fun kv => decide (kv.1 = k)) = true then kvs.map (fun kv => if kv.1 = k then (kv.1,v) else kv) else kvs ++ [(k,v)]
theorem dm {p : κ × V} {r : List (κ × V)} {k : κ} (e : p.1 = k) : dB (p :: r) k = some p.2 := by simp [dB,List.find?_cons,e]
theorem dn {p : κ × V} {r : List (κ × V)} {k : κ} (e : ¬ p.1 = k) : dB (p :: r) k = dB r k := by simp [dB,List.find?_cons,e]
theorem j9 (k : κ) : ∀ kvs : List (κ × V),(kvs.any fun kv => decide (kv.1 = k)) = (dB kvs k).isSome
 | [] => rfl
 | p :: r => by
  rw [List.any_cons]
  by_cases e : p.1 = k
  ·simp only [dm e,decide_eq_true e,Bool.true_or,Option.isSome_some]
  ·rw [dn e,decide_eq_false e,Bool.false_or]; exact j9 k r
theorem sX (k j : κ) (y : V) : ∀ kvs : List (κ × V),dB (kvs.map fun kv => if kv.1 = k then (kv.1,y) else kv) j = (dB kvs j).map fun x => if j = k then y else x
 | [] => rfl
 | p :: r => by
  have ih := sX k j y r
  rw [List.map_cons]
  by_cases h : p.1 = k
  ·rw [if_pos h]
   by_cases e : p.1 = j
   ·rw [dm (p := (p.1,y)) e,dm e,Option.map_some,if_pos (e.symm.trans h)]
   ·rw [dn (p := (p.1,y)) e,dn e,ih]
  ·rw [if_neg h]
   by_cases e : p.1 = j
   ·rw [dm (p := p) e,dm e,Option.map_some,if_neg (fun z => h (e.trans z))]
   ·rw [dn (p := p) e,dn e,ih]
theorem p9 (k j : κ) (y : V) : ∀ kvs : List (κ × V),dB kvs k = none → dB (kvs ++ [(k,y)]) j = if j = k then some y else dB kvs j
 | [],_ => by
  by_cases e : k = j
  ·rw [if_pos e.symm]; exact dm (p := (k,y)) e
  ·rw [if_neg (fun z => e z.symm)]; exact dn (p := (k,y)) e
 | p :: r,hn => by
  rw [List.cons_append]
  have hk : ¬ p.1 = k := fun z => by rw [dm z] at hn; cases hn
  rw [dn hk] at hn
  have ih := p9 k j y r hn
  by_cases e : p.1 = j
  ·rw [dm e,dm e,if_neg (fun z => hk (e.trans z))]
  ·rw [dn e,dn e,ih]
theorem zJ (kvs : List (κ × V)) (k j : κ) (y : V) : dB (putK kvs k y) j = if j = k then some y else dB kvs j := by
 unfold putK
 by_cases a : (kvs.any fun kv => decide (kv.1 = k)) = true
 ·rw [if_pos a,sX]
  rw [j9] at a
  by_cases e : j = k
  ·obtain ⟨x,hx⟩ := Option.isSome_iff_exists.mp a
   rw [if_pos e,e,hx,Option.map_some,if_pos rfl]
  ·rw [if_neg e]
   cases dB kvs j with
   | none => rfl
   | some x => rw [Option.map_some,if_neg e]
 ·rw [if_neg a]
  refine p9 k j y kvs ?_
  rw [j9] at a
  cases q : dB kvs k with
  | none => rfl
  | some x => rw [q] at a; exact (a rfl).elim
theorem fX (kvs : List (κ × V)) (k : κ) (v : V) : (putK kvs k v).length ≤ kvs.length + 1 := by
 unfold putK
 split
 ·rw [List.length_map]; omega
 ·rw [List.length_append,List.length_cons,List.length_nil]; omega
theorem jU.yw {o : Option V} {u : Option Value} (r : jU o u) : o.isSome = u.isSome := by
 cases o with
 | none => cases u with
  | none => rfl
  | some _ => exact (show False from r).elim
 | some _ => cases u with
  | none => exact (show False from r).elim
  | some _ => rfl
theorem jU.getD {o : Option V} {u : Option Value} {d : V} {d' : Value} (r : jU o u) (rd : RelV d d') : RelV (o.getD d) (u.getD d') := by
 cases o with
 | none => cases u with
  | none => exact rd
  | some _ => exact (show False from r).elim
 | some _ => cases u with
  | none => exact (show False from r).elim
  | some _ => exact r
theorem KV.val {kvs : List (κ × V)} {vs : List (κ × Value)} (r : KV kvs vs) (k : κ) : jU (dB kvs k) (valueAt vs k) := by
 unfold KV at r
 induction r with
 | nil => exact True.intro
 | @cons p q ps qs h t ih =>
  obtain ⟨h1,h2⟩ := h
  by_cases e : p.1 = k
  ·have e' : q.1 = k := h1.symm.trans e
   have b : valueAt (q :: qs) k = some q.2 := by simp [valueAt,List.find?_cons,e']
   rw [dm e,b]; exact h2
  ·have e' : ¬ q.1 = k := fun z => e (h1.trans z)
   have b : valueAt (q :: qs) k = valueAt qs k := by simp [valueAt,List.find?_cons,e']
   rw [dn e,b]; exact ih
theorem KV.any {kvs : List (κ × V)} {vs : List (κ × Value)} (r : KV kvs vs) (k : κ) : (kvs.any fun kv => decide (kv.1 = k)) = vs.any fun kv => decide (kv.1 = k) := by
 unfold KV at r
 induction r with
 | nil => rfl
 | cons h t ih => rw [List.any_cons,List.any_cons,ih,h.1]
theorem KV.repl {kvs : List (κ × V)} {vs : List (κ × Value)} (r : KV kvs vs) (k : κ) {y : V} {u : Value} (ry : RelV y u) :
  KV (kvs.map fun kv => if kv.1 = k then (kv.1,y) else kv) (vs.map fun kv => if kv.1 = k then (kv.1,u) else kv) := by
 unfold KV at r ⊢
 induction r with
 | nil => exact .nil
 | @cons p q ps qs h t ih =>
  rw [List.map_cons,List.map_cons]
  refine .cons ?_ ih
  obtain ⟨h1,h2⟩ := h
  by_cases e : p.1 = k
  ·rw [if_pos e,if_pos (h1.symm.trans e)]; exact ⟨h1,ry⟩
  ·rw [if_neg e,if_neg (fun z => e (h1.trans z))]; exact ⟨h1,h2⟩
theorem KV.put {kvs : List (κ × V)} {vs : List (κ × Value)} (r : KV kvs vs) (k : κ) {y : V} {u : Value} (ry : RelV y u) : KV (putK kvs k y) (stored vs k u) := by
 unfold putK stored
 rw [r.any k]
 by_cases e : (vs.any fun kv => decide (kv.1 = k)) = true
 ·rw [if_pos e,if_pos e]; exact r.repl k ry
 ·rw [if_neg e,if_neg e]; exact Paired.snoc r ⟨rfl,ry⟩
theorem KV.length {kvs : List (κ × V)} {vs : List (κ × Value)} (r : KV kvs vs) : kvs.length = vs.length := Paired.length r
end
theorem qa {P : Program} {w : World} {k : Key} {u : Value} (r : RelV (kV k) u) : (cz P w).is k u = true := by
 cases k with
 | inl i => obtain ⟨t,e⟩ := (show ∃ t,u = Value.int i t from r); subst e; exact sP P w i t
 | inr x => obtain ⟨t,e⟩ := (show ∃ t,u = Value.str x t from r); subst e; exact sQ P w x t
theorem qb {P : Program} {w : World} : ∀ {ks : List Key} {us : List Value},Vals (ks.map kV) us → ItemsAre (cz P w) ks us
 | [],_,r => by rw [List.map_nil] at r; cases r; exact .nil
 | k :: ks,_,r => by
  rw [List.map_cons] at r
  cases r with
  | cons h t => exact .cons (qa h) (qb t)
abbrev KT (H : Hp) : List (List Key × V) → List (List Key × Addr × Value) → Prop := Paired fun p q => p.1 = q.1 ∧ H q.2.1 = some (.tup (p.1.map kV)) ∧ RelV p.2 q.2.2
theorem KT.val {H : Hp} {kvs : List (List Key × V)} {xs : List (List Key × Addr × Value)} (r : KT H kvs xs) (k : List Key) : jU (dB kvs k) ((atKey xs k).map (·.2)) := by
 induction r with
 | nil => exact True.intro
 | @cons p q ps qs h t ih =>
  obtain ⟨h1,_,h2⟩ := h
  by_cases e : p.1 = k
  ·have e' : q.1 = k := h1.symm.trans e
   have b : atKey (q :: qs) k = some q.2 := by simp [atKey,List.find?_cons,e']
   rw [dm e,b]; exact h2
  ·have e' : ¬ q.1 = k := fun z => e (h1.trans z)
   have b : atKey (q :: qs) k = atKey qs k := by simp [atKey,List.find?_cons,e']
   rw [dn e,b]; exact ih
theorem KT.repl {H : Hp} {kvs : List (List Key × V)} {xs : List (List Key × Addr × Value)} (r : KT H kvs xs) (k : List Key) {y : V} {u : Value} (ry : RelV y u) :
  KT H (kvs.map fun kv => if kv.1 = k then (kv.1,y) else kv) (xs.map (putAt k u)) := by
 induction r with
 | nil => exact .nil
 | @cons p q ps qs h t ih =>
  rw [List.map_cons,List.map_cons]
  refine .cons ?_ ih
  obtain ⟨h1,h2,h3⟩ := h
  unfold putAt
  by_cases e : p.1 = k
  ·rw [if_pos e,if_pos (h1.symm.trans e)]; exact ⟨h1,h2,ry⟩
  ·rw [if_neg e,if_neg (fun z => e (h1.trans z))]; exact ⟨h1,h2,h3⟩
theorem KT.put {H : Hp} {kvs : List (List Key × V)} {xs : List (List Key × Addr × Value)} (r : KT H kvs xs) (k : List Key) {b : Addr} {y : V} {u : Value} (hb : H b = some (.tup (k.map kV))) (ry : RelV y u) :
  KT H (putK kvs k y) (storedH xs k b u) := by
 have e : (kvs.any fun kv => decide (kv.1 = k)) = (atKey xs k).isSome := by
  rw [j9,(r.val k).yw,Option.isSome_map]
 unfold putK storedH
 rw [e]
 by_cases q : (atKey xs k).isSome = true
 ·rw [if_pos q,if_pos q]; exact r.repl k ry
 ·rw [if_neg q,if_neg q]; exact Paired.snoc r ⟨rfl,hb,ry⟩
theorem KT.keeps {H H' : Hp} {kvs : List (List Key × V)} {xs : List (List Key × Addr × Value)} (r : KT H kvs xs) (ht : ∀ b ys,H b = some (.tup ys) → H' b = some (.tup ys)) : KT H' kvs xs :=
 Paired.Fs r fun _ _ z => ⟨z.1,ht _ _ z.2.1,z.2.2⟩
section
variable {P : Program} {w : World} {H : Hp} {h : Heap} {a : Addr}
theorem Eo {u : HO} (ok : iG P w H h) (e : Rd H a u) : cD P w H h a u := e.ok ok
theorem wJ {kvs : List (Key × V)} (ok : iG P w H h) (e : Rd H a (.dK kvs)) : kvs.length ≤ sizeLine ∧ (a == sysModules) = false ∧ ∃ vs,KV kvs vs ∧ h.DictOf (cz P w) a vs :=
 show cD P w H h a (.dK kvs) from Eo ok e
theorem Ep {kvs : List (Key × V)} (ok : iG P w H h) (e : H a = some (.dK kvs)) : kvs.length ≤ sizeLine ∧ (a == sysModules) = false ∧ ∃ vs,KV kvs vs ∧ h.DictOf (cz P w) a vs := wJ ok (.inl e)
theorem qY {ks : List Key} (ok : iG P w H h) (e : H a = some (.tup (ks.map kV))) : (tupleKind (cz P w)).is h ks a := by
 obtain ⟨_,its,r,o,h1,h2,n,h3⟩ := (show cD P w H h a (.tup (ks.map kV)) from ok a _ e)
 exact ⟨o,its.toArray,n,h1,h2,h3,by simpa using qb r⟩
theorem wK {kvs : List (List Key × V)} (ok : iG P w H h) (e : Rd H a (.dT kvs)) : kvs.length ≤ sizeLine ∧ (a == sysModules) = false ∧
  ∃ xs,KT H kvs xs ∧ h.DictOfH (tupleKind (cz P w)) a xs := by
 obtain ⟨z,y,xs,r,o,es,ep,h1,h2,h3,h4,h5⟩ := (show cD P w H h a (.dT kvs) from Eo ok e)
 refine ⟨z,y,xs,r,o,es,ep,h1,h2,h3,h4,fun x hx => ?_,h5⟩
 have all : ∀ {l : List (List Key × V)} {m : List (List Key × Addr × Value)},KT H l m → ∀ x ∈ m,(tupleKind (cz P w)).is h x.1 x.2.1 := by
  intro l m q
  induction q with
  | nil => intro x hx; exact nomatch hx
  | @cons p q ps qs hq t ih =>
   intro x hx
   rcases List.mem_cons.mp hx with e | hx
   ·subst e
    exact qY ok (by rw [← hq.1]; exact hq.2.1)
   ·exact ih x hx
 exact all r x hx
theorem JW {kvs : List (List Key × V)} (ok : iG P w H h) (e : H a = some (.dT kvs)) : kvs.length ≤ sizeLine ∧ (a == sysModules) = false ∧
  ∃ xs,KT H kvs xs ∧ h.DictOfH (tupleKind (cz P w)) a xs := wK ok (.inl e)
end
def mI (H : Hp) (a : Addr) (y : V) (r : Option V) : Prop :=
 (∃ kvs k,Rd H a (.dK kvs) ∧ y = kV k ∧ r = dB kvs k) ∨ ∃ kvs k b,Rd H a (.dT kvs) ∧ y = .ref b ∧ H b = some (.tup (k.map kV)) ∧ r = dB kvs k
def zK (H : Hp) (a : Addr) (y v : V) (H' : Hp) : Prop :=
 (∃ kvs k,H a = some (.dK kvs) ∧ y = kV k ∧ kvs.length < sizeLine ∧ H' = upd H a (.dK (putK kvs k v))) ∨
 ∃ kvs k b,H a = some (.dT kvs) ∧ y = .ref b ∧ H b = some (.tup (k.map kV)) ∧ kvs.length < sizeLine ∧ H' = upd H a (.dT (putK kvs k v))
theorem mI.k {H : Hp} {a : Addr} {kvs : List (Key × V)} {k : Key} (e : H a = some (.dK kvs)) : mI H a (kV k) (dB kvs k) := .inl ⟨kvs,k,.inl e,rfl,rfl⟩
theorem zK.k {H : Hp} {a : Addr} {kvs : List (Key × V)} {k : Key} {v : V} (e : H a = some (.dK kvs)) (hl : kvs.length < sizeLine) : zK H a (kV k) v (upd H a (.dK (putK kvs k v))) := .inl ⟨kvs,k,e,rfl,hl,rfl⟩
section
variable {X : Cx} {pins : List (Addr × Obj)} {σ : St} {H : Hp} {s : Shared} {a : Addr} {y v : V} {u r : Value} {o : Option V} {A : Around} {E : Value → Shared → Prop}
theorem Inv.big (I : Inv X pins σ H s) : sysModules < s.heap.objs.size := by
 have h : mainGlobals < s.heap.objs.size := (I.mod.glob.keeps I.bk).lt
 exact Nat.lt_trans (by decide) h
theorem qZ {h' : Heap} {t' : Nat} {ob : HO} (I : Inv X pins σ H s) (mu : Js (H a)) (hs : Heap.SameBut a s.heap h') (he : ∃ q,h'.get? a = some q) (new : cD X.prog X.w (upd H a ob) h' a ob) :
  Inv X pins σ (upd H a ob) { s with heap := h',toks := t' } :=
 I.write (x := a) (e := a) mu (.inl rfl) (fun b q hb z => (hs.2 b hb).trans z) he new
theorem uV {P : Program} {w : World} {H' : Hp} {h' : Heap} {kvs : List (Key × V)} {vs : List (Key × Value)} (z : kvs.length ≤ sizeLine) (hd : (a == sysModules) = false) (rel : KV kvs vs) (dd : h'.DictOf (cz P w) a vs) :
  cD P w H' h' a (.dK kvs) := ⟨z,hd,vs,rel,dd⟩
theorem yx {H' : Hp} {Q : Unit → Shared → Prop} (hu : A.units + 1 < cLine) (I : Inv X pins σ H s) (g : zK H a y v H') (ry : RelV y u) (rv : RelV v r) (h : ∀ s',Inv X pins σ H' s' → Q () s') :
  wpAny (model X.prog X.w) A (setItem (.ref a) u r) Q E s := by
 rcases g with ⟨kvs,k,e,ey,l,eH⟩ | ⟨kvs,k,b,e,ey,eb,l,eH⟩
 ·subst ey eH
  obtain ⟨z,hd,vs,rel,dd⟩ := Ep I.hok e
  have hz : vs.length ≤ sizeLine := by rw [← rel.length]; exact z
  have hl : (putK kvs k v).length ≤ sizeLine := by have := fX kvs k v; omega
  refine wpAny_setItem_pairs (hsz := hz) (qa ry) dd fun h' Er hs => h _ ?_
  have he : ∃ q,h'.get? a = some q := let ⟨q,_,_,hq,_⟩ := Er; ⟨q,hq⟩
  exact qZ I (by rw [e]; exact True.intro) hs he (uV hl hd (rel.put k rv) Er)
 ·subst ey eH
  cases (show u = Value.ref b from ry)
  obtain ⟨z,hd,xs,rel,dd⟩ := JW I.hok e
  have hz : xs.length ≤ sizeLine := by rw [← Paired.length rel]; exact z
  have hl : (putK kvs k v).length ≤ sizeLine := by have := fX kvs k v; omega
  refine wpAny_setItem_heap (hsz := hz) (tupleKind_room_in1 hu) (qY I.hok eb) dd fun h' Er hs => h _ ?_
  obtain ⟨q,es,ep,hq,h2,h3,h4,_,h5⟩ := Er
  refine qZ I (by rw [e]; exact True.intro) hs ⟨q,hq⟩ ⟨hl,hd,_,(rel.put k eb rv).keeps fun c ys ec => ?_,q,es,ep,hq,h2,h3,h4,h5⟩
  rw [aX (Jr ec e (fun z => nomatch z))]
  exact ec
end
section
variable {X : Cx} {pins : List (Addr × Obj)} {σ : St} {H : Hp} {s : Shared} {a : Addr} {kvs : List (Key × V)} {k : Key} {u : Value} {A : Around} {E : Value → Shared → Prop}
end
def JX (i : Expr) : Prop := ∀ ov iv,subscripted i false ov iv = operate [ov,iv] (getItem ov iv)
theorem Cp {prog : Program} {w : World} {A : Around} {E : Value → Shared → Prop} {s : Shared} {env : Env} {value slice : Expr} {pos : Pos} {T id : String} {Q : Value → Shared → Prop}
  (hl : typeLookup (.type T) "__getitem__" = pure (some (.builtin id))) (hs : JX slice)
  (h : wpAny (model prog w) A (eval value env) (fun o s₁ => wpAny (model prog w) A (eval slice env) (fun i s₂ => s₂.TypeIs o T ∧ wpAny (model prog w) A (getItem o i) Q E s₂) E s₁) E s) :
  wpAny (model prog w) A (eval (.Subscript value slice pos) env) Q E s := by
 refine Subscript_ (wpAny_mono h (fun o s₁ h₁ => wpAny_mono h₁ (fun i s₂ h₂ => ?_) fun _ _ x => x) fun _ _ x => x)
 obtain ⟨hT,h₂⟩ := h₂
 unfold subscriptTail
 refine wpAny_bind ?_
 rw [getitemInPython_of_ne hT.not_modules]
 refine wpAny_bind (wpAny_specialOf hT hl ?_)
 have fin : wpAny (model prog w) A (subscripted slice false o i) (fun r s₃ => wpAny (model prog w) A (letTemporaryGo value o r >>= fun _ => pure r) Q E s₃) E s₂ := by
  rw [hs o i]
  exact wpAny_operating (wpAny_mono h₂ (fun r s₃ h₃ => wpAny_bind (wpAny_letTemporaryGo (wpAny_pure h₃))) fun _ _ x => x)
 first
  | exact wpAny_pure (wpAny_bind fin)
  | exact wpAny_bind (wpAny_pure (wpAny_bind fin))
  | exact wpAny_bind fin
def JY (td ty tv : TE) : TS := fun D σ H => tv σ H fun v H1 => td σ H1 fun x H2 => ty σ H2 fun y H3 => ∃ a H4,x = .ref a ∧ zK H3 a y v H4 ∧ D.nx σ H4
section
variable {X : Cx} {o i e value : Expr} {pos pos' tpos : Pos} {td ty tv : TE}
theorem Cq (hu : X.A.units + 1 < cLine) (ho : PE X o td) (hi : PE X i ty) (hv : PE X value tv) (hs : swapsWith value (some (.Subscript o i pos')) pos.line X.env = pure false) :
  PS X (.Assign [.Subscript o i pos'] value pos) (JY td ty tv) := by
 intro pins s σ H D I h
 refine wpAny_Assign_Subscript (cE (hv pins s σ H _ I h) fun r s1 ⟨v,H1,I1,rv,q1⟩ => cE (ho pins s1 σ H1 _ I1 q1) fun u s2 ⟨x,H2,I2,rx,q2⟩ => cE (hi pins s2 σ H2 _ I2 q2) fun iv s3 ⟨y,H3,I3,ry,a,H4,ex,g,q3⟩ => ?_) hs
 subst ex
 obtain rfl : u = Value.ref a := rx
 exact yx hu I3 g ry rv fun s4 I4 => ⟨σ,H4,I4,q3⟩
end
theorem sY {P : Program} {w : World} {H : Hp} (h : Heap) (hb : sysModules < h.objs.size) : cD P w H (h.push { cls := .type "dict",data := .dict #[] }) h.objs.size (.dK []) :=
 ⟨Nat.zero_le _,beq_eq_false_iff_ne.mpr (Ne.symm (Nat.ne_of_lt hb)),[],.nil,Heap.DictOf.new h⟩
def FQ : TE := fun _ H Q => ∀ p,H p = none → Q (.ref p) (upd H p (.dK []))
section
variable {X : Cx} {pos : Pos}
theorem zL : PE X (.Dict [] [] pos) FQ := fun pins s σ H Q I h =>
 wpAny_Dict_empty ⟨.ref s.heap.objs.size,_,I.laid (a := s.heap.objs.size) (o := .dK []) (t' := s.toks) (fun _ _ q => Heap.get?_push_of_some _ q) (Nat.le_refl _) (sY s.heap I.big),rfl,h _ (I.hok.fresh (Nat.le_refl _))⟩
end
def uW : List (TE × TE) → St → Hp → (List (V × V) → Hp → Prop) → Prop
 | [],_,H,Q => Q [] H
 | (tk,tv) :: r,σ,H,Q => tk σ H fun x H1 => tv σ H1 fun y H2 => uW r σ H2 fun ps H3 => Q ((x,y) :: ps) H3
abbrev VV : List (V × V) → List (Value × Value) → Prop := Paired fun p q => RelV p.1 q.1 ∧ RelV p.2 q.2
def N0 (X : Cx) (pos : Pos) (keys : List (Option Expr)) (values : List Expr) (Cr : List (TE × TE)) : Prop :=
 ∀ (pins : List (Addr × Obj)) (s : Shared) (σ : St) (H : Hp) (Q : List (V × V) → Hp → Prop),Inv X pins σ H s → uW Cr σ H Q →
  wpAny (model X.prog X.w) X.A (evalPairs (pairTrees keys values X.env pos)) (fun vs s' => ∃ ps H',Inv X pins σ H' s' ∧ VV ps vs ∧ Q ps H') X.xe s
theorem rc {X : Cx} {pos : Pos} : N0 X pos [] [] [] := fun pins s σ H Q I h => pairTrees_nil_walk ⟨[],H,I,.nil,h⟩
theorem iR {X : Cx} {pos : Pos} {k v : Expr} {ks : List (Option Expr)} {vs : List Expr} {tk tv : TE} {Cr : List (TE × TE)} (hk : PE X k tk) (hv : PE X v tv) (hr : N0 X pos ks vs Cr) :
  N0 X pos (some k :: ks) (v :: vs) ((tk,tv) :: Cr) := fun pins s σ H Q I h =>
 pairTrees_cons_walk (cE (hk pins s σ H _ I h) fun u s1 ⟨x,H1,I1,rx,q1⟩ => cE (hv pins s1 σ H1 _ I1 q1) fun w2 s2 ⟨y,H2,I2,ry,q2⟩ =>
  cE (hr pins s2 σ H2 _ I2 q2) fun ws s3 ⟨ps,H3,I3,rel,q3⟩ => ⟨(x,y) :: ps,H3,I3,.cons ⟨rx,ry⟩ rel,q3⟩)
def gx (kvs more : List (Key × V)) : List (Key × V) := more.foldl (fun acc kv => putK acc kv.1 kv.2) kvs
theorem KV.merge : ∀ {more : List (Key × V)} {rs : List (Key × Value)} {kvs : List (Key × V)} {vs : List (Key × Value)},KV more rs → KV kvs vs → KV (gx kvs more) (merged vs rs) := by
 intro more rs kvs vs r
 unfold KV at r
 induction r generalizing kvs vs with
 | nil => intro q; exact q
 | @cons p q ps qs h t ih =>
  intro r0
  have e : KV (putK kvs p.1 p.2) (stored vs q.1 q.2) := by
   have := r0.put p.1 h.2
   rw [← h.1]; exact this
  exact ih e
theorem jG : ∀ (more kvs : List (Key × V)),(gx kvs more).length ≤ kvs.length + more.length
 | [],kvs => by show kvs.length ≤ kvs.length + 0; omega
 | p :: r,kvs => by
  have h1 := jG r (putK kvs p.1 p.2)
  have h2 := fX kvs p.1 p.2
  show (gx (putK kvs p.1 p.2) r).length ≤ _
  rw [List.length_cons]; omega
theorem og {P : Program} {w : World} : ∀ {kvs : List (Key × V)} {ws : List (Value × Value)},VV (kvs.map fun kv => (kV kv.1,kv.2)) ws → ∃ rs,Carries (cz P w) ws rs ∧ KV kvs rs
 | [],_,r => by rw [List.map_nil] at r; cases r; exact ⟨[],True.intro,.nil⟩
 | p :: kvs,_,r => by
  rw [List.map_cons] at r
  cases r with
  | @cons a b as bs h t =>
   obtain ⟨rs,c,q⟩ := og (P := P) (w := w) t
   obtain ⟨b1,b2⟩ := b
   exact ⟨(p.1,b2) :: rs,⟨qa h.1,rfl,c⟩,.cons ⟨rfl,h.2⟩ q⟩
def zM (Cr : List (TE × TE)) : TE := fun σ H Q => ∀ p,H p = none → uW Cr σ (upd H p (.dK [])) fun ps H2 => H2 p = some (.dK []) ∧ ∃ kvs : List (Key × V),ps = kvs.map (fun kv => (kV kv.1,kv.2)) ∧ kvs.length ≤ 15 ∧ Q (.ref p) (upd H2 p (.dK (gx [] kvs)))
theorem rg {X : Cx} {pos : Pos} {keys : List (Option Expr)} {values : List Expr} {Cr : List (TE × TE)} (h : N0 X pos keys values Cr) (hall : keys.all (·.isSome) = true) (hl : keys.length = values.length) (h0 : keys ≠ [])
  (h15 : keys.length ≤ 15) : PE X (.Dict keys values pos) (zM Cr) := by
 intro pins s σ H Q I q
 have hn := I.hok.fresh (Nat.le_refl s.heap.objs.size)
 have I1 := I.laid (a := s.heap.objs.size) (o := .dK []) (h' := s.heap.push { cls := .type "dict",data := .dict #[] }) (t' := s.toks) (fun _ _ q => Heap.get?_push_of_some _ q) (Nat.le_refl _) (sY s.heap I.big)
 refine wpAny_Dict_walk (knd := cz X.prog X.w) hall hl h0 h15 (cE (h pins _ σ _ _ I1 (q _ hn)) fun ws s2 ⟨ps,H2,I2,rel,e,kvs,ep,lk,q2⟩ => ?_)
 subst ep
 obtain ⟨rs,c,rk⟩ := og (P := X.prog) (w := X.w) rel
 obtain ⟨z,hd,vs0,r0,dd⟩ := Ep I2.hok e
 cases r0
 refine ⟨rs,c,dd,fun h' Er hs => ⟨.ref s.heap.objs.size,_,?_,rfl,q2⟩⟩
 have hz : (gx [] kvs).length ≤ sizeLine := by
  have h1 := jG kvs []
  rw [List.length_nil] at h1
  rw [sizeLine_eq]; omega
 have he : ∃ q,h'.get? s.heap.objs.size = some q := let ⟨q,_,_,hq,_⟩ := Er; ⟨q,hq⟩
 exact qZ I2 (by rw [e]; exact True.intro) hs he (uV hz hd (rk.merge .nil) Er)
structure M1 (X : Cx) (o : Expr) (m : Str) (apos : Pos) (e : Expr) (cpos : Pos) : Prop where
 base : attributeBase o m X.env (eval o X.env) = eval o X.env
 few : ((backTo cpos (starEach [e] X.env)).all (fun x => !x.1) && (backToKw cpos (keywordEach [] X.env)).all (fun x => x.1.isSome)
  && decide (([e] : List Expr).length + ([] : List Keyword).length + (if ([] : List Keyword).isEmpty then 0 else 1) < 30)) = true
 line : (apos.endLine == cpos.line) = true
 trees : backTo cpos (starEach [e] X.env) = [(false,eval e X.env)]
structure M2 (X : Cx) (o : Expr) (m : Str) (apos : Pos) (e f : Expr) (cpos : Pos) : Prop where
 base : attributeBase o m X.env (eval o X.env) = eval o X.env
 few : ((backTo cpos (starEach [e,f] X.env)).all (fun x => !x.1) && (backToKw cpos (keywordEach [] X.env)).all (fun x => x.1.isSome)
  && decide (([e,f] : List Expr).length + ([] : List Keyword).length + (if ([] : List Keyword).isEmpty then 0 else 1) < 30)) = true
 line : (apos.endLine == cpos.line) = true
 trees : backTo cpos (starEach [e,f] X.env) = [(false,eval e X.env),(false,eval f X.env)]
def Px (H : Hp) (a : Addr) : Prop := (∃ kvs,Rd H a (.dK kvs)) ∨ ∃ kvs,Rd H a (.dT kvs)
theorem zN {X : Cx} {pins : List (Addr × Obj)} {σ : St} {H : Hp} {s : Shared} {a : Addr} (I : Inv X pins σ H s) (d : Px H a) :
  s.TypeIs (.ref a) "dict" ∧ (∀ b,Value.ref a = .ref b → ∃ ob,s.heap.get? b = some ob ∧ ob.dict = none) ∧ (a == sysModules) = false := by
 rcases d with ⟨kvs,e⟩ | ⟨kvs,e⟩
 ·obtain ⟨_,hd,vs,_,dd⟩ := wJ I.hok e
  refine ⟨dd.typeIs,fun b q => ?_,hd⟩
  cases q
  obtain ⟨ob,_,_,h1,h2,_⟩ := dd
  exact ⟨ob,h1,h2.2.1⟩
 ·obtain ⟨_,hd,xs,_,dd⟩ := wK I.hok e
  refine ⟨dd.typeIs,fun b q => ?_,hd⟩
  cases q
  obtain ⟨ob,_,_,h1,h2,_⟩ := dd
  exact ⟨ob,h1,h2.2.1⟩
section
variable {X : Cx} {pins : List (Addr × Obj)} {σ : St} {H : Hp} {s : Shared} {a : Addr} {y d : V} {u r : Value} {o : Option V} {A : Around} {E : Value → Shared → Prop}
theorem FT {Q : Value → Shared → Prop} (hu : A.units + 1 < cLine) (I : Inv X pins σ H s) (g : mI H a y o) (ry : RelV y u) (h : ∀ w' s',Inv X pins σ H s' → RelV (o.getD .non) w' → Q w' s') :
  wpAny (model X.prog X.w) A (call (.builtin "dict.get") [.ref a,u]) Q E s := by
 rcases g with ⟨kvs,k,e,ey,l⟩ | ⟨kvs,k,b,e,ey,eb,l⟩
 ·subst ey
  obtain ⟨z,hd,vs,rel,dd⟩ := wJ I.hok e
  refine call_meetsIn PySem.F.slot_dict_get dd.typeIs PySem.F.entry_dict_get (PySem.F.args_dict_get_2 _ _) (meets_dict_get (cz X.prog X.w) a (qa ry) hd) ⟨_,dd.mapOf,h _ _ (I.tok _) ?_⟩
  rw [l]
  exact (rel.val k).getD rfl
 ·subst ey
  cases (show u = Value.ref b from ry)
  obtain ⟨z,hd,xs,rel,dd⟩ := wK I.hok e
  refine call_meetsIn PySem.F.slot_dict_get dd.typeIs PySem.F.entry_dict_get (PySem.F.args_dict_get_2 _ _) (meetsH_dict_get (tupleKind (cz X.prog X.w)) a b hd) ⟨tupleKind_room_in1 hu,k,xs,qY I.hok eb,dd,h _ _ (I.tok _) ?_⟩
  rw [l]
  exact (rel.val k).getD rfl
theorem FU {Q : Value → Shared → Prop} (hu : A.units + 1 < cLine) (I : Inv X pins σ H s) (g : mI H a y o) (ry : RelV y u) (rd : RelV d r) (h : ∀ w' s',Inv X pins σ H s' → RelV (o.getD d) w' → Q w' s') :
  wpAny (model X.prog X.w) A (call (.builtin "dict.get") [.ref a,u,r]) Q E s := by
 rcases g with ⟨kvs,k,e,ey,l⟩ | ⟨kvs,k,b,e,ey,eb,l⟩
 ·subst ey
  obtain ⟨z,hd,vs,rel,dd⟩ := wJ I.hok e
  refine call_meetsIn PySem.F.slot_dict_get dd.typeIs PySem.F.entry_dict_get (PySem.F.args_dict_get_3 _ _ _) (meets_dict_get_default (cz X.prog X.w) a (qa ry) hd r) ⟨_,dd.mapOf,h _ _ (I.tok _) ?_⟩
  rw [l]
  exact (rel.val k).getD rd
 ·subst ey
  cases (show u = Value.ref b from ry)
  obtain ⟨z,hd,xs,rel,dd⟩ := wK I.hok e
  refine call_meetsIn PySem.F.slot_dict_get dd.typeIs PySem.F.entry_dict_get (PySem.F.args_dict_get_3 _ _ _) (meetsH_dict_get_default (tupleKind (cz X.prog X.w)) a b hd r) ⟨tupleKind_room_in1 hu,k,xs,qY I.hok eb,dd,h _ _ (I.tok _) ?_⟩
  rw [l]
  exact (rel.val k).getD rd
end
def FW (td ty : TE) : TE := fun σ H Q => td σ H fun x H1 => ∃ a,x = .ref a ∧ Px H1 a ∧ ty σ H1 fun y H2 => ∃ o,mI H2 a y o ∧ Q (o.getD .non) H2
def uX (td ty tx : TE) : TE := fun σ H Q => td σ H fun x H1 => ∃ a,x = .ref a ∧ Px H1 a ∧ ty σ H1 fun y H2 => tx σ H2 fun z H3 => ∃ o,mI H3 a y o ∧ Q (o.getD z) H3
section
variable {X : Cx} {o e f : Expr} {apos cpos : Pos} {td ty tx : TE}
theorem oh (hu : X.A.units + 1 < cLine) (ho : PE X o td) (he : PE X e ty) (m : M1 X o "get" apos e cpos) : PE X (.Call (.Attribute o "get" apos) [e] [] cpos) (FW td ty) := by
 intro pins s σ H Q I h
 refine wpAny_Call_method m.base m.few m.line PySem.F.plainAttrs_dict PySem.F.slot_dict_get PySem.F.type_dict_get (cE (ho pins s σ H _ I h) fun u s1 ⟨x,H1,I1,rx,a,ex,d,q1⟩ => ?_)
 subst ex
 obtain rfl : u = Value.ref a := rx
 obtain ⟨t1,t2,_⟩ := zN I1 d
 refine ⟨t1,t2,?_⟩
 rw [m.trees]
 refine Calls.callWith_builtin rfl (Calls.evalArgs_plain (Calls.spliced_cons (cE (he pins s1 σ H1 _ I1 q1) fun iv s2 ⟨y,H2,I2,ry,ov,g,q2⟩ => Calls.spliced_nil ?_)))
 exact FT hu I2 g ry fun w' s3 I3 yv => ⟨_,H2,I3,yv,q2⟩
theorem sZ (hu : X.A.units + 1 < cLine) (ho : PE X o td) (he : PE X e ty) (hf : PE X f tx) (m : M2 X o "get" apos e f cpos) : PE X (.Call (.Attribute o "get" apos) [e,f] [] cpos) (uX td ty tx) := by
 intro pins s σ H Q I h
 refine wpAny_Call_method m.base m.few m.line PySem.F.plainAttrs_dict PySem.F.slot_dict_get PySem.F.type_dict_get (cE (ho pins s σ H _ I h) fun u s1 ⟨x,H1,I1,rx,a,ex,d,q1⟩ => ?_)
 subst ex
 obtain rfl : u = Value.ref a := rx
 obtain ⟨t1,t2,_⟩ := zN I1 d
 refine ⟨t1,t2,?_⟩
 rw [m.trees]
 refine Calls.callWith_builtin rfl (Calls.evalArgs_plain (Calls.spliced_cons (cE (he pins s1 σ H1 _ I1 q1) fun iv s2 ⟨y,H2,I2,ry,q2⟩ =>
  Calls.spliced_cons (cE (hf pins s2 σ H2 _ I2 q2) fun fv s3 ⟨z,H3,I3,rz,ov,g,q3⟩ => Calls.spliced_nil ?_))))
 exact FU hu I3 g ry rz fun w' s4 I4 yv => ⟨_,H3,I4,yv,q3⟩
end
section
variable {X : Cx} {pins : List (Addr × Obj)} {σ : St} {H : Hp} {s : Shared} {a : Addr} {kvs : List (Key × V)} {A : Around} {E : Value → Shared → Prop}
end
section
variable {X : Cx} {pins : List (Addr × Obj)} {σ : St} {H : Hp} {s : Shared} {a : Addr} {y : V} {u : Value} {A : Around} {E : Value → Shared → Prop}
end
end L2
namespace Att
open PySem PySem.W PySem.Calls PyProof.Rows
theorem mK {P : Params} {h : Heap} : ∀ (ns : List Int) (vs : List Value),WellAll P h vs (ns.map WData.int) → IntsAre vs ns := by
 intro ns
 induction ns with
 | nil =>
  intro vs w
  rw [List.map_nil] at w
  cases w
  exact .nil
 | cons n ns ih =>
  intro vs w
  rw [List.map_cons] at w
  cases w with
  | cons a b =>
   cases a
   exact .cons _ _ (ih _ b)
theorem yz {l : OpenLaw} {n : Nat} (hn : l.most = some n) {P : Params} {h : Heap} {args : List WData} {vals : List Value}
  (hpre : l.row.toRowW.claim.pre args = true) (hwl : WellAll P h vals args) :
  ∃ a vs ns,vals = [Value.ref a] ∧ args = [WData.list (ns.map WData.int)] ∧ h.get? a = some { cls := .type "list",data := .seq vs.toArray } ∧ IntsAre vs ns ∧ ns.length ≤ n := by
 have hsh : WShape.hasAll [] args [.list .int] = true := (pre_splitW hpre).1
 have hc : l.pre.holds [] { args := args } = true := (pre_splitW hpre).2
 obtain ⟨d,r,rfl,h1,h2⟩ := hasAllW_cons hsh
 obtain rfl := hasAllW_nil h2
 obtain ⟨xs,rfl,h3⟩ := hasW_list h1
 obtain ⟨ns,rfl⟩ := items_int h3
 have hlen : ns.length ≤ n := by
  unfold OpenLaw.pre at hc
  have h4 : (WTm.not (.lt (.lit (.int (n : Int))) (.len (.arg 0)))).holds [] { args := [.list (ns.map .int)] } = true := by
   have h4 := (holds_andW hc).1
   rw [hn] at h4
   exact h4
  have h5 := condW_of h4 (w_not (w_lt w_lit (w_len_list (w_arg rfl))))
  rw [List.length_map] at h5
  refine Nat.le_of_not_lt fun q => ?_
  have q' : (n : Int) < ((ns.length : Nat) : Int) := by omega
  first
   | (rw [decide_eq_true q'] at h5; exact absurd h5 (by decide))
   | (simp at h5; omega)
 cases hwl with
 | cons w1 w2 =>
  cases w2
  cases w1 with
  | list ho hall => exact ⟨_,_,ns,rfl,rfl,ho,mK ns _ hall,hlen⟩
theorem yA (l : OpenLaw) (args : List WData) : l.row.toRowW.claim.post args (.bool true) args = true :=
 postW_of (r := l.row.toRowW) (X := (true == true))
  (show WShape.has [] (.bool true) .bool = true by first | rfl | decide | simp [WShape.has,WShape.arms,WShape.armsAll])
  (show (WTm.eq .res (.lit (.bool true))).value [] { args := args,res := some (.bool true),after := args } = some (.bool (true == true)) from w_eq_bool (w_res rfl) w_lit) rfl
theorem tf {l : OpenLaw} {n : Nat} {q : Program} {loose : List Str} {XP : (Str → Option Value) → Heap → Prop} {YP : World → Heap → Prop} {d : DefRec}
  (hn : l.most = some n) (hdf : d.params.defaults = [])
  (call : ∀ (w : World) (s₀ s₁ : Shared) (mg mb : Str → Option Value) (fa : Addr) (o : Obj) (pm cd doc : Value) (a : Addr) (vs : List Value) (ns : List Int),
   Ground q loose [] XP w s₀ mg mb s₁.heap → YP w s₁.heap →
   s₁.heap.get? fa = some o → o.data = .func (docDef d.name d.params d.body d.scope pm cd doc) → s₁.heap.CodeRec cd d.name → mg d.name = some (.ref fa) →
   s₁.heap.get? a = some { cls := .type "list",data := .seq vs.toArray } → IntsAre vs ns → ns.length ≤ n → s₁.gens = #[] →
   codeAny (model l.prog w) callerA (.call (.ref fa) ⟨[.ref a],[]⟩) (fun r s' => r = .ok (.ret (.bool true)) ∧ OldK s₁.heap s'.heap ∧ s'.os = s₁.os ∧ AllBare s'.gens) s₁) :
  WalkO q loose XP YP l.row.toRowW d [] (fun f vs => PySem.call f vs) := by
 intro w s₀ s₁ mg mb G Y fa o pm cd doc dV kV ho hd hcd hD hmg hg args vals as hpre hlay hrd hwl hlo
 obtain rfl : dV = .none := Dflts.none hD hdf
 obtain rfl : kV = .none := Dflts.noKw hD
 obtain ⟨a,vs,ns,rfl,rfl,hobj,hints,hlen⟩ := yz hn hpre hwl
 refine enter_call (codeAny_mono (call w s₀ s₁ mg mb fa o pm cd doc a vs ns G Y ho (fd_plain hd) hcd hmg hobj hints hlen hg) fun r s' hq => ?_)
 obtain ⟨rfl,h2,h3,h4⟩ := hq
 exact ⟨.inl ⟨.bool true,.bool true,[],rfl,fun _ => rfl,.bool true,yA l _,fun _ => ⟨List.Pairwise.nil,fun _ hm => (nomatch hm)⟩⟩,h2,h3,h4⟩
section
variable {prog : Program} {w : World} {A : Around} {E : Value → Shared → Prop} {s : Shared} {K : Frag}
end
end Att
namespace L2
open PySem PySem.Spec PyProof.Rows
theorem qc : ∀ {vs : List Value} {ns : List Int},IntsAre vs ns → Vals (ns.map V.int) vs
 | _,_,.nil => .nil
 | _,_,.cons n t h => .cons ⟨t,rfl⟩ (qc h)
def Only (H : Hp) : Prop := ∀ b,H b = none ∨ ∃ o xs,H b = some (.sR o (.lst xs))
theorem zO {P : Program} {w : World} {K : PySem.W.Frag} {mg mb : Str → Option Value} {CX : yt} {k : Nat} {fa a : Addr} {fd : FuncData} {x : Str} {sp : Sp} {s₁ : Shared} {vs : List Value} {ns : List Int}
  (KX : K.In s₁.heap) (hns : s₁.heap.Ns mainGlobals mg) (hb : s₁.heap.Ns builtinsNs mb) (hbb : ∀ x : Str,x ≠ "__name__" → mb x = bootBuiltins x) (hlim : s₁.heap.NoLimit) (hg : s₁.gens = #[])
  (ha : s₁.heap.get? a = some { cls := .type "list",data := .seq vs.toArray }) (hi : IntsAre vs ns) (hl : ns.length ≤ sizeLine) (hr : dW k callerA)
  (F : ∀ base : Heap,K.In base → base.Ns mainGlobals mg → aY P w K mg base CX k fa fd [x] sp) (hbind : ∀ (s : Shared) (u : Value),BindsTo s fd ⟨[u],[]⟩ [(x,u)])
  (hsp : ∀ H : Hp,Only H → bq K H a (ns.map V.int) → sp [.ref a] H (fun v _ => v = .bl true) fun _ _ _ => False)
  (Py : ∀ H e s',CX [] H s₁ (fun _ _ _ => False) e s' → False) :
  codeAny (model P w) callerA (.call (.ref fa) ⟨[.ref a],[]⟩) (fun r s' => r = .ok (.ret (.bool true)) ∧ OldK s₁.heap s'.heap ∧ s'.os = s₁.os ∧ AllBare s'.gens) s₁ := by
 have rv := qc hi
 have lenV := hi.length
 have core : ∀ H : Hp,Only H → bq K H a (ns.map V.int) → iG P w H s₁.heap → (∀ b,H b ≠ none → b = a) → (H a ≠ none → K.lookup a = none) →
   codeAny (model P w) callerA (.call (.ref fa) ⟨[.ref a],[]⟩) (fun r s' => r = .ok (.ret (.bool true)) ∧ OldK s₁.heap s'.heap ∧ s'.os = s₁.os ∧ AllBare s'.gens) s₁ := by
  intro H hO hS hok hA hK
  have wL : ∀ {b : Addr} {o : Obj},s₁.heap.get? b = some o → H b = none → (qO s₁.heap H).get? b = some o := fun e n => zu e n
  have JQ : ∀ {b : Addr} {o : Obj} {es : Array DictEntry} {ep : Nat},s₁.heap.get? b = some o → o.data = .dict es ep → H b = none := fun {b o es ep} e d => by
   cases q : H b with
   | none => rfl
   | some u =>
    have e' : b = a := hA b (by rw [q]; simp)
    subst e'
    rw [ha] at e; cases e
    have d' : Data.seq vs.toArray _ = Data.dict es ep := d
    cases d'
  have N2 : ∀ {b : Addr} {m : Str → Option Value},s₁.heap.Ns b m → (qO s₁.heap H).Ns b m := fun {b m} ⟨o,es,ep,e,d,r⟩ => ⟨o,es,ep,wL e (JQ e d),d,r⟩
  have hKb : K.In (qO s₁.heap H) := fun b o e => wL (KX b o e) (by
   cases q : H b with
   | none => rfl
   | some u =>
    have e' : b = a := hA b (by rw [q]; simp)
    subst e'
    rw [hK (by rw [q]; simp)] at e; cases e)
  have hM : Mod K mg (qO s₁.heap H) := ⟨hKb,N2 hns,⟨mb,N2 hb,hbb⟩,let ⟨mc,h1,h2⟩ := hlim; ⟨mc,N2 h1,h2⟩⟩
  have e0 : uQ P w K mg (qO s₁.heap H) callerA [] s₁ H := ⟨rfl,hM,fun b o e => B1 e,Nat.le_of_eq (yl _ _),trivial,fun b hb => absurd (show b ∈ ([] : List Addr) from hb) (by simp),hok,.of_eq hg⟩
  refine codeAny_mono ((F _ hKb (N2 hns)).run callerA [] s₁ H ⟨[.ref a],[]⟩ [.ref a] [.ref a] _ _ hr e0 (hbind s₁ (.ref a)) (.cons rfl .nil) (hsp H hO hS)) fun r s' h => ?_
  cases r with
  | error e => exact (Py H e s' h).elim
  | ok fl =>
   cases fl with
   | next => exact False.elim h
   | brk => exact False.elim h
   | cont => exact False.elim h
   | ret u =>
    obtain ⟨v,H',os,bare,un,hok',r',q⟩ := h
    have q' : v = .bl true := q
    subst q'
    obtain rfl : u = Value.bool true := r'
    refine ⟨rfl,OldK.of_keep fun b o e => ?_,os,bare⟩
    cases q : H b with
    | none => exact un.keep b o e q (by intro z; exact absurd (show b ∈ ([] : List Addr) from z) (by simp)) (by simp)
    | some u =>
     rcases hO b with z | ⟨ob,xs,z⟩
     ·rw [q] at z; cases z
     ·have z2 := un.gT b ob _ z
      obtain ⟨e1,_⟩ := hok b _ z
      obtain ⟨e2,_⟩ := hok' b _ z2
      rw [e] at e1; cases e1
      exact e2
 cases hk : K.lookup a with
 | some o =>
  have e := KX a o hk
  rw [ha] at e
  cases e
  refine core (fun _ => none) (fun _ => .inl rfl) (.inr ⟨_,vs.toArray,_,hk,rfl,rfl,rfl,by rw [List.size_toArray,lenV]; exact hl,by simpa using rv⟩) (fun b u z => by have z' : (none : Option HO) = some u := z; cases z') (fun b z => absurd rfl z) fun z => absurd rfl z
 | none =>
  refine core (fun b => if b = a then some (.sR { cls := .type "list",data := .seq vs.toArray } (.lst (ns.map V.int))) else none) (fun b => ?_) (.inl (.inr ⟨{ cls := .type "list",data := .seq vs.toArray },if_pos rfl⟩)) (fun b u z => ?_) (fun b z => ?_) fun _ => hk
  ·by_cases hb : b = a
   ·exact .inr ⟨_,_,if_pos hb⟩
   ·exact .inl (if_neg hb)
  ·by_cases hb : b = a
   ·have z' := (if_pos hb).symm.trans z
    cases z'
    subst hb
    exact ⟨ha,by rw [List.length_map]; exact hl,vs,_,rv,ha⟩
   ·have z' := (if_neg hb).symm.trans z
    cases z'
  ·by_cases hb : b = a
   ·exact hb
   ·exact absurd (if_neg hb) z
theorem wM {l : PySem.W.OpenLaw} {n k : Nat} {q : Program} {loose : List Str} {XP : (Str → Option Value) → Heap → Prop} {YP : World → Heap → Prop} {d : DefRec} {K : Params → PySem.W.Frag} {CX : World → yt} {sp : World → Sp} {x : Str}
  (hn : l.most = some n) (hn2 : n ≤ sizeLine) (hdf : d.params.defaults = []) (hr : dW k callerA)
  (hY : ∀ (w : World) (h : Heap),YP w h → (K w.params).In h)
  (F : ∀ (w : World) (mg : Str → Option Value) (fa : Addr) (h : Heap),(K w.params).In h → h.Ns mainGlobals mg → mg d.name = some (.ref fa) →
   ∃ fd : FuncData,(∀ (s : Shared) (u : Value),BindsTo s fd ⟨[u],[]⟩ [(x,u)]) ∧
    ∀ base : Heap,(K w.params).In base → base.Ns mainGlobals mg → aY l.prog w (K w.params) mg base (CX w) k fa fd [x] (sp w))
  (hsp : ∀ (w : World) (H : Hp) (a : Addr) (ns : List Int),ns.length ≤ n → Only H → bq (K w.params) H a (ns.map V.int) → sp w [.ref a] H (fun v _ => v = .bl true) fun _ _ _ => False)
  (Py : ∀ (w : World) (H : Hp) (s : Shared) (e : Value) (s' : Shared),CX w [] H s (fun _ _ _ => False) e s' → False) :
  PySem.W.WalkO q loose XP YP l.row.toRowW d [] (fun f vs => PySem.call f vs) := by
 refine Att.tf hn hdf fun w s₀ s₁ mg mb fa o pm cd doc a vs ns G Y ho hd hcd hmg hobj hints hlen hg => ?_
 have KX := hY w _ Y
 obtain ⟨fd,hb,hF⟩ := F w mg fa _ KX G.T.g hmg
 exact zO KX G.T.g G.T.b G.T.builtins G.T.nolimit hg hobj hints (Nat.le_trans hlen hn2) hr hF hb (fun H hO hS => hsp w H a ns hlen hO hS) fun H e s' => Py w H s₁ e s'
end L2
/- THE LAST THEOREM (shape; LID,My.* are yours):
   My.Adr: a structure of the addresses that your layer names (classes,functions); My.Txt K t: a structure (Prop) of the equations over K;
   My.FX : {K} {implicit addresses ..} (e1 : nsIn K mainGlobals "law" = some (some (.ref f))) (e2 : K.lookup f = some ⟨oc,od,.func (fnOf "law" "law" params body scope dV kV doc pm an cdv ct),sl⟩) (e3 : codeIn K cdv "law" = true) .. : ∃ t,My.Txt K t
set_option maxRecDepth 100000 in
set_option maxHeartbeats 0 in
theorem PySem.Challenge.cw_LID_holds : PySem.Challenge.rw_LID.Holds := by
 w_on; o_law; k_head; (case hw => w_witness2)
 k_fill
 refine L2.wM (l := PySem.Challenge.rw_LID) (n := 63) (k := 40) (x := "script") (CX := fun w => ..) (sp := fun _ => My.sp_law) rfl (by decide) rfl ⟨rfl,by decide,by decide⟩ (fun w h Y => PySem.W.kIn_of Y) ?F ?S ?C
 case F =>
  intro w mg fa h KX G hmg
  have T : ∃ t,My.Txt (L2.KOf KX) t := by
   dsimp only [L2.KOf]
   refine' My.FX ?e1 ?e2 ?e3 ..
   (case e1 => PySem.W.k_is)
   (case e2 => PySem.W.k_is)
   ..
  obtain ⟨t,T⟩ := T
  have e0 := hmg.symm.trans (PySem.W.mg_of KX G T.law)
  cases e0
  exact ⟨_,fun s u => .of_eq rfl,fun base kb nb => My.law_fn T kb nb⟩
 case S => exact fun w H a ns hl hO hS => ..
 case C => exact ..
(the tactic k_is has no namespace: write k_is) -/
namespace L2
open PySem PySem.Spec PyProof.Rows
def inClass (s : Stmt) (j : Nat) : Stmt := match s with
 | .ClassDef _ _ _ body _ _ _ _ _ _ _ => body.getD j (.Pass ⟨0,0,0,0⟩)
 | _ => .Pass ⟨0,0,0,0⟩
def aV (s : Stmt) : Arguments := match s with
 | .FunctionDef _ a _ _ _ _ _ _ _ _ => a
 | _ => { posonlyargs := [],args := [],vararg := none,kwonlyargs := [],kw_defaults := [],kwarg := none,defaults := [] }
def aS (s : Stmt) : List Stmt := match s with
 | .FunctionDef _ _ b _ _ _ _ _ _ _ => b
 | _ => []
def aq (s : Stmt) : Scope := match s with
 | .FunctionDef _ _ _ _ _ _ sc _ _ _ => sc
 | _ => { kind := .function,names := [],isGenerator := false,isCoroutine := false }
abbrev cQ : yt := fun _ _ _ _ _ _ => False
abbrev E0 : XK := fun _ _ _ => False
theorem ck {X : Cx} : Passes cQ X E0 := fun _ _ _ _ _ _ _ h => h.elim
structure fq (K : PySem.W.Frag) (x qual : Str) (st : Stmt) (f : Addr) (fd : FuncData) : Prop where
 ex : ∃ (oc : Value) (od : Option Addr) (kV doc pm : Value) (an : Option Addr) (cdv ct : Value) (osl : Array (Option Value)),
  fd = PySem.W.fnOf x qual (aV st) (aS st) (aq st) .none kV doc pm an cdv ct ∧ K.lookup f = some ⟨oc,od,.func fd,osl⟩ ∧ PySem.W.codeIn K cdv qual = true
 kp : PySem.W.keepIn K (.ref f) = true
section
variable {P : Program} {w : World} {K : PySem.W.Frag} {mg : Str → Option Value} {base : Heap}
theorem fq.ok {x qual : Str} {st : Stmt} {f : Addr} {fd : FuncData} {N ps : List Str} {k : Nat} {sp : Sp} (F : fq K x qual st f fd) (S : aW N ps (aq st)) (len : ∀ vs H Q E,sp vs H Q E → vs.length = ps.length)
  (hbody : ∀ (cdv : Value) (A : Around) (outer : List Env) (s : Shared) (H : Hp) (vs : List V) (Q : VK) (E : XK),dW k (A.deeper (envOfC qual (aq st) s.heap.objs.size f cdv)) → sp vs H Q E →
   ∃ t,pR (fh cQ P w K mg base N qual (aq st) f cdv A outer s H E).I0 (aS st) t ∧ t { nx := fun _ H' => Q .non H',rt := Q } (start N vs) H) : aY P w K mg base cQ (k + 1) f fd ps sp := by
 obtain ⟨oc,od,kV,doc,pm,an,cdv,ct,osl,rfl,lk,hcd⟩ := F.ex
 refine Em lk hcd S len fun A outer s H vs Q E hr hsp => ?_
 obtain ⟨t,h,q⟩ := hbody cdv A outer s H vs Q E hr hsp
 exact ⟨t,h.I0,q⟩
theorem fq.binds {x qual : Str} {st : Stmt} {f : Addr} {fd : FuncData} {ps : List Str} (F : fq K x qual st f fd)
  (h : ∀ (kV doc pm : Value) (an : Option Addr) (cdv ct : Value) (us : List Value),us.length = ps.length → bindArgs (PySem.W.fnOf x qual (aV st) (aS st) (aq st) .none kV doc pm an cdv ct) ⟨us,[]⟩ = pure (ps.zip us)) : Binds K fd ps [] := by
 obtain ⟨oc,od,kV,doc,pm,an,cdv,ct,osl,rfl,lk,hcd⟩ := F.ex
 exact .all (h kV doc pm an cdv ct)
theorem bX {x qual : Str} {st : Stmt} {f : Addr} {oc : Value} {od an : Option Addr} {osl : Array (Option Value)} {kV doc pm cdv ct : Value} (l : K.lookup f = some ⟨oc,od,.func (PySem.W.fnOf x qual (aV st) (aS st) (aq st) .none kV doc pm an cdv ct),osl⟩)
  (c : PySem.W.codeIn K cdv qual = true) (k : PySem.W.keepIn K (.ref f) = true) : fq K x qual st f (PySem.W.fnOf x qual (aV st) (aS st) (aq st) .none kV doc pm an cdv ct) := ⟨⟨oc,od,kV,doc,pm,an,cdv,ct,osl,rfl,l,c⟩,k⟩
end
section
variable {X : Cx}
theorem pv (i : Nat) {x : Str} {pos : Pos} (hN : X.N[i]? = some x := by rfl) (hv : O4 X.env.scope x := by first | exact Or.inl rfl | exact Or.inr (Or.inl rfl) | exact Or.inr (Or.inr rfl)) (hd : (x == ("__debug__" : Str)) = false := by decide)
  (hcd : (x == ("__classdict__" : Str)) = false := by decide) : PE X (.Name x pos) (Jz i) := Ft hN hv hd hcd
end
theorem cB {c A B : Prop} [Decidable c] (h1 : c → A) (h2 : ¬ c → B) : if c then A else B := by
 by_cases h : c
 ·rw [if_pos h]
  exact h1 h
 ·rw [if_neg h]
  exact h2 h
def Same (H H' : Hp) : Prop := ∀ b o,H b = some o → H' b = some o
theorem Same.refl (H : Hp) : Same H H := fun _ _ h => h
theorem Same.trans {H H1 H2 : Hp} (a : Same H H1) (b : Same H1 H2) : Same H H2 := fun c o h => b c o (a c o h)
theorem Same.free {H H' : Hp} (e : Same H H') {l : Addr} (h : H' l = Option.none) : H l = Option.none := by
 cases q : H l with
 | none => rfl
 | some o =>
  rw [e l o q] at h
  cases h
theorem Same.seq {K : PySem.W.Frag} {H H' : Hp} {a : Addr} {xs : List V} (e : Same H H') (h : bq K H a xs) : bq K H' a xs := by
 rcases h with (h | ⟨o,h⟩) | h
 ·exact .inl (.inl (e _ _ h))
 ·exact .inl (.inr ⟨o,e _ _ h⟩)
 ·exact .inr h
section
variable {X : Cx}
end
section
variable {κ : Type} [DecidableEq κ]
end
end L2
set_option maxHeartbeats 4000000
namespace L2
open PySem PySem.Spec PyProof.Rows
def dJ (env : Env) (cs : List (Str × Addr)) (nk : Str × NameKind) : List (Str × Addr) :=
 if nk.2 == .free then (nk.1,(env.cells.lookup nk.1).getD 0) :: cs else cs
def mM (scope : Scope) (env : Env) : List (Str × Addr) := scope.names.foldl (dJ env) []
theorem wN {scope : Scope} {env : Env} (h : ∀ y ∈ scope.names,y.2 = .free → ∃ c,env.cells.lookup y.1 = some c) : closureFor scope env = pure (mM scope env) := by
 have all : ∀ (l : List (Str × NameKind)) (cs : List (Str × Addr)),(∀ y ∈ l,y.2 = .free → ∃ c,env.cells.lookup y.1 = some c) →
   (forIn l cs (fun x r => if (x.2 == NameKind.free) = true then do let a ← cellOf env x.1; pure (ForInStep.yield ((x.1,a) :: r)) else pure (ForInStep.yield r)) : Sem (List (Str × Addr))) = pure (l.foldl (dJ env) cs) := by
  intro l
  induction l with
  | nil => intro cs _; rfl
  | cons y r ih =>
   intro cs hy
   obtain ⟨n,k⟩ := y
   rw [List.forIn_cons,List.foldl_cons]
   by_cases hk : (k == NameKind.free) = true
   ·obtain ⟨c,hc⟩ := hy (n,k) List.mem_cons_self (by simpa using hk)
    have e1 : cellOf env n = pure c := by unfold cellOf; rw [hc]
    have e2 : dJ env cs (n,k) = (n,c) :: cs := by unfold dJ; rw [if_pos hk,hc]; rfl
    rw [e2,← ih _ fun z hz => hy z (List.mem_cons_of_mem _ hz)]
    dsimp only
    rw [if_pos hk,e1]
    rfl
   ·have e2 : dJ env cs (n,k) = cs := by unfold dJ; rw [if_neg hk]
    rw [e2,← ih _ fun z hz => hy z (List.mem_cons_of_mem _ hz)]
    dsimp only
    rw [if_neg hk]
    rfl
 have e := all scope.names [] h
 unfold closureFor mM
 rw [← e]
 simp only [bind_pure]
theorem tj {env : Env} : ∀ {l : List (Str × NameKind)} {cs : List (Str × Addr)} {n : Str} {c : Addr},(∀ y ∈ l,y.2 = .free → ∃ c,env.cells.lookup y.1 = some c) → (n,c) ∈ l.foldl (dJ env) cs → (n,c) ∈ cs ∨ env.cells.lookup n = some c
 | [],cs,n,c,_,m => .inl m
 | (y,k) :: r,cs,n,c,h,m => by
  rcases tj (fun z hz => h z (List.mem_cons_of_mem _ hz)) (show (n,c) ∈ r.foldl (dJ env) (dJ env cs (y,k)) from m) with q | q
  ·unfold dJ at q
   by_cases hk : (k == NameKind.free) = true
   ·rw [if_pos hk] at q
    rcases List.mem_cons.mp q with q | q
    ·obtain ⟨d,hd⟩ := h (y,k) List.mem_cons_self (by simpa using hk)
     have hd : env.cells.lookup y = some d := hd
     injection q with q1 q2
     subst q1
     rw [hd] at q2
     subst q2
     exact .inr hd
    ·exact .inl q
   ·rw [if_neg hk] at q
    exact .inl q
  ·exact .inr q
theorem oi {env : Env} : ∀ {l : List (Str × NameKind)} {cs : List (Str × Addr)} {p : Str × Addr},p ∈ cs → p ∈ l.foldl (dJ env) cs
 | [],_,_,m => m
 | (y,k) :: r,cs,p,m => by
  refine oi (l := r) (cs := dJ env cs (y,k)) ?_
  unfold dJ
  split
  ·exact List.mem_cons_of_mem _ m
  ·exact m
theorem tu {env : Env} : ∀ {l : List (Str × NameKind)} {cs : List (Str × Addr)} {n : Str},(n,NameKind.free) ∈ l → ∃ c,(n,c) ∈ l.foldl (dJ env) cs
 | (y,k) :: r,cs,n,m => by
  rcases List.mem_cons.mp m with q | q
  ·cases q
   exact ⟨(env.cells.lookup y).getD 0,oi (l := r) (by simp [dJ])⟩
  ·exact tu (l := r) q
theorem om {β : Type} : ∀ {l : List (Str × β)} {n : Str} {c : β},(n,c) ∈ l → ∃ d,l.lookup n = some d
 | (k,v) :: r,n,c,m => by
  rw [List.lookup_cons]
  cases e : n == k with
  | true => exact ⟨v,rfl⟩
  | false =>
   rcases List.mem_cons.mp m with q | q
   ·cases q
    simp at e
   ·exact om q
theorem dw {env : Env} (hf : env.scope.kind = .function) : ∀ {names : List (Str × NameKind)} {x : Str},names.lookup x = some .free → env.kindOf x = some .cell →
  (names.map fun (n,k) => if (k == NameKind.free && env.scope.kind == .function && env.kindOf n == some .cell) then (n,NameKind.cell) else (n,k)).lookup x = some .cell
 | [],_,h,_ => by simp at h
 | (n,k) :: r,x,h,hc => by
  have ih := @dw env hf r x
  show List.lookup x ((if (k == NameKind.free && env.scope.kind == .function && env.kindOf n == some .cell) = true then (n,NameKind.cell) else (n,k)) :: _) = _
  cases hx : x == n with
  | true =>
   have e : x = n := by simpa using hx
   subst e
   simp only [List.lookup_cons,hx] at h
   cases h
   rw [if_pos (by rw [hf,hc]; rfl)]
   simp [List.lookup_cons]
  | false =>
   simp only [List.lookup_cons,hx] at h
   by_cases hc' : (k == NameKind.free && env.scope.kind == .function && env.kindOf n == some .cell) = true
   ·rw [if_pos hc']; simp only [List.lookup_cons,hx]; exact ih h hc
   ·rw [if_neg hc']; simp only [List.lookup_cons,hx]; exact ih h hc
def mQ (sc scope : Scope) (N : List Str) : List Str → List (Option Nat) → Bool
 | [],[] => true
 | _ :: r,none :: f => mQ sc scope N r f
 | y :: r,some i :: f => (N[i]? == some y) && (scope.names.lookup y == some .free) && (sc.names.lookup y == some .cell) && mQ sc scope N r f
 | _,_ => false
structure dq (sc scope : Scope) (N N' : List Str) (fr : List (Option Nat)) : Prop where
 kind : scope.kind = .function
 uY : ∀ y ∈ scope.names,y.2 ≠ .cell
 names : ∀ y ∈ scope.names,y.2 = .local → scope.names.lookup y.1 = some .local
 free : ∀ y ∈ scope.names,y.2 = .free → sc.names.lookup y.1 = some .cell
 nd : N'.Nodup
 fr : mQ sc scope N N' fr = true
def uZ (fr : List (Option Nat)) (σ : St) : St := fr.map fun o => o.bind fun i => (σ[i]?).join
theorem oo {sc scope : Scope} {N : List Str} : ∀ {N' : List Str} {fr : List (Option Nat)},mQ sc scope N N' fr = true → fr.length = N'.length
 | [],[],_ => rfl
 | _ :: r,none :: f,h => by simp only [List.length_cons]; rw [oo (N' := r) (fr := f) h]
 | y :: r,some i :: f,h => by
  unfold mQ at h
  simp only [Bool.and_eq_true] at h
  simp only [List.length_cons]; rw [oo (N' := r) (fr := f) h.2]
 | [],_ :: _,h => by simp [mQ] at h
 | _ :: _,[],h => by simp [mQ] at h
theorem rh {sc scope : Scope} {N : List Str} : ∀ {N' : List Str} {fr : List (Option Nat)} {j i : Nat} {y : Str},mQ sc scope N N' fr = true → N'[j]? = some y → fr[j]? = some (some i) → N[i]? = some y ∧ scope.names.lookup y = some .free ∧ sc.names.lookup y = some .cell
 | [],[],_,_,_,_,h,_ => by simp at h
 | _ :: r,none :: f,0,i,y,_,_,h => by simp at h
 | _ :: r,none :: f,j + 1,i,y,h,h1,h2 => rh (N' := r) (fr := f) (j := j) h (by simpa using h1) (by simpa using h2)
 | z :: r,some k :: f,0,i,y,h,h1,h2 => by
  unfold mQ at h
  simp only [Bool.and_eq_true,beq_iff_eq] at h
  have e1 : z = y := by simpa using h1
  have e2 : k = i := by simpa using h2
  subst e1 e2
  exact ⟨h.1.1.1,h.1.1.2,h.1.2⟩
 | z :: r,some k :: f,j + 1,i,y,h,h1,h2 => by
  unfold mQ at h
  simp only [Bool.and_eq_true] at h
  exact rh (N' := r) (fr := f) (j := j) h.2 (by simpa using h1) (by simpa using h2)
 | [],_ :: _,_,_,_,h,_,_ => by simp [mQ] at h
 | _ :: _,[],_,_,_,h,_,_ => by simp [mQ] at h
def cL (X : Cx) (scope : Scope) (C : Addr) (N' : List Str) (s₀ : Shared) (H₀ : Hp) (fp : List Addr) : Cx where
 prog := X.prog
 w := X.w
 K := X.K
 mg := X.mg
 base := X.base
 A := X.A
 N := N'
 s₀ := s₀
 H₀ := H₀
 env := compEnvC scope (mM scope X.env) C X.env
 outer := X.stack
 stack := X.stack
 ex := fp
 calm := true
 fn := fun _ => false
 pn := []
 xe := fun _ _ => False
section
variable {X : Cx} {scope : Scope} {N' : List Str} {fr : List (Option Nat)} {pins : List (Addr × Obj)} {σ : St} {H : Hp} {s : Shared} {fp : List Addr}
theorem Inv.block {h1 : Heap} {t1 : Nat} {m : Str → Option Value} (S : dq X.env.scope scope X.N N' fr) (hc : X.calm = true) (I : Inv X pins σ H s) (hf : ∀ b ∈ fp,kY X pins H b) (hlt : ∀ b ∈ fp,b < s.heap.objs.size)
  (hns : h1.Ns s.heap.objs.size m) (old : ∀ b o,s.heap.get? b = some o → h1.get? b = some o) :
  Inv (cL X scope s.heap.objs.size N' s H fp) [] (uZ fr σ) H { s with heap := h1,toks := t1 } := by
 have hfree : ∀ y ∈ scope.names,y.2 = .free → ∃ c,X.env.cells.lookup y.1 = some c := fun y hy e => I.ok.has y.1 (.inl (S.free y hy e))
 have cl1 : ∀ y c,(mM scope X.env).lookup y = some c → X.env.cells.lookup y = some c := fun y c e => by
  rcases tj (cs := []) hfree (PySem.mem_of_lookup e) with q | q
  ·exact absurd q (by simp)
  ·exact q
 have has : ∀ y,((relabel scope X.env).names.lookup y = some .cell ∨ (relabel scope X.env).names.lookup y = some .free) → ∃ c,(mM scope X.env).lookup y = some c := fun y hy => by
  have q : (y,NameKind.free) ∈ scope.names := by
   have m : ∃ k,(k = NameKind.cell ∨ k = NameKind.free) ∧ (y,k) ∈ (relabel scope X.env).names := by
    rcases hy with hy | hy
    ·exact ⟨_,.inl rfl,PySem.mem_of_lookup hy⟩
    ·exact ⟨_,.inr rfl,PySem.mem_of_lookup hy⟩
   obtain ⟨k,hk,m⟩ := m
   obtain ⟨⟨n,k0⟩,hm,e⟩ := List.mem_map.mp m
   dsimp only at e
   by_cases hq : (k0 == NameKind.free && X.env.scope.kind == .function && X.env.kindOf n == some .cell) = true
   ·rw [if_pos hq] at e
    simp only [Bool.and_eq_true,beq_iff_eq] at hq
    injection e with e1 e2
    rw [← e1,← hq.1.1]
    exact hm
   ·rw [if_neg hq] at e
    injection e with e1 e2
    subst e1 e2
    rcases hk with hk | hk
    ·exact absurd hk (S.uY _ hm)
    ·rw [← hk]; exact hm
  obtain ⟨c,mc⟩ := tu (env := X.env) (cs := []) q
  exact om mc
 have ltC : ∀ y c,X.env.cells.lookup y = some c → c < s.heap.objs.size := fun y c e => by
  obtain ⟨v,q⟩ := I.cell y c e
  exact q.lt
 refine ⟨⟨I.ok.mod,S.kind,I.ok.glob,I.ok.blt,Nat.le_refl _,fun x y c e1 e2 => I.ok.inj x y c (cl1 x c e1) (cl1 y c e2),has,fun x c e _ => absurd e (by simp [cL]),fun _ => I.ok.hd hc,I.ok.frames,.inl rfl,
   fun b hb => ⟨Nat.ne_of_lt (hlt b hb),fun x c e => (hf b hb).2.2.2.2.1 x c (cl1 x c e)⟩,I.bs,Nat.le_trans I.ok.BM I.sz,fun b o e hb => ?_,fun b hb z => ?_,I.stack,I.i7⟩,
  rfl,I.bare,Un.kept old,⟨m,hns,fun i x v e1 e2 e3 => ?_⟩,fun x c e => ?_,I.fresh,fun x c e => I.fQ x c (cl1 x c e),fun p hp => absurd hp (by simp [cL]),I.hok.kept old,?_⟩
 ·rcases (hf b hb).2.2.2.1 with z | z
  ·exact I.ok.ym b o e z
  ·exact absurd (Nat.lt_of_lt_of_le (Heap.lt_size e) (Nat.le_trans I.ok.BM z)) (Nat.lt_irrefl _)
 ·rcases List.mem_cons.mp (I.kX b z) with q | q
  ·exact (hf b hb).2.1 q
  ·exact (hf b hb).2.2.1 q
 ·
  have e2 : (uZ fr σ)[i]? = some (some v) := e2
  unfold uZ at e2
  rw [List.getElem?_map] at e2
  cases q : fr[i]? with
  | none => rw [q] at e2; cases e2
  | some o =>
   rw [q] at e2
   cases o with
   | none => cases e2
   | some j =>
    have e2 : (σ[j]?).join = some v := Option.some.inj e2
    have e4 : σ[j]? = some (some v) := by
     cases r : σ[j]? with
     | none => rw [r] at e2; cases e2
     | some w => rw [r] at e2; exact congrArg some e2
    obtain ⟨f1,f2,f3⟩ := rh S.fr e1 q
    obtain ⟨m0,_,hl⟩ := I.loc
    obtain ⟨u,r,l⟩ := hl j x v f1 e4 (.inr (.inl f3))
    refine ⟨u,r,.inr ⟨.inl (dw I.ok.kind f2 f3),?_⟩⟩
    obtain ⟨c,hc⟩ := has x (.inl (dw I.ok.kind f2 f3))
    rcases l with ⟨k,_⟩ | ⟨_,c',hc',ho⟩
    ·have k : X.env.scope.names.lookup x = some .local := k
     rw [f3] at k; cases k
    ·have e : c = c' := Option.some.inj ((cl1 x c hc).symm.trans hc')
     subst e
     obtain ⟨o,ho,hd⟩ := ho
     exact ⟨c,hc,o,old c o ho,hd⟩
 ·obtain ⟨v,o,ho,hd⟩ := I.cell x c (cl1 x c e)
  exact ⟨v,o,old c o ho,hd⟩
 ·show (uZ fr σ).length = N'.length
  unfold uZ
  rw [List.length_map]
  exact oo S.fr
end
def Cu (X : Cx) (ifs : List Expr) (t : TT) : Prop :=
 ∀ (pins : List (Addr × Obj)) (s : Shared) (σ : St) (H : Hp) (Q : Bool → Hp → Prop),Inv X pins σ H s → t σ H Q →
  wpAny (model X.prog X.w) X.A (forIn ifs true fun c r => if r = true then do let ok ← isTrue c X.env (eval c X.env); pure (ForInStep.yield ok) else pure (ForInStep.yield r)) (TP X pins σ Q) X.xe s
def Pz : TT := fun _ H Q => Q true H
theorem eI {X : Cx} : Cu X [] Pz := fun _ _ _ H _ I q => wpAny_tests_nil ⟨H,I,q⟩
theorem Cv {X : Cx} {c : Expr} {t : TT} (h : PT X c t) : Cu X [c] t := fun pins s σ H Q I q => wpAny_tests_one (h pins s σ H Q I q)
theorem rj {prog : Program} {w : World} {A : Around} {R : Result → Shared → Prop} {s : Shared} {elt target iter : Expr} {ifs : List Expr} {scope : Scope} {pos : Pos} {it acc : Value} {env : Env} (I : Nat → Shared → Prop)
  (turn : ∀ n s,I n s → wpAny (model prog w) A (pyNext it) (fun r s₁ => match r with
   | none => R (.ok .next) s₁
   | some v => wpAny (model prog w) A (letOwnedTupleGo target it v) (fun _ s₀ => wpAny (model prog w) A (assign target env v) (fun _ s₂ =>
     wpAny (model prog w) A (forIn ifs true fun c r => if r = true then do let ok ← isTrue c env (eval c env); pure (ForInStep.yield ok) else pure (ForInStep.yield r)) (fun ok s₃ =>
      if ok = true then wpAny (model prog w) A (eval elt env) (fun x s₄ =>
       wpAny (model prog w) A (call (.builtin "list.append") [acc,x]) (fun _ s₅ => ∃ m,m < n ∧ I m s₅) (fun _ _ => False) s₄) (fun _ _ => False) s₃
      else ∃ m,m < n ∧ I m s₃) (fun _ _ => False) s₂) (fun _ _ => False) s₀) (fun _ _ => False) s₁) (fun _ _ => False) s)
  (n : Nat) (h : I n s) :
  codeAny (model prog w) A (.compLoop (.ListComp elt [⟨target,iter,ifs,0⟩] scope pos) 0 it acc env) R s := by
 refine codeAny_loop rfl I (fun n s hI => ?_) n h
 show wpAny _ A ((compTurn (.ListComp elt [⟨target,iter,ifs,0⟩] scope pos) 0 it acc env).onRaise (fun x => do noteFrame x env; theTreesLotGoes x)) _ _ s
 refine wpAny_noted ?_
 rw [compTurn_list]
 refine wpAny_bind (wpAny_standAt (wpAny_bind (wpAny_mono (turn n s hI) (fun r s₁ h₁ => ?_) fun _ _ h' => h'.elim)))
 cases r with
 | none => exact wpAny_pure h₁
 | some v =>
  refine wpAny_bind (wpAny_mono h₁ (fun _ s₀ h₀ => ?_) fun _ _ h' => h'.elim)
  refine wpAny_bind (wpAny_mono h₀ (fun _ s₂ h₂ => wpAny_bind (wpAny_mono h₂ (fun ok s₃ h₃ => ?_) fun _ _ h' => h'.elim)) fun _ _ h' => h'.elim)
  cases ok with
  | false => exact wpAny_pure ⟨rfl,h₃⟩
  | true =>
   exact wpAny_bind (wpAny_bind (wpAny_mono h₃ (fun x s₄ h₄ => wpAny_bind (wpAny_mono h₄ (fun _ s₅ h₅ => wpAny_pure (wpAny_pure ⟨rfl,h₅⟩)) fun _ _ h' => h'.elim)) fun _ _ h' => h'.elim))
def tD (fr : List (Option Nat)) (wi : TI) (g : TG) (tt : TT) (te : TE) : TE := fun σ H Q => wi σ H fun J H1 => ∀ D,H1 D = none →
 ∃ W : Nat → Nat → St → List V → Hp → Prop,(∃ m,W 0 m (uZ fr σ) [] (upd H1 D (.lst []))) ∧ ∀ i m σ ys H,W i m σ ys H →
  (J.stop i H ∧ Q (.ref D) H) ∨ (J.go i H ∧ ∃ N : St → List V → Hp → Prop,(∀ σ' ys' H',N σ' ys' H' → ∃ m',m' < m ∧ W (i + 1) m' σ' ys' H') ∧ ∀ x H',J.BO i H x H' → g x σ H' fun σ2 H2 => tt σ2 H2 fun b H3 =>
   if b = true then te σ2 H3 fun v H4 => H4 D = some (.lst ys) ∧ ys.length < sizeLine ∧ N σ2 (ys ++ [v]) (upd H4 D (.lst (ys ++ [v])))
   else N σ2 ys H3)
theorem tE {X : Cx} {elt tg iter : Expr} {ifs : List Expr} {scope : Scope} {pos cpos : Pos} {wi : TI} {g : TG} {tt : TT} {te : TE} {N' : List Str} {fr : List (Option Nat)} (S : dq X.env.scope scope X.N N' fr) (hc : X.calm = true) (hi : PI X tg iter wi)
  (hg : ∀ C s0 H0 fp,PG (cL X scope C N' s0 H0 fp) tg g) (ht : ∀ C s0 H0 fp,Cu (cL X scope C N' s0 H0 fp) ifs tt) (he : ∀ C s0 H0 fp,PE (cL X scope C N' s0 H0 fp) elt te)
  (hs : ∀ x,foldedSetIterable iter X.env x = pure x) {pins : List (Addr × Obj)} {s : Shared} {σ : St} {H : Hp} {Q : VK} (I : Inv X pins σ H s) (h : tD fr wi g tt te σ H Q) (use : Option (Value → Sem Unit)) (QQ : Value → Shared → Prop)
  (fin : ∀ (D C : Addr) (H5 : Hp) (s6 : Shared),Inv X pins σ H5 s6 → Q (.ref D) H5 → H5 C = none → C ≠ X.env.locals → X.s₀.heap.objs.size ≤ C → (∀ x c,X.env.cells.lookup x = some c → c ≠ C) → (∀ p ∈ X.pn ++ pins,p.1 ≠ C) → (∃ m,s6.heap.Ns C m) →
   compPost (model X.prog X.w) X.A X.xe use QQ (.ref D) C (.ok .next) s6) :
  wpAny (model X.prog X.w) X.A (comprehension (.ListComp elt [⟨tg,iter,ifs,0⟩] scope pos) scope X.env cpos (newList []) false (eval iter X.env) use) QQ X.xe s := by
 have hfree : ∀ y ∈ scope.names,y.2 = .free → ∃ c,X.env.cells.lookup y.1 = some c := fun y hy e => I.ok.has y.1 (.inl (S.free y hy e))
 refine wpAny_comprehension_free (use := use) rfl hs (wN hfree) S.kind S.names (cE (hi pins s σ H _ I h) fun v s1 h1 => cE h1 fun itv s2 h2 => ?_)
 obtain ⟨it,fp,tn,J,H2,e,I2,T,st2,f2,hD⟩ := h2
 subst e
 obtain ⟨W,⟨m0,w0⟩,turn⟩ := hD s2.heap.objs.size I2.fresh
 refine wpAny_newObj_type ?_
 have I3 : Inv X pins σ (upd H2 s2.heap.objs.size (.lst [])) { s2 with heap := s2.heap.push { cls := .type "list",data := .seq ([] : List Value).toArray },toks := s2.toks } := I2.Ck (ys := []) .nil (Nat.zero_le _)
 revert I3
 generalize eD : s2.heap.objs.size = D at *
 generalize e3 : ({ s2 with heap := s2.heap.push { cls := .type "list",data := .seq ([] : List Value).toArray },toks := s2.toks } : Shared) = s3
 intro I3
 have k3 : ∀ b o,s2.heap.get? b = some o → s3.heap.get? b = some o := fun b o e => by rw [← e3]; exact Heap.get?_push_of_some _ e
 refine wpAny_newFunctionEnv S.uY (by intro y hy; simp at hy) (fun h4 hns hsb => ?_) S.kind
 have old : ∀ b o,s3.heap.get? b = some o → h4.get? b = some o := fun b o e => hsb.extBut b o (Nat.ne_of_lt (Heap.lt_size e)) (Heap.get?_push_of_some _ e)
 have fD : ∀ b ∈ fp,b ≠ D := fun b hb z => by
  obtain ⟨o,ho,_⟩ := T.obj _ _ st2 b hb
  exact absurd (Heap.lt_size ho) (by rw [z,eD]; exact Nat.lt_irrefl _)
 have f3 : ∀ b ∈ fp,kY X pins (upd H2 D (.lst [])) b := fun b hb => ⟨by rw [aX (fD b hb)]; exact (f2 b hb).1,(f2 b hb).2⟩
 have l3 : ∀ b ∈ fp,b < s3.heap.objs.size := fun b hb => by
  obtain ⟨o,ho,_⟩ := T.obj _ _ st2 b hb
  exact Heap.lt_size (k3 b o ho)
 have I4 := Inv.block (t1 := s3.toks + ([] : List (Str × Value)).length) (scope := scope) S hc I3 f3 l3 hns old
 generalize eX : cL X scope s3.heap.objs.size N' s3 (upd H2 D (.lst [])) fp = X' at I4
 have FY : tn 0 h4 := T.keep _ _ _ st2 fun b hb o e => old b o (k3 b o e)
 have stat : ∀ {H' : Hp},(∀ b ∈ fp,H' b = none) → ∀ b ∈ fp,kY X' [] H' b := fun {H'} hn b hb => by
  subst eX
  refine ⟨hn b hb,Nat.ne_of_lt (l3 b hb),?_,.inl hb,?_,fun p hp => absurd hp (by simp [cL])⟩
  ·exact I4.ok.uJ b hb
  ·exact (I4.ok.Jv b hb).2
 show codeAny _ _ (.compStart _ 0 (.ref it) (.ref D) (compEnvC scope (mM scope X.env) s3.heap.objs.size X.env)) (compPost _ _ _ use _ (.ref D) s3.heap.objs.size) _
 have hX : X'.prog = X.prog ∧ X'.w = X.w ∧ X'.K = X.K ∧ X'.A = X.A ∧ X'.calm = true ∧ X'.env = compEnvC scope (mM scope X.env) s3.heap.objs.size X.env ∧ X'.xe = (fun _ _ => False) ∧ X'.s₀ = s3 ∧ X'.H₀ = upd H2 D (.lst []) ∧ X'.fs = frs X.stack ∧ X'.ex = fp := by
  subst eX
  exact ⟨rfl,rfl,rfl,rfl,rfl,rfl,rfl,rfl,rfl,rfl,rfl⟩
 have hg' : PG X' tg g := by subst eX; exact hg _ _ _ _
 have ht' : Cu X' ifs tt := by subst eX; exact ht _ _ _ _
 have he' : PE X' elt te := by subst eX; exact he _ _ _ _
 clear eX
 obtain ⟨x1,x2,x3,x4,x5,x6,x7,x8,x9,x10,x11⟩ := hX
 have loop : codeAny (model X.prog X.w) X.A (.compLoop (.ListComp elt [⟨tg,iter,ifs,0⟩] scope pos) 0 (.ref it) (.ref D) (compEnvC scope (mM scope X.env) s3.heap.objs.size X.env))
   (compPost (model X.prog X.w) X.A X.xe use QQ (.ref D) s3.heap.objs.size) { s3 with heap := h4,toks := s3.toks + ([] : List (Str × Value)).length } := by
  refine rj (fun n s' => ∃ i σ' ys H',Inv X' [] σ' H' s' ∧ tn i s'.heap ∧ (∀ b ∈ fp,H' b = none) ∧ W i n σ' ys H') ?_ m0 ⟨0,_,[],_,I4,FY,fun b hb => (f3 b hb).1,w0⟩
  rintro n s5 ⟨i,σ5,ys,H5,I5,B4,Fy,w5⟩
  rcases turn i n σ5 ys H5 w5 with ⟨stop,qn⟩ | ⟨go,N,hN,step⟩
  ·have z := T.done X' x1 x2 x3 x5 i [] s5 σ5 H5 (fun _ _ => False) I5 (stat Fy) B4 stop
   rw [x4] at z
   refine cE z fun r s6 ⟨hr,I6⟩ => ?_
   subst hr
   obtain ⟨mm,JZ,_⟩ := I6.loc
   have hL : X'.env.locals = s3.heap.objs.size := by rw [x6]; rfl
   rw [hL] at JZ
   have nC : H5 s3.heap.objs.size = none := by have := I6.free; rw [hL] at this; exact this
   have base := I6.base
   rw [x8,x9,x10,x11] at base
   have hok : iG X.prog X.w H5 s6.heap := by have q := I6.hok; rw [x1,x2] at q; exact q
   have os : s6.os = s3.os := by have := I6.os; rw [x8] at this; exact this
   have IX : Inv X pins σ H5 s6 := I3.call' os base hok I6.bare fun b hb => ⟨(f3 b hb).2.2.2.1,(f3 b hb).2.1,(f3 b hb).2.2.2.2.1,(f3 b hb).2.2.2.2.2⟩
   refine fin D s3.heap.objs.size H5 s6 IX qn nC (Nat.ne_of_gt I3.lt) I3.sz (fun x c e => ?_) (fun p hp => ?_) ⟨mm,JZ⟩
   ·obtain ⟨v,q⟩ := I3.cell x c e
    exact Nat.ne_of_lt q.lt
   ·exact Nat.ne_of_lt (Heap.lt_size (I3.pin p hp).1)
  ·have z := T.item X' x1 x2 x3 x5 i [] s5 σ5 H5 (fun _ _ => False) I5 (stat Fy) B4 go
   rw [x4] at z
   refine cE z fun r s6 ⟨u,hr,h6⟩ => ?_
   subst hr
   refine cE h6 fun _ s7 ⟨x,H7,I7,r7,y7,FZ,PB⟩ => ?_
   have PC := I7.pinned (stat PB) (T.obj _ _ FZ)
   have again : ∀ {σ' : St} {H' : Hp} {s' : Shared},Inv X' ([] ++ lg fp s7.heap) σ' H' s' → Inv X' [] σ' H' s' ∧ tn (i + 1) s'.heap ∧ ∀ b ∈ fp,H' b = none := fun {σ' H' s'} J => by
    refine ⟨J.iP,T.keep _ _ _ FZ fun b hb o e => (J.pin (b,o) (List.mem_append_right _ (List.mem_append_right _ (d5 hb e)))).1,fun b hb => ?_⟩
    obtain ⟨o,e,d⟩ := T.obj _ _ FZ b hb
    exact (J.pin (b,o) (List.mem_append_right _ (List.mem_append_right _ (d5 hb e)))).2.1
   have z := hg' _ s7 σ5 H7 x u _ PC r7 (step x H7 y7)
   rw [x1,x2,x4,x6,x7] at z
   refine cE z fun _ s8 ⟨σ8,H8,I8,q8⟩ => ?_
   have z := ht' _ s8 σ8 H8 _ I8 q8
   rw [x1,x2,x4,x6,x7] at z
   refine cE z fun b s9 ⟨H9,I9,q9⟩ => ?_
   cases b with
   | false =>
    rw [if_neg Bool.false_ne_true] at q9 ⊢
    obtain ⟨m',hm,w9⟩ := hN _ _ _ q9
    obtain ⟨a1,a2,a3⟩ := again I9
    exact ⟨m',hm,i + 1,σ8,ys,H9,a1,a2,a3,w9⟩
   | true =>
    rw [if_pos rfl] at q9 ⊢
    have z := he' _ s9 σ8 H9 _ I9 q9
    rw [x1,x2,x4,x6,x7] at z
    refine cE z fun v' BQ ⟨y,PD,zP,r10,Gh,hz,w10⟩ => ?_
    have z := cG (X := X') _ BQ σ8 PD (.ref D) [y] (.ref D) [v'] (fun _ H' => N σ8 (ys ++ [y]) H') zP rfl (.cons r10 .nil) ⟨D,ys,y,rfl,rfl,Gh,hz,w10⟩
    rw [x1,x2,x4,x7] at z
    refine cE z fun _ N3 ⟨_,PF,PH,_,w11⟩ => ?_
    obtain ⟨m',hm,w11⟩ := hN _ _ _ w11
    obtain ⟨a1,a2,a3⟩ := again PH
    exact ⟨m',hm,i + 1,σ8,_,PF,a1,a2,a3,w11⟩
 exact codeAny_compStart_list loop (T.self _ 0 _ _ _ FY loop)
theorem fY {X : Cx} {elt tg iter : Expr} {ifs : List Expr} {scope : Scope} {pos : Pos} {wi : TI} {g : TG} {tt : TT} {te : TE} {N' : List Str} {fr : List (Option Nat)} (S : dq X.env.scope scope X.N N' fr) (hc : X.calm = true) (hi : PI X tg iter wi)
  (hg : ∀ C s0 H0 fp,PG (cL X scope C N' s0 H0 fp) tg g) (ht : ∀ C s0 H0 fp,Cu (cL X scope C N' s0 H0 fp) ifs tt) (he : ∀ C s0 H0 fp,PE (cL X scope C N' s0 H0 fp) elt te)
  (hs : ∀ x,foldedSetIterable iter X.env x = pure x := by intro _; rfl) : PE X (.ListComp elt [⟨tg,iter,ifs,0⟩] scope pos) (tD fr wi g tt te) := by
 intro pins s σ H Q I h
 rw [eval_ListComp]
 refine tE S hc hi hg ht he hs I h none _ fun D C H5 s6 IX q nC c1 c2 c3 c4 hm => ?_
 obtain ⟨m,hm⟩ := hm
 refine ⟨m,hm,fun h' hs' => ⟨.ref D,H5,IX.turned (t' := s6.toks) (it := C) (fun b o hb e => hs'.extBut b o hb e) nC c1 (.inr c2) c3 c4,rfl,q⟩⟩
theorem Cw {X : Cx} {elt tg iter : Expr} {ifs : List Expr} {scope : Scope} {pos spos py : Pos} {y : Str} {i : Nat} {wi : TI} {g : TG} {tt : TT} {te : TE} {N' : List Str} {fr : List (Option Nat)} (hN : X.N.Nodup) (hy : X.N[i]? = some y) (hl : X.env.scope.names.lookup y = some .local)
  (S : dq X.env.scope scope X.N N' fr) (hc : X.calm = true) (hi : PI X tg iter wi)
  (hg : ∀ C s0 H0 fp,PG (cL X scope C N' s0 H0 fp) tg g) (ht : ∀ C s0 H0 fp,Cu (cL X scope C N' s0 H0 fp) ifs tt) (he : ∀ C s0 H0 fp,PE (cL X scope C N' s0 H0 fp) elt te)
  (hs : ∀ x,foldedSetIterable iter X.env x = pure x := by intro _; rfl) (hsw : swapsWith (.ListComp elt [⟨tg,iter,ifs,0⟩] scope pos) (some (.Name y py)) spos.line X.env = pure true := by rfl) :
  PS X (.Assign [.Name y py] (.ListComp elt [⟨tg,iter,ifs,0⟩] scope pos) spos) (zA (tD fr wi g tt te) (n4 i)) := by
 intro pins s σ H D I h
 rw [exec_Assign_Name_used _ _ _ _ hsw]
 refine wpAny_bind (wpAny_standAt (wpAny_bind ?_))
 show wpAny _ X.A (do let _ ← comprehension (.ListComp elt [⟨tg,iter,ifs,0⟩] scope pos) scope X.env _ (newList []) false (eval iter X.env) (some (assign (.Name y py) X.env))) _ _ s
 refine wpAny_bind (cE (tE S hc hi hg ht he hs I h (some (assign (.Name y py) X.env)) (fun _ s' => SP X pins D .next s') fun L C H5 s6 IX q nC c1 c2 c3 c4 hm => ?_) fun _ s' hq => wpAny_pure (wpAny_pure hq))
 obtain ⟨m,hm⟩ := hm
 show wpAny _ X.A (assign (.Name y py) X.env (.ref L)) _ _ _
 refine wpAny_assign_Name (pQ IX hN hy (.inl hl) (show RelV (.ref L) (Value.ref L) from rfl) (fun s7 I7 hch => ?_) (.inr hl))
 obtain ⟨a,hsb,ha⟩ := hch
 have hCa : C ≠ a := by
  rcases ha with ha | ha
  ·rw [ha]; exact c1
  ·exact (c3 _ _ ha).symm
 refine ⟨m,hm.at' (fun o e => (hsb.2 C hCa).trans e),fun h' hs' => ⟨_,H5,I7.turned (t' := s7.toks) (it := C) (fun b o hb e => hs'.extBut b o hb e) nC c1 (.inr c2) c3 c4,q⟩⟩
theorem oq {lo : Int} {n : Nat} {g : TG} {tt : TT} {te : TE} {R : Hp → Prop} {D : Addr} {σ0 : St} {H0 : Hp} (Pv : Nat → St → List V → Hp → Prop) (h0 : Pv 0 σ0 [] H0)
  (hs : ∀ i σ ys H,i < n → Pv i σ ys H → g (.int (lo + i)) σ H fun σ2 H2 => tt σ2 H2 fun b H3 =>
   if b = true then te σ2 H3 fun v H4 => H4 D = some (.lst ys) ∧ ys.length < sizeLine ∧ Pv (i + 1) σ2 (ys ++ [v]) (upd H4 D (.lst (ys ++ [v]))) else Pv (i + 1) σ2 ys H3)
  (hd : ∀ σ ys H,Pv n σ ys H → R H) :
  ∃ W : Nat → Nat → St → List V → Hp → Prop,(∃ m,W 0 m σ0 [] H0) ∧ ∀ i m σ ys H,W i m σ ys H →
   ((B3 lo n).stop i H ∧ R H) ∨ ((B3 lo n).go i H ∧ ∃ N : St → List V → Hp → Prop,(∀ σ' ys' H',N σ' ys' H' → ∃ m',m' < m ∧ W (i + 1) m' σ' ys' H') ∧ ∀ x H',(B3 lo n).BO i H x H' → g x σ H' fun σ2 H2 => tt σ2 H2 fun b H3 =>
    if b = true then te σ2 H3 fun v H4 => H4 D = some (.lst ys) ∧ ys.length < sizeLine ∧ N σ2 (ys ++ [v]) (upd H4 D (.lst (ys ++ [v]))) else N σ2 ys H3) := by
 refine ⟨fun i m σ ys H => m = n - i ∧ i ≤ n ∧ Pv i σ ys H,⟨n,by simp,Nat.zero_le _,h0⟩,?_⟩
 rintro i m σ ys H ⟨rfl,hi,p⟩
 by_cases hlt : i < n
 ·refine .inr ⟨hlt,Pv (i + 1),fun σ' ys' H' p' => ⟨n - (i + 1),by omega,rfl,hlt,p'⟩,fun x H' y => ?_⟩
  obtain ⟨e,y⟩ := y
  subst e y
  exact hs i σ ys _ hlt p
 ·have e : i = n := by omega
  subst e
  exact .inl ⟨Nat.le_refl _,hd σ ys H p⟩
theorem lA {K : PySem.W.Frag} {a : Addr} {xs : List V} {g : TG} {tt : TT} {te : TE} {R : Hp → Prop} {D : Addr} {σ0 : St} {H0 : Hp} (Pv : Nat → St → List V → Hp → Prop) (h0 : Pv 0 σ0 [] H0) (hl : ∀ i σ ys H,i ≤ xs.length → Pv i σ ys H → bq K H a xs)
  (hs : ∀ i x σ ys H,xs[i]? = some x → Pv i σ ys H → g x σ H fun σ2 H2 => tt σ2 H2 fun b H3 =>
   if b = true then te σ2 H3 fun v H4 => H4 D = some (.lst ys) ∧ ys.length < sizeLine ∧ Pv (i + 1) σ2 (ys ++ [v]) (upd H4 D (.lst (ys ++ [v]))) else Pv (i + 1) σ2 ys H3)
  (hd : ∀ σ ys H,Pv xs.length σ ys H → R H) :
  ∃ W : Nat → Nat → St → List V → Hp → Prop,(∃ m,W 0 m σ0 [] H0) ∧ ∀ i m σ ys H,W i m σ ys H →
   ((Ek K a).stop i H ∧ R H) ∨ ((Ek K a).go i H ∧ ∃ N : St → List V → Hp → Prop,(∀ σ' ys' H',N σ' ys' H' → ∃ m',m' < m ∧ W (i + 1) m' σ' ys' H') ∧ ∀ x H',(Ek K a).BO i H x H' → g x σ H' fun σ2 H2 => tt σ2 H2 fun b H3 =>
    if b = true then te σ2 H3 fun v H4 => H4 D = some (.lst ys) ∧ ys.length < sizeLine ∧ N σ2 (ys ++ [v]) (upd H4 D (.lst (ys ++ [v]))) else N σ2 ys H3) := by
 refine ⟨fun i m σ ys H => m = xs.length - i ∧ i ≤ xs.length ∧ Pv i σ ys H,⟨xs.length,by simp,Nat.zero_le _,h0⟩,?_⟩
 rintro i m σ ys H ⟨rfl,hi,p⟩
 have q := hl i σ ys H hi p
 by_cases hlt : i < xs.length
 ·refine .inr ⟨⟨xs,xs[i],q,by simp [hlt]⟩,Pv (i + 1),fun σ' ys' H' p' => ⟨xs.length - (i + 1),by omega,rfl,hlt,p'⟩,fun x H' y => ?_⟩
  obtain ⟨e,y⟩ := y
  subst e
  exact hs i x σ ys _ (y xs q) p
 ·have e : i = xs.length := by omega
  subst e
  exact .inl ⟨⟨xs,q,Nat.le_refl _⟩,hd σ ys H p⟩
end L2
namespace SF
open PySem
end SF
namespace SF
open PySem PySem.Calls PyProof.Rows
section
variable {prog : Program} {w : World} {A : Around} {E : Value → Shared → Prop} {s : Shared}
end
section
variable {prog : Program} {w : World} {A : Around} {E : Value → Shared → Prop} {s : Shared}
end
section
variable {prog : Program} {w : World} {A : Around} {E : Value → Shared → Prop} {s : Shared}
set_option maxHeartbeats 8000000 in
end
end SF
namespace L2
open PySem PySem.Spec PyProof.Rows
section
variable {X : Cx}
theorem dR : gM X (.builtin "isinstance") (fun xs H Q => ∃ (x : V) (n : String) (t : Value) (b : Bool),xs = [x,.ty n] ∧ iI X.K H x t ∧ PySem.W.kitOne X.K t (.type n) = some b ∧ Q (.bl b) H) := by
 intro pins s σ H xs us Q I r h
 obtain ⟨x,n,t,b,rfl,ht,hk,q⟩ := h
 obtain ⟨u,v,rfl,ru,rv⟩ := vals2 r
 cases rv
 exact yr I ru ht hk fun tk => ⟨.bl b,H,I.tok tk,rfl,q⟩
end
section
variable {X : Cx}
end
end L2
namespace L2
open PySem PySem.W PySem.Spec PySem.Calls PyProof.Rows
section
variable {X : Cx} {pos pos' : Pos} {o i value : Expr} {td ty tv : TE}
end
end L2
namespace L2
open PySem PySem.Spec PyProof.Rows
section
variable {X : Cx} {pins : List (Addr × Obj)} {σ : St} {H : Hp} {s : Shared} {h' : Heap}
theorem Inv.yB {t' : Nat} {its : List Addr} {a : Addr} {o : HO} (I : Inv X pins σ H s) (k : ∀ b u,b ∉ its → s.heap.get? b = some u → h'.get? b = some u) (hf : ∀ b ∈ its,kY X pins H b)
  (hp : s.heap.objs.size ≤ a) (new : cD X.prog X.w (upd H a o) h' a o) : Inv X pins σ (upd H a o) { s with heap := h',toks := t' } := by
 have hn : H a = none := I.hok.fresh hp
 have Jy : ∀ b u,H b = some u → b ∉ its := fun b u e z => by rw [(hf b z).1] at e; cases e
 have nea : ∀ b u,s.heap.get? b = some u → b ≠ a := fun b u e => Nat.ne_of_lt (Nat.lt_of_lt_of_le (Heap.lt_size e) hp)
 refine I.step (g' := s.gens) (d' := s.drawn) (ch := its) (fun b hb => ?_) (fun b o _ _ hc e _ => k b o hc e) (fun b o _ _ hc e _ => ⟨o.slots,k b o hc e⟩) (fun b u _ e n => ?_)
  (fun b o hc e => ⟨o,k b o hc e⟩) (fun b xs e => ?_) (fun b u v e => ?_) (fun b ps e => ⟨#[],?_⟩) (fun m hm => ?_) (fun b u e => ?_) I.bare
 ·obtain ⟨_,f1,f2,f3,f4,f5⟩ := hf b hb
  exact ⟨f3,f1,f4,f5⟩
 ·rw [aX (nea b u e)]; exact n
 ·rw [aX (cg e hn)]; exact e
 ·rw [aX (cg e hn)]; exact e
 ·rw [aX (cg e hn),e]; simp
 ·obtain ⟨o,es,ep,ho,r⟩ := hm
  exact ⟨o,es,ep,k _ o (fun z => (hf _ z).2.1 rfl) ho,r⟩
 ·by_cases hb : b = a
  ·subst hb
   rw [ah] at e
   cases e
   exact new
  ·rw [aX hb] at e
   refine (I.hok b u e).stay (fun c v hc q => k c v ?_ q) (fun c q => by rw [aX (cg q hn)]; exact q) fun c xs q => by rw [aX (cg q hn)]; exact q
   rcases hc with z | z
   ·rw [z]; exact Jy b u e
   ·exact Jy c _ z
end
def Ite (K : PySem.W.Frag) (a : Addr) : It :=
 ⟨fun i H => ∃ xs x,bq K H a xs ∧ xs[i]? = some x,
   fun i H x H' => ∃ t y,H t = none ∧ x = .ref t ∧ H' = upd H t (.tup [.int i,y]) ∧ ∀ xs,bq K H a xs → xs[i]? = some y,
   fun i H => ∃ xs,bq K H a xs ∧ xs.length ≤ i⟩
theorem yC {P : Program} {w : World} {K : PySem.W.Frag} {elts : List Expr} {x1} {pos : Pos} (a e it : Addr) (hne : e ≠ it) :
  Turn P w K (.Tuple elts x1 pos) (Ite K a) [e,it] e (fun i h => (∃ old,IsEnum h e it i old) ∧ h.IsListIter it a i) where
 mem := by simp
 obj := fun i h st b hb => by
  obtain ⟨⟨old,he⟩,o,eo,c,d⟩ := st
  rcases List.mem_cons.mp hb with rfl | hb
  ·exact ⟨_,he,fun v z => by
    have z' : Data.fields _ = Data.cell v := z
    cases z'⟩
  ·rw [List.mem_singleton.mp hb]
   exact ⟨o,eo,fun v z => by rw [d] at z; cases z⟩
 keep := fun i h h' st k => ⟨st.1.elim fun old he => ⟨old,k e (by simp) _ he⟩,st.2.at fun o eo => k it (by simp) o eo⟩
 item := by
  intro X hP hw hK hc i pins s σ H E I hf st hg
  subst hP hw hK
  obtain ⟨xs,x,hq,hx⟩ := hg
  obtain ⟨⟨old,he⟩,hit⟩ := st
  obtain ⟨its,rv,p,hz⟩ := I.list hq
  obtain ⟨u,hu,ru⟩ := rv.get hx
  refine wpAny_pyNext_enum_item he hit p.isList (x := u) (by simpa using hu) hne fun h1 N4 hit1 ht1 hz1 k1 => ?_
  refine ⟨_,rfl,wpAny_letOwnedTupleGo_enum N4 fun h2 he2 hs2 => ?_⟩
  have tF : s.heap.objs.size ≠ e := Nat.ne_of_gt (Heap.lt_size he)
  have BR := (hs2.2 s.heap.objs.size tF).trans ht1
  have hk : ∀ b o,b ∉ [e,it] → s.heap.get? b = some o → h2.get? b = some o := fun b o hb e' => by
   have hb' : b ≠ e ∧ b ≠ it := by simpa using hb
   exact (hs2.2 b hb'.1).trans (k1 b o hb'.1 hb'.2 e')
  have hfr : H s.heap.objs.size = none := I.hok.fresh (Nat.le_refl _)
  refine ⟨.ref s.heap.objs.size,upd H s.heap.objs.size (.tup [.int i,x]),I.yB (t' := s.toks + 1) hk hf (Nat.le_refl _) ?_,rfl,⟨_,x,hfr,rfl,rfl,fun ys hy => by rw [I.nZ hy hq]; exact hx⟩,⟨⟨u,?_⟩,?_⟩,fun b hb => ?_⟩
  ·exact ⟨by show 2 ≤ sizeLine; decide,[.int i s.toks,u],.cons ⟨_,rfl⟩ (.cons ru .nil),⟨_,BR,rfl,_,rfl⟩⟩
  ·exact he2
  ·obtain ⟨o,e1,e2⟩ := hit1
   exact ⟨o,(hs2.2 it (Ne.symm hne)).trans e1,e2⟩
  ·have : b ≠ s.heap.objs.size := by
    rcases List.mem_cons.mp hb with rfl | hb
    ·exact Ne.symm tF
    ·rw [List.mem_singleton.mp hb]
     obtain ⟨o,e1,_⟩ := hit
     exact Nat.ne_of_lt (Heap.lt_size e1)
   rw [aX this]
   exact (hf b hb).1
 done := by
  intro X hP hw hK hc i pins s σ H E I hf st hg
  subst hP hw hK
  obtain ⟨xs,hq,hx⟩ := hg
  obtain ⟨⟨old,he⟩,hit⟩ := st
  obtain ⟨its,rv,p,hz⟩ := I.list hq
  obtain ⟨f0,f1,f2,f3,f4,f5⟩ := hf it (by simp)
  have hl := rv.length
  exact wpAny_pyNext_enum_end (I.ok.hd hc) he hit p.isList (by simp; omega) fun h' eb => ⟨rfl,I.turned (t' := s.toks) (fun b o hb e => eb b o hb e) f0 f1 f3 f4 f5⟩
 self := fun _ _ _ _ _ st h => st.1.elim fun _ he => wpAny_pyIter_enum he h
section
variable {X : Cx}
def J0 (K : PySem.W.Frag) (ta : TA) : TI := fun σ H R => ta σ H fun vs H1 => ∃ a,vs = [.ref a] ∧ (∃ xs,bq K H1 a xs) ∧ R (Ite K a) H1
theorem Cy : bootBuiltins "enumerate" = some (.type "enumerate") := by decide +kernel
theorem nE {a : Expr} {ta : TA} {p pos : Pos} {elts : List Expr} {x1} {tpos : Pos} (hg : Gl X "enumerate") (hm : X.mg "enumerate" = none) (ha : PA X [a] ta) (hs : starEach [a] X.env = [(false,eval a X.env)] := by rfl) :
  PI X (.Tuple elts x1 tpos) (.Call (.Name "enumerate" p) [a] [] pos) (J0 X.K ta) := by
 intro pins s σ H R I h
 refine Call_ (nX I hg hm Cy (PyProof.Rows.callWith_type1 (cE (ha pos pins s σ H _ I h) fun us s1 ⟨vs,H1,I1,r1,q1⟩ => ?_) hs rfl))
 obtain ⟨a,e,⟨xs,hq⟩,q⟩ := q1
 subst e
 obtain ⟨u,rfl,ru⟩ := vals1 r1
 cases ru
 obtain ⟨its,rv,p,hz⟩ := I1.list hq
 refine call_enumerate_list p.isList fun h' he hit hsz hk => ?_
 refine wpAny_pyIter_enum he ?_
 refine ⟨s1.heap.objs.size + 1,[s1.heap.objs.size + 1,s1.heap.objs.size],_,_,H1,rfl,I1.kept (t' := s1.toks) hk,yC a _ _ (Nat.succ_ne_self _),⟨⟨_,he⟩,hit⟩,fun b hb => ?_,q⟩
 have hb' : s1.heap.objs.size ≤ b := by
  rcases List.mem_cons.mp hb with rfl | hb
  ·exact Nat.le_succ _
  ·rw [List.mem_singleton.mp hb]; exact Nat.le_refl _
 exact I1.B2 hb' (I1.hok.fresh hb')
theorem tG {K : PySem.W.Frag} {a : Addr} {xs : List V} {g : TG} {tb : TS} {D : Ends} {σ : St} {H : Hp} (Pv : Nat → St → Hp → Prop) (h0 : Pv 0 σ H) (hl : ∀ i σ H,i ≤ xs.length → Pv i σ H → bq K H a xs)
  (hs : ∀ i x σ H t,xs[i]? = some x → H t = none → Pv i σ H → g (.ref t) σ (upd H t (.tup [.int i,x])) fun σ2 H2 => tb { D with nx := Pv (i + 1),ct := Pv (i + 1),bk := D.nx } σ2 H2) (hd : ∀ σ H,Pv xs.length σ H → D.nx σ H) :
  ∃ W : Nat → Nat → St → Hp → Prop,(∃ m,W 0 m σ H) ∧ ∀ i m σ H,W i m σ H →
   ((Ite K a).stop i H ∧ D.nx σ H) ∨ ((Ite K a).go i H ∧ ∃ N : St → Hp → Prop,(∀ σ' H',N σ' H' → ∃ m',m' < m ∧ W (i + 1) m' σ' H') ∧ ∀ x H',(Ite K a).BO i H x H' → g x σ H' fun σ2 H2 => tb { D with nx := N,ct := N,bk := D.nx } σ2 H2) := by
 refine ⟨fun i m σ H => m = xs.length - i ∧ i ≤ xs.length ∧ Pv i σ H,⟨xs.length,by simp,Nat.zero_le _,h0⟩,?_⟩
 rintro i m σ H ⟨rfl,hi,p⟩
 have q := hl i σ H hi p
 by_cases hlt : i < xs.length
 ·refine .inr ⟨⟨xs,xs[i],q,by simp [hlt]⟩,Pv (i + 1),fun σ' H' p' => ⟨xs.length - (i + 1),by omega,rfl,hlt,p'⟩,fun x H' y => ?_⟩
  obtain ⟨t,y,hn,e1,e2,hy⟩ := y
  subst e1 e2
  exact hs i y σ _ t (hy xs q) hn p
 ·have e : i = xs.length := by omega
  subst e
  exact .inl ⟨⟨xs,q,Nat.le_refl _⟩,hd σ H p⟩
end
end L2
namespace L2
open PySem PySem.W PySem.Spec PySem.Calls PyProof.Rows
section
variable {X : Cx} {pins : List (Addr × Obj)} {σ : St} {H : Hp} {s : Shared} {a : Addr} {kvs : List (Key × V)}
end
section
variable {X : Cx}
end
section
variable {X : Cx} {pins : List (Addr × Obj)} {σ : St} {H : Hp} {s : Shared} {A : Around}
end
theorem rn : typeLookup (.type "list") "keys" = pure none := by rw [typeLookup_type,builtinLookup_eq_fast]; kernel_rfl
theorem u7 {prog : Program} {w : World} {A : Around} {E : Value → Shared → Prop} {s : Shared} {a : Addr} {xs : Array Value} {k : Nat} {Q : Option Value → Shared → Prop}
  (hx : s.heap.get? a = some { cls := .type "list",data := .seq xs k }) (hA : A.handled = none)
  (hq : ∀ h' tk,(∀ b o,s.heap.get? b = some o → h'.get? b = some o) → Q none { s with heap := h',toks := tk }) : wpAny (model prog w) A (getAttr? (.ref a) "keys") Q E s := by
 obtain ⟨hp,g,d,tk,os⟩ := s
 have hT : ∀ tk',(⟨hp,g,d,tk',os⟩ : Shared).TypeIs (.ref a) "list" := fun _ => ⟨_,hx,rfl⟩
 have g1 := sub_AttributeError
 have g3 := PySem.F.slot_list_getattribute.lookup
 have g4 := PySem.F.slot_list_getattribute.bind (.ref a)
 have g5 := am_list_getattr_none
 unfold getAttr? getAttrBy? getAttrBy
 repeat (any_goals (first | assumption | exact hT _ | ((with_reducible show wpAny _ _ (call (Value.builtin "list.__getattribute__") _ _) _ _ _); refine call_meets PySem.F.slot_list_getattribute (hT _) am_entry_list_getattribute (PySem.F.args_list_getattribute_2 _ _) (meets_getattribute_miss_list a xs k #[] "keys" _ rn (by decide +kernel) (by size_fits)) ⟨hx,hA,fun h' tk' e hy => ?_⟩) | wp_step))
 obtain ⟨t',u',he⟩ := hy.there
 have hkp := hy.of.keeps
 (show wpAny (model prog w) _ (getattributeRaised _ _ _ _ _ _ _) _ _ _; unfold getattributeRaised; repeat (any_goals (first | assumption | wp_step)))
 exact hq _ _ hkp
theorem jb : plainId "dict.update.loop" = true := by decide +kernel
theorem qd : entryFor table "dict.update.loop" = some Builtin.«dict.update.loop» := entryFor_of_fast (by kernel_rfl)
section
variable {prog : Program} {w : World} {K : Type} [DecidableEq K] {knd : KeyKind prog w K} {A : Around} {R : Result → Shared → Prop}
theorem va (hh : A.handled = none) {d it l : Addr} {items : Array Value} {ks : List (K × Value)} (hdi : d ≠ it) (hld : l ≠ d) (hli : l ≠ it) (hkl : ks.length = items.size) (hsz : items.size ≤ 5000) :
  ∀ (n i : Nat) (s : Shared) (acc : List (K × Value)) (t : Tok),items.size - i = n → i ≤ items.size → s.heap.IsListIter it l i → s.heap.IsList l items → s.heap.DictOf knd d acc → acc.length ≤ i →
   (∀ (j : Nat) k v,ks[j]? = some (k,v) → ∃ tup key,items[j]? = some (.ref tup) ∧ IsTup s.heap tup #[key,v] ∧ knd.is k key = true ∧ tup ≠ d ∧ tup ≠ it) →
   (∀ h' tk,h'.DictOf knd d (merged acc (ks.drop i)) → (∀ b o,b ≠ d → b ≠ it → s.heap.get? b = some o → h'.get? b = some o) → R (.ok (.ret .none)) { s with heap := h',toks := tk }) →
   codeAny (model prog w) A (.builtin "dict.update.loop" ⟨[.ref d,.ref it,.int i t,.none],[]⟩) R s := by
 intro n
 induction n with
 | zero =>
  intro i s acc t hn hi hit hl hd hal hks hR
  have e : i = items.size := by omega
  subst e
  refine codeAny_builtin qd ?_
  rw [Around.under_plainId jb _]
  show wpAny _ A.in1 (pyNext (.ref it) >>= _) _ _ s
  refine wpAny_bind (wpAny_pyNext_list_end (A := A.in1) hh hit hl (by simp) fun h' he => ?_)
  show wpAny _ A.in1 (Builtin.Dict.addKeywords d [] >>= _) _ _ _
  refine wpAny_bind (wpAny_pure (wpAny_pure ?_))
  have e2 : ks.drop items.size = [] := List.drop_eq_nil_of_le (by omega)
  rw [e2] at hR
  refine hR h' s.toks ?_ fun b o _ hb e => he b o hb e
  obtain ⟨o,es,ep,ho,r⟩ := hd
  exact ⟨o,es,ep,he d o hdi ho,r⟩
 | succ n ih =>
  intro i s acc t hn hi hit hl hd hal hks hR
  have hlt : i < items.size := by omega
  have hki : ks[i]? = some ks[i] := List.getElem?_eq_getElem (by omega)
  obtain ⟨tup,key,hti,htup,hkey,ntd,nti⟩ := hks i ks[i].1 ks[i].2 hki
  refine codeAny_builtin qd ?_
  rw [Around.under_plainId jb _]
  show wpAny _ A.in1 (pyNext (.ref it) >>= _) _ _ s
  refine wpAny_bind (wpAny_pyNext_list_item (A := A.in1) hit hl hti fun h1 hit1 hs1 => ?_)
  have k1 : ∀ b o,b ≠ it → s.heap.get? b = some o → h1.get? b = some o := fun b o hb e => (hs1.2 b hb).trans e
  obtain ⟨ot,hot,hct,nt,hdt⟩ := htup
  have J1 := k1 _ _ nti hot
  have hd1 : h1.DictOf knd d acc := by
   obtain ⟨o,es,ep,ho,r⟩ := hd
   exact ⟨o,es,ep,k1 d o hdi ho,r⟩
  refine wpAny_bind (wpAny_holding (wpAny_bind (wpAny_tryCatch ?_)))
  show wpAny _ A.in1 (Builtin.Dict.pairItems (.ref tup)) _ _ { s with heap := h1 }
  unfold Builtin.Dict.pairItems
  refine wpAny_bind (wpAny_typeOf (T := "tuple") ⟨_,J1,hct⟩ ?_)
  rw [if_pos (by decide)]
  refine wpAny_bind (wpAny_seqItems J1 hdt ?_)
  refine wpAny_pure ?_
  show wpAny _ A.in1 (holding [key,ks[i].2] (dictSet d key ks[i].2)) _ _ { s with heap := h1 }
  refine wpAny_holding (wpAny_dictSet_pairs (hsz := Nat.le_trans hal (Nat.le_trans hi (Nat.le_trans hsz (by rw [sizeLine_eq]; decide)))) hkey hd1 fun h2 hd2 hs2 => ?_)
  have k2 : ∀ b o,b ≠ d → b ≠ it → s.heap.get? b = some o → h2.get? b = some o := fun b o hb hb2 e => (hs2.2 b hb).trans (k1 b o hb2 e)
  refine wpAny_pure ⟨plainId_quiet jb _,?_⟩
  refine ih (i + 1) { s with heap := h2,toks := s.toks + 1 } (stored acc ks[i].1 ks[i].2) 0 (by omega) hlt ?_ ?_ hd2 ?_ ?_ ?_
  ·obtain ⟨o,ho,r⟩ := hit1
   exact ⟨o,(hs2.2 it (Ne.symm hdi)).trans ho,r⟩
  ·obtain ⟨o,ho,r⟩ := hl
   exact ⟨o,k2 l o hld hli ho,r⟩
  ·unfold stored
   split
   ·rw [List.length_map]; omega
   ·rw [List.length_append]
    show acc.length + 1 ≤ i + 1
    omega
  ·intro j k v hj
   obtain ⟨J2,key',a1,⟨o,a2,a3⟩,a4,a5,a6⟩ := hks j k v hj
   exact ⟨J2,key',a1,⟨o,k2 J2 o a5 a6 a2,a3⟩,a4,a5,a6⟩
  ·intro h' tk hd' kp
   have e3 : ks.drop i = ks[i] :: ks.drop (i + 1) := List.drop_eq_getElem_cons (by omega)
   refine hR h' tk ?_ fun b o hb hb2 e => kp b o hb hb2 (k2 b o hb hb2 e)
   rw [e3]
   exact hd'
end
theorem mV {X : Cx} (hc : X.calm = true) : gM X (.type "dict") (fun xs H Q => ∃ (p : Addr) (ts : List Addr) (kvs : List (Key × V)),xs = [.ref p] ∧ H p = some (.lst (ts.map V.ref)) ∧ ts.length = kvs.length ∧ (∀ (i : Nat) t k v,ts[i]? = some t → kvs[i]? = some (k,v) → H t = some (.tup [kV k,v])) ∧
  kvs.length ≤ 5000 ∧ (kvs.map (·.1)).Nodup ∧ ∀ l,H l = none → Q (.ref l) (upd H l (.dK kvs))) := by
 intro pins s σ H xs us0 Q I r h
 obtain ⟨p,ts,kvs,rfl,hp,hl,ht,hz,hnd,q⟩ := h
 obtain ⟨u,rfl,ru⟩ := vals1 r
 cases ru
 obtain ⟨_,its,nn,rv,hpo⟩ := (show cD X.prog X.w H s.heap p (.lst (ts.map V.ref)) from I.hok p _ hp)
 have hil : its.length = ts.length := by rw [← rv.length,List.length_map]
 have hti : ∀ (i : Nat) t,ts[i]? = some t → its[i]? = some (Value.ref t) := fun i t hi => by
  obtain ⟨w',hw,yv⟩ := rv.get (i := i) (x := V.ref t) (by rw [List.getElem?_map,hi]; rfl)
  cases yv
  exact hw
 have pick : ∀ (i : Nat) k v,kvs[i]? = some (k,v) → ∃ t key u,ts[i]? = some t ∧ IsTup s.heap t #[key,u] ∧ RelV (kV k) key ∧ RelV v u := fun i k v hi => by
  have hlt : i < ts.length := by rw [hl]; exact (List.getElem?_eq_some_iff.mp hi).1
  have h1 : ts[i]? = some ts[i] := List.getElem?_eq_getElem hlt
  obtain ⟨_,tis,tv,tt⟩ := (show cD X.prog X.w H s.heap ts[i] (.tup [kV k,v]) from I.hok _ _ (ht i _ k v h1 hi))
  cases tv with
  | cons a b =>
   cases b with
   | cons c d =>
    cases d
    exact ⟨ts[i],_,_,h1,tt,a,c⟩
 have hvs : ∃ vs : List (Key × Value),KV kvs vs ∧ ∀ (i : Nat) k u,vs[i]? = some (k,u) → ∃ t key,ts[i]? = some t ∧ IsTup s.heap t #[key,u] ∧ RelV (kV k) key := by
  have gen : ∀ (ks : List (Key × V)) (o : Nat),(∀ (i : Nat) k v,ks[i]? = some (k,v) → kvs[o + i]? = some (k,v)) → ∃ vs : List (Key × Value),KV ks vs ∧ ∀ (i : Nat) k u,vs[i]? = some (k,u) → ∃ t key,ts[o + i]? = some t ∧ IsTup s.heap t #[key,u] ∧ RelV (kV k) key := by
   intro ks
   induction ks with
   | nil => intro o _; exact ⟨[],.nil,fun i k u h => by simp at h⟩
   | cons c ks ih =>
    intro o ho
    obtain ⟨t,key,u,a1,a2,a3,a4⟩ := pick o c.1 c.2 (ho 0 c.1 c.2 rfl)
    obtain ⟨vs,b1,b2⟩ := ih (o + 1) fun i k v hi => by
     have := ho (i + 1) k v (by simpa using hi)
     rwa [show o + (i + 1) = o + 1 + i by omega] at this
    refine ⟨(c.1,u) :: vs,.cons ⟨rfl,a4⟩ b1,fun i k u' hi => ?_⟩
    cases i with
    | zero =>
     have e := Option.some.inj hi
     cases e
     exact ⟨t,key,a1,a2,a3⟩
    | succ i =>
     obtain ⟨t',key',c1,c2,c3⟩ := b2 i k u' (by simpa using hi)
     exact ⟨t',key',by rw [show o + (i + 1) = o + 1 + i by omega]; exact c1,c2,c3⟩
  obtain ⟨vs,a,b⟩ := gen kvs 0 fun i k v hi => by rw [Nat.zero_add]; exact hi
  exact ⟨vs,a,fun i k u hi => by have := b i k u hi; rwa [Nat.zero_add] at this⟩
 obtain ⟨vs,hkv,hvt⟩ := hvs
 have hvl := hkv.length
 have hvk : vs.map (·.1) = kvs.map (·.1) := by
  have : ∀ {a : List (Key × V)} {b : List (Key × Value)},KV a b → b.map (·.1) = a.map (·.1) := by
   intro a b h
   induction h with
   | nil => rfl
   | cons h t ih => rw [List.map_cons,List.map_cons,ih,h.1]
  exact this hkv
 have hh := I.ok.hd hc
 refine callType_codes (Q₁ := fun obj s1 => obj = .ref s.heap.objs.size ∧ s1 = { s with heap := s.heap.push { cls := .type "dict",data := .dict #[] } }) PySem.F.kt_called_dict (PySem.F.kt_typeCall_dict_1 _) PySem.F.entry_dict_init (kt_code_dict_new _ ⟨rfl,rfl⟩) (fun obj s1 hs => ?_)
 obtain ⟨rfl,rfl⟩ := hs
 have nw : (s.heap.push { cls := .type "dict",data := .dict #[] }).DictOf (cz X.prog X.w) s.heap.objs.size [] := Heap.DictOf.new s.heap
 have old : ∀ b o,s.heap.get? b = some o → (s.heap.push { cls := .type "dict",data := .dict #[] }).get? b = some o := fun b o e => Heap.get?_push_of_some _ e
 refine ⟨nw.typeIs,PySem.F.args_dict_init_2 _ _,?_⟩
 (unfold Builtin.«dict.__init__»; refine wpAny_bind ?_; unfold Builtin.Dict.selfAndRest; refine wpAny_bind (wpAny_notOrdered_dict nw.typeIs ?_))
 (show wpAny _ _ (pure (s.heap.objs.size,[Value.ref p])) _ _ _; refine wpAny_pure ?_; show wpAny _ _ (Builtin.Dict.updateFrom "dict.__init__" s.heap.objs.size (.ref p) [] .none) _ _ _; unfold Builtin.Dict.updateFrom)
 refine wpAny_bind (wpAny_typeOf (T := "list") ⟨_,old _ _ hpo,rfl⟩ ?_)
 rw [if_pos (by decide)]
 refine wpAny_bind (u7 (old _ _ hpo) hh fun h1 tk1 k1 => ?_)
 rw [if_pos (show (none : Option Value).isNone = true from rfl)]
 refine wpAny_bind (wpAny_rule ?_)
 have PJ : h1.IsList p its.toArray := ⟨_,k1 _ _ (old _ _ hpo),rfl,nn,rfl⟩
 refine wpAny_bind (wpAny_pyIter_list (l := p) (items := its.toArray) PJ ?_)
 have lt : ∀ b o,s.heap.get? b = some o → b < s.heap.objs.size := fun b o e => Heap.lt_size e
 have dN : h1.get? s.heap.objs.size = some { cls := .type "dict",data := .dict #[] } := k1 _ _ (Heap.get?_push_size _ rfl)
 have N5 : @LT.lt Nat _ s.heap.objs.size h1.objs.size := Heap.lt_size dN
 have up : ∀ b o,h1.get? b = some o → (h1.push { cls := .type "list_iterator",data := .fields #[.ref p,.int 0 0] }).get? b = some o := fun b o e => Heap.get?_push_of_some _ e
 have ltp := lt _ _ hpo
 have itr : (h1.push { cls := .type "list_iterator",data := .fields #[.ref p,.int 0 0] }).IsListIter h1.objs.size p 0 := ⟨_,Heap.get?_push_size _ rfl,rfl,rfl⟩
 have PK : (h1.push { cls := .type "list_iterator",data := .fields #[.ref p,.int 0 0] }).IsList p its.toArray := ⟨_,up _ _ (k1 _ _ (old _ _ hpo)),rfl,nn,rfl⟩
 have PN : (h1.push { cls := .type "list_iterator",data := .fields #[.ref p,.int 0 0] }).DictOf (cz X.prog X.w) s.heap.objs.size [] := by
  obtain ⟨o,es,ep,ho,rr⟩ := nw
  exact ⟨o,es,ep,up _ _ (k1 _ _ ho),rr⟩
 refine wpAny_pure ⟨plainId_quiet jb _,?_⟩
 refine va (A := X.A.in1) (knd := cz X.prog X.w) hh (d := s.heap.objs.size) (it := h1.objs.size) (l := p) (items := its.toArray) (ks := vs) (Nat.ne_of_lt N5) (Nat.ne_of_lt ltp) (Nat.ne_of_lt (Nat.lt_trans ltp N5)) (by rw [List.size_toArray,hil,hl,hvl]) (by rw [List.size_toArray,hil,hl]; exact hz) its.toArray.size 0 _ [] _ (by omega) (Nat.zero_le _) ?_ ?_ ?_ (Nat.le_refl _) ?_ ?_
 ·exact itr
 ·exact PK
 ·exact PN
 ·intro j k v hj
  obtain ⟨t,key,a1,⟨o,a2,a3⟩,a4⟩ := hvt j k v hj
  have ltt := lt _ _ a2
  exact ⟨t,key,by rw [List.getElem?_toArray]; exact hti j t a1,⟨o,up _ _ (k1 _ _ (old _ _ a2)),a3⟩,qa a4,Nat.ne_of_lt ltt,Nat.ne_of_lt (Nat.lt_trans ltt N5)⟩
 ·intro h' tk hd' kp
  rw [List.drop_zero,merged_nil_of_nodup vs (by rw [hvk]; exact hnd)] at hd'
  refine ⟨rfl,.ref s.heap.objs.size,_,I.laid (a := s.heap.objs.size) (o := .dK kvs) (t' := tk) (fun b o e => ?_) (Nat.le_refl _) ?_,rfl,q _ (I.hok.fresh (Nat.le_refl _))⟩
  ·have ltb := lt b o e
   exact kp b o (Nat.ne_of_lt ltb) (Nat.ne_of_lt (Nat.lt_trans ltb N5)) (up _ _ (k1 _ _ (old _ _ e)))
  ·exact uV (Nat.le_trans hz (by rw [sizeLine_eq]; decide)) (beq_eq_false_iff_ne.mpr (Ne.symm (Nat.ne_of_lt I.big))) hkv hd'
end L2
namespace L2
open PySem PySem.Spec PyProof.Rows
section
variable {X : Cx} {k : Nat} {e a : Expr} {es : List Expr} {pos : Pos} {te : TE} {t : TA}
end
def Cz (K : PySem.W.Frag) (P : Params) (a : Addr) (x : Str) (r : Option V) : Prop :=
 ∃ (es : Array DictEntry) (n : Nat),K.lookup a = some ⟨.type "dict",none,.dict es n,#[]⟩ ∧ PySem.W.KeysLit P es.toList ∧ (a == sysModules) = false ∧ ∃ q,PySem.W.nsIn K a x = some q ∧ jU r q
def J3 (K : PySem.W.Frag) (P : Params) (td ty : TE) : TE := fun σ H Q => td σ H fun x H1 => ty σ H1 fun y H2 => ∃ a k v,x = .ref a ∧ y = .str k ∧ Cz K P a k (some v) ∧ Q v H2
section
variable {X : Cx} {o i : Expr} {pos : Pos} {td ty : TE}
theorem jc (ho : PE X o td) (hi : PE X i ty) (hs : JX i) : PE X (.Subscript o i pos) (J3 X.K X.w.params td ty) := by
 intro pins s σ H Q I h
 refine Cp PySem.F.slot_dict_getitem.lookup hs (cE (ho pins s σ H _ I h) fun u s1 ⟨x,H1,I1,rx,q1⟩ => cE (hi pins s1 σ H1 _ I1 q1) fun iv s2 ⟨y,H2,I2,ry,a,k,v,ex,ey,g,q2⟩ => ?_)
 subst ex ey
 obtain rfl : u = Value.ref a := rx
 obtain ⟨t,rfl⟩ := ry
 obtain ⟨es,n,hl,hk,hm,q,hq,rq⟩ := g
 obtain ⟨w',hw,yv⟩ := jU.some_of (v := v) (o := q) rq
 subst hw
 have mo := PySem.W.mapOf_K (prog := X.prog) (w := X.w) I2.jF hl hk
 exact ⟨mo.typeIs,wpAny_getItem_of (strKind_is X.prog X.w k t) mo (PySem.W.find_K hl hq) ⟨v,H2,I2.tok _,yv,q2⟩⟩
end
section
variable {X : Cx} {o e f : Expr} {apos cpos : Pos} {td ty tx : TE}
end
theorem d6 : fillsNumberSlot (.type "tuple") "mul" = pure false :=
 PySem.fillsNumberSlot_seq (id := "tuple.__mul__") (r := some (.builtin "tuple.__rmul__")) PySem.F.slot_tuple_mul.lookup (by decide +kernel) PySem.F.slot_tuple_rmul.lookup (by decide +kernel)
theorem hZ : seqRepeat? (.type "tuple") = pure (some (.builtin "tuple.__mul__")) := by
 unfold seqRepeat?
 rw [PySem.seqSlot_of (T := "tuple") (name := "__mul__") (id := "tuple.__mul__") PySem.F.slot_tuple_mul.lookup (by decide +kernel),PySem.seqSlot_of (T := "tuple") (name := "__rmul__") (id := "tuple.__rmul__") PySem.F.slot_tuple_rmul.lookup (by decide +kernel)]
 rfl
theorem ft (a : Int) (t : Tok) (l : Addr) (items : Array Value) (n : Nat) (dd : Option Addr) (sl : Array (Option Value)) :
  Meets (Builtin.«int.__rmul__» ⟨[.int a t,.ref l],[]⟩) (fun _ R s => s.heap.get? l = some { cls := .type "tuple",dict := dd,data := .seq items n,slots := sl } ∧ R (.ok (.ret Value.notImplemented)) s) :=
 .of_wp fun prog w A R s h => by obtain ⟨hp,g,d,tk,os⟩ := s; obtain ⟨hl,h⟩ := h; wp_walk; exact ⟨_,rfl,h⟩
theorem vb (l : Addr) (items : Array Value) (n : Nat) (dd : Option Addr) (sl : Array (Option Value)) (t : Tok) :
  Meets (Builtin.«tuple.__mul__» ⟨[.ref l,.int 1 t],[]⟩) (fun _ R s => s.heap.get? l = some { cls := .type "tuple",dict := dd,data := .seq items n,slots := sl } ∧ R (.ok (.ret (.ref l))) s) :=
 .of_wp fun prog w A R s h => by obtain ⟨hp,g,d,tk,os⟩ := s; obtain ⟨hl,h⟩ := h; have f1 := AutoSeq1.idx_int; wp_walk; exact ⟨_,rfl,h⟩
theorem vd (l : Addr) (items : Array Value) (n : Nat) (dd : Option Addr) (sl : Array (Option Value)) (x : Int) (t : Tok) (h0 : items.isEmpty = false) (h1 : 1 < x) (h2 : x < 2 ^ 62) (h3 : items.size * x.toNat ≤ sizeLine) :
  Meets (Builtin.«tuple.__mul__» ⟨[.ref l,.int x t],[]⟩) (fun _ R s => s.heap.get? l = some { cls := .type "tuple",dict := dd,data := .seq items n,slots := sl } ∧ R (.ok (.ret (.ref s.heap.objs.size))) { s with heap := s.heap.push { cls := .type "tuple",data := .seq ((List.replicate x.toNat items).foldl (· ++ ·) #[]) } }) :=
 .of_wp fun prog w A R s h => by
  obtain ⟨hp,g,d,tk,os⟩ := s; obtain ⟨hl,h⟩ := h; have f1 := AutoSeq1.idx_int
  have c1 : (decide (x < -2 ^ 63) || decide (x ≥ 2 ^ 63)) = false := by
   rw [decide_eq_false (by omega),decide_eq_false (by omega)]
   rfl
  have c2 : (items.isEmpty || x == 1) = false := by
   rw [h0,show (x == 1) = false from beq_eq_false_iff_ne.mpr (by omega)]
   rfl
  have c3 : (decide (x ≤ 0) || items.isEmpty) = false := by
   rw [h0,decide_eq_false (by omega)]
   rfl
  have hm : (items.size : Int) * x = ((items.size * x.toNat : Nat) : Int) := by
   rw [Int.natCast_mul,Int.toNat_of_nonneg (by omega)]
  have hb : (sizeLine : Nat) ≤ 1000000000000000000 := by decide
  have c4 : decide ((items.size : Int) * x > (2 ^ 63 - 1) / 8) = false := decide_eq_false (by rw [hm]; omega)
  have c5 : Builtin.Tuple.tupleTooMany ((items.size : Int) * x) = false := by
   unfold Builtin.Tuple.tupleTooMany
   exact decide_eq_false (by rw [hm]; omega)
  wp_walk
  refine wpAny_ite_false (decide_eq_false (by rw [c1]; decide)) ?_
  wp_walk
  refine wpAny_ite_false (decide_eq_false (by rw [c2]; decide)) ?_
  wp_walk
  refine wpAny_ite_false (decide_eq_false (by rw [c3]; decide)) ?_
  wp_walk
  refine wpAny_ite_false c4 ?_
  wp_walk
  refine wpAny_ite_false (decide_eq_false (by rw [c5]; decide)) ?_
  wp_walk
  have hsz : (List.foldl (fun x1 x2 => x1 ++ x2) #[] (List.replicate x.toNat items)).size ≤ sizeLine := by
   have e := foldl_rep items.toList x.toNat []
   rw [List.nil_append] at e
   have e2 : items.toList.toArray = items := by simp
   rw [e2] at e
   rw [show (#[] : Array Value) = ([] : List Value).toArray from rfl,e,List.size_toArray,len_rep]
   rw [Array.length_toList,Nat.mul_comm]
   exact h3
  refine wpAny_ite_false (decide_eq_false (Nat.not_lt.mpr hsz)) ?_
  wp_walk
  exact ⟨_,rfl,h⟩
def J4 (K : PySem.W.Frag) : R2 := fun x y H Q => ∃ a k xs,x = .ref a ∧ y = .int k ∧ aZ K H a xs ∧ xs ≠ [] ∧ 1 ≤ k ∧ k < 2 ^ 62 ∧ xs.length * k.toNat ≤ sizeLine ∧ (k = 1 → Q (.ref a) H) ∧ (k ≠ 1 → ∀ p,H p = none → Q (.ref p) (upd H p (.tup (List.replicate k.toNat xs).flatten)))
theorem CB {X : Cx} : iQ X (binaryOp .Mult) (J4 X.K) := by
 intro pins s σ H x y v u Q I rx ry h
 obtain ⟨a,k,xs,rfl,rfl,ha,hne,k1,k2,hz,q1,q2⟩ := h
 cases rx
 obtain ⟨t,rfl⟩ := ry
 obtain ⟨its,r,p,_⟩ := I.tuple ha
 obtain ⟨⟨cls,dd,data,sl⟩,ho,hc,n,hd⟩ := id p
 simp only at hc hd
 subst hc hd
 have hlen := r.length
 by_cases e : k = 1
 ·subst e
  refine wpAny_binaryOp_repeat_ref (T := "tuple") (U := "int") (by decide) ⟨_,ho,rfl⟩ (fun s' => typeIs_int s' 1 t) d6 PySem.F.fills_int_mul PySem.F.slot_int_rmul hZ PySem.F.slot_int_index.lookup
   (call_meets PySem.F.slot_int_rmul (typeIs_int s 1 t) PySem.F.entry_int_rmul (PySem.F.args_int_rmul_2 _ _) (ft 1 t a its.toArray n dd sl)
    ⟨ho,rfl,⟨_,ho,rfl⟩,call_meets PySem.F.slot_tuple_mul ⟨_,ho,rfl⟩ PySem.F.entry_tuple_mul (PySem.F.args_tuple_mul_2 _ _) (vb a its.toArray n dd sl t) ⟨ho,?_⟩⟩)
  exact ⟨.ref a,H,I,rfl,q1 rfl⟩
 ·have tF : its ≠ [] := fun z => hne (by cases xs with | nil => rfl | cons _ _ => rw [z] at hlen; simp at hlen)
  refine wpAny_binaryOp_repeat_ref (T := "tuple") (U := "int") (by decide) ⟨_,ho,rfl⟩ (fun s' => typeIs_int s' k t) d6 PySem.F.fills_int_mul PySem.F.slot_int_rmul hZ PySem.F.slot_int_index.lookup
   (call_meets PySem.F.slot_int_rmul (typeIs_int s k t) PySem.F.entry_int_rmul (PySem.F.args_int_rmul_2 _ _) (ft k t a its.toArray n dd sl)
    ⟨ho,rfl,⟨_,ho,rfl⟩,call_meets PySem.F.slot_tuple_mul ⟨_,ho,rfl⟩ PySem.F.entry_tuple_mul (PySem.F.args_tuple_mul_2 _ _) (vd a its.toArray n dd sl k t (by cases its with | nil => exact absurd rfl tF | cons _ _ => simp) (by omega) k2 (by rw [List.size_toArray,← hlen]; exact hz)) ⟨ho,?_⟩⟩)
  have hnew : List.foldl (fun x1 x2 => x1 ++ x2) #[] (List.replicate k.toNat its.toArray) = (List.replicate k.toNat its).flatten.toArray := by
   have := foldl_rep its k.toNat []
   rw [List.nil_append] at this
   exact this
  rw [hnew]
  refine ⟨.ref s.heap.objs.size,_,I.laid (t' := s.toks) (o := .tup (List.replicate k.toNat xs).flatten) (fun b ob q => Heap.get?_push_of_some _ q) (Nat.le_refl _) ?_,rfl,q2 e _ (I.hok.fresh (Nat.le_refl _))⟩
  exact ⟨by rw [len_rep,Nat.mul_comm]; exact hz,_,r.rep k.toNat,IsTup.new _ _⟩
theorem qe {K : PySem.W.Frag} {a : Addr} {xs : List V} {g : TG} {tt : TT} {te : TE} {R : Hp → Prop} {D : Addr} {σ0 : St} {H0 : Hp} (Pv : Nat → St → List V → Hp → Prop) (h0 : Pv 0 σ0 [] H0) (hl : ∀ i σ ys H,i ≤ xs.length → Pv i σ ys H → bq K H a xs)
  (hs : ∀ i x σ ys H t,xs[i]? = some x → H t = none → Pv i σ ys H → g (.ref t) σ (upd H t (.tup [.int i,x])) fun σ2 H2 => tt σ2 H2 fun b H3 =>
   if b = true then te σ2 H3 fun v H4 => H4 D = some (.lst ys) ∧ ys.length < sizeLine ∧ Pv (i + 1) σ2 (ys ++ [v]) (upd H4 D (.lst (ys ++ [v]))) else Pv (i + 1) σ2 ys H3)
  (hd : ∀ σ ys H,Pv xs.length σ ys H → R H) :
  ∃ W : Nat → Nat → St → List V → Hp → Prop,(∃ m,W 0 m σ0 [] H0) ∧ ∀ i m σ ys H,W i m σ ys H →
   ((Ite K a).stop i H ∧ R H) ∨ ((Ite K a).go i H ∧ ∃ N : St → List V → Hp → Prop,(∀ σ' ys' H',N σ' ys' H' → ∃ m',m' < m ∧ W (i + 1) m' σ' ys' H') ∧ ∀ x H',(Ite K a).BO i H x H' → g x σ H' fun σ2 H2 => tt σ2 H2 fun b H3 =>
    if b = true then te σ2 H3 fun v H4 => H4 D = some (.lst ys) ∧ ys.length < sizeLine ∧ N σ2 (ys ++ [v]) (upd H4 D (.lst (ys ++ [v]))) else N σ2 ys H3) := by
 refine ⟨fun i m σ ys H => m = xs.length - i ∧ i ≤ xs.length ∧ Pv i σ ys H,⟨xs.length,by simp,Nat.zero_le _,h0⟩,?_⟩
 rintro i m σ ys H ⟨rfl,hi,p⟩
 have q := hl i σ ys H hi p
 by_cases hlt : i < xs.length
 ·refine .inr ⟨⟨xs,xs[i],q,by simp [hlt]⟩,Pv (i + 1),fun σ' ys' H' p' => ⟨xs.length - (i + 1),by omega,rfl,hlt,p'⟩,fun x H' y => ?_⟩
  obtain ⟨t,y,hn,e1,e2,hy⟩ := y
  subst e1 e2
  exact hs i y σ ys _ t (hy xs q) hn p
 ·have e : i = xs.length := by omega
  subst e
  exact .inl ⟨⟨xs,q,Nat.le_refl _⟩,hd σ ys H p⟩
theorem vf (l : Addr) (items : Array Value) (n : Nat) (dd : Option Addr) (sl : Array (Option Value)) (t : Tok) (h0 : items.isEmpty = false) :
  Meets (Builtin.«tuple.__mul__» ⟨[.ref l,.int 0 t],[]⟩) (fun _ R s => s.heap.get? l = some { cls := .type "tuple",dict := dd,data := .seq items n,slots := sl } ∧ R (.ok (.ret (.ref s.heap.objs.size))) { s with heap := s.heap.push { cls := .type "tuple",data := .seq #[] } }) :=
 .of_wp fun prog w A R s h => by
  obtain ⟨hp,g,d,tk,os⟩ := s
  obtain ⟨hl,h⟩ := h
  have f1 := AutoSeq1.idx_int
  have c2 : (items.isEmpty || (0 : Int) == 1) = false := by rw [h0]; rfl
  wp_walk
  exact ⟨_,rfl,h⟩
def Gi (K : PySem.W.Frag) : R2 := fun x y H Q => ∃ a k xs,x = .ref a ∧ y = .int k ∧ aZ K H a xs ∧ xs ≠ [] ∧ (k = 0 ∨ k = 1) ∧ (k = 1 → Q (.ref a) H) ∧ (k = 0 → ∀ p,H p = none → Q (.ref p) (upd H p (.tup [])))
theorem zQ {X : Cx} : iQ X (binaryOp .Mult) (Gi X.K) := by
 intro pins s σ H x y v u Q I rx ry h
 obtain ⟨a,k,xs,rfl,rfl,ha,hne,hk,q1,q0⟩ := h
 rcases hk with rfl | rfl
 ·cases rx
  obtain ⟨t,rfl⟩ := ry
  obtain ⟨its,r,p,_⟩ := I.tuple ha
  obtain ⟨⟨cls,dd,data,sl⟩,ho,hc,n,hd⟩ := id p
  simp only at hc hd
  subst hc hd
  have hlen := r.length
  have tF : its ≠ [] := fun z => hne (by cases xs with | nil => rfl | cons _ _ => rw [z] at hlen; simp at hlen)
  refine wpAny_binaryOp_repeat_ref (T := "tuple") (U := "int") (by decide) ⟨_,ho,rfl⟩ (fun s' => typeIs_int s' 0 t) d6 PySem.F.fills_int_mul PySem.F.slot_int_rmul hZ PySem.F.slot_int_index.lookup
   (call_meets PySem.F.slot_int_rmul (typeIs_int s 0 t) PySem.F.entry_int_rmul (PySem.F.args_int_rmul_2 _ _) (ft 0 t a its.toArray n dd sl)
    ⟨ho,rfl,⟨_,ho,rfl⟩,call_meets PySem.F.slot_tuple_mul ⟨_,ho,rfl⟩ PySem.F.entry_tuple_mul (PySem.F.args_tuple_mul_2 _ _) (vf a its.toArray n dd sl t (by cases its with | nil => exact absurd rfl tF | cons _ _ => simp)) ⟨ho,?_⟩⟩)
  refine ⟨.ref s.heap.objs.size,_,I.laid (t' := s.toks) (o := .tup []) (fun b ob q => Heap.get?_push_of_some _ q) (Nat.le_refl _) ?_,rfl,q0 rfl _ (I.hok.fresh (Nat.le_refl _))⟩
  exact ⟨Nat.zero_le _,[],.nil,IsTup.new _ _⟩
 ·refine CB pins s σ H _ _ v u Q I rx ry ⟨a,1,xs,rfl,rfl,ha,hne,by decide,by decide,?_,q1,fun z => absurd rfl z⟩
  obtain ⟨its,r,p,hz⟩ := I.tuple ha
  have : xs.length * Int.toNat 1 = xs.length := Nat.mul_one _
  rw [this]
  exact hz
def Pl (z : V) : Prop := (∃ p,z = .ref p) ∨ (∃ i,z = .int i) ∨ (∃ i,z = .str i) ∨ z = .non ∨ ∃ b,z = .bl b
theorem Pl.at {A : Around} {s : Shared} {a : V} {u v : Value} (h : Pl a) (ra : RelV a u) (rb : RelV a v) : SeqAt.EqAt A s u v true := by
 rcases h with ⟨p,rfl⟩ | ⟨i,rfl⟩ | ⟨i,rfl⟩ | rfl | ⟨b,rfl⟩
 ·cases ra
  cases rb
  exact SeqAt.EqAt.same _
 ·obtain ⟨t,rfl⟩ := ra
  obtain ⟨t',rfl⟩ := rb
  have := SeqAt.EqAt.int_int (A := A) (s := s) i t i t'
  rwa [beq_self_eq_true] at this
 ·obtain ⟨t,rfl⟩ := ra
  obtain ⟨t',rfl⟩ := rb
  have := SeqAt.EqAt.str_str (A := A) (s := s) i t i t'
  rwa [beq_self_eq_true] at this
 ·obtain rfl : u = Value.none := ra
  obtain rfl : v = Value.none := rb
  exact SeqAt.EqAt.same _
 ·obtain rfl : u = Value.bool b := ra
  obtain rfl : v = Value.bool b := rb
  exact SeqAt.EqAt.same _
def J5 (t u : TS) : TS := fun D σ H => ∃ J : St → Hp → Prop,t { D with nx := J } σ H ∧ ∀ σ' H',J σ' H' → u D σ' H'
theorem wO {X : Cx} {st : Stmt} {rest : List Stmt} {t u : TS} (h1 : PS X st t) (h2 : pR X rest u) : pR X (st :: rest) (J5 t u) := by
 intro pins s σ H D I h
 obtain ⟨J,h,hJ⟩ := h
 refine wpAny_execs_cons (cE (h1 pins s σ H { D with nx := J } I h) fun f s1 q => ?_)
 cases f with
 | next =>
  obtain ⟨σ',H',I',q⟩ := q
  exact h2 pins s1 σ' H' D I' (hJ _ _ q)
 | ret v => exact q
 | brk => exact q
 | cont => exact q
def PR (t : TE) : TE := fun σ H Q => ∃ J : VK,t σ H J ∧ ∀ v H',J v H' → Q v H'
theorem zR {X : Cx} {e : Expr} {t : TE} (h : PE X e t) : PE X e (PR t) := by
 intro pins s σ H Q I q
 obtain ⟨J,q,hJ⟩ := q
 exact cE (h pins s σ H J I q) fun v s1 ⟨x,H1,I1,r,q1⟩ => ⟨x,H1,I1,r,hJ _ _ q1⟩
def J6 (K : PySem.W.Frag) : R2 := fun x y H Q => ∃ a b xs ys,x = .ref a ∧ y = .ref b ∧ H a = some (.tup xs) ∧ aZ K H b ys ∧ xs ≠ [] ∧ xs.length + ys.length ≤ sizeLine ∧ ∀ p H',Same H H' → H' p = some (.tup (xs ++ ys)) → Q (.ref p) H'
theorem jd {X : Cx} : iQ X (binaryOp .Add) (J6 X.K) := by
 intro pins s σ H x y v u Q I rx ry h
 obtain ⟨a,b,xs,ys,e1,e2,ha,hb,hx,hz,q⟩ := h
 refine gZ pins s σ H x y v u Q I rx ry ⟨a,b,xs,ys,e1,e2,aZ.of ha,hb,hx,hz,fun e => q _ _ (fun b o h => h) (by rw [ha,e,List.append_nil]),fun _ p n => q _ _ (fun b o h => ?_) ah⟩
 rw [aX (cg h n)]
 exact h
section
variable {X : Cx}
end
section
variable {σ : St}
end
structure Ja (X : Cx) (st : Stmt) (t : TS) : Prop where
 ps : PS X st t
structure rA (X : Cx) (b : List Stmt) (t : TS) : Prop where
 ps : pR X b t
section
variable {X : Cx}
theorem aw {st : Stmt} {t : TS} (h : PS X st t) : Ja X st t := ⟨h⟩
theorem bj {c : Expr} {a b : List Stmt} {tc : TT} {t u : TS} {pos : Pos} (hc : PT X c tc) (ha : rA X a t) (hb : rA X b u) : Ja X (.If c a b pos) (JF tc t u) := ⟨cK hc ha.ps hb.ps⟩
theorem aR {t : TS} (h : pR X [] t) : rA X [] t := ⟨h⟩
theorem ao {st : Stmt} {b : List Stmt} {t u : TS} (h : Ja X st t) (k : rA X b u) : rA X (st :: b) (JD t u) := ⟨aC h.ps k.ps⟩
theorem gN {st : Stmt} {b : List Stmt} {t u : TS} (h : Ja X st t) (k : rA X b u) : rA X (st :: b) (J5 t u) := ⟨wO h.ps k.ps⟩
theorem ay {st : Stmt} {t : TS} (h : Ja X st t) : rA X [st] t := ⟨aG h.ps⟩
theorem dS {b : List Stmt} {t : TS} {R : TS → Prop} (h : rA X b t) (hr : R t) : ∃ t,pR X b t ∧ R t := ⟨t,h.ps,hr⟩
end
section
variable {X : Cx}
end
section
variable {X : Cx}
end
section
variable {X : Cx}
end
inductive Da where
 | non | bl (b : Bool) | int (i : Int) | str (s : Str) | tup (l : List Da) | lst (l : List Da)
mutual
def Da.beq : Da → Da → Bool
 | .non,.non => true
 | .bl a,.bl b => a == b
 | .int a,.int b => decide (a = b)
 | .str a,.str b => decide (a = b)
 | .tup a,.tup b => Da.vg a b
 | .lst a,.lst b => Da.vg a b
 | _,_ => false
def Da.vg : List Da → List Da → Bool
 | [],[] => true
 | a :: r,b :: t => Da.beq a b && Da.vg r t
 | _,_ => false
end
mutual
theorem Da.beq_iff : ∀ a b : Da,Da.beq a b = true ↔ a = b
 | .non,b => by cases b <;> simp [Da.beq]
 | .bl x,b => by cases b <;> simp [Da.beq]
 | .int x,b => by cases b <;> simp [Da.beq]
 | .str x,b => by cases b <;> simp [Da.beq]
 | .tup x,b => by
  cases b <;> simp [Da.beq]
  exact Da.ou _ _
 | .lst x,b => by
  cases b <;> simp [Da.beq]
  exact Da.ou _ _
theorem Da.ou : ∀ a b : List Da,Da.vg a b = true ↔ a = b
 | [],b => by cases b <;> simp [Da.vg]
 | x :: r,[] => by simp [Da.vg]
 | x :: r,y :: t => by
  simp [Da.vg]
  rw [Da.beq_iff x y,Da.ou r t]
end
instance : DecidableEq Da := fun a b => decidable_of_iff _ (Da.beq_iff a b)
inductive eK (K : PySem.W.Frag) (H : Hp) : V → Da → Prop
 | non : eK K H .non .non
 | bl (b : Bool) : eK K H (.bl b) (.bl b)
 | int (i : Int) : eK K H (.int i) (.int i)
 | str (x : Str) : eK K H (.str x) (.str x)
 | tup {p : Addr} {xs : List V} {ds : List Da} : aZ K H p xs → xs.length = ds.length → (∀ (i : Nat) x d,xs[i]? = some x → ds[i]? = some d → eK K H x d) → eK K H (.ref p) (.tup ds)
 | lst {p : Addr} {xs : List V} {ds : List Da} : bq K H p xs → xs.length = ds.length → (∀ (i : Nat) x d,xs[i]? = some x → ds[i]? = some d → eK K H x d) → eK K H (.ref p) (.lst ds)
inductive Da.Nb : Nat → Da → Prop
 | non {n} : Da.Nb n .non
 | int {n i} : Da.Nb n (.int i)
 | str {n i} : Da.Nb n (.str i)
 | tup {n l} : (∀ d ∈ l,Da.Nb n d) → Da.Nb (n + 1) (.tup l)
 | lst {n l} : (∀ d ∈ l,Da.Nb n d) → Da.Nb (n + 1) (.lst l)
theorem ow : ∀ (a b : List Da),a.length = b.length → ((List.range a.length).all fun i => decide (a[i]? = b[i]?)) = decide (a = b) := fun a b h => by
 by_cases e : a = b
 ·subst e
  simp
 ·rw [decide_eq_false e]
  rw [Bool.eq_false_iff]
  intro z
  apply e
  apply List.ext_getElem?
  intro i
  by_cases hi : i < a.length
  ·have := (List.all_eq_true.mp z) i (List.mem_range.mpr hi)
   exact of_decide_eq_true this
  ·rw [List.getElem?_eq_none (by omega),List.getElem?_eq_none (by omega)]
section
variable {X : Cx} {pins : List (Addr × Obj)} {σ : St} {H : Hp} {s : Shared}
theorem zS {its : List Value} {xs : List V} (r : Vals xs its) {j : Nat} (h : j < its.toArray.size) : ∃ x,xs[j]? = some x ∧ RelV x its.toArray[j] := by
 have l := r.length
 have j1 : j < xs.length := by simp at h; omega
 have z1 : xs[j]? = some xs[j] := List.getElem?_eq_getElem j1
 obtain ⟨u1,w1,q1⟩ := r.get z1
 have e1 : its.toArray[j] = u1 := by
  have : its[j]? = some its[j] := List.getElem?_eq_getElem (by omega)
  rw [this] at w1
  simpa using w1
 exact ⟨_,z1,by rw [e1]; exact q1⟩
theorem ka {p : Addr} {i1 i2 : Array Value} (t1 : s.heap.IsTuple p i1) (t2 : s.heap.IsList p i2) : False := by
 obtain ⟨o,e,c1,n,d⟩ := t1
 obtain ⟨o',e',c2,n',d'⟩ := t2
 rw [e] at e'; cases e'
 rw [c1] at c2
 exact absurd c2 (by decide)
theorem zT (I : Inv X pins σ H s) {x : V} {a b : Da} (ha : eK X.K H x a) (hb : eK X.K H x b) : a = b := by
 induction ha generalizing b with
 | non => cases hb; rfl
 | bl _ => cases hb; rfl
 | int _ => cases hb; rfl
 | str _ => cases hb; rfl
 | @tup p xs ds hp hl hd ih =>
  cases hb with
  | @tup q ys es hq hl2 hd2 =>
   have PU : xs = ys := I.pS hp hq
   subst PU
   refine congrArg Da.tup ?_
   apply List.ext_getElem (by omega)
   intro j h1 h2
   have g0 : xs[j]? = some xs[j] := List.getElem?_eq_getElem (by omega)
   have g1 : ds[j]? = some ds[j] := List.getElem?_eq_getElem h1
   have g2 : es[j]? = some es[j] := List.getElem?_eq_getElem h2
   exact ih j _ _ g0 g1 (hd2 j _ _ g0 g2)
  | @lst q ys es hq hl2 hd2 =>
   obtain ⟨i1,r1,t1,_⟩ := I.tuple hp
   obtain ⟨i2,r2,t2,_⟩ := I.list hq
   exact (ka t1 t2.isList).elim
 | @lst p xs ds hp hl hd ih =>
  cases hb with
  | @lst q ys es hq hl2 hd2 =>
   have PU : xs = ys := I.nZ hp hq
   subst PU
   refine congrArg Da.lst ?_
   apply List.ext_getElem (by omega)
   intro j h1 h2
   have g0 : xs[j]? = some xs[j] := List.getElem?_eq_getElem (by omega)
   have g1 : ds[j]? = some ds[j] := List.getElem?_eq_getElem h1
   have g2 : es[j]? = some es[j] := List.getElem?_eq_getElem h2
   exact ih j _ _ g0 g1 (hd2 j _ _ g0 g2)
  | @tup q ys es hq hl2 hd2 =>
   obtain ⟨i1,r1,t1,_⟩ := I.tuple hq
   obtain ⟨i2,r2,t2,_⟩ := I.list hp
   exact (ka t1 t2.isList).elim
theorem je {A : Around} {m : Nat} {xs ys : List V} {ds es : List Da} {i1 i2 : List Value} (r1 : Vals xs i1) (r2 : Vals ys i2) (hl : xs.length = ds.length) (hl2 : ys.length = es.length)
  (ih : ∀ (j : Nat) x d y e u v,xs[j]? = some x → ds[j]? = some d → ys[j]? = some y → es[j]? = some e → RelV x u → RelV y v → SeqAt.EqAt A s u v (decide (d = e)))
  (j : Nat) (h1 : j < i1.toArray.size) (h2 : j < i2.toArray.size) : SeqAt.EqAt A s i1.toArray[j] i2.toArray[j] (decide (ds[j]? = es[j]?)) := by
 obtain ⟨x1,z1,q1⟩ := zS r1 h1
 obtain ⟨x2,z2,q2⟩ := zS r2 h2
 have k1 := (List.getElem?_eq_some_iff.mp z1).1
 have k2 := (List.getElem?_eq_some_iff.mp z2).1
 have g1 : ds[j]? = some (ds[j]'(by omega)) := List.getElem?_eq_getElem (by omega)
 have g2 : es[j]? = some (es[j]'(by omega)) := List.getElem?_eq_getElem (by omega)
 have r := ih j x1 _ x2 _ _ _ z1 g1 z2 g2 q1 q2
 have e : decide (ds[j]? = es[j]?) = decide (ds[j]'(by omega) = es[j]'(by omega)) := by rw [g1,g2]; simp
 rw [e]
 exact r
theorem zU {xs ys : List V} {ds es : List Da} {i1 i2 : List Value} (r1 : Vals xs i1) (r2 : Vals ys i2) (hl : xs.length = ds.length) (hl2 : ys.length = es.length) :
  ((List.range (min i1.toArray.size i2.toArray.size)).all (fun j => decide (ds[j]? = es[j]?)) && i1.toArray.size == i2.toArray.size) = decide (ds = es) := by
 have l1 := r1.length
 have l2 := r2.length
 by_cases z : ds.length = es.length
 ·have y := ow ds es z
  have s1 : i1.toArray.size = ds.length := by simp; omega
  have s2 : i2.toArray.size = ds.length := by simp; omega
  rw [s1,s2,Nat.min_self,y]
  simp
 ·rw [decide_eq_false (fun y => z (by rw [y]))]
  have : (i1.toArray.size == i2.toArray.size) = false := by simp; omega
  rw [this,Bool.and_false]
theorem zV {xs ys : List V} {ds es : List Da} {i1 i2 : List Value} (r1 : Vals xs i1) (r2 : Vals ys i2) (hl : xs.length = ds.length) (hl2 : ys.length = es.length) (z : ds.length = es.length) :
  ((List.range i1.toArray.size).all (fun j => decide (ds[j]? = es[j]?))) = decide (ds = es) := by
 have l1 := r1.length
 have s1 : i1.toArray.size = ds.length := by simp; omega
 rw [s1,ow ds es z]
theorem rB (ds es : List Da) : decide (Da.tup ds = Da.tup es) = decide (ds = es) := decide_eq_decide.mpr ⟨Da.tup.inj,congrArg _⟩
theorem rC (ds es : List Da) : decide (Da.lst ds = Da.lst es) = decide (ds = es) := decide_eq_decide.mpr ⟨Da.lst.inj,congrArg _⟩
theorem wQ {A : Around} {n : Nat} (hu : A.units + n < cLine) (I : Inv X pins σ H s) {x y : V} {a b : Da} (ha : eK X.K H x a) (hb : eK X.K H y b) (na : a.Nb n) (nb : b.Nb n) {u v : Value} (ru : RelV x u) (rv : RelV y v) : SeqAt.EqAt A s u v (decide (a = b)) := by
 induction ha generalizing A n y b u v with
 | non =>
  obtain rfl : u = Value.none := ru
  cases hb with
  | non => obtain rfl : v = Value.none := rv; exact SeqAt.EqAt.same _
  | bl _ => cases nb
  | int j => obtain ⟨t,rfl⟩ := rv; exact SeqAt.EqAt.none_int _ _
  | str j => obtain ⟨t,rfl⟩ := rv; exact SeqAt.EqAt.none_str _ _
  | tup hq => cases rv; obtain ⟨its,r1,p1,_⟩ := I.tuple hq; exact SeqAt.EqAt.none_tuple p1 (by omega)
  | lst hq => cases rv; obtain ⟨its,r1,p1,_⟩ := I.list hq; exact SeqAt.EqAt.none_list p1.isList (by omega)
 | bl _ => cases na
 | int i =>
  obtain ⟨t0,rfl⟩ := ru
  cases hb with
  | non => obtain rfl : v = Value.none := rv; exact SeqAt.EqAt.int_none _ _
  | bl _ => cases nb
  | int j =>
   obtain ⟨t,rfl⟩ := rv
   have := SeqAt.EqAt.int_int (A := A) (s := s) i t0 j t
   have e : (i == j) = decide (Da.int i = Da.int j) := by
    by_cases z : i = j
    ·subst z; simp
    ·rw [decide_eq_false (fun y => z (Da.int.inj y))]; simp [z]
   rwa [e] at this
  | str j => obtain ⟨t,rfl⟩ := rv; exact SeqAt.EqAt.int_str _ _ _ _
  | tup hq => cases rv; obtain ⟨its,r1,p1,_⟩ := I.tuple hq; exact SeqAt.EqAt.int_tuple _ _ p1 (by omega)
  | lst hq => cases rv; obtain ⟨its,r1,p1,_⟩ := I.list hq; exact SeqAt.EqAt.int_list _ _ p1.isList (by omega)
 | str i =>
  obtain ⟨t0,rfl⟩ := ru
  cases hb with
  | non => obtain rfl : v = Value.none := rv; exact SeqAt.EqAt.str_none _ _
  | bl _ => cases nb
  | int j => obtain ⟨t,rfl⟩ := rv; exact SeqAt.EqAt.str_int _ _ _ _
  | str j =>
   obtain ⟨t,rfl⟩ := rv
   have := SeqAt.EqAt.str_str (A := A) (s := s) i t0 j t
   have e : (i == j) = decide (Da.str i = Da.str j) := by
    by_cases z : i = j
    ·subst z; simp
    ·rw [decide_eq_false (fun y => z (Da.str.inj y))]; simp [z]
   rwa [e] at this
  | tup hq => cases rv; obtain ⟨its,r1,p1,_⟩ := I.tuple hq; exact SeqAt.EqAt.str_tuple _ _ p1 (by omega)
  | lst hq => cases rv; obtain ⟨its,r1,p1,_⟩ := I.list hq; exact SeqAt.EqAt.str_list _ _ p1.isList (by omega)
 | @tup p xs ds hp hl hd ih =>
  cases ru
  obtain ⟨i1,r1,t1,_⟩ := I.tuple hp
  cases hb with
  | non => obtain rfl : v = Value.none := rv; exact SeqAt.EqAt.tuple_none t1 (by omega)
  | bl _ => cases nb
  | int j => obtain ⟨t,rfl⟩ := rv; exact SeqAt.EqAt.tuple_int _ _ t1 (by omega)
  | str j => obtain ⟨t,rfl⟩ := rv; exact SeqAt.EqAt.tuple_str _ _ t1 (by omega)
  | @tup q ys es hq hl2 hd2 =>
   cases rv
   by_cases c : p = q
   ·subst c
    have := zT I (eK.tup hp hl hd) (eK.tup hq hl2 hd2)
    rw [decide_eq_true this]
    exact SeqAt.EqAt.same _
   cases na with
   | @tup m l na =>
   cases nb with
   | @tup m l nb =>
   obtain ⟨i2,r2,t2,_⟩ := I.tuple hq
   have key := SeqAt.RcAt.tuples (A := A) (s := s) (e := fun j => decide (ds[j]? = es[j]?)) t1 t2 (by omega) (je (m := m) r1 r2 hl hl2 fun j x d y e u v h1 h2 h3 h4 ru rv =>
    ih j x d h1 h2 (A := A.in1) (n := m) (by show A.units + 1 + m < cLine; omega) (hd2 j y e h3 h4) (na _ (List.mem_of_getElem? h2)) (nb _ (List.mem_of_getElem? h4)) ru rv)
   rw [zU r1 r2 hl hl2] at key
   rw [rB]
   exact SeqAt.EqAt.of_refs c key
  | @lst q ys es hq hl2 hd2 =>
   cases rv
   obtain ⟨i2,r2,t2,_⟩ := I.list hq
   by_cases c : p = q
   ·subst c
    exact (ka t1 t2.isList).elim
   ·exact SeqAt.EqAt.of_refs c (SeqAt.RcAt.tuple_list t1 t2.isList (by omega))
 | @lst p xs ds hp hl hd ih =>
  cases ru
  obtain ⟨i1,r1,t1,_⟩ := I.list hp
  cases hb with
  | non => obtain rfl : v = Value.none := rv; exact SeqAt.EqAt.list_none t1.isList (by omega)
  | bl _ => cases nb
  | int j => obtain ⟨t,rfl⟩ := rv; exact SeqAt.EqAt.list_int _ _ t1.isList (by omega)
  | str j => obtain ⟨t,rfl⟩ := rv; exact SeqAt.EqAt.list_str _ _ t1.isList (by omega)
  | @lst q ys es hq hl2 hd2 =>
   cases rv
   by_cases c : p = q
   ·subst c
    have := zT I (eK.lst hp hl hd) (eK.lst hq hl2 hd2)
    rw [decide_eq_true this]
    exact SeqAt.EqAt.same _
   cases na with
   | @lst m l na =>
   cases nb with
   | @lst m l nb =>
   obtain ⟨i2,r2,t2,_⟩ := I.list hq
   have l1 := r1.length
   have l2 := r2.length
   rw [rC]
   by_cases z : ds.length = es.length
   ·have key := SeqAt.RcAt.lists (A := A) (s := s) (e := fun j => decide (ds[j]? = es[j]?)) t1.isList t2.isList (by simp; omega) (by omega) (je (m := m) r1 r2 hl hl2 fun j x d y e u v h1 h2 h3 h4 ru rv =>
     ih j x d h1 h2 (A := A.in1) (n := m) (by show A.units + 1 + m < cLine; omega) (hd2 j y e h3 h4) (na _ (List.mem_of_getElem? h2)) (nb _ (List.mem_of_getElem? h4)) ru rv)
    rw [zV r1 r2 hl hl2 z] at key
    exact SeqAt.EqAt.of_refs c key
   ·rw [decide_eq_false (fun y => z (by rw [y]))]
    exact SeqAt.EqAt.of_refs c (SeqAt.RcAt.lists_lengths t1.isList t2.isList (by simp; omega) (by omega))
  | @tup q ys es hq hl2 hd2 =>
   cases rv
   obtain ⟨i2,r2,t2,_⟩ := I.tuple hq
   by_cases c : p = q
   ·subst c
    exact (ka t2 t1.isList).elim
   ·exact SeqAt.EqAt.of_refs c (SeqAt.RcAt.list_tuple t1.isList t2 (by omega))
end
def J7 (K : PySem.W.Frag) (ne : Bool) : R2 := fun x y H Q => ∃ (n : Nat) (p q : Addr) (a b : Da),x = .ref p ∧ y = .ref q ∧ eK K H x a ∧ eK K H y b ∧ a.Nb n ∧ b.Nb n ∧ n ≤ 6 ∧ Q (.bl (ne ^^ decide (a = b))) H
section
variable {X : Cx}
theorem vh (hu : X.A.units + 6 < cLine) : iQ X (compareOp .Eq) (J7 X.K false) := by
 intro pins s σ H x y v u Q I rx ry h
 obtain ⟨n,p,q,a,b,rfl,rfl,ha,hb,na,nb,hn,k⟩ := h
 cases rx
 cases ry
 rw [Bool.false_xor] at k
 cases ha with
 | @tup p xs ds hp hl hd =>
  obtain ⟨i1,r1,t1,_⟩ := I.tuple hp
  cases hb with
  | @tup q ys es hq hl2 hd2 =>
   cases na with
   | @tup m l na =>
   cases nb with
   | @tup m l nb =>
   obtain ⟨i2,r2,t2,_⟩ := I.tuple hq
   have key := SeqAt.RcAt.tuples (A := X.A) (s := s) (e := fun j => decide (ds[j]? = es[j]?)) t1 t2 (by omega) (je (m := m) r1 r2 hl hl2 fun j x d y e u v h1 h2 h3 h4 ru rv =>
    wQ (A := X.A.in1) (n := m) (by show X.A.units + 1 + m < cLine; omega) I (hd j x d h1 h2) (hd2 j y e h3 h4) (na _ (List.mem_of_getElem? h2)) (nb _ (List.mem_of_getElem? h4)) ru rv)
   rw [zU r1 r2 hl hl2] at key
   rw [rB] at k
   exact key _ _ _ _ ⟨.bl _,H,I,rfl,k⟩
  | @lst q ys es hq hl2 hd2 =>
   obtain ⟨i2,r2,t2,_⟩ := I.list hq
   exact (SeqAt.RcAt.tuple_list (A := X.A) t1 t2.isList (by omega)) _ _ _ _ ⟨.bl _,H,I,rfl,k⟩
 | @lst p xs ds hp hl hd =>
  obtain ⟨i1,r1,t1,_⟩ := I.list hp
  cases hb with
  | @lst q ys es hq hl2 hd2 =>
   cases na with
   | @lst m l na =>
   cases nb with
   | @lst m l nb =>
   obtain ⟨i2,r2,t2,_⟩ := I.list hq
   have l1 := r1.length
   have l2 := r2.length
   rw [rC] at k
   by_cases z : ds.length = es.length
   ·have key := SeqAt.RcAt.lists (A := X.A) (s := s) (e := fun j => decide (ds[j]? = es[j]?)) t1.isList t2.isList (by simp; omega) (by omega) (je (m := m) r1 r2 hl hl2 fun j x d y e u v h1 h2 h3 h4 ru rv =>
     wQ (A := X.A.in1) (n := m) (by show X.A.units + 1 + m < cLine; omega) I (hd j x d h1 h2) (hd2 j y e h3 h4) (na _ (List.mem_of_getElem? h2)) (nb _ (List.mem_of_getElem? h4)) ru rv)
    rw [zV r1 r2 hl hl2 z] at key
    exact key _ _ _ _ ⟨.bl _,H,I,rfl,k⟩
   ·rw [decide_eq_false (fun y => z (by rw [y]))] at k
    exact (SeqAt.RcAt.lists_lengths (A := X.A) t1.isList t2.isList (by simp; omega) (by omega)) _ _ _ _ ⟨.bl _,H,I,rfl,k⟩
  | @tup q ys es hq hl2 hd2 =>
   obtain ⟨i2,r2,t2,_⟩ := I.tuple hq
   exact (SeqAt.RcAt.list_tuple (A := X.A) t1.isList t2 (by omega)) _ _ _ _ ⟨.bl _,H,I,rfl,k⟩
theorem rE (hu : X.A.units + 6 < cLine) : iQ X (compareOp .NotEq) (J7 X.K true) := by
 intro pins s σ H x y v u Q I rx ry h
 obtain ⟨n,p,q,a,b,rfl,rfl,ha,hb,na,nb,hn,k⟩ := h
 cases rx
 cases ry
 rw [Bool.true_xor] at k
 cases ha with
 | @tup p xs ds hp hl hd =>
  obtain ⟨i1,r1,t1,_⟩ := I.tuple hp
  cases hb with
  | @tup q ys es hq hl2 hd2 =>
   cases na with
   | @tup m l na =>
   cases nb with
   | @tup m l nb =>
   obtain ⟨i2,r2,t2,_⟩ := I.tuple hq
   have key := SeqAt.RcNeAt.tuples (A := X.A) (s := s) (e := fun j => decide (ds[j]? = es[j]?)) t1 t2 (by omega) (je (m := m) r1 r2 hl hl2 fun j x d y e u v h1 h2 h3 h4 ru rv =>
    wQ (A := X.A.in1) (n := m) (by show X.A.units + 1 + m < cLine; omega) I (hd j x d h1 h2) (hd2 j y e h3 h4) (na _ (List.mem_of_getElem? h2)) (nb _ (List.mem_of_getElem? h4)) ru rv)
   rw [zU r1 r2 hl hl2] at key
   rw [rB] at k
   exact key _ _ _ _ ⟨.bl _,H,I,rfl,k⟩
  | @lst q ys es hq hl2 hd2 =>
   obtain ⟨i2,r2,t2,_⟩ := I.list hq
   exact (SeqAt.RcNeAt.tuple_list (A := X.A) t1 t2.isList (by omega)) _ _ _ _ ⟨.bl _,H,I,rfl,k⟩
 | @lst p xs ds hp hl hd =>
  obtain ⟨i1,r1,t1,_⟩ := I.list hp
  cases hb with
  | @lst q ys es hq hl2 hd2 =>
   cases na with
   | @lst m l na =>
   cases nb with
   | @lst m l nb =>
   obtain ⟨i2,r2,t2,_⟩ := I.list hq
   have l1 := r1.length
   have l2 := r2.length
   rw [rC] at k
   by_cases z : ds.length = es.length
   ·have key := SeqAt.RcNeAt.lists (A := X.A) (s := s) (e := fun j => decide (ds[j]? = es[j]?)) t1.isList t2.isList (by simp; omega) (by omega) (je (m := m) r1 r2 hl hl2 fun j x d y e u v h1 h2 h3 h4 ru rv =>
     wQ (A := X.A.in1) (n := m) (by show X.A.units + 1 + m < cLine; omega) I (hd j x d h1 h2) (hd2 j y e h3 h4) (na _ (List.mem_of_getElem? h2)) (nb _ (List.mem_of_getElem? h4)) ru rv)
    rw [zV r1 r2 hl hl2 z] at key
    exact key _ _ _ _ ⟨.bl _,H,I,rfl,k⟩
   ·rw [decide_eq_false (fun y => z (by rw [y]))] at k
    exact (SeqAt.RcNeAt.lists_lengths (A := X.A) t1.isList t2.isList (by simp; omega) (by omega)) _ _ _ _ ⟨.bl _,H,I,rfl,k⟩
  | @tup q ys es hq hl2 hd2 =>
   obtain ⟨i2,r2,t2,_⟩ := I.tuple hq
   exact (SeqAt.RcNeAt.list_tuple (A := X.A) t1.isList t2 (by omega)) _ _ _ _ ⟨.bl _,H,I,rfl,k⟩
end
section
variable {X : Cx}
end
end L2
namespace L2
open PySem PySem.W PySem.Spec PySem.Calls PyProof.Rows
def rF (S : List Addr) (i : Nat) (o : Obj) : Obj := if i ∈ S then { o with data := .freed } else o
def less (h : Heap) (S : List Addr) : Heap := { h with objs := h.objs.mapIdx (rF S) }
theorem h7 {h : Heap} {S : List Addr} {b : Addr} (hb : b ∈ S) : (less h S).get? b = none := by
 unfold Heap.get? less
 simp only [Array.getElem?_mapIdx]
 cases e : h.objs[b]? with
 | none => rfl
 | some o =>
  simp only [Option.map_some,rF,if_pos hb]
theorem cO {h : Heap} {S : List Addr} {b : Addr} (hb : b ∉ S) : (less h S).get? b = h.get? b := by
 unfold Heap.get? less
 simp only [Array.getElem?_mapIdx]
 cases e : h.objs[b]? with
 | none => rfl
 | some o =>
  simp only [Option.map_some,rF,if_neg hb]
theorem jN {h : Heap} {S : List Addr} : (less h S).StaysIn h := fun b o e => by
 by_cases hb : b ∈ S
 ·rw [h7 hb] at e; cases e
 ·rwa [cO hb] at e
theorem jf {h base : Heap} {S : List Addr} : ∀ {l : List Env},h.FunFrames base l → (∀ b ∈ frs l,b ∈ S) → h.FunFrames (less h S) l
 | [],_,_ => trivial
 | env :: r,⟨hk,⟨L,o,hf,hn,ho,hd⟩,hr⟩,hs => by
  have e : frs (env :: r) = L :: frs r := by unfold frs; rw [List.filterMap_cons,hf]
  rw [e] at hs
  exact ⟨hk,⟨L,o,hf,h7 (hs L (by simp)),ho,hd⟩,jf hr fun b hb => hs b (by simp [hb])⟩
theorem cD.some_ {P : Program} {w : World} {H : Hp} {h : Heap} {a : Addr} {o : HO} (x : cD P w H h a o) : ∃ u,h.get? a = some u := by
 cases o with
 | lst xs => obtain ⟨_,_,_,_,e⟩ := x; exact ⟨_,e⟩
 | tup xs => obtain ⟨_,_,_,ob,e,_⟩ := x; exact ⟨_,e⟩
 | dK kvs => obtain ⟨_,_,_,_,o,_,_,e,_⟩ := x; exact ⟨_,e⟩
 | dT kvs => obtain ⟨_,_,_,_,o,_,_,e,_⟩ := x; exact ⟨_,e⟩
 | set S n => obtain ⟨o,_,_,_,e,_⟩ := x; exact ⟨_,e⟩
 | ins C dx fs => obtain ⟨_,_,_,e,_⟩ := x; exact ⟨_,e⟩
 | own y => exact x
 | xd fs => obtain ⟨_,⟨_,_,_,e,_⟩,_⟩ := x; exact ⟨_,e⟩
 | rng lo hi => obtain ⟨_,_,_,e⟩ := x; exact ⟨_,e⟩
 | sR ob u => obtain ⟨e,_⟩ := x; exact ⟨_,e⟩
 | Ei ps => exact ⟨_,(show h.get? a = some _ from x)⟩
 | met f y => exact ⟨_,(show h.get? a = some _ from x)⟩
 | ext φ => exact x.2.1
structure Gj (K : PySem.W.Frag) (C : Addr) (bmB : List Value) (newId : String) : Prop where
 isIn : excIn K C bmB newId = true
theorem Gj.obj {K : PySem.W.Frag} {C : Addr} {bmB : List Value} {newId : String} {h₀ : Heap} (c : Gj K C bmB newId) (X : K.In h₀) : ∃ bm N nm q bs hdct sn sub ab col dd k0 k1 k2 k3 k5 mN,
   h₀.get? C = some (excClassObj nm q C N bs bm hdct sn sub ab col dd k0 k1 k2 k3 k5 newId) ∧ h₀.Ns N mN ∧ mN (Str.ofString "__init__") = none ∧ OwnTail h₀ bmB bm := by
 have q := c.isIn
 unfold excIn at q
 split at q
 ·rename_i dd cd sl ho
  split at q
  ·rename_i C' bm k0 k1 k2 k3 n k5 hm hs
   simp only [Bool.and_eq_true,beq_iff_eq,Bool.not_eq_true'] at q
   obtain ⟨⟨⟨⟨⟨rfl,rfl⟩,hdel⟩,ht⟩,hok⟩,hni⟩ := q
   obtain ⟨nm,bs,mro,ns,qn,hd,sn,sub,ab,col,del⟩ := cd
   dsimp only at hm hdel hok hni
   subst hm hdel
   have hsl : sl = #[k0,k1,k2,k3,some (.builtin n),k5] := by
    obtain ⟨l⟩ := sl
    simp only at hs
    rw [hs]
   subst hsl
   exact ⟨bm,ns,nm,qn,bs,hd,sn,sub,ab,col,dd,k0,k1,k2,k3,k5,_,X _ _ ho,.of_isNs (isNs_of_in X hok),nsMap_none_of_in X hok hni,tail_of_in X ht⟩
  ·cases q
 ·cases q
section
variable {P : Program} {w : World} {K : PySem.W.Frag} {mg : Str → Option Value} {base : Heap} {N : List Str} {qual : Str} {scope : Scope} {f : Addr} {cd : Value} {A : Around} {outer : List Env} {s₀ : Shared} {H₀ : Hp} {E : XK}
end
theorem fq.Es {P : Program} {w : World} {K : PySem.W.Frag} {mg : Str → Option Value} {base : Heap} {CX : yt} {x qual : Str} {st : Stmt} {f : Addr} {fd : FuncData} {N ps : List Str} {k : Nat} {sp : Sp} (F : fq K x qual st f fd) (S : aW N ps (aq st)) (len : ∀ vs H Q E,sp vs H Q E → vs.length = ps.length)
  (hbody : ∀ (cdv : Value) (A : Around) (outer : List Env) (s : Shared) (H : Hp) (vs : List V) (Q : VK) (E : XK),dW k (A.deeper (envOfC qual (aq st) s.heap.objs.size f cdv)) → sp vs H Q E →
   ∃ t,pR (fh CX P w K mg base N qual (aq st) f cdv A outer s H E) (aS st) t ∧ t { nx := fun _ H' => Q .non H',rt := Q } (start N vs) H) : aY P w K mg base CX (k + 1) f fd ps sp := by
 obtain ⟨oc,od,kV,doc,pm,an,cdv,ct,osl,rfl,lk,hcd⟩ := F.ex
 exact Em lk hcd S len fun A outer s H vs Q E hr hsp => hbody cdv A outer s H vs Q E hr hsp
section
variable {X : Cx} {pins : List (Addr × Obj)} {σ : St}
theorem ox {B h : Heap} {l : List Env} {ea : Addr} {cls a0 : Value} (fly : B.FlyingW l ea cls a0 h) : ∃ T,B.get? ea = none ∧ B.get? T = none ∧ (less h (frs l ++ [ea,T])).FlyingW l ea cls a0 h := by
 obtain ⟨f1,f2,f3,oe,vs,T,oT,ts,g1,g2,g3,g4,g5,g6,g7,g8,g9⟩ := fly
 exact ⟨T,f2,g5,jN,h7 (by simp),jf f3 (fun b hb => by simp [hb]),oe,vs,T,oT,ts,g1,g2,g3,g4,h7 (by simp),g6,g7,g8,g9⟩
end
section
variable {X : Cx} {pins : List (Addr × Obj)} {σ : St} {H : Hp} {s : Shared}
theorem jg {M : Model} {A : Around} {E : Value → Shared → Prop} {i : Nat} {x : Str} {pos : Pos} {Q : Unit → Shared → Prop} (I : Inv X pins σ H s) (hN : X.N.Nodup) (hi : X.N[i]? = some x) (hk : X.env.kindOf x = some .local)
  (h : ∀ s',Inv X pins (σ.set i none) H s' → Q () s') : wpAny M A (do bindName X.env x .none; unbindBehindTheSuite X.env x pos) Q E s := by
 obtain ⟨m,hn,hl⟩ := id I.loc
 have hcls : (X.env.scope.kind == .class || (X.env.scope.kind == .module && X.env.locals != X.env.globals)) = false := by rw [I.ok.kind]; rfl
 have hiσ : i < σ.length := by rw [I.len]; exact (List.getElem?_eq_some_iff.mp hi).1
 have zv := I.zv
 have tracked : ∀ {a : Addr} {h' : Heap},(∃ o,s.heap.get? a = some o ∧ H a = none) → Heap.SameBut a s.heap h' → iG X.prog X.w H h' := fun {a h'} ha hs b ob e => by
  obtain ⟨_,_,hfree⟩ := ha
  refine (I.hok b ob e).stay (fun c w' hc q => (hs.2 c ?_).trans q) (fun _ q => q) fun _ _ q => q
  rintro rfl
  rcases hc with rfl | hc
  ·rw [hfree] at e; cases e
  ·rw [hfree] at hc; cases hc
 refine wpAny_nameGoes_keeps hk hn hcls fun h' v hn' hs => ?_
 obtain ⟨oL,_,_,hoL,_⟩ := id hn
 refine h _ ⟨I.ok,I.os,I.bare,⟨fun b o e n hb hx => ?_,fun b o e n hb hx => ?_,I.base.free,fun b o e hx => ?_,I.base.tups,I.base.gT,I.base.iH⟩,⟨_,hn',fun j y v' e1 e2 e3 => ?_⟩,fun y c e => ?_,I.free,I.fQ,fun p hp => ?_,tracked ⟨oL,hoL,I.free⟩ hs,by simpa using I.len⟩
 ·exact (hs.2 b (Nat.ne_of_lt (Nat.lt_of_lt_of_le (Heap.lt_size e) I.ok.above))).trans (I.base.keep b o e n hb hx)
 ·obtain ⟨sl,e1⟩ := I.base.slot b o e n hb hx
  exact ⟨sl,(hs.2 b (Nat.ne_of_lt (Nat.lt_of_lt_of_le (Heap.lt_size e) I.ok.above))).trans e1⟩
 ·obtain ⟨o',e1⟩ := I.base.there b o e hx
  exact ⟨o',(hs.2 b (Nat.ne_of_lt (Nat.lt_of_lt_of_le (Heap.lt_size e) I.ok.above))).trans e1⟩
 ·by_cases hj : j = i
  ·subst hj
   rw [List.getElem?_set_self hiσ] at e2
   cases e2
  ·rw [List.getElem?_set_ne (Ne.symm hj)] at e2
   obtain ⟨u',r',q⟩ := hl j y v' e1 e2 e3
   refine ⟨u',r',?_⟩
   rcases q with ⟨k,e⟩ | ⟨k,c,e,z⟩
   ·refine .inl ⟨k,?_⟩
    have : y ≠ x := fun e => hj (nW hN e1 (e ▸ hi))
    simp [this,e]
   ·exact .inr ⟨k,c,e,z.sameBut hs (zv y c e)⟩
 ·obtain ⟨w',z⟩ := I.cell y c e
  exact ⟨w',z.sameBut hs (zv y c e)⟩
 ·obtain ⟨e,n,ne,nf,d⟩ := I.pin p hp
  exact ⟨(hs.2 p.1 ne).trans e,n,ne,nf,d⟩
abbrev Cx.rG (X : Cx) (ea : Addr) : Cx := { X with A := X.A.mark (some (.ref ea)),calm := false,xe := fun _ _ => False }
theorem Inv.suite (I : Inv X pins σ H s) (ea : Addr) : Inv (X.rG ea) pins σ H s :=
 ⟨⟨I.ok.mod,I.ok.kind,I.ok.glob,I.ok.blt,I.ok.above,I.ok.inj,I.ok.has,I.ok.cab,(fun z => by cases z),I.ok.frames,I.ok.stk,I.ok.Jv,I.ok.bs,I.ok.BM,I.ok.ym,I.ok.uJ,I.ok.jM,I.ok.Ej⟩,I.os,I.bare,I.base,I.loc,I.cell,I.free,I.fQ,I.pin,I.hok,I.len⟩
theorem Inv.nG {ea : Addr} (ok : X.Ok) (I : Inv (X.rG ea) pins σ H s) : Inv X pins σ H s := ⟨ok,I.os,I.bare,I.base,I.loc,I.cell,I.free,I.fQ,I.pin,I.hok,I.len⟩
end
def Ends.less (D : Ends) (i : Nat) : Ends := { nx := fun σ H => D.nx (σ.set i none) H,rt := D.rt,bk := fun σ H => D.bk (σ.set i none) H,ct := fun σ H => D.ct (σ.set i none) H }
section
variable {X : Cx} {k : Nat} {f C cR : Addr} {fd : FuncData} {ps : List Str} {sp : Sp} {qT : List V} {ds : List Value} {x m n : Str} {np pos apos p2 p3 p4 : Pos} {o : Expr} {ta : TE} {ts : TS} {i : Nat} {b₀ : Stmt} {suite : List Stmt} {L : Addr}
end
end L2
namespace L2
open PySem PySem.W PySem.Spec PySem.Calls PyProof.Rows PySem.Builtin PySem.Builtin.ObjectAttr PySem.Builtin.Getset_descriptor
section
variable {prog : Program} {w : World} {A : Around} {E : Value → Shared → Prop} {s : Shared} {K : PySem.W.Frag} {x C : Addr}
theorem vi {R : Result → Shared → Prop} {tp : Value} (X : K.In s.heap) (L0 : Looks (model prog w) s.heap (typeOf (.ref x)) (.ref C)) (hm : mroIn K C (.type "object") = some true)
  (h : R (.ok (.ret (.ref C))) s) : codeAny (model prog w) A (.call (.builtin "getset_descriptor.__get__") ⟨[.builtin "object.__class__",.ref x,tp],[]⟩) R s := by
 obtain ⟨hh,g,dr,t,os⟩ := s
 have L1 := looks_mroIn (M := model prog w) X hm
 refine codeAny_call_builtin KF.slot_gs.plain KF.entry_gs (KF.slot_gs.check _ _ _ _ _ _ _ _ KF.type_class (KF.args_gs _ _ _) ?_)
 unfold Builtin.«getset_descriptor.__get__» descrGet
 rw [dga_obj]
 refine wpAny_bind (wpAny_pure ?_)
 unfold descrGetter descrCheckInstance descrNameAndClass isInstance
 simp only [KF.owner_class]
 repeat lk
 refine ⟨Code.quiet_builtin _ (by decide +kernel),codeAny_builtin KF.entry_class ?_⟩
 unfold Builtin.«object.__class__» shownTypeOf
 repeat lk
 exact h
structure qf (K : PySem.W.Frag) (C : Addr) : Prop where
 ga : findIn K (.ref C) "__getattribute__" = some (some (.builtin "BaseException.__getattribute__"))
 gh : findIn K (.ref C) "__getattr__" = some none
 cl : findIn K (.ref C) "__class__" = some (some (.builtin "object.__class__"))
 gt : specialIn K (.builtin "object.__class__") "__get__" = some (some (.builtin "getset_descriptor.__get__"))
 tk : takesIn K (.builtin "object.__class__") = some true
 ob : mroIn K C (.type "object") = some true
 bx : mroIn K C (.type "BaseException") = some true
 ci : (clsIn K C).isSome = true
theorem lZ {M : Model} {h : Heap} (X : K.In h) {self : Value} {name : Str} {a g : Value} (ha : findIn K (.ref C) name = some (some a)) (hg : specialIn K a "__get__" = some (some g)) (ht : takesIn K a = some true) : Looks M h (find self (.ref C) name) (.bind g a) := by
 have L1 := looks_findIn (M := M) X ha
 have L2 : Looks M h (getOf (some a)) (some g) := looks_specialIn X hg
 have L3 := looks_takesIn (M := M) X ht
 exact L1.andThen (L2.andThen ((show Looks M h (dataDescriptor? (some a) (some g)) (some (g,a)) from L3.andThen .now).andThen (Looks.tag .now)))
theorem qg {M : Model} {nameV : Value} {Q : Unit → Shared → Prop} (L0 : Looks M s.heap (typeOf (.ref x)) (.ref C)) (L3 : Looks M s.heap (isSubtype (.ref C) (.type "BaseException")) true) (hq : Q () s) : wpAny M A (checkBuiltinCall "BaseException.__getattribute__" ⟨[.ref x,nameV],[]⟩) Q E s := by
 have hk : builtinKind "BaseException.__getattribute__" = some .slot := by decide +kernel
 have hsplit : splitId "BaseException.__getattribute__" = some ("BaseException", "__getattribute__") := by decide +kernel
 have ha := F.args_bexc_ga (.ref x) nameV
 obtain ⟨hh,g,d,t,os⟩ := s
 simp only [checkBuiltinCall,hk,hsplit]
 refine wpAny_bind ?_
 ·unfold isInstance
  repeat (first | lk | wp_step)
  exact hq
theorem yD {Q : Fin → Shared → Prop} {tk : Tok} (X : K.In s.heap) (R : qf K C) (L0 : Looks (model prog w) s.heap (typeOf (.ref x)) (.ref C)) (hq : Q (.done (.ret (.ref C))) s) : wpAny (model prog w) A (Builtin.«object.__getattribute__» ⟨[.ref x,.str "__class__" tk],[]⟩) Q E s := by
 have L4 := lZ (M := model prog w) X (self := .ref x) R.cl R.gt R.tk
 have hc := fun (R' : Result → Shared → Prop) (h : R' (.ok (.ret (.ref C))) s) => vi (prog := prog) (w := w) (A := A) (tp := .ref C) X L0 R.ob h
 unfold Builtin.«object.__getattribute__»
 refine wpAny_bind (wpAny_pure (wpAny_bind (wpAny_pure (wpAny_bind (L0.here (wpAny_bind (L4.here ?_)))))))
 show wpAny _ _ (bindTo _ _ _ _) _ _ _
 unfold bindTo
 dsimp only
 first
  | exact wpAny_bind (wpAny_holding (wpAny_call (hc _ (wpAny_pure hq))))
  | exact wpAny_bind (wpAny_call (hc _ (wpAny_pure hq)))
  | exact wpAny_bind (wpAny_bind (wpAny_holding (wpAny_call (hc _ (wpAny_pure hq)))))
theorem yE {Q : Option Value → Shared → Prop} {Bn : String} (FB : ExcAttrFacts Bn) (X : K.In s.heap) (R : qf K C) (L0 : Looks (model prog w) s.heap (typeOf (.ref x)) (.ref C)) (h : Q (some (.ref C)) { s with toks := s.toks + 1 }) : wpAny (model prog w) A (getAttr? (.ref x) "__class__") Q E s := by
 obtain ⟨hh,g,d,t,os⟩ := s
 have L1 := looks_findIn (M := model prog w) X R.ga
 have L2 := looks_findIn (M := model prog w) X R.gh
 have L3 := looks_mroIn (M := model prog w) X R.bx
 have L4 := lZ (M := model prog w) X (self := .ref x) R.cl R.gt R.tk
 have hk : builtinKind "BaseException.__getattribute__" = some .slot := by decide +kernel
 have hsplit : splitId "BaseException.__getattribute__" = some ("BaseException", "__getattribute__") := by decide +kernel
 unfold getAttr? getAttrBy? getAttrBy
 refine wpAny_bind (wpAny_mkText (wpAny_bind (wpAny_attempt (wpAny_holding (wpAny_bind (L0.at (wpAny_bind (L1.at ?_))))))))
 show wpAny _ _ (getAttrByItsOwn _ _ _ _ _ _) _ _ _
 unfold getAttrByItsOwn hookBefore
 rw [if_pos (show onTheHeap (Value.ref C) = true from rfl)]
 refine wpAny_bind (L2.at (wpAny_bind (wpAny_attempt (wpAny_holding ?_))))
 unfold callGetattribute
 rw [if_neg (show ¬ (false && onTheHeap (Value.builtin "BaseException.__getattribute__")) = true from by decide)]
 unfold boundAndCalled
 rw [FB.ga.bind (.ref x)]
 refine wpAny_bind (wpAny_pure (wpAny_call ?_))
 refine codeAny_call_builtin FB.ga.plain F.entry_bexc_ga ?_
 refine qg L0 L3 (yD X R L0 ?_)
 exact wpAny_pure (wpAny_pure h)
end
end L2
namespace L2
open PySem PySem.W PySem.Spec PySem.Calls PyProof.Rows
theorem tH {K : PySem.W.Frag} {C ea : Addr} {Bn : String} (R : qf K C) (FB : ExcAttrFacts Bn) : KitX K (.ref ea) (.ref C) (fun h => ∃ o,h.get? ea = some o ∧ o.cls = .ref C) where
 ty := fun M h _ ⟨o,h1,h2⟩ => h2 ▸ (Looks.ld h1).andThen .now
 it := fun _ _ X _ => by
  obtain ⟨cdD,hcD⟩ := Option.isSome_iff_exists.mp R.ci
  unfold clsIn at hcD
  split at hcD
  ·rename_i c' d' cd' sl' ho
   intro A' Q' E' s' k q
   unfold isType loadHead
   exact wpAny_bind (wpAny_loadPart (k _ _ (X _ _ ho)) (wpAny_pure q))
  ·cases hcD
 ne := fun h tp dd its n sl X htp => by
  obtain ⟨cdD,hcD⟩ := Option.isSome_iff_exists.mp R.ci
  refine Bool.eq_false_iff.mpr fun q => ?_
  have e : C = tp := Value.ref.inj (beq_iff_eq.mp q)
  subst e
  unfold clsIn at hcD
  split at hcD
  ·rename_i c' d' cd' sl' ho
   have z := (X _ _ ho).symm.trans htp
   cases z
  ·cases hcD
 ca := fun X p k => by
  obtain ⟨o,h1,h2⟩ := p
  exact yE FB X R (h2 ▸ (Looks.ld h1).andThen .now) k
section
variable {X : Cx} {C : Addr} {Bn : String}
end
def pe (h : Heap) (e : Addr) (od : Option Addr) : Prop := ∃ o,h.get? e = some o ∧ o.dict = od
theorem oy (o : Obj) (f : Array Value → Array Value) : (Obj.mapFields f o).dict = o.dict := by
 unfold Obj.mapFields
 split <;> rfl
section
variable {M : Model} {A : Around} {XE : Value → Shared → Prop} {s : Shared} {B : Heap} {env : Env} {outer l : List Env} {L e : Addr} {cls a0 fl : Value} {od : Option Addr} {Q : Unit → Shared → Prop}
theorem jH {h : Heap} {e b : Addr} {oe o : Obj} {vs : Array Value} (he : h.get? e = some oe) (hd : oe.data = .fields vs) (hb : h.get? b = some o) (n : ∀ vs,o.data ≠ .fields vs) : b ≠ e := fun z => by
 subst z
 cases he.symm.trans hb
 exact n vs hd
theorem vj {oe : Obj} {vs : Array Value} {head : Value} {hn : Bool} (fr : A.frames = some (env :: outer)) (fu : s.heap.FunFrames B (env :: outer)) (hf : env.frame = some L) (he : s.heap.get? e = some oe) (st : B.StaysIn s.heap) (ne : B.get? e = none)
  (hd : oe.data = .fields vs) (sz : 1 < vs.size) (h0 : vs[0]? = some a0) (k : ∀ h',Heap.NotedW B (env :: outer) e oe.cls a0 (rawInt L) s.heap h' → pe h' e oe.dict → Q () { s with heap := h' }) :
  wpAny M A (do
   let a ← frameOf env
   let pl ← entryPlaceOf L hn
   let b ← EntryCells.newEntry head a .none (rawInt L) .none pl
   setField (.ref e) 1 b) Q XE s := by
 have nf : e ∉ frs (env :: outer) := fun z => by
  obtain ⟨_,o,ho,n⟩ := fu.mem z
  cases he.symm.trans ho
  exact n vs hd
 refine wpAny_bind (wpAny_frameOf_fun fr fu hf fun g kg => ?_)
 have e1 : g.get? e = some oe := (kg.2.1 e nf).trans he
 have key : ∀ (tb : Obj) (ts : Array Value),tb.data = .fields ts → ts[3]? = some (rawInt L) → wpAny M A (setField (.ref e) 1 (.ref g.objs.size)) Q XE { s with heap := g.push tb } := fun tb ts td t3 => by
  have e2 := Heap.get?_push_of_some tb e1
  have nT : g.objs.size ≠ e := Nat.ne_of_gt (Heap.lt_size e1)
  have d3 := Obj.data_mapFields hd (·.setIfInBounds 1 (Value.ref g.objs.size))
  have e3 := Heap.get?_update_self (Obj.mapFields (·.setIfInBounds 1 (Value.ref g.objs.size))) e2 (Obj.isFreed_of_fields d3)
  have hT : (g.push tb).get? g.objs.size = some tb := Heap.get?_push_size g (Obj.isFreed_of_fields td)
  have hT3 := (Heap.get?_update_other (g.push tb) (Obj.mapFields (·.setIfInBounds 1 (Value.ref g.objs.size))) nT.symm).trans hT
  have keep : ∀ b o,b ≠ e → g.get? b = some o → ((g.push tb).update e (Obj.mapFields (·.setIfInBounds 1 (Value.ref g.objs.size)))).get? b = some o := fun b o n hb => (Heap.get?_update_other _ _ n.symm).trans (Heap.get?_push_of_some _ hb)
  have stg : B.StaysIn g := fun b o hb => (kg.2.1 b fun z => by
   have := (fu.mem z).1
   rw [hb] at this
   cases this).trans (st b o hb)
  refine wpAny_setField e2 hd sz (k _ ⟨fun b o hb => keep b o (fun z => by rw [z,ne] at hb; cases hb) (stg b o hb),fu.of_keeps fun b o hb n => ?_,?_,fun b o hb n => ?_⟩ ⟨_,e3,oy _ _⟩)
  ·obtain ⟨sl,hs⟩ := kg.2.2 b o hb
   exact ⟨_,keep b _ (jH he hd hb n) hs,rfl⟩
  ·exact ⟨_,_,g.objs.size,_,_,e3,⟨Obj.cls_mapFields _ _,by rw [Array.getElem?_setIfInBounds_ne (by decide)]; exact h0⟩,d3,by simp [sz],stg.fresh,nT,hT3,td,t3⟩
  ·obtain ⟨sl,hs⟩ := kg.2.2 b o hb
   exact ⟨sl,keep b _ (jH he hd hb n) hs⟩
 refine wpAny_bind (wpAny_entryPlaceOf fun pl hp => ?_)
 unfold EntryCells.newEntry newFields
 refine wpAny_bind (wpAny_newObj_type ?_ (hp.sizeOk5 _ _ _ _ _))
 exact key _ _ rfl (by first | (simp; done) | (rcases hp with rfl | ⟨_,_,_,_,_,_,_,rfl⟩ <;> simp))
theorem vk {oe : Obj} {vs : Array Value} (fr : A.frames = some (env :: outer)) (fu : s.heap.FunFrames B (env :: outer)) (hf : env.frame = some L) (he : s.heap.get? e = some oe) (st : B.StaysIn s.heap) (ne : B.get? e = none)
  (hd : oe.data = .fields vs) (h1 : vs[1]? = some .none) (h0 : vs[0]? = some a0) (k : ∀ h',Heap.NotedW B (env :: outer) e oe.cls a0 (rawInt L) s.heap h' → pe h' e oe.dict → Q () { s with heap := h' }) :
  wpAny M A (noteFrame (.ref e) env) Q XE s := by
 unfold noteFrame
 simp only [hf]
 refine wpAny_bind (wpAny_field he hd h1 ?_)
 rw [if_neg (by decide)]
 exact vj fr fu hf he st ne hd (Array.getElem?_eq_some_iff.mp h1).1 h0 k
theorem qj (fr : A.frames = some (env :: outer)) (hf : env.frame = some L) (fly : B.FlyingW (env :: outer) e cls a0 s.heap) (dc : pe s.heap e od)
  (k : ∀ h',Heap.NotedW B (env :: outer) e cls a0 (rawInt L) s.heap h' → pe h' e od → Q () { s with heap := h' }) : wpAny M A (noteFrame (.ref e) env) Q XE s := by
 obtain ⟨st,ne,fu,oe,vs,T,oT,ts,he,⟨hc,h0⟩,hd,h1,nT,Te,hT,dT,h3⟩ := fly
 subst hc
 obtain ⟨oe',he',hod⟩ := dc
 cases he.symm.trans he'
 subst hod
 unfold noteFrame
 simp only [hf]
 refine wpAny_bind (wpAny_field he hd h1 ?_)
 rw [if_pos (by simp)]
 refine wpAny_bind (wpAny_field hT dT h3 ?_)
 rw [if_neg (by simp [rawInt])]
 refine wpAny_bind (wpAny_setField hT dT (Array.getElem?_eq_some_iff.mp h3).1 ?_)
 have oth : ∀ b,b ≠ T → (s.heap.update T (Obj.mapFields (·.setIfInBounds 3 Value.none))).get? b = s.heap.get? b := fun b n => Heap.get?_update_other _ _ n.symm
 refine vj fr (fu.of_keeps fun b o hb n => ⟨o,(oth b (jH hT dT hb n)).trans hb,rfl⟩) hf ((oth e Te.symm).trans he) (fun b o hb => (oth b fun z => by
  rw [z,nT] at hb
  cases hb).trans (st b o hb)) ne hd (Array.getElem?_eq_some_iff.mp h1).1 h0 fun h' q q2 => k h' ⟨q.1,q.2.1,q.2.2.1,fun b o hb n => q.2.2.2 b o ((oth b (jH hT dT hb n)).trans hb) n⟩ q2
theorem jh (st : B.StaysIn s.heap) (fu : s.heap.FunFrames B l) (tr : s.heap.TracedAtW B e cls a0 fl) (dc : pe s.heap e od)
  (k : ∀ h',B.StaysIn h' → h'.FunFrames B l → h'.TracedW B e cls a0 → (∀ b o,s.heap.get? b = some o → (∀ vs,o.data ≠ .fields vs) → h'.get? b = some o) → pe h' e od → Q () { s with heap := h' }) : wpAny M A (setFlight (.ref e) none) Q XE s := by
 obtain ⟨oe,vs,T,oT,ts,he,hc,hd,h1,nT,Te,hT,dT,h3⟩ := tr
 obtain ⟨oe',he',hod⟩ := dc
 cases he.symm.trans he'
 have sz : 3 < ts.size := (Array.getElem?_eq_some_iff.mp h3).1
 have oth : ∀ b,b ≠ T → (s.heap.update T (Obj.mapFields (·.setIfInBounds 3 ((none : Option Addr).elim Value.none fun f => rawInt f)))).get? b = s.heap.get? b := fun b n => Heap.get?_update_other _ _ n.symm
 unfold setFlight
 refine wpAny_bind (wpAny_field he hd h1 ?_)
 rw [if_pos (by simp)]
 refine wpAny_setField hT dT sz (k _ (fun b o hb => (oth b fun z => by
  rw [z,nT] at hb
  cases hb).trans (st b o hb)) (fu.of_keeps fun b o hb n => ⟨o,(oth b (jH hT dT hb n)).trans hb,rfl⟩) ?_ (fun b o hb n => (oth b (jH hT dT hb n)).trans hb) ⟨oe,(oth e Te.symm).trans he,hod⟩)
 exact ⟨oe,vs,T,_,_,(oth e Te.symm).trans he,hc,hd,h1,nT,Te,Heap.get?_update_self _ hT (Obj.isFreed_of_fields (Obj.data_mapFields dT _)),Obj.data_mapFields dT _,by simp [sz]⟩
theorem CC {oe : Obj} {vs : Array Value} (fr : A.frames = some (env :: outer)) (fu : s.heap.FunFrames B (env :: outer)) (hf : env.frame = some L) (he : s.heap.get? e = some oe) (st : B.StaysIn s.heap) (ne : B.get? e = none)
  (hd : oe.data = .fields vs) (h1 : vs[1]? = some .none) (h0 : vs[0]? = some a0) (k : ∀ h',B.FlyingW outer e oe.cls a0 h' → s.heap.UpToSlots h' → pe h' e oe.dict → Q () { s with heap := h' }) : wpAny M A (leaving env (.ref e)) Q XE s := by
 unfold leaving
 refine wpAny_bind (vk fr fu hf he st ne hd h1 h0 fun h1 q dc => ?_)
 exact jh (s := { s with heap := h1 }) q.1 q.2.1 q.2.2.1 dc fun h2 a b c d yF => k h2 ⟨a,ne,b.2.2,c⟩ (Heap.UpToSlots.trans q.2.2.2 fun b o hb n => ⟨o.slots,d b o hb n⟩) yF
theorem yG (fr : A.frames = some (env :: outer)) (hf : env.frame = some L) (fly : B.FlyingW (env :: outer) e cls a0 s.heap) (dc : pe s.heap e od)
  (k : ∀ h',B.FlyingW outer e cls a0 h' → s.heap.UpToSlots h' → pe h' e od → Q () { s with heap := h' }) : wpAny M A (leaving env (.ref e)) Q XE s := by
 unfold leaving
 refine wpAny_bind (qj fr hf fly dc fun h1 q dc => ?_)
 exact jh (s := { s with heap := h1 }) q.1 q.2.1 q.2.2.1 dc fun h2 a b c d yF => k h2 ⟨a,fly.2.1,b.2.2,c⟩ (Heap.UpToSlots.trans q.2.2.2 fun b o hb n => ⟨o.slots,d b o hb n⟩) yF
theorem zW (fr : A.frames = some (env :: outer)) (hf : env.frame = some L) (fly : B.FlyingW (env :: outer) e cls a0 s.heap) (dc : pe s.heap e od)
  (k : ∀ h',B.HeldW (env :: outer) e cls a0 L h' → s.heap.UpToSlots h' → pe h' e od → Q () { s with heap := h' }) : wpAny M A (noteFrame (.ref e) env) Q XE s :=
 qj fr hf fly dc fun h1 q dc => k h1 ⟨q.1,fly.2.1,q.2.1,q.2.2.1⟩ q.2.2.2 dc
theorem Gk (h : B.HeldW l e cls a0 L s.heap) (dc : pe s.heap e od) (k : ∀ h',B.FlyingW l e cls a0 h' → s.heap.UpToSlots h' → pe h' e od → Q () { s with heap := h' }) : wpAny M A (setFlight (.ref e) none) Q XE s :=
 jh h.1 h.2.2.1 h.2.2.2 dc fun h2 a b c d yF => k h2 ⟨a,h.2.1,b,c⟩ (fun b o hb n => ⟨o.slots,d b o hb n⟩) yF
theorem Gm (h : B.FlyingW l e cls a0 s.heap) (dc : pe s.heap e od) (k : ∀ h',B.FlyingW l e cls a0 h' → s.heap.UpToSlots h' → pe h' e od → Q () { s with heap := h' }) : wpAny M A (setFlight (.ref e) none) Q XE s :=
 jh h.1 h.2.2.1 h.2.2.2.at dc fun h2 a b c d yF => k h2 ⟨a,h.2.1,b,c⟩ (fun b o hb n => ⟨o.slots,d b o hb n⟩) yF
end
abbrev oz : List Value := [.type "ValueError",.type "Exception",.type "BaseException",.type "object"]
abbrev eO (C t : Addr) (od : Option Addr) : Obj := { cls := .ref C,dict := od,data := .fields #[.ref t,.none,.none,.none,.bool false,.none] }
structure fz (K : PySem.W.Frag) (C R fI : Addr) : Prop where
 lk : ∃ dd nm bs ns qn sn sub ab col k0 k1 k2 k3 k5,K.lookup C = some ⟨.type "type",dd,.cls ⟨nm,bs,.ref C :: .ref R :: oz,ns,qn,true,sn,sub,ab,col,false⟩,#[k0,k1,k2,k3,some (.builtin "ValueError.__new__"),k5]⟩
 ini : findIn K (.ref C) "__init__" = some (some (.ref fI))
 fn : typeIn K (.ref fI) = some (.type "function")
 row : Gj K R oz "ValueError.__new__"
 rtl : mroIn K R (.type "object") = some true
 sa : findIn K (.ref C) "__setattr__" = some (some (.builtin "object.__setattr__"))
 na : takerIn K C "at" = some none
 nat : findIn K (.ref C) "at" = some none
 hd : hasDictIn K C = true
 rd : qf K C
 sg : specialIn K (.ref R) "__getattribute__" = some (some (.builtin "type.__getattribute__"))
 rr : readsIn K R (.type "type") = true
 fi : findCls K (.ref R) (.type "type") "__init__" = some (.val (.builtin "ValueError.__init__"))
section
variable {K : PySem.W.Frag} {C R fI : Addr} {h : Heap}
theorem fz.obj (c : fz K C R fI) (X : K.In h) : ∃ N nm q bs sn sub ab col dd k0 k1 k2 k3 k5,h.get? C = some (excClassObj nm q C N bs (.ref R :: oz) true sn sub ab col dd k0 k1 k2 k3 k5 "ValueError.__new__") := by
 obtain ⟨dd,nm,bs,ns,qn,sn,sub,ab,col,k0,k1,k2,k3,k5,e⟩ := c.lk
 exact ⟨ns,nm,qn,bs,sn,sub,ab,col,dd,k0,k1,k2,k3,k5,X _ _ e⟩
theorem fz.tail (c : fz K C R fI) (X : K.In h) : OwnTail h oz (.ref R :: oz) := by
 obtain ⟨bm,N,nm,q,bs,hdct,sn,sub,ab,col,dd,k0,k1,k2,k3,k5,mN,hR,hN,hni,_⟩ := c.row.obj X
 exact .own hR hN hni .base
variable {prog : Program} {w : World} {A : Around} {XE : Value → Shared → Prop} {s : Shared}
theorem pw (c : fz K C R fI) (X : K.In s.heap) {rest : List Value} {Q : Fin → Shared → Prop} (hz : rest.length ≤ sizeLine)
  (k : wpAny (model prog w) A (call (.ref fI) (.ref (s.heap.objs.size + 1) :: rest)) (fun r s' => r = .none ∧ Q (.done (.ret (.ref (s.heap.objs.size + 1)))) s') XE { s with heap := (s.heap.push { cls := .type "tuple",data := .seq rest.toArray }).push (eO C s.heap.objs.size none) }) :
  wpAny (model prog w) A (Builtin.«type.__call__» ⟨.ref C :: rest,[]⟩) Q XE s := by
 obtain ⟨N,nm,q,bs,sn,sub,ab,col,dd,k0,k1,k2,k3,k5,hC⟩ := c.obj X
 have T := c.tail X
 have F := PySem.F.excBase_ValueError
 obtain ⟨h,g,d,t,os⟩ := s
 dsimp only at hC T X k ⊢
 repeat (first | with_reducible refine wpAny_loadPart_at hC ?_ | with_reducible refine wpAny_madeBy_exc hC ?_ | wp_step)
 refine codeAny_call_builtin_code (Code.quiet_builtin _ F.quiet) (wpAny_check_new_subT F T hC ?_)
 refine codeAny_exc_new_subT F T hC ?_ hz
 show wpAny _ _ _ _ _ _
 have kp : ∀ b o,h.get? b = some o → ((h.push { cls := .type "tuple",data := .seq rest.toArray }).push (eO C h.objs.size none)).get? b = some o := fun b o e => Heap.get?_push_of_some _ (Heap.get?_push_of_some _ e)
 have X1 := X.keeps kp
 have hC1 := kp _ _ hC
 have he : ((h.push { cls := .type "tuple",data := .seq rest.toArray }).push (eO C h.objs.size none)).get? (h.objs.size + 1) = some (eO C h.objs.size none) := by heap_get
 have hcC : (Value.ref C :: .ref R :: oz).contains (.ref C) = true := by simp
 unfold isInstance
 repeat (first | with_reducible refine wpAny_loadPart_at he ?_ | (with_reducible refine wpAny_isSubtype_exc hC1 ?_; rw [hcC]) | wp_step)
 show wpAny _ _ (typeLookup (.ref C) _) _ _ _
 refine (looks_findIn X1 c.ini).here ?_
 refine wpAny_holding (wpAny_bind ?_)
 unfold bindSpecial
 refine wpAny_bind ((looks_typeIn X1 c.fn).here ?_)
 rw [if_pos (by decide)]
 refine wpAny_pure (wpAny_bind (wpAny_mono k (fun r s' hr => ?_) fun _ _ x => x))
 obtain ⟨rfl,hQ⟩ := hr
 wp_walk
 exact hQ
theorem zX (c : fz K C R fI) (X : K.In s.heap) {rest : List Value} {Q : Value → Shared → Prop} (hz : rest.length ≤ sizeLine)
  (k : wpAny (model prog w) (A.under (.builtin "type.__call__" ⟨.ref C :: rest,[]⟩)) (call (.ref fI) (.ref (s.heap.objs.size + 1) :: rest)) (fun r s' => r = .none ∧ Q (.ref (s.heap.objs.size + 1)) s') XE { s with heap := (s.heap.push { cls := .type "tuple",data := .seq rest.toArray }).push (eO C s.heap.objs.size none) }) :
  wpAny (model prog w) A (call (.ref C) rest) Q XE s := by
 obtain ⟨N,nm,q,bs,sn,sub,ab,col,dd,k0,k1,k2,k3,k5,hC⟩ := c.obj X
 have f1 := tc_lookup
 have f2 := tc_bind (.ref C)
 have hT : s.TypeIs (.ref C) "type" := ⟨_,hC,rfl⟩
 refine wpAny_call (codeAny_of_tree ?_)
 show wpAny _ _ (callAny (.ref C) _) _ _ _
 have k2 := fun Q' k' => pw (prog := prog) (w := w) (A := A.under (.builtin "type.__call__" ⟨.ref C :: rest,[]⟩)) (XE := XE) c X (rest := rest) (Q := Q') hz k'
 obtain ⟨h,g,d,t,os⟩ := s
 dsimp only at hC hT X k k2 ⊢
 repeat (any_goals (first | assumption | with_reducible refine wpAny_loadPart_at hC ?_ | wp_step))
 refine ⟨rfl,?_⟩
 exact codeAny_call_builtin_at (Code.quiet_builtin _ (by decide +kernel)) entry_typeCall (wpAny_check_type_call_sub hC (k2 _ k))
theorem zY (c : fz K C R fI) (X : K.In s.heap) {e t : Addr} {m : Value} {Q : Value → Shared → Prop} (he : s.heap.get? e = some (eO C t none))
  (k : ∀ h',(∀ b o,b ≠ e → s.heap.get? b = some o → h'.get? b = some o) → h'.get? e = some (eO C s.heap.objs.size none) → Q .none { s with heap := h' }) :
  wpAny (model prog w) A (call (.builtin "ValueError.__init__") [.ref e,m]) Q XE s := by
 obtain ⟨N,nm,q,bs,sn,sub,ab,col,dd,k0,k1,k2,k3,k5,hC⟩ := c.obj X
 have T := c.tail X
 have F := PySem.F.excBase_ValueError
 obtain ⟨h,g,d,tk,os⟩ := s
 dsimp only at hC T X k he ⊢
 refine wpAny_call (codeAny_call_builtin F.init.plain F.initEntry (wpAny_check_init_subT F T hC he rfl ?_))
 have he2 := Heap.get?_push_of_some { cls := .type "tuple",data := .seq #[m] } he
 repeat (first | with_reducible refine wpAny_setField he2 rfl (by decide) ?_ | wp_step)
 refine k _ (fun b o n hb => ?_) ?_
 ·rw [Heap.get?_update_other _ _ (Ne.symm n)]
  exact Heap.get?_push_of_some _ hb
 ·rw [Heap.get?_update_self _ he2 rfl]
  rfl
theorem Gn (c : fz K C R fI) (X : K.In s.heap) {e t : Addr} {v : Value} {Q : Unit → Shared → Prop} (he : s.heap.get? e = some (eO C t none))
  (k : ∀ h' tk',(∀ b o,b ≠ e → s.heap.get? b = some o → h'.get? b = some o) → h'.get? e = some (eO C t (some s.heap.objs.size)) → h'.Ns1 s.heap.objs.size (fun y => if y = "at" then some v else none) → Q () { s with heap := h',toks := tk' }) :
  wpAny (model prog w) A (setAttr (.ref e) "at" v) Q XE s := by
 obtain ⟨N,nm,q,bs,sn,sub,ab,col,dd,k0,k1,k2,k3,k5,hC⟩ := c.obj X
 have SF := PySem.F.store_ValueError
 have J : InstAt s.heap e (eO C t none) C none := ⟨he,rfl,rfl,True.intro⟩
 refine set_plain X J c.sa ?_
 have hm : Looks (model prog w) s.heap (mroOf (.ref C)) (.ref C :: .ref R :: oz) := (Looks.ld hC).andThen .now
 have sub' : Looks (model prog w) s.heap (isInstance (.ref e) (.type "object")) true := J.type.andThen (looks_mroIn X c.rd.ob)
 refine codeAny_call_builtin SF.slot.plain SF.entry (@check_slot (model prog w) _ _ { s with toks := s.toks + 1 } "object.__setattr__" "object" "__setattr__" (.ref e) [.str "at" s.toks,v] [] _ SF.kind SF.split sub' (SF.args (.ref e) (.str "at" s.toks) v) ?_)
 rw [osa_eq,refuse_eq]
 refine wpAny_bind (wpAny_bind (Looks.here (s := { s with toks := s.toks + 1 }) J.type (wpAny_bind (Looks.here (s := { s with toks := s.toks + 1 }) hm ?_))))
 rw [refuseLoop_ref,refuseLoop_ref,SF.passes]
 refine wpAny_pure (wpAny_bind (Looks.here (s := { s with toks := s.toks + 1 }) J.type (wpAny_bind (Looks.here (s := { s with toks := s.toks + 1 }) (looks_findIn X c.nat) ?_))))
 refine wpAny_bind (wpAny_pure ?_)
 have hc : clsIn K C = some ⟨nm,bs,.ref C :: .ref R :: oz,N,q,true,sn,sub,ab,col,false⟩ := by
  obtain ⟨Er,nm',bs',ns',qn',sn',sub',ab',col',k0',k1',k2',k3',k5',e'⟩ := c.lk
  have := X _ _ e'
  rw [hC] at this
  cases this
  unfold clsIn
  rw [e']
 refine wpAny_bind (wpAny_pure (wpAny_bind (wpAny_bind (wpAny_loadPart he (wpAny_bind (Looks.here (s := { s with toks := s.toks + 1 }) (looks_clsIn X hc) ?_))))))
 rw [if_neg (by simp)]
 show wpAny _ _ (if (!true || !typeHasDict (Value.ref C)) = true then pure none else _) _ _ _
 rw [if_neg (by simp [typeHasDict])]
 have hs0 : e ≠ s.heap.objs.size := Nat.ne_of_lt (Heap.lt_size he)
 have N4 := Heap.get?_push_of_some { cls := .type "dict",data := .dict #[] } he
 refine wpAny_bind (wpAny_alloc' ?_)
 refine wpAny_bind (wpAny_update' N4 ?_)
 refine wpAny_pure ?_
 have he2 : ((s.heap.push { cls := .type "dict",data := .dict #[] }).update e fun o => { cls := o.cls,dict := some s.heap.objs.size,data := o.data,slots := o.slots }).get? e = some (eO C t (some s.heap.objs.size)) := Heap.get?_update_self _ N4 rfl
 have hd2 : ((s.heap.push { cls := .type "dict",data := .dict #[] }).update e fun o => { cls := o.cls,dict := some s.heap.objs.size,data := o.data,slots := o.slots }).get? s.heap.objs.size = some { cls := .type "dict",data := .dict #[] } :=
  (Heap.get?_update_ne _ _ _ _ hs0.symm).trans (Heap.get?_push_at rfl rfl)
 have kp : ∀ b o,b ≠ e → s.heap.get? b = some o → ((s.heap.push { cls := .type "dict",data := .dict #[] }).update e fun o => { cls := o.cls,dict := some s.heap.objs.size,data := o.data,slots := o.slots }).get? b = some o := fun b o n hb =>
  (Heap.get?_update_ne _ _ _ _ n).trans (Heap.get?_push_of_some _ hb)
 generalize ((s.heap.push { cls := .type "dict",data := .dict #[] }).update e fun o => { cls := o.cls,dict := some s.heap.objs.size,data := o.data,slots := o.slots }) = h2 at he2 hd2 kp ⊢
 have nd : h2.Ns s.heap.objs.size (fun _ => none) := ⟨_,#[],_,hd2,rfl,fun e he => absurd he (by simp),fun _ => rfl⟩
 show wpAny _ _ (Builtin.ObjectAttr.storeInDict s.heap.objs.size (.str "at" s.toks) "at" v) _ _ _
 unfold Builtin.ObjectAttr.storeInDict Builtin.ObjectAttr.newKeyGuard
 refine wpAny_bind (wpAny_pure (wpAny_bind (wpAny_nsSet1 (Heap.Ns1.of_empty nd) fun h3 hn3 hs3 => ?_)))
 obtain ⟨oD,esD,epD,hoD,hdD,hcD⟩ := hn3.count (Within.cons "at" v Within.nil)
 refine wpAny_bind (wpAny_lookBehind hoD (by rw [hdD]; exact pastItsLine_dict (Nat.le_trans hcD (by rw [List.length_cons,List.length_nil,sizeLine_eq]; omega))) ?_)
 refine wpAny_pure ?_
 exact k h3 _ (fun b o n hb => (hs3.2 b (Nat.ne_of_lt (Heap.lt_size hb))).trans (kp b o n hb)) ((hs3.2 e hs0).trans he2) hn3
theorem Gq (c : fz K C R fI) (X : K.In s.heap) {e d : Addr} {o : Obj} {mA : Str → Option Value} {v : Value} {expr : Bool} {Q : Value → Shared → Prop} (he : s.heap.get? e = some o) (hcl : o.cls = .ref C) (hnc : notCls o = true) (hd : o.dict = some d) (hn : s.heap.Ns1 d mA) (hv : mA "at" = some v) (hh : handedIn v = true)
  (k : Q v { s with toks := s.toks + 1 }) : wpAny (model prog w) A (getAttr (.ref e) "at" expr) Q XE s := by
 obtain ⟨od,hod,hl⟩ := pT hn
 have J : InstAt s.heap e o C (some od) := ⟨he,hcl,hnc,by rw [hd]; exact hod⟩
 have hf : findObj K C (some od) "at" = some (.value v) := findObj_own c.hd c.nat rfl (by rw [hl,hv])
 have L0 := J.type (M := model prog w)
 have L1 := looks_findIn (M := model prog w) X c.rd.ga
 have L2 := looks_findIn (M := model prog w) X c.rd.gh
 have L3 := looks_mroIn (M := model prog w) X c.rd.bx
 have L4 := looks_find (M := model prog w) X J hf
 have FB := PySem.F.attr_ValueError
 obtain ⟨h,g,dr,tk,os⟩ := s
 dsimp only at X L0 L1 L2 L3 L4 k ⊢
 unfold getAttr getAttrBy
 refine wpAny_bind (wpAny_mkText (wpAny_holding (wpAny_bind (L0.at (wpAny_bind (L1.at ?_))))))
 show wpAny _ _ (getAttrByItsOwn _ _ _ _ _ _) _ _ _
 unfold getAttrByItsOwn hookBefore
 rw [if_pos (show onTheHeap (Value.ref C) = true from rfl)]
 refine wpAny_bind (L2.at (wpAny_bind (wpAny_attempt (wpAny_holding ?_))))
 unfold callGetattribute
 rw [show (expr && onTheHeap (Value.builtin "BaseException.__getattribute__")) = false from Bool.and_false _,if_neg (by decide)]
 unfold boundAndCalled
 rw [FB.ga.bind (.ref e)]
 refine wpAny_bind (wpAny_pure (wpAny_call ?_))
 refine codeAny_call_builtin FB.ga.plain PySem.F.entry_bexc_ga ?_
 refine qg L0 L3 ?_
 unfold Builtin.«object.__getattribute__»
 refine wpAny_bind (wpAny_pure (wpAny_bind (wpAny_pure (wpAny_bind (L0.here (wpAny_bind (L4.here ?_)))))))
 refine wpAny_pure ?_
 show wpAny _ _ (handedOut v) _ _ _
 rw [handedOut_of hh]
 exact wpAny_pure k
end
def vm (e C : Addr) : HO := .ext fun h => ∃ t,h.get? e = some (eO C t none)
def vn (e C d : Addr) : HO := .ext fun h => ∃ t,h.get? e = some (eO C t (some d))
theorem wR {P : Program} {w : World} {H : Hp} {h : Heap} {e C t : Addr} (x : h.get? e = some (eO C t none)) : cD P w H h e (vm e C) :=
 ⟨⟨t,x⟩,⟨_,x⟩,fun h1 h2 ⟨t',a⟩ k => ⟨t',k _ a⟩⟩
theorem CD {P : Program} {w : World} {H : Hp} {h : Heap} {e C t d : Addr} (x : h.get? e = some (eO C t (some d))) : cD P w H h e (vn e C d) :=
 ⟨⟨t,x⟩,⟨_,x⟩,fun h1 h2 ⟨t',a⟩ k => ⟨t',k _ a⟩⟩
section
variable {X : Cx} {C R fI : Addr} {x : Str} {e v2 : Expr} {es : List Expr} {t : TA} {te : TE} {np apos pos p1 p2 p3 : Pos} {cc : Str} {j : Nat}
def J8 (te : TE) : TE := fun σ H Q => te σ H fun v H1 => ∃ i : Int,v = .int i ∧ i.natAbs < 10 ^ 12 ∧ ∀ u : Str,Q (.str u) H1
theorem CF (he : PE X e te) (hc : cc.length ≤ 1000) : PE X (.JoinedStr [.Constant (.str cc) j p1,.FormattedValue e (-1) none p2] p3) (J8 te) := by
 intro pins s σ H Q I h
 refine JoinedStr_many (joinParts_cons (Constant_str ⟨?_,joinParts_cons (FormattedValue_plain (cE (he pins _ σ H _ (I.tok _) h) fun u s1 ⟨v,H1,I1,r1,i,ev,hi,q⟩ => ?_))⟩))
 ·rw [strLen_append]
  have : (Str.empty).length = 0 := rfl
  rw [sizeLine_eq]
  omega
 ·subst ev
  obtain ⟨tk,rfl⟩ := (show ∃ tk,u = Value.int i tk from r1)
  have hl : i.natAbs.log2 < 1920 := by
   by_cases z : i.natAbs = 0
   ·rw [z]; decide
   ·refine (Nat.log2_lt z).mpr (Nat.lt_of_lt_of_le hi ?_)
    exact Nat.le_trans (show 10 ^ 12 ≤ 2 ^ 40 by decide) (Nat.pow_le_pow_right (by decide) (by decide))
  refine formatField_int_small hl ⟨?_,joinParts_nil ⟨.str _,H1,I1.tok _,⟨_,rfl⟩,q _⟩ ?_⟩
  all_goals
   have h10 := int_text_length_le10 (a := i) (k := 12) (by decide) hi
   have h11 : (Str.ofString (toString i)).length = (toString i).length := PySem.ofString_length _
   have h12 : (Str.empty).length = 0 := rfl
   rw [strLen_append,strLen_append,sizeLine_eq,h11]
   omega
def J9 (C : Addr) (t : TA) : TE := fun σ H Q => t σ H fun vs H1 => ∃ e y,vs = [.ref e,y] ∧ H1 e = some (vm e C) ∧ Q .non (upd H1 e (vm e C))
theorem CG {pl : Sem Bool} (c : fz X.K C R fI) (hg : Gl X x) (hm : X.mg x = some (.ref R)) (ha : PA X (e :: es) t)
  (ht : eval (.Call (.Attribute (.Name x np) "__init__" apos) (e :: es) [] pos) X.env = (do
   let ov ← eval (.Name x np) X.env
   standAt apos.atName
   let (f,first) ← holding [ov] (getMethod ov "__init__" pl)
   callWith pos f first (backTo pos (starEach (e :: es) X.env)) (backToKw pos (keywordEach [] X.env))) := by rfl)
  (he : starEach (e :: es) X.env = (false,eval e X.env) :: starEach es X.env := by rfl) (hpl : (backTo pos (starEach es X.env)).any (·.1) = false := by rfl) (hdb : (x == ("__debug__" : Str)) = false := by decide) :
  PE X (.Call (.Attribute (.Name x np) "__init__" apos) (e :: es) [] pos) (J9 C t) := by
 intro pins s σ H Q I h
 refine methodCall_KW (pl := pl) (i9 I hg hm ?_ hdb) ht
 refine method_cls I.jF c.sg (cls_value I.jF c.rr c.fi rfl ?_)
 refine callWith_builtin1 (cE (ha pos pins _ σ H _ (I.tok _) h) fun us s1 ⟨vs,H1,I1,r1,e0,y,ev,hx,q⟩ => ?_) he hpl
 subst ev
 cases r1 with
 | cons r1 r2 =>
  cases r2 with
  | cons r2 r3 =>
   cases r3
   obtain rfl : _ = Value.ref e0 := r1
   obtain ⟨t0,ht0⟩ := (I1.hok e0 _ hx).1
   exact zY c I1.jF ht0 fun h' kp e2 => ⟨.non,_,I1.write (x := e0) (e := e0) (t' := s1.toks) (by rw [hx]; exact True.intro) (.inl rfl) kp ⟨_,e2⟩ (wR e2),rfl,q⟩
def PV (C : Addr) (ta tv : TE) : TS := fun D σ H => tv σ H fun y H1 => ta σ H1 fun z H2 => ∃ e0,z = .ref e0 ∧ H2 e0 = some (vm e0 C) ∧ ∀ d,H2 d = none → d ≠ e0 → D.nx σ (upd (upd H2 d (.xd [("at",y)])) e0 (vn e0 C d))
theorem CH {y : V} {u : Value} (r : RelV y u) (f : Str) : jU (([("at",y)] : List (Str × V)).lookup f) (if f = "at" then some u else none) := by
 by_cases h : f = "at"
 ·subst h
  rw [if_pos rfl,List.lookup_cons_self]
  exact r
 ·rw [if_neg h,List.lookup_cons,show (f == ("at" : Str)) = false from beq_eq_false_iff_ne.mpr h]
  exact True.intro
theorem Gs {o value : Expr} {ta tv : TE} {pos' : Pos} (c : fz X.K C R fI) (ha : PE X o ta) (hv : PE X value tv) (hs : swapsWith value (some (.Attribute o "at" pos')) pos.line X.env = pure false) : PS X (.Assign [.Attribute o "at" pos'] value pos) (PV C ta tv) := by
 intro pins s σ H D I h
 refine plainObj_wpAny_Assign_Attribute (cE (hv pins s σ H _ I h) fun u s1 ⟨y,H1,I1,ry,q⟩ => cE (ha pins s1 σ H1 _ I1 q) fun ov s2 ⟨z,H2,I2,rz,e0,ez,hx,q2⟩ => ?_) hs
 subst ez
 obtain rfl : ov = Value.ref e0 := rz
 obtain ⟨t0,ht0⟩ := (I2.hok e0 _ hx).1
 refine Gn c I2.jF ht0 fun h' tk kp e2 ns => ?_
 have n0 : s2.heap.objs.size ≠ e0 := Nat.ne_of_gt (Heap.lt_size ht0)
 obtain ⟨oD,esD,epD,hoD,rD⟩ := id ns
 have fr : oD.isFreed = false := (Heap.get?_some_iff.mp hoD).2
 have g1 : (s2.heap.push oD).get? s2.heap.objs.size = some oD := Heap.get?_push_size s2.heap fr
 have I3 := I2.laid (a := s2.heap.objs.size) (o := .xd [("at",y)]) (h' := s2.heap.push oD) (t' := tk) (fun b u e => Heap.get?_push_of_some _ e) (Nat.le_refl _) ⟨_,⟨oD,esD,epD,g1,rD⟩,CH ry⟩
 have I4 := I3.write (x := e0) (e := e0) (o := vn e0 C s2.heap.objs.size) (h' := h') (t' := tk) (by rw [aX n0.symm,hx]; exact True.intro) (.inl rfl) (fun b u n e => ?_) ⟨_,e2⟩ (CD e2)
 ·exact ⟨σ,_,I4,q2 _ I2.fresh n0⟩
 ·by_cases hb : b = s2.heap.objs.size
  ·subst hb
   rw [g1] at e
   cases e
   exact hoD
  ·refine kp b u n ?_
   rw [← e]
   exact (Heap.get?_push_ne _ _ _ hb).symm
end
def rH (C : Addr) : Sp := fun vs H Q _ => ∃ (e : Addr) (i : Int),vs = [.ref e,.int i] ∧ H e = some (vm e C) ∧ i.natAbs < 10 ^ 12 ∧ ∀ d,H d = none → d ≠ e → Q .non (upd (upd H d (.xd [("at",.int i)])) e (vn e C d))
theorem Ka {H : Hp} {e d : Addr} {a b c : HO} (n : d ≠ e) : upd (upd (upd H e a) d b) e c = upd (upd H d b) e c := by
 funext x
 unfold upd
 by_cases h : x = e
 ·simp [h]
 ·by_cases h2 : x = d
  ·simp [h,h2]
  ·simp [h,h2]
def rm (H : Hp) (e : Addr) : Hp := fun c => if c = e then none else H c
theorem wU {H : Hp} {e c : Addr} (h : c ≠ e) : rm H e c = H c := by
 unfold rm
 rw [if_neg h]
theorem wV {H : Hp} {e : Addr} : rm H e e = none := by
 unfold rm
 rw [if_pos rfl]
theorem CI {H : Hp} {e d : Addr} {a b : HO} (n : d ≠ e) (he : H e = none) : rm (upd (upd H d a) e b) e = upd H d a := by
 funext x
 by_cases h : x = e
 ·subst h
  rw [wV,aX n.symm,he]
 ·rw [wU h,aX h]
def eR (P : Program) (w : World) : yt := fun outer H s E e s' => ∃ (ea : Addr) (cls a0 : Value) (od : Option Addr) (H' : Hp) (B : Heap),e = .ref ea ∧ B.FlyingW outer ea cls a0 s'.heap ∧ pe s'.heap ea od ∧
 (∀ b o,s.heap.get? b = some o → b ∉ frs outer → ∃ o',B.get? b = some o') ∧ (∀ b o,H' b = some o → ∃ o',B.get? b = some o') ∧
 s'.os = s.os ∧ AllBare s'.gens ∧ Un (frs outer) [] H H' s.heap s'.heap ∧ iG P w H' s'.heap ∧ E cls od H'
section
variable {X : Cx} {C R f : Addr} {fd : FuncData} {k : Nat}
theorem CJ {pins : List (Addr × Obj)} {σ : St} {H : Hp} {s : Shared} {i : Int} {us : List Value} {Q : VK} {XE : Value → Shared → Prop} (c : fz X.K C R f) (F : aY X.prog X.w X.K X.mg X.base cQ k f fd ["self", "at"] (rH C)) (hr : dW (k + 1) X.A) (hb : Binds X.K fd ["self", "at"] []) (I : Inv X pins σ H s) (r : Vals [.int i] us) (hi : i.natAbs < 10 ^ 12)
  (h : ∀ e d,s.heap.objs.size ≤ e → H e = none → H d = none → d ≠ e → Q (.ref e) (upd (upd H d (.xd [("at",.int i)])) e (vn e C d))) : wpAny (model X.prog X.w) X.A (call (.ref C) us) (EP X pins σ Q) XE s := by
 have hz : us.length ≤ sizeLine := by
  rw [← r.length,sizeLine_eq]
  show 1 ≤ 16777216
  decide
 have I1 := I.kept (t' := s.toks) (h' := s.heap.push { cls := .type "tuple",data := .seq us.toArray }) (fun b u e => Heap.get?_push_of_some _ e)
 have he : ((s.heap.push { cls := .type "tuple",data := .seq us.toArray }).push (eO C s.heap.objs.size none)).get? (s.heap.objs.size + 1) = some (eO C s.heap.objs.size none) := by heap_get
 have I2 := I1.laid (a := s.heap.objs.size + 1) (o := vm (s.heap.objs.size + 1) C) (t' := s.toks) (h' := (s.heap.push { cls := .type "tuple",data := .seq us.toArray }).push (eO C s.heap.objs.size none)) (fun b u e => Heap.get?_push_of_some _ e) (Nat.le_of_eq (Heap.size_push _ _)) (wR he)
 have hn : H (s.heap.objs.size + 1) = none := I.hok.fresh (Nat.le_succ _)
 have r2 : Vals (V.ref (s.heap.objs.size + 1) :: [V.int i]) (Value.ref (s.heap.objs.size + 1) :: us) := .cons rfl r
 have hl : (Value.ref (s.heap.objs.size + 1) :: us ++ []).length = ["self", "at"].length := by
  have e := r2.length
  rw [List.append_nil]
  exact e.symm
 have hq : rH C [V.ref (s.heap.objs.size + 1),V.int i] (upd H (s.heap.objs.size + 1) (vm (s.heap.objs.size + 1) C)) (fun v H2 => v = .non ∧ Q (.ref (s.heap.objs.size + 1)) H2) E0 := by
  refine ⟨_,i,rfl,ah,hi,fun d hd ne => ⟨rfl,?_⟩⟩
  rw [Ka ne]
  rw [aX ne] at hd
  exact h _ d (Nat.le_succ _) hn hd ne
 refine zX c I.jF hz (wpAny_call (codeAny_mono (F.run _ X.stack _ _ ⟨Value.ref (s.heap.objs.size + 1) :: us,[]⟩ (Value.ref (s.heap.objs.size + 1) :: us) _ _ E0 (hr.make C us []) (I2.env0.make C us []) (by have := hb _ (Value.ref (s.heap.objs.size + 1) :: us) I2.jF hl; rw [List.append_nil] at this; exact this) r2 hq) fun r s' hq' => ?_))
 cases r with
 | error e => exact False.elim hq'
 | ok fl =>
  cases fl with
  | ret u =>
   obtain ⟨v,H',I3,rv,ev,q3⟩ := I2.after hq'
   subst ev
   exact ⟨rv,⟨V.ref (s.heap.objs.size + 1),H',I3,rfl,q3⟩⟩
  | next => exact False.elim hq'
  | brk => exact False.elim hq'
  | cont => exact False.elim hq'
theorem vo {M : Model} {A : Around} {XE : Value → Shared → Prop} {K : PySem.W.Frag} {s : Shared} {env : Env} {z : Sem Value} {Q : Flow → Shared → Prop} (c : fz K C R f) (hh : A.handled = none)
  (h : wpAny M A z (fun v s1 => ∃ e t od,v = .ref e ∧ K.In s1.heap ∧ s1.heap.get? e = some (eO C t od) ∧ XE (.ref e) s1) XE s) : wpAny M A (raiseStmt env (some z) none) Q XE s := by
 have hcB : (Value.ref C :: .ref R :: oz).contains (.type "BaseException") = true := by simp
 unfold raiseStmt
 refine wpAny_bind (wpAny_mono h (fun v s1 h1 => ?_) fun _ _ x => x)
 obtain ⟨e,t,od,rfl,X,he,hE⟩ := h1
 obtain ⟨N,nm,q,bs,sn,sub,ab,col,dd,k0,k1,k2,k3,k5,hC⟩ := c.obj X
 obtain ⟨hp,g,d,tk,os⟩ := s1
 dsimp only at hC he X
 repeat (first | with_reducible refine wpAny_loadPart_at he ?_ | with_reducible refine wpAny_loadPart_at hC ?_ | (with_reducible refine wpAny_isSubtype_exc hC ?_; rw [hcB]) | wp_step)
 exact wpAny_raiseNew_none hh hE
end
def CK (C : Addr) (t : TA) (E : XK) : TS := fun _ σ H => t σ H fun vs H1 => ∃ i : Int,vs = [.int i] ∧ i.natAbs < 10 ^ 12 ∧ ∀ d,H1 d = none → E (.ref C) (some d) (upd H1 d (.xd [("at",.int i)]))
section
variable {P : Program} {w : World} {K : PySem.W.Frag} {mg : Str → Option Value} {base : Heap} {N : List Str} {qual : Str} {scope : Scope} {f : Addr} {cd : Value} {A : Around} {outer : List Env} {s₀ : Shared} {H₀ : Hp} {E : XK}
theorem d7 {C R fI : Addr} {fd : FuncData} {k : Nat} {x : Str} {np cpos pos : Pos} {a : Expr} {as : List Expr} {t : TA} (c : fz K C R fI) (kp : keepIn K (.ref C) = true) (F : aY P w K mg base cQ k fI fd ["self", "at"] (rH C)) (hb : Binds K fd ["self", "at"] []) (hr : dW (k + 1) (A.deeper (envOfC qual scope s₀.heap.objs.size f cd))) (hm : mg x = some (.ref C))
  (hg : Gl (fh (eR P w) P w K mg base N qual scope f cd A outer s₀ H₀ E) x) (ha : PA (fh (eR P w) P w K mg base N qual scope f cd A outer s₀ H₀ E) (a :: as) t) (hd : (x == ("__debug__" : Str)) = false := by decide)
  (he : starEach (a :: as) (fh (eR P w) P w K mg base N qual scope f cd A outer s₀ H₀ E).env = (false,eval a (fh (eR P w) P w K mg base N qual scope f cd A outer s₀ H₀ E).env) :: starEach as (fh (eR P w) P w K mg base N qual scope f cd A outer s₀ H₀ E).env := by rfl)
  (hpl : (backTo cpos (starEach as (fh (eR P w) P w K mg base N qual scope f cd A outer s₀ H₀ E).env)).any (·.1) = false := by rfl) :
  PS (fh (eR P w) P w K mg base N qual scope f cd A outer s₀ H₀ E) (.Raise (some (.Call (.Name x np) (a :: as) [] cpos)) none pos) (CK C t E) := by
 intro pins s σ H D I h
 have hr' : dW (k + 1) (fh (eR P w) P w K mg base N qual scope f cd A outer s₀ H₀ E).A := hr
 rw [arm_exec_Raise]
 refine wpAny_bind (wpAny_standAt (vo c (I.ok.hd rfl) (wpAny_bind (wpAny_mono (wpAny_Call_Name_kw (i9 I hg hm (callWith_K (h₀ := base) I.ok.mod.Ju kp (cE (ha cpos pins s σ H _ I h) fun us s1 ⟨vs,H1,I1,r,i,ev,hi,q⟩ => ⟨I1.jF,?_⟩) he hpl) hd)) (fun v s3 h3 => wpAny_bind (wpAny_standAt (wpAny_pure h3))) fun _ _ z => z))))
 subst ev
 refine cE (CJ (Q := fun v H2 => ∃ e d,v = .ref e ∧ s1.heap.objs.size ≤ e ∧ H1 e = none ∧ H1 d = none ∧ d ≠ e ∧ H2 = upd (upd H1 d (.xd [("at",.int i)])) e (vn e C d)) c F hr' hb I1 r hi fun e d h0 h1 h2 h3 => ⟨e,d,rfl,h0,h1,h2,h3,rfl⟩) fun v s4 hv => ?_
 obtain ⟨vv,H4,I4,rv,e,d,rfl,ge,ne,nd,de,hH4⟩ := hv
 obtain rfl : v = Value.ref e := rv
 have PX : H4 e = some (vn e C d) := by rw [hH4,ah]
 have hrm : rm H4 e = upd H1 d (.xd [("at",.int i)]) := by rw [hH4]; exact CI de ne
 obtain ⟨t0,ht0⟩ := (I4.hok e _ PX).1
 refine ⟨e,t0,some d,rfl,I4.jF,ht0,?_⟩
 have bk := I4.bk
 have stk : ∀ {b o},s₀.heap.get? b = some o → b ∉ frs outer → b ∉ frs ((envOfC qual scope s₀.heap.objs.size f cd) :: outer) := fun {b o} hb nf hx => by
  rcases List.mem_cons.mp (I4.kX b hx) with e | e
  ·have h1 := Heap.lt_size hb
   have h2 : s₀.heap.objs.size ≤ (envOfC qual scope s₀.heap.objs.size f cd).locals := I4.ok.above
   have e : b = (envOfC qual scope s₀.heap.objs.size f cd).locals := e
   rw [e] at h1
   exact absurd h1 (Nat.not_lt.mpr h2)
  ·exact nf e
 have ub : Un (frs outer) [] H₀ H4 s₀.heap s4.heap := I4.base
 have old : ∀ {b o},s₀.heap.get? b = some o → b ≠ e := fun {b o} hb z => by
  have h1 := Heap.lt_size hb
  have h2 : s₀.heap.objs.size ≤ s1.heap.objs.size := I1.sz
  exact absurd h1 (Nat.not_lt.mpr (Nat.le_trans h2 (z ▸ ge)))
 have hk : ∀ {b o},H4 b = some o → b ∉ frs ((envOfC qual scope s₀.heap.objs.size f cd) :: outer) := fun {b o} hb hx => by
  have := I4.i7 b hx
  rw [hb] at this
  cases this
 have nin : ∀ {b},b ∉ frs ((envOfC qual scope s₀.heap.objs.size f cd) :: outer) → b ≠ e → b ∉ frs ((envOfC qual scope s₀.heap.objs.size f cd) :: outer) ++ [e] := fun {b} h1 h2 h3 => by
  rcases List.mem_append.mp h3 with h | h
  ·exact h1 h
  ·exact h2 (by simpa using h)
 refine CC (B := less s4.heap (frs ((envOfC qual scope s₀.heap.objs.size f cd) :: outer) ++ [e])) (L := (envOfC qual scope s₀.heap.objs.size f cd).locals) I4.ok.frames (jf I4.stack fun b h => List.mem_append_left _ h) rfl ht0 jN (h7 (by simp)) rfl rfl rfl fun h'' fly up dc => ?_
 have stay : ∀ {b u},b ∉ frs ((envOfC qual scope s₀.heap.objs.size f cd) :: outer) → b ≠ e → s4.heap.get? b = some u → h''.get? b = some u := fun {b u} hb hn hu => fly.1 b u (by rw [cO (nin hb hn)]; exact hu)
 have Kb : ∀ {b o},rm H4 e b = some o → b ≠ e ∧ H4 b = some o := fun {b o} hb => by
  by_cases z : b = e
  ·rw [z,wV] at hb; cases hb
  ·exact ⟨z,by rw [wU z] at hb; exact hb⟩
 have tI : ∀ {b o},H4 b = some o → (∀ φ,o ≠ .ext φ) → rm H4 e b = some o := fun {b o} hb n => by
  have z : b ≠ e := fun z => by
   rw [z,PX] at hb
   cases hb
   exact n _ rfl
  rw [wU z]
  exact hb
 have slots : ∀ b o,s₀.heap.get? b = some o → H₀ b = none → b ∈ frs outer → ∃ sl,h''.get? b = some { o with slots := sl } := fun b o e n hb => by
  obtain ⟨sl,e1⟩ := ub.slot b o e n hb (by simp)
  obtain ⟨_,o2,e2,nf⟩ := I4.jM.mem hb
  rw [e1] at e2
  cases e2
  obtain ⟨sl',e3⟩ := up b _ e1 nf
  exact ⟨sl',e3⟩
 refine ⟨e,.ref C,.ref t0,some d,rm H4 e,_,rfl,fly,dc,fun b o hb nf => ?_,fun b o hb => ?_,I4.os,I4.bare,⟨fun b o e n nf nx => stay (stk e nf) (old e) (ub.keep b o e n nf nx),fun b o e n hb _ => slots b o e n hb,fun b o e n hx => ?_,fun b o e nx => ?_,fun b xs e => tI (ub.tups b xs e) (by intro _ z; cases z),fun b o u e => tI (ub.gT b o u e) (by intro _ z; cases z),fun b ps e => ?_⟩,fun a o ha => ?_,by rw [hrm]; exact q d nd⟩
 ·obtain ⟨o',e'⟩ := ub.there b o hb (by simp)
  exact ⟨o',by rw [cO (nin (stk hb nf) (old hb))]; exact e'⟩
 ·obtain ⟨z,hb⟩ := Kb hb
  obtain ⟨o',e'⟩ := (I4.hok b o hb).some_
  exact ⟨o',by rw [cO (nin (hk hb) z)]; exact e'⟩
 ·rw [wU (old e)]
  exact ub.free b o e n hx
 ·by_cases hb : b ∈ frs outer
  ·obtain ⟨_,o2,e2,nf⟩ := I4.jM.mem hb
   obtain ⟨sl',e3⟩ := up b _ e2 nf
   exact ⟨_,e3⟩
  ·obtain ⟨o',e'⟩ := ub.there b o e nx
   exact ⟨o',stay (stk e hb) (old e) e'⟩
 ·obtain ⟨more,z⟩ := ub.iH b ps e
  exact ⟨more,tI z (by intro _ z; cases z)⟩
 ·obtain ⟨z,ha⟩ := Kb ha
  refine (I4.hok a o ha).stay (fun b u hc q => ?_) (fun c q => tI q (by intro _ z; cases z)) (fun c xs q => tI q (by intro _ z; cases z))
  rcases hc with rfl | hc
  ·exact stay (hk ha) z q
  ·refine stay (hk hc) (fun z => ?_) q
   rw [z,PX] at hc
   cases hc
end
def mX (ea : Addr) (cls : Value) (od : Option Addr) : HO := .ext fun h => ∃ o,h.get? ea = some o ∧ o.cls = cls ∧ notCls o = true ∧ o.dict = od
section
variable {X : Cx} {pins : List (Addr × Obj)} {σ : St} {H : Hp} {s : Shared}
theorem Inv.Gu {ea : Addr} {cls : Value} {od : Option Addr} (I : Inv X pins σ H s) (hn : H ea = none) (hs₀ : X.s₀.heap.get? ea = none) (hne : ea ≠ X.env.locals) (hc : ∀ x c,X.env.cells.lookup x = some c → c ≠ ea) (hp : ∀ p ∈ X.pn ++ pins,p.1 ≠ ea) (ho : ∃ o,s.heap.get? ea = some o ∧ o.cls = cls ∧ notCls o = true ∧ o.dict = od) :
  Inv X pins σ (upd H ea (mX ea cls od)) s := by
 have ne : ∀ {b},b ≠ ea → upd H ea (mX ea cls od) b = H b := fun h => aX h
 have old : ∀ {b o},X.s₀.heap.get? b = some o → b ≠ ea := fun {b o} h z => by rw [z,hs₀] at h; cases h
 refine ⟨I.ok,I.os,I.bare,⟨I.base.keep,I.base.slot,fun b o e n hx => ?_,I.base.there,fun b xs e => ?_,fun b o u e => ?_,fun b ps e => ?_⟩,I.loc,I.cell,?_,fun x c e => ?_,fun p hp' => ?_,fun b o e => ?_,I.len⟩
 ·rw [ne (old e)]; exact I.base.free b o e n hx
 ·have := I.base.tups b xs e
  rw [ne (cg this hn)]; exact this
 ·have := I.base.gT b o u e
  rw [ne (cg this hn)]; exact this
 ·obtain ⟨more,this⟩ := I.base.iH b ps e
  exact ⟨more,by rw [ne (cg this hn)]; exact this⟩
 ·rw [ne hne.symm]; exact I.free
 ·rw [ne (hc x c e)]; exact I.fQ x c e
 ·obtain ⟨a1,a2,a3⟩ := I.pin p hp'
  exact ⟨a1,by rw [ne (hp p hp')]; exact a2,a3⟩
 ·by_cases hb : b = ea
  ·subst hb
   rw [ah] at e
   cases e
   obtain ⟨o,h1,h2⟩ := ho
   exact ⟨⟨o,h1,h2⟩,⟨o,h1⟩,fun h1 h2 ⟨o,a,b⟩ k => ⟨o,k o a,b⟩⟩
  ·rw [ne hb] at e
   exact (I.hok b o e).stay (fun c u _ q => q) (fun c q => by rw [ne (cg q hn)]; exact q) (fun c xs q => by rw [ne (cg q hn)]; exact q)
end
section
variable {X : Cx} {pins : List (Addr × Obj)} {σ : St}
theorem CL {H : Hp} {s s' : Shared} {e : Value} {E : XK} {L : Addr} {hs : List ExceptHandler} {Q : Flow → Shared → Prop} {XE : Value → Shared → Prop} (I : Inv X pins σ H s) (hst : X.stack = X.env :: X.outer) (hL : X.env.frame = some L) (cx : eR X.prog X.w X.stack H s E e s')
  (k : ∀ (ea : Addr) (cls a0 : Value) (od : Option Addr) (H' : Hp) (B : Heap) (s2 : Shared),e = .ref ea → E cls od H' → pe s2.heap ea od → Inv X pins σ H' s2 → B.FlyingW X.stack ea cls a0 s2.heap → (∀ b o,H' b = some o → ∃ o',B.get? b = some o') → (∀ b o,s.heap.get? b = some o → b ∉ frs X.stack → ∃ o',B.get? b = some o') →
   (∀ h6,B.FlyingW X.stack ea cls a0 h6 → s2.heap.UpToSlots h6 → Inv X pins σ H' { s2 with heap := h6 }) → wpAny (model X.prog X.w) X.A (handleBy e X.env hs) Q XE s2) :
  wpAny (model X.prog X.w) X.A (noteFrame e X.env) (fun _ s2 => wpAny (model X.prog X.w) X.A (setFlight e none) (fun _ s3 => wpAny (model X.prog X.w) X.A (handleBy e X.env hs) Q XE s3) XE s2) XE s' := by
 obtain ⟨ea,cls,a0,od,H',B,rfl,fly,dc,hB,hH,os,bare,un,hok,hE⟩ := cx
 obtain ⟨T,be,bT,zZ⟩ := ox fly
 have ql := zZ
 rw [hst] at ql
 have apart : ∀ {b o},B.get? b = some o → b ∉ frs X.stack → b ∉ frs X.stack ++ [ea,T] := fun {b o} hb nf hx => by
  rcases List.mem_append.mp hx with h | h
  ·exact nf h
  ·rcases (show b = ea ∨ b = T by simpa using h) with rfl | rfl
   ·rw [be] at hb; cases hb
   ·rw [bT] at hb; cases hb
 have fr' : ∀ b ∈ frs X.stack,H' b = none := fun b hb => by
  obtain ⟨_,o,ho,_⟩ := I.stack.mem hb
  exact un.free b o ho (I.i7 b hb) (by simp)
 refine zW (B := less s'.heap (frs (X.env :: X.outer) ++ [ea,T])) (by rw [I.ok.frames,hst]) hL (by rw [← hst] at ql ⊢; exact ql) dc fun h4 tJ PY Kc => ?_
 refine Gk (s := { s' with heap := h4 }) tJ Kc fun h5 tK up5 Kd => ?_
 have up := PY.trans up5
 rw [← hst] at tK
 have kH : ∀ {b o},H' b = some o → b ∉ frs X.stack ++ [ea,T] := fun {b o} hb => by
  obtain ⟨o',h1⟩ := hH b o hb
  exact apart h1 fun z => by rw [fr' b z] at hb; cases hb
 have inv : ∀ h5,(less s'.heap (frs X.stack ++ [ea,T])).FlyingW X.stack ea cls a0 h5 → s'.heap.UpToSlots h5 → Inv X pins σ H' { s' with heap := h5 } := fun h5 tK up => by
  have stay : ∀ {b u},b ∉ frs X.stack ++ [ea,T] → s'.heap.get? b = some u → h5.get? b = some u := fun {b u} hb hu => tK.1 b u (by rw [cO hb]; exact hu)
  have up1 : ∀ b o,s'.heap.get? b = some o → b ∈ frs X.stack → ∃ sl,h5.get? b = some { o with slots := sl } := fun b o ho hb => by
   obtain ⟨_,o2,e2,nf⟩ := fly.2.2.1.mem hb
   rw [ho] at e2
   cases e2
   exact up b o ho nf
  have PZ : Un (frs X.stack) [] H H' s.heap h5 := by
   refine ⟨fun b o e n nf nx => ?_,fun b o e n hb nx => ?_,un.free,fun b o e nx => ?_,un.tups,un.gT,un.iH⟩
   ·obtain ⟨o',hb⟩ := hB b o e nf
    exact stay (apart hb nf) (un.keep b o e n nf nx)
   ·obtain ⟨sl,e1⟩ := un.slot b o e n hb nx
    obtain ⟨sl',e2⟩ := up1 b _ e1 hb
    exact ⟨sl',e2⟩
   ·obtain ⟨o',e1⟩ := un.there b o e nx
    by_cases hb : b ∈ frs X.stack
    ·obtain ⟨sl',e2⟩ := up1 b _ e1 hb
     exact ⟨_,e2⟩
    ·obtain ⟨o2,h2⟩ := hB b o e hb
     exact ⟨o',stay (apart h2 hb) e1⟩
  have CM : iG X.prog X.w H' h5 := fun a o e => (hok a o e).stay (fun b u hc q => by
   rcases hc with rfl | hc
   ·exact stay (kH e) q
   ·exact stay (kH hc) q) (fun _ q => q) fun _ _ q => q
  exact I.call' (s' := { s' with heap := h5 }) (ch := []) os PZ CM bare (fun b z => absurd z (by simp))
 refine k ea cls a0 od H' (less s'.heap (frs X.stack ++ [ea,T])) _ rfl hE Kd (inv h5 tK up) tK (fun b o hb => ?_) (fun b o hb nf => ?_) (fun h6 f6 u6 => inv h6 f6 (up.trans u6))
 ·obtain ⟨u,hu⟩ := (hok b o hb).some_
  exact ⟨u,by rw [cO (kH hb)]; exact hu⟩
 ·obtain ⟨o2,h2⟩ := hB b o hb nf
  obtain ⟨o',e1⟩ := un.there b o hb (by simp)
  exact ⟨o',by rw [cO (apart h2 nf)]; exact e1⟩
end
section
variable {X : Cx} {k : Nat} {f cR : Addr} {fd : FuncData} {ps : List Str} {sp : Sp} {qT : List V} {ds : List Value} {x g n : Str} {np gp pos p2 p3 p4 : Pos} {a : Expr} {as : List Expr} {t : TA} {ts : TS} {i : Nat} {b₀ : Stmt} {suite : List Stmt} {L : Addr}
theorem CN {pins : List (Addr × Obj)} {σ : St} {H : Hp} {s : Shared} {Q : VK} {E : XK} {us : List Value} {vs : List V} {XE : Value → Shared → Prop} (F : aY X.prog X.w X.K X.mg X.base (eR X.prog X.w) k f fd ps sp) (hr : dW k X.A) (hb : Binds X.K fd ps ds) (hd : Vals qT ds)
  (I : Inv X pins σ H s) (r : Vals vs us) (h : sp (vs ++ qT) H Q E) (hx : ∀ e s',eR X.prog X.w X.stack H s E e s' → XE e s') : wpAny (model X.prog X.w) X.A (call (.ref f) us) (EP X pins σ Q) XE s := by
 have r2 : Vals (vs ++ qT) (us ++ ds) := r.append hd
 have hl : (us ++ ds).length = ps.length := by rw [← r2.length]; exact F.len _ _ _ _ h
 refine wpAny_call (codeAny_mono (F.run X.A X.stack s H ⟨us,[]⟩ (us ++ ds) (vs ++ qT) Q E hr I.env0 (hb s us I.jF hl) r2 h) fun r s' hq => ?_)
 cases r with
 | error e => exact hx e s' hq
 | ok fl =>
  cases fl with
  | ret u => exact I.after hq
  | next => exact False.elim hq
  | brk => exact False.elim hq
  | cont => exact False.elim hq
end
section
variable {X : Cx} {C R fI : Addr} {Bn : String}
def Gv (K : PySem.W.Frag) (C : Addr) : List V → Hp → VK → Prop := fun xs H Q => ∃ (ea : Addr) (od : Option Addr) (c : V) (b : Bool),xs = [.ref ea,c] ∧ H ea = some (mX ea (.ref C) od) ∧ (∀ cv,RelV c cv → kitOne K (.ref C) cv = some b) ∧ Q (.bl b) H
theorem tL (R : qf X.K C) (FB : ExcAttrFacts Bn) : gM X (.builtin "isinstance") (Gv X.K C) := by
 intro pins s σ H xs us Q I r h
 obtain ⟨ea,od,c,b,rfl,he,hk,q⟩ := h
 cases r with
 | cons r1 r =>
  cases r with
  | cons r2 r =>
   cases r
   cases r1
   obtain ⟨o,h1,h2,_⟩ := (I.hok ea _ he).1
   exact kia_one (tH (ea := ea) R FB) I.jF ⟨o,h1,h2⟩ (hk _ r2) (by intro z; cases z) fun tk => ⟨.bl b,H,I.tok tk,rfl,q⟩
def Et (K : PySem.W.Frag) (C : Addr) : List V → Hp → VK → Prop := fun xs H Q => ∃ (ea tp : Addr) (od : Option Addr) (cs : List V) (b : Bool),xs = [.ref ea,.ref tp] ∧ H ea = some (mX ea (.ref C) od) ∧ H tp = some (.tup cs) ∧ (∀ N6,Vals cs N6 → kitAny K (.ref C) N6 = some b) ∧ Q (.bl b) H
theorem yH (R : qf X.K C) (FB : ExcAttrFacts Bn) : gM X (.builtin "isinstance") (Et X.K C) := by
 intro pins s σ H xs us Q I r h
 obtain ⟨ea,tp,od,cs,b,rfl,he,ht,hk,q⟩ := h
 cases r with
 | cons r1 r =>
  cases r with
  | cons r2 r =>
   cases r
   cases r1
   cases r2
   obtain ⟨o,h1,h2,_⟩ := (I.hok ea _ he).1
   obtain ⟨z,its,rv,ob,ho,hc,n,hd⟩ := (show cD X.prog X.w H s.heap tp (.tup cs) from I.hok tp _ ht)
   obtain ⟨oc,od,odt,osl⟩ := ob
   dsimp only at hc hd
   subst hc hd
   exact kia_tup (tH (ea := ea) R FB) I.jF ⟨o,h1,h2⟩ ho (hk _ rv) (by intro z; cases z) fun tk => ⟨.bl b,H,I.tok tk,rfl,q⟩
def P0 (C : Addr) (ta : TE) : TE := fun σ H Q => ta σ H fun x H1 => ∃ (ea d : Addr) (i : Int),x = .ref ea ∧ H1 ea = some (mX ea (.ref C) (some d)) ∧ H1 d = some (.xd [("at",.int i)]) ∧ Q (.int i) H1
theorem Gw {o : Expr} {ta : TE} {pos : Pos} (c : fz X.K C R fI) (ha : PE X o ta) (hb : attributeBase o "at" X.env (eval o X.env) = eval o X.env := by rfl) : PE X (.Attribute o "at" pos) (P0 C ta) := by
 intro pins s σ H Q I h
 refine B9 hb (cE (ha pins s σ H _ I h) fun u s1 ⟨x,H1,I1,r1,ea,d,i,ex,he,hd,q⟩ => ?_)
 subst ex
 obtain rfl : u = Value.ref ea := r1
 obtain ⟨ob,h1,h2,h3,h4⟩ := (I1.hok ea _ he).1
 obtain ⟨mA,ns,rl⟩ := (show cD X.prog X.w H1 s1.heap d (.xd [("at",.int i)]) from I1.hok d _ hd)
 have ra := rl "at"
 rw [List.lookup_cons_self] at ra
 cases hv : mA "at" with
 | none => rw [hv] at ra; exact False.elim ra
 | some v =>
  rw [hv] at ra
  obtain ⟨tk,rfl⟩ := (show ∃ tk,v = Value.int i tk from ra)
  exact Gq c I1.jF h1 h2 h3 h4 ns hv rfl ⟨.int i,H1,I1.tok _,⟨_,rfl⟩,q⟩
end
section
variable {X : Cx}
def N7 (X : Cx) (e : Expr) (f : Addr) (t : TA) (c : V → TE) : Prop := ∀ (XE : Value → Shared → Prop) (pins : List (Addr × Obj)) (s : Shared) (σ : St) (H : Hp) (Q : VK) (W : List V → Hp → Prop),Inv X pins σ H s → t σ H W →
 (∀ vs H1 s1 us,W vs H1 → Inv X pins σ H1 s1 → Vals vs us → wpAny (model X.prog X.w) X.A (call (.ref f) us) (EP X pins σ fun v H2 => c v σ H2 Q) XE s1) → wpAny (model X.prog X.w) X.A (eval e X.env) (EP X pins σ Q) XE s
def PSr (X : Cx) (st : Stmt) (f : Addr) (t : TA) (r : V → TS) : Prop := ∀ (XE : Value → Shared → Prop) (pins : List (Addr × Obj)) (s : Shared) (σ : St) (H : Hp) (D : Ends) (W : List V → Hp → Prop),Inv X pins σ H s → t σ H W →
 (∀ vs H1 s1 us,W vs H1 → Inv X pins σ H1 s1 → Vals vs us → wpAny (model X.prog X.w) X.A (call (.ref f) us) (EP X pins σ fun v H2 => r v D σ H2) XE s1) → wpAny (model X.prog X.w) X.A (exec st X.env) (SP X pins D) XE s
def cId : V → TE := fun v _ H Q => Q v H
theorem z3 {g : Str} {gp pos : Pos} {a : Expr} {as : List Expr} {t : TA} {f : Addr} (ha : PA X.I0 (a :: as) t) (hgg : Gl X g) (hm : X.mg g = some (.ref f)) (kp : keepIn X.K (.ref f) = true) (hdg : (g == ("__debug__" : Str)) = false := by decide)
  (he : starEach (a :: as) X.env = (false,eval a X.env) :: starEach as X.env := by rfl) (hpl : (backTo pos (starEach as X.env)).any (·.1) = false := by rfl) : N7 X (.Call (.Name g gp) (a :: as) [] pos) f t cId := by
 intro XE pins s σ H Q W I h hW
 refine wpAny_Call_Name_kw (i9 I hgg hm (callWith_K (h₀ := X.base) I.ok.mod.Ju kp (wpAny_mono (ha pos pins s σ H _ (I.wish _) h) (fun us s1 hu => ?_) fun _ _ z => False.elim z) he hpl) hdg)
 obtain ⟨vs,H1,I1',r,q⟩ := hu
 have I1 : Inv X pins σ H1 s1 := I1'.gq
 exact ⟨I1.jF,hW vs H1 s1 us q I1 r⟩
theorem CO {i : Nat} {x : Str} {e : Expr} {f : Addr} {t : TA} {c : V → TE} {pos pos' : Pos} (hN : X.N.Nodup) (hi : X.N[i]? = some x) (hx : Loc X.env.scope x) (he : N7 X e f t c) (hs : swapsWith e (some (.Name x pos')) pos.line X.env = pure false := by rfl) (hf : X.fn x = true ∨ X.env.scope.names.lookup x = some .local := by first | exact .inl rfl | exact .inr rfl | assumption) :
  PSr X (.Assign [.Name x pos'] e pos) f t (fun v D σ H => c v σ H fun y H1 => D.nx (σ.set i (some y)) H1) := by
 intro XE pins s σ H D W I h hW
 refine wpAny_Assign_Name (wpAny_mono (he XE pins s σ H (fun y H1 => D.nx (σ.set i (some y)) H1) W I h hW) (fun v s1 hv => ?_) fun _ _ z => z) hs
 obtain ⟨y,H1,I1,r1,q1⟩ := hv
 exact jV I1 hN hi hx r1 (fun s2 I2 => ⟨_,H1,I2,q1⟩) hf
end
def Ke (K : PySem.W.Frag) (sp : Sp) (qT : List V) (t : TA) (r : V → TS) (i : Nat) (cR : Value) (ts : TS) : TS := fun D σ H => t σ H fun vs H1 =>
 sp (vs ++ qT) H1 (fun v H2 => r v D σ H2) fun cls od H2 => exmOne K cls cR = some true ∧ ∀ ea,H2 ea = none → ts (D.less i) (σ.set i (some (.ref ea))) (upd H2 ea (mX ea cls od))
section
variable {X : Cx} {k : Nat} {f cR : Addr} {fd : FuncData} {ps : List Str} {sp : Sp} {qT : List V} {ds : List Value} {x n : Str} {np p3 p4 : Pos} {t : TA} {ts : TS} {i : Nat} {st b₀ : Stmt} {suite : List Stmt} {L : Addr} {r : V → TS}
theorem CP (P1 : PSr X st f t r) (F : aY X.prog X.w X.K X.mg X.base (eR X.prog X.w) k f fd ps sp) (hr : dW k X.A) (hb : Binds X.K fd ps ds) (hd : Vals qT ds)
  (hst : X.stack = X.env :: X.outer) (hL : X.env.frame = some L) (hLl : X.env.locals = L) (hex : X.ex = []) (hg : Gl X x) (hmg : X.mg x = some (.ref cR)) (hN : X.N.Nodup) (hi : X.N[i]? = some n) (hn : X.env.kindOf n = some .local)
  (hs : ∀ ea,pR (X.rG ea) (b₀ :: suite) ts) (hdb : (x == ("__debug__" : Str)) = false := by decide) :
  PS X (.Try [st] [.ExceptHandler (some (.Name x np)) (some n) (b₀ :: suite) p3] [] [] p4) (Ke X.K sp qT t r i (.ref cR) ts) := by
 intro pins s σ H D I h
 refine wpAny_Try_except (wpAny_execs_cons (wpAny_mono (P1 _ pins s σ H D _ I h fun vs H1 s1 us q I1 r => ?_) (fun fl s1 q => ?_) fun _ _ z => z))
 ·refine CN F hr hb hd I1 r q fun e s' cx => ?_
  refine CL I1 hst hL cx fun ex cls a0 od H' B s2 ee hE dc I2 fly hH hB again => ?_
  subst ee
  obtain ⟨hcls,hsuite⟩ := hE
  obtain ⟨oe,vs,T,oT,tss,g1,g2,g3,g4,g5,g6,g7,g8,g9⟩ := fly.2.2.2
  have nfr : ex ∉ frs X.stack := fun z => by
   obtain ⟨_,o2,e2,nf⟩ := fly.2.2.1.mem z
   rw [g1] at e2
   cases e2
   exact nf _ g3
  have apart : ∀ {b o},s1.heap.get? b = some o → b ≠ ex := fun {b o} hb z => by
   subst z
   obtain ⟨o',h'⟩ := hB b o hb nfr
   rw [fly.2.1] at h'
   cases h'
  have hnone : H' ex = none := by
   cases e : H' ex with
   | none => rfl
   | some o' =>
    obtain ⟨o2,h2⟩ := hH ex o' e
    rw [fly.2.1] at h2
    cases h2
  have IS := I2.suite ex
  refine wpAny_handleBy_cons (codeAny_handlers_test (i9 IS hg hmg ?_ hdb)) (by intro z; cases z)
  have LT : Looks (model X.prog X.w) s2.heap (typeOf (.ref ex)) cls := by
   have this : Looks (model X.prog X.w) s2.heap (typeOf (.ref ex)) oe.cls := (Looks.ld g1).andThen .now
   rw [g2.1] at this
   exact this
  refine (exm_one I2.jF LT hcls).here ?_
  refine codeAny_handlers_suite_as (Gm fly dc fun h6 Kf up6 Kg => ?_)
  have I6 := again h6 Kf up6
  obtain ⟨oe6,vs6,T6,oT6,ts6,k1,k2,k3,_⟩ := Kf.2.2.2
  obtain ⟨oe7,k4,k5⟩ := Kg
  cases k1.symm.trans k4
  have I7 := I6.Gu (cls := cls) (od := od) hnone (by
   cases e : X.s₀.heap.get? ex with
   | none => rfl
   | some o' =>
    obtain ⟨o2,h2⟩ := I1.base.there ex o' e (by rw [hex]; simp)
    exact absurd rfl (apart h2)) (fun z => nfr (by
     rw [hst,z,hLl]
     unfold frs
     rw [List.filterMap_cons,hL]
     simp)) (fun y c e => by
    obtain ⟨v,oc,hc,_⟩ := I1.cell y c e
    exact apart hc) (fun p hp => apart (I1.pin p hp).1) ⟨oe6,k1,k2.1,by unfold notCls; rw [k3],k5⟩
  refine jV I7 hN hi (.inl hn) (v := .ref ex) (u := .ref ex) rfl (fun s8 I8 => ?_) (.inr hn)
  refine wpAny_mono (hs ex pins s8 _ _ _ (I8.suite ex) (hsuite ex hnone)) (fun fl s9 q9 => ?_) fun _ _ z => False.elim z
  show wpAny _ _ _ _ _ _
  cases fl with
  | next =>
   obtain ⟨σ9,H9,I9,q⟩ := q9
   exact jg (I9.nG I.ok) hN hi hn fun BQ zP => ⟨_,H9,zP,q⟩
  | brk =>
   obtain ⟨σ9,H9,I9,q⟩ := q9
   exact jg (I9.nG I.ok) hN hi hn fun BQ zP => ⟨_,H9,zP,q⟩
  | cont =>
   obtain ⟨σ9,H9,I9,q⟩ := q9
   exact jg (I9.nG I.ok) hN hi hn fun BQ zP => ⟨_,H9,zP,q⟩
  | ret u =>
   obtain ⟨v,σ9,H9,I9,r,q⟩ := q9
   exact jg (I9.nG I.ok) hN hi hn fun BQ zP => ⟨v,_,H9,zP,r,q⟩
 ·cases fl with
  | next => exact wpAny_execs_nil (wpAny_execs_nil q)
  | brk => exact q
  | cont => exact q
  | ret u => exact q
end
end L2
namespace L2
open PySem PySem.Spec PyProof.Rows
section
variable {X : Cx}
def P2 (K : PySem.W.Frag) : List V → Hp → VK → Prop := fun xs H Q => ∃ (p : Addr) (ns : List Int),xs = [.ref p] ∧ bq K H p (ns.map V.int) ∧ Q (.int ns.sum) H
theorem z4 (hc : X.calm = true) : gM X (.builtin "sum") (P2 X.K) := by
 intro pins s σ H xs us0 Q I r h
 obtain ⟨p,ns,rfl,hp,q⟩ := h
 obtain ⟨u,rfl,ru⟩ := vals1 r
 cases ru
 obtain ⟨its,hv,pl,_⟩ := I.list hp
 have hi := intsAre_of hv
 obtain ⟨xs,hx⟩ := hi.allInts.items
 have hl' : s.heap.IsList p (intItems xs) := hx ▸ pl.isList
 refine sum_intListG (I.ok.hd hc) hl' fun h' tk t' hk => ?_
 have e1 : ns = xs.toList.map (·.1) := by
  rw [← nums_intItems,← hx]
  exact (show numsOf its.toArray.toList = ns from hi.numsOf).symm
 have e2 : preSum (numAt xs) xs.size = ns.sum := by
  rw [preSum_eq,List.take_of_length_le (by simp),e1]
 rw [e2]
 exact ⟨.int ns.sum,H,I.kept hk,⟨_,rfl⟩,q⟩
end
section
variable {X : Cx} {scope : Scope} {N' : List Str} {fr : List (Option Nat)} {pins : List (Addr × Obj)} {σ : St} {H : Hp} {s : Shared} {fp : List Addr} {y0 : Str}
end
section
variable {X : Cx}
end
section
variable {prog : Program} {w : World} {A : Around} {E : Value → Shared → Prop} {s : Shared}
end
section
variable {prog : Program} {w : World} {A : Around} {E : Value → Shared → Prop} {s : Shared}
end
section
variable {X : Cx}
end
theorem kc {K : PySem.W.Frag} {a : Addr} {xs : List V} {g : TG} {tt : TT} {te : TE} {R : Hp → Prop} {D : Addr} {σ0 : St} {H0 : Hp} (Pv : Nat → St → List V → Hp → Prop) (h0 : Pv 0 σ0 [] H0) (hl : ∀ i σ ys H,i ≤ xs.length → Pv i σ ys H → aZ K H a xs)
  (hs : ∀ i x σ ys H,xs[i]? = some x → Pv i σ ys H → g x σ H fun σ2 H2 => tt σ2 H2 fun b H3 =>
   if b = true then te σ2 H3 fun v H4 => H4 D = some (.lst ys) ∧ ys.length < sizeLine ∧ Pv (i + 1) σ2 (ys ++ [v]) (upd H4 D (.lst (ys ++ [v]))) else Pv (i + 1) σ2 ys H3)
  (hd : ∀ σ ys H,Pv xs.length σ ys H → R H) :
  ∃ W : Nat → Nat → St → List V → Hp → Prop,(∃ m,W 0 m σ0 [] H0) ∧ ∀ i m σ ys H,W i m σ ys H →
   ((JJ K a).stop i H ∧ R H) ∨ ((JJ K a).go i H ∧ ∃ N : St → List V → Hp → Prop,(∀ σ' ys' H',N σ' ys' H' → ∃ m',m' < m ∧ W (i + 1) m' σ' ys' H') ∧ ∀ x H',(JJ K a).BO i H x H' → g x σ H' fun σ2 H2 => tt σ2 H2 fun b H3 =>
    if b = true then te σ2 H3 fun v H4 => H4 D = some (.lst ys) ∧ ys.length < sizeLine ∧ N σ2 (ys ++ [v]) (upd H4 D (.lst (ys ++ [v]))) else N σ2 ys H3) := by
 refine ⟨fun i m σ ys H => m = xs.length - i ∧ i ≤ xs.length ∧ Pv i σ ys H,⟨xs.length,by simp,Nat.zero_le _,h0⟩,?_⟩
 rintro i m σ ys H ⟨rfl,hi,p⟩
 have q := hl i σ ys H hi p
 by_cases hlt : i < xs.length
 ·refine .inr ⟨⟨xs,xs[i],q,by simp [hlt]⟩,Pv (i + 1),fun σ' ys' H' p' => ⟨xs.length - (i + 1),by omega,rfl,hlt,p'⟩,fun x H' y => ?_⟩
  obtain ⟨e,y⟩ := y
  subst e
  exact hs i x σ ys _ (y xs q) p
 ·have e : i = xs.length := by omega
  subst e
  exact .inl ⟨⟨xs,q,Nat.le_refl _⟩,hd σ ys H p⟩
end L2
namespace L2
open PySem PySem.W PySem.Spec PySem.Calls PyProof.Rows
theorem ia {P : Program} {w : World} {K : PySem.W.Frag} {mg : Str → Option Value} {base : Heap} {N : List Str} {qual : Str} {scope : Scope} {f : Addr} {cd : Value} {A : Around} {outer : List Env} {s₀ : Shared} {H₀ : Hp} {E : XK} :
  Passes (eR P w) (fh (eR P w) P w K mg base N qual scope f cd A outer s₀ H₀ E) E := by
 intro pins σ H s e s' I cx
 obtain ⟨ea,cls,a0,od,H',B,rfl,fly,dc,hB,hH,os,bare,un,hok,hE⟩ := cx
 obtain ⟨T,be,bT,zZ⟩ := ox fly
 have apart : ∀ {b o},B.get? b = some o → b ∉ frs ((envOfC qual scope s₀.heap.objs.size f cd) :: outer) → b ∉ frs ((envOfC qual scope s₀.heap.objs.size f cd) :: outer) ++ [ea,T] := fun {b o} hb nf hx => by
  rcases List.mem_append.mp hx with h | h
  ·exact nf h
  ·rcases (show b = ea ∨ b = T by simpa using h) with rfl | rfl
   ·rw [be] at hb; cases hb
   ·rw [bT] at hb; cases hb
 have fr' : ∀ b ∈ frs ((envOfC qual scope s₀.heap.objs.size f cd) :: outer),H' b = none := fun b hb => by
  obtain ⟨_,o,ho,_⟩ := I.stack.mem hb
  exact un.free b o ho (I.i7 b hb) (by simp)
 have kH : ∀ {b o},H' b = some o → b ∉ frs ((envOfC qual scope s₀.heap.objs.size f cd) :: outer) ++ [ea,T] := fun {b o} hb => by
  obtain ⟨o',h1⟩ := hH b o hb
  exact apart h1 fun z => by rw [fr' b z] at hb; cases hb
 have stk : ∀ {b o},s₀.heap.get? b = some o → b ∉ frs outer → b ∉ frs ((envOfC qual scope s₀.heap.objs.size f cd) :: outer) := fun {b o} hb nf hx => by
  rcases List.mem_cons.mp (I.kX b hx) with e | e
  ·have h1 := Heap.lt_size hb
   have h2 : s₀.heap.objs.size ≤ (envOfC qual scope s₀.heap.objs.size f cd).locals := I.ok.above
   have e : b = (envOfC qual scope s₀.heap.objs.size f cd).locals := e
   rw [e] at h1
   exact absurd h1 (Nat.not_lt.mpr h2)
  ·exact nf e
 refine yG (B := less s'.heap (frs ((envOfC qual scope s₀.heap.objs.size f cd) :: outer) ++ [ea,T])) (L := (envOfC qual scope s₀.heap.objs.size f cd).locals) I.ok.frames rfl zZ dc fun h5 tK up Kd => ?_
 have stay : ∀ {b u},b ∉ frs ((envOfC qual scope s₀.heap.objs.size f cd) :: outer) ++ [ea,T] → s'.heap.get? b = some u → h5.get? b = some u := fun {b u} hb hu => tK.1 b u (by rw [cO hb]; exact hu)
 have up1 : ∀ b o,s'.heap.get? b = some o → b ∈ frs ((envOfC qual scope s₀.heap.objs.size f cd) :: outer) → ∃ sl,h5.get? b = some { o with slots := sl } := fun b o ho hb => by
  obtain ⟨_,o2,e2,nf⟩ := fly.2.2.1.mem hb
  rw [ho] at e2
  cases e2
  exact up b o ho nf
 have PZ : Un (frs ((envOfC qual scope s₀.heap.objs.size f cd) :: outer)) [] H H' s.heap h5 := by
  refine ⟨fun b o e n nf nx => ?_,fun b o e n hb nx => ?_,un.free,fun b o e nx => ?_,un.tups,un.gT,un.iH⟩
  ·obtain ⟨o',hb⟩ := hB b o e nf
   exact stay (apart hb nf) (un.keep b o e n nf nx)
  ·obtain ⟨sl,e1⟩ := un.slot b o e n hb nx
   obtain ⟨sl',e2⟩ := up1 b _ e1 hb
   exact ⟨sl',e2⟩
  ·obtain ⟨o',e1⟩ := un.there b o e nx
   by_cases hb : b ∈ frs ((envOfC qual scope s₀.heap.objs.size f cd) :: outer)
   ·obtain ⟨sl',e2⟩ := up1 b _ e1 hb
    exact ⟨_,e2⟩
   ·obtain ⟨o2,h2⟩ := hB b o e hb
    exact ⟨o',stay (apart h2 hb) e1⟩
 have CM : iG P w H' h5 := fun a o e => (hok a o e).stay (fun b u hc q => by
  rcases hc with rfl | hc
  ·exact stay (kH e) q
  ·exact stay (kH hc) q) (fun _ q => q) fun _ _ q => q
 have I5 := I.call' (s' := { s' with heap := h5 }) (ch := []) os PZ CM bare (fun b z => absurd z (by simp))
 refine ⟨ea,cls,a0,od,H',_,rfl,tK,Kd,fun b o hb nf => ?_,fun b o hb => ?_,I5.os,I5.bare,I5.base,CM,hE⟩
 ·have ns := stk hb nf
  obtain ⟨o1,e1⟩ := I.base.there b o hb (by show b ∉ []; simp)
  obtain ⟨o2,e2⟩ := hB b o1 e1 ns
  obtain ⟨o3,e3⟩ := un.there b o1 e1 (by simp)
  exact ⟨o3,by rw [cO (apart e2 ns)]; exact e3⟩
 ·obtain ⟨u,hu⟩ := (hok b o hb).some_
  exact ⟨u,by rw [cO (kH hb)]; exact hu⟩
def eU (X : Cx) (E : XK) (scope : Scope) (C : Addr) (N' : List Str) (s₀ : Shared) (H₀ : Hp) (fp : List Addr) : Cx :=
 (cL X scope C N' s₀ H₀ fp).wish (fun e s' => ∃ (pins : List (Addr × Obj)) (σ : St) (H : Hp) (s : Shared),Inv (cL X scope C N' s₀ H₀ fp) pins σ H s ∧ eR X.prog X.w X.stack H s E e s')
theorem Eu {X : Cx} {E : XK} {scope : Scope} {C : Addr} {N' : List Str} {s₀ : Shared} {H₀ : Hp} {fp : List Addr} : Passes (eR X.prog X.w) (eU X E scope C N' s₀ H₀ fp) E :=
 fun pins σ H s _ _ I cx => ⟨pins,σ,H,s,I.gq,cx⟩
theorem wW {h h' base : Heap} {C : Addr} (sb : Heap.SameBut C h h') : ∀ {l : List Env},h.FunFrames base l → (∀ b ∈ frs l,b ≠ C) → h'.FunFrames base l
 | [],_,_ => trivial
 | env :: r,⟨hk,⟨L,o,hf,hn,ho,hd⟩,hr⟩,hs => by
  have e : frs (env :: r) = L :: frs r := by unfold frs; rw [List.filterMap_cons,hf]
  rw [e] at hs
  exact ⟨hk,⟨L,o,hf,hn,by rw [sb.2 L (hs L (by simp))]; exact ho,hd⟩,wW sb hr fun b hb => hs b (by simp [hb])⟩
section
variable {M : Model} {A : Around} {env : Env} {outer : List Env} {L e : Addr} {B : Heap} {cls a0 fl : Value} {od : Option Addr} {s : Shared} {Q : Unit → Shared → Prop} {XE : Value → Shared → Prop} {l : List Env}
theorem CQ {fo : Option Addr} (st : B.StaysIn s.heap) (fu : s.heap.FunFrames B l) (tr : s.heap.TracedAtW B e cls a0 fl) (dc : pe s.heap e od)
  (k : ∀ h' fl',B.StaysIn h' → h'.FunFrames B l → h'.TracedAtW B e cls a0 fl' → (∀ b o,s.heap.get? b = some o → (∀ vs,o.data ≠ .fields vs) → h'.get? b = some o) → pe h' e od → Q () { s with heap := h' }) : wpAny M A (setFlight (.ref e) fo) Q XE s := by
 obtain ⟨oe,vs,T,oT,ts,he,hc,hd,h1,nT,Te,hT,dT,h3⟩ := tr
 obtain ⟨oe',he',hod⟩ := dc
 cases he.symm.trans he'
 have sz : 3 < ts.size := (Array.getElem?_eq_some_iff.mp h3).1
 have oth : ∀ b,b ≠ T → (s.heap.update T (Obj.mapFields (·.setIfInBounds 3 (fo.elim Value.none fun f => rawInt f)))).get? b = s.heap.get? b := fun b n => Heap.get?_update_other _ _ n.symm
 unfold setFlight
 refine wpAny_bind (wpAny_field he hd h1 ?_)
 rw [if_pos (by simp)]
 refine wpAny_setField hT dT sz (k _ (fo.elim Value.none fun f => rawInt f) (fun b o hb => (oth b fun z => by
  rw [z,nT] at hb
  cases hb).trans (st b o hb)) (fu.of_keeps fun b o hb n => ⟨o,(oth b (jH hT dT hb n)).trans hb,rfl⟩) ?_ (fun b o hb n => (oth b (jH hT dT hb n)).trans hb) ⟨oe,(oth e Te.symm).trans he,hod⟩)
 exact ⟨oe,vs,T,_,_,(oth e Te.symm).trans he,hc,hd,h1,nT,Te,Heap.get?_update_self _ hT (Obj.isFreed_of_fields (Obj.data_mapFields dT _)),Obj.data_mapFields dT _,by simp [sz]⟩
theorem vp (fr : A.frames = some (env :: outer)) (hf : env.frame = some L) (st : B.StaysIn s.heap) (ne : B.get? e = none) (fu : s.heap.FunFrames B (env :: outer)) (tr : s.heap.TracedAtW B e cls a0 fl) (dc : pe s.heap e od)
  (k : ∀ h',B.FlyingW outer e cls a0 h' → s.heap.UpToSlots h' → pe h' e od → Q () { s with heap := h' }) : wpAny M A (leaving env (.ref e)) Q XE s := by
 unfold leaving
 obtain ⟨oe,vs,T,oT,ts,he,⟨hc,h0⟩,hd,h1,nT,Te,hT,dT,h3⟩ := tr
 obtain ⟨oe',he',hod⟩ := dc
 cases he.symm.trans he'
 subst hc
 subst hod
 refine wpAny_bind ?_
 unfold noteFrame
 simp only [hf]
 refine wpAny_bind (wpAny_field he hd h1 ?_)
 rw [if_pos (by simp)]
 refine wpAny_bind (wpAny_field hT dT h3 ?_)
 by_cases c : (fl == rawInt L) = true
 ·rw [if_pos c]
  refine wpAny_pure ?_
  exact jh st fu ⟨oe,vs,T,oT,ts,he,⟨rfl,h0⟩,hd,h1,nT,Te,hT,dT,h3⟩ ⟨oe,he,rfl⟩ fun h2 a b c d yF => k h2 ⟨a,ne,b.2.2,c⟩ (fun b o hb n => ⟨o.slots,d b o hb n⟩) yF
 ·rw [if_neg c]
  refine wpAny_bind (wpAny_setField hT dT (Array.getElem?_eq_some_iff.mp h3).1 ?_)
  have oth : ∀ b,b ≠ T → (s.heap.update T (Obj.mapFields (·.setIfInBounds 3 Value.none))).get? b = s.heap.get? b := fun b n => Heap.get?_update_other _ _ n.symm
  refine vj fr (fu.of_keeps fun b o hb n => ⟨o,(oth b (jH hT dT hb n)).trans hb,rfl⟩) hf ((oth e Te.symm).trans he) (fun b o hb => (oth b fun z => by
   rw [z,nT] at hb
   cases hb).trans (st b o hb)) ne hd (Array.getElem?_eq_some_iff.mp h1).1 h0 fun h' q q2 => ?_
  exact jh (s := { s with heap := h' }) q.1 q.2.1 q.2.2.1 q2 fun h2 a b c d yF => k h2 ⟨a,ne,b.2.2,c⟩ (Heap.UpToSlots.trans (fun b o hb n => q.2.2.2 b o ((oth b (jH hT dT hb n)).trans hb) n) fun b o hb n => ⟨o.slots,d b o hb n⟩) yF
end
section
variable {X : Cx} {E : XK} {scope : Scope} {N' : List Str} {fr : List (Option Nat)} {pins : List (Addr × Obj)} {σ : St} {H3 : Hp} {s3 : Shared} {fp : List Addr}
theorem z5 {L D : Addr} (hex : X.ex = []) (hst : X.stack = X.env :: X.outer) (hL : X.env.frame = some L) (hsub : ∀ b o,X.s₀.heap.get? b = some o → b ∉ frs X.outer → b ∉ frs X.stack)
  (P4 : ∀ e s',wpAny (model X.prog X.w) X.A (leaving X.env e) (fun _ s'' => eR X.prog X.w X.outer X.H₀ X.s₀ E e s'') (fun e' s'' => eR X.prog X.w X.outer X.H₀ X.s₀ E e' s'') s' → X.xe e s')
  (I3 : Inv X pins σ H3 s3) (f3 : ∀ b ∈ fp,kY X pins H3 b) {use : Option (Value → Sem Unit)} {QQ : Value → Shared → Prop} {e : Value} {s' : Shared}
  (J : ∃ (sS : List (Addr × Obj)) (σ' : St) (H : Hp) (s : Shared),Inv (cL X scope s3.heap.objs.size N' s3 H3 fp) sS σ' H s ∧ eR X.prog X.w X.stack H s E e s') :
  notedBy (model X.prog X.w) X.A (compEnvC scope (mM scope X.env) s3.heap.objs.size X.env) (fun x s'' => compPost (model X.prog X.w) X.A X.xe use QQ (.ref D) s3.heap.objs.size (.error x) s'') e s' := by
 obtain ⟨sS,σ',Hc,sc,Ic,cx⟩ := J
 obtain ⟨ea,cls,a0,od,H',B,rfl,fly,dc,hB,hH,os,bare,un,hok,hE⟩ := cx
 obtain ⟨T,be,bT,zZ⟩ := ox fly
 have apart : ∀ {b o},B.get? b = some o → b ∉ frs X.stack → b ∉ frs X.stack ++ [ea,T] := fun {b o} hb nf hx => by
  rcases List.mem_append.mp hx with h | h
  ·exact nf h
  ·rcases (show b = ea ∨ b = T by simpa using h) with rfl | rfl
   ·rw [be] at hb; cases hb
   ·rw [bT] at hb; cases hb
 generalize hC : s3.heap.objs.size = C at *
 obtain ⟨mC,Kh,_⟩ := Ic.loc
 have Kh : sc.heap.Ns C mC := Kh
 obtain ⟨oC,esC,epC,gC,dC,skC,fC⟩ := id Kh
 have hcf : Hc C = none := Ic.free
 have Ki : C ∉ frs X.stack := fun hb => by
  obtain ⟨_,o,ho,_⟩ := I3.stack.mem hb
  exact absurd (Heap.lt_size ho) (by rw [hC]; exact Nat.lt_irrefl _)
 have CA : C ∉ frs X.stack ++ [ea,T] := by
  obtain ⟨o',h⟩ := hB C oC gC Ki
  exact apart h Ki
 have gC' : s'.heap.get? C = some oC := un.keep C oC gC hcf Ki (by simp)
 have HC : H' C = none := un.free C oC gC hcf (by simp)
 have fr' : ∀ b ∈ frs X.stack,H' b = none := fun b hb => by
  obtain ⟨_,o,ho,_⟩ := Ic.stack.mem hb
  exact un.free b o ho (Ic.i7 b hb) (by simp)
 have kH : ∀ {b o},H' b = some o → b ∉ frs X.stack ++ [ea,T] := fun {b o} hb => by
  obtain ⟨o',h1⟩ := hH b o hb
  exact apart h1 fun z => by rw [fr' b z] at hb; cases hb
 have ql := zZ
 rw [hst] at ql
 show wpAny _ _ (noteFrame (.ref ea) X.env) _ _ _
 refine zW (B := less s'.heap (frs (X.env :: X.outer) ++ [ea,T])) (env := X.env) (outer := X.outer) (by rw [I3.ok.frames,hst]) hL ql dc fun h4 tJ PY Kc => ?_
 rw [← hst] at tJ
 have g4 : h4.get? C = some oC := tJ.1 C oC (by rw [cO CA]; exact gC')
 show ∃ m,h4.Ns C m ∧ ∀ h',Heap.SameBut C h4 h' → ∀ cenv : Env,cenv.locals = C → wpAny _ _ (PySem.passOn "comprehension.variables-let-go" (.ref ea) cenv : Sem Value) (fun _ _ => False) X.xe { s' with heap := h' }
 refine ⟨mC,⟨oC,esC,epC,g4,dC,skC,fC⟩,fun h' sb cenv hcl => ?_⟩
 obtain ⟨FY,ne4,fu4,oe,vs,T',oT,ts,he,hcls,hd,h1,nT',Te,hT',dT,h3'⟩ := tJ
 have hbT : ∀ {b o},b ∉ frs X.stack ++ [ea,T] → s'.heap.get? b = some o → b ≠ T' := fun {b o} hb hg z => by
  rw [z] at hb hg
  rw [cO hb,hg] at nT'
  cases nT'
 have CT' : C ≠ T' := hbT CA gC'
 have Ce : C ≠ ea := fun z => CA (by rw [z]; simp)
 have he' : h'.get? ea = some oe := by rw [sb.2 ea Ce.symm]; exact he
 have st9 : (less h' (frs X.stack ++ [ea,T',C])).StaysIn h' := jN
 have fu9 : h'.FunFrames (less h' (frs X.stack ++ [ea,T',C])) X.stack := jf (wW sb fu4 (fun b hb z => Ki (z ▸ hb))) (fun b hb => List.mem_append_left _ hb)
 have tr9 : h'.TracedAtW (less h' (frs X.stack ++ [ea,T',C])) ea cls a0 (rawInt L) := ⟨oe,vs,T',oT,ts,he',hcls,hd,h1,h7 (by simp),Te,by rw [sb.2 T' CT'.symm]; exact hT',dT,h3'⟩
 have P5 : pe h' ea od := by
  obtain ⟨o,e1,e2⟩ := Kc
  exact ⟨o,by rw [sb.2 ea Ce.symm]; exact e1,e2⟩
 unfold PySem.passOn
 refine wpAny_bind (wpAny_field he' hd h1 ?_)
 rw [if_neg (by simp)]
 refine wpAny_bind (CQ (s := { s' with heap := h' }) (fo := cenv.frame) st9 fu9 tr9 P5 fun h6 fl' st6 fu6 tr6 kp6 Kg => ?_)
 refine wpAny_throw (P4 _ _ ?_)
 have P6 : ∀ l,l = X.stack → h6.FunFrames (less h' (frs X.stack ++ [ea,T',C])) l := by
  intro l hl
  subst hl
  exact fu6
 refine vp (s := { s' with heap := h6 }) (env := X.env) (outer := X.outer) (by rw [I3.ok.frames,hst]) hL st6 (h7 (by simp)) (P6 _ hst.symm) tr6 Kg fun h9 Kj up9 P7 => ?_
 have qm : ∀ {b u},b ∉ frs X.stack ++ [ea,T] → b ≠ C → s'.heap.get? b = some u → h'.get? b = some u ∧ (less h' (frs X.stack ++ [ea,T',C])).get? b = some u ∧ h9.get? b = some u := fun {b u} hb hbC hu => by
  have e4 : h4.get? b = some u := FY b u (by rw [hst] at hb; rw [hst,cO hb]; exact hu)
  have e5 : h'.get? b = some u := by rw [sb.2 b hbC]; exact e4
  have e6 : (less h' (frs X.stack ++ [ea,T',C])).get? b = some u := by
   rw [cO fun hx => ?_]
   ·exact e5
   ·rcases List.mem_append.mp hx with h | h
    ·exact hb (List.mem_append_left _ h)
    ·rcases (show b = ea ∨ b = T' ∨ b = C by simpa using h) with z | z | z
     ·exact hb (by rw [z]; simp)
     ·exact hbT hb hu z
     ·exact hbC z
  exact ⟨e5,e6,Kj.1 b u e6⟩
 have z6 : ∀ b ∈ frs X.stack,∀ o,s'.heap.get? b = some o → ∃ sl,h9.get? b = some { o with slots := sl } := fun b hb o ho => by
  obtain ⟨_,o2,e2,nf⟩ := fly.2.2.1.mem hb
  rw [ho] at e2
  cases e2
  obtain ⟨N8,e1⟩ := PY b o ho nf
  have e5 : h'.get? b = some { o with slots := N8 } := by rw [sb.2 b (fun z => Ki (z ▸ hb))]; exact e1
  have e6 : h6.get? b = some { o with slots := N8 } := kp6 b _ e5 nf
  obtain ⟨sl2,e7⟩ := up9 b _ e6 nf
  exact ⟨sl2,e7⟩
 have U : Un (frs X.stack) fp H3 H' s3.heap s'.heap := Un.trans (show Un (frs X.stack) fp H3 Hc s3.heap sc.heap from Ic.base) (un.mono (fun b h => h) (fun b h => absurd h (by simp)))
 have P8 : ∀ {b o},s3.heap.get? b = some o → b ∉ fp → b ∉ frs X.stack → b ∉ frs X.stack ++ [ea,T] ∧ b ≠ C := fun {b o} hb nx nf => by
  obtain ⟨o1,e1⟩ := (show Un (frs X.stack) fp H3 Hc s3.heap sc.heap from Ic.base).there b o hb nx
  obtain ⟨o2,e2⟩ := hB b o1 e1 nf
  exact ⟨apart e2 nf,fun z => absurd (Heap.lt_size hb) (by rw [z,hC]; exact Nat.lt_irrefl _)⟩
 have Un9 : Un (frs X.stack) fp H3 H' s3.heap h9 := by
  refine ⟨fun b o e n nf nx => ?_,fun b o e n hb nx => ?_,U.free,fun b o e nx => ?_,U.tups,U.gT,U.iH⟩
  ·obtain ⟨a1,a2⟩ := P8 e nx nf
   exact (qm a1 a2 (U.keep b o e n nf nx)).2.2
  ·obtain ⟨sl,e1⟩ := U.slot b o e n hb nx
   obtain ⟨sl',e2⟩ := z6 b hb _ e1
   exact ⟨sl',e2⟩
  ·obtain ⟨o',e1⟩ := U.there b o e nx
   by_cases hb : b ∈ frs X.stack
   ·obtain ⟨sl',e2⟩ := z6 b hb _ e1
    exact ⟨_,e2⟩
   ·obtain ⟨a1,a2⟩ := P8 e nx hb
    exact ⟨o',(qm a1 a2 e1).2.2⟩
 have nC : ∀ {b o},H' b = some o → b ≠ C := fun {b o} hb z => by rw [z,HC] at hb; cases hb
 have Kk : iG X.prog X.w H' h9 := fun a o e => (hok a o e).stay (fun b u hc q => by
  rcases hc with rfl | hc
  ·exact (qm (kH e) (nC e) q).2.2
  ·exact (qm (kH hc) (nC hc) q).2.2) (fun _ q => q) fun _ _ q => q
 have I9 := I3.call' (s' := { s' with heap := h9 }) (ch := fp) (os.trans Ic.os) Un9 Kk bare (fun b hb => ⟨(f3 b hb).2.2.2.1,(f3 b hb).2.1,(f3 b hb).2.2.2.2.1,(f3 b hb).2.2.2.2.2⟩)
 have Ew := I9.base
 rw [hex] at Ew
 refine ⟨ea,cls,a0,od,H',_,rfl,Kj,P7,fun b o hb nf => ?_,fun b o hb => ?_,I9.os,I9.bare,Ew,Kk,hE⟩
 ·have ns := hsub b o hb nf
  obtain ⟨o1,e1⟩ := I3.base.there b o hb (by rw [hex]; simp)
  have nx : b ∉ fp := fun hx => by
   rcases (f3 b hx).2.2.2.1 with z | z
   ·rw [hex] at z; simp at z
   ·exact absurd (Heap.lt_size hb) (Nat.not_lt.mpr z)
  obtain ⟨a1,a2⟩ := P8 e1 nx ns
  obtain ⟨o3,e3⟩ := U.there b o1 e1 nx
  exact ⟨o3,(qm a1 a2 e3).2.1⟩
 ·obtain ⟨u,hu⟩ := (hok b o hb).some_
  exact ⟨u,(qm (kH hb) (nC hb) hu).2.1⟩
end
theorem pz {prog : Program} {w : World} {A : Around} {R : Result → Shared → Prop} {s : Shared} {elt target iter : Expr} {ifs : List Expr} {scope : Scope} {pos : Pos} {it acc : Value} {env : Env} (I : Nat → Shared → Prop) (Jb : Value → Shared → Prop) (hE : ∀ x s',Jb x s' → notedBy (model prog w) A env (fun x s'' => R (.error x) s'') x s')
  (turn : ∀ n s,I n s → wpAny (model prog w) A (pyNext it) (fun r s₁ => match r with
   | none => R (.ok .next) s₁
   | some v => wpAny (model prog w) A (letOwnedTupleGo target it v) (fun _ s₀ => wpAny (model prog w) A (assign target env v) (fun _ s₂ =>
     wpAny (model prog w) A (forIn ifs true fun c r => if r = true then do let ok ← isTrue c env (eval c env); pure (ForInStep.yield ok) else pure (ForInStep.yield r)) (fun ok s₃ =>
      if ok = true then wpAny (model prog w) A (eval elt env) (fun x s₄ =>
       wpAny (model prog w) A (call (.builtin "list.append") [acc,x]) (fun _ s₅ => ∃ m,m < n ∧ I m s₅) Jb s₄) Jb s₃
      else ∃ m,m < n ∧ I m s₃) Jb s₂) Jb s₀) (fun _ _ => False) s₁) (fun _ _ => False) s)
  (n : Nat) (h : I n s) :
  codeAny (model prog w) A (.compLoop (.ListComp elt [⟨target,iter,ifs,0⟩] scope pos) 0 it acc env) R s := by
 refine codeAny_loop rfl I (fun n s hI => ?_) n h
 show wpAny _ A ((compTurn (.ListComp elt [⟨target,iter,ifs,0⟩] scope pos) 0 it acc env).onRaise (fun x => do noteFrame x env; theTreesLotGoes x)) _ _ s
 refine wpAny_noted ?_
 rw [compTurn_list]
 refine wpAny_bind (wpAny_standAt (wpAny_bind (wpAny_mono (turn n s hI) (fun r s₁ h₁ => ?_) fun _ _ h' => h'.elim)))
 cases r with
 | none => exact wpAny_pure h₁
 | some v =>
  refine wpAny_bind (wpAny_mono h₁ (fun _ s₀ h₀ => ?_) fun _ _ h' => h'.elim)
  refine wpAny_bind (wpAny_mono h₀ (fun _ s₂ h₂ => wpAny_bind (wpAny_mono h₂ (fun ok s₃ h₃ => ?_) hE)) hE)
  cases ok with
  | false => exact wpAny_pure ⟨rfl,h₃⟩
  | true =>
   exact wpAny_bind (wpAny_bind (wpAny_mono h₃ (fun x s₄ h₄ => wpAny_bind (wpAny_mono h₄ (fun _ s₅ h₅ => wpAny_pure (wpAny_pure ⟨rfl,h₅⟩)) hE)) hE))
theorem yI {X : Cx} {E : XK} {L : Addr} {elt tg iter : Expr} {ifs : List Expr} {scope : Scope} {pos cpos : Pos} {wi : TI} {g : TG} {tt : TT} {te : TE} {N' : List Str} {fr : List (Option Nat)} (hex : X.ex = []) (hst : X.stack = X.env :: X.outer) (hL : X.env.frame = some L)
  (P4 : ∀ e s',wpAny (model X.prog X.w) X.A (leaving X.env e) (fun _ s'' => eR X.prog X.w X.outer X.H₀ X.s₀ E e s'') (fun e' s'' => eR X.prog X.w X.outer X.H₀ X.s₀ E e' s'') s' → X.xe e s') (S : dq X.env.scope scope X.N N' fr) (hc : X.calm = true) (hi : PI X tg iter wi)
  (hg : ∀ C s0 H0 fp,PG (eU X E scope C N' s0 H0 fp) tg g) (ht : ∀ C s0 H0 fp,Cu (eU X E scope C N' s0 H0 fp) ifs tt) (he : ∀ C s0 H0 fp,PE (eU X E scope C N' s0 H0 fp) elt te)
  (hs : ∀ x,foldedSetIterable iter X.env x = pure x) {pins : List (Addr × Obj)} {s : Shared} {σ : St} {H : Hp} {Q : VK} (I : Inv X pins σ H s) (h : tD fr wi g tt te σ H Q) (use : Option (Value → Sem Unit)) (QQ : Value → Shared → Prop)
  (fin : ∀ (D C : Addr) (H5 : Hp) (s6 : Shared),Inv X pins σ H5 s6 → Q (.ref D) H5 → H5 C = none → C ≠ X.env.locals → X.s₀.heap.objs.size ≤ C → (∀ x c,X.env.cells.lookup x = some c → c ≠ C) → (∀ p ∈ X.pn ++ pins,p.1 ≠ C) → (∃ m,s6.heap.Ns C m) →
   compPost (model X.prog X.w) X.A X.xe use QQ (.ref D) C (.ok .next) s6) :
  wpAny (model X.prog X.w) X.A (comprehension (.ListComp elt [⟨tg,iter,ifs,0⟩] scope pos) scope X.env cpos (newList []) false (eval iter X.env) use) QQ X.xe s := by
 have hfree : ∀ y ∈ scope.names,y.2 = .free → ∃ c,X.env.cells.lookup y.1 = some c := fun y hy e => I.ok.has y.1 (.inl (S.free y hy e))
 refine wpAny_comprehension_free (use := use) rfl hs (wN hfree) S.kind S.names (cE (hi pins s σ H _ I h) fun v s1 h1 => cE h1 fun itv s2 h2 => ?_)
 obtain ⟨it,fp,tn,J,H2,e,I2,T,st2,f2,hD⟩ := h2
 subst e
 obtain ⟨W,⟨m0,w0⟩,turn⟩ := hD s2.heap.objs.size I2.fresh
 refine wpAny_newObj_type ?_
 have I3 : Inv X pins σ (upd H2 s2.heap.objs.size (.lst [])) { s2 with heap := s2.heap.push { cls := .type "list",data := .seq ([] : List Value).toArray },toks := s2.toks } := I2.Ck (ys := []) .nil (Nat.zero_le _)
 revert I3
 generalize eD : s2.heap.objs.size = D at *
 generalize e3 : ({ s2 with heap := s2.heap.push { cls := .type "list",data := .seq ([] : List Value).toArray },toks := s2.toks } : Shared) = s3
 intro I3
 have k3 : ∀ b o,s2.heap.get? b = some o → s3.heap.get? b = some o := fun b o e => by rw [← e3]; exact Heap.get?_push_of_some _ e
 refine wpAny_newFunctionEnv S.uY (by intro y hy; simp at hy) (fun h4 hns hsb => ?_) S.kind
 have old : ∀ b o,s3.heap.get? b = some o → h4.get? b = some o := fun b o e => hsb.extBut b o (Nat.ne_of_lt (Heap.lt_size e)) (Heap.get?_push_of_some _ e)
 have fD : ∀ b ∈ fp,b ≠ D := fun b hb z => by
  obtain ⟨o,ho,_⟩ := T.obj _ _ st2 b hb
  exact absurd (Heap.lt_size ho) (by rw [z,eD]; exact Nat.lt_irrefl _)
 have f3 : ∀ b ∈ fp,kY X pins (upd H2 D (.lst [])) b := fun b hb => ⟨by rw [aX (fD b hb)]; exact (f2 b hb).1,(f2 b hb).2⟩
 have l3 : ∀ b ∈ fp,b < s3.heap.objs.size := fun b hb => by
  obtain ⟨o,ho,_⟩ := T.obj _ _ st2 b hb
  exact Heap.lt_size (k3 b o ho)
 have I4 := (Inv.block (t1 := s3.toks + ([] : List (Str × Value)).length) (scope := scope) S hc I3 f3 l3 hns old).wish (fun e s' => ∃ (pins : List (Addr × Obj)) (σ : St) (H : Hp) (s : Shared),Inv (cL X scope s3.heap.objs.size N' s3 (upd H2 D (.lst [])) fp) pins σ H s ∧ eR X.prog X.w X.stack H s E e s')
 have hsub : ∀ b o,X.s₀.heap.get? b = some o → b ∉ frs X.outer → b ∉ frs X.stack := fun b o hb nf hx => by
  rcases List.mem_cons.mp (I.kX b hx) with e | e
  ·have h1 := Heap.lt_size hb
   have h2 := I.ok.above
   rw [e] at h1
   exact absurd h1 (Nat.not_lt.mpr h2)
  ·exact nf e
 have P9 := fun (x : Value) (s' : Shared) (Jx : ∃ (pins : List (Addr × Obj)) (σ : St) (H : Hp) (s : Shared),Inv (cL X scope s3.heap.objs.size N' s3 (upd H2 D (.lst [])) fp) pins σ H s ∧ eR X.prog X.w X.stack H s E x s') => z5 (D := D) (use := use) (QQ := QQ) hex hst hL hsub P4 I3 f3 Jx
 generalize eX : eU X E scope s3.heap.objs.size N' s3 (upd H2 D (.lst [])) fp = X'
 replace I4 : Inv X' [] (uZ fr σ) (upd H2 D (.lst [])) { s3 with heap := h4,toks := s3.toks + ([] : List (Str × Value)).length } := by rw [← eX]; exact I4
 have FY : tn 0 h4 := T.keep _ _ _ st2 fun b hb o e => old b o (k3 b o e)
 have stat : ∀ {H' : Hp},(∀ b ∈ fp,H' b = none) → ∀ b ∈ fp,kY X' [] H' b := fun {H'} hn b hb => by
  subst eX
  refine ⟨hn b hb,Nat.ne_of_lt (l3 b hb),?_,.inl hb,?_,fun p hp => absurd hp (by simp [eU,cL,Cx.wish])⟩
  ·exact I4.ok.uJ b hb
  ·exact (I4.ok.Jv b hb).2
 show codeAny _ _ (.compStart _ 0 (.ref it) (.ref D) (compEnvC scope (mM scope X.env) s3.heap.objs.size X.env)) (compPost _ _ _ use _ (.ref D) s3.heap.objs.size) _
 have hX : X'.prog = X.prog ∧ X'.w = X.w ∧ X'.K = X.K ∧ X'.A = X.A ∧ X'.calm = true ∧ X'.env = compEnvC scope (mM scope X.env) s3.heap.objs.size X.env ∧ X'.xe = (fun e s' => ∃ (pins : List (Addr × Obj)) (σ : St) (H : Hp) (s : Shared),Inv (cL X scope s3.heap.objs.size N' s3 (upd H2 D (.lst [])) fp) pins σ H s ∧ eR X.prog X.w X.stack H s E e s') ∧ X'.s₀ = s3 ∧ X'.H₀ = upd H2 D (.lst []) ∧ X'.fs = frs X.stack ∧ X'.ex = fp := by
  subst eX
  exact ⟨rfl,rfl,rfl,rfl,rfl,rfl,rfl,rfl,rfl,rfl,rfl⟩
 have hg' : PG X' tg g := by subst eX; exact hg _ _ _ _
 have ht' : Cu X' ifs tt := by subst eX; exact ht _ _ _ _
 have he' : PE X' elt te := by subst eX; exact he _ _ _ _
 clear eX
 obtain ⟨x1,x2,x3,x4,x5,x6,x7,x8,x9,x10,x11⟩ := hX
 have loop : codeAny (model X.prog X.w) X.A (.compLoop (.ListComp elt [⟨tg,iter,ifs,0⟩] scope pos) 0 (.ref it) (.ref D) (compEnvC scope (mM scope X.env) s3.heap.objs.size X.env))
   (compPost (model X.prog X.w) X.A X.xe use QQ (.ref D) s3.heap.objs.size) { s3 with heap := h4,toks := s3.toks + ([] : List (Str × Value)).length } := by
  refine pz (Jb := fun e s' => ∃ (pins : List (Addr × Obj)) (σ : St) (H : Hp) (s : Shared),Inv (cL X scope s3.heap.objs.size N' s3 (upd H2 D (.lst [])) fp) pins σ H s ∧ eR X.prog X.w X.stack H s E e s') (hE := P9) (I := fun n s' => ∃ i σ' ys H',Inv X' [] σ' H' s' ∧ tn i s'.heap ∧ (∀ b ∈ fp,H' b = none) ∧ W i n σ' ys H') ?_ m0 ⟨0,_,[],_,I4,FY,fun b hb => (f3 b hb).1,w0⟩
  rintro n s5 ⟨i,σ5,ys,H5,I5,B4,Fy,w5⟩
  rcases turn i n σ5 ys H5 w5 with ⟨stop,qn⟩ | ⟨go,N,hN,step⟩
  ·have z := T.done X' x1 x2 x3 x5 i [] s5 σ5 H5 (fun _ _ => False) I5 (stat Fy) B4 stop
   rw [x4] at z
   refine cE z fun r s6 ⟨hr,I6⟩ => ?_
   subst hr
   obtain ⟨mm,JZ,_⟩ := I6.loc
   have hL : X'.env.locals = s3.heap.objs.size := by rw [x6]; rfl
   rw [hL] at JZ
   have nC : H5 s3.heap.objs.size = none := by have := I6.free; rw [hL] at this; exact this
   have base := I6.base
   rw [x8,x9,x10,x11] at base
   have hok : iG X.prog X.w H5 s6.heap := by have q := I6.hok; rw [x1,x2] at q; exact q
   have os : s6.os = s3.os := by have := I6.os; rw [x8] at this; exact this
   have IX : Inv X pins σ H5 s6 := I3.call' os base hok I6.bare fun b hb => ⟨(f3 b hb).2.2.2.1,(f3 b hb).2.1,(f3 b hb).2.2.2.2.1,(f3 b hb).2.2.2.2.2⟩
   refine fin D s3.heap.objs.size H5 s6 IX qn nC (Nat.ne_of_gt I3.lt) I3.sz (fun x c e => ?_) (fun p hp => ?_) ⟨mm,JZ⟩
   ·obtain ⟨v,q⟩ := I3.cell x c e
    exact Nat.ne_of_lt q.lt
   ·exact Nat.ne_of_lt (Heap.lt_size (I3.pin p hp).1)
  ·have z := T.item X' x1 x2 x3 x5 i [] s5 σ5 H5 (fun _ _ => False) I5 (stat Fy) B4 go
   rw [x4] at z
   refine cE z fun r s6 ⟨u,hr,h6⟩ => ?_
   subst hr
   refine cE h6 fun _ s7 ⟨x,H7,I7,r7,y7,FZ,PB⟩ => ?_
   have PC := I7.pinned (stat PB) (T.obj _ _ FZ)
   have again : ∀ {σ' : St} {H' : Hp} {s' : Shared},Inv X' ([] ++ lg fp s7.heap) σ' H' s' → Inv X' [] σ' H' s' ∧ tn (i + 1) s'.heap ∧ ∀ b ∈ fp,H' b = none := fun {σ' H' s'} J => by
    refine ⟨J.iP,T.keep _ _ _ FZ fun b hb o e => (J.pin (b,o) (List.mem_append_right _ (List.mem_append_right _ (d5 hb e)))).1,fun b hb => ?_⟩
    obtain ⟨o,e,d⟩ := T.obj _ _ FZ b hb
    exact (J.pin (b,o) (List.mem_append_right _ (List.mem_append_right _ (d5 hb e)))).2.1
   have z := hg' _ s7 σ5 H7 x u _ PC r7 (step x H7 y7)
   rw [x1,x2,x4,x6,x7] at z
   refine cE z fun _ s8 ⟨σ8,H8,I8,q8⟩ => ?_
   have z := ht' _ s8 σ8 H8 _ I8 q8
   rw [x1,x2,x4,x6,x7] at z
   refine cE z fun b s9 ⟨H9,I9,q9⟩ => ?_
   cases b with
   | false =>
    rw [if_neg Bool.false_ne_true] at q9 ⊢
    obtain ⟨m',hm,w9⟩ := hN _ _ _ q9
    obtain ⟨a1,a2,a3⟩ := again I9
    exact ⟨m',hm,i + 1,σ8,ys,H9,a1,a2,a3,w9⟩
   | true =>
    rw [if_pos rfl] at q9 ⊢
    have z := he' _ s9 σ8 H9 _ I9 q9
    rw [x1,x2,x4,x6,x7] at z
    refine cE z fun v' BQ ⟨y,PD,zP,r10,Gh,hz,w10⟩ => ?_
    have z := cG (X := X') _ BQ σ8 PD (.ref D) [y] (.ref D) [v'] (fun _ H' => N σ8 (ys ++ [y]) H') zP rfl (.cons r10 .nil) ⟨D,ys,y,rfl,rfl,Gh,hz,w10⟩
    rw [x1,x2,x4,x7] at z
    refine cE z fun _ N3 ⟨_,PF,PH,_,w11⟩ => ?_
    obtain ⟨m',hm,w11⟩ := hN _ _ _ w11
    obtain ⟨a1,a2,a3⟩ := again PH
    exact ⟨m',hm,i + 1,σ8,_,PF,a1,a2,a3,w11⟩
 exact codeAny_compStart_list loop (T.self _ 0 _ _ _ FY loop)
theorem tM {P : Program} {w : World} {K : PySem.W.Frag} {mg : Str → Option Value} {base : Heap} {N : List Str} {qual : Str} {sc : Scope} {f : Addr} {cd : Value} {A : Around} {outer : List Env} {s₀ : Shared} {H₀ : Hp} {E : XK}
  {elt tg iter : Expr} {ifs : List Expr} {scope : Scope} {pos : Pos} {wi : TI} {g : TG} {tt : TT} {te : TE} {N' : List Str} {fr : List (Option Nat)} (S : dq sc scope N N' fr) (hi : PI (fh (eR P w) P w K mg base N qual sc f cd A outer s₀ H₀ E) tg iter wi)
  (hg : ∀ C s0 H0 fp,PG (eU (fh (eR P w) P w K mg base N qual sc f cd A outer s₀ H₀ E) E scope C N' s0 H0 fp) tg g) (ht : ∀ C s0 H0 fp,Cu (eU (fh (eR P w) P w K mg base N qual sc f cd A outer s₀ H₀ E) E scope C N' s0 H0 fp) ifs tt) (he : ∀ C s0 H0 fp,PE (eU (fh (eR P w) P w K mg base N qual sc f cd A outer s₀ H₀ E) E scope C N' s0 H0 fp) elt te)
  (hs : ∀ x,foldedSetIterable iter (fh (eR P w) P w K mg base N qual sc f cd A outer s₀ H₀ E).env x = pure x := by intro _; rfl) : PE (fh (eR P w) P w K mg base N qual sc f cd A outer s₀ H₀ E) (.ListComp elt [⟨tg,iter,ifs,0⟩] scope pos) (tD fr wi g tt te) := by
 intro pins s σ H Q I h
 rw [eval_ListComp]
 refine yI (L := (envOfC qual sc s₀.heap.objs.size f cd).locals) rfl rfl rfl (fun _ _ h => h) S rfl hi hg ht he hs I h none _ fun D C H5 s6 IX q nC c1 c2 c3 c4 hm => ?_
 obtain ⟨m,hm⟩ := hm
 refine ⟨m,hm,fun h' hs' => ⟨.ref D,H5,IX.turned (t' := s6.toks) (it := C) (fun b o hb e => hs'.extBut b o hb e) nC c1 (.inr c2) c3 c4,rfl,q⟩⟩
end L2
namespace L2
open PySem PySem.Spec PyProof.Rows
section
variable {X : Cx}
def CT : V → List V → Hp → VK → Prop := fun x vs H Q => ∃ (l : Addr) (ns : List Str) (k : Str),x = .ref l ∧ vs = [.str k] ∧ H l = some (.lst (ns.map V.str)) ∧ k ∈ ns ∧ ns.length ≤ 1000 ∧ Q (.int (ns.idxOf k : Nat)) H
theorem yJ : NZ X "list.index" CT := by
 intro pins s σ H x vs v us Q I rx rv h
 obtain ⟨l,ns,k,rfl,rfl,hH,hk,hl,q⟩ := h
 cases rx
 obtain ⟨u,rfl,ru⟩ := rv.one
 obtain ⟨t,rfl⟩ := ru
 obtain ⟨z,its,n,hv,hlen,e⟩ := I.uU hH
 rw [List.length_map] at hlen
 have fl : (ns.map V.str).all iE = true := by
  rw [List.all_eq_true]
  intro y hy
  obtain ⟨i,_,rfl⟩ := List.mem_map.mp hy
  rfl
 have hj : ns.idxOf k < ns.length := List.idxOf_lt_length_iff.mpr hk
 have val : ∀ (m : Nat) (h1 : m < its.length) (h2 : m < ns.length),o9 (.str k) its[m] = (ns[m] == k) := fun m h1 h2 => by
  obtain ⟨u,e1,e2⟩ := hv.get (i := m) (x := .str ns[m]) (by rw [List.getElem?_map,List.getElem?_eq_getElem h2]; rfl)
  rw [List.getElem?_eq_getElem h1] at e1
  rw [Option.some.inj e1,qX (y := .str ns[m]) e2 rfl]
  rfl
 refine call_meets F.slot_list_index ⟨_,e,rfl⟩ F.entry_list_index (F.args_list_index_2 _ _)
  (SeqAt.list_indexAt l its.toArray n none #[] (.str k t) (o9 (.str k)) (ns.idxOf k) (by simp; omega) (by omega) ?_ ?_) ⟨e,fun y hy => fj (x := .str k) ⟨t,rfl⟩ rfl hv fl y (by simpa using hy),⟨.int (ns.idxOf k : Nat),H,I.tok _,⟨_,rfl⟩,q⟩⟩
 ·show o9 (.str k) its[ns.idxOf k] = true
  rw [val _ (by omega) hj]
  simpa using List.getElem_idxOf hj
 ·intro m hm hlt
  have hm' : m < its.length := by simpa using hm
  show o9 (.str k) its[m] = false
  rw [val m hm' (by omega)]
  have := List.not_of_lt_findIdx (p := (· == k)) (xs := ns) (i := m) hlt
  simpa using this
end
section
variable {X : Cx}
def CU (K : PySem.W.Frag) : V → List V → Hp → VK → Prop := fun x vs H Q => ∃ (p : Addr) (ns : List Str) (k : Str),x = .ref p ∧ vs = [.str k] ∧ aZ K H p (ns.map V.str) ∧ Q (.int (ns.count k : Nat)) H
theorem qo {k : Str} : ∀ {ns : List Str} {its : List Value},Vals (ns.map V.str) its → its.countP (o9 (.str k)) = ns.count k
 | [],[],_ => rfl
 | n :: ns,u :: its,.cons h r => by
  have e : o9 (.str k) u = (n == k) := by rw [qX (y := .str n) h rfl]; rfl
  rw [List.countP_cons,List.count_cons,qo r,e]
theorem yK : Pq X "tuple.count" (CU X.K) := by
 intro pins s σ H x vs v us Q I rx rv h
 obtain ⟨p,ns,k,rfl,rfl,hp,q⟩ := h
 cases rx
 obtain ⟨u,rfl,ru⟩ := rv.one
 obtain ⟨t,rfl⟩ := ru
 obtain ⟨its,r,pl,hz⟩ := I.tuple hp
 obtain ⟨o,ho,hc,m,hdat⟩ := pl
 obtain ⟨oc,od,odt,osl⟩ := o
 have hc : oc = _ := hc
 have hdat : odt = _ := hdat
 subst hc hdat
 have fl : (ns.map V.str).all iE = true := by
  rw [List.all_eq_true]
  intro y hy
  obtain ⟨i,_,rfl⟩ := List.mem_map.mp hy
  rfl
 refine call_meets F.slot_tuple_count ⟨_,ho,rfl⟩ F.entry_tuple_count (F.args_tuple_count_2 _ _)
  (SeqAt.tuple_countAt p its.toArray m od osl (.str k t) (o9 (.str k))) ⟨ho,fun y hy => fj (x := .str k) ⟨t,rfl⟩ rfl r fl y (by simpa using hy),⟨.int (ns.count k : Nat),H,I.tok _,⟨s.toks,by rw [List.toList_toArray,qo r]⟩,q⟩⟩
end
end L2
namespace L2
open PySem PySem.W PySem.Spec PySem.Calls PyProof.Rows
section
variable {X : Cx}
def Kl (x : Str) (c : V → TE) : V → TE := fun v σ H Q => c v σ H fun y H1 => ∀ p,H1 p = none → Q (.ref p) (upd H1 p (.tup [.str x,y]))
theorem z7 {x : Str} {j p0 pos x1} {e : Expr} {t : TA} {c : V → TE} {f : Addr} (he0 : N7 X e f t c)
  (he : starEach [.Constant (.str x) j p0,e] X.env = [(false,eval (.Constant (.str x) j p0) X.env),(false,eval e X.env)] := by rfl) : N7 X (.Tuple [.Constant (.str x) j p0,e] x1 pos) f t (Kl x c) := by
 intro XE pins s σ H Q W I h hW
 refine wpAny_Tuple_spliced ?_
 rw [he]
 show wpAny _ _ (spliced ((false,eval (.Constant (.str x) j p0) X.env) :: (false,eval e X.env) :: [])) _ _ s
 refine Calls.spliced_cons (Calls.Constant_str ?_)
 refine Calls.spliced_cons (wpAny_mono (he0 XE pins _ σ H (fun y H1 => ∀ p,H1 p = none → Q (.ref p) (upd H1 p (.tup [.str x,y]))) W (I.tok _) h hW) (fun u s1 hu => ?_) fun _ _ z => z)
 obtain ⟨y,H1,I1,r1,q1⟩ := hu
 refine Calls.spliced_nil ⟨by show 2 ≤ sizeLine; decide,?_⟩
 have hf : H1 s1.heap.objs.size = none := I1.hok.fresh (Nat.le_refl _)
 refine ⟨.ref s1.heap.objs.size,upd H1 s1.heap.objs.size (.tup [.str x,y]),I1.laid (t' := s1.toks) (fun b u e => Heap.get?_push_of_some _ e) (Nat.le_refl _) ?_,rfl,q1 _ hf⟩
 exact ⟨by show 2 ≤ sizeLine; decide,_,.cons ⟨_,rfl⟩ (.cons r1 .nil),⟨_,Heap.get?_push_size _ rfl,rfl,_,rfl⟩⟩
end
end L2
namespace L2
open PySem PySem.Spec PyProof.Rows
section
variable {X : Cx}
def CV : V → List V → Hp → VK → Prop := fun x vs H Q => ∃ (l : Addr) (xs : List V) (i : Nat) (y : V),x = .ref l ∧ vs = [.int (i : Int),y] ∧ H l = some (.lst xs) ∧ i ≤ xs.length ∧ xs.length < sizeLine ∧ i < 2 ^ 63 ∧ Q .non (upd H l (.lst (xs.take i ++ y :: xs.drop i)))
theorem yL : NZ X "list.insert" CV := by
 intro pins s σ H x vs v us Q I rx rv h
 obtain ⟨l,xs,i,y,rfl,rfl,hH,hi,hz,hi2,q⟩ := h
 cases rx
 obtain ⟨u,u2,rfl,ru,ru2⟩ := rv.two
 obtain ⟨t,rfl⟩ := ru
 obtain ⟨z,its,n,r,hl,e⟩ := I.uU hH
 have hf : Builtin.List.listFitsIndex (i : Int) = true := fitsIndex_both (Int.le_trans (by decide) (Int.natCast_nonneg i)) (by exact_mod_cast hi2)
 generalize hx : (i : Int) = x at hf ⊢
 have hs : its.toArray.size ≤ sizeLine := by rw [List.size_toArray]; omega
 have M := AutoSeq1.list_insert_list_int_val_1 l its.toArray n x t u2 (by rw [hf]; exact Bool.false_ne_true) hs
 refine call_meets F.slot_list_insert ⟨_,e,rfl⟩ F.entry_list_insert (F.args_list_insert_3 _ _ _) M ⟨e,?_⟩
 refine ⟨.non,_,I.FO (its' := its.take i ++ u2 :: its.drop i) hH e ?_ ((r.take i).append (.cons ru2 (r.drop i))) ?_,rfl,q⟩
 ·subst hx
  show (its.toArray.extract 0 (if (i : Int) < 0 then ((i : Int) + (its.toArray.size : Int)).toNat else min (i : Int).toNat its.toArray.size)).push u2 ++ its.toArray.extract (if (i : Int) < 0 then ((i : Int) + (its.toArray.size : Int)).toNat else min (i : Int).toNat its.toArray.size) = _
  rw [if_neg (by omega),List.size_toArray,Int.toNat_natCast,Nat.min_eq_left (by omega)]
  apply Array.ext'
  simp
  exact List.take_of_length_le (by simp)
 ·rw [List.length_append,List.length_cons,List.length_take,List.length_drop]
  omega
end
end L2
namespace PySem.W.Fast
def tw15925324162006814497 : Nat := 0
def tw12816066315325900298 : Nat := 0
def tw15110500112042892718 : Nat := 0
def tw6932296784300472375 : Nat := 0
def tw8695314959250924367 : Nat := 0
def tw10402648260836866696 : Nat := 0
def tw17160621964342663743 : Nat := 0
def tw6939767544361645776 : Nat := 0
def tw134718110602519589 : Nat := 0
def tw6134417135837636385 : Nat := 0
def tw9098884113841570739 : Nat := 0
def tw1624020893949169790 : Nat := 0
def tw525529555224100517 : Nat := 0
def tw9495888257530324659 : Nat := 0
def tw14518201265604493390 : Nat := 0
def tw15679707322156241869 : Nat := 0
def tw18006052855435364276 : Nat := 0
def tw12920356215126975119 : Nat := 0
def tw5472744774602601623 : Nat := 0
def tw16426315381079125582 : Nat := 0
def tw17872056492257351761 : Nat := 0
def tw5729534765672521193 : Nat := 0
def tw8754617258759581107 : Nat := 0
def tw1533379116533019184 : Nat := 0
def tw9902174014181274961 : Nat := 0
def tw12245505613027991052 : Nat := 0
def tw17047883351833083241 : Nat := 0
def tw13266553862523002928 : Nat := 0
def tw14548975841238523646 : Nat := 0
def tw4390180362001631867 : Nat := 0
def tw15151737073915932975 : Nat := 0
def tw5696156767006841874 : Nat := 0
def tw11691171090531508243 : Nat := 0
def tw4788682170748815870 : Nat := 0
def tw15360708574735703376 : Nat := 0
def tw4799848161784997388 : Nat := 0
def tw2080133788342218179 : Nat := 0
def tw210128315777331316 : Nat := 0
def tw13569042762666251111 : Nat := 0
def tw15540979199077552151 : Nat := 0
def tw16461248873619545933 : Nat := 0
def tw18088283570897669183 : Nat := 0
def tw16681511216098523873 : Nat := 0
def tw11700903487402110890 : Nat := 0
def tw13872568155325663511 : Nat := 0
def tw14061030034954145479 : Nat := 0
def tw4456591810955546980 : Nat := 0
def tw12929223102145029165 : Nat := 0
def tw13864693318348714783 : Nat := 0
def tw8347283021837551439 : Nat := 0
def tw15611369975964765107 : Nat := 0
def tw6617171212868702280 : Nat := 0
def tw7339108717526648243 : Nat := 0
def tw16757660470328963151 : Nat := 0
def tw8070283650466218527 : Nat := 0
def tw8334269070717049487 : Nat := 0
def tw13367550699712611403 : Nat := 0
end PySem.W.Fast
namespace My
open PySem L2
theorem _root_.L2.dW.u {n : Nat} {A : Around} (hr : dW n A) (k : Nat) (h : k ≤ 64 := by decide) : A.units + k < cLine := Nat.lt_of_le_of_lt (Nat.add_le_add_left h _) hr.units
abbrev KI (K : PySem.W.Frag) (f : Addr) : Prop := PySem.W.keepIn K (.ref f) = true
theorem z8 : 0 ≤ sizeLine := by decide
theorem dD : 1 ≤ sizeLine := by decide
theorem aJ : 2 ≤ sizeLine := by decide
theorem ef : 3 ≤ sizeLine := by decide
theorem ke : 4 ≤ sizeLine := by decide
theorem iS : 5 ≤ sizeLine := by decide
theorem CW : 6 ≤ sizeLine := by decide
theorem Qa : 7 ≤ sizeLine := by decide
theorem Km : 11 ≤ sizeLine := by decide
theorem Kn : 13 ≤ sizeLine := by decide
theorem Ex : 14 ≤ sizeLine := by decide
theorem Ey : 20 ≤ sizeLine := by decide
theorem z9 : 25 ≤ sizeLine := by decide
theorem Aa : (0 : Int) < 2 := by decide
theorem Ko : (0 : Int) < 3 := by decide
theorem vq : (0 : Int) < 4 := by decide
theorem Qb : (0 : Int) < 5 := by decide
theorem CY : (0 : Int) < 8 := by decide
theorem Qc : (0 : Int) < 9 := by decide
theorem Kp : (0 : Int) < 12 := by decide
theorem Kq : (0 : Int) < 17 := by decide
theorem Kr : (0 : Int) < 19 := by decide
theorem Ks : (0 : Int) < 20 := by decide
theorem Kt : (0 : Int) < 40 := by decide
theorem Ku : (0 : Int) < 70 := by decide
theorem Ab : (0 : Int) < 128 := by decide
theorem CZ : (0 : Int) < 1024 := by decide
theorem oA : (0 : Int) < 1000001 := by decide
theorem pA : (0 : Int) < 2147483629 := by decide
theorem jI : (0 : Int) < 2147483647 := by decide
open List (all_eq_true all_map any_cons append_nil cons_ne_nil countP_cons drop_length drop_zero length length_append length_cons length_drop length_eq_one_iff length_eq_zero_iff length_map length_range length_replicate length_set length_singleton length_take map_append map_cons map_drop map_map map_take mem_append mem_cons mem_cons_self mem_map mem_range mem_singleton not_mem_nil range_succ replicate take_add_one take_length take_of_length_le)
open PySem.W (Frag KeysLit OpenLaw WalkO clsIn codeIn excIn exmOne findIn fnOf kIn_of keepIn kitAny kitMeta kitOne mg_none_of mg_of mroIn nsIn specialIn typeIn)
open Option (map_eq_some_iff)
open Nat (le_of_ble_eq_true le_refl le_trans lt_succ_self min_eq_left not_lt_zero sub_self zero_le)
def top (i : Nat) : Stmt := PySem.Challenge.pw_widenrows_k14_units_read_and_spoilt.main.body.getD i (.Pass ⟨0,0,0,0⟩)
abbrev ji : Stmt := top 10
abbrev gO : Stmt := top 11
abbrev lC : Stmt := top 12
abbrev jj : Stmt := top 17
abbrev lD : Stmt := top 18
abbrev jk : Stmt := top 19
abbrev qp : Stmt := top 22
abbrev jl : Stmt := top 23
abbrev gP : Stmt := top 30
abbrev qq : Stmt := top 31
abbrev fA : Stmt := top 32
abbrev lE : Stmt := top 33
abbrev jm : Stmt := top 34
abbrev jn : Stmt := top 35
abbrev iT : Stmt := top 36
abbrev jo : Stmt := top 37
abbrev ib : Stmt := top 38
abbrev qr : Stmt := top 40
abbrev jq : Stmt := top 41
abbrev yM : Stmt := top 42
abbrev qt : Stmt := top 43
abbrev qu : Stmt := top 44
abbrev oE : Stmt := top 45
abbrev vt : Stmt := top 46
abbrev lF : Stmt := top 47
abbrev jO : Stmt := top 48
abbrev lG : Stmt := top 49
abbrev gd : Stmt := top 50
abbrev jr : Stmt := top 51
abbrev jt : Stmt := top 52
abbrev lI : Stmt := top 53
abbrev ju : Stmt := top 54
abbrev jP : Stmt := top 55
abbrev vw : Stmt := top 56
abbrev lJ : Stmt := top 57
abbrev gQ : Stmt := top 58
abbrev jv : Stmt := top 59
abbrev ic : Stmt := top 60
abbrev oF : Stmt := top 61
theorem jw : bootBuiltins "list" = some (.type "list") := by decide +kernel
theorem eM : bootBuiltins "tuple" = some (.type "tuple") := by decide +kernel
theorem rJ : bootBuiltins "bool" = some (.type "bool") := by decide +kernel
theorem cM : bootBuiltins "len" = some (.builtin "len") := by decide +kernel
theorem ie : bootBuiltins "isinstance" = some (.builtin "isinstance") := by decide +kernel
theorem at0 {α : Type} (a : α) (r : List α) : j4 (a :: r) 0 = some a := cI (j := 0) rfl
theorem at1 {α : Type} (a b : α) (r : List α) : j4 (a :: b :: r) 1 = some b := cI (j := 1) rfl
theorem at2 {α : Type} (a b c : α) (r : List α) : j4 (a :: b :: c :: r) 2 = some c := cI (j := 2) rfl
theorem strEq {a b : Str} (h : decide (V.str a = V.str b) = true) : a = b := V.str.inj (of_decide_eq_true h)
theorem jJ {a b : Str} (h : ¬ decide (V.str a = V.str b) = true) : ¬ a = b := fun e => h (by rw [e]; exact decide_eq_true rfl)
theorem bt (w : Str) : ∀ ss : List Str,inV (.str w) (ss.map V.str) = decide (w ∈ ss)
 | [] => rfl
 | x :: r => by
  have ih := bt w r
  unfold inV at ih ⊢
  rw [map_cons,any_cons,ih]
  show ((x == w) || _) = _
  by_cases h : x = w
  ·subst h
   simp
  ·have h' : ¬ w = x := fun e => h e.symm
   simp [h,h']
theorem ae {H : Hp} {l : Addr} {o : HO} (h : H l = none) : Same H (upd H l o) := fun b u e => by
 rw [aX (cg e h)]
 exact e
theorem fK : bootBuiltins "int" = some (.type "int") := by decide +kernel
theorem Gz : bootBuiltins "max" = some (.builtin "max") := by decide +kernel
theorem GA : bootBuiltins "min" = some (.builtin "min") := by decide +kernel
theorem bh {H H1 : Hp} {l : Addr} {o : HO} (e : Same H H1) (h : H l = none) : Same H (upd H1 l o) := fun b u z => by
 rw [aX (cg z h)]
 exact e b u z
def bu : List Str := ["stop", "back", "halt", "set", "more", "copy", "add", "less", "load", "keep", "tell", "see", "put", "take", "jump", "zero", "below", "call", "mark", "table"]
def w2 : List Str := ["copy", "add", "less", "load", "keep"]
def w1 : List Str := ["set", "more", "tell", "see", "put", "take", "zero", "below", "table"]
def nI (u : Str) (items : List V) : Prop := (u ∈ w2 → ∃ b c : Int,items = [.int b,.int c]) ∧ (u ∈ w1 → ∃ (b : Int) (r : List V),items = .int b :: r)
theorem nI.one {u : Str} {b : Int} {r : List V} (h : ¬ u ∈ w2) : nI u (.int b :: r) := ⟨fun z => absurd z h,fun _ => ⟨b,r,rfl⟩⟩
theorem gD {K : Frag} {a b : String} {r : Bool} (h1 : (Value.type a == Value.type b) = false) (h2 : kitMeta b = true) (h3 : (fastBuiltinMro a).map (·.contains (Value.type b)) = some r) : kitOne K (.type a) (.type b) = some r := by
 unfold kitOne
 rw [if_neg (by rw [h1]; decide)]
 show (if kitMeta b = true then (fastBuiltinMro a).map (·.contains (Value.type b)) else none) = some r
 rw [if_pos h2]
 exact h3
theorem vx {K : Frag} {a : String} (h : (Value.type a == Value.type a) = true) : kitOne K (.type a) (.type a) = some true := by
 unfold kitOne
 rw [if_pos h]
theorem jQ {K : Frag} : kitOne K (.type "int") (.type "bool") = some false := gD (by decide) (by decide +kernel) (by decide +kernel)
theorem oG {K : Frag} : kitOne K (.type "bool") (.type "int") = some true := gD (by decide) (by decide +kernel) (by decide +kernel)
theorem iU {K : Frag} : kitOne K (.type "NoneType") (.type "int") = some false := gD (by decide) (by decide +kernel) (by decide +kernel)
theorem qv {K : Frag} : kitOne K (.type "str") (.type "int") = some false := gD (by decide) (by decide +kernel) (by decide +kernel)
theorem mY {K : Frag} : kitOne K (.type "NoneType") (.type "list") = some false := gD (by decide) (by decide +kernel) (by decide +kernel)
theorem vy {K : Frag} : kitOne K (.type "str") (.type "list") = some false := gD (by decide) (by decide +kernel) (by decide +kernel)
theorem vz {K : Frag} : kitOne K (.type "int") (.type "list") = some false := gD (by decide) (by decide +kernel) (by decide +kernel)
theorem rK {K : Frag} : kitOne K (.type "tuple") (.type "list") = some false := gD (by decide) (by decide +kernel) (by decide +kernel)
theorem tN {K : Frag} : kitOne K (.type "dict") (.type "list") = some false := gD (by decide) (by decide +kernel) (by decide +kernel)
theorem qw {K : Frag} : kitOne K (.type "int") (.type "int") = some true := vx (by decide)
theorem mh {K : Frag} : kitOne K (.type "bool") (.type "bool") = some true := vx (by decide)
theorem tO {K : Frag} : kitOne K (.type "list") (.type "list") = some true := vx (by decide)
def dE : List Str := ["stop", "back", "halt", "jump"]
def eS : List Str := ["jump", "call", "mark"]
def zb : List Str := ["zero", "below"]
def Parts (H : Hp) (w : Str) (items : List V) (ts : List Int) : Prop :=
 if w = "table" then ∃ (b : V) (q : Addr),items = [b,.ref q] ∧ H q = some (.tup (ts.map V.int))
 else if w ∈ eS then ∃ (t : Int) (f : V),items = [.int t,f] ∧ ts = [t]
 else if w ∈ zb then ∃ (b : V) (t : Int) (f : V),items = [b,.int t,f] ∧ ts = [t] else ts = []
def Kv (H : Hp) (r : Addr) (w : Str) (ts : List Int) : Prop := ∃ items,H r = some (.tup (.str w :: items)) ∧ Parts H w items ts
def kinds : List (Str × List Str) := [("stop",[]),("back",[]),("halt",["number"]),("set",["box", "value"]),("more",["box", "value"]),("copy",["box", "box"]),("add",["box", "box"]),("less",["box", "box"]),("load",["box", "box"]),("keep",["box", "box"]),
 ("tell",["box"]),("see",["box", "number"]),("put",["box", "aside"]),("take",["box", "aside"]),("jump",["target", "far"]),("zero",["box", "target", "far"]),("below",["box", "target", "far"]),("call",["target", "far"]),("mark",["target", "far"]),("table",["box", "targets"])]
theorem GK : bootBuiltins "sum" = some (.builtin "sum") := by decide +kernel
def five : List Str := ["jump", "call", "mark", "zero", "below"]
def six : List Str := ["set", "more", "put", "take", "see", "halt"]
def tP : List Str := ["number", "value", "aside"]
def heads : List (Str × Int) := [("stop",0),("back",0),("halt",0),("set",0),("more",0),("copy",0),("add",0),("less",0),("load",0),("keep",0),("tell",0),("see",0),("put",0),("take",0),("jump",0),("zero",0),("below",0),("call",0),("mark",0),("table",0),("jump",1),("zero",1),("below",1),("call",1),("mark",1)]
def bounds : List (Str × Int × Int) := [("box",0,7),("aside",0,1000000),("target",0,1000000000),("number",0,1000000),("value",-1000000000,1000000000),("far",0,1)]
structure Txt (K : Frag) (pr : Params) (mg : Str → Option Value) : Prop where
 Qd : ∃ p,mg "PARTS" = some (.ref p) ∧ ∀ x ∈ kinds,∃ q,Cz K pr p x.1 (some (.ref q)) ∧ ∀ H,aZ K H q (x.2.map V.str)
 two : ∃ p,mg "TWO_UNITS" = some (.ref p) ∧ ∀ H,aZ K H p (six.map V.str)
 cst : ∃ t,mg "CODE_STEP" = some (.int 1024 t)
 bst : ∃ t,mg "BOX_STEP" = some (.int 128 t)
 sad : ∃ t,mg "SHORT_ADDED" = some (.int 64 t)
 hds : ∃ p,mg "HEADS" = some (.ref p) ∧ (∃ o,K.lookup p = some o ∧ o.cls = .type "tuple" ∧ o.dict = none) ∧ ∀ H,∃ qs : List Addr,aZ K H p (qs.map V.ref) ∧ qs.length = heads.length ∧ ∀ (i : Nat) q h,qs[i]? = some q → heads[i]? = some h → aZ K H q [.str h.1,.int h.2]
 hdq : ∃ (p : Addr) (qs : List Addr),mg "HEADS" = some (.ref p) ∧ (∀ H,aZ K H p (qs.map V.ref)) ∧ qs.length = heads.length ∧ ∀ (i : Nat) q h,qs[i]? = some q → heads[i]? = some h → ∀ H,aZ K H q [.str h.1,.int h.2]
 prk : ∃ p,mg "PARTS" = some (.ref p) ∧ ∀ x ∈ kinds,∃ q,Cz K pr p x.1 (some (.ref q)) ∧ (∃ o,K.lookup q = some o ∧ o.cls = .type "tuple" ∧ o.dict = none) ∧ ∀ H,aZ K H q (x.2.map V.str)
 bnd : ∃ p,mg "BOUNDS" = some (.ref p) ∧ ∀ x ∈ bounds,∃ q,Cz K pr p x.1 (some (.ref q)) ∧ ∀ H,aZ K H q [.int x.2.1,.int x.2.2]
 mtg : ∃ t,mg "MOST_TARGETS" = some (.int 16 t)
 bxs : ∃ t,mg "BOXES" = some (.int 8 t)
 non : ∃ p,mg "NOT_GOING_ON" = some (.ref p) ∧ ∀ H,aZ K H p (dE.map V.str)
 len : mg "len" = none
 list : mg "list" = none
 tuple : mg "tuple" = none
 int : mg "int" = none
 bool : mg "bool" = none
 C0 : mg "isinstance" = none
 enum : mg "enumerate" = none
 range : mg "range" = none
 min : mg "min" = none
 max : mg "max" = none
 sum : mg "sum" = none
 dict : mg "dict" = none
def cj (u : Str) : List Str := ((kinds.find? fun x => x.1 == u).map (·.2)).getD []
def vA (u : Str) : Nat := (cj u).length
theorem er {n : Nat} (h : n ≤ 1000000) : n ≤ sizeLine := le_trans h (by decide)
theorem bK {n : Nat} (h : n ≤ 1000000) : n < sizeLine := Nat.lt_of_le_of_lt h (by decide)
structure FR where
 u : Str
 is : List Int
 ts : List Int
def FR.Ok (d : FR) : Prop := d.u ∈ bu ∧ (d.u = "table" → ∃ b,d.is = [b]) ∧ (d.u ∈ eS → ∃ t f,d.is = [t,f] ∧ d.ts = [t]) ∧ (d.u ∈ zb → ∃ b t f,d.is = [b,t,f] ∧ d.ts = [t]) ∧
 (¬ d.u = "table" → ¬ d.u ∈ eS → ¬ d.u ∈ zb → d.ts = [] ∧ d.is.length = vA d.u) ∧ (d.u ∈ w2 → ∃ b c,d.is = [b,c]) ∧ (d.u ∈ w1 → ∃ b r,d.is = b :: r)
def Qe (H : Hp) (q : Addr) (d : FR) : Prop := (d.u = "table" ∧ ∃ b p,d.is = [b] ∧ H q = some (.tup [.str d.u,.int b,.ref p]) ∧ H p = some (.tup (d.ts.map V.int))) ∨ (¬ d.u = "table" ∧ H q = some (.tup (.str d.u :: d.is.map V.int)))
def bQ (H : Hp) (q : Addr) (d : FR) : Prop := d.Ok ∧ Qe H q d
theorem bQ.same {H H' : Hp} {q : Addr} {d : FR} (s : Same H H') (h : bQ H q d) : bQ H' q d := by
 obtain ⟨o,h⟩ := h
 refine ⟨o,?_⟩
 rcases h with ⟨a,b,p,e,h1,h2⟩ | ⟨a,h1⟩
 ·exact .inl ⟨a,b,p,e,s _ _ h1,s _ _ h2⟩
 ·exact .inr ⟨a,s _ _ h1⟩
theorem bQ.parts {H : Hp} {q : Addr} {d : FR} (h : bQ H q d) : ∃ items,H q = some (.tup (.str d.u :: items)) ∧ nI d.u items ∧ Parts H d.u items d.ts ∧ ∀ (i : Nat) (b : Int),(d.u ∈ w1 ∨ d.u ∈ w2) → i < 2 → (d.u ∈ w1 → i = 0) → (items[i]? = some (.int b) ↔ d.is[i]? = some b) := by
 obtain ⟨⟨hu,h1,h2,h3,h4,h5,h6⟩,h⟩ := h
 rcases h with ⟨a,b,p,e,g1,g2⟩ | ⟨a,g1⟩
 ·refine ⟨_,g1,nI.one (by rw [a]; decide),?_,fun i b' _ hi hw => ?_⟩
  ·unfold Parts
   rw [if_pos a]
   exact ⟨_,p,rfl,g2⟩
  ·have : i = 0 := hw (by rw [a]; decide)
   subst this
   rw [e]
   simp
 ·refine ⟨_,g1,⟨fun z => ?_,fun z => ?_⟩,?_,fun i b' _ hi hw => ?_⟩
  ·obtain ⟨b,c,e⟩ := h5 z
   exact ⟨b,c,by rw [e]; rfl⟩
  ·obtain ⟨b,r,e⟩ := h6 z
   exact ⟨b,r.map V.int,by rw [e]; rfl⟩
  ·unfold Parts
   rw [if_neg a]
   split
   ·rename_i z
    obtain ⟨t,f,e1,e2⟩ := h2 z
    exact ⟨t,.int f,by rw [e1]; rfl,e2⟩
   ·rename_i z1
    split
    ·rename_i z
     obtain ⟨b,t,f,e1,e2⟩ := h3 z
     exact ⟨.int b,t,.int f,by rw [e1]; rfl,e2⟩
    ·rename_i z2
     exact (h4 a z1 z2).1
  ·rw [List.getElem?_map,map_eq_some_iff]
   exact ⟨fun ⟨y,e1,e2⟩ => by cases e2; exact e1,fun e => ⟨b',e,rfl⟩⟩
def dZ (H : Hp) (lr : Addr) (ds : List FR) : Prop := ∃ qs : List Addr,H lr = some (.lst (qs.map V.ref)) ∧ qs.length = ds.length ∧ ∀ (i : Nat) q d,qs[i]? = some q → ds[i]? = some d → bQ H q d
theorem dZ.same {H H' : Hp} {lr : Addr} {ds : List FR} (s : Same H H') (h : dZ H lr ds) : dZ H' lr ds := by
 obtain ⟨qs,a,b,c⟩ := h
 exact ⟨qs,s _ _ a,b,fun i q d h1 h2 => (c i q d h1 h2).same s⟩
theorem dZ.get {H : Hp} {lr : Addr} {ds : List FR} {r : Nat} {d : FR} (h : dZ H lr ds) (hd : ds[r]? = some d) : ∃ (qs : List Addr) (q : Addr),H lr = some (.lst (qs.map V.ref)) ∧ j4 (qs.map V.ref) (r : Int) = some (.ref q) ∧ (qs.map V.ref)[r]? = some (.ref q) ∧ bQ H q d := by
 obtain ⟨qs,a,b,c⟩ := h
 have hr := (List.getElem?_eq_some_iff.mp hd).1
 have hq : qs[r]? = some (qs[r]'(by omega)) := List.getElem?_eq_getElem _
 have hq' : (qs.map V.ref)[r]? = some (.ref (qs[r]'(by omega))) := by rw [List.getElem?_map,hq]; rfl
 exact ⟨qs,_,a,cI hq',hq',c r _ d hq hd⟩
def isStar : Expr → Bool
 | .Starred _ _ => true
 | _ => false
theorem kf {e : Expr} {es : List Expr} {env : Env} (h : isStar e = false) : starEach (e :: es) env = (false,eval e env) :: starEach es env := starEach.eq_3 _ _ _ (fun e1 p h1 => by rw [h1] at h; cases h)
inductive Ez (X : Cx) : List Expr → List TE → Prop where
 | nil : Ez X [] []
 | cons {e : Expr} {te : TE} {es : List Expr} {ts : List TE} (h : PE X e te) (r : Ez X es ts) (hs : isStar e = false := by rfl) : Ez X (e :: es) (te :: ts)
def Ac : List TE → TA
 | [] => Ca
 | te :: ts => pU te (Ac ts)
theorem Ez.pa {X : Cx} {es : List Expr} {ts : List TE} (h : Ez X es ts) : PA X es (Ac ts) := by
 induction h with
 | nil => exact aj
 | cons h r hs ih => exact af h ih (kf hs)
theorem wX {X : Cx} {es : List Expr} {ts : List TE} {pos : Pos} (h : Ez X es ts) : PE X (.List es pos) (FD (Ac ts)) := bw h.pa
theorem dG {X : Cx} {es : List Expr} {ts : List TE} {pos : Pos} {x1} (h : Ez X es ts) : PE X (.Tuple es x1 pos) (Cd (Ac ts)) := aI h.pa
@[irreducible] def wY (X : Cx) (e : Expr) (t : TE) : Prop := PE X e t
@[irreducible] def Jc (X : Cx) (e : Stmt) (t : TS) : Prop := PS X e t
theorem nJ {X : Cx} {es : List Expr} {ts : List TE} {pos : Pos} (h : Ez X es ts) : wY X (.List es pos) (FD (Ac ts)) := by
 unfold wY
 exact bw h.pa
theorem nK {X : Cx} {pos : Pos} {i : Nat} {x : Str} {e : Expr} {te : TE} {pos' : Pos} (hN : X.N.Nodup) (hi : X.N[i]? = some x) (hx : Loc X.env.scope x) (he : wY X e te) (hs : swapsWith e (some (.Name x pos')) pos.line X.env = pure false := by rfl) (hf : X.fn x = true ∨ X.env.scope.names.lookup x = some .local := by first | exact .inl rfl | exact .inr rfl | assumption) :
  Jc X (.Assign [.Name x pos'] e pos) (zA te (n4 i)) := by
 unfold wY at he
 unfold Jc
 exact aF hN hi hx he hs hf
theorem iV {X : Cx} {st : Stmt} {t : TS} (h : Jc X st t) : Ja X st t := by
 unfold Jc at h
 exact aw h
theorem bz {c A B : Prop} [Decidable c] (h : c) (a : A) : if c then A else B := by rw [if_pos h]; exact a
theorem bY {c A B : Prop} [Decidable c] (h : ¬ c) (b : B) : if c then A else B := by rw [if_neg h]; exact b
def dt (d : FR) : Int := d.is.getLastD 0
def gE (d : FR) : Int := if d.u = "table" then 2 + d.ts.length else if d.u ∈ five then 1 + dt d else if d.u ∈ six then 2 else 1
theorem eN {H : Hp} {q : Addr} {d : FR} (h : bQ H q d) (hu : d.u ∈ five) : ¬ d.u = "table" ∧ H q = some (.tup (.str d.u :: d.is.map V.int)) ∧ j4 (V.str d.u :: d.is.map V.int) (-1) = some (.int (dt d)) ∧ ∃ t,d.ts = [t] ∧ j4 (V.str d.u :: d.is.map V.int) (-2) = some (.int t) := by
 have nt : ¬ d.u = "table" := fun z => absurd hu (by rw [z]; decide)
 have hc := (by decide +kernel : ∀ u ∈ five,u ∈ eS ∨ u ∈ zb) _ hu
 rcases h.2 with ⟨z,_⟩ | ⟨_,e⟩
 ·exact absurd z nt
 ·refine ⟨nt,e,?_⟩
  unfold dt
  rcases hc with z | z
  ·obtain ⟨t,f,e1,e2⟩ := h.1.2.2.1 z
   rw [e1]
   exact ⟨rfl,t,e2,rfl⟩
  ·obtain ⟨b,t,f,e1,e2⟩ := h.1.2.2.2.1 z
   rw [e1]
   exact ⟨rfl,t,e2,rfl⟩
theorem yN : ∀ x ∈ kinds,(decide (("far" : Str) ∈ x.2)) = decide (x.1 ∈ five) := by decide +kernel
theorem yO : ∀ u ∈ bu,∃ ks,(u,ks) ∈ kinds := fun u hu => by
 have : u ∈ kinds.map (·.1) := (by decide +kernel : ∀ u ∈ bu,u ∈ kinds.map (·.1)) u hu
 obtain ⟨x,hx,rfl⟩ := mem_map.mp this
 exact ⟨x.2,hx⟩
section
variable {P : Program} {w : World} {K : Frag} {mg : Str → Option Value} {base : Heap}
def qx : Sp := fun vs H Q _ => ∃ (r : Addr) (w : Str) (ts : List Int),vs = [.ref r] ∧ Kv H r w ts ∧ ∀ (l : Addr) (H' : Hp),Same H H' → H l = none → H' l = some (.lst (ts.map V.int)) → Q (.ref l) H'
theorem qy : aW ["row", "word"] ["row"] (aq gO) := ⟨rfl,rfl,rfl,by decide +kernel,rfl,by decide +kernel,by decide +kernel⟩
theorem vB {f : Addr} {fd : FuncData} (F : fq K "targets_of" "targets_of" gO f fd) (T : Txt K w.params mg) : aY P w K mg base cQ 1 f fd ["row"] qx := by
 refine F.ok qy (fun vs H Q E h => ?_) (fun cdv A outer s H vs Q E hr h => ?_)
 ·obtain ⟨r,w,ts,rfl,_⟩ := h
  rfl
 ·obtain ⟨r,w',ts,rfl,⟨items,hR,hP⟩,k⟩ := h
  refine ⟨_,aC (aF (i := 1) qy.nd rfl (Or.inl rfl) (aE aN (pv 0) ai (fun _ _ => rfl)))
   (aC (cK (az cw (pv 1) ak (aL _)) (aG (aA (bA dX (by rfl) T.list jw (af (aE aN (pv 0) ai (fun _ _ => rfl)) aj)))) aD)
   (aC (cK (az bg (pv 1) (aI (af ak (af ak (af ak aj)))) rfl) (aG (aA (bw (af (aE aN (pv 0) ai (fun _ _ => rfl)) aj)))) aD)
   (aC (cK (az bg (pv 1) (aI (af ak (af ak aj))) rfl) (aG (aA (bw (af (aE aN (pv 0) ai (fun _ _ => rfl)) aj)))) aD)
   (aG (aA (bw aj)))))),?_⟩
  refine ⟨_,rfl,r,_,0,.str w',rfl,rfl,aZ.of hR,at0 _ _,_,rfl,rfl,_,rfl,?_⟩
  refine cB (fun h1 => ?_) (fun h1 => ?_)
  ·have h1 := strEq h1
   unfold Parts at hP
   rw [if_pos h1] at hP
   obtain ⟨b,q,rfl,hq⟩ := hP
   refine ⟨_,rfl,r,_,2,.ref q,rfl,rfl,aZ.of hR,at2 _ _ _ _,q,_,rfl,.inr (aZ.of hq),fun l hl => ?_⟩
   exact k l _ (ae hl) hl ah
  ·have h1 := jJ h1
   unfold Parts at hP
   rw [if_neg h1] at hP
   refine ⟨_,rfl,ef,fun t ht => ⟨t,eS.map V.str,rfl,.inr (aZ.of ah),rfl,rfl,_,rfl,?_⟩⟩
   have s1 := ae (o := .tup (eS.map V.str)) ht
   have hR1 := s1 _ _ hR
   rw [show inV (.str w') (eS.map V.str) = decide (w' ∈ eS) from bt _ _]
   refine cB (fun h2 => ?_) (fun h2 => ?_)
   ·have h2 := of_decide_eq_true h2
    rw [if_pos h2] at hP
    obtain ⟨t',f',rfl,rfl⟩ := hP
    refine ⟨_,rfl,r,_,1,.int t',rfl,rfl,aZ.of hR1,at1 _ _ _,dD,fun l hl => ?_⟩
    exact k l _ (s1.trans (ae hl)) (s1.free hl) ah
   ·have h2 : ¬ w' ∈ eS := fun e => h2 (decide_eq_true e)
    rw [if_neg h2] at hP
    refine ⟨_,rfl,aJ,fun t2 BR => ⟨t2,zb.map V.str,rfl,.inr (aZ.of ah),rfl,rfl,_,rfl,?_⟩⟩
    have s2 := s1.trans (ae (o := .tup (zb.map V.str)) BR)
    have BU := s2 _ _ hR
    rw [show inV (.str w') (zb.map V.str) = decide (w' ∈ zb) from bt _ _]
    refine cB (fun h3 => ?_) (fun h3 => ?_)
    ·have h3 := of_decide_eq_true h3
     rw [if_pos h3] at hP
     obtain ⟨b,t',f',rfl,rfl⟩ := hP
     refine ⟨_,rfl,r,_,2,.int t',rfl,rfl,aZ.of BU,at2 _ _ _ _,dD,fun l hl => ?_⟩
     exact k l _ (s2.trans (ae hl)) (s2.free hl) ah
    ·have h3 : ¬ w' ∈ zb := fun e => h3 (decide_eq_true e)
     rw [if_neg h3] at hP
     subst hP
     refine ⟨z8,fun l hl => ?_⟩
     exact k l _ (s2.trans (ae hl)) (s2.free hl) ah
def wZ : Sp := fun vs H Q _ => ∃ u : Str,vs = [.str u] ∧ u ∈ bu ∧ Q (.bl (decide (u ∈ five))) H
theorem Kw : aW ["word"] ["word"] (aq jk) := ⟨rfl,rfl,rfl,by decide +kernel,rfl,by decide +kernel,by decide +kernel⟩
theorem GQ {f : Addr} {fd : FuncData} (F : fq K "has_far" "has_far" jk f fd) (T : Txt K w.params mg) : aY P w K mg base cQ 1 f fd ["word"] wZ := by
 refine F.ok Kw (fun vs H Q E h => ?_) (fun cdv A outer s H vs Q E hr h => ?_)
 ·obtain ⟨u,rfl,_⟩ := h
  rfl
 ·obtain ⟨u,rfl,hu,k⟩ := h
  obtain ⟨ks,hks⟩ := yO u hu
  obtain ⟨p,hp,hk⟩ := T.Qd
  obtain ⟨q,hq,hS⟩ := hk _ hks
  refine ⟨_,(aG (aA (cF bg ak (jc (cu (v := .ref p) (by rfl) hp rfl) (pv 0) (fun _ _ => rfl)) rfl))),?_⟩
  refine ⟨_,rfl,p,u,_,rfl,rfl,hq,q,ks.map V.str,rfl,.inr (hS _),rfl,(by rw [all_map]; exact all_eq_true.mpr fun _ _ => rfl),?_⟩
  show Q (.bl (inV (.str "far") (ks.map V.str))) H
  rw [bt,yN _ hks]
  exact k
def vC : Sp := fun vs H Q _ => ∃ (q : Addr) (d : FR),vs = [.ref q] ∧ bQ H q d ∧ Q (.int (gE d)) H
theorem Ad : aW ["row", "word"] ["row"] (aq qp) := ⟨rfl,rfl,rfl,by decide +kernel,rfl,by decide +kernel,by decide +kernel⟩
theorem C1 {f fH : Addr} {fd EA : FuncData} (F : fq K "size_of" "size_of" qp f fd) (T : Txt K w.params mg) (GH : aY P w K mg base cQ 1 fH EA ["word"] wZ) (kH : KI K fH) (bH : Binds K EA ["word"] []) (mH : mg "has_far" = some (.ref fH)) : aY P w K mg base cQ 2 f fd ["row"] vC := by
 refine F.ok Ad (fun vs H Q E h => ?_) (fun cdv A outer s H vs Q E hr h => ?_)
 ·obtain ⟨q,d,rfl,_⟩ := h
  rfl
 ·obtain ⟨q,d,rfl,hR,k⟩ := h
  obtain ⟨p,hp,hq⟩ := T.two
  obtain ⟨items,i1,_,i3,_⟩ := hR.parts
  unfold gE at k
  refine ⟨_,(aC (aF (i := 1) Ad.nd rfl (Or.inl rfl) (aE aN (pv 0) ai (fun _ _ => rfl)))
   (aC (cK (az cw (pv 1) ak (aL _)) (aG (aA (au aO ai (bf aU (by rfl) T.len cM (af (aE aN (pv 0) ai (fun _ _ => rfl)) aj))))) aD)
   (aC (cK (cP (aK GH hr (by rfl) mH kH bH .nil ck (af (pv 1) aj))) (aG (aA (au aO ai (aE aN (pv 0) (dQ cT ai) (fun _ _ => rfl))))) aD)
   (aG (aA (jW (az bg (pv 1) (cu (v := .ref p) (by rfl) hp rfl) rfl) ai ai)))))),?_⟩
  refine ⟨_,rfl,q,_,0,.str d.u,rfl,rfl,aZ.of i1,at0 _ _,_,rfl,rfl,_,rfl,?_⟩
  refine cB (fun e => ?_) (fun e => ?_)
  ·have e := strEq e
   rw [if_pos e] at k
   unfold Parts at i3
   rw [if_pos e] at i3
   obtain ⟨b,p3,rfl,h3⟩ := i3
   refine ⟨_,rfl,q,_,2,_,rfl,rfl,aZ.of i1,at2 _ _ _ _,p3,_,rfl,.inr (aZ.of h3),_,_,rfl,rfl,?_⟩
   rw [length_map]
   exact k
  ·have e := jJ e
   rw [if_neg e] at k
   refine ⟨_,rfl,d.u,rfl,hR.1.1,_,rfl,?_⟩
   refine cB (fun e2 => ?_) (fun e2 => ?_)
   ·have e2 := of_decide_eq_true e2
    rw [if_pos e2] at k
    obtain ⟨_,g1,g2,_⟩ := eN hR e2
    exact ⟨_,rfl,_,rfl,q,_,_,_,rfl,rfl,aZ.of g1,g2,_,_,rfl,rfl,k⟩
   ·have e2 : ¬ d.u ∈ five := fun z => e2 (decide_eq_true z)
    rw [if_neg e2] at k
    refine ⟨_,rfl,p,six.map V.str,rfl,.inr (hq _),rfl,rfl,_,rfl,?_⟩
    rw [show inV (.str d.u) (six.map V.str) = decide (d.u ∈ six) from bt _ _]
    refine cB (fun e3 => ?_) (fun e3 => ?_)
    ·rw [if_pos (of_decide_eq_true e3)] at k
     exact k
    ·rw [if_neg (fun z => e3 (decide_eq_true z))] at k
     exact k
def cn (d : FR) : Bool := decide (d.u ∈ five) && decide (dt d = 0)
end
def beg (ds : List FR) (j : Nat) : Int := ((ds.take j).map gE).sum
def iJ (ds : List FR) (n : Nat) : List Int := (List.range (n + 1)).map (beg ds)
theorem dY {ds : List FR} {j : Nat} {d : FR} (h : ds[j]? = some d) : beg ds (j + 1) = beg ds j + gE d := by
 unfold beg
 rw [take_add_one,h,map_append,List.sum_append]
 simp
theorem yP (ds : List FR) (n : Nat) : iJ ds (n + 1) = iJ ds n ++ [beg ds (n + 1)] := by
 unfold iJ
 rw [range_succ,map_append]
 rfl
theorem tQ (ds : List FR) (n : Nat) : (iJ ds n).length = n + 1 := by unfold iJ; rw [length_map,length_range]
theorem rL {ds : List FR} {n j : Nat} (h : j ≤ n) : (iJ ds n)[j]? = some (beg ds j) := by
 unfold iJ
 rw [List.getElem?_map,List.getElem?_range (by omega)]
 rfl
theorem Ae {α : Type} {xs : List α} {y : α} (h : xs[xs.length - 1]? = some y) : j4 xs (-1) = some y := by
 have h1 := (List.getElem?_eq_some_iff.mp h).1
 have h0 : xs.length ≠ 0 := fun z => by rw [z] at h1; exact absurd h1 (not_lt_zero _)
 unfold j4 zp
 rw [if_neg (by decide),if_pos (by omega),show ((-1 : Int) + (xs.length : Int)).toNat = xs.length - 1 by omega]
 exact h
def dg (ds : List FR) (r : Nat) (t : Int) : Int := beg ds t.toNat - beg ds (r + 1)
def dst (ds : List FR) (r : Nat) (d : FR) : Int := dg ds r (d.ts.headD 0)
def oH (x : Int) : Bool := decide (-64 ≤ x ∧ x ≤ 63)
section
variable {P : Program} {w : World} {K : Frag} {mg : Str → Option Value} {base : Heap}
def tR : Sp := fun vs H Q _ => ∃ (lr : Addr) (ds : List FR),vs = [.ref lr] ∧ dZ H lr ds ∧ ds.length ≤ 100000 ∧ ∀ (l : Addr) (H' : Hp),Same H H' → H l = none → H' l = some (.lst ((iJ ds ds.length).map V.int)) → Q (.ref l) H'
theorem Af : aW ["rows", "begins", "row"] ["rows"] (aq jl) := ⟨rfl,rfl,rfl,by decide +kernel,rfl,by decide +kernel,by decide +kernel⟩
theorem yQ {f fS : Addr} {fd w4 : FuncData} (F : fq K "begins_of" "begins_of" jl f fd) (T : Txt K w.params mg) (GS : aY P w K mg base cQ 2 fS w4 ["row"] vC) (kS : KI K fS) (bS : Binds K w4 ["row"] []) (mS : mg "size_of" = some (.ref fS)) : aY P w K mg base cQ 3 f fd ["rows"] tR := by
 refine F.ok Af (fun vs H Q E h => ?_) (fun cdv A outer s H vs Q E hr h => ?_)
 ·obtain ⟨lr,ds,rfl,_⟩ := h
  rfl
 ·obtain ⟨lr,ds,rfl,hR,hn,k⟩ := h
  obtain ⟨qs,r1,r2,r3⟩ := hR
  refine ⟨_,(aC (aF (i := 1) Af.nd rfl (Or.inl rfl) (bw (af ai aj)))
   (aC (fc PassesOwn.never rfl (ja (pv 0)) (cq (i := 2) Af.nd rfl (Or.inl rfl)) (aG (cV (eP PySem.F.plainAttrs_list PySem.F.slot_list_append PySem.F.type_list_append cG (pv 1) (af (au aO (aE aQ (pv 1) (dQ cT ai) (fun _ _ => rfl)) (aK GS hr (by rfl) mS kS bS .nil ck (af (pv 2) aj))) aj)))))
   (aG (aA (pv 1))))),?_⟩
  refine ⟨by decide,fun l nl => ?_⟩
  refine ⟨_,rfl,lr,rfl,⟨_,bq.of (ae nl _ _ r1)⟩,n8 (K := K) (a := lr) (xs := qs.map V.ref) (fun i σ G => i ≤ ds.length ∧ ∃ v : Option V,σ = [some (.ref lr),some (.ref l),v] ∧ Same H G ∧ G l = some (.lst ((iJ ds i).map V.int))) ?_ ?_ ?_ ?_⟩
  ·exact ⟨zero_le _,none,rfl,ae nl,ah⟩
  ·rintro i σ G _ ⟨_,v,rfl,s1,_⟩
   exact bq.of (s1 _ _ r1)
  ·rintro i x σ G hx ⟨hi,v,rfl,s1,hl⟩
   rw [List.getElem?_map] at hx
   obtain ⟨q,hq,rfl⟩ := map_eq_some_iff.mp hx
   have hil : i < ds.length := by have := (List.getElem?_eq_some_iff.mp hq).1; omega
   have hd : ds[i]? = some ds[i] := List.getElem?_eq_getElem hil
   generalize ds[i] = d at hd
   refine ⟨_,rfl,.inl ⟨rfl,_,bq.of hl⟩,_,rfl,_,rfl,l,_,-1,.int (beg ds i),rfl,rfl,bq.of hl,Ae (by rw [length_map,tQ,List.getElem?_map]; show Option.map _ ((iJ ds i)[i]?) = _; rw [rL (le_refl _)]; rfl),_,rfl,q,d,rfl,(r3 i q d hq hd).same s1,_,_,rfl,rfl,l,_,_,rfl,rfl,hl,bK (by rw [length_map,tQ]; omega),?_⟩
   refine ⟨hil,_,rfl,bh s1 nl,?_⟩
   rw [ah,yP,dY hd,map_append]
   rfl
  ·rintro σ G ⟨_,v,rfl,s1,hl⟩
   rw [length_map,r2] at hl
   exact ⟨_,rfl,k l _ s1 nl hl⟩
end
theorem bM {X : Cx} : iQ X (binaryOp .FloorDiv) (rI (fun _ j => 0 < j ∧ j < 18446744073709551616) fun i j => .int (i / j)) := NY fun i j _ _ _ _ _ hc q => by
 have h1 : (0 : Int) < j := hc.1
 have h2 : j < 18446744073709551616 := hc.2
 refine PyProof.Rows.floordiv_int (by omega) (by rw [Int.fdiv_eq_ediv_of_nonneg i (by omega)]; exact q) (.inl (PyProof.noPylong_of_log2 ?_))
 have h3 : j.natAbs.log2 < 64 := (Nat.log2_lt (by omega)).mpr (by omega)
 omega
theorem tS (xs : List V) (n : Nat) : gw xs none (some (n : Int)) = xs.take n := by
 unfold gw
 have h1 : HT.dz xs.length 0 none = 0 := rfl
 have h2 : HT.dz xs.length xs.length (some (n : Int)) = min n xs.length := HT.gY ..
 rw [h1,h2,drop_zero,Nat.sub_zero]
 rcases Nat.le_total n xs.length with h | h
 ·rw [min_eq_left h]
 ·rw [Nat.min_eq_right h,take_length,take_of_length_le h]
section
variable {P : Program} {w : World} {K : Frag} {mg : Str → Option Value} {base : Heap}
def Ag : Sp := fun vs H Q _ => ∃ (a : Addr) (ns : List Int) (k : Int),vs = [.ref a,.int k] ∧ bq K H a (ns.map V.int) ∧ 0 ≤ k ∧ ∀ c : Int,Q (.int c) H
theorem GV : aW ["_law_script", "_law_k"] ["_law_script", "_law_k"] (aq qr) := ⟨rfl,rfl,rfl,by decide +kernel,rfl,by decide +kernel,by decide +kernel⟩
theorem C2 {f : Addr} {fd : FuncData} (F : fq K "_law_cell_at" "_law_cell_at" qr f fd) (T : Txt K w.params mg) : aY P w K mg base cQ 1 f fd ["_law_script", "_law_k"] (Ag (K := K)) := by
 refine F.ok GV (fun vs H Q E h => ?_) (fun cdv A outer s H vs Q E hr h => ?_)
 ·obtain ⟨a,ns,k,rfl,_⟩ := h
  rfl
 ·obtain ⟨a,ns,k,rfl,hS,hk,q⟩ := h
  refine ⟨_,aC (cK (az jY (pv 1) (bf aU (by rfl) T.len cM (af (pv 0) aj)) (aL _)) (aG (aA (aE aQ (pv 0) (pv 1) (fun _ _ => rfl)))) aD)
   (aG (aA ai)),?_⟩
  refine ⟨_,rfl,_,rfl,a,_,rfl,.inl hS,_,_,rfl,rfl,_,rfl,?_⟩
  refine cB (fun h1 => ?_) (fun h1 => ?_)
  ·have h1 := of_decide_eq_true h1
   rw [length_map] at h1
   obtain ⟨j,rfl⟩ := Int.eq_ofNat_of_zero_le hk
   have hj : j < ns.length := by omega
   refine ⟨_,rfl,_,rfl,a,_,_,.int ns[j],rfl,rfl,hS,cI (j := j) ?_,q _⟩
   rw [List.getElem?_map,List.getElem?_eq_getElem hj]
   rfl
  ·exact q 0
def oI : Sp := fun vs H Q _ => ∃ (c : Int) (n : Nat),vs = [.int c,.int (n : Int)] ∧ n ≤ 10000 ∧ ∀ (l : Addr) (ms : List Int) (H' : Hp),Same H H' → H l = none → H' l = some (.lst (ms.map V.int)) → ms.length = n → (∀ x ∈ ms,0 ≤ x) → Q (.ref l) H'
theorem mj : aW ["_law_cell", "_law_many", "_law_found", "_law_number", "_law_k"] ["_law_cell", "_law_many"] (aq jq) := ⟨rfl,rfl,rfl,by decide +kernel,rfl,by decide +kernel,by decide +kernel⟩
theorem yR {f : Addr} {fd : FuncData} (F : fq K "_law_stream" "_law_stream" jq f fd) (T : Txt K w.params mg) : aY P w K mg base cQ 1 f fd ["_law_cell", "_law_many"] oI := by
 refine F.ok mj (fun vs H Q E h => ?_) (fun cdv A outer s H vs Q E hr h => ?_)
 ·obtain ⟨c,n,rfl,_⟩ := h
  rfl
 ·obtain ⟨c,n,rfl,hn,k⟩ := h
  refine dS (ao (aw (aF (i := 2) mj.nd rfl (Or.inl rfl) (bw aj)))
   (ao (aw (aF (i := 3) mj.nd rfl (Or.inl rfl) (au bM (pv 0) ai)))
   (gN (aw (jX PassesOwn.never (gX (az cw (au bV (pv 0) ai) ai (aL _)) (gX (az wF (pv 3) ai (aL _)) (gW (az jY (bf aU (by rfl) T.len cM (af (pv 2) aj)) (pv 1) (aL _))))).pt (aC (cV (eP PySem.F.plainAttrs_list PySem.F.slot_list_append PySem.F.type_list_append cG (pv 2) (af (au bV (pv 3) (au gu ai ai)) aj)))
   (aG (aF (i := 3) mj.nd rfl (Or.inl rfl) (au bM (pv 3) (au gu ai ai)))))))
   (ao (aw (aF (i := 3) mj.nd rfl (Or.inl rfl) (au bV (au cS (au aO (au bM (pv 0) ai) ai) ai) ai)))
   (ao (aw (fc PassesOwn.never rfl (dP rfl T.range (af (pv 1) aj)) (cq (i := 4) mj.nd rfl (Or.inl rfl)) (aC (aF (i := 3) mj.nd rfl (Or.inl rfl) (au bV (au cS (pv 3) (au aO (au aO (au bM (pv 3) ai) ai) (pv 4))) ai))
   (aC (cV (eP PySem.F.plainAttrs_list PySem.F.slot_list_append PySem.F.type_list_append cG (pv 2) (af (au bV (au cS (pv 3) (au aO (au bM (pv 3) ai) ai)) ai) aj)))
   (aG (aF (i := 3) mj.nd rfl (Or.inl rfl) (au aO (pv 3) ai)))))))
   (ay (aw (aA (dk j5 (pv 2) fV (dj (pv 1))))))))))) ?_
  refine ⟨le_of_ble_eq_true rfl,fun l nl => ?_⟩
  have s0 := ae (o := .lst []) nl
  have h0 : upd H l (.lst []) l = some (.lst (([] : List Int).map V.int)) := ah
  generalize upd H l (.lst []) = G0 at s0 h0 ⊢
  refine ⟨_,rfl,_,_,rfl,rfl,⟨by show (0 : Int) < 2; decide,by show (2 : Int) < _; decide⟩,?_⟩
  have cp : n9 10 9 := ⟨by decide,by decide,by decide⟩
  refine ⟨fun σ G => ∃ (x : Int) (ms : List Int),σ = [some (.int c),some (.int (n : Int)),some (.ref l),some (.int x),none] ∧ Same H G ∧ G l = some (.lst (ms.map V.int)) ∧ (∀ y ∈ ms,0 ≤ y) ∧ ms.length ≤ n,?_,?_⟩
  ·refine ⟨fun mm σ G => ∃ (x : Int) (ms : List Int),σ = [some (.int c),some (.int (n : Int)),some (.ref l),some (.int x),none] ∧ Same H G ∧ G l = some (.lst (ms.map V.int)) ∧ (∀ y ∈ ms,0 ≤ y) ∧ ms.length ≤ n ∧ mm = n - ms.length,⟨_,_,[],rfl,s0,h0,fun y hy => (not_mem_nil hy).elim,zero_le _,rfl⟩,?_⟩
   rintro mm σ G ⟨x,ms,rfl,s1,h1,hp,hl,rfl⟩
   refine ⟨_,rfl,_,_,rfl,rfl,Aa,rfl,_,rfl,?_⟩
   refine cB (fun _ => ?_) (fun _ => bY (by decide) ⟨x,ms,rfl,s1,h1,hp,hl⟩)
   refine ⟨_,rfl,_,_,rfl,rfl,_,rfl,?_⟩
   refine cB (fun _ => ?_) (fun _ => bY (by decide) ⟨x,ms,rfl,s1,h1,hp,hl⟩)
   refine ⟨_,rfl,l,_,rfl,.inl (bq.of h1),_,rfl,_,_,rfl,rfl,_,rfl,?_⟩
   refine cB (fun e => ?_) (fun _ => ⟨x,ms,rfl,s1,h1,hp,hl⟩)
   have e := of_decide_eq_true e
   rw [length_map] at e
   have hlt : ms.length < n := by omega
   refine ⟨fun σ' G' => ∃ (x' : Int) (uG : List Int),σ' = [some (.int c),some (.int (n : Int)),some (.ref l),some (.int x'),none] ∧ Same H G' ∧ G' l = some (.lst (uG.map V.int)) ∧ (∀ y ∈ uG,0 ≤ y) ∧ uG.length = ms.length + 1,?_,?_⟩
   ·rintro σ' G' ⟨x',uG,rfl,a1,a2,a3,a4⟩
    exact ⟨n - uG.length,by omega,x',uG,rfl,a1,a2,a3,by omega,rfl⟩
   refine ⟨_,rfl,.inl ⟨rfl,_,bq.of h1⟩,_,rfl,_,_,rfl,rfl,cp,_,_,rfl,rfl,(by show (0 : Int) < 10 ^ (9 : Int).toNat; decide),l,_,_,rfl,rfl,h1,bK (by rw [length_map]; omega),?_⟩
   refine ⟨_,rfl,_,_,rfl,rfl,cp,_,_,rfl,rfl,⟨by show (0 : Int) < 10 ^ (9 : Int).toNat; decide,by show (10 : Int) ^ (9 : Int).toNat < 18446744073709551616; decide⟩,?_⟩
   refine ⟨_,ms ++ [x % 10 ^ (9 : Int).toNat],rfl,bh s1 nl,by rw [ah,map_append]; rfl,fun y hy => ?_,by rw [length_append]; rfl⟩
   rcases mem_append.mp hy with z | z
   ·exact hp y z
   ·rw [mem_singleton.mp z]
    exact Int.emod_nonneg _ (by decide)
  rintro σ G ⟨x,ms,rfl,s1,h1,hp,hl⟩
  refine ⟨_,rfl,_,_,rfl,rfl,⟨by show (0 : Int) < 2; decide,by show (2 : Int) < _; decide⟩,_,_,rfl,rfl,_,_,rfl,rfl,.inr ⟨by decide,by decide⟩,_,_,rfl,rfl,jI,?_⟩
  have hx0 : 0 ≤ (c / 2 + 7919) * 48271 % 2147483647 ∧ (c / 2 + 7919) * 48271 % 2147483647 < 2147483647 := ⟨Int.emod_nonneg _ (by decide),Int.emod_lt_of_pos _ (by decide)⟩
  refine ⟨_,rfl,_,rfl,by omega,by omega,?_⟩
  refine eW (lo := 0) (n := ((n : Nat) : Int).toNat) (fun i σ G => ∃ (x : Int) (v : Option V) (ms : List Int),σ = [some (.int c),some (.int (n : Int)),some (.ref l),some (.int x),v] ∧ 0 ≤ x ∧ x ≤ 2147483647 ∧ Same H G ∧ G l = some (.lst (ms.map V.int)) ∧ (∀ y ∈ ms,0 ≤ y) ∧ i ≤ ms.length ∧ ms.length ≤ n + i) ?_ ?_ ?_
  ·exact ⟨_,none,ms,rfl,hx0.1,Int.le_of_lt hx0.2,s1,h1,hp,zero_le _,by omega⟩
  ·rintro i σ G hi ⟨x,v,ms,rfl,b1,b2,s1,h1,hp,g1,g2⟩
   have e0 : (0 : Int) + (i : Int) = (i : Int) := by omega
   rw [e0]
   have hin : i < n := by rw [Int.toNat_natCast] at hi; exact hi
   refine ⟨_,rfl,_,rfl,_,_,rfl,rfl,⟨by show (0 : Int) < 1009; decide,by show (1009 : Int) < _; decide⟩,_,_,rfl,rfl,_,rfl,_,_,rfl,rfl,_,_,rfl,rfl,.inl ⟨by omega,by omega⟩,_,_,rfl,rfl,jI,?_⟩
   have hy0 : 0 ≤ x * (x / 1009 + 69621 + (i : Int)) % 2147483647 ∧ x * (x / 1009 + 69621 + (i : Int)) % 2147483647 < 2147483647 := ⟨Int.emod_nonneg _ (by decide),Int.emod_lt_of_pos _ (by decide)⟩
   have hy1 : x * (x / 1009 + 69621 + (i : Int)) % 2147483647 ≤ 2147483646 := by omega
   refine ⟨_,rfl,.inl ⟨rfl,_,bq.of h1⟩,_,rfl,_,rfl,_,_,rfl,rfl,⟨by show (0 : Int) < 127; decide,by show (127 : Int) < _; decide⟩,_,_,rfl,rfl,_,_,rfl,rfl,.inl ⟨by show -(2 ^ 64) < (x * (x / 1009 + 69621 + (i : Int)) % 2147483647); omega,by show (x * (x / 1009 + 69621 + (i : Int)) % 2147483647) < 2 ^ 64; omega⟩,_,_,rfl,rfl,pA,l,_,_,rfl,rfl,h1,bK (by rw [length_map]; omega),?_⟩
   have hz0 : 0 ≤ (x * (x / 1009 + 69621 + (i : Int)) % 2147483647) * ((x * (x / 1009 + 69621 + (i : Int)) % 2147483647) / 127 + 40009) % 2147483629 := Int.emod_nonneg _ (by decide)
   refine ⟨_,rfl,_,_,rfl,rfl,?_⟩
   refine ⟨(x * (x / 1009 + 69621 + (i : Int)) % 2147483647) + 1,_,ms ++ [(x * (x / 1009 + 69621 + (i : Int)) % 2147483647) * ((x * (x / 1009 + 69621 + (i : Int)) % 2147483647) / 127 + 40009) % 2147483629],rfl,by omega,by omega,bh s1 nl,by rw [ah,map_append]; rfl,fun y hy => ?_,by rw [length_append,length_singleton]; omega,by rw [length_append,length_singleton]; omega⟩
   rcases mem_append.mp hy with z | z
   ·exact hp y z
   ·rw [mem_singleton.mp z]
    exact hz0
  ·rintro σ G ⟨x,v,ms,rfl,b1,b2,s1,h1,hp,g1,g2⟩
   rw [Int.toNat_natCast] at g1
   refine ⟨_,rfl,_,rfl,(n : Int),rfl,l,_,rfl,bq.of h1,fun lc nc => ?_⟩
   have ec : gw (ms.map V.int) none (some (n : Int)) = (ms.take n).map V.int := by rw [tS,map_take]
   rw [ec]
   exact k lc (ms.take n) _ (s1.trans (ae nc)) (s1.free nc) ah (by rw [length_take]; omega) fun y hy => hp y (List.mem_of_mem_take hy)
end
def oJ (u : Str) : Prop := u ∈ bu ∧ ¬ u = "table" ∧ ¬ u ∈ eS ∧ ¬ u ∈ zb
instance {u : Str} : Decidable (oJ u) := by unfold oJ; infer_instance
def eu (n : Nat) (u : Str) : Prop := oJ u ∧ vA u = n
instance {n : Nat} {u : Str} : Decidable (eu n u) := by unfold eu; infer_instance
theorem jx {H : Hp} {q : Addr} {u : Str} {b c : Int} (hu : eu 2 u) (h : H q = some (.tup [.str u,.int b,.int c])) : bQ H q ⟨u,[b,c],[]⟩ :=
 ⟨⟨hu.1.1,fun z => absurd z hu.1.2.1,fun z => absurd z hu.1.2.2.1,fun z => absurd z hu.1.2.2.2,fun _ _ _ => ⟨rfl,hu.2.symm⟩,fun _ => ⟨b,c,rfl⟩,fun _ => ⟨b,[c],rfl⟩⟩,.inr ⟨hu.1.2.1,h⟩⟩
theorem jy {H : Hp} {q : Addr} {u : Str} {b : Int} (hu : eu 1 u ∧ ¬ u ∈ w2) (h : H q = some (.tup [.str u,.int b])) : bQ H q ⟨u,[b],[]⟩ :=
 ⟨⟨hu.1.1.1,fun z => absurd z hu.1.1.2.1,fun z => absurd z hu.1.1.2.2.1,fun z => absurd z hu.1.1.2.2.2,fun _ _ _ => ⟨rfl,hu.1.2.symm⟩,fun z => absurd z hu.2,fun _ => ⟨b,[],rfl⟩⟩,.inr ⟨hu.1.1.2.1,h⟩⟩
theorem oK {H : Hp} {q : Addr} {u : Str} (hu : eu 0 u ∧ ¬ u ∈ w2 ∧ ¬ u ∈ w1) (h : H q = some (.tup [.str u])) : bQ H q ⟨u,[],[]⟩ :=
 ⟨⟨hu.1.1.1,fun z => absurd z hu.1.1.2.1,fun z => absurd z hu.1.1.2.2.1,fun z => absurd z hu.1.1.2.2.2,fun _ _ _ => ⟨rfl,hu.1.2.symm⟩,fun z => absurd z hu.2.1,fun z => absurd z hu.2.2⟩,.inr ⟨hu.1.1.2.1,h⟩⟩
theorem ig {H : Hp} {q : Addr} {u : Str} {t f : Int} (hu : u ∈ eS) (h : H q = some (.tup [.str u,.int t,.int f])) : bQ H q ⟨u,[t,f],[t]⟩ := by
 have hw := (by decide : ∀ u ∈ eS,u ∈ bu ∧ ¬ u = "table" ∧ ¬ u ∈ zb ∧ ¬ u ∈ w2 ∧ ¬ u ∈ w1) u hu
 exact ⟨⟨hw.1,fun z => absurd z hw.2.1,fun _ => ⟨t,f,rfl,rfl⟩,fun z => absurd z hw.2.2.1,fun _ z => absurd hu z,fun z => absurd z hw.2.2.2.1,fun z => absurd z hw.2.2.2.2⟩,.inr ⟨hw.2.1,h⟩⟩
theorem lK {H : Hp} {q : Addr} {u : Str} {b t f : Int} (hu : u ∈ zb) (h : H q = some (.tup [.str u,.int b,.int t,.int f])) : bQ H q ⟨u,[b,t,f],[t]⟩ := by
 have hw := (by decide : ∀ u ∈ zb,u ∈ bu ∧ ¬ u = "table" ∧ ¬ u ∈ eS ∧ ¬ u ∈ w2) u hu
 exact ⟨⟨hw.1,fun z => absurd z hw.2.1,fun z => absurd z hw.2.2.1,fun _ => ⟨b,t,f,rfl,rfl⟩,fun _ _ z => absurd hu z,fun z => absurd z hw.2.2.2,fun _ => ⟨b,_,rfl⟩⟩,.inr ⟨hw.2.1,h⟩⟩
theorem eY {H : Hp} {q p : Addr} {b : Int} {ts : List Int} (h : H q = some (.tup [.str "table",.int b,.ref p])) (hp : H p = some (.tup (ts.map V.int))) : bQ H q ⟨"table",[b],ts⟩ :=
 ⟨⟨(by decide : ("table" : Str) ∈ bu),fun _ => ⟨b,rfl⟩,fun z => absurd z (by decide : ¬ ("table" : Str) ∈ eS),fun z => absurd z (by decide : ¬ ("table" : Str) ∈ zb),fun z => absurd rfl z,fun z => absurd z (by decide : ¬ ("table" : Str) ∈ w2),fun _ => ⟨b,[],rfl⟩⟩,.inl ⟨rfl,b,p,rfl,h,hp⟩⟩
def fM (d : FR) : Prop := d.u ∈ five → dt d = 0 ∨ dt d = 1
def gF (k : Str) : Int × Int := ((bounds.find? fun x => x.1 == k).map (·.2)).getD (0,0)
def inB (k : Str) (n : Int) : Bool := decide ((gF k).1 ≤ n ∧ n ≤ (gF k).2)
def iK (k : Str) (n : Int) : Bool := if k ∈ (["target", "far", "targets"] : List Str) then true else inB k n
def Jd (u : Str) (is : List Int) : Prop := ∀ (i : Nat) k n,(cj u)[i]? = some k → is[i]? = some n → iK k n = true
def w6 (d : FR) : Prop := Jd d.u d.is ∧ (d.u = "table" → 1 ≤ d.ts.length)
theorem bd0 (u : Str) : Jd u [] := fun i k n _ h => by simp at h
theorem Je {u k : Str} {ks : List Str} {a : Int} (h : cj u = k :: ks) (h1 : iK k a = true) : Jd u [a] := fun i k' n e1 e2 => by
 rw [h] at e1
 match i,e1,e2 with
 | 0,e1,e2 => cases e1; cases e2; exact h1
theorem Jf {u k l : Str} {ks : List Str} {a b : Int} (h : cj u = k :: l :: ks) (h1 : iK k a = true) (h2 : iK l b = true) : Jd u [a,b] := fun i k' n e1 e2 => by
 rw [h] at e1
 match i,e1,e2 with
 | 0,e1,e2 => cases e1; cases e2; exact h1
 | 1,e1,e2 => cases e1; cases e2; exact h2
theorem bd3 {u k l m : Str} {ks : List Str} {a b c : Int} (h : cj u = k :: l :: m :: ks) (h1 : iK k a = true) (h2 : iK l b = true) (h3 : iK m c = true) : Jd u [a,b,c] := fun i k' n e1 e2 => by
 rw [h] at e1
 match i,e1,e2 with
 | 0,e1,e2 => cases e1; cases e2; exact h1
 | 1,e1,e2 => cases e1; cases e2; exact h2
 | 2,e1,e2 => cases e1; cases e2; exact h3
theorem nB {k : Str} {lo hi n : Int} (hk : ¬ k ∈ (["target", "far", "targets"] : List Str)) (hb : gF k = (lo,hi)) (h : lo ≤ n ∧ n ≤ hi) : iK k n = true := by
 unfold iK inB
 rw [if_neg hk,hb]
 exact decide_eq_true h
theorem gG {n : Int} (h : 0 ≤ n ∧ n ≤ 7) : iK "box" n = true := nB (by decide) (by decide +kernel : gF "box" = (0,7)) h
theorem Ah {n : Int} (h : -1000000000 ≤ n ∧ n ≤ 1000000000) : iK "value" n = true := nB (by decide) (by decide +kernel : gF "value" = (-1000000000,1000000000)) h
theorem vD {n : Int} (h : 0 ≤ n ∧ n ≤ 1000000) : iK "number" n = true := nB (by decide) (by decide +kernel : gF "number" = (0,1000000)) h
theorem GX {n : Int} (h : 0 ≤ n ∧ n ≤ 1000000) : iK "aside" n = true := nB (by decide) (by decide +kernel : gF "aside" = (0,1000000)) h
def GoodR (d : FR) (n : Int) : Prop := d.ts.length ≤ 16 ∧ (∀ t ∈ d.ts,0 ≤ t ∧ t < n) ∧ fM d ∧ w6 d
theorem GoodR.plain {u : Str} {is : List Int} {n : Int} (h : ¬ u ∈ five) (ht : ¬ u = "table") (b : Jd u is) : GoodR ⟨u,is,[]⟩ n := ⟨zero_le _,fun t ht => (not_mem_nil ht).elim,fun z => absurd z h,b,fun z => absurd z ht⟩
theorem w6.N9 {u : Str} {t f : Int} {ts : List Int} (h : u ∈ eS) : w6 ⟨u,[t,f],ts⟩ := by
 have hw := (by decide +kernel : ∀ u ∈ eS,cj u = (["target", "far"] : List Str) ∧ ¬ u = "table") u h
 exact ⟨Jf hw.1 (if_pos (by decide)) (if_pos (by decide)),fun z => absurd z hw.2⟩
theorem w6.Qf {u : Str} {b t f : Int} {ts : List Int} (h : u ∈ zb) (hb : iK "box" b = true) : w6 ⟨u,[b,t,f],ts⟩ := by
 have hw := (by decide +kernel : ∀ u ∈ zb,cj u = (["box", "target", "far"] : List Str) ∧ ¬ u = "table") u h
 exact ⟨bd3 hw.1 hb (if_pos (by decide)) (if_pos (by decide)),fun z => absurd z hw.2⟩
theorem w6.box {d : FR} {b : Int} {is : List Int} (h : w6 d) (hu : d.u ∈ zb ∨ d.u = "table") (e : d.is = b :: is) : iK "box" b = true :=
 h.1 0 "box" b (by rcases hu with z | z; exact (by decide +kernel : ∀ u ∈ zb,(cj u)[0]? = some ("box" : Str)) _ z; rw [z]; decide +kernel) (by rw [e]; rfl)
theorem yS (ws : List Str) (d : Int) (h0 : 0 ≤ d) (h1 : d < ws.length) : ∃ u,u ∈ ws ∧ j4 (ws.map V.str) d = some (.str u) := by
 obtain ⟨j,rfl⟩ := Int.eq_ofNat_of_zero_le h0
 have hl : j < ws.length := by omega
 refine ⟨ws[j],List.getElem_mem hl,cI (j := j) ?_⟩
 rw [List.getElem?_map,List.getElem?_eq_getElem hl]
 rfl
theorem dh (ws : List Int) (d : Int) (h0 : 0 ≤ d) (h1 : d < ws.length) : ∃ u,u ∈ ws ∧ j4 (ws.map V.int) d = some (.int u) := by
 obtain ⟨j,rfl⟩ := Int.eq_ofNat_of_zero_le h0
 have hl : j < ws.length := by omega
 refine ⟨ws[j],List.getElem_mem hl,cI (j := j) ?_⟩
 rw [List.getElem?_map,List.getElem?_eq_getElem hl]
 rfl
theorem ik (x : Int) {n : Int} (h : 0 < n) : 0 ≤ x % n ∧ x % n < n := ⟨Int.emod_nonneg _ (by omega),Int.emod_lt_of_pos _ h⟩
theorem GY (a b : V) : gx [] [((Sum.inr "tell" : Key),a),(Sum.inr "halt",b)] = ([((Sum.inr "tell" : Key),a),(Sum.inr "halt",b)] : List (Key × V)) := rfl
theorem yT (a b : V) : dB [((Sum.inr "tell" : Key),a),(Sum.inr "halt",b)] (Sum.inr "tell") = some a := rfl
theorem yU (a b : V) : dB [((Sum.inr "tell" : Key),a),(Sum.inr "halt",b)] (Sum.inr "halt") = some b := rfl
theorem yV (a b : V) : dB [((Sum.inr "tell" : Key),a),(Sum.inr "halt",b)] (Sum.inr "stop") = none := rfl
theorem yW (a b : V) : dB [((Sum.inr "tell" : Key),a),(Sum.inr "halt",b)] (Sum.inr "back") = none := rfl
def w20 : List Str := (["set", "more", "copy", "add", "less", "load", "keep", "tell", "see", "put", "take", "jump", "zero"] : List Str) ++ (["below", "call", "mark", "table", "stop", "back", "halt"] : List Str)
section
variable {P : Program} {w : World} {K : Frag} {mg : Str → Option Value} {base : Heap}
def EB : Sp := fun vs H Q _ => ∃ (x n c : Int),vs = [.int x,.int n,.int c] ∧ 0 < n ∧ n < 1000000 ∧ 0 ≤ c ∧ c ≤ 16 ∧ ∀ (p : Addr) (ts : List Int) (H' : Hp),Same H H' → H' p = some (.tup (ts.map V.int)) → ts.length ≤ 16 → (∀ t ∈ ts,0 ≤ t ∧ t < n) → ts.length = c.toNat → Q (.ref p) H'
theorem w8 : aW ["_law_x", "_law_many", "_law_count", "_law_found", "_law_k"] ["_law_x", "_law_many", "_law_count"] (aq qt) := ⟨rfl,rfl,rfl,by decide +kernel,rfl,by decide +kernel,by decide +kernel⟩
theorem Ha {f : Addr} {fd : FuncData} (F : fq K "_law_targets" "_law_targets" qt f fd) (T : Txt K w.params mg) : aY P w K mg base cQ 1 f fd ["_law_x", "_law_many", "_law_count"] EB := by
 refine F.ok w8 (fun vs H Q E h => ?_) (fun cdv A outer s H vs Q E hr h => ?_)
 ·obtain ⟨x,n,c,rfl,_⟩ := h
  rfl
 ·obtain ⟨x,n,c,rfl,hn,hn2,hc,hc2,k⟩ := h
  refine dS (ao (aw (aF (i := 3) w8.nd rfl (Or.inl rfl) (bw aj)))
   (ao (aw (fc PassesOwn.never rfl (dP rfl T.range (af (pv 2) aj)) (cq (i := 4) w8.nd rfl (Or.inl rfl)) (aC (cV (eP PySem.F.plainAttrs_list PySem.F.slot_list_append PySem.F.type_list_append cG (pv 3) (af (au bV (pv 0) (pv 1)) aj)))
   (aG (aF (i := 0) w8.nd rfl (Or.inl rfl) (au bM (pv 0) (pv 1)))))))
   (ay (aw (aA (bA cJ (by rfl) T.tuple eM (af (pv 3) aj))))))) ?_
  refine ⟨le_of_ble_eq_true rfl,fun l nl => ?_⟩
  have s0 := ae (o := .lst []) nl
  have h0 : upd H l (.lst []) l = some (.lst (([] : List Int).map V.int)) := ah
  generalize upd H l (.lst []) = G0 at s0 h0 ⊢
  refine ⟨_,rfl,_,rfl,by omega,by omega,?_⟩
  refine eW (lo := 0) (n := c.toNat) (fun i σ G => ∃ (x : Int) (v : Option V) (ts : List Int),σ = [some (.int x),some (.int n),some (.int c),some (.ref l),v] ∧ Same H G ∧ G l = some (.lst (ts.map V.int)) ∧ (∀ t ∈ ts,0 ≤ t ∧ t < n) ∧ ts.length = i) ?_ ?_ ?_
  ·exact ⟨x,none,[],rfl,s0,h0,fun t ht => (not_mem_nil ht).elim,rfl⟩
  ·rintro i σ G hi ⟨x,v,ts,rfl,s1,h1,hp,hl⟩
   refine ⟨_,rfl,.inl ⟨rfl,_,bq.of h1⟩,_,rfl,_,rfl,_,_,rfl,rfl,hn,l,_,_,rfl,rfl,h1,bK (by rw [length_map]; omega),?_⟩
   refine ⟨_,rfl,_,rfl,_,_,rfl,rfl,⟨hn,by omega⟩,?_⟩
   refine ⟨_,_,ts ++ [x % n],rfl,bh s1 nl,by rw [ah,map_append]; rfl,fun t ht => ?_,by rw [length_append,hl]; rfl⟩
   rcases mem_append.mp ht with z | z
   ·exact hp t z
   ·rw [mem_singleton.mp z]
    exact ik x hn
  ·rintro σ G ⟨x,v,ts,rfl,s1,h1,hp,hl⟩
   refine ⟨_,rfl,l,_,rfl,.inl ⟨bq.of h1,fun t nt => ?_⟩⟩
   exact k t ts _ (s1.trans (ae nt)) ah (by omega) hp hl
def EC : Sp := fun vs H Q _ => ∃ (x n : Int),vs = [.int x,.int n] ∧ 0 < n ∧ n < 1000000 ∧ ∀ (p : Addr) (d : FR) (H' : Hp),Same H H' → bQ H' p d → GoodR d n → Q (.ref p) H'
theorem qz : aW ["_law_x", "_law_many", "_law_words", "_law_word", "_law_box", "_law_target"] ["_law_x", "_law_many"] (aq yM) := ⟨rfl,rfl,rfl,by decide +kernel,rfl,by decide +kernel,by decide +kernel⟩
theorem Hb {f fT : Addr} {fd xc : FuncData} (F : fq K "_law_row" "_law_row" yM f fd) (T : Txt K w.params mg) (GT : aY P w K mg base cQ 1 fT xc ["_law_x", "_law_many", "_law_count"] EB) (kT : KI K fT) (bT : Binds K xc ["_law_x", "_law_many", "_law_count"] []) (mT : mg "_law_targets" = some (.ref fT)) : aY P w K mg base cQ 2 f fd ["_law_x", "_law_many"] EC := by
 refine F.ok qz (fun vs H Q E h => ?_) (fun cdv A outer s H vs Q E hr h => ?_)
 ·obtain ⟨x,n,rfl,_⟩ := h
  rfl
 ·obtain ⟨x,n,rfl,hn,hn2,k⟩ := h
  have hu := hr.u 1
  refine dS (ao (iV (nK (i := 2) qz.nd rfl (Or.inl rfl) (nJ (.cons ak (.cons ak (.cons ak (.cons ak (.cons ak (.cons ak (.cons ak (.cons ak (.cons ak (.cons ak (.cons ak (.cons ak (.cons ak .nil))))))))))))))))
   (ao (aw (aF (i := 3) qz.nd rfl (Or.inl rfl) (aE aQ (au hV (pv 2) (wX (.cons ak (.cons ak (.cons ak (.cons ak (.cons ak (.cons ak (.cons ak .nil))))))))) (au bV (pv 0) ai) (fun _ _ => rfl))))
   (ao (aw (aF (i := 4) qz.nd rfl (Or.inl rfl) (au bV (au bM (pv 0) ai) ai)))
   (ao (aw (aF (i := 0) qz.nd rfl (Or.inl rfl) (au bM (pv 0) ai)))
   (ao (aw (aF (i := 5) qz.nd rfl (Or.inl rfl) (au bV (pv 0) (pv 1))))
   (ao (bj (az bg (pv 3) (aI (af ak (af ak aj))) rfl) (ay (aw (aA (aI (af (pv 3) (af (pv 4) (af (au cS (au dU (au bV (pv 0) ai) ai) (aE aQ (bw (af ai (af ai (af (au gu ai ai) aj)))) (au bV (au bM (pv 0) ai) ai) (fun _ _ => rfl))) aj))))))) (aR aD))
   (ao (bj (az bg (pv 3) (aI (af ak (af ak (af ak (af ak (af ak aj)))))) rfl) (ay (aw (aA (aI (af (pv 3) (af (pv 4) (af (au bV (pv 0) ai) aj))))))) (aR aD))
   (ao (bj (az bg (pv 3) (aI (af ak (af ak (af ak aj)))) rfl) (ay (aw (aA (aI (af (pv 3) (af (pv 4) (af (aE aQ (bw (af (au bV (pv 0) ai) (af (au bV (pv 0) ai) aj))) (au bV (au bM (pv 0) ai) ai) (fun _ _ => rfl)) aj))))))) (aR aD))
   (ao (bj (az bg (pv 3) (aI (af ak (af ak (af ak aj)))) rfl) (ay (aw (aA (aI (af (pv 3) (af (pv 5) (af (au bV (au bM (pv 0) (pv 1)) ai) aj))))))) (aR aD))
   (ao (bj (az bg (pv 3) (aI (af ak (af ak aj))) rfl) (ay (aw (aA (aI (af (pv 3) (af (pv 4) (af (pv 5) (af (au bV (au bM (pv 0) (pv 1)) ai) aj)))))))) (aR aD))
   (ao (bj (az cw (pv 3) ak (aL _)) (ay (aw (aA (aI (af (pv 3) (af (pv 4) (af (aK GT hr (by rfl) mT kT bT .nil ck (af (au bM (pv 0) ai) (af (pv 1) (af (au aO ai (au bV (pv 0) ai)) aj)))) aj))))))) (aR aD))
   (ay (aw (aA (sZ hu (rg (iR ak (aI (af (pv 3) (af (pv 4) aj))) (iR ak (aI (af (pv 3) (af (au bV (pv 0) ai) aj))) rc)) rfl rfl (cons_ne_nil _ _) (le_of_ble_eq_true rfl)) (pv 3) (aI (af (pv 3) aj)) ⟨rfl,rfl,rfl,rfl⟩))))))))))))))) ?_
  refine ⟨Kn,fun lw nw => ?_⟩
  have s1 := ae (o := .lst [V.str "set",V.str "more",V.str "copy",V.str "add",V.str "less",V.str "load",V.str "keep",V.str "tell",V.str "see",V.str "put",V.str "take",V.str "jump",V.str "zero"]) nw
  have h1 : upd H lw (.lst [V.str "set",V.str "more",V.str "copy",V.str "add",V.str "less",V.str "load",V.str "keep",V.str "tell",V.str "see",V.str "put",V.str "take",V.str "jump",V.str "zero"]) lw = some (.lst ((["set", "more", "copy", "add", "less", "load", "keep", "tell", "see", "put", "take", "jump", "zero"] : List Str).map V.str)) := ah
  generalize upd H lw (.lst [V.str "set",V.str "more",V.str "copy",V.str "add",V.str "less",V.str "load",V.str "keep",V.str "tell",V.str "see",V.str "put",V.str "take",V.str "jump",V.str "zero"]) = G1 at s1 h1 ⊢
  refine ⟨_,rfl,Qa,fun l7 n7 => ?_⟩
  have s2 := s1.trans (ae (o := .lst [V.str "below",V.str "call",V.str "mark",V.str "table",V.str "stop",V.str "back",V.str "halt"]) n7)
  have h12 := ae (o := .lst [V.str "below",V.str "call",V.str "mark",V.str "table",V.str "stop",V.str "back",V.str "halt"]) n7 _ _ h1
  have h2 : upd G1 l7 (.lst [V.str "below",V.str "call",V.str "mark",V.str "table",V.str "stop",V.str "back",V.str "halt"]) l7 = some (.lst ((["below", "call", "mark", "table", "stop", "back", "halt"] : List Str).map V.str)) := ah
  generalize upd G1 l7 (.lst [V.str "below",V.str "call",V.str "mark",V.str "table",V.str "stop",V.str "back",V.str "halt"]) = G2 at s2 h12 h2 ⊢
  refine ⟨lw,l7,_,_,rfl,rfl,h12,h2,Ey,fun lx nx => ?_⟩
  have s3 := s2.trans (ae (o := .lst ((["set", "more", "copy", "add", "less", "load", "keep", "tell", "see", "put", "take", "jump", "zero"] : List Str).map V.str ++ (["below", "call", "mark", "table", "stop", "back", "halt"] : List Str).map V.str)) nx)
  have h3 : upd G2 lx (.lst ((["set", "more", "copy", "add", "less", "load", "keep", "tell", "see", "put", "take", "jump", "zero"] : List Str).map V.str ++ (["below", "call", "mark", "table", "stop", "back", "halt"] : List Str).map V.str)) lx = some (.lst (w20.map V.str)) := by rw [ah]; unfold w20; rw [map_append]
  generalize upd G2 lx (.lst ((["set", "more", "copy", "add", "less", "load", "keep", "tell", "see", "put", "take", "jump", "zero"] : List Str).map V.str ++ (["below", "call", "mark", "table", "stop", "back", "halt"] : List Str).map V.str)) = G3 at s3 h3 ⊢
  obtain ⟨u,Kx,hat⟩ := yS w20 (x % 20) (ik x (by decide)).1 (ik x (by decide)).2
  refine ⟨_,rfl,_,_,rfl,rfl,Ks,lx,_,_,_,rfl,rfl,bq.of h3,hat,?_⟩
  have hall : u ∈ bu := (by decide +kernel : ∀ u ∈ w20,u ∈ bu) u Kx
  refine ⟨_,rfl,_,_,rfl,rfl,⟨by show (0 : Int) < 20; decide,by show (20 : Int) < _; decide⟩,_,_,rfl,rfl,CY,?_⟩
  refine ⟨_,rfl,_,_,rfl,rfl,⟨by show (0 : Int) < 160; decide,by show (160 : Int) < _; decide⟩,?_⟩
  refine ⟨_,rfl,_,rfl,_,_,rfl,rfl,hn,?_⟩
  have ht := ik (x / 160) hn
  have hp1 : n9 10 8 := ⟨by decide,by decide,by decide⟩
  refine ⟨_,rfl,aJ,fun t3 uH => ⟨t3,(["set", "more"] : List Str).map V.str,rfl,.inr (aZ.of ah),rfl,rfl,_,rfl,?_⟩⟩
  have s4 := s3.trans (ae (o := .tup [V.str "set",V.str "more"]) uH)
  rw [show inV (.str u) ((["set", "more"] : List Str).map V.str) = decide (u ∈ (["set", "more"] : List Str)) from bt _ _]
  generalize upd G3 t3 (.tup [V.str "set",V.str "more"]) = G4 at s4 ⊢
  refine cB (fun e3 => ?_) (fun e3 => ?_)
  ·have hw := (by decide +kernel : ∀ u ∈ (["set", "more"] : List Str),eu 2 u ∧ ¬ u ∈ five ∧ ¬ u = "table" ∧ cj u = (["box", "value"] : List Str)) u (of_decide_eq_true e3)
   obtain ⟨v,Qg,hv⟩ := dh [1,1,10 ^ (8 : Int).toNat] ((x / 160) / 19 % 3) (ik _ (by decide)).1 (ik _ (by decide)).2
   have h19 := ik (x / 160) (show (0 : Int) < 19 by decide)
   have hvb := (by decide +kernel : ∀ v ∈ ([1,1,10 ^ (8 : Int).toNat] : List Int),v = 1 ∨ v = 100000000) v Qg
   have hval : -1000000000 ≤ (x / 160 % 19 - 9) * v ∧ (x / 160 % 19 - 9) * v ≤ 1000000000 := by rcases hvb with z | z <;> rw [z] <;> omega
   refine ⟨_,rfl,_,rfl,_,rfl,_,_,rfl,rfl,Kr,_,_,rfl,rfl,_,_,rfl,rfl,hp1,ef,fun l3 n3 => ⟨_,rfl,_,_,rfl,rfl,⟨by show (0 : Int) < 19; decide,by show (19 : Int) < _; decide⟩,_,_,rfl,rfl,Ko,l3,_,_,.int v,rfl,rfl,bq.of (show _ = some (.lst (([1,1,10 ^ (8 : Int).toNat] : List Int).map V.int)) from ah),hv,_,_,rfl,rfl,.inl ⟨by show -(2 ^ 64) < (x / 160) % 19 - 9; omega,by show (x / 160) % 19 - 9 < 2 ^ 64; omega⟩,ef,fun q nq => ?_⟩⟩
   exact k q ⟨u,[_,_],[]⟩ _ ((s4.trans (ae n3)).trans (ae nq)) (jx hw.1 ah) (GoodR.plain hw.2.1 hw.2.2.1 (Jf hw.2.2.2 (gG (by omega : 0 ≤ x / 20 % 8 ∧ x / 20 % 8 ≤ 7)) (Ah hval)))
  refine ⟨_,rfl,iS,fun t4 zq => ⟨t4,(["copy", "add", "less", "load", "keep"] : List Str).map V.str,rfl,.inr (aZ.of ah),rfl,rfl,_,rfl,?_⟩⟩
  have s5 := s4.trans (ae (o := .tup [V.str "copy",V.str "add",V.str "less",V.str "load",V.str "keep"]) zq)
  rw [show inV (.str u) ((["copy", "add", "less", "load", "keep"] : List Str).map V.str) = decide (u ∈ (["copy", "add", "less", "load", "keep"] : List Str)) from bt _ _]
  generalize upd G4 t4 (.tup [V.str "copy",V.str "add",V.str "less",V.str "load",V.str "keep"]) = G5 at s5 ⊢
  refine cB (fun e4 => ?_) (fun e4 => ?_)
  ·have hw := (by decide +kernel : ∀ u ∈ (["copy", "add", "less", "load", "keep"] : List Str),eu 2 u ∧ ¬ u ∈ five ∧ ¬ u = "table" ∧ cj u = (["box", "box"] : List Str)) u (of_decide_eq_true e4)
   refine ⟨_,rfl,_,rfl,_,rfl,_,_,rfl,rfl,CY,ef,fun q nq => ?_⟩
   exact k q ⟨u,[_,_],[]⟩ _ (s5.trans (ae nq)) (jx hw.1 ah) (GoodR.plain hw.2.1 hw.2.2.1 (Jf hw.2.2.2 (gG (by omega : 0 ≤ x / 20 % 8 ∧ x / 20 % 8 ≤ 7)) (gG (by omega : 0 ≤ x / 160 % 8 ∧ x / 160 % 8 ≤ 7))))
  refine ⟨_,rfl,ef,fun t5 BV => ⟨t5,(["see", "put", "take"] : List Str).map V.str,rfl,.inr (aZ.of ah),rfl,rfl,_,rfl,?_⟩⟩
  have s6 := s5.trans (ae (o := .tup [V.str "see",V.str "put",V.str "take"]) BV)
  rw [show inV (.str u) ((["see", "put", "take"] : List Str).map V.str) = decide (u ∈ (["see", "put", "take"] : List Str)) from bt _ _]
  generalize upd G5 t5 (.tup [V.str "see",V.str "put",V.str "take"]) = G6 at s6 ⊢
  refine cB (fun e5 => ?_) (fun e5 => ?_)
  ·have hw := (by decide +kernel : ∀ u ∈ (["see", "put", "take"] : List Str),eu 2 u ∧ ¬ u ∈ five ∧ ¬ u = "table" ∧ (cj u = (["box", "number"] : List Str) ∨ cj u = (["box", "aside"] : List Str))) u (of_decide_eq_true e5)
   obtain ⟨v,Qg,hv⟩ := dh [(x / 160) % 4,(x / 160) % 1000001] ((x / 160) / 4 % 2) (ik _ (by decide)).1 (ik _ (by decide)).2
   have hval : 0 ≤ v ∧ v ≤ 1000000 := by
    rcases mem_cons.mp Qg with z | z
    ·omega
    ·have z := mem_singleton.mp z
     omega
   refine ⟨_,rfl,_,rfl,_,rfl,_,_,rfl,rfl,vq,_,rfl,_,_,rfl,rfl,oA,aJ,fun l3 n3 => ⟨_,rfl,_,_,rfl,rfl,⟨by show (0 : Int) < 4; decide,by show (4 : Int) < _; decide⟩,_,_,rfl,rfl,Aa,l3,_,_,.int v,rfl,rfl,bq.of (show _ = some (.lst (([(x / 160) % 4,(x / 160) % 1000001] : List Int).map V.int)) from ah),hv,ef,fun q nq => ?_⟩⟩
   exact k q ⟨u,[_,_],[]⟩ _ ((s6.trans (ae n3)).trans (ae nq)) (jx hw.1 ah) (GoodR.plain hw.2.1 hw.2.2.1 (hw.2.2.2.elim (fun z => Jf z (gG (by omega : 0 ≤ x / 20 % 8 ∧ x / 20 % 8 ≤ 7)) (vD hval)) (fun z => Jf z (gG (by omega : 0 ≤ x / 20 % 8 ∧ x / 20 % 8 ≤ 7)) (GX hval))))
  have h2 : (x / 160) / n % 2 = 0 ∨ (x / 160) / n % 2 = 1 := by omega
  refine ⟨_,rfl,ef,fun t6 Jg => ⟨t6,(["jump", "call", "mark"] : List Str).map V.str,rfl,.inr (aZ.of ah),rfl,rfl,_,rfl,?_⟩⟩
  have s7 := s6.trans (ae (o := .tup [V.str "jump",V.str "call",V.str "mark"]) Jg)
  rw [show inV (.str u) ((["jump", "call", "mark"] : List Str).map V.str) = decide (u ∈ (["jump", "call", "mark"] : List Str)) from bt _ _]
  generalize upd G6 t6 (.tup [V.str "jump",V.str "call",V.str "mark"]) = G7 at s7 ⊢
  refine cB (fun e6 => ?_) (fun e6 => ?_)
  ·refine ⟨_,rfl,_,rfl,_,rfl,_,rfl,_,_,rfl,rfl,⟨hn,by omega⟩,_,_,rfl,rfl,Aa,ef,fun q nq => ?_⟩
   exact k q ⟨u,[_,_],[_]⟩ _ (s7.trans (ae nq)) (ig (of_decide_eq_true e6) ah) ⟨(by show 1 ≤ 16; decide),fun t ht' => by rw [mem_singleton.mp ht']; exact ht,fun _ => h2,w6.N9 (of_decide_eq_true e6)⟩
  refine ⟨_,rfl,aJ,fun t7 sM => ⟨t7,(["zero", "below"] : List Str).map V.str,rfl,.inr (aZ.of ah),rfl,rfl,_,rfl,?_⟩⟩
  have s8 := s7.trans (ae (o := .tup [V.str "zero",V.str "below"]) sM)
  rw [show inV (.str u) ((["zero", "below"] : List Str).map V.str) = decide (u ∈ (["zero", "below"] : List Str)) from bt _ _]
  generalize upd G7 t7 (.tup [V.str "zero",V.str "below"]) = G8 at s8 ⊢
  refine cB (fun e7 => ?_) (fun e7 => ?_)
  ·refine ⟨_,rfl,_,rfl,_,rfl,_,rfl,_,rfl,_,_,rfl,rfl,⟨hn,by omega⟩,_,_,rfl,rfl,Aa,ke,fun q nq => ?_⟩
   exact k q ⟨u,[_,_,_],[_]⟩ _ (s8.trans (ae nq)) (lK (of_decide_eq_true e7) ah) ⟨(by show 1 ≤ 16; decide),fun t ht' => by rw [mem_singleton.mp ht']; exact ht,fun _ => h2,w6.Qf (of_decide_eq_true e7) (gG (by omega : 0 ≤ x / 20 % 8 ∧ x / 20 % 8 ≤ 7))⟩
  refine ⟨_,rfl,rfl,_,rfl,?_⟩
  refine cB (fun e8 => ?_) (fun e8 => ?_)
  ·have e8 := strEq e8
   have h4 := ik (x / 160) (show (0 : Int) < 4 by decide)
   refine ⟨_,rfl,_,rfl,_,rfl,_,_,rfl,rfl,⟨by show (0 : Int) < 4; decide,by show (4 : Int) < _; decide⟩,_,rfl,_,rfl,_,_,rfl,rfl,vq,_,_,rfl,rfl,_,n,_,rfl,hn,hn2,(by show (0 : Int) ≤ 1 + (x / 160) % 4; omega),(by show 1 + (x / 160) % 4 ≤ 16; omega),fun p ts G9 s9 hp hl hts Oa => ⟨ef,fun q nq => ?_⟩⟩
   subst e8
   exact k q ⟨"table",[_],ts⟩ _ ((s8.trans s9).trans (ae nq)) (eY ah (ae nq _ _ hp)) ⟨hl,hts,fun z => absurd z (by show ¬ ("table" : Str) ∈ five; decide),Je (by decide +kernel : cj "table" = (["box", "targets"] : List Str)) (gG (by omega : 0 ≤ x / 20 % 8 ∧ x / 20 % 8 ≤ 7)),fun _ => by show 1 ≤ ts.length; omega⟩
  ·have e8 := jJ e8
   refine fun p0 np0 => ?_
   have s9 := s8.trans (ae (o := .dK []) np0)
   have hp9 : upd G8 p0 (.dK []) p0 = _ := ah
   generalize upd G8 p0 (.dK []) = G9 at s9 hp9 ⊢
   refine ⟨_,rfl,_,rfl,aJ,fun t1 qA => ?_⟩
   have a1 := s9.trans (ae (o := .tup [V.str u,V.int (x / 20 % 8)]) qA)
   have b1 := ae (o := .tup [V.str u,V.int (x / 20 % 8)]) qA _ _ hp9
   have c1 : upd G9 t1 (.tup [V.str u,V.int (x / 20 % 8)]) t1 = _ := ah
   generalize upd G9 t1 (.tup [V.str u,V.int (x / 20 % 8)]) = X1 at a1 b1 c1 ⊢
   refine ⟨_,rfl,_,rfl,_,_,rfl,rfl,oA,aJ,fun t2 gg => ?_⟩
   have a2 := a1.trans (ae (o := .tup [V.str u,V.int (x / 160 % 1000001)]) gg)
   have b2 := ae (o := .tup [V.str u,V.int (x / 160 % 1000001)]) gg _ _ b1
   have c12 := ae (o := .tup [V.str u,V.int (x / 160 % 1000001)]) gg _ _ c1
   have c2 : upd X1 t2 (.tup [V.str u,V.int (x / 160 % 1000001)]) t2 = _ := ah
   refine ⟨b2,[(Sum.inr "tell",.ref t1),(Sum.inr "halt",.ref t2)],rfl,(by show 2 ≤ 15; decide),?_⟩
   refine ⟨p0,rfl,.inl ⟨_,.inl ah⟩,_,rfl,_,rfl,dD,fun t3 uH => ?_⟩
   rw [GY] at uH ⊢
   have hp8 : G8 p0 = none := np0
   have a3 : Same H (upd (upd X1 t2 (.tup [V.str u,V.int (x / 160 % 1000001)])) p0 (.dK [(Sum.inr "tell",.ref t1),(Sum.inr "halt",.ref t2)])) := bh a2 (s8.free np0)
   refine ⟨_,mI.k (k := Sum.inr u) (ae uH _ _ ah),?_⟩
   have Qh : t1 ≠ p0 := fun z => by rw [z] at c1; rw [b1] at c1; cases c1
   have tF : t2 ≠ p0 := fun z => by rw [z] at gg; rw [b1] at gg; cases gg
   have r1 : upd (upd X1 t2 (.tup [V.str u,V.int (x / 160 % 1000001)])) p0 (.dK [(Sum.inr "tell",.ref t1),(Sum.inr "halt",.ref t2)]) t1 = some (.tup [V.str u,V.int (x / 20 % 8)]) := by rw [aX Qh]; exact c12
   have r2 : upd (upd X1 t2 (.tup [V.str u,V.int (x / 160 % 1000001)])) p0 (.dK [(Sum.inr "tell",.ref t1),(Sum.inr "halt",.ref t2)]) t2 = some (.tup [V.str u,V.int (x / 160 % 1000001)]) := by rw [aX tF]; exact c2
   have a4 := a3.trans (ae (o := .tup [V.str u]) uH)
   have hcase := (by decide +kernel : ∀ u ∈ w20,¬ u ∈ (["set", "more"] : List Str) → ¬ u ∈ (["copy", "add", "less", "load", "keep"] : List Str) → ¬ u ∈ (["see", "put", "take"] : List Str) → ¬ u ∈ (["jump", "call", "mark"] : List Str) → ¬ u ∈ (["zero", "below"] : List Str) → ¬ u = "table" → u = "tell" ∨ u = "halt" ∨ u = "stop" ∨ u = "back") u Kx (fun z => e3 (decide_eq_true z)) (fun z => e4 (decide_eq_true z)) (fun z => e5 (decide_eq_true z)) (fun z => e6 (decide_eq_true z)) (fun z => e7 (decide_eq_true z)) e8
   rcases hcase with rfl | rfl | rfl | rfl
   ·rw [yT]
    exact k t1 ⟨"tell",[_],[]⟩ _ a4 (jy (by decide) (ae uH _ _ r1)) (GoodR.plain (by decide) (by decide) (Je (by decide +kernel : cj "tell" = (["box"] : List Str)) (gG (by omega : 0 ≤ x / 20 % 8 ∧ x / 20 % 8 ≤ 7))))
   ·rw [yU]
    exact k t2 ⟨"halt",[_],[]⟩ _ a4 (jy (by decide) (ae uH _ _ r2)) (GoodR.plain (by decide) (by decide) (Je (by decide +kernel : cj "halt" = (["number"] : List Str)) (vD (by omega : 0 ≤ x / 160 % 1000001 ∧ x / 160 % 1000001 ≤ 1000000))))
   ·rw [yV]
    exact k t3 ⟨"stop",[],[]⟩ _ a4 (oK (by decide) ah) (GoodR.plain (by decide) (by decide) (bd0 _))
   ·rw [yW]
    exact k t3 ⟨"back",[],[]⟩ _ a4 (oK (by decide) ah) (GoodR.plain (by decide) (by decide) (bd0 _))
end
def Hd (K : Frag) : List V → Hp → VK → Prop := fun xs H Q => ∃ p ys,xs = [.ref p] ∧ ((bq K H p ys ∧ ∀ l,H l = none → Q (.ref l) (upd H l (.tup ys))) ∨ (aZ K H p ys ∧ Q (.ref p) H))
section
variable {P : Program} {w : World} {K : Frag} {mg : Str → Option Value} {base : Heap}
def Ai : Sp := fun vs H Q _ => ∃ (p : Addr) (x n : Int) (d : FR),vs = [.ref p,.int x] ∧ bQ H p d ∧ GoodR d n ∧ 0 < n ∧ ∀ (p : Addr) (d : FR) (H' : Hp),Same H H' → bQ H' p d → GoodR d n → d.u ∈ dE → Q (.ref p) H'
theorem He : aW ["_law_row_here", "_law_x"] ["_law_row_here", "_law_x"] (aq qu) := ⟨rfl,rfl,rfl,by decide +kernel,rfl,by decide +kernel,by decide +kernel⟩
theorem C3 {f : Addr} {fd : FuncData} (F : fq K "_law_last" "_law_last" qu f fd) (T : Txt K w.params mg) : aY P w K mg base cQ 1 f fd ["_law_row_here", "_law_x"] Ai := by
 refine F.ok He (fun vs H Q E h => ?_) (fun cdv A outer s H vs Q E hr h => ?_)
 ·obtain ⟨p,x,n,d,rfl,_⟩ := h
  rfl
 ·obtain ⟨p,x,n,d,rfl,hR,hg,hn,k⟩ := h
  obtain ⟨items,i1,_,_,_⟩ := hR.parts
  refine dS (ao (bj (az bg (aE aN (pv 0) ai (fun _ _ => rfl)) (aI (af ak (af ak (af ak (af ak aj))))) rfl) (ay (aw (aA (pv 0)))) (aR aD))
   (ay (aw (aA (aE aQ (bw (af (aI (af ak aj)) (af (aI (af ak aj)) (af (aI (af ak (af (au bV (pv 1) ai) aj))) (af (aI (af ak (af ai (af (au bV (au bM (pv 1) ai) ai) aj)))) aj))))) (au bV (au bM (pv 1) ai) ai) (fun _ _ => rfl)))))) ?_
  refine ⟨_,rfl,p,_,0,_,rfl,rfl,aZ.of i1,at0 _ _,ke,fun t nt => ⟨t,(["stop", "back", "halt", "jump"] : List Str).map V.str,rfl,.inr (aZ.of ah),rfl,rfl,_,rfl,?_⟩⟩
  have s0 := ae (o := .tup [V.str "stop",V.str "back",V.str "halt",V.str "jump"]) nt
  rw [show inV (.str d.u) ((["stop", "back", "halt", "jump"] : List Str).map V.str) = decide (d.u ∈ (["stop", "back", "halt", "jump"] : List Str)) from bt _ _]
  generalize upd H t (.tup [V.str "stop",V.str "back",V.str "halt",V.str "jump"]) = G0 at s0 ⊢
  refine cB (fun e => ?_) (fun e => ?_)
  ·exact ⟨_,rfl,k p d _ s0 (hR.same s0) hg (of_decide_eq_true e)⟩
  ·have h2 : x / 9 % 2 = 0 ∨ x / 9 % 2 = 1 := by omega
   refine ⟨dD,fun t0 Aj => ?_⟩
   have s1 := s0.trans (ae (o := .tup [V.str "stop"]) Aj)
   have h01 : upd G0 t0 (.tup [V.str "stop"]) t0 = _ := ah
   generalize upd G0 t0 (.tup [V.str "stop"]) = G1 at s1 h01 ⊢
   refine ⟨dD,fun t1 qA => ?_⟩
   have s2 := s1.trans (ae (o := .tup [V.str "back"]) qA)
   have h12 : upd G1 t1 (.tup [V.str "back"]) t1 = _ := ah
   have h02 := ae (o := .tup [V.str "back"]) qA _ _ h01
   generalize upd G1 t1 (.tup [V.str "back"]) = G2 at s2 h02 h12 ⊢
   refine ⟨_,rfl,_,_,rfl,rfl,Qc,aJ,fun t2 gg => ?_⟩
   have s3 := s2.trans (ae (o := .tup [V.str "halt",V.int (x % 9)]) gg)
   have h23 : upd G2 t2 (.tup [V.str "halt",V.int (x % 9)]) t2 = _ := ah
   have h03 := ae (o := .tup [V.str "halt",V.int (x % 9)]) gg _ _ h02
   have h13 := ae (o := .tup [V.str "halt",V.int (x % 9)]) gg _ _ h12
   generalize upd G2 t2 (.tup [V.str "halt",V.int (x % 9)]) = G3 at s3 h03 h13 h23 ⊢
   refine ⟨_,rfl,_,_,rfl,rfl,⟨by show (0 : Int) < 9; decide,by show (9 : Int) < _; decide⟩,_,_,rfl,rfl,Aa,ef,fun t3 uH => ?_⟩
   have s4 := s3.trans (ae (o := .tup [V.str "jump",V.int 0,V.int (x / 9 % 2)]) uH)
   have h34 : upd G3 t3 (.tup [V.str "jump",V.int 0,V.int (x / 9 % 2)]) t3 = _ := ah
   have h04 := ae (o := .tup [V.str "jump",V.int 0,V.int (x / 9 % 2)]) uH _ _ h03
   have h14 := ae (o := .tup [V.str "jump",V.int 0,V.int (x / 9 % 2)]) uH _ _ h13
   have h24 := ae (o := .tup [V.str "jump",V.int 0,V.int (x / 9 % 2)]) uH _ _ h23
   generalize upd G3 t3 (.tup [V.str "jump",V.int 0,V.int (x / 9 % 2)]) = G4 at s4 h04 h14 h24 h34 ⊢
   refine ⟨ke,fun l nl => ?_⟩
   have s5 := s4.trans (ae (o := .lst [.ref t0,.ref t1,.ref t2,.ref t3]) nl)
   have h6 : upd G4 l (.lst [.ref t0,.ref t1,.ref t2,.ref t3]) l = _ := ah
   have h05 := ae (o := .lst [.ref t0,.ref t1,.ref t2,.ref t3]) nl _ _ h04
   have h15 := ae (o := .lst [.ref t0,.ref t1,.ref t2,.ref t3]) nl _ _ h14
   have h25 := ae (o := .lst [.ref t0,.ref t1,.ref t2,.ref t3]) nl _ _ h24
   have h35 := ae (o := .lst [.ref t0,.ref t1,.ref t2,.ref t3]) nl _ _ h34
   generalize upd G4 l (.lst [.ref t0,.ref t1,.ref t2,.ref t3]) = G5 at s5 h6 h05 h15 h25 h35 ⊢
   refine ⟨_,rfl,_,_,rfl,rfl,⟨by show (0 : Int) < 20; decide,by show (20 : Int) < _; decide⟩,_,_,rfl,rfl,vq,?_⟩
   have hc : x / 20 % 4 = 0 ∨ x / 20 % 4 = 1 ∨ x / 20 % 4 = 2 ∨ x / 20 % 4 = 3 := by omega
   rcases hc with hc | hc | hc | hc
   ·exact ⟨l,_,0,_,rfl,congrArg V.int hc,bq.of h6,rfl,k t0 ⟨"stop",[],[]⟩ _ s5 (oK (by decide) h05) (GoodR.plain (by decide) (by decide) (bd0 _)) (by show ("stop" : Str) ∈ dE; decide)⟩
   ·exact ⟨l,_,1,_,rfl,congrArg V.int hc,bq.of h6,rfl,k t1 ⟨"back",[],[]⟩ _ s5 (oK (by decide) h15) (GoodR.plain (by decide) (by decide) (bd0 _)) (by show ("back" : Str) ∈ dE; decide)⟩
   ·exact ⟨l,_,2,_,rfl,congrArg V.int hc,bq.of h6,rfl,k t2 ⟨"halt",[_],[]⟩ _ s5 (jy (by decide) h25) (GoodR.plain (by decide) (by decide) (Je (by decide +kernel : cj "halt" = (["number"] : List Str)) (vD (by omega : 0 ≤ x % 9 ∧ x % 9 ≤ 1000000)))) (by show ("halt" : Str) ∈ dE; decide)⟩
   ·exact ⟨l,_,3,_,rfl,congrArg V.int hc,bq.of h6,rfl,k t3 ⟨"jump",[_,_],[_]⟩ _ s5 (ig (by decide) h35) ⟨(by show 1 ≤ 16; decide),fun t ht => by rw [mem_singleton.mp ht]; exact ⟨Int.le_refl _,hn⟩,fun _ => h2,w6.N9 (by decide)⟩ (by show ("jump" : Str) ∈ dE; decide)⟩
def ED : Sp := fun vs H Q _ => ∃ (p lf : Addr) (d : FR) (fs : List Int) (m : Int),vs = [.ref p,.ref lf] ∧ bQ H p d ∧ GoodR d fs.length ∧ H lf = some (.lst (fs.map V.int)) ∧ (∀ x ∈ fs,0 ≤ x ∧ x < m) ∧ ∀ (p : Addr) (d' : FR) (H' : Hp),Same H H' → bQ H' p d' → GoodR d' m → d'.u = d.u → Q (.ref p) H'
theorem Ky : aW ["_law_row_here", "_law_first_here"] ["_law_row_here", "_law_first_here"] (aq vt) := ⟨rfl,rfl,rfl,by decide +kernel,rfl,by decide +kernel,by decide +kernel⟩
def C4 : Scope := { kind := .function,names := [(".0",.local),("_law_target",.local),("_law_first_here",.free)],isGenerator := false,isCoroutine := false,more := [] }
theorem xg : dq (aq vt) C4 ["_law_row_here", "_law_first_here"] ["_law_target", "_law_first_here"] [none,some 1] := ⟨rfl,by decide +kernel,by decide +kernel,by decide +kernel,by decide +kernel,by decide +kernel⟩
theorem Hf {f : Addr} {fd : FuncData} (F : fq K "_law_led" "_law_led" vt f fd) (T : Txt K w.params mg) : aY P w K mg base cQ 1 f fd ["_law_row_here", "_law_first_here"] ED := by
 refine F.ok Ky (fun vs H Q E h => ?_) (fun cdv A outer s H vs Q E hr h => ?_)
 ·obtain ⟨p,lf,d,fs,m,rfl,_⟩ := h
  rfl
 ·obtain ⟨p,lf,d,fs,m,rfl,hR,hg,hf,hfm,k⟩ := h
  obtain ⟨items,i1,_,i3,_⟩ := hR.parts
  have rd : ∀ t : Int,0 ≤ t → t < fs.length → ∃ y,j4 (fs.map V.int) t = some (.int y) ∧ 0 ≤ y ∧ y < m := fun t h0 h1 => by
   obtain ⟨y,hy,e⟩ := dh fs t h0 h1
   exact ⟨y,e,hfm y hy⟩
  refine dS (ao (bj (az bg (aE aN (pv 0) ai (fun _ _ => rfl)) (dG (.cons ak (.cons ak (.cons ak (.cons ak (.cons ak .nil)))))) rfl) (ay (aw (aA (au gZ (dk ly (pv 0) fV (dj (dQ cT ai))) (aI (af (aE aQ (pv 1) (aE aN (pv 0) (dQ cT ai) (fun _ _ => rfl)) (fun _ _ => rfl)) (af (aE aN (pv 0) (dQ cT ai) (fun _ _ => rfl)) aj))))))) (aR aD))
   (ao (bj (az cw (aE aN (pv 0) ai (fun _ _ => rfl)) ak (aL _)) (ay (aw (aA (au gZ (dk ly (pv 0) fV (dj ai)) (aI (af (bA (r := Hd K) cJ (by rfl) T.tuple eM (af (fY (N' := ["_law_target", "_law_first_here"]) (fr := [none,some 1]) xg rfl (qR (aE aN (pv 0) ai (fun _ _ => rfl))) (fun C s0 H0 fp => (cq (i := 0) xg.nd rfl (Or.inl rfl))) (fun C s0 H0 fp => eI) (fun C s0 H0 fp => (aE (r := FJ K) aQ (pv 1) (pv 0) (fun _ _ => rfl)))) aj)) aj)))))) (aR aD))
   (ay (aw (aA (pv 0)))))) ?_
  refine ⟨_,rfl,p,_,0,_,rfl,rfl,aZ.of i1,at0 _ _,iS,fun t nt => ⟨t,five.map V.str,rfl,.inr (aZ.of ah),rfl,rfl,_,rfl,?_⟩⟩
  have s0 := ae (o := .tup [V.str "jump",V.str "call",V.str "mark",V.str "zero",V.str "below"]) nt
  rw [show inV (.str d.u) (five.map V.str) = decide (d.u ∈ five) from bt _ _]
  generalize upd H t (.tup [V.str "jump",V.str "call",V.str "mark",V.str "zero",V.str "below"]) = G0 at s0 ⊢
  refine cB (fun e => ?_) (fun e => ?_)
  ·have e := of_decide_eq_true e
   obtain ⟨nt',g1,_⟩ := eN hR e
   rcases (by decide +kernel : ∀ u ∈ five,u ∈ eS ∨ u ∈ zb) _ e with z | z
   ·obtain ⟨tt,ff,e1,e2⟩ := hR.1.2.2.1 z
    have ep : H p = some (.tup [V.str d.u,V.int tt,V.int ff]) := by rw [g1,e1]; rfl
    have hff : ff = 0 ∨ ff = 1 := by
     have := hg.2.2.1 e
     unfold dt at this
     rw [e1] at this
     exact this
    obtain ⟨h0,h1⟩ := hg.2.1 tt (by rw [e2]; simp)
    obtain ⟨y,hy,Kz⟩ := rd tt h0 h1
    refine ⟨_,rfl,2,rfl,-2,rfl,p,_,rfl,aZ.of (s0 _ _ ep),(fun z => absurd z.2 (by show ¬ (1 : Nat) = 3; decide)),fun a na => ?_⟩
    have s1 := s0.trans (ae (o := .tup [V.str d.u]) na)
    have ha : upd G0 a (.tup [V.str d.u]) a = _ := ah
    refine ⟨_,rfl,_,rfl,_,rfl,p,_,-2,.int tt,rfl,rfl,aZ.of (s1 _ _ ep),rfl,lf,_,tt,.int y,rfl,rfl,bq.of (s1 _ _ hf),hy,_,rfl,_,rfl,p,_,-1,.int ff,rfl,rfl,aZ.of (s1 _ _ ep),rfl,aJ,fun b nb => ?_⟩
    have s2 := s1.trans (ae (o := .tup [V.int y,V.int ff]) nb)
    refine ⟨a,b,[V.str d.u],_,rfl,rfl,aZ.of (ae nb _ _ ha),aZ.of ah,cons_ne_nil _ _,ef,fun z => absurd z (cons_ne_nil _ _),fun _ p' nq => ?_⟩
    exact k p' ⟨d.u,[y,ff],[y]⟩ _ (s2.trans (ae nq)) (ig z ah) ⟨(by show 1 ≤ 16; decide),fun t ht => by rw [mem_singleton.mp ht]; exact Kz,fun _ => hff,w6.N9 z⟩ rfl
   ·obtain ⟨bb,tt,ff,e1,e2⟩ := hR.1.2.2.2.1 z
    have ep : H p = some (.tup [V.str d.u,V.int bb,V.int tt,V.int ff]) := by rw [g1,e1]; rfl
    have hff : ff = 0 ∨ ff = 1 := by
     have := hg.2.2.1 e
     unfold dt at this
     rw [e1] at this
     exact this
    obtain ⟨h0,h1⟩ := hg.2.1 tt (by rw [e2]; simp)
    obtain ⟨y,hy,Kz⟩ := rd tt h0 h1
    refine ⟨_,rfl,2,rfl,-2,rfl,p,_,rfl,aZ.of (s0 _ _ ep),(fun z => absurd z.2 (by show ¬ (2 : Nat) = 4; decide)),fun a na => ?_⟩
    have s1 := s0.trans (ae (o := .tup [V.str d.u,V.int bb]) na)
    have ha : upd G0 a (.tup [V.str d.u,V.int bb]) a = _ := ah
    refine ⟨_,rfl,_,rfl,_,rfl,p,_,-2,.int tt,rfl,rfl,aZ.of (s1 _ _ ep),rfl,lf,_,tt,.int y,rfl,rfl,bq.of (s1 _ _ hf),hy,_,rfl,_,rfl,p,_,-1,.int ff,rfl,rfl,aZ.of (s1 _ _ ep),rfl,aJ,fun b nb => ?_⟩
    have s2 := s1.trans (ae (o := .tup [V.int y,V.int ff]) nb)
    refine ⟨a,b,[V.str d.u,V.int bb],_,rfl,rfl,aZ.of (ae nb _ _ ha),aZ.of ah,cons_ne_nil _ _,ke,fun z => absurd z (cons_ne_nil _ _),fun _ p' nq => ?_⟩
    exact k p' ⟨d.u,[bb,y,ff],[y]⟩ _ (s2.trans (ae nq)) (lK z ah) ⟨(by show 1 ≤ 16; decide),fun t ht => by rw [mem_singleton.mp ht]; exact Kz,fun _ => hff,w6.Qf z (hg.2.2.2.box (.inl z) e1)⟩ rfl
  ·have e : ¬ d.u ∈ five := fun z => e (decide_eq_true z)
   refine ⟨_,rfl,p,_,0,_,rfl,rfl,aZ.of (s0 _ _ i1),at0 _ _,rfl,_,rfl,?_⟩
   refine cB (fun e2 => ?_) (fun e2 => ?_)
   ·have e2 := strEq e2
    obtain ⟨bb,p3,e3,ep,hp3⟩ : ∃ b p3,d.is = [b] ∧ H p = some (.tup [.str d.u,.int b,.ref p3]) ∧ H p3 = some (.tup (d.ts.map V.int)) := by
     rcases hR.2 with ⟨_,b0,p0,e1,e2',e3⟩ | ⟨z,_⟩
     ·exact ⟨b0,p0,e1,e2',e3⟩
     ·exact absurd e2 z
    refine ⟨_,rfl,2,rfl,p,_,rfl,aZ.of (s0 _ _ ep),(fun z => absurd z.2 (by show ¬ (2 : Nat) = 3; decide)),fun a na => ?_⟩
    have s1 := s0.trans (ae (o := .tup [V.str d.u,V.int bb]) na)
    have ha : upd G0 a (.tup [V.str d.u,V.int bb]) a = _ := ah
    have ec : gw [V.str d.u,V.int bb,V.ref p3] none (some 2) = [V.str d.u,V.int bb] := rfl
    rw [ec]
    generalize upd G0 a (.tup [V.str d.u,V.int bb]) = G1 at s1 ha ⊢
    refine ⟨_,rfl,p,_,2,_,rfl,rfl,aZ.of (s1 _ _ ep),at2 _ _ _ _,p3,rfl,⟨_,aZ.of (s1 _ _ hp3)⟩,fun D nD => kc (K := K) (a := p3) (xs := d.ts.map V.int) (fun j σ ys G => ∃ (v : Option V) (us : List Int),σ = [v,some (.ref lf)] ∧ ys = us.map V.int ∧ us.length = j ∧ (∀ y ∈ us,0 ≤ y ∧ y < m) ∧ Same G1 G ∧ G D = some (.lst ys)) ?_ ?_ ?_ ?_⟩
    ·exact ⟨none,[],rfl,rfl,rfl,fun y hy => (not_mem_nil hy).elim,ae nD,ah⟩
    ·rintro j σ ys G _ ⟨v,us,rfl,rfl,_,_,s2,_⟩
     exact aZ.of (s2 _ _ (s1 _ _ hp3))
    ·rintro j x σ ys G hx ⟨v,us,rfl,rfl,hl,hu,s2,hD⟩
     rw [List.getElem?_map] at hx
     obtain ⟨tt,htj,rfl⟩ := map_eq_some_iff.mp hx
     have hjl := (List.getElem?_eq_some_iff.mp htj).1
     obtain ⟨h0,h1⟩ := hg.2.1 tt (List.mem_of_getElem? htj)
     obtain ⟨y,hy,Kz⟩ := rd tt h0 h1
     have h16 := hg.1
     refine ⟨_,rfl,_,rfl,lf,_,tt,.int y,rfl,rfl,bq.of (s2 _ _ (s1 _ _ hf)),hy,hD,bK (by rw [length_map]; omega),_,us ++ [y],rfl,by rw [map_append]; rfl,by rw [length_append,hl]; rfl,fun z hz => ?_,bh s2 nD,ah⟩
     rcases mem_append.mp hz with z' | z'
     ·exact hu z z'
     ·rw [mem_singleton.mp z']; exact Kz
    ·rintro σ ys G ⟨v,us,rfl,rfl,hl,hu,s2,hD⟩
     rw [length_map] at hl
     refine ⟨D,_,rfl,.inl ⟨bq.of hD,fun t2 gg => ?_⟩⟩
     have s3 := s2.trans (ae (o := .tup (us.map V.int)) gg)
     have h3 : upd G t2 (.tup (us.map V.int)) t2 = _ := ah
     generalize upd G t2 (.tup (us.map V.int)) = G3 at s3 h3 ⊢
     refine ⟨dD,fun b nb => ?_⟩
     have s4 := s3.trans (ae (o := .tup [V.ref t2]) nb)
     have h4 := ae (o := .tup [V.ref t2]) nb _ _ h3
     refine ⟨a,b,[V.str d.u,V.int bb],_,rfl,rfl,aZ.of (s4 _ _ ha),aZ.of ah,cons_ne_nil _ _,ef,fun z => absurd z (cons_ne_nil _ _),fun _ p' nq => ?_⟩
     have hg16 := hg.1
     have hrow := eY (H := upd (upd G3 b (.tup [V.ref t2])) p' (.tup ([V.str d.u,V.int bb] ++ [V.ref t2]))) (q := p') (p := t2) (b := bb) (ts := us) (by rw [ah,e2]; rfl) (ae nq _ _ h4)
     exact k p' ⟨"table",[bb],us⟩ _ ((s1.trans s4).trans (ae nq)) hrow ⟨by show us.length ≤ 16; omega,hu,fun z => absurd z (by show ¬ ("table" : Str) ∈ five; decide),Je (by decide +kernel : cj "table" = (["box", "targets"] : List Str)) (hg.2.2.2.box (.inr e2) e3),fun _ => by show 1 ≤ us.length; have := hg.2.2.2.2 e2; omega⟩ e2.symm
   ·have e2 := jJ e2
    have hts : d.ts = [] := And.left <| hR.1.2.2.2.2.1 e2 (fun z => e ((by decide : ∀ u ∈ eS,u ∈ five) _ z)) (fun z => e ((by decide : ∀ u ∈ zb,u ∈ five) _ z))
    exact ⟨_,rfl,k p d _ s0 (hR.same s0) ⟨hg.1,fun t ht => (by rw [hts] at ht; cases ht),fun z => absurd z e,hg.2.2.2⟩ rfl⟩
end
theorem bQ.put {H : Hp} {q l : Addr} {d : FR} {xs : List V} {o : HO} (h : bQ H q d) (hl : H l = some (.lst xs)) : bQ (upd H l o) q d := by
 have ne : ∀ (a : Addr) (ys : List V),H a = some (.tup ys) → a ≠ l := fun a ys e z => by rw [z,hl] at e; cases e
 refine ⟨h.1,?_⟩
 rcases h.2 with ⟨a,b,p,e,h1,h2⟩ | ⟨a,h1⟩
 ·exact .inl ⟨a,b,p,e,by rw [aX (ne _ _ h1)]; exact h1,by rw [aX (ne _ _ h2)]; exact h2⟩
 ·exact .inr ⟨a,by rw [aX (ne _ _ h1)]; exact h1⟩
def d2 (G : Hp) (qs : List Addr) (n : Int) : Prop := ∀ q ∈ qs,∃ d,bQ G q d ∧ GoodR d n
theorem d2.same {G G' : Hp} {qs : List Addr} {n : Int} (h : d2 G qs n) (s : Same G G') : d2 G' qs n := fun q hq => by
 obtain ⟨d,a,b⟩ := h q hq
 exact ⟨d,a.same s,b⟩
theorem d2.put {G : Hp} {qs : List Addr} {n : Int} {l : Addr} {xs : List V} {o : HO} (h : d2 G qs n) (hl : G l = some (.lst xs)) : d2 (upd G l o) qs n := fun q hq => by
 obtain ⟨d,a,b⟩ := h q hq
 exact ⟨d,a.put hl,b⟩
theorem d2.app {G : Hp} {qs rs : List Addr} {n : Int} (h : d2 G qs n) (h' : d2 G rs n) : d2 G (qs ++ rs) n := fun q hq => (mem_append.mp hq).elim (h q) (h' q)
theorem d2.one {G : Hp} {q : Addr} {d : FR} {n : Int} (h : bQ G q d) (g : GoodR d n) (c : Nat) : d2 G (replicate c q) n := fun x hx => by
 rw [List.eq_of_mem_replicate hx]
 exact ⟨d,h,g⟩
def Ak (G : Hp) (qs : List Addr) : Prop := ∃ (q : Addr) (u : Str) (xs : List V),qs.getLast? = some q ∧ G q = some (.tup (.str u :: xs)) ∧ u ∈ dE
theorem xh (c : Nat) (a : Addr) : (replicate c [V.ref a]).flatten = (replicate c a).map V.ref := by
 induction c with
 | zero => rfl
 | succ c ih => rw [List.replicate_succ,List.flatten_cons,ih,List.replicate_succ]; rfl
section
variable {P : Program} {w : World} {K : Frag} {mg : Str → Option Value} {base : Heap}
def Al : Sp := fun vs H Q _ => ∃ (lx : Addr) (ms : List Int) (n : Nat),vs = [.ref lx,.int (n : Int)] ∧ H lx = some (.lst (ms.map V.int)) ∧ 2 * n ≤ ms.length ∧ 1 ≤ n ∧ n ≤ 10 ∧ ∀ (l : Addr) (ds : List FR) (H' : Hp),Same H H' → H l = none → dZ H' l ds → (∀ d ∈ ds,GoodR d ds.length) → (∀ d,ds[ds.length - 1]? = some d → d.u ∈ dE) → 1 ≤ ds.length → ds.length ≤ 50 * n → Q (.ref l) H'
theorem ml : aW ["_law_xs", "_law_many", "_law_first_here", "_law_rows", "_law_k", "_law_row_here", "_law_y"] ["_law_xs", "_law_many"] (aq oE) := ⟨rfl,rfl,rfl,by decide +kernel,rfl,by decide +kernel,by decide +kernel⟩
def C5 : Scope := { kind := .function,names := [(".0",.local),("_law_row_here",.local),("_law_led",.globalImplicit),("_law_first_here",.free)],isGenerator := false,isCoroutine := false,more := [] }
theorem xj : dq (aq oE) C5 ["_law_xs", "_law_many", "_law_first_here", "_law_rows", "_law_k", "_law_row_here", "_law_y"] ["_law_row_here", "_law_first_here"] [none,some 2] := ⟨rfl,by decide +kernel,by decide +kernel,by decide +kernel,by decide +kernel,by decide +kernel⟩
theorem C6 {f fR fL fE : Addr} {fd xl KA fdE : FuncData} (F : fq K "_law_program" "_law_program" oE f fd) (T : Txt K w.params mg) (GR : aY P w K mg base cQ 2 fR xl ["_law_x", "_law_many"] EC) (kR : KI K fR) (bR : Binds K xl ["_law_x", "_law_many"] []) (mR : mg "_law_row" = some (.ref fR)) (GL : aY P w K mg base cQ 1 fL KA ["_law_row_here", "_law_x"] Ai) (kL : KI K fL) (bL : Binds K KA ["_law_row_here", "_law_x"] []) (mL : mg "_law_last" = some (.ref fL)) (GE : aY P w K mg base cQ 1 fE fdE ["_law_row_here", "_law_first_here"] ED) (kE : KI K fE) (bE : Binds K fdE ["_law_row_here", "_law_first_here"] []) (mE : mg "_law_led" = some (.ref fE)) : aY P w K mg base cQ 3 f fd ["_law_xs", "_law_many"] Al := by
 refine F.ok ml (fun vs H Q E h => ?_) (fun cdv A outer s H vs Q E hr h => ?_)
 ·obtain ⟨lx,ms,n,rfl,_⟩ := h
  rfl
 ·obtain ⟨lx,ms,n,rfl,hx,hms,hn1,hn,k⟩ := h
  have hr1 := hr.mono (show 1 ≤ 2 by decide)
  have hn0 : (0 : Int) < (n : Int) := by omega
  have rd : ∀ j : Nat,j < ms.length → ∃ x,j4 (ms.map V.int) (j : Int) = some (.int x) := fun j hj => by
   obtain ⟨x,_,e⟩ := dh ms (j : Int) (by omega) (by omega)
   exact ⟨x,e⟩
  refine dS (ao (aw (aF (i := 2) ml.nd rfl (Or.inr rfl) (bw aj)))
   (ao (aw (aF (i := 3) ml.nd rfl (Or.inl rfl) (bw aj)))
   (ao (aw (fc PassesOwn.never rfl (dP rfl T.range (af (pv 1) aj)) (cq (i := 4) ml.nd rfl (Or.inl rfl)) (aC (aF (i := 5) ml.nd rfl (Or.inl rfl) (aK GR hr (by rfl) mR kR bR .nil ck (af (aE aQ (pv 0) (pv 4) (fun _ _ => rfl)) (af (pv 1) aj))))
   (wO (cK (az cw (pv 4) (au dU (pv 1) ai) (aL _)) (aG (aF (i := 5) ml.nd rfl (Or.inl rfl) (aK GL hr1 (by rfl) mL kL bL .nil ck (af (pv 5) (af (aE aQ (pv 0) (pv 4) (fun _ _ => rfl)) aj))))) aD)
   (aC (cV (eP PySem.F.plainAttrs_list PySem.F.slot_list_append PySem.F.type_list_append cG (pv 2) (af (bf aU (by rfl) T.len cM (af (pv 3) aj)) aj)))
   (aC (cV (eP PySem.F.plainAttrs_list PySem.F.slot_list_append PySem.F.type_list_append cG (pv 3) (af (pv 5) aj)))
   (aG (cK (az jY (pv 4) (au dU (pv 1) ai) (aL _)) (aC (aF (i := 6) ml.nd rfl (Or.inl rfl) (aE aQ (pv 0) (au aO (pv 1) (pv 4)) (fun _ _ => rfl)))
   (aG (aF (i := 3) ml.nd rfl (Or.inl rfl) (au hV (au hV (pv 3) (au zI (bw (af (aI (af ak (af ai (af (pv 4) aj)))) aj)) (aE aQ (bw (af ai (af ai (af (au bV (pv 6) ai) (af (au bV (pv 6) ai) aj))))) (au bV (au bM (pv 6) ai) ai) (fun _ _ => rfl)))) (au zI (bw (af (aI (af ak (af ai aj))) aj)) (au bV (au bM (pv 6) ai) ai)))))) aD))))))))
   (ay (aw (aA (fY (N' := ["_law_row_here", "_law_first_here"]) (fr := [none,some 2]) xj rfl (ja (pv 3)) (fun C s0 H0 fp => (cq (i := 0) xj.nd rfl (Or.inl rfl))) (fun C s0 H0 fp => eI) (fun C s0 H0 fp => (aK GE hr1 (by rfl) mE kE bE .nil ck (af (pv 0) (af (pv 1) aj))))))))))) ?_
  refine ⟨le_of_ble_eq_true rfl,fun lf BW => ?_⟩
  have s0 := ae (o := .lst []) BW
  have h0 : upd H lf (.lst []) lf = some (.lst (([] : List Int).map V.int)) := ah
  generalize upd H lf (.lst []) = G0 at s0 h0 ⊢
  refine ⟨le_of_ble_eq_true rfl,fun Jh mn => ?_⟩
  have s1 := s0.trans (ae (o := .lst []) mn)
  have h01 := ae (o := .lst []) mn _ _ h0
  have h1 : upd G0 Jh (.lst []) Jh = some (.lst (([] : List Addr).map V.ref)) := ah
  have hne0 : Jh ≠ lf := fun z => by rw [z,h0] at mn; cases mn
  have Qi : H Jh = none := s0.free mn
  generalize upd G0 Jh (.lst []) = G1 at s1 h01 h1 ⊢
  refine ⟨_,rfl,_,rfl,by omega,by omega,?_⟩
  refine eW (lo := 0) (n := ((n : Nat) : Int).toNat) (fun i σ G => ∃ (la : Addr) (qs : List Addr) (fs : List Int) (v4 v5 v6 : Option V),σ = [some (.ref lx),some (.int (n : Int)),some (.ref lf),some (.ref la),v4,v5,v6] ∧ Same H G ∧ H la = none ∧ la ≠ lf ∧ G lf = some (.lst (fs.map V.int)) ∧ G la = some (.lst (qs.map V.ref)) ∧ fs.length = i ∧ (∀ x ∈ fs,0 ≤ x ∧ x < qs.length) ∧ d2 G qs n ∧ qs.length ≤ 50 * i ∧ i ≤ qs.length ∧ (i = n → Ak G qs)) ?_ ?_ ?_
  ·exact ⟨Jh,[],[],none,none,none,rfl,s1,Qi,hne0,h01,h1,rfl,fun x hx => (not_mem_nil hx).elim,fun q hq => (not_mem_nil hq).elim,zero_le _,zero_le _,fun z => absurd z (by omega)⟩
  ·rintro i σ G hi ⟨la,qs,fs,v4,v5,v6,rfl,s2,Hg,hne,dM,hla,hfl,hfs,hG,hql,hqi,iW⟩
   have e0 : (0 : Int) + (i : Int) = (i : Int) := by omega
   rw [e0]
   have hin : i < n := by rw [Int.toNat_natCast] at hi; exact hi
   obtain ⟨xk,hxk⟩ := rd i (by omega)
   refine ⟨_,rfl,_,rfl,lx,_,_,_,rfl,rfl,bq.of (s2 _ _ hx),hxk,_,rfl,xk,(n : Int),rfl,hn0,by omega,fun p d G2 t1 hp hg => ?_⟩
   refine ⟨fun σ G3 => ∃ (p : Addr) (d : FR),σ = [some (.ref lx),some (.int (n : Int)),some (.ref lf),some (.ref la),some (.int (i : Int)),some (.ref p),v6] ∧ Same G G3 ∧ bQ G3 p d ∧ GoodR d n ∧ (i + 1 = n → d.u ∈ dE),?_,?_⟩
   ·refine ⟨_,rfl,_,rfl,_,_,rfl,rfl,rfl,_,rfl,?_⟩
    refine cB (fun _ => ?_) (fun e => ⟨p,d,rfl,t1,hp,hg,fun z => absurd (decide_eq_true (show V.int (i : Int) = V.int ((n : Int) - 1) by congr 1; omega)) e⟩)
    refine ⟨_,rfl,_,rfl,_,rfl,lx,_,_,_,rfl,rfl,bq.of (t1 _ _ (s2 _ _ hx)),hxk,p,xk,(n : Int),d,rfl,hp,hg,hn0,fun p' d' G3 t2 hp' hg' hn' => ⟨p',d',rfl,t1.trans t2,hp',hg',fun _ => hn'⟩⟩
   rintro σ G3 ⟨p,d,rfl,t2,hp,hg,hon⟩
   have s3 := s2.trans t2
   replace hG := hG.same t2
   replace dM := t2 _ _ dM
   replace hla := t2 _ _ hla
   clear t1 t2
   refine ⟨_,rfl,.inl ⟨rfl,_,bq.of dM⟩,_,rfl,la,_,rfl,.inl (bq.of hla),lf,_,_,rfl,rfl,dM,bK (by rw [length_map]; omega),?_⟩
   have eL : fs.map V.int ++ [V.int ((qs.map V.ref).length : Nat)] = (fs ++ [(qs.length : Int)]).map V.int := by rw [map_append,length_map]; rfl
   rw [eL]
   replace s3 : Same H (upd G3 lf (.lst ((fs ++ [(qs.length : Int)]).map V.int))) := bh s3 BW
   replace hp : bQ (upd G3 lf (.lst ((fs ++ [(qs.length : Int)]).map V.int))) p d := hp.put dM
   replace hG : d2 (upd G3 lf (.lst ((fs ++ [(qs.length : Int)]).map V.int))) qs n := hG.put dM
   replace hla : upd G3 lf (.lst ((fs ++ [(qs.length : Int)]).map V.int)) la = some (.lst (qs.map V.ref)) := by rw [aX hne]; exact hla
   replace dM : upd G3 lf (.lst ((fs ++ [(qs.length : Int)]).map V.int)) lf = _ := ah
   generalize upd G3 lf (.lst ((fs ++ [(qs.length : Int)]).map V.int)) = G4 at s3 hp hG hla dM ⊢
   refine ⟨_,rfl,.inl ⟨rfl,_,bq.of hla⟩,_,rfl,la,_,_,rfl,rfl,hla,bK (by rw [length_map]; omega),?_⟩
   have eQ : qs.map V.ref ++ [V.ref p] = (qs ++ [p]).map V.ref := by rw [map_append]; rfl
   rw [eQ]
   have hGp : d2 G4 (qs ++ [p]) n := hG.app fun x hx' => by rw [mem_singleton.mp hx']; exact ⟨d,hp,hg⟩
   clear hG
   have hG : d2 (upd G4 la (.lst ((qs ++ [p]).map V.ref))) (qs ++ [p]) n := hGp.put hla
   have Qj := hla
   replace s3 : Same H (upd G4 la (.lst ((qs ++ [p]).map V.ref))) := bh s3 Hg
   replace dM : upd G4 la (.lst ((qs ++ [p]).map V.ref)) lf = some (.lst ((fs ++ [(qs.length : Int)]).map V.int)) := by rw [aX (Ne.symm hne)]; exact dM
   replace hla : upd G4 la (.lst ((qs ++ [p]).map V.ref)) la = _ := ah
   have hpL : bQ (upd G4 la (.lst ((qs ++ [p]).map V.ref))) p d := hp.put Qj
   generalize upd G4 la (.lst ((qs ++ [p]).map V.ref)) = G5 at s3 hG hla dM hpL ⊢
   have Hh : i + 1 = n → Ak G5 (qs ++ [p]) := fun z => by
    obtain ⟨its,j1,_⟩ := hpL.parts
    exact ⟨p,d.u,its,by simp,j1,hon z⟩
   have KC : ∀ x ∈ fs ++ [(qs.length : Int)],0 ≤ x ∧ x < ((qs ++ [p]).length : Nat) := fun x hx' => by
    rw [length_append,length_singleton]
    rcases mem_append.mp hx' with z | z
    ·have := hfs x z
     omega
    ·rw [mem_singleton.mp z]
     omega
   have hlq : (qs ++ [p]).length = qs.length + 1 := by simp
   have hfl' : (fs ++ [(qs.length : Int)]).length = i + 1 := by simp [hfl]
   clear hGp hp
   refine ⟨_,rfl,_,rfl,_,_,rfl,rfl,_,_,rfl,rfl,_,rfl,?_⟩
   refine cB (fun e => ?_) (fun e => ?_)
   ·have e := of_decide_eq_true e
    obtain ⟨y,hy⟩ := rd (n + i) (by omega)
    have hy' : j4 (ms.map V.int) ((n : Int) + (i : Int)) = some (.int y) := by rw [← hy]; congr 1
    refine ⟨_,rfl,_,rfl,_,rfl,_,_,rfl,rfl,lx,_,_,_,rfl,rfl,bq.of (s3 _ _ hx),hy',?_⟩
    obtain ⟨c,hc,Qk⟩ := dh [0,0,y % 4,y % 40] (y / 40 % 4) (ik _ (by decide)).1 (ik _ (by decide)).2
    have hc39 : 0 ≤ c ∧ c ≤ 39 := by
     simp at hc
     omega
    have he2 := ik (y / 160) (show (0 : Int) < 3 by decide)
    refine ⟨_,rfl,_,rfl,ef,fun t1 qA => ?_⟩
    have s4 := s3.trans (ae (o := .tup [V.str "set",V.int 1,V.int (i : Int)]) qA)
    have zt1 : upd G5 t1 (.tup [V.str "set",V.int 1,V.int (i : Int)]) t1 = _ := ah
    have dM := ae (o := .tup [V.str "set",V.int 1,V.int (i : Int)]) qA _ _ dM
    have hla := ae (o := .tup [V.str "set",V.int 1,V.int (i : Int)]) qA _ _ hla
    replace hG := hG.same (ae (o := .tup [V.str "set",V.int 1,V.int (i : Int)]) qA)
    generalize upd G5 t1 (.tup [V.str "set",V.int 1,V.int (i : Int)]) = G6 at s4 zt1 dM hla hG ⊢
    have r1 : bQ G6 t1 ⟨"set",[1,(i : Int)],[]⟩ := jx (by decide) zt1
    refine ⟨dD,fun l1 nL => ?_⟩
    replace r1 := r1.same (ae (o := .lst [V.ref t1]) nL)
    have s5 := s4.trans (ae (o := .lst [V.ref t1]) nL)
    have KD : upd G6 l1 (.lst [V.ref t1]) l1 = _ := ah
    have dM := ae (o := .lst [V.ref t1]) nL _ _ dM
    have hla := ae (o := .lst [V.ref t1]) nL _ _ hla
    replace hG := hG.same (ae (o := .lst [V.ref t1]) nL)
    generalize upd G6 l1 (.lst [V.ref t1]) = G7 at s5 KD r1 dM hla hG ⊢
    refine ⟨_,rfl,_,_,rfl,rfl,vq,_,rfl,_,_,rfl,rfl,Kt,ke,fun l2 pj => ?_⟩
    replace r1 := r1.same (ae (o := .lst [V.int 0,V.int 0,V.int (y % 4),V.int (y % 40)]) pj)
    have s6 := s5.trans (ae (o := .lst [V.int 0,V.int 0,V.int (y % 4),V.int (y % 40)]) pj)
    have zl2 : upd G7 l2 (.lst [V.int 0,V.int 0,V.int (y % 4),V.int (y % 40)]) l2 = _ := ah
    have dM := ae (o := .lst [V.int 0,V.int 0,V.int (y % 4),V.int (y % 40)]) pj _ _ dM
    have hla := ae (o := .lst [V.int 0,V.int 0,V.int (y % 4),V.int (y % 40)]) pj _ _ hla
    have KD := ae (o := .lst [V.int 0,V.int 0,V.int (y % 4),V.int (y % 40)]) pj _ _ KD
    replace hG := hG.same (ae (o := .lst [V.int 0,V.int 0,V.int (y % 4),V.int (y % 40)]) pj)
    generalize upd G7 l2 (.lst [V.int 0,V.int 0,V.int (y % 4),V.int (y % 40)]) = G8 at s6 zl2 r1 dM hla KD hG ⊢
    refine ⟨_,rfl,_,_,rfl,rfl,⟨by show (0 : Int) < 40; decide,by show (40 : Int) < _; decide⟩,_,_,rfl,rfl,vq,l2,_,_,.int c,rfl,rfl,bq.of (show G8 l2 = some (.lst (([0,0,y % 4,y % 40] : List Int).map V.int)) from zl2),Qk,l1,c,_,rfl,rfl,KD,by omega,by omega,(by show 1 * c.toNat ≤ sizeLine; rw [Nat.one_mul]; exact er (by omega)),fun l3 pC => ?_⟩
    rw [xh]
    replace r1 := r1.same (ae (o := .lst ((replicate c.toNat t1).map V.ref)) pC)
    have s7 := s6.trans (ae (o := .lst ((replicate c.toNat t1).map V.ref)) pC)
    have zl3 : upd G8 l3 (.lst ((replicate c.toNat t1).map V.ref)) l3 = _ := ah
    have dM := ae (o := .lst ((replicate c.toNat t1).map V.ref)) pC _ _ dM
    have hla := ae (o := .lst ((replicate c.toNat t1).map V.ref)) pC _ _ hla
    replace hG := hG.same (ae (o := .lst ((replicate c.toNat t1).map V.ref)) pC)
    generalize upd G8 l3 (.lst ((replicate c.toNat t1).map V.ref)) = G9 at s7 zl3 r1 dM hla hG ⊢
    refine ⟨la,l3,_,_,rfl,rfl,hla,zl3,er (by rw [length_map,length_map,length_replicate]; omega),fun l4 Ql => ?_⟩
    have e4 : (qs ++ [p]).map V.ref ++ (replicate c.toNat t1).map V.ref = (qs ++ [p] ++ replicate c.toNat t1).map V.ref := by simp only [map_append,List.append_assoc]
    rw [e4]
    replace hG := hG.app (d2.one r1 (GoodR.plain (by decide) (by decide) (Jf (by decide +kernel : cj "set" = (["box", "value"] : List Str)) (gG (by decide)) (Ah (by omega)))) c.toNat)
    clear r1
    have s8 := s7.trans (ae (o := .lst ((qs ++ [p] ++ replicate c.toNat t1).map V.ref)) Ql)
    have Am : upd G9 l4 (.lst ((qs ++ [p] ++ replicate c.toNat t1).map V.ref)) l4 = _ := ah
    have dM := ae (o := .lst ((qs ++ [p] ++ replicate c.toNat t1).map V.ref)) Ql _ _ dM
    replace hG := hG.same (ae (o := .lst ((qs ++ [p] ++ replicate c.toNat t1).map V.ref)) Ql)
    generalize upd G9 l4 (.lst ((qs ++ [p] ++ replicate c.toNat t1).map V.ref)) = Ga at s8 Am dM hG ⊢
    refine ⟨aJ,fun t2 gg => ?_⟩
    have s9 := s8.trans (ae (o := .tup [V.str "tell",V.int 2]) gg)
    have zt2 : upd Ga t2 (.tup [V.str "tell",V.int 2]) t2 = _ := ah
    have dM := ae (o := .tup [V.str "tell",V.int 2]) gg _ _ dM
    have Am := ae (o := .tup [V.str "tell",V.int 2]) gg _ _ Am
    replace hG := hG.same (ae (o := .tup [V.str "tell",V.int 2]) gg)
    generalize upd Ga t2 (.tup [V.str "tell",V.int 2]) = Gb at s9 zt2 dM Am hG ⊢
    have r2 : bQ Gb t2 ⟨"tell",[2],[]⟩ := jy (by decide) zt2
    refine ⟨dD,fun l5 KG => ?_⟩
    replace r2 := r2.same (ae (o := .lst [V.ref t2]) KG)
    have sa := s9.trans (ae (o := .lst [V.ref t2]) KG)
    have zl5 : upd Gb l5 (.lst [V.ref t2]) l5 = _ := ah
    have dM := ae (o := .lst [V.ref t2]) KG _ _ dM
    have Am := ae (o := .lst [V.ref t2]) KG _ _ Am
    replace hG := hG.same (ae (o := .lst [V.ref t2]) KG)
    generalize upd Gb l5 (.lst [V.ref t2]) = Gc at sa zl5 r2 dM Am hG ⊢
    refine ⟨_,rfl,_,_,rfl,rfl,⟨by show (0 : Int) < 160; decide,by show (160 : Int) < _; decide⟩,_,_,rfl,rfl,Ko,l5,_,_,rfl,rfl,zl5,(by show -(2 ^ 63) ≤ y / 160 % 3; omega),(by show y / 160 % 3 < 2 ^ 63; omega),(by show 1 * (y / 160 % 3).toNat ≤ sizeLine; rw [Nat.one_mul]; exact er (by omega)),fun l6 KH => ?_⟩
    rw [xh]
    replace r2 := r2.same (ae (o := .lst ((replicate (y / 160 % 3).toNat t2).map V.ref)) KH)
    have sb := sa.trans (ae (o := .lst ((replicate (y / 160 % 3).toNat t2).map V.ref)) KH)
    have zl6 : upd Gc l6 (.lst ((replicate (y / 160 % 3).toNat t2).map V.ref)) l6 = _ := ah
    have dM := ae (o := .lst ((replicate (y / 160 % 3).toNat t2).map V.ref)) KH _ _ dM
    have Am := ae (o := .lst ((replicate (y / 160 % 3).toNat t2).map V.ref)) KH _ _ Am
    replace hG := hG.same (ae (o := .lst ((replicate (y / 160 % 3).toNat t2).map V.ref)) KH)
    generalize upd Gc l6 (.lst ((replicate (y / 160 % 3).toNat t2).map V.ref)) = Gd at sb zl6 r2 dM Am hG ⊢
    refine ⟨l4,l6,_,_,rfl,rfl,Am,zl6,er (by rw [length_map,length_map,length_replicate,length_append,length_replicate]; omega),fun l7 Ji => ?_⟩
    have e7 : (qs ++ [p] ++ replicate c.toNat t1).map V.ref ++ (replicate (y / 160 % 3).toNat t2).map V.ref = (qs ++ [p] ++ replicate c.toNat t1 ++ replicate (y / 160 % 3).toNat t2).map V.ref := by simp only [map_append,List.append_assoc]
    rw [e7]
    replace hG := hG.app (d2.one r2 (GoodR.plain (by decide) (by decide) (Je (by decide +kernel : cj "tell" = (["box"] : List Str)) (gG (by decide)))) (y / 160 % 3).toNat)
    clear r2
    have n7 : H l7 = none := sb.free Ji
    have ne7 : l7 ≠ lf := fun z => by rw [z,dM] at Ji; cases Ji
    have sc := sb.trans (ae (o := .lst ((qs ++ [p] ++ replicate c.toNat t1 ++ replicate (y / 160 % 3).toNat t2).map V.ref)) Ji)
    have zl7 : upd Gd l7 (.lst ((qs ++ [p] ++ replicate c.toNat t1 ++ replicate (y / 160 % 3).toNat t2).map V.ref)) l7 = _ := ah
    have dM := ae (o := .lst ((qs ++ [p] ++ replicate c.toNat t1 ++ replicate (y / 160 % 3).toNat t2).map V.ref)) Ji _ _ dM
    replace hG := hG.same (ae (o := .lst ((qs ++ [p] ++ replicate c.toNat t1 ++ replicate (y / 160 % 3).toNat t2).map V.ref)) Ji)
    generalize upd Gd l7 (.lst ((qs ++ [p] ++ replicate c.toNat t1 ++ replicate (y / 160 % 3).toNat t2).map V.ref)) = Ge at sc zl7 dM hG ⊢
    refine ⟨l7,_,fs ++ [(qs.length : Int)],_,_,_,rfl,sc,n7,ne7,dM,zl7,hfl',fun x hx' => ?_,hG,?_,?_,fun z => absurd z (by omega)⟩
    ·have := KC x hx'
     rw [length_append,length_append,length_replicate,length_replicate]
     omega
    ·rw [length_append,length_append,length_replicate,length_replicate]
     omega
    ·rw [length_append,length_append,length_replicate,length_replicate]
     omega
   ·exact ⟨la,_,_,_,_,_,rfl,s3,Hg,hne,dM,hla,hfl',KC,hG,by omega,by omega,Hh⟩
  ·rintro σ G ⟨la,qs,fs,v4,v5,v6,rfl,s2,Hg,hne,dM,hla,hfl,hfs,hG,hql,hqi,iW⟩
   rw [Int.toNat_natCast] at hfl hql hqi iW
   obtain ⟨qL,uL,xL,hL1,hL2,hL3⟩ := iW rfl
   refine ⟨_,rfl,la,rfl,⟨_,bq.of hla⟩,fun D nD => lA (K := K) (a := la) (xs := qs.map V.ref) (fun j σ ys G2 => ∃ (v : Option V) (es : List Addr) (dl : List FR),σ = [v,some (.ref lf)] ∧ ys = es.map V.ref ∧ es.length = j ∧ dl.length = j ∧ (∀ (i : Nat) q d,es[i]? = some q → dl[i]? = some d → bQ G2 q d) ∧ (∀ d ∈ dl,GoodR d qs.length) ∧ (∀ (i : Nat) q u xs,qs[i]? = some q → G q = some (.tup (.str u :: xs)) → ∀ d,dl[i]? = some d → d.u = u) ∧ Same G G2 ∧ G2 D = some (.lst ys)) ?_ ?_ ?_ ?_⟩
   ·exact ⟨none,[],[],rfl,rfl,rfl,rfl,fun i q d h => by simp at h,fun d hd => (not_mem_nil hd).elim,fun i q u xs _ _ d h => by simp at h,ae nD,ah⟩
   ·rintro j σ ys G2 _ ⟨v,es,dl,rfl,rfl,_,_,_,_,_,s3,_⟩
    exact bq.of (s3 _ _ hla)
   ·rintro j x σ ys G2 hxj ⟨v,es,dl,rfl,rfl,hel,hdl,hrow,hgd,Qm,s3,hD⟩
    rw [List.getElem?_map] at hxj
    obtain ⟨q,hq,rfl⟩ := map_eq_some_iff.mp hxj
    have hjl := (List.getElem?_eq_some_iff.mp hq).1
    obtain ⟨d0,hd0,hg0⟩ := hG q (List.mem_of_getElem? hq)
    refine ⟨_,rfl,_,rfl,q,lf,d0,fs,(qs.length : Int),rfl,hd0.same s3,by rw [hfl]; exact hg0,s3 _ _ dM,hfs,fun p' d' G3 s4 hp' hg' hu' => ⟨s4 _ _ hD,bK (by rw [length_map]; omega),_,es ++ [p'],dl ++ [d'],rfl,by rw [map_append]; rfl,by rw [length_append,hel]; rfl,by rw [length_append,hdl]; rfl,fun i q' dd g1 g2 => ?_,fun dd hdd => ?_,fun i q' u xs g1 g2 dd g3 => ?_,bh (s3.trans s4) nD,ah⟩⟩
    ·by_cases hi : i < es.length
     ·rw [List.getElem?_append_left hi] at g1
      rw [List.getElem?_append_left (by omega)] at g2
      exact ((hrow i q' dd g1 g2).same s4).put (s4 _ _ hD)
     ·rw [List.getElem?_append_right (by omega)] at g1
      rw [List.getElem?_append_right (by omega)] at g2
      rw [hel] at g1
      rw [hdl] at g2
      match h9 : i - j,g1,g2 with
      | 0,g1,g2 =>
       cases g1
       cases g2
       exact hp'.put (s4 _ _ hD)
    ·rcases mem_append.mp hdd with z | z
     ·exact hgd dd z
     ·rw [mem_singleton.mp z]
      exact hg'
    ·by_cases hi : i < dl.length
     ·rw [List.getElem?_append_left hi] at g3
      exact Qm i q' u xs g1 g2 dd g3
     ·have h9 := (List.getElem?_eq_some_iff.mp g3).1
      rw [length_append,length_singleton] at h9
      have ei : i = dl.length := by omega
      subst ei
      rw [show (dl ++ [d'])[dl.length]? = some d' by simp] at g3
      cases g3
      rw [hdl,hq] at g1
      cases g1
      obtain ⟨its,j1,_⟩ := hd0.parts
      rw [j1] at g2
      cases g2
      exact hu'
   ·rintro σ ys G2 ⟨v,es,dl,rfl,rfl,hel,hdl,hrow,hgd,Qm,s3,hD⟩
    rw [length_map] at hel hdl
    exact k D dl _ (s2.trans s3) (s2.free nD) ⟨es,hD,by omega,hrow⟩ (fun dd hdd => by rw [hdl]; exact hgd dd hdd) (fun dd hdd => by rw [List.getLast?_eq_getElem?] at hL1; rw [hdl] at hdd; rw [Qm _ qL uL xL hL1 hL2 dd hdd]; exact hL3) (by omega) (by omega)
end
theorem C7 (xs : List V) (a b : Nat) (h1 : a ≤ b) (h2 : b ≤ xs.length) : gw xs (some (a : Int)) (some (b : Int)) = (xs.drop a).take (b - a) := by
 unfold gw
 have e1 : HT.dz xs.length 0 (some (a : Int)) = min a xs.length := HT.gY ..
 have e2 : HT.dz xs.length xs.length (some (b : Int)) = min b xs.length := HT.gY ..
 rw [e1,e2,min_eq_left (show a ≤ xs.length by omega),min_eq_left h2]
theorem xm (ds : List FR) (a : Nat) : ∀ k : Nat,a + k ≤ ds.length → (((ds.drop a).take k).map gE).sum = beg ds (a + k) - beg ds a
 | 0,_ => by simp
 | k + 1,h => by
  have ih := xm ds a k (by omega)
  have hd : ds[a + k]? = some ds[a + k] := List.getElem?_eq_getElem (by omega)
  rw [take_add_one,List.getElem?_drop,hd,map_append,List.sum_append,ih,show a + (k + 1) = (a + k) + 1 by omega,dY hd]
  simp
  omega
section
variable {P : Program} {w : World} {K : Frag} {mg : Str → Option Value} {base : Heap}
def xr : Sp := fun vs H Q _ => ∃ (p : Addr) (d : FR),vs = [.ref p] ∧ bQ H p d ∧ ∀ H',Same H H' → Q (.int (gE d)) H'
theorem KJ : aW ["_law_row_here"] ["_law_row_here"] (aq lF) := ⟨rfl,rfl,rfl,by decide +kernel,rfl,by decide +kernel,by decide +kernel⟩
theorem Ao {f : Addr} {fd : FuncData} (F : fq K "_law_size" "_law_size" lF f fd) (T : Txt K w.params mg) : aY P w K mg base cQ 1 f fd ["_law_row_here"] xr := by
 refine F.ok KJ (fun vs H Q E h => ?_) (fun cdv A outer s H vs Q E hr h => ?_)
 ·obtain ⟨p,d,rfl,_⟩ := h
  rfl
 ·obtain ⟨p,d,rfl,hR,k⟩ := h
  obtain ⟨items,i1,_,i3,_⟩ := hR.parts
  unfold gE at k
  refine dS (ao (bj (az bg (aE aN (pv 0) ai (fun _ _ => rfl)) (dG (.cons ak (.cons ak (.cons ak (.cons ak (.cons ak .nil)))))) rfl) (ay (aw (aA (au aO ai (aE aN (pv 0) (dQ cT ai) (fun _ _ => rfl)))))) (aR aD))
   (ao (bj (az cw (aE aN (pv 0) ai (fun _ _ => rfl)) ak (aL _)) (ay (aw (aA (au aO ai (bf aU (by rfl) T.len cM (af (aE aN (pv 0) ai (fun _ _ => rfl)) aj)))))) (aR aD))
   (ay (aw (aA (au aO ai (bA dv (by rfl) T.int fK (af (cF bg (aE aN (pv 0) ai (fun _ _ => rfl)) (dG (.cons ak (.cons ak (.cons ak (.cons ak (.cons ak (.cons ak .nil))))))) rfl) aj)))))))) ?_
  refine ⟨_,rfl,p,_,0,_,rfl,rfl,aZ.of i1,at0 _ _,iS,fun t0 Aj => ⟨t0,five.map V.str,rfl,.inr (aZ.of ah),rfl,rfl,_,rfl,?_⟩⟩
  have s0 := (ae (o := .tup [V.str "jump",V.str "call",V.str "mark",V.str "zero",V.str "below"]) Aj)
  rw [show inV (.str d.u) (five.map V.str) = decide (d.u ∈ five) from bt _ _]
  generalize upd H t0 (.tup [V.str "jump",V.str "call",V.str "mark",V.str "zero",V.str "below"]) = G0 at s0 ⊢
  refine cB (fun e => ?_) (fun e => ?_)
  ·have e := of_decide_eq_true e
   obtain ⟨nt,g1,g2,_⟩ := eN hR e
   rw [if_neg nt,if_pos e] at k
   exact ⟨_,rfl,_,rfl,p,_,_,_,rfl,rfl,aZ.of (s0 _ _ g1),g2,_,_,rfl,rfl,k _ s0⟩
  ·have e : ¬ d.u ∈ five := fun z => e (decide_eq_true z)
   refine ⟨_,rfl,p,_,0,_,rfl,rfl,aZ.of (s0 _ _ i1),at0 _ _,rfl,_,rfl,?_⟩
   refine cB (fun e2 => ?_) (fun e2 => ?_)
   ·have e2 := strEq e2
    rw [if_pos e2] at k
    unfold Parts at i3
    rw [if_pos e2] at i3
    obtain ⟨b,p3,rfl,h3⟩ := i3
    refine ⟨_,rfl,p,_,2,_,rfl,rfl,aZ.of (s0 _ _ i1),at2 _ _ _ _,p3,_,rfl,.inr (aZ.of (s0 _ _ h3)),_,_,rfl,rfl,?_⟩
    rw [length_map]
    exact k _ s0
   ·have e2 := jJ e2
    rw [if_neg e2,if_neg e] at k
    have i1 := s0 _ _ i1
    refine ⟨_,rfl,p,_,0,_,rfl,rfl,aZ.of i1,at0 _ _,CW,fun t1 qA => ⟨t1,six.map V.str,rfl,.inr (aZ.of ah),rfl,rfl,.inr ⟨_,rfl,_,_,rfl,rfl,?_⟩⟩⟩
    have s1 := s0.trans (ae (o := .tup [V.str "set",V.str "more",V.str "put",V.str "take",V.str "see",V.str "halt"]) qA)
    rw [show inV (.str d.u) (six.map V.str) = decide (d.u ∈ six) from bt _ _]
    have kk := k _ s1
    by_cases h6 : d.u ∈ six
    ·rw [if_pos h6] at kk
     rw [decide_eq_true h6]
     exact kk
    ·rw [if_neg h6] at kk
     rw [decide_eq_false h6]
     exact kk
def rM : Sp := fun vs H Q _ => ∃ (lr : Addr) (ds : List FR) (r t : Nat),vs = [.ref lr,.int (r : Int),.int (t : Int)] ∧ dZ H lr ds ∧ r < ds.length ∧ t < ds.length ∧ ds.length ≤ 100000 ∧ ∀ H',Same H H' → Q (.int (dg ds r (t : Int))) H'
theorem Ap : aW ["_law_rows", "_law_here", "_law_there", "_law_low", "_law_units_here"] ["_law_rows", "_law_here", "_law_there"] (aq jO) := ⟨rfl,rfl,rfl,by decide +kernel,rfl,by decide +kernel,by decide +kernel⟩
def C8 : Scope := { kind := .function,names := [(".0",.local),("_law_row_here",.local),("_law_size",.globalImplicit)],isGenerator := false,isCoroutine := false,more := [] }
theorem xt : dq (aq jO) C8 ["_law_rows", "_law_here", "_law_there", "_law_low", "_law_units_here"] ["_law_row_here"] [none] := ⟨rfl,by decide +kernel,by decide +kernel,by decide +kernel,by decide +kernel,by decide +kernel⟩
theorem Aq {f fS : Addr} {fd w4 : FuncData} (F : fq K "_law_distance" "_law_distance" jO f fd) (T : Txt K w.params mg) (GS : aY P w K mg base cQ 1 fS w4 ["_law_row_here"] xr) (kS : KI K fS) (bS : Binds K w4 ["_law_row_here"] []) (mS : mg "_law_size" = some (.ref fS)) : aY P w K mg base cQ 2 f fd ["_law_rows", "_law_here", "_law_there"] rM := by
 refine F.ok Ap (fun vs H Q E h => ?_) (fun cdv A outer s H vs Q E hr h => ?_)
 ·obtain ⟨lr,ds,r,t,rfl,_⟩ := h
  rfl
 ·obtain ⟨lr,ds,r,t,rfl,hR,hr1,ht1,hn,k⟩ := h
  obtain ⟨qs,r1,r2,r3⟩ := hR
  refine dS (ao (aw (aF (i := 3) Ap.nd rfl (Or.inl rfl) (bf (yq rfl) (by rfl) T.min GA (af (au aO (pv 1) ai) (af (pv 2) aj)))))
   (ao (aw (aF (i := 4) Ap.nd rfl (Or.inl rfl) (bf (z4 rfl) (by rfl) T.sum GK (af (fY (N' := ["_law_row_here"]) (fr := [none]) xt rfl (ja (dk j5 (pv 0) (dj (pv 3)) (dj (bf (yp rfl) (by rfl) T.max Gz (af (au aO (pv 1) ai) (af (pv 2) aj)))))) (fun C s0 H0 fp => (cq (i := 0) xt.nd rfl (Or.inl rfl))) (fun C s0 H0 fp => eI) (fun C s0 H0 fp => (aK GS hr (by rfl) mS kS bS .nil ck (af (pv 0) aj)))) aj))))
   (ay (aw (aA (aE aQ (bw (af (au dU ai (pv 4)) (af (pv 4) aj))) (bA dv (by rfl) T.int fK (af (cF wF (pv 2) (pv 1) (aL _)) aj)) (fun _ _ => rfl))))))) ?_
  obtain ⟨lo,hi,hlo,hhi,hle,hhl⟩ : ∃ lo hi : Nat,(if (t : Int) < (r : Int) + 1 then (t : Int) else (r : Int) + 1) = (lo : Int) ∧ (if (t : Int) > (r : Int) + 1 then (t : Int) else (r : Int) + 1) = (hi : Int) ∧ lo ≤ hi ∧ hi ≤ ds.length := by
   by_cases h : (t : Int) < (r : Int) + 1
   ·exact ⟨t,r + 1,if_pos h,by rw [if_neg (by omega)]; rfl,by omega,by omega⟩
   ·refine ⟨r + 1,t,by rw [if_neg h]; rfl,?_,by omega,by omega⟩
    by_cases h2 : (t : Int) > (r : Int) + 1
    ·rw [if_pos h2]
    ·rw [if_neg h2]; omega
  refine ⟨_,rfl,_,_,rfl,rfl,_,rfl,_,_,rfl,?_⟩
  refine ⟨_,rfl,_,rfl,(lo : Int),congrArg V.int hlo,_,rfl,_,_,rfl,rfl,_,rfl,_,_,rfl,(hi : Int),congrArg V.int hhi,lr,_,rfl,bq.of r1,fun lc nc => ?_⟩
  have ec : gw (qs.map V.ref) (some (lo : Int)) (some (hi : Int)) = ((qs.drop lo).take (hi - lo)).map V.ref := by rw [C7 _ _ _ hle (by rw [length_map]; omega),map_take,map_drop]
  rw [ec]
  have s1 := ae (o := .lst (((qs.drop lo).take (hi - lo)).map V.ref)) nc
  have h1 : upd H lc (.lst (((qs.drop lo).take (hi - lo)).map V.ref)) lc = _ := ah
  generalize upd H lc (.lst (((qs.drop lo).take (hi - lo)).map V.ref)) = G0 at s1 h1 ⊢
  refine ⟨lc,rfl,⟨_,bq.of h1⟩,fun D nD => lA (K := K) (a := lc) (xs := ((qs.drop lo).take (hi - lo)).map V.ref) (fun j σ ys G => ∃ v : Option V,σ = [v] ∧ ys = ((((ds.drop lo).take (hi - lo)).take j).map gE).map V.int ∧ Same G0 G ∧ G D = some (.lst ys)) ?_ ?_ ?_ ?_⟩
  ·exact ⟨none,rfl,rfl,ae nD,ah⟩
  ·rintro j σ ys G _ ⟨v,rfl,rfl,s2,_⟩
   exact bq.of (s2 _ _ h1)
  ·rintro j x σ ys G hx ⟨v,rfl,rfl,s2,hD⟩
   rw [List.getElem?_map] at hx
   obtain ⟨q,hq,rfl⟩ := map_eq_some_iff.mp hx
   have hjl := (List.getElem?_eq_some_iff.mp hq).1
   rw [length_take,length_drop] at hjl
   rw [List.getElem?_take,if_pos (by omega),List.getElem?_drop] at hq
   have hd : ds[lo + j]? = some (ds[lo + j]'(by omega)) := List.getElem?_eq_getElem _
   generalize ds[lo + j]'(by omega) = d at hd
   have hd2 : ((ds.drop lo).take (hi - lo))[j]? = some d := by rw [List.getElem?_take,if_pos (by omega),List.getElem?_drop]; exact hd
   refine ⟨_,rfl,q,d,rfl,(r3 _ q d hq hd).same (s1.trans s2),fun G2 s3 => ⟨s3 _ _ hD,bK (by rw [length_map,length_map,length_take,length_take,length_drop]; omega),_,rfl,?_,bh (s2.trans s3) nD,ah⟩⟩
   rw [take_add_one,hd2,map_append,map_append]
   rfl
  ·rintro σ ys G ⟨v,rfl,rfl,s2,hD⟩
   have hlen : ((qs.drop lo).take (hi - lo)).length = hi - lo := by rw [length_take,length_drop]; omega
   have hlen2 : ((ds.drop lo).take (hi - lo)).length = hi - lo := by rw [length_take,length_drop]; omega
   rw [length_map,hlen,take_of_length_le (by omega)] at hD
   refine ⟨D,_,rfl,bq.of hD,?_⟩
   have esum : ((ds.drop lo).take (hi - lo) |>.map gE).sum = beg ds hi - beg ds lo := by
    rw [xm ds lo (hi - lo) (by omega),show lo + (hi - lo) = hi by omega]
   rw [esum]
   have s12 := s1.trans s2
   refine ⟨_,rfl,_,_,rfl,rfl,_,rfl,aJ,fun l nl => ?_⟩
   have kk := k _ (s12.trans (ae (o := .lst [V.int (0 - (beg ds hi - beg ds lo)),V.int (beg ds hi - beg ds lo)]) nl))
   unfold dg at kk
   rw [Int.toNat_natCast] at kk
   by_cases h : (r : Int) < (t : Int)
   ·refine ⟨_,rfl,_,rfl,_,_,rfl,rfl,.inr ⟨_,rfl,l,_,1,.int (beg ds hi - beg ds lo),rfl,by rw [decide_eq_true h]; rfl,bq.of ah,rfl,?_⟩⟩
    have e1 : lo = r + 1 := by rw [if_neg (by omega)] at hlo; omega
    have e2 : hi = t := by
     by_cases h2 : (t : Int) > (r : Int) + 1
     ·rw [if_pos h2] at hhi; omega
     ·rw [if_neg h2] at hhi; omega
    subst e1 e2
    exact kk
   ·refine ⟨_,rfl,_,rfl,_,_,rfl,rfl,.inr ⟨_,rfl,l,_,0,.int (0 - (beg ds hi - beg ds lo)),rfl,by rw [decide_eq_false h]; rfl,bq.of ah,rfl,?_⟩⟩
    have e1 : lo = t := by rw [if_pos (by omega)] at hlo; omega
    have e2 : hi = r + 1 := by rw [if_neg (by omega)] at hhi; omega
    subst e1 e2
    rw [show beg ds lo - beg ds (r + 1) = 0 - (beg ds (r + 1) - beg ds lo) by omega] at kk
    exact kk
def du (ds : List FR) (r : Nat) (d : FR) : Bool := !cn d || oH (dst ds r d)
def xu : Sp := fun vs H Q _ => ∃ (lr : Addr) (ds : List FR) (r : Nat) (d : FR),vs = [.ref lr,.int (r : Int)] ∧ dZ H lr ds ∧ ds[r]? = some d ∧ GoodR d ds.length ∧ ds.length ≤ 100000 ∧ ∀ H',Same H H' → Q (.bl (du ds r d)) H'
theorem EF : aW ["_law_rows", "_law_here", "_law_row_here"] ["_law_rows", "_law_here"] (aq lG) := ⟨rfl,rfl,rfl,by decide +kernel,rfl,by decide +kernel,by decide +kernel⟩
theorem Ar {f fD : Addr} {fd EG : FuncData} (F : fq K "_law_bears" "_law_bears" lG f fd) (T : Txt K w.params mg) (GD : aY P w K mg base cQ 2 fD EG ["_law_rows", "_law_here", "_law_there"] rM) (kD : KI K fD) (bD : Binds K EG ["_law_rows", "_law_here", "_law_there"] []) (mD : mg "_law_distance" = some (.ref fD)) : aY P w K mg base cQ 3 f fd ["_law_rows", "_law_here"] xu := by
 refine F.ok EF (fun vs H Q E h => ?_) (fun cdv A outer s H vs Q E hr h => ?_)
 ·obtain ⟨lr,ds,r,d,rfl,_⟩ := h
  rfl
 ·obtain ⟨lr,ds,r,d,rfl,hR,hd,hg,hn,k⟩ := h
  obtain ⟨qs,p,g1,g2,g2',g3⟩ := hR.get hd
  obtain ⟨items,i1,_,i3,_⟩ := g3.parts
  have hrl := (List.getElem?_eq_some_iff.mp hd).1
  refine dS (ao (aw (aF (i := 2) EF.nd rfl (Or.inl rfl) (aE aQ (pv 0) (pv 1) (fun _ _ => rfl))))
   (ao (bj (iD (az hU (aE aN (pv 2) ai (fun _ _ => rfl)) (dG (.cons ak (.cons ak (.cons ak (.cons ak (.cons ak .nil)))))) rfl) (eZ (az cw (aE aN (pv 2) (dQ cT ai) (fun _ _ => rfl)) ai (aL _)))).pt (ay (aw (aA iN))) (aR aD))
   (ay (aw (aA (sU jZ jZ (dQ cT ai) (aK GD hr (by rfl) mD kD bD .nil ck (af (pv 0) (af (pv 1) (af (aE aN (pv 2) (dQ cT ai) (fun _ _ => rfl)) aj)))) ai)))))) ?_
  refine ⟨_,rfl,_,rfl,lr,_,_,_,rfl,rfl,bq.of g1,g2,?_⟩
  refine ⟨_,rfl,p,_,0,_,rfl,rfl,aZ.of i1,at0 _ _,iS,fun t0 Aj => ⟨t0,five.map V.str,rfl,.inr (aZ.of ah),rfl,rfl,_,rfl,?_⟩⟩
  have s0 := (ae (o := .tup [V.str "jump",V.str "call",V.str "mark",V.str "zero",V.str "below"]) Aj)
  rw [show inV (.str d.u) (five.map V.str) = decide (d.u ∈ five) from bt _ _]
  generalize upd H t0 (.tup [V.str "jump",V.str "call",V.str "mark",V.str "zero",V.str "below"]) = G0 at s0 ⊢
  unfold du cn at k
  refine cB (fun e => ?_) (fun e => ?_)
  ·have e : ¬ d.u ∈ five := by simpa using e
   have kk := k _ s0
   rw [decide_eq_false e] at kk
   exact kk
  ·have e : d.u ∈ five := Decidable.byContradiction fun z => e (by rw [decide_eq_false z]; rfl)
   obtain ⟨nt,y1,y2,t,oM,y3⟩ := eN g3 e
   rw [decide_eq_true e,Bool.true_and] at k
   refine ⟨_,rfl,_,rfl,p,_,_,_,rfl,rfl,aZ.of (s0 _ _ y1),y2,rfl,_,rfl,?_⟩
   refine cB (fun e2 => ?_) (fun e2 => ?_)
   ·have e2 : dt d = 1 := V.int.inj (of_decide_eq_true e2)
    have kk := k _ s0
    rw [decide_eq_false (by omega)] at kk
    exact kk
   ·have e2 : ¬ dt d = 1 := fun z => e2 (decide_eq_true (by rw [z]))
    have e3 : dt d = 0 := (hg.2.2.1 e).resolve_right e2
    rw [decide_eq_true e3,Bool.not_true,Bool.false_or] at k
    obtain ⟨t0,t1⟩ := hg.2.1 t (by rw [oM]; simp)
    obtain ⟨tn,rfl⟩ := Int.eq_ofNat_of_zero_le t0
    have Qn : dst ds r d = dg ds r (tn : Int) := by unfold dst; rw [oM]; rfl
    refine ⟨_,rfl,_,rfl,_,rfl,_,rfl,_,rfl,p,_,_,_,rfl,rfl,aZ.of (s0 _ _ y1),y3,lr,ds,r,tn,rfl,hR.same s0,hrl,by omega,hn,fun G1 s1 => ⟨_,_,rfl,rfl,_,rfl,?_⟩⟩
    have kk := k _ (s0.trans s1)
    rw [Qn] at kk
    unfold oH at kk
    refine cB (fun e4 => ⟨_,_,rfl,rfl,?_⟩) (fun e4 => ?_)
    ·have : decide (-64 ≤ dg ds r (tn : Int) ∧ dg ds r (tn : Int) ≤ 63) = decide (dg ds r (tn : Int) ≤ 63) := decide_eq_decide.mpr ⟨fun z => z.2,fun z => ⟨of_decide_eq_true e4,z⟩⟩
     rw [this] at kk
     exact kk
    ·rw [decide_eq_false (fun z => e4 (decide_eq_true z.1))] at kk
     exact kk
end
def wn : V → Option Int
 | .int n => some n
 | _ => none
inductive FV : V → Prop
 | int (n : Int) : FV (.int n)
 | bl (b : Bool) : FV (.bl b)
 | non : FV .non
 | str (s : Str) : FV (.str s)
def Fl (us : List V) : Prop := ∀ v ∈ us,FV v
def uA (us : List V) (i : Nat) : Option Int := (us[i]?).bind wn
theorem kh {us : List V} {i : Nat} {n : Int} (h : uA us i = some n) : us[i]? = some (.int n) := by
 unfold uA at h
 cases e : us[i]? with
 | none => rw [e] at h; cases h
 | some v =>
  rw [e] at h
  cases v with
  | int m => cases h; rfl
  | _ => cases h
theorem KL {us : List V} {i : Nat} {n : Int} (h : uA us i = some n) : i < us.length := (List.getElem?_eq_some_iff.mp (kh h)).1
theorem mq {us : List V} {i : Nat} {v : V} (h : us[i]? = some v) : uA us i = wn v := by unfold uA; rw [h]; rfl
theorem nM {us : List V} {i : Nat} (h : us.length ≤ i) : uA us i = none := by unfold uA; rw [List.getElem?_eq_none h]; rfl
theorem Fl.get {us : List V} {i : Nat} {v : V} (h : Fl us) (e : us[i]? = some v) : FV v := h v (List.mem_of_getElem? e)
def fits (h : Str × Int) (a low : Int) : Bool := if (cj h.1).count ("box" : Str) = 0 ∧ a ≠ 0 then false else if (cj h.1).count ("box" : Str) = 2 then decide (low < 8) else (decide (low = 0) || (decide (h.1 ∈ five) && decide (h.2 = 0)))
theorem KN : ∀ x ∈ bounds,(x.1,gF x.1) = x := by decide +kernel
theorem Au : ∀ u ∈ bu,(u,cj u) ∈ kinds := by decide +kernel
theorem xv : ∀ h ∈ heads,h.1 ∈ bu := by decide +kernel
section
variable {P : Program} {w : World} {K : Frag} {mg : Str → Option Value} {base : Heap}
variable {cU R fI : Addr} {xA : FuncData}
def oN : Sp := fun vs H Q _ => ∃ v : V,vs = [v] ∧ FV v ∧ Q (.bl (wn v).isSome) H
theorem KO : aW ["thing"] ["thing"] (aq jj) := ⟨rfl,rfl,rfl,by decide +kernel,rfl,by decide +kernel,by decide +kernel⟩
theorem Av {f : Addr} {fd : FuncData} (F : fq K "is_whole" "is_whole" jj f fd) (T : Txt K w.params mg) : aY P w K mg base cQ 1 f fd ["thing"] oN := by
 refine F.ok KO (fun vs H Q E h => ?_) (fun cdv A outer s H vs Q E hr h => ?_)
 ·obtain ⟨v,rfl,_⟩ := h
  rfl
 ·obtain ⟨v,rfl,hv,k⟩ := h
  refine ⟨_,(aG (aA (nY (bf dR (by rfl) T.C0 ie (af (pv 0) (af (gU (v := .ty "int") (by rfl) T.int fK rfl) aj))) (iO (Fu (bf dR (by rfl) T.C0 ie (af (pv 0) (af (gU (v := .ty "bool") (by rfl) T.bool rJ rfl) aj)))))))),?_⟩
  cases hv with
  | int n =>
   refine ⟨_,rfl,_,_,_,_,rfl,.int _,qw,_,rfl,bz (by decide) ?_⟩
   exact ⟨_,rfl,_,_,_,_,rfl,.int _,jQ,_,rfl,k⟩
  | bl b =>
   refine ⟨_,rfl,_,_,_,_,rfl,.bl _,oG,_,rfl,bz (by decide) ?_⟩
   exact ⟨_,rfl,_,_,_,_,rfl,.bl _,mh,_,rfl,k⟩
  | non => exact ⟨_,rfl,_,_,_,_,rfl,.non,iU,_,rfl,bY (by decide) k⟩
  | str s => exact ⟨_,rfl,_,_,_,_,rfl,.str _,qv,_,rfl,bY (by decide) k⟩
def xB : Sp := fun vs H Q _ => ∃ (kd : Str) (n : Int),vs = [.str kd,.int n] ∧ kd ∈ bounds.map (·.1) ∧ Q (.bl (inB kd n)) H
theorem KP : aW ["kind", "thing"] ["kind", "thing"] (aq lD) := ⟨rfl,rfl,rfl,by decide +kernel,rfl,by decide +kernel,by decide +kernel⟩
theorem Aw {f fW : Addr} {fd kj : FuncData} (F : fq K "is_number_of" "is_number_of" lD f fd) (T : Txt K w.params mg) (GW : aY P w K mg base cQ 1 fW kj ["thing"] oN) (kW : KI K fW) (bW : Binds K kj ["thing"] []) (mW : mg "is_whole" = some (.ref fW)) : aY P w K mg base cQ 2 f fd ["kind", "thing"] xB := by
 refine F.ok KP (fun vs H Q E h => ?_) (fun cdv A outer s H vs Q E hr h => ?_)
 ·obtain ⟨kd,n,rfl,_⟩ := h
  rfl
 ·obtain ⟨kd,n,rfl,hk,k⟩ := h
  obtain ⟨x,hx,rfl⟩ := mem_map.mp hk
  have hb := KN x hx
  obtain ⟨pb,hpb,hpk⟩ := T.bnd
  obtain ⟨q,hq,hS⟩ := hpk x hx
  have hS' : ∀ H,aZ K H q [.int (gF x.1).1,.int (gF x.1).2] := fun H => by rw [show gF x.1 = x.2 from congrArg Prod.snd hb]; exact hS H
  refine ⟨_,(aG (aA (nY (aK GW hr (by rfl) mW kW bW .nil ck (af (pv 1) aj)) (iO (sU jZ jZ (aE aN (jc (cu (v := .ref pb) (by rfl) hpb rfl) (pv 0) (fun _ _ => rfl)) ai (fun _ _ => rfl)) (pv 1) (aE aN (jc (cu (v := .ref pb) (by rfl) hpb rfl) (pv 0) (fun _ _ => rfl)) ai (fun _ _ => rfl))))))),?_⟩
  refine ⟨_,rfl,.int n,rfl,.int n,_,rfl,bz rfl ?_⟩
  refine ⟨_,rfl,pb,x.1,_,rfl,rfl,hq,q,_,0,_,rfl,rfl,hS' _,at0 _ _,_,rfl,_,_,rfl,rfl,_,rfl,?_⟩
  unfold inB at k
  refine cB (fun e => ?_) (fun e => ?_)
  ·refine ⟨_,rfl,pb,x.1,_,rfl,rfl,hq,q,_,1,_,rfl,rfl,hS' _,at1 _ _ _,_,_,rfl,rfl,?_⟩
   have e := of_decide_eq_true e
   rw [show decide ((gF x.1).1 ≤ n ∧ n ≤ (gF x.1).2) = decide (n ≤ (gF x.1).2) from decide_eq_decide.mpr ⟨fun z => z.2,fun z => ⟨e,z⟩⟩] at k
   exact k
  ·rw [decide_eq_false (fun z => e (decide_eq_true z.1))] at k
   exact k
def tT (cU : Addr) : Sp := fun vs H Q E => ∃ (lu : Addr) (us : List V) (at_ : Nat),vs = [.ref lu,.int (at_ : Int)] ∧ H lu = some (.lst us) ∧ (us.length ≤ 1000000 ∧ Fl us) ∧ at_ ≤ 2000000 ∧ (∀ u,(uA us (at_)) = some u → Q (.int u) H) ∧ ((uA us (at_)) = none → ∀ e,e = at_ → ∀ H' d,Same H H' → H' d = some (.xd [("at",.int (e : Int))]) → E (.ref cU) (some d) H')
theorem KQ : aW ["units", "at"] ["units", "at"] (aq gP) := ⟨rfl,rfl,rfl,by decide +kernel,rfl,by decide +kernel,by decide +kernel⟩
theorem Hi {f fW : Addr} {fd kj : FuncData} (F : fq K "whole_at" "whole_at" gP f fd) (T : Txt K w.params mg) (GW : aY P w K mg base cQ 1 fW kj ["thing"] oN) (kW : KI K fW) (bW : Binds K kj ["thing"] []) (mW : mg "is_whole" = some (.ref fW)) (cx : fz K cU R fI) (kC : KI K cU) (GI : aY P w K mg base cQ 1 fI xA ["self", "at"] (rH cU)) (bI : Binds K xA ["self", "at"] []) (tU : mg "NoUnits" = some (.ref cU)) : aY P w K mg base (eR P w) 3 f fd ["units", "at"] (tT cU) := by
 refine F.Es KQ (fun vs H Q E h => ?_) (fun cdv A outer s H vs Q E hr h => ?_)
 ·obtain ⟨lu,us,a,rfl,_⟩ := h
  rfl
 ·obtain ⟨lu,us,a,rfl,hu,hl,ha,k,hE⟩ := h
  have Ax := hr
  have BX := hr.mono (show 1 ≤ 2 by decide)
  refine ⟨_,(aC (cK (iD (az sT (pv 1) (bf aU (by rfl) T.len cM (af (pv 0) aj)) (aL _)) (eZ (dI (cP (aK GW BX (by rfl) mW kW bW .nil ck (af (aE aQ (pv 0) (pv 1) (fun _ _ => rfl)) aj)))))).pt (aG (d7 cx kC GI bI Ax tU (by rfl) (af (pv 1) aj))) aD)
   (aG (aA (aE aQ (pv 0) (pv 1) (fun _ _ => rfl))))),?_⟩
  refine ⟨_,rfl,_,rfl,lu,_,rfl,.inl (bq.of hu),_,_,rfl,rfl,_,rfl,?_⟩
  refine cB (fun e => ?_) (fun e => ?_)
  ·have e := of_decide_eq_true e
   have hn : (uA us (a)) = none := nM (by omega)
   exact bz rfl ⟨_,rfl,_,rfl,by omega,fun d nd => hE hn a rfl _ d (ae nd) ah⟩
  ·have e : a < us.length := by
    have : ¬ ((us.length : Nat) : Int) ≤ (a : Int) := fun z => e (decide_eq_true z)
    omega
   have hx : us[a]? = some us[a] := List.getElem?_eq_getElem e
   have hv := hl.2.get hx
   generalize us[a] = v at hx hv
   have hat : j4 us (a : Int) = some v := cI hx
   refine ⟨_,rfl,_,rfl,lu,_,_,v,rfl,rfl,bq.of hu,hat,v,rfl,hv,_,rfl,?_⟩
   cases hw : wn v with
   | some u =>
    have hn : uA us a = some u := (mq hx).trans hw
    have hvu : v = .int u := by have := kh hn; rw [hx] at this; cases this; rfl
    refine bY (by simp) ?_
    subst hvu
    exact ⟨_,rfl,_,rfl,lu,_,_,.int u,rfl,rfl,bq.of hu,hat,k u hn⟩
   | none =>
    have hn : uA us a = none := (mq hx).trans hw
    exact bz rfl ⟨_,rfl,_,rfl,by omega,fun d nd => hE hn a rfl _ d (ae nd) ah⟩
def Ay : Sp := fun vs H Q _ => ∃ (q : Addr) (h : Str × Int) (a low : Int),vs = [.ref q,.int a,.int low] ∧ aZ K H q [.str h.1,.int h.2] ∧ h ∈ heads ∧ Q (.bl (fits h a low)) H
theorem EH : aW ["head", "a", "low", "boxes"] ["head", "a", "low"] (aq qq) := ⟨rfl,rfl,rfl,by decide +kernel,rfl,by decide +kernel,by decide +kernel⟩
theorem C9 {f fH : Addr} {fd EA : FuncData} (F : fq K "fits_head" "fits_head" qq f fd) (T : Txt K w.params mg) (GH : aY P w K mg base cQ 1 fH EA ["word"] wZ) (kH : KI K fH) (bH : Binds K EA ["word"] []) (mH : mg "has_far" = some (.ref fH)) : aY P w K mg base cQ 2 f fd ["head", "a", "low"] (Ay (K := K)) := by
 refine F.ok EH (fun vs H Q E h => ?_) (fun cdv A outer s H vs Q E hr h => ?_)
 ·obtain ⟨q,h,a,low,rfl,_⟩ := h
  rfl
 ·obtain ⟨q,h,a,low,rfl,hq,hh,k⟩ := h
  have EI := xv h hh
  obtain ⟨_,hbx⟩ := T.bxs
  obtain ⟨pp,hpp,hpk⟩ := T.prk
  obtain ⟨qk,KR,hqo,Hj⟩ := hpk _ (Au _ EI)
  refine ⟨_,(aC (aF (i := 3) EH.nd rfl (Or.inl rfl) (eP PySem.F.plainAttrs_tuple PySem.F.slot_tuple_count PySem.F.type_tuple_count yK (jc (cu (v := .ref pp) (by rfl) hpp rfl) (aE aN (pv 0) ai (fun _ _ => rfl)) (fun _ _ => rfl)) (af ak aj)))
   (aC (cK (gX (az cw (pv 3) ai (aL _)) (gW (az JO (pv 1) ai (aL _)))).pt (aG (aA iN)) aD)
   (aC (cK (az cw (pv 3) ai (aL _)) (aG (aA (cF jY (pv 2) (cu (v := .int 8) (by rfl) hbx ⟨_,rfl⟩) (aL _)))) aD)
   (aG (aA (zx (cF cw (pv 2) ai (aL _)) (iO (nY (aK GH hr (by rfl) mH kH bH .nil ck (af (aE aN (pv 0) ai (fun _ _ => rfl)) aj)) (iO (cF cw (aE aN (pv 0) ai (fun _ _ => rfl)) ai (aL _))))))))))),?_⟩
  refine ⟨_,rfl,q,_,0,.str h.1,rfl,rfl,hq,at0 _ _,pp,h.1,_,rfl,rfl,KR,.inr (.inl ⟨rfl,hqo⟩),qk,cj h.1, "box",rfl,rfl,Hj _,?_⟩
  unfold fits at k
  generalize (cj h.1).count ("box" : Str) = c at k ⊢
  refine ⟨_,rfl,rfl,_,rfl,?_⟩
  by_cases h0 : c = 0
  ·refine bz (by rw [h0]; decide) ?_
   refine ⟨_,rfl,rfl,_,rfl,?_⟩
   by_cases ha : a = 0
   ·refine bY (by rw [ha]; decide) ?_
    rw [if_neg (fun z => z.2 ha)] at k
    refine ⟨_,rfl,rfl,_,rfl,?_⟩
    by_cases h2 : c = 2
    ·refine bz (by rw [h2]; decide) ?_
     rw [if_pos h2] at k
     exact ⟨_,rfl,_,_,rfl,rfl,k⟩
    ·refine bY (by simp; omega) ?_
     rw [if_neg h2] at k
     refine ⟨_,rfl,rfl,_,rfl,?_⟩
     by_cases hlo : low = 0
     ·refine bz (by rw [hlo]; decide) ?_
      rw [decide_eq_true hlo,Bool.true_or] at k
      exact k
     ·refine bY (by simp [hlo]) ?_
      rw [decide_eq_false hlo,Bool.false_or] at k
      refine ⟨_,rfl,q,_,0,.str h.1,rfl,rfl,hq,at0 _ _,h.1,rfl,EI,_,rfl,?_⟩
      refine cB (fun e => ?_) (fun e => ?_)
      ·rw [e,Bool.true_and] at k
       refine ⟨_,rfl,q,_,1,.int h.2,rfl,rfl,hq,at1 _ _ _,rfl,?_⟩
       rw [show decide (V.int h.2 = V.int 0) = decide (h.2 = 0) from decide_eq_decide.mpr ⟨V.int.inj,fun z => by rw [z]⟩]
       exact k
      ·rw [Bool.eq_false_iff.mpr e,Bool.false_and] at k
       exact k
   ·refine bz (by simp [ha]) ?_
    rw [if_pos ⟨h0,ha⟩] at k
    exact k
  ·refine bY (by simp; omega) ?_
   rw [if_neg (fun z => h0 z.1)] at k
   refine ⟨_,rfl,rfl,_,rfl,?_⟩
   by_cases h2 : c = 2
   ·refine bz (by rw [h2]; decide) ?_
    rw [if_pos h2] at k
    exact ⟨_,rfl,_,_,rfl,rfl,k⟩
   ·refine bY (by simp; omega) ?_
    rw [if_neg h2] at k
    refine ⟨_,rfl,rfl,_,rfl,?_⟩
    by_cases hlo : low = 0
    ·refine bz (by rw [hlo]; decide) ?_
     rw [decide_eq_true hlo,Bool.true_or] at k
     exact k
    ·refine bY (by simp [hlo]) ?_
     rw [decide_eq_false hlo,Bool.false_or] at k
     refine ⟨_,rfl,q,_,0,.str h.1,rfl,rfl,hq,at0 _ _,h.1,rfl,EI,_,rfl,?_⟩
     refine cB (fun e => ?_) (fun e => ?_)
     ·rw [e,Bool.true_and] at k
      refine ⟨_,rfl,q,_,1,.int h.2,rfl,rfl,hq,at1 _ _ _,rfl,?_⟩
      rw [show decide (V.int h.2 = V.int 0) = decide (h.2 = 0) from decide_eq_decide.mpr ⟨V.int.inj,fun z => by rw [z]⟩]
      exact k
     ·rw [Bool.eq_false_iff.mpr e,Bool.false_and] at k
      exact k
end
def wholes (us : List V) : Nat → Nat → Except Nat (List Int)
 | _,0 => .ok []
 | i,k + 1 => match uA us i with
  | none => .error i
  | some x => match wholes us (i + 1) k with
   | .error e => .error e
   | .ok l => .ok (x :: l)
def rN (ns : List Int) : Except Nat (List Int) → Except Nat (List Int)
 | .ok l => .ok (ns ++ l)
 | .error e => .error e
theorem qB {us : List V} {i k : Nat} {x : Int} {ns : List Int} (h : uA us i = some x) : rN ns (wholes us i (k + 1)) = rN (ns ++ [x]) (wholes us (i + 1) k) := by
 show rN ns (match uA us i with | none => .error i | some x => _) = _
 rw [h]
 show rN ns (match wholes us (i + 1) k with | .error e => .error e | .ok l => .ok (x :: l)) = _
 cases wholes us (i + 1) k with
 | error e => rfl
 | ok l => show Except.ok _ = Except.ok _; simp
theorem oO {us : List V} {i k : Nat} {ns : List Int} (h : uA us i = none) : rN ns (wholes us i (k + 1)) = .error i := by
 show rN ns (match uA us i with | none => .error i | some x => _) = _
 rw [h]
 rfl
theorem tV (r : Except Nat (List Int)) : rN [] r = r := by cases r <;> rfl
theorem oQ {us : List V} : ∀ {k i : Nat} {l : List Int},wholes us i k = .ok l → l.length = k
 | 0,i,l,h => by cases h; rfl
 | k + 1,i,l,h => by
  have h : (match uA us i with | none => Except.error i | some x => match wholes us (i + 1) k with | .error e => .error e | .ok l => .ok (x :: l)) = .ok l := h
  cases e : uA us i with
  | none => rw [e] at h; cases h
  | some x =>
   rw [e] at h
   have h : (match wholes us (i + 1) k with | .error e => Except.error e | .ok l => .ok (x :: l)) = .ok l := h
   cases e2 : wholes us (i + 1) k with
   | error e => rw [e2] at h; cases h
   | ok l' => rw [e2] at h; cases h; rw [length_cons,oQ e2]
def tabAt (us : List V) (at_ : Nat) (a : Int) : Except Nat FR := match uA us (at_ + 1) with
 | none => .error (at_ + 1)
 | some n => if 1 ≤ n ∧ n ≤ 16 then (match wholes us (at_ + 2) n.toNat with
  | .error e => .error e
  | .ok l => .ok ⟨"table",[a],l⟩) else .error (at_ + 1)
def numAt (us : List V) (at_ : Nat) (kd : Str) : Except Nat Int := match (uA us (at_)) with
 | none => .error at_
 | some n => if inB kd n = true then .ok n else .error at_
def iL (u : Str) (a d f : Int) : FR := if u ∈ zb then ⟨u,[a,d,f],[d]⟩ else ⟨u,[d,f],[d]⟩
def iX (us : List V) (at_ : Nat) (h : Str × Int) (a low : Int) : Except Nat FR := if h.2 = 0 then .ok (iL h.1 a (low - 64) h.2) else match (uA us (at_ + 1)) with
 | none => .error (at_ + 1)
 | some n => .ok (iL h.1 a n h.2)
def rO (cU : Addr) (e : Nat) (H : Hp) (E : XK) : Prop := ∀ H' d,Same H H' → H' d = some (.xd [("at",.int (e : Int))]) → E (.ref cU) (some d) H'
def jR (cU : Addr) (r : Except Nat FR) (H : Hp) (Q : VK) (E : XK) : Prop := match r with
 | .ok d => ∀ (p : Addr) (H' : Hp),Same H H' → bQ H' p d → Q (.ref p) H'
 | .error e => rO cU e H E
def rP (cU : Addr) (r : Except Nat Int) (H : Hp) (Q : VK) (E : XK) : Prop := match r with
 | .ok n => ∀ H',Same H H' → Q (.int n) H'
 | .error e => rO cU e H E
section
variable {P : Program} {w : World} {K : Frag} {mg : Str → Option Value} {base : Heap}
variable {cU R fI : Addr} {xA : FuncData}
def EJ (cU : Addr) : Sp := fun vs H Q E => ∃ (lu : Addr) (us : List V) (at_ : Nat) (a : Int),vs = [.ref lu,.int (at_ : Int),.int a] ∧ H lu = some (.lst us) ∧ (us.length ≤ 1000000 ∧ Fl us) ∧ at_ ≤ 1000000 ∧ jR cU (tabAt us at_ a) H Q E
theorem EK : aW ["units", "at", "a", "how_many"] ["units", "at", "a"] (aq fA) := ⟨rfl,rfl,rfl,by decide +kernel,rfl,by decide +kernel,by decide +kernel⟩
def Dc : Scope := { kind := .function,names := [(".0",.local),("k",.local),("whole_at",.globalImplicit),("at",.free),("units",.free)],isGenerator := false,isCoroutine := false,more := [] }
theorem xC : dq (aq fA) Dc ["units", "at", "a", "how_many"] ["k", "units", "at"] [none,some 0,some 1] := ⟨rfl,by decide +kernel,by decide +kernel,by decide +kernel,by decide +kernel,by decide +kernel⟩
theorem Hk {f fW : Addr} {fd kj : FuncData} (F : fq K "table_at" "table_at" fA f fd) (T : Txt K w.params mg) (GW : aY P w K mg base (eR P w) 3 fW kj ["units", "at"] (tT cU)) (kW : KI K fW) (bW : Binds K kj ["units", "at"] []) (mW : mg "whole_at" = some (.ref fW)) (cx : fz K cU R fI) (kC : KI K cU) (GI : aY P w K mg base cQ 1 fI xA ["self", "at"] (rH cU)) (bI : Binds K xA ["self", "at"] []) (tU : mg "NoUnits" = some (.ref cU)) : aY P w K mg base (eR P w) 4 f fd ["units", "at", "a"] (EJ cU) := by
 refine F.Es EK (fun vs H Q E h => ?_) (fun cdv A outer s H vs Q E hr h => ?_)
 ·obtain ⟨lu,us,at_,a,rfl,_⟩ := h
  rfl
 ·obtain ⟨lu,us,at_,a,rfl,hu,hl,ha,k⟩ := h
  have BX := hr
  have Ax := hr.mono (show 2 ≤ 3 by decide)
  obtain ⟨_,hmt⟩ := T.mtg
  refine ⟨_,(aC (aF (i := 3) EK.nd rfl (Or.inl rfl) (aK GW BX (by rfl) mW kW bW .nil ia (af (pv 0) (af (au aO (pv 1) ai) aj))))
   (aC (cK (dI (sV jZ jZ ai (pv 3) (cu (v := .int 16) (by rfl) hmt ⟨_,rfl⟩))) (aG (d7 cx kC GI bI Ax tU (by rfl) (af (au aO (pv 1) ai) aj))) aD)
   (aG (aA (aI (af ak (af (pv 2) (af (bA cJ (by rfl) T.tuple eM (af (tM (N' := ["k", "units", "at"]) (fr := [none,some 0,some 1]) xC (dP rfl T.range (af (pv 3) aj)) (fun C s0 H0 fp => (cq (i := 0) xC.nd rfl (Or.inl rfl))) (fun C s0 H0 fp => eI) (fun C s0 H0 fp => (aK GW BX (by rfl) mW kW bW .nil Eu (af (pv 1) (af (au aO (au aO (pv 2) ai) (pv 0)) aj))))) aj)) aj)))))))),?_⟩
  unfold tabAt at k
  refine ⟨_,rfl,_,rfl,_,_,rfl,rfl,lu,us,at_ + 1,rfl,hu,hl,by omega,(fun n hn => ?_),fun hn e he H' d s' hd => ?_⟩
  ·rw [hn] at k
   refine ⟨_,rfl,_,_,rfl,rfl,_,rfl,?_⟩
   have bad : ¬ (1 ≤ n ∧ n ≤ 16) → rO cU (at_ + 1) H E := fun z => by
    have k : jR cU (if 1 ≤ n ∧ n ≤ 16 then _ else .error (at_ + 1)) H Q E := k
    rw [if_neg z] at k
    exact k
   refine cB (fun e1 => ?_) (fun e1 => ?_)
   ·refine ⟨_,_,rfl,rfl,_,rfl,?_⟩
    have e1 := of_decide_eq_true e1
    by_cases e2 : n ≤ 16
    ·refine bY (by simp [e2]) ?_
     have k : jR cU (if 1 ≤ n ∧ n ≤ 16 then (match wholes us (at_ + 2) n.toNat with | .error e => .error e | .ok l => .ok ⟨"table",[a],l⟩) else .error (at_ + 1)) H Q E := k
     rw [if_pos ⟨e1,e2⟩] at k
     have hlen := KL hn
     refine ⟨_,rfl,_,rfl,_,rfl,by omega,by omega,fun D nD => oq (lo := 0) (n := n.toNat) (fun i σ ys G => ∃ (v : Option V) (ns : List Int),σ = [v,some (.ref lu),some (.int (at_ : Int))] ∧ ys = ns.map V.int ∧ ns.length = i ∧ i ≤ n.toNat ∧ wholes us (at_ + 2) n.toNat = rN ns (wholes us (at_ + 2 + i) (n.toNat - i)) ∧ Same H G ∧ G D = some (.lst ys)) ?_ ?_ ?_⟩
     ·exact ⟨none,[],rfl,rfl,rfl,zero_le _,(tV _).symm,ae nD,ah⟩
     ·rintro i σ ys G hi ⟨v,ns,rfl,rfl,hnl,hle,pD,s1,hD⟩
      have e0 : (0 : Int) + (i : Int) = (i : Int) := by omega
      rw [e0]
      have Qo : n.toNat - i = n.toNat - (i + 1) + 1 := by omega
      rw [Qo] at pD
      refine ⟨_,rfl,_,rfl,_,_,rfl,rfl,_,rfl,_,_,rfl,rfl,lu,us,at_ + 2 + i,rfl,s1 _ _ hu,hl,by omega,(fun u huu => ?_),fun hn2 e he H' d s' hd => ?_⟩
      ·rw [qB huu] at pD
       exact ⟨hD,bK (by rw [length_map]; omega),_,ns ++ [u],rfl,by rw [map_append]; rfl,by rw [length_append,hnl]; rfl,by omega,pD,bh s1 nD,ah⟩
      ·rw [oO hn2] at pD
       rw [pD] at k
       have k : rO cU (at_ + 2 + i) H E := k
       refine k H' d (s1.trans s') ?_
       rw [hd,he]
     ·rintro σ ys G ⟨v,ns,rfl,rfl,hnl,hle,pD,s1,hD⟩
      rw [sub_self] at pD
      have pD : wholes us (at_ + 2) n.toNat = .ok ns := by rw [pD]; show Except.ok (ns ++ []) = _; rw [append_nil]
      rw [pD] at k
      have k : ∀ (p : Addr) (H' : Hp),Same H H' → bQ H' p ⟨"table",[a],ns⟩ → Q (.ref p) H' := k
      refine ⟨D,_,rfl,.inl ⟨bq.of hD,fun t nt => ⟨ef,fun p np => ?_⟩⟩⟩
      exact k p _ ((s1.trans (ae nt)).trans (ae np)) (eY ah (ae np _ _ ah))
    ·refine bz (by simp [e2]) ?_
     exact ⟨_,rfl,_,_,rfl,rfl,_,rfl,by omega,fun d nd => bad (fun z => e2 z.2) _ d (ae nd) ah⟩
   ·refine ⟨_,rfl,bz (by decide) ?_⟩
    exact ⟨_,rfl,_,_,rfl,rfl,_,rfl,by omega,fun d nd => bad (fun z => e1 (decide_eq_true z.1)) _ d (ae nd) ah⟩
  ·rw [hn] at k
   have k : rO cU (at_ + 1) H E := k
   rw [he] at hd
   exact k H' d s' hd
def EL (cU : Addr) : Sp := fun vs H Q E => ∃ (lu : Addr) (us : List V) (at_ : Nat) (kd : Str),vs = [.ref lu,.int (at_ : Int),.str kd] ∧ H lu = some (.lst us) ∧ (us.length ≤ 1000000 ∧ Fl us) ∧ at_ ≤ 2000000 ∧ kd ∈ bounds.map (·.1) ∧ rP cU (numAt us at_ kd) H Q E
theorem ER : aW ["units", "at", "kind", "number"] ["units", "at", "kind"] (aq lE) := ⟨rfl,rfl,rfl,by decide +kernel,rfl,by decide +kernel,by decide +kernel⟩
theorem Hl {f fW fN : Addr} {fd kj EV : FuncData} (F : fq K "number_at" "number_at" lE f fd) (T : Txt K w.params mg) (GW : aY P w K mg base (eR P w) 3 fW kj ["units", "at"] (tT cU)) (kW : KI K fW) (bW : Binds K kj ["units", "at"] []) (mW : mg "whole_at" = some (.ref fW)) (GN : aY P w K mg base cQ 2 fN EV ["kind", "thing"] xB) (kN : KI K fN) (bN : Binds K EV ["kind", "thing"] []) (mN : mg "is_number_of" = some (.ref fN)) (cx : fz K cU R fI) (kC : KI K cU) (GI : aY P w K mg base cQ 1 fI xA ["self", "at"] (rH cU)) (bI : Binds K xA ["self", "at"] []) (tU : mg "NoUnits" = some (.ref cU)) : aY P w K mg base (eR P w) 4 f fd ["units", "at", "kind"] (EL cU) := by
 refine F.Es ER (fun vs H Q E h => ?_) (fun cdv A outer s H vs Q E hr h => ?_)
 ·obtain ⟨lu,us,at_,kd,rfl,_⟩ := h
  rfl
 ·obtain ⟨lu,us,at_,kd,rfl,hu,hl,ha,hk,k⟩ := h
  have BX := hr
  have hrN := hr.mono (show 2 ≤ 3 by decide)
  have Ax := hr.mono (show 2 ≤ 3 by decide)
  refine ⟨_,(aC (aF (i := 3) ER.nd rfl (Or.inl rfl) (aK GW BX (by rfl) mW kW bW .nil ia (af (pv 0) (af (pv 1) aj))))
   (aC (cK (dI (cP (aK GN hrN (by rfl) mN kN bN .nil ck (af (pv 2) (af (pv 3) aj))))) (aG (d7 cx kC GI bI Ax tU (by rfl) (af (pv 1) aj))) aD)
   (aG (aA (pv 3))))),?_⟩
  unfold numAt at k
  refine ⟨_,rfl,_,rfl,lu,us,at_,rfl,hu,hl,ha,(fun n hn => ?_),fun hn e he H' d s' hd => ?_⟩
  ·rw [hn] at k
   refine ⟨_,rfl,_,rfl,kd,n,rfl,hk,_,rfl,?_⟩
   cases hb : inB kd n with
   | true =>
    have k : rP cU (if inB kd n = true then .ok n else .error at_) H Q E := k
    rw [if_pos hb] at k
    exact bY (by decide) ⟨_,rfl,k _ (.refl _)⟩
   | false =>
    have k : rP cU (if inB kd n = true then .ok n else .error at_) H Q E := k
    rw [if_neg (by rw [hb]; decide)] at k
    exact bz rfl ⟨_,rfl,_,rfl,by omega,fun d nd => k _ d (ae nd) ah⟩
  ·rw [hn] at k
   rw [he] at hd
   exact k H' d s' hd
def eT (us : List V) (at_ : Nat) (kd : Str) (a : Int) : Except Nat Int := if kd = "box" then .ok a else numAt us (at_ + 1) kd
def EW (cU : Addr) : Sp := fun vs H Q E => ∃ (lu : Addr) (us : List V) (at_ : Nat) (kd : Str) (a : Int),vs = [.ref lu,.int (at_ : Int),.str kd,.int a] ∧ H lu = some (.lst us) ∧ (us.length ≤ 1000000 ∧ Fl us) ∧ at_ ≤ 1000000 ∧ kd ∈ bounds.map (·.1) ∧ rP cU (eT us at_ kd a) H Q E
theorem KS : aW ["units", "at", "kind", "a"] ["units", "at", "kind", "a"] (aq jm) := ⟨rfl,rfl,rfl,by decide +kernel,rfl,by decide +kernel,by decide +kernel⟩
theorem Hm {f fN : Addr} {fd EV : FuncData} (F : fq K "part_at" "part_at" jm f fd) (T : Txt K w.params mg) (GN : aY P w K mg base (eR P w) 4 fN EV ["units", "at", "kind"] (EL cU)) (kN : KI K fN) (bN : Binds K EV ["units", "at", "kind"] []) (mN : mg "number_at" = some (.ref fN)) : aY P w K mg base (eR P w) 5 f fd ["units", "at", "kind", "a"] (EW cU) := by
 refine F.Es KS (fun vs H Q E h => ?_) (fun cdv A outer s H vs Q E hr h => ?_)
 ·obtain ⟨lu,us,at_,kd,a,rfl,_⟩ := h
  rfl
 ·obtain ⟨lu,us,at_,kd,a,rfl,hu,hl,ha,hk,k⟩ := h
  refine ⟨_,(aC (cK (az cw (pv 2) ak (aL _)) (aG (aA (pv 3))) aD)
   (aG (aA (aK GN hr (by rfl) mN kN bN .nil ia (af (pv 0) (af (au aO (pv 1) ai) (af (pv 2) aj))))))),?_⟩
  unfold eT at k
  refine ⟨_,rfl,rfl,_,rfl,?_⟩
  refine cB (fun e => ?_) (fun e => ?_)
  ·rw [if_pos (strEq e)] at k
   exact ⟨_,rfl,k _ (.refl _)⟩
  ·rw [if_neg (jJ e)] at k
   exact ⟨_,rfl,_,rfl,_,_,rfl,rfl,_,rfl,lu,us,at_ + 1,kd,rfl,hu,hl,by omega,hk,k⟩
theorem kl {H : Hp} {q : Addr} {u : Str} {a d f : Int} (hu : u ∈ five) (h : H q = some (.tup (if u ∈ zb then [.str u,.int a,.int d,.int f] else [.str u,.int d,.int f]))) : bQ H q (iL u a d f) := by
 unfold iL
 by_cases z : u ∈ zb
 ·rw [if_pos z] at h ⊢
  exact lK z h
 ·rw [if_neg z] at h ⊢
  exact ig ((by decide +kernel : ∀ u ∈ five,¬ u ∈ zb → u ∈ eS) u hu z) h
def EX (cU : Addr) : Sp := fun vs H Q E => ∃ (lu qh : Addr) (us : List V) (at_ : Nat) (h : Str × Int) (a low : Int),vs = [.ref lu,.int (at_ : Int),.ref qh,.int a,.int low] ∧ H lu = some (.lst us) ∧ (us.length ≤ 1000000 ∧ Fl us) ∧ at_ ≤ 1000000 ∧ (∀ H,aZ K H qh [.str h.1,.int h.2]) ∧ h.1 ∈ five ∧ jR cU (iX us at_ h a low) H Q E
theorem Az : aW ["units", "at", "head", "a", "low", "distance", "boxes"] ["units", "at", "head", "a", "low"] (aq jn) := ⟨rfl,rfl,rfl,by decide +kernel,rfl,by decide +kernel,by decide +kernel⟩
theorem Hn {f fW : Addr} {fd kj : FuncData} (F : fq K "jump_at" "jump_at" jn f fd) (T : Txt K w.params mg) (GW : aY P w K mg base (eR P w) 3 fW kj ["units", "at"] (tT cU)) (kW : KI K fW) (bW : Binds K kj ["units", "at"] []) (mW : mg "whole_at" = some (.ref fW)) : aY P w K mg base (eR P w) 4 f fd ["units", "at", "head", "a", "low"] (EX (K := K) cU) := by
 refine F.Es Az (fun vs H Q E h => ?_) (fun cdv A outer s H vs Q E hr h => ?_)
 ·obtain ⟨lu,qh,us,at_,h,a,low,rfl,_⟩ := h
  rfl
 ·obtain ⟨lu,qh,us,at_,h,a,low,rfl,hu,hl,ha,hq,h5,k⟩ := h
  obtain ⟨_,hsa⟩ := T.sad
  obtain ⟨pp,hpp,hpk⟩ := T.Qd
  have EI : h.1 ∈ bu := (by decide +kernel : ∀ u ∈ five,u ∈ bu) _ h5
  obtain ⟨qk,KR,Hj⟩ := hpk _ (Au _ EI)
  refine ⟨_,(aC (aF (i := 5) Az.nd rfl (Or.inl rfl) (zR (jW (az cw (aE aN (pv 2) ai (fun _ _ => rfl)) ai (aL _)) (au dU (pv 4) (cu (v := .int 64) (by rfl) hsa ⟨_,rfl⟩)) (aK GW hr (by rfl) mW kW bW .nil ia (af (pv 0) (af (au aO (pv 1) ai) aj))))))
   (aC (aF (i := 6) Az.nd rfl (Or.inl rfl) (jW (az bg ak (jc (cu (v := .ref pp) (by rfl) hpp rfl) (aE aN (pv 2) ai (fun _ _ => rfl)) (fun _ _ => rfl)) rfl) (aI (af (pv 3) aj)) (aI aj)))
   (aG (aA (au gZ (au gZ (aI (af (aE aN (pv 2) ai (fun _ _ => rfl)) aj)) (pv 6)) (aI (af (pv 5) (af (aE aN (pv 2) ai (fun _ _ => rfl)) aj)))))))),?_⟩
  unfold iX at k
  have fin : ∀ (dd : Int),(∀ (p : Addr) (H' : Hp),Same H H' → bQ H' p (iL h.1 a dd h.2) → Q (.ref p) H') → True := fun _ _ => trivial
  refine ⟨fun v G => ∃ dd,v = .int dd ∧ G = H ∧ ∀ (p : Addr) (H' : Hp),Same H H' → bQ H' p (iL h.1 a dd h.2) → Q (.ref p) H',?_,?_⟩
  ·refine ⟨_,rfl,qh,_,0 + 1,.int h.2,rfl,rfl,hq _,at1 _ _ _,rfl,_,rfl,?_⟩
   by_cases h0 : h.2 = 0
   ·rw [if_pos h0] at k
    refine bz (by rw [h0]; decide) ?_
    exact ⟨_,rfl,_,_,rfl,rfl,low - 64,rfl,rfl,k⟩
   ·rw [if_neg h0] at k
    refine bY (by simp [h0]) ?_
    refine ⟨_,rfl,_,rfl,_,_,rfl,rfl,lu,us,at_ + 1,rfl,hu,hl,by omega,(fun n hn => ?_),fun hn e he H' d s' hd => ?_⟩
    ·rw [hn] at k
     exact ⟨n,rfl,rfl,k⟩
    ·rw [hn] at k
     rw [he] at hd
     exact k H' d s' hd
  rintro v G ⟨dd,rfl,hG,kk⟩
  subst hG
  refine ⟨_,rfl,qh,_,0,.str h.1,rfl,rfl,hq _,at0 _ _,pp,h.1,_,rfl,rfl,KR,qk,(cj h.1).map V.str,rfl,.inr (Hj _),rfl,(by rw [all_map]; exact all_eq_true.mpr fun _ _ => rfl),_,rfl,?_⟩
  rw [show inV (.str "box") ((cj h.1).map V.str) = decide (("box" : Str) ∈ cj h.1) from bt _ _,show decide (("box" : Str) ∈ cj h.1) = decide (h.1 ∈ zb) from (by decide +kernel : ∀ u ∈ five,decide (("box" : Str) ∈ cj u) = decide (u ∈ zb)) _ h5]
  by_cases z : h.1 ∈ zb
  ·refine bz (decide_eq_true z) ?_
   refine ⟨_,rfl,dD,fun t1 qA => ?_⟩
   refine ⟨_,rfl,qh,_,0,.str h.1,rfl,rfl,hq _,at0 _ _,dD,fun t2 gg => ⟨_,rfl,t2,t1,[V.str h.1],[V.int a],rfl,rfl,aZ.of ah,aZ.of (ae gg _ _ ah),cons_ne_nil _ _,aJ,fun y => absurd y (cons_ne_nil _ _),fun _ t3 uH => ?_⟩⟩
   refine ⟨_,rfl,_,rfl,qh,_,1,.int h.2,rfl,rfl,hq _,at1 _ _ _,aJ,fun t4 zq => ⟨t3,t4,[V.str h.1,V.int a],[V.int dd,V.int h.2],rfl,rfl,aZ.of (ae zq _ _ ah),aZ.of ah,cons_ne_nil _ _,ke,fun y => absurd y (cons_ne_nil _ _),fun _ t5 BV => ?_⟩⟩
   refine kk t5 _ ((((ae qA).trans (ae gg)).trans (ae uH)).trans ((ae zq).trans (ae BV))) (kl h5 ?_)
   rw [if_pos z]
   exact ah
  ·refine bY (fun y => z (of_decide_eq_true y)) ?_
   refine ⟨le_of_ble_eq_true rfl,fun t1 qA => ?_⟩
   refine ⟨_,rfl,qh,_,0,.str h.1,rfl,rfl,hq _,at0 _ _,dD,fun t2 gg => ⟨_,rfl,t2,t1,[V.str h.1],[],rfl,rfl,aZ.of ah,aZ.of (ae gg _ _ ah),cons_ne_nil _ _,dD,(fun _ => ?_),fun y => absurd rfl y⟩⟩
   refine ⟨_,rfl,_,rfl,qh,_,1,.int h.2,rfl,rfl,hq _,at1 _ _ _,aJ,fun t4 zq => ⟨t2,t4,[V.str h.1],[V.int dd,V.int h.2],rfl,rfl,aZ.of (ae zq _ _ ah),aZ.of ah,cons_ne_nil _ _,ef,fun y => absurd y (cons_ne_nil _ _),fun _ t5 BV => ?_⟩⟩
   refine kk t5 _ (((ae qA).trans (ae gg)).trans ((ae zq).trans (ae BV))) (kl h5 ?_)
   rw [if_neg z]
   exact ah
end
def cW (us : List V) (at_ : Nat) (a : Int) : List Str → Except Nat (List Int)
 | [] => .ok []
 | kd :: ks => match eT us at_ kd a with
  | .error e => .error e
  | .ok n => match cW us at_ a ks with
   | .error e => .error e
   | .ok l => .ok (n :: l)
def vE (ns : List Int) : Except Nat (List Int) → Except Nat (List Int)
 | .ok l => .ok (ns ++ l)
 | .error e => .error e
def eV (us : List V) (at_ : Nat) (h : Str × Int) (a low : Int) : Except Nat FR :=
 if fits h a low = true then (if h.1 = "table" then tabAt us at_ a else if h.1 ∈ five then iX us at_ h a low else if h.1 ∈ w2 then .ok ⟨h.1,[a,low],[]⟩ else match cW us at_ a (cj h.1) with
  | .ok l => .ok ⟨h.1,l,[]⟩
  | .error e => .error e) else .error at_
def rowAt (us : List V) (at_ : Nat) : Except Nat FR := match (uA us (at_)) with
 | none => .error at_
 | some u => if 0 ≤ u ∧ u < 25600 then (match heads[(u / 1024).toNat]? with
  | none => .error at_
  | some h => eV us at_ h (u % 1024 / 128) (u % 128)) else .error at_
theorem AA {us : List V} {at_ : Nat} {a n : Int} {ns : List Int} {kd : Str} {ks : List Str} (h : eT us at_ kd a = .ok n) : vE ns (cW us at_ a (kd :: ks)) = vE (ns ++ [n]) (cW us at_ a ks) := by
 show vE ns (match eT us at_ kd a with | .error e => .error e | .ok n => _) = _
 rw [h]
 show vE ns (match cW us at_ a ks with | .error e => .error e | .ok l => .ok (n :: l)) = _
 cases cW us at_ a ks with
 | error e => rfl
 | ok l => show Except.ok _ = Except.ok _; simp
theorem Dd {us : List V} {at_ : Nat} {a : Int} {ns : List Int} {kd : Str} {ks : List Str} {e : Nat} (h : eT us at_ kd a = .error e) : vE ns (cW us at_ a (kd :: ks)) = .error e := by
 show vE ns (match eT us at_ kd a with | .error e => .error e | .ok n => _) = _
 rw [h]
 rfl
theorem De {l : List Int} (h : l.length = 2) : ∃ b c,l = [b,c] := by
 match l,h with
 | [b,c],_ => exact ⟨b,c,rfl⟩
theorem lL {H : Hp} {q : Addr} {u : Str} {is : List Int} (hu : oJ u) (hl : is.length = vA u) (h : H q = some (.tup (.str u :: is.map V.int))) : bQ H q ⟨u,is,[]⟩ := by
 refine ⟨⟨hu.1,fun z => absurd z hu.2.1,fun z => absurd z hu.2.2.1,fun z => absurd z hu.2.2.2,fun _ _ _ => ⟨rfl,hl⟩,fun z => ?_,fun z => ?_⟩,.inr ⟨hu.2.1,h⟩⟩
 ·exact De (hl.trans ((by decide +kernel : ∀ u ∈ w2,vA u = 2) u z))
 ·have : 1 ≤ is.length := by rw [hl]; exact (by decide +kernel : ∀ u ∈ w1,1 ≤ vA u) u z
  match is,this with
  | b :: r,_ => exact ⟨b,r,rfl⟩
theorem xD (K : Frag) {H : Hp} {p : Addr} {ss : List Str} (h : aZ K H p (ss.map V.str)) : eK K H (.ref p) (.tup (ss.map Da.str)) := by
 refine .tup h (by rw [length_map,length_map]) fun i x d g1 g2 => ?_
 rw [List.getElem?_map] at g1 g2
 obtain ⟨j,hj,rfl⟩ := map_eq_some_iff.mp g1
 rw [hj] at g2
 cases g2
 exact .str _
theorem xE (ss : List Str) : (Da.tup (ss.map Da.str)).Nb 1 := .tup fun d hd => by
 obtain ⟨j,_,rfl⟩ := mem_map.mp hd
 exact .str
theorem AB {a b : List Str} (h : Da.tup (a.map Da.str) = Da.tup (b.map Da.str)) : a = b := by
 injection h with h
 exact (List.map_inj_right (fun x y z => by injection z)).mp h
theorem AF : ∀ h ∈ heads,¬ h.1 = "table" → ¬ h.1 ∈ five → (cj h.1 = (["box", "box"] : List Str) ↔ h.1 ∈ w2) ∧ oJ h.1 ∧ (¬ h.1 ∈ w2 → ∀ k ∈ cj h.1,k ∈ bounds.map (·.1)) ∧ (cj h.1).length ≤ 3 := by decide +kernel
section
variable {P : Program} {w : World} {K : Frag} {mg : Str → Option Value} {base : Heap}
variable {cU R fI : Addr} {xA : FuncData}
def EY (cU : Addr) : Sp := fun vs H Q E => ∃ (lu : Addr) (us : List V) (at_ : Nat),vs = [.ref lu,.int (at_ : Int)] ∧ H lu = some (.lst us) ∧ (us.length ≤ 1000000 ∧ Fl us) ∧ at_ ≤ 1000000 ∧ jR cU (rowAt us at_) H Q E
theorem qC : aW ["units", "at", "unit", "head", "a", "low", "kinds"] ["units", "at"] (aq iT) := ⟨rfl,rfl,rfl,by decide +kernel,rfl,by decide +kernel,by decide +kernel⟩
def Df : Scope := { kind := .function,names := [(".0",.local),("kind",.local),("part_at",.globalImplicit),("a",.free),("at",.free),("units",.free)],isGenerator := false,isCoroutine := false,more := [] }
theorem xF : dq (aq iT) Df ["units", "at", "unit", "head", "a", "low", "kinds"] ["kind", "units", "at", "a"] [none,some 0,some 1,some 4] := ⟨rfl,by decide +kernel,by decide +kernel,by decide +kernel,by decide +kernel,by decide +kernel⟩
theorem Ho {f fW fF fT fH fJ fP : Addr} {fd kj EZ xc EA fdJ KU : FuncData} (F : fq K "row_at" "row_at" iT f fd) (T : Txt K w.params mg) (GW : aY P w K mg base (eR P w) 3 fW kj ["units", "at"] (tT cU)) (kW : KI K fW) (bW : Binds K kj ["units", "at"] []) (mW : mg "whole_at" = some (.ref fW)) (GF : aY P w K mg base cQ 2 fF EZ ["head", "a", "low"] (Ay (K := K))) (kF : KI K fF) (bF : Binds K EZ ["head", "a", "low"] []) (mF : mg "fits_head" = some (.ref fF)) (GT : aY P w K mg base (eR P w) 4 fT xc ["units", "at", "a"] (EJ cU)) (kT : KI K fT) (bT : Binds K xc ["units", "at", "a"] []) (mT : mg "table_at" = some (.ref fT)) (GH : aY P w K mg base cQ 1 fH EA ["word"] wZ) (kH : KI K fH) (bH : Binds K EA ["word"] []) (mH : mg "has_far" = some (.ref fH)) (GJ : aY P w K mg base (eR P w) 4 fJ fdJ ["units", "at", "head", "a", "low"] (EX (K := K) cU)) (kJ : KI K fJ) (bJ : Binds K fdJ ["units", "at", "head", "a", "low"] []) (mJ : mg "jump_at" = some (.ref fJ)) (GP : aY P w K mg base (eR P w) 5 fP KU ["units", "at", "kind", "a"] (EW cU)) (kP : KI K fP) (bP : Binds K KU ["units", "at", "kind", "a"] []) (mP : mg "part_at" = some (.ref fP)) (cx : fz K cU R fI) (kC : KI K cU) (GI : aY P w K mg base cQ 1 fI xA ["self", "at"] (rH cU)) (bI : Binds K xA ["self", "at"] []) (tU : mg "NoUnits" = some (.ref cU)) : aY P w K mg base (eR P w) 6 f fd ["units", "at"] (EY cU) := by
 refine F.Es qC (fun vs H Q E h => ?_) (fun cdv A outer s H vs Q E hr h => ?_)
 ·obtain ⟨lu,us,at_,rfl,_⟩ := h
  rfl
 ·obtain ⟨lu,us,at_,rfl,hu,hl,ha,k⟩ := h
  have hrP : dW 5 (A.deeper (PyProof.Rows.envOfC "row_at" (aq iT) s.heap.objs.size f cdv)) := hr
  have BX := hr.mono (show 3 ≤ _ by decide)
  have hrT := hr.mono (show 4 ≤ _ by decide)
  have hrF := hr.mono (show 2 ≤ _ by decide)
  have Ax := hr.mono (show 2 ≤ _ by decide)
  have hrH := hr.mono (show 1 ≤ _ by decide)
  have hu0 := hr.u 6
  obtain ⟨_,hcs⟩ := T.cst
  obtain ⟨_,hbs⟩ := T.bst
  obtain ⟨ph,qs,hph,hqs,hql,hqa⟩ := T.hdq
  obtain ⟨pp,hpp,hpk⟩ := T.Qd
  refine ⟨_,(aC (aF (i := 2) qC.nd rfl (Or.inl rfl) (aK GW BX (by rfl) mW kW bW .nil ia (af (pv 0) (af (pv 1) aj))))
   (aC (cK (dI (sV jZ jY ai (pv 2) (au cS (bf aU (by rfl) T.len cM (af (cu (v := .ref ph) (by rfl) hph rfl) aj)) (cu (v := .int 1024) (by rfl) hcs ⟨_,rfl⟩)))) (aG (d7 cx kC GI bI Ax tU (by rfl) (af (pv 1) aj))) aD)
   (aC (aF (i := 3) qC.nd rfl (Or.inl rfl) (aE aN (cu (v := .ref ph) (by rfl) hph rfl) (au bM (pv 2) (cu (v := .int 1024) (by rfl) hcs ⟨_,rfl⟩)) (fun _ _ => rfl)))
   (aC (aF (i := 4) qC.nd rfl (Or.inr rfl) (au bM (au bV (pv 2) (cu (v := .int 1024) (by rfl) hcs ⟨_,rfl⟩)) (cu (v := .int 128) (by rfl) hbs ⟨_,rfl⟩)))
   (aC (aF (i := 5) qC.nd rfl (Or.inl rfl) (au bV (pv 2) (cu (v := .int 128) (by rfl) hbs ⟨_,rfl⟩)))
   (aC (cK (dI (cP (aK GF hrF (by rfl) mF kF bF .nil ck (af (pv 3) (af (pv 4) (af (pv 5) aj)))))) (aG (d7 cx kC GI bI Ax tU (by rfl) (af (pv 1) aj))) aD)
   (aC (cK (az cw (aE aN (pv 3) ai (fun _ _ => rfl)) ak (aL _)) (aG (aA (aK GT hrT (by rfl) mT kT bT .nil ia (af (pv 0) (af (pv 1) (af (pv 4) aj)))))) aD)
   (aC (cK (cP (aK GH hrH (by rfl) mH kH bH .nil ck (af (aE aN (pv 3) ai (fun _ _ => rfl)) aj))) (aG (aA (aK GJ hrT (by rfl) mJ kJ bJ .nil ia (af (pv 0) (af (pv 1) (af (pv 3) (af (pv 4) (af (pv 5) aj)))))))) aD)
   (aC (aF (i := 6) qC.nd rfl (Or.inl rfl) (jc (cu (v := .ref pp) (by rfl) hpp rfl) (aE aN (pv 3) ai (fun _ _ => rfl)) (fun _ _ => rfl)))
   (aC (cK (az (vh hu0) (pv 6) (aI (af ak (af ak aj))) (aL _)) (aG (aA (aI (af (aE aN (pv 3) ai (fun _ _ => rfl)) (af (pv 4) (af (pv 5) aj)))))) aD)
   (aG (aA (au gZ (aI (af (aE aN (pv 3) ai (fun _ _ => rfl)) aj)) (bA cJ (by rfl) T.tuple eM (af (tM (N' := ["kind", "units", "at", "a"]) (fr := [none,some 0,some 1,some 4]) xF (qR (pv 6)) (fun C s0 H0 fp => (cq (i := 0) xF.nd rfl (Or.inl rfl))) (fun C s0 H0 fp => eI) (fun C s0 H0 fp => (aK GP hrP (by rfl) mP kP bP .nil Eu (af (pv 1) (af (pv 2) (af (pv 0) (af (pv 3) aj))))))) aj))))))))))))))),?_⟩
  unfold rowAt at k
  refine ⟨_,rfl,_,rfl,lu,us,at_,rfl,hu,hl,by omega,(fun u hn => ?_),fun hn e he H' d s' hd => ?_⟩
  ·rw [hn] at k
   have k : jR cU (if 0 ≤ u ∧ u < 25600 then (match heads[(u / 1024).toNat]? with | none => .error at_ | some h => eV us at_ h (u % 1024 / 128) (u % 128)) else .error at_) H Q E := k
   have bad : ¬ (0 ≤ u ∧ u < 25600) → rO cU at_ H E := fun z => by
    rw [if_neg z] at k
    exact k
   refine ⟨_,rfl,_,_,rfl,rfl,_,rfl,?_⟩
   refine cB (fun e1 => ?_) (fun e1 => ?_)
   ·have e1 := of_decide_eq_true e1
    refine ⟨ph,_,rfl,.inr (hqs _),_,_,rfl,rfl,.inr ⟨by decide,by decide⟩,_,_,rfl,rfl,_,rfl,?_⟩
    rw [length_map,hql]
    by_cases e2 : u < 25600
    ·refine bY (by have : decide (u < ((heads.length : Nat) : Int) * 1024) = true := decide_eq_true (by show u < 25 * 1024; omega); rw [this]; decide) ?_
     rw [if_pos ⟨e1,e2⟩] at k
     have hj : (u / 1024).toNat < heads.length := by show _ < 25; omega
     have hh : heads[(u / 1024).toNat]? = some heads[(u / 1024).toNat] := List.getElem?_eq_getElem hj
     have hmem := List.getElem_mem hj
     generalize heads[(u / 1024).toNat] = h at hh hmem
     rw [hh] at k
     have k : jR cU (eV us at_ h (u % 1024 / 128) (u % 128)) H Q E := k
     have Qp : qs[(u / 1024).toNat]? = some (qs[(u / 1024).toNat]'(by rw [hql]; exact hj)) := List.getElem?_eq_getElem _
     generalize qs[(u / 1024).toNat]'(by rw [hql]; exact hj) = qh at Qp
     have hq := hqa _ qh h Qp hh
     have hat : j4 (qs.map V.ref) (u / 1024) = some (.ref qh) := by
      rw [show u / 1024 = (((u / 1024).toNat : Nat) : Int) by omega]
      exact cI (by rw [List.getElem?_map,Qp]; rfl)
     have EI := xv h hmem
     refine ⟨_,rfl,_,_,rfl,rfl,⟨by show (0 : Int) < 1024; decide,by show (1024 : Int) < _; decide⟩,ph,_,_,.ref qh,rfl,rfl,hqs _,hat,?_⟩
     refine ⟨_,rfl,_,_,rfl,rfl,CZ,_,_,rfl,rfl,⟨by show (0 : Int) < 128; decide,by show (128 : Int) < _; decide⟩,?_⟩
     refine ⟨_,rfl,_,_,rfl,rfl,Ab,?_⟩
     refine ⟨_,rfl,_,rfl,_,rfl,qh,h,_,_,rfl,hq _,hmem,_,rfl,?_⟩
     unfold eV at k
     cases hf : fits h (u % 1024 / 128) (u % 128) with
     | false =>
      rw [if_neg (by rw [hf]; decide)] at k
      exact bz rfl ⟨_,rfl,_,rfl,by omega,fun d nd => k _ d (ae nd) ah⟩
     | true =>
      rw [if_pos hf] at k
      refine bY (by decide) ?_
      refine ⟨_,rfl,qh,_,0,.str h.1,rfl,rfl,hq _,at0 _ _,rfl,_,rfl,?_⟩
      refine cB (fun et => ?_) (fun et => ?_)
      ·rw [if_pos (strEq et)] at k
       exact ⟨_,rfl,_,rfl,_,rfl,lu,us,at_,_,rfl,hu,hl,ha,k⟩
      ·have et := jJ et
       rw [if_neg et] at k
       refine ⟨_,rfl,qh,_,0,.str h.1,rfl,rfl,hq _,at0 _ _,h.1,rfl,EI,_,rfl,?_⟩
       refine cB (fun e5 => ?_) (fun e5 => ?_)
       ·rw [if_pos (of_decide_eq_true e5)] at k
        exact ⟨_,rfl,_,rfl,_,rfl,_,rfl,_,rfl,lu,qh,us,at_,h,_,_,rfl,hu,hl,ha,hq,of_decide_eq_true e5,k⟩
       ·have e5 : ¬ h.1 ∈ five := fun z => e5 (decide_eq_true z)
        rw [if_neg e5] at k
        obtain ⟨hw,hpl,hbd,hk3⟩ := AF h hmem et e5
        obtain ⟨qk,KR,Hj⟩ := hpk _ (Au _ EI)
        refine ⟨_,rfl,qh,_,0,.str h.1,rfl,rfl,hq _,at0 _ _,pp,h.1,_,rfl,rfl,KR,?_⟩
        refine ⟨_,rfl,aJ,fun t0 Aj => ?_⟩
        have s0 := ae (o := .tup [V.str "box",V.str "box"]) Aj
        have z0 : upd H t0 (.tup [V.str "box",V.str "box"]) t0 = _ := ah
        generalize upd H t0 (.tup [V.str "box",V.str "box"]) = G0 at s0 z0 ⊢
        refine ⟨1,qk,t0,_,_,rfl,rfl,xD K (Hj _),xD K (ss := ["box", "box"]) (aZ.of z0),xE _,xE _,by decide,_,rfl,?_⟩
        by_cases Jj : h.1 ∈ w2
        ·rw [if_pos Jj] at k
         refine bz (by rw [Bool.false_xor]; exact decide_eq_true (by show Da.tup ((cj h.1).map Da.str) = _; rw [hw.mpr Jj])) ?_
         refine ⟨_,rfl,qh,_,0,.str h.1,rfl,rfl,hq _,at0 _ _,_,rfl,_,rfl,ef,fun p np => ?_⟩
         exact k p _ (s0.trans (ae np)) (lL (is := [u % 1024 / 128,u % 128]) hpl ((by decide +kernel : ∀ u ∈ w2,2 = vA u) _ Jj) ah)
        ·rw [if_neg Jj] at k
         refine bY (by rw [Bool.false_xor]; exact fun z => Jj (hw.mp (AB (of_decide_eq_true z)))) ?_
         refine ⟨_,rfl,qh,_,0,.str h.1,rfl,rfl,hq _,at0 _ _,dD,fun t1 qA => ?_⟩
         have s1 := s0.trans (ae (o := .tup [V.str h.1]) qA)
         have z1 : upd G0 t1 (.tup [V.str h.1]) t1 = _ := ah
         generalize upd G0 t1 (.tup [V.str h.1]) = G1 at s1 z1 ⊢
         refine ⟨_,rfl,qk,rfl,⟨_,Hj _⟩,fun D nD => kc (K := K) (a := qk) (xs := (cj h.1).map V.str) (fun i σ ys G => ∃ (v : Option V) (ns : List Int),σ = [v,some (.ref lu),some (.int (at_ : Int)),some (.int (u % 1024 / 128))] ∧ ys = ns.map V.int ∧ ns.length = i ∧ cW us at_ (u % 1024 / 128) (cj h.1) = vE ns (cW us at_ (u % 1024 / 128) ((cj h.1).drop i)) ∧ Same G1 G ∧ G D = some (.lst ys)) ?_ ?_ ?_ ?_⟩
         ·refine ⟨none,[],rfl,rfl,rfl,?_,ae nD,ah⟩
          rw [drop_zero]
          cases cW us at_ (u % 1024 / 128) (cj h.1) <;> rfl
         ·rintro i σ ys G _ ⟨v,ns,rfl,rfl,_,_,s2,_⟩
          exact Hj _
         ·rintro i x σ ys G hx ⟨v,ns,rfl,rfl,hnl,hpa,s2,hD⟩
          rw [List.getElem?_map] at hx
          obtain ⟨kd,hkd,rfl⟩ := map_eq_some_iff.mp hx
          have hil := (List.getElem?_eq_some_iff.mp hkd).1
          have hdr : (cj h.1).drop i = kd :: (cj h.1).drop (i + 1) := by rw [List.drop_eq_getElem_cons hil,(List.getElem?_eq_some_iff.mp hkd).2]
          have s12 := s1.trans s2
          refine ⟨_,rfl,_,rfl,_,rfl,_,rfl,lu,us,at_,kd,_,rfl,s12 _ _ hu,hl,ha,hbd Jj kd (List.mem_of_getElem? hkd),?_⟩
          rw [hdr] at hpa
          cases hp : eT us at_ kd (u % 1024 / 128) with
          | ok n =>
           rw [AA hp] at hpa
           intro G3 s3
           refine ⟨s3 _ _ hD,bK (by rw [length_map]; omega),_,ns ++ [n],rfl,by rw [map_append]; rfl,by rw [length_append,hnl]; rfl,hpa,bh (s2.trans s3) nD,ah⟩
          | error e =>
           rw [Dd hp] at hpa
           rw [hpa] at k
           intro H' d s' hd
           exact k H' d (s12.trans s') hd
         ·rintro σ ys G ⟨v,ns,rfl,rfl,hnl,hpa,s2,hD⟩
          rw [length_map] at hnl hpa
          rw [drop_length] at hpa
          have hpa : cW us at_ (u % 1024 / 128) (cj h.1) = .ok ns := by rw [hpa]; show Except.ok (ns ++ []) = _; rw [append_nil]
          rw [hpa] at k
          have k : ∀ (p : Addr) (H' : Hp),Same H H' → bQ H' p ⟨h.1,ns,[]⟩ → Q (.ref p) H' := k
          refine ⟨D,_,rfl,.inl ⟨bq.of hD,fun t2 gg => ?_⟩⟩
          have s3 := (s1.trans s2).trans (ae (o := .tup (ns.map V.int)) gg)
          have z13 := ae (o := .tup (ns.map V.int)) gg _ _ (s2 _ _ z1)
          refine ⟨t1,t2,[V.str h.1],ns.map V.int,rfl,rfl,aZ.of z13,aZ.of ah,cons_ne_nil _ _,er (by rw [length_map]; show 1 + ns.length ≤ 1000000; omega),(fun hy => ?_),fun _ p np => ?_⟩
          ·refine k t1 _ s3 (lL hpl hnl ?_)
           rw [z13,hy]
          ·exact k p _ (s3.trans (ae np)) (lL hpl hnl ah)
    ·refine bz (by have : decide (u < ((heads.length : Nat) : Int) * 1024) = false := decide_eq_false (by show ¬ u < 25 * 1024; omega); rw [this]; decide) ?_
     exact ⟨_,rfl,_,rfl,by omega,fun d nd => bad (fun z => e2 z.2) _ d (ae nd) ah⟩
   ·refine ⟨_,rfl,bz (by decide) ?_⟩
    exact ⟨_,rfl,_,rfl,by omega,fun d nd => bad (fun z => e1 (decide_eq_true z.1)) _ d (ae nd) ah⟩
  ·rw [hn] at k
   rw [he] at hd
   exact k H' d s' hd
end
def cA (us : List V) : Nat → Nat → Except Nat (List FR)
 | 0,_ => .ok []
 | f + 1,at_ => if us.length ≤ at_ then .ok [] else match rowAt us at_ with
  | .error e => .error e
  | .ok d => match cA us f (at_ + (gE d).toNat) with
   | .error e => .error e
   | .ok l => .ok (d :: l)
def gR (ds : List FR) : Except Nat (List FR) → Except Nat (List FR)
 | .ok l => .ok (ds ++ l)
 | .error e => .error e
theorem lM {us : List V} {f at_ : Nat} (h : us.length ≤ at_) : cA us f at_ = .ok [] := by
 cases f with
 | zero => rfl
 | succ f => show (if us.length ≤ at_ then _ else _) = _; rw [if_pos h]
theorem tW {us : List V} {f at_ : Nat} {d : FR} {ds : List FR} (h : ¬ us.length ≤ at_) (hd : rowAt us at_ = .ok d) : gR ds (cA us (f + 1) at_) = gR (ds ++ [d]) (cA us f (at_ + (gE d).toNat)) := by
 show gR ds (if us.length ≤ at_ then _ else match rowAt us at_ with | .error e => .error e | .ok d => _) = _
 rw [if_neg h,hd]
 show gR ds (match cA us f (at_ + (gE d).toNat) with | .error e => .error e | .ok l => .ok (d :: l)) = _
 cases cA us f (at_ + (gE d).toNat) with
 | error e => rfl
 | ok l => show Except.ok _ = Except.ok _; simp
theorem qD {us : List V} {f at_ e : Nat} {ds : List FR} (h : ¬ us.length ≤ at_) (hd : rowAt us at_ = .error e) : gR ds (cA us (f + 1) at_) = .error e := by
 show gR ds (if us.length ≤ at_ then _ else match rowAt us at_ with | .error e => .error e | .ok d => _) = _
 rw [if_neg h,hd]
 rfl
theorem Hq (u : Str) (a d f : Int) : (iL u a d f).u = u := by unfold iL; split <;> rfl
theorem tX (u : Str) (a d f : Int) : dt (iL u a d f) = f := by unfold iL dt; split <;> rfl
theorem Dg (u : Str) (a d f : Int) : (iL u a d f).ts = [d] := by unfold iL; split <;> rfl
theorem Hr {us : List V} {at_ : Nat} {h : Str × Int} {a low : Int} {d : FR} (h1 : h ∈ heads) (e : iX us at_ h a low = .ok d) : fM d ∧ d.ts.length ≤ 16 := by
 have h01 := (by decide +kernel : ∀ h ∈ heads,h.2 = 0 ∨ h.2 = 1) h h1
 have key : ∀ n,d = iL h.1 a n h.2 → fM d ∧ d.ts.length ≤ 16 := fun n z => by
  rw [z]
  exact ⟨fun _ => by rw [tX]; exact h01,by rw [Dg]; exact (by decide : 1 ≤ 16)⟩
 unfold iX at e
 by_cases z : h.2 = 0
 ·rw [if_pos z] at e
  cases e
  exact key _ rfl
 ·rw [if_neg z] at e
  cases hn : (uA us (at_ + 1)) with
  | none => rw [hn] at e; cases e
  | some n =>
   rw [hn] at e
   cases e
   exact key _ rfl
theorem vF {us : List V} {at_ : Nat} {d : FR} (e : rowAt us at_ = .ok d) : fM d ∧ d.ts.length ≤ 16 := by
 unfold rowAt at e
 cases hn : (uA us (at_)) with
 | none => rw [hn] at e; cases e
 | some u =>
  rw [hn] at e
  have e : (if 0 ≤ u ∧ u < 25600 then (match heads[(u / 1024).toNat]? with | none => .error at_ | some h => eV us at_ h (u % 1024 / 128) (u % 128)) else .error at_) = Except.ok d := e
  split at e
  ·cases hh : heads[(u / 1024).toNat]? with
   | none => rw [hh] at e; cases e
   | some h =>
    rw [hh] at e
    have hm := List.mem_of_getElem? hh
    have e : eV us at_ h (u % 1024 / 128) (u % 128) = .ok d := e
    unfold eV at e
    split at e
    ·split at e
     ·unfold tabAt at e
      cases hk : (uA us (at_ + 1)) with
      | none => rw [hk] at e; cases e
      | some n =>
       rw [hk] at e
       have e : (if 1 ≤ n ∧ n ≤ 16 then (match wholes us (at_ + 2) n.toNat with | .error e => .error e | .ok l => .ok ⟨"table",[u % 1024 / 128],l⟩) else .error (at_ + 1)) = Except.ok d := e
       split at e
       ·rename_i hn16
        cases hw : wholes us (at_ + 2) n.toNat with
        | error x => rw [hw] at e; cases e
        | ok l =>
         rw [hw] at e
         cases e
         exact ⟨fun z => absurd z (by show ¬ ("table" : Str) ∈ five; decide),by show l.length ≤ 16; rw [oQ hw]; omega⟩
       ·cases e
     ·split at e
      ·exact Hr hm e
      ·rename_i h5
       split at e
       ·cases e
        exact ⟨fun z => absurd z h5,zero_le _⟩
       ·cases hp : cW us at_ (u % 1024 / 128) (cj h.1) with
        | error x => rw [hp] at e; cases e
        | ok l =>
         rw [hp] at e
         cases e
         exact ⟨fun z => absurd z h5,zero_le _⟩
    ·cases e
  ·cases e
theorem km {d : FR} (h : fM d) : 1 ≤ gE d := by
 unfold gE
 split
 ·omega
 ·split
  ·rename_i h1 h2
   rcases h h2 with z | z <;> omega
  ·split <;> omega
def rQ (cU : Addr) (r : Except Nat (List FR)) (H : Hp) (Q : VK) (E : XK) : Prop := match r with
 | .ok ds => ∀ (l : Addr) (H' : Hp),Same H H' → H l = none → dZ H' l ds → Q (.ref l) H'
 | .error e => rO cU e H E
def d4 (d : FR) (ts : List Int) : FR := if d.u = "table" then ⟨"table",d.is,ts⟩ else if d.u ∈ eS then ⟨d.u,[ts.headD 0,dt d],[ts.headD 0]⟩ else if d.u ∈ zb then ⟨d.u,[d.is.headD 0,ts.headD 0,dt d],[ts.headD 0]⟩ else d
section
variable {P : Program} {w : World} {K : Frag} {mg : Str → Option Value} {base : Heap}
variable {cU R fI : Addr} {xA : FuncData}
def AG : Sp := fun vs H Q _ => ∃ (q : Addr) (d : FR),vs = [.ref q] ∧ bQ H q d ∧ Q (.bl (!decide (d.u ∈ dE))) H
theorem KW : aW ["row"] ["row"] (aq ji) := ⟨rfl,rfl,rfl,by decide +kernel,rfl,by decide +kernel,by decide +kernel⟩
theorem Dh {f : Addr} {fd : FuncData} (F : fq K "goes_on" "goes_on" ji f fd) (T : Txt K w.params mg) : aY P w K mg base cQ 1 f fd ["row"] AG := by
 refine F.ok KW (fun vs H Q E h => ?_) (fun cdv A outer s H vs Q E hr h => ?_)
 ·obtain ⟨q,d,rfl,_⟩ := h
  rfl
 ·obtain ⟨q,d,rfl,hR,k⟩ := h
  obtain ⟨pn,hpn,hnS⟩ := T.non
  obtain ⟨items,i1,_⟩ := hR.parts
  refine ⟨_,(aG (aA (cF hU (aE aN (pv 0) ai (fun _ _ => rfl)) (cu (v := .ref pn) (by rfl) hpn rfl) rfl))),?_⟩
  refine ⟨_,rfl,q,_,0,_,rfl,rfl,aZ.of i1,at0 _ _,pn,dE.map V.str,rfl,.inr (hnS _),rfl,rfl,?_⟩
  rw [show inV (.str d.u) (dE.map V.str) = decide (d.u ∈ dE) from bt _ _]
  exact k
def xG : Sp := fun vs H Q _ => ∃ (q lt : Addr) (d : FR) (ts : List Int),vs = [.ref q,.ref lt] ∧ bQ H q d ∧ H lt = some (.lst (ts.map V.int)) ∧ ts.length = d.ts.length ∧ ∀ (p : Addr) (H' : Hp),Same H H' → bQ H' p (d4 d ts) → Q (.ref p) H'
theorem E1 : aW ["row", "targets", "word"] ["row", "targets"] (aq lC) := ⟨rfl,rfl,rfl,by decide +kernel,rfl,by decide +kernel,by decide +kernel⟩
theorem AH {f : Addr} {fd : FuncData} (F : fq K "with_targets" "with_targets" lC f fd) (T : Txt K w.params mg) : aY P w K mg base cQ 1 f fd ["row", "targets"] xG := by
 refine F.ok E1 (fun vs H Q E h => ?_) (fun cdv A outer s H vs Q E hr h => ?_)
 ·obtain ⟨q,lt,d,ts,rfl,_⟩ := h
  rfl
 ·obtain ⟨q,lt,d,ts,rfl,hR,ht,htl,k⟩ := h
  obtain ⟨items,i1,_⟩ := hR.parts
  refine ⟨_,(aC (aF (i := 2) E1.nd rfl (Or.inl rfl) (aE aN (pv 0) ai (fun _ _ => rfl)))
   (aC (cK (az cw (pv 2) ak (aL _)) (aG (aA (aI (af (pv 2) (af (aE aN (pv 0) ai (fun _ _ => rfl)) (af (bA cJ (by rfl) T.tuple eM (af (pv 1) aj)) aj)))))) aD)
   (aC (cK (az bg (pv 2) (aI (af ak (af ak (af ak aj)))) rfl) (aG (aA (aI (af (pv 2) (af (aE aQ (pv 1) ai (fun _ _ => rfl)) (af (aE aN (pv 0) ai (fun _ _ => rfl)) aj)))))) aD)
   (aC (cK (az bg (pv 2) (aI (af ak (af ak aj))) rfl) (aG (aA (aI (af (pv 2) (af (aE aN (pv 0) ai (fun _ _ => rfl)) (af (aE aQ (pv 1) ai (fun _ _ => rfl)) (af (aE aN (pv 0) ai (fun _ _ => rfl)) aj))))))) aD)
   (aG (aA (pv 0))))))),?_⟩
  unfold d4 at k
  refine ⟨_,rfl,q,_,0,.str d.u,rfl,rfl,aZ.of i1,at0 _ _,_,rfl,rfl,_,rfl,?_⟩
  refine cB (fun e => ?_) (fun e => ?_)
  ·have e := strEq e
   rw [if_pos e] at k
   rcases hR.2 with ⟨_,b,p,KY,g1,g2⟩ | ⟨a,_⟩
   ·refine ⟨_,rfl,_,rfl,q,_,1,.int b,rfl,rfl,aZ.of g1,at1 _ _ _,_,rfl,lt,_,rfl,.inl ⟨bq.of ht,fun t nt => ⟨ef,fun p' np => ?_⟩⟩⟩
    rw [KY,] at k
    refine k p' _ ((ae nt).trans (ae np)) (eY ?_ (ae np _ _ ah))
    rw [ah,e]
   ·exact absurd e a
  ·have e := jJ e
   rw [if_neg e] at k
   refine ⟨_,rfl,ef,fun t0 Aj => ⟨t0,eS.map V.str,rfl,.inr (aZ.of ah),rfl,rfl,_,rfl,?_⟩⟩
   have s0 := ae (o := .tup [V.str "jump",V.str "call",V.str "mark"]) Aj
   rw [show inV (.str d.u) (eS.map V.str) = decide (d.u ∈ eS) from bt _ _]
   generalize upd H t0 (.tup [V.str "jump",V.str "call",V.str "mark"]) = G0 at s0 ⊢
   refine cB (fun ej => ?_) (fun ej => ?_)
   ·have ej := of_decide_eq_true ej
    rw [if_pos ej] at k
    obtain ⟨tt,ff,e1,e2⟩ := hR.1.2.2.1 ej
    rw [e2] at htl
    obtain ⟨x,hx⟩ := length_eq_one_iff.mp htl
    subst hx
    rcases hR.2 with ⟨a,_⟩ | ⟨_,g1⟩
    ·exact absurd a e
    have Hs : H q = some (.tup [.str d.u,.int tt,.int ff]) := by rw [g1,e1]; rfl
    refine ⟨_,rfl,_,rfl,lt,_,0,.int x,rfl,rfl,bq.of (s0 _ _ ht),at0 _ _,_,rfl,q,_,2,.int ff,rfl,rfl,aZ.of (s0 _ _ Hs),at2 _ _ _ _,ef,fun p np => ?_⟩
    have hf : dt d = ff := by unfold dt; rw [e1]; rfl
    rw [hf] at k
    exact k p _ (s0.trans (ae np)) (ig ej ah)
   ·have ej : ¬ d.u ∈ eS := fun z => ej (decide_eq_true z)
    rw [if_neg ej] at k
    refine ⟨_,rfl,aJ,fun t1 qA => ⟨t1,zb.map V.str,rfl,.inr (aZ.of ah),rfl,rfl,_,rfl,?_⟩⟩
    have s1 := s0.trans (ae (o := .tup [V.str "zero",V.str "below"]) qA)
    rw [show inV (.str d.u) (zb.map V.str) = decide (d.u ∈ zb) from bt _ _]
    generalize upd G0 t1 (.tup [V.str "zero",V.str "below"]) = G1 at s1 ⊢
    refine cB (fun ez => ?_) (fun ez => ?_)
    ·have ez := of_decide_eq_true ez
     rw [if_pos ez] at k
     obtain ⟨bb,tt,ff,e1,e2⟩ := hR.1.2.2.2.1 ez
     rw [e2] at htl
     obtain ⟨x,hx⟩ := length_eq_one_iff.mp htl
     subst hx
     rcases hR.2 with ⟨a,_⟩ | ⟨_,g1⟩
     ·exact absurd a e
     have Hs : H q = some (.tup [.str d.u,.int bb,.int tt,.int ff]) := by rw [g1,e1]; rfl
     refine ⟨_,rfl,_,rfl,q,_,1,.int bb,rfl,rfl,aZ.of (s1 _ _ Hs),at1 _ _ _,_,rfl,lt,_,0,.int x,rfl,rfl,bq.of (s1 _ _ ht),at0 _ _,_,rfl,q,_,3,.int ff,rfl,rfl,aZ.of (s1 _ _ Hs),rfl,ke,fun p np => ?_⟩
     have hf : dt d = ff := by unfold dt; rw [e1]; rfl
     rw [hf,e1] at k
     exact k p _ (s1.trans (ae np)) (lK ez ah)
    ·rw [if_neg (fun z => ez (decide_eq_true z))] at k
     exact ⟨_,rfl,k q _ s1 (hR.same s1)⟩
def E2 (cU : Addr) : Sp := fun vs H Q E => ∃ (lu : Addr) (us : List V),vs = [.ref lu] ∧ H lu = some (.lst us) ∧ (us.length ≤ 100000 ∧ Fl us) ∧ rQ cU (cA us (us.length + 1) 0) H Q E
theorem xH : aW ["units", "rows", "at"] ["units"] (aq jo) := ⟨rfl,rfl,rfl,by decide +kernel,rfl,by decide +kernel,by decide +kernel⟩
theorem Ht {f fR fS : Addr} {fd xl w4 : FuncData} (F : fq K "rows_with_distances" "rows_with_distances" jo f fd) (T : Txt K w.params mg) (GR : aY P w K mg base (eR P w) 6 fR xl ["units", "at"] (EY cU)) (kR : KI K fR) (bR : Binds K xl ["units", "at"] []) (mR : mg "row_at" = some (.ref fR)) (GS : aY P w K mg base cQ 2 fS w4 ["row"] vC) (kS : KI K fS) (bS : Binds K w4 ["row"] []) (mS : mg "size_of" = some (.ref fS)) : aY P w K mg base (eR P w) 7 f fd ["units"] (E2 cU) := by
 refine F.Es xH (fun vs H Q E h => ?_) (fun cdv A outer s H vs Q E hr h => ?_)
 ·obtain ⟨lu,us,rfl,_⟩ := h
  rfl
 ·obtain ⟨lu,us,rfl,hu,hl,k⟩ := h
  have hrS := hr.mono (show 2 ≤ _ by decide)
  refine ⟨_,(aC (aF (i := 1) xH.nd rfl (Or.inl rfl) (bw aj))
   (aC (aF (i := 2) xH.nd rfl (Or.inl rfl) ai)
   (aC (jX PassesOwn.leaving (az jY (pv 2) (bf aU (by rfl) T.len cM (af (pv 0) aj)) (aL _)) (aC (cV (eP PySem.F.plainAttrs_list PySem.F.slot_list_append PySem.F.type_list_append cG (pv 1) (af (aK GR hr (by rfl) mR kR bR .nil ia (af (pv 0) (af (pv 2) aj))) aj)))
   (aG (aF (i := 2) xH.nd rfl (Or.inl rfl) (au aO (pv 2) (aK GS hrS (by rfl) mS kS bS .nil ck (af (aE aQ (pv 1) (dQ cT ai) (fun _ _ => rfl)) aj)))))))
   (aG (aA (pv 1)))))),?_⟩
  refine ⟨le_of_ble_eq_true rfl,fun la mn => ?_⟩
  have s0 := ae (o := .lst []) mn
  have h0 : upd H la (.lst []) la = some (.lst (([] : List Addr).map V.ref)) := ah
  generalize upd H la (.lst []) = G0 at s0 h0 ⊢
  refine ⟨fun mm σ G => ∃ (at_ : Nat) (qs : List Addr) (ds : List FR),σ = [some (.ref lu),some (.ref la),some (.int (at_ : Int))] ∧ Same H G ∧ G la = some (.lst (qs.map V.ref)) ∧ (qs.length = ds.length ∧ ∀ (i : Nat) q d,qs[i]? = some q → ds[i]? = some d → bQ G q d) ∧ cA us (us.length + 1) 0 = gR ds (cA us mm at_) ∧ us.length < at_ + mm ∧ ds.length ≤ at_ ∧ (ds.length ≤ us.length),⟨us.length + 1,0,[],[],rfl,s0,h0,⟨rfl,fun i q d g => by simp at g⟩,?_,by omega,zero_le _,zero_le _⟩,?_⟩
  ·cases cA us (us.length + 1) 0 <;> rfl
  rintro mm σ G ⟨at_,qs,ds,rfl,s1,hla,hR,hrd,hf,hda,hdu⟩
  refine ⟨_,rfl,_,rfl,lu,_,rfl,.inl (bq.of (s1 _ _ hu)),_,_,rfl,rfl,_,rfl,?_⟩
  refine cB (fun e => ?_) (fun e => ?_)
  ·have e := of_decide_eq_true e
   have hlt : at_ < us.length := by omega
   have KZ : ¬ us.length ≤ at_ := by omega
   obtain ⟨f0,rfl⟩ : ∃ f0,mm = f0 + 1 := ⟨mm - 1,by omega⟩
   refine ⟨fun σ' G' => ∃ (at2 : Nat) (qs : List Addr) (ds : List FR),σ' = [some (.ref lu),some (.ref la),some (.int (at2 : Int))] ∧ Same H G' ∧ G' la = some (.lst (qs.map V.ref)) ∧ (qs.length = ds.length ∧ ∀ (i : Nat) q d,qs[i]? = some q → ds[i]? = some d → bQ G' q d) ∧ cA us (us.length + 1) 0 = gR ds (cA us f0 at2) ∧ us.length < at2 + f0 ∧ ds.length ≤ at2 ∧ ds.length ≤ us.length,?_,?_⟩
   ·rintro σ' G' ⟨at2,qs,ds,rfl,a1,a2,a3,a4,a5,a6,a7⟩
    exact ⟨f0,by omega,at2,qs,ds,rfl,a1,a2,a3,a4,a5,a6,a7⟩
   refine ⟨_,rfl,.inl ⟨rfl,_,bq.of hla⟩,_,rfl,_,rfl,lu,us,at_,rfl,s1 _ _ hu,⟨by omega,hl.2⟩,by omega,?_⟩
   cases hrow : rowAt us at_ with
   | error e' =>
    rw [qD KZ hrow] at hrd
    rw [hrd] at k
    intro H' d s' hd
    exact k H' d (s1.trans s') hd
   | ok d =>
    rw [tW KZ hrow] at hrd
    have hsz := km (vF hrow).1
    intro p G2 s2 hp
    have Hu := s2 _ _ hla
    refine ⟨la,_,_,rfl,rfl,Hu,bK (by rw [length_map,hR.1]; omega),?_⟩
    have eQ : qs.map V.ref ++ [V.ref p] = (qs ++ [p]).map V.ref := by rw [map_append]; rfl
    rw [eQ]
    have hp3 : bQ (upd G2 la (.lst ((qs ++ [p]).map V.ref))) p d := hp.put Hu
    refine ⟨_,rfl,_,rfl,_,rfl,la,_,-1,.ref p,rfl,rfl,bq.of ah,Ae (by rw [length_map,length_append,length_singleton,List.getElem?_map]; simp),p,d,rfl,hp3,_,_,rfl,rfl,?_⟩
    obtain ⟨sn,hsn⟩ := Int.eq_ofNat_of_zero_le (show 0 ≤ gE d by omega)
    rw [hsn] at hsz
    refine ⟨at_ + sn,qs ++ [p],ds ++ [d],by show _ = [some (V.ref lu),some (V.ref la),some (V.int ((at_ + sn : Nat) : Int))]; rw [hsn]; rfl,bh (s1.trans s2) mn,ah,⟨by rw [length_append,length_append,hR.1]; rfl,fun i q d' g1 g2 => ?_⟩,?_,by omega,by rw [length_append]; show ds.length + 1 ≤ _; omega,by rw [length_append]; show ds.length + 1 ≤ _; omega⟩
    ·by_cases hi : i < qs.length
     ·rw [List.getElem?_append_left hi] at g1
      rw [List.getElem?_append_left (by rw [← hR.1]; exact hi)] at g2
      exact ((hR.2 i q d' g1 g2).same s2).put Hu
     ·have h9 := (List.getElem?_eq_some_iff.mp g1).1
      rw [length_append,length_singleton] at h9
      have ei : i = qs.length := by omega
      subst ei
      rw [show (qs ++ [p])[qs.length]? = some p by simp] at g1
      rw [hR.1,show (ds ++ [d])[ds.length]? = some d by simp] at g2
      cases g1
      cases g2
      exact hp3
    ·rw [hrd,hsn]
     rfl
  ·have e : us.length ≤ at_ := by
    have : ¬ (at_ : Int) < ((us.length : Nat) : Int) := fun z => e (decide_eq_true z)
    omega
   rw [lM e] at hrd
   have hrd : cA us (us.length + 1) 0 = .ok ds := by rw [hrd]; show Except.ok (ds ++ []) = _; rw [append_nil]
   rw [hrd] at k
   exact ⟨_,rfl,k la _ s1 mn ⟨qs,hla,hR.1,hR.2⟩⟩
end
theorem rR {X : Cx} {K : Frag} (hK : X.K = K) {i j : Nat} {x y : Str} {px py pt : Pos} {k : Nat} (hc : X.calm = true) (hN : X.N.Nodup) (hi : X.N[i]? = some x) (hx : Loc X.env.scope x) (hj : X.N[j]? = some y) (hy : Loc X.env.scope y)
  (hf : X.fn x = true ∨ X.env.scope.names.lookup x = some .local := by first | exact .inl rfl | exact .inr rfl) (hf2 : X.fn y = true ∨ X.env.scope.names.lookup y = some .local := by first | exact .inl rfl | exact .inr rfl) :
  PG X (.Tuple [.Name x px,.Name y py] k pt) (JI K 2 (zy (n4 i) (zy (n4 j) JH))) := hK ▸ qP (n := 2) hc (dA (cq hN hi hx hf) (dA (cq hN hj hy hf2) nA))
def sO (ds : List FR) : Nat → Int → Option Nat
 | 0,_ => none
 | n + 1,x => if beg ds n = x then some n else sO ds n x
def rS : Option Nat → V
 | none => .non
 | some r => .int (r : Int)
def iM (ds : List FR) (n r : Nat) (d : FR) : List (Option Nat) := d.ts.map fun x => sO ds n (beg ds (r + 1) + x)
def eC (ds : List FR) (r : Nat) (d : FR) : Bool := decide (none ∈ iM ds ds.length r d) || (decide (r + 1 = ds.length) && !decide (d.u ∈ dE))
def kn (ds : List FR) (r : Nat) (d : FR) : FR := d4 d ((iM ds ds.length r d).map fun o => ((o.getD 0 : Nat) : Int))
def eE (ds : List FR) : Nat → List FR → Except Nat (List FR)
 | _,[] => .ok []
 | r,d :: l => if eC ds r d = true then .error (beg ds r).toNat else match eE ds (r + 1) l with
  | .error e => .error e
  | .ok m => .ok (kn ds r d :: m)
def dH (us : List V) : Except Nat (List FR) := if us = [] then .error 0 else match cA us (us.length + 1) 0 with
 | .error e => .error e
 | .ok ds => eE ds 0 ds
theorem xI (os : List (Option Nat)) : inV .non (os.map rS) = decide (none ∈ os) := by
 induction os with
 | nil => rfl
 | cons o os ih =>
  unfold inV at ih ⊢
  rw [map_cons,any_cons,ih]
  cases o with
  | none => simp [rS,BP]
  | some r => simp [rS,BP]
theorem nO : ∀ {os : List (Option Nat)},¬ none ∈ os → os.map rS = (os.map fun o => ((o.getD 0 : Nat) : Int)).map V.int
 | [],_ => rfl
 | none :: os,h => absurd (mem_cons_self ..) h
 | some r :: os,h => by
  rw [map_cons,map_cons,map_cons,nO (fun z => h (List.mem_cons_of_mem _ z))]
  rfl
theorem AI {ds : List FR} {r : Nat} {d : FR} {l m : List FR} (h : eC ds r d = false) : gR m (eE ds r (d :: l)) = gR (m ++ [kn ds r d]) (eE ds (r + 1) l) := by
 show gR m (if eC ds r d = true then _ else match eE ds (r + 1) l with | .error e => .error e | .ok k => .ok (kn ds r d :: k)) = _
 rw [if_neg (by rw [h]; decide)]
 cases eE ds (r + 1) l with
 | error e => rfl
 | ok k => show Except.ok _ = Except.ok _; simp
theorem xJ {ds : List FR} {r : Nat} {d : FR} {l m : List FR} (h : eC ds r d = true) : gR m (eE ds r (d :: l)) = .error (beg ds r).toNat := by
 show gR m (if eC ds r d = true then _ else _) = _
 rw [if_pos h]
 rfl
theorem qE {us : List V} : ∀ (f at_ : Nat) (ds : List FR),cA us f at_ = .ok ds → ∀ d ∈ ds,fM d ∧ d.ts.length ≤ 16
 | 0,_,ds,h => by cases h; exact fun d hd => (not_mem_nil hd).elim
 | f + 1,at_,ds,h => by
  have h : (if us.length ≤ at_ then .ok [] else match rowAt us at_ with | .error e => .error e | .ok d => match cA us f (at_ + (gE d).toNat) with | .error e => .error e | .ok l => .ok (d :: l)) = Except.ok ds := h
  split at h
  ·cases h
   exact fun d hd => (not_mem_nil hd).elim
  ·cases hr : rowAt us at_ with
   | error e => rw [hr] at h; cases h
   | ok d =>
    rw [hr] at h
    have h : (match cA us f (at_ + (gE d).toNat) with | .error e => .error e | .ok l => .ok (d :: l)) = Except.ok ds := h
    cases hl : cA us f (at_ + (gE d).toNat) with
    | error e => rw [hl] at h; cases h
    | ok l =>
     rw [hl] at h
     cases h
     intro x hx
     rcases mem_cons.mp hx with rfl | hx
     ·exact vF hr
     ·exact qE f _ l hl x hx
theorem lN {us : List V} : ∀ (f at_ : Nat) (ds : List FR),cA us f at_ = .ok ds → ds.length ≤ f
 | 0,_,ds,h => by cases h; exact le_refl _
 | f + 1,at_,ds,h => by
  have h : (if us.length ≤ at_ then .ok [] else match rowAt us at_ with | .error e => .error e | .ok d => match cA us f (at_ + (gE d).toNat) with | .error e => .error e | .ok l => .ok (d :: l)) = Except.ok ds := h
  split at h
  ·cases h
   exact zero_le _
  ·cases hr : rowAt us at_ with
   | error e => rw [hr] at h; cases h
   | ok d =>
    rw [hr] at h
    have h : (match cA us f (at_ + (gE d).toNat) with | .error e => .error e | .ok l => .ok (d :: l)) = Except.ok ds := h
    cases hl : cA us f (at_ + (gE d).toNat) with
    | error e => rw [hl] at h; cases h
    | ok l =>
     rw [hl] at h
     cases h
     have := lN f _ l hl
     rw [length_cons]
     omega
theorem jz {ds : List FR} (h : ∀ d ∈ ds,fM d ∧ d.ts.length ≤ 16) : ∀ j,j ≤ ds.length → 0 ≤ beg ds j ∧ beg ds j ≤ 18 * (j : Int)
 | 0,_ => by simp [beg]
 | j + 1,hj => by
  have ih := jz h j (by omega)
  have hd : ds[j]? = some ds[j] := List.getElem?_eq_getElem (by omega)
  have hf := h ds[j] (List.getElem_mem _)
  have h1 := km hf.1
  have h2 : gE ds[j] ≤ 18 := by
   unfold gE
   split
   ·have := hf.2; omega
   ·split
    ·rename_i a b
     rcases hf.1 b with z | z <;> omega
    ·split <;> omega
  rw [dY hd]
  push_cast
  omega
def mr (G G' : Hp) (la : Addr) : Prop := ∀ a o,G a = some o → a ≠ la → G' a = some o
theorem bQ.keep {G G' : Hp} {la q : Addr} {d : FR} {xs : List V} (h : bQ G q d) (kk : mr G G' la) (hl : G la = some (.lst xs)) : bQ G' q d := by
 have ne : ∀ (a : Addr) (ys : List V),G a = some (.tup ys) → a ≠ la := fun a ys e z => by rw [z,hl] at e; cases e
 refine ⟨h.1,?_⟩
 rcases h.2 with ⟨a,b,p,e,h1,h2⟩ | ⟨a,h1⟩
 ·exact .inl ⟨a,b,p,e,kk _ _ h1 (ne _ _ h1),kk _ _ h2 (ne _ _ h2)⟩
 ·exact .inr ⟨a,kk _ _ h1 (ne _ _ h1)⟩
theorem nQ (o : Option Nat) : (o.map fun r : Nat => V.int (r : Int)).getD .non = rS o := by cases o <;> rfl
section
variable {P : Program} {w : World} {K : Frag} {mg : Str → Option Value} {base : Heap}
variable {cU R fI : Addr} {xA : FuncData}
def E3 (cU : Addr) : Sp := fun vs H Q E => (∃ (lu : Addr) (us : List V),vs = [.ref lu] ∧ H lu = some (.lst us) ∧ (us.length ≤ 50000 ∧ Fl us) ∧ rQ cU (dH us) H Q E) ∨ (∃ (v : V) (t : Value),vs = [v] ∧ iI K H v t ∧ kitOne K t (.type "list") = some false ∧ rO cU 0 H E)
theorem mw : aW ["units", "rows", "begins", "numbers", "r", "read", "row", "targets"] ["units"] (aq ib) := ⟨rfl,rfl,rfl,by decide +kernel,rfl,by decide +kernel,by decide +kernel⟩
def Di : Scope := { kind := .function,names := [(".0",.local),("distance",.local),("begins",.free),("numbers",.free),("r",.free)],isGenerator := false,isCoroutine := false,more := [] }
theorem xK : dq (aq ib) Di ["units", "rows", "begins", "numbers", "r", "read", "row", "targets"] ["distance", "numbers", "begins", "r"] [none,some 3,some 2,some 4] := ⟨rfl,by decide +kernel,by decide +kernel,by decide +kernel,by decide +kernel,by decide +kernel⟩
theorem Hv {f fR fB fT fO fW : Addr} {fd xl K0 xc fdO kj : FuncData} (F : fq K "rows_of_units" "rows_of_units" ib f fd) (T : Txt K w.params mg) (GR : aY P w K mg base (eR P w) 7 fR xl ["units"] (E2 cU)) (kR : KI K fR) (bR : Binds K xl ["units"] []) (mR : mg "rows_with_distances" = some (.ref fR)) (GB : aY P w K mg base cQ 3 fB K0 ["rows"] tR) (kB : KI K fB) (bB : Binds K K0 ["rows"] []) (mB : mg "begins_of" = some (.ref fB)) (GT : aY P w K mg base cQ 1 fT xc ["row"] qx) (kT : KI K fT) (bT : Binds K xc ["row"] []) (mT : mg "targets_of" = some (.ref fT)) (GO : aY P w K mg base cQ 1 fO fdO ["row"] AG) (kO : KI K fO) (bO : Binds K fdO ["row"] []) (mO : mg "goes_on" = some (.ref fO)) (GW : aY P w K mg base cQ 1 fW kj ["row", "targets"] xG) (kW : KI K fW) (bW : Binds K kj ["row", "targets"] []) (mW : mg "with_targets" = some (.ref fW)) (cx : fz K cU R fI) (kC : KI K cU) (GI : aY P w K mg base cQ 1 fI xA ["self", "at"] (rH cU)) (bI : Binds K xA ["self", "at"] []) (tU : mg "NoUnits" = some (.ref cU)) : aY P w K mg base (eR P w) 8 f fd ["units"] (E3 (K := K) cU) := by
 refine F.Es mw (fun vs H Q E h => ?_) (fun cdv A outer s H vs Q E hr h => ?_)
 ·rcases h with ⟨lu,us,rfl,_⟩ | ⟨v,t,rfl,_⟩ <;> rfl
 ·have hrB := hr.mono (show 3 ≤ _ by decide)
  have Qq := hr.mono (show 1 ≤ _ by decide)
  have Ax := hr.mono (show 2 ≤ _ by decide)
  have hu1 := hr.u 1
  have hu' := hu1
  refine ⟨_,(aC (cK (iD (dI (cP (bf dR (by rfl) T.C0 ie (af (pv 0) (af (gU (v := .ty "list") (by rfl) T.list jw rfl) aj))))) (eZ (az cw (bf aU (by rfl) T.len cM (af (pv 0) aj)) ai (aL _)))).pt (aG (d7 cx kC GI bI Ax tU (by rfl) (af ai aj))) aD)
   (aC (aF (i := 1) mw.nd rfl (Or.inl rfl) (aK GR hr (by rfl) mR kR bR .nil ia (af (pv 0) aj)))
   (aC (aF (i := 2) mw.nd rfl (Or.inr rfl) (aK GB hrB (by rfl) mB kB bB .nil ck (af (pv 1) aj)))
   (aC (aF (i := 3) mw.nd rfl (Or.inr rfl) zL)
   (aC (fc PassesOwn.leaving rfl (dP rfl T.range (af (bf aU (by rfl) T.len cM (af (pv 1) aj)) aj)) (cq (i := 4) mw.nd rfl (Or.inr rfl)) (aG (Cq hu1 (pv 3) (aE aQ (pv 2) (pv 4) (fun _ _ => rfl)) (pv 4) rfl)))
   (aC (aF (i := 5) mw.nd rfl (Or.inl rfl) (bw aj))
   (aC (fc PassesOwn.leaving rfl (nE rfl T.enum (af (pv 1) aj)) (rR (K := K) (i := 4) (j := 6) rfl rfl mw.nd rfl (Or.inr rfl) rfl (Or.inl rfl)) (aC (Cw (i := 7) (N' := ["distance", "numbers", "begins", "r"]) (fr := [none,some 3,some 2,some 4]) mw.nd rfl rfl xK rfl (ja (aK GT Qq (by rfl) mT kT bT .nil ck (af (pv 6) aj))) (fun C s0 H0 fp => (cq (i := 0) xK.nd rfl (Or.inl rfl))) (fun C s0 H0 fp => eI) (fun C s0 H0 fp => (oh hu1 (pv 1) (au aO (aE (r := FJ K) aQ (pv 2) (au aO (pv 3) ai) (fun _ _ => rfl)) (pv 0)) ⟨rfl,rfl,rfl,rfl⟩)))
   (aC (cK (iD (az bg cH (pv 7) rfl) (eZ (gX (az cw (pv 4) (au dU (bf aU (by rfl) T.len cM (af (pv 1) aj)) ai) (aL _)) (gW (cP (aK GO Qq (by rfl) mO kO bO .nil ck (af (pv 6) aj))))).pt)).pt (aG (d7 cx kC GI bI Ax tU (by rfl) (af (aE aQ (pv 2) (pv 4) (fun _ _ => rfl)) aj))) aD)
   (aG (cV (eP PySem.F.plainAttrs_list PySem.F.slot_list_append PySem.F.type_list_append cG (pv 5) (af (aK GW Qq (by rfl) mW kW bW .nil ck (af (pv 6) (af (pv 7) aj))) aj)))))))
   (aG (aA (pv 5)))))))))),?_⟩
  rcases h with ⟨lu,us,rfl,hu,hl,k⟩ | ⟨v,t,rfl,hv,hk,k⟩
  case inr => exact ⟨_,rfl,_,_,_,_,rfl,hv,hk,_,rfl,bz (by decide) (bz rfl ⟨_,rfl,by decide,fun d nd => k _ d (ae nd) ah⟩)⟩
  unfold dH at k
  refine ⟨_,rfl,_,_,_,_,rfl,.lst hu,tO,_,rfl,bY (by decide) ?_⟩
  refine ⟨_,rfl,lu,_,rfl,.inl (bq.of hu),rfl,_,rfl,?_⟩
  by_cases h0 : us = []
  ·rw [if_pos h0] at k
   refine bz (by rw [h0]; decide) ?_
   exact ⟨_,rfl,by decide,fun d nd => k _ d (ae nd) ah⟩
  rw [if_neg h0] at k
  refine bY (by simp [h0]) ?_
  refine ⟨_,rfl,lu,us,rfl,hu,⟨by omega,hl.2⟩,?_⟩
  cases hrd : cA us (us.length + 1) 0 with
  | error e =>
   rw [hrd] at k
   exact k
  | ok ds =>
   rw [hrd] at k
   have rT := qE _ _ _ hrd
   have k : rQ cU (eE ds 0 ds) H Q E := k
   intro lr G1 s1 Jk hR
   have hdl := lN _ _ _ hrd
   obtain ⟨qs,r1,r2,r3⟩ := id hR
   refine ⟨_,rfl,lr,ds,rfl,hR,by omega,fun lb G2 t2 AJ hlb => ?_⟩
   have s2 := s1.trans t2
   replace r1 := t2 _ _ r1
   refine fun pd Dj => ?_
   have s3 := s2.trans (ae (o := .dK []) Dj)
   have Qr : H pd = none := s2.free Dj
   have u3 := t2.trans (ae (o := .dK []) Dj)
   replace hlb := ae (o := .dK []) Dj _ _ hlb
   replace r1 := ae (o := .dK []) Dj _ _ r1
   have hpd : upd G2 pd (.dK []) pd = _ := ah
   generalize upd G2 pd (.dK []) = G3 at s3 u3 hlb r1 hpd ⊢
   have Qs : lb ≠ pd := fun z => by rw [z,hpd] at hlb; cases hlb
   have Qt : lr ≠ pd := fun z => by rw [z,hpd] at r1; cases r1
   have Ob : ∀ n : Nat,n ≤ ds.length → j4 ((iJ ds ds.length).map V.int) (n : Int) = some (.int (beg ds n)) := fun n hn => cI (by rw [List.getElem?_map,rL hn]; rfl)
   refine ⟨_,rfl,lr,_,rfl,.inl (bq.of r1),?_⟩
   rw [length_map,r2]
   refine ⟨_,rfl,by omega,by omega,?_⟩
   refine eW (lo := 0) (n := ((ds.length : Nat) : Int).toNat) (fun i σ G => ∃ (v4 : Option V) (kvs : List (Key × V)),σ = [some (.ref lu),some (.ref lr),some (.ref lb),some (.ref pd),v4,none,none,none] ∧ Same H G ∧ G lb = some (.lst ((iJ ds ds.length).map V.int)) ∧ G lr = some (.lst (qs.map V.ref)) ∧ (∀ (i : Nat) q d,qs[i]? = some q → ds[i]? = some d → bQ G q d) ∧ G pd = some (.dK kvs) ∧ (∀ x,dB kvs (Sum.inl x) = (sO ds i x).map fun r : Nat => V.int (r : Int)) ∧ kvs.length ≤ i) ?_ ?_ ?_
   ·exact ⟨none,[],rfl,s3,hlb,r1,fun i q d a b => ((r3 i q d a b).same u3),hpd,fun x => rfl,le_refl _⟩
   ·rintro i σ G hi ⟨v4,kvs,rfl,t4,hlb,r1,hrw,hpd,hval,hkl⟩
    have hi : i < ds.length := by rw [Int.toNat_natCast] at hi; exact hi
    have e0 : (0 : Int) + (i : Int) = (i : Int) := by omega
    rw [e0]
    refine ⟨_,rfl,_,rfl,_,rfl,_,rfl,lb,_,_,.int (beg ds i),rfl,rfl,bq.of hlb,Ob i (by omega),pd,_,rfl,zK.k (k := Sum.inl (beg ds i)) hpd (bK (by omega)),?_⟩
    refine ⟨_,_,rfl,bh t4 Qr,by rw [aX Qs]; exact hlb,by rw [aX Qt]; exact r1,fun j q d a b => ?_,ah,fun x => ?_,?_⟩
    ·have hq := hrw j q d a b
     have ne : ∀ (a : Addr) (ys : List V),G a = some (.tup ys) → a ≠ pd := fun a ys e z => by rw [z,hpd] at e; cases e
     refine ⟨hq.1,?_⟩
     rcases hq.2 with ⟨a,b,p,e,h1,h2⟩ | ⟨a,h1⟩
     ·exact .inl ⟨a,b,p,e,by rw [aX (ne _ _ h1)]; exact h1,by rw [aX (ne _ _ h2)]; exact h2⟩
     ·exact .inr ⟨a,by rw [aX (ne _ _ h1)]; exact h1⟩
    ·rw [zJ]
     show (if Sum.inl x = Sum.inl (beg ds i) then _ else _) = (if beg ds i = x then some i else sO ds i x).map _
     by_cases z : beg ds i = x
     ·rw [if_pos z,if_pos (by rw [z])]
      rfl
     ·rw [if_neg z,if_neg (fun y => z (Sum.inl.inj y).symm)]
      exact hval x
    ·exact le_trans (fX _ _ _) (by omega)
   ·rintro σ G ⟨v4,kvs,rfl,t4,hlb,r1,hrw,hpd,hval,hkl⟩
    rw [Int.toNat_natCast] at hval
    refine ⟨le_of_ble_eq_true rfl,fun la mn => ?_⟩
    have s5 := t4.trans (ae (o := .lst []) mn)
    have AK : H la = none := t4.free mn
    have h5 : upd G la (.lst []) la = some (.lst (([] : List Addr).map V.ref)) := ah
    have nR : lr ≠ la := fun z => by rw [z,mn] at r1; cases r1
    have nB : lb ≠ la := fun z => by rw [z,mn] at hlb; cases hlb
    have nP : pd ≠ la := fun z => by rw [z,mn] at hpd; cases hpd
    have u5 := ae (o := .lst []) mn
    replace hlb := u5 _ _ hlb
    replace r1 := u5 _ _ r1
    replace hpd := u5 _ _ hpd
    replace hrw : ∀ (i : Nat) q d,qs[i]? = some q → ds[i]? = some d → bQ (upd G la (.lst [])) q d := fun i q d a b => (hrw i q d a b).same u5
    clear u5
    generalize upd G la (.lst []) = G5 at s5 h5 hlb r1 hpd hrw ⊢
    refine ⟨_,rfl,lr,rfl,⟨_,bq.of r1⟩,tG (K := K) (xs := qs.map V.ref) (fun i σ G => ∃ (v4 v6 v7 : Option V) (ps : List Addr) (ms : List FR),σ = [some (.ref lu),some (.ref lr),some (.ref lb),some (.ref pd),v4,some (.ref la),v6,v7] ∧ Same H G ∧ mr G5 G la ∧ G la = some (.lst (ps.map V.ref)) ∧ (ps.length = ms.length ∧ ∀ (j : Nat) q d,ps[j]? = some q → ms[j]? = some d → bQ G q d) ∧ eE ds 0 ds = gR ms (eE ds i (ds.drop i)) ∧ ms.length = i ∧ i ≤ ds.length) ?_ ?_ ?_ ?_⟩
    ·refine ⟨_,none,none,[],[],rfl,s5,fun a o e n => e,h5,⟨rfl,fun j q d g => by simp at g⟩,?_,rfl,zero_le _⟩
     rw [drop_zero]
     cases eE ds 0 ds <;> rfl
    ·rintro i σ G' _ ⟨v4,v6,v7,ps,ms,rfl,t6,k6,_⟩
     exact bq.of (k6 _ _ r1 nR)
    ·rintro i x σ G' tt hx tY ⟨v4,v6,v7,ps,ms,rfl,t6,k6,hla,hps,gH,hml,hid⟩
     rw [List.getElem?_map] at hx
     obtain ⟨q,hq,rfl⟩ := map_eq_some_iff.mp hx
     have hil : i < ds.length := by have := (List.getElem?_eq_some_iff.mp hq).1; omega
     have hd : ds[i]? = some ds[i] := List.getElem?_eq_getElem hil
     have hdr : ds.drop i = ds[i] :: ds.drop (i + 1) := List.drop_eq_getElem_cons hil
     have hfd := rT ds[i] (List.getElem_mem hil)
     generalize ds[i] = d at hd hdr hfd
     have hrow := hrw i q d hq hd
     have s7 := ae (o := .tup [V.int i,V.ref q]) tY
     have t7 := t6.trans s7
     have k7 : mr G5 (upd G' tt (.tup [V.int i,V.ref q])) la := fun a o e n => s7 _ _ (k6 a o e n)
     have vG := s7 _ _ hla
     have AO : ∀ (j : Nat) q' d',ps[j]? = some q' → ms[j]? = some d' → bQ (upd G' tt (.tup [V.int i,V.ref q])) q' d' := fun j q' d' a b => (hps.2 j q' d' a b).same s7
     have htt : upd G' tt (.tup [V.int i,V.ref q]) tt = _ := ah
     generalize upd G' tt (.tup [V.int i,V.ref q]) = G7 at s7 t7 k7 vG AO htt ⊢
     refine ⟨tt,_,rfl,aZ.of htt,rfl,_,_,rfl,_,_,rfl,rfl,?_⟩
     have tZ := hrow.keep k7 h5
     obtain ⟨items,i1,_,i3,_⟩ := tZ.parts
     refine ⟨_,rfl,q,d.u,d.ts,rfl,⟨items,i1,i3⟩,fun lt G8 s8 nlt hlt => ?_⟩
     refine ⟨lt,rfl,⟨_,bq.of hlt⟩,fun D nD => lA (K := K) (a := lt) (xs := d.ts.map V.int) (fun j σ ys Gx => ∃ v : Option V,σ = [v,some (.ref pd),some (.ref lb),some (.int (i : Int))] ∧ ys = ((iM ds ds.length i d).take j).map rS ∧ Same G8 Gx ∧ Gx D = some (.lst ys)) ?_ ?_ ?_ ?_⟩
     ·exact ⟨none,rfl,rfl,ae nD,ah⟩
     ·rintro j σ ys Gx _ ⟨v,rfl,rfl,sx,_⟩
      exact bq.of (sx _ _ hlt)
     ·rintro j x σ ys Gx hx ⟨v,rfl,rfl,sx,hD⟩
      rw [List.getElem?_map] at hx
      obtain ⟨t,htj,rfl⟩ := map_eq_some_iff.mp hx
      have hjl := (List.getElem?_eq_some_iff.mp htj).1
      have K1 := sx _ _ (s8 _ _ (k7 _ _ hpd nP))
      have Qu := sx _ _ (s8 _ _ (k7 _ _ hlb nB))
      have Hw : (iM ds ds.length i d)[j]? = some (sO ds ds.length (beg ds (i + 1) + t)) := by unfold iM; rw [List.getElem?_map,htj]; rfl
      refine ⟨_,rfl,pd,rfl,.inl ⟨_,.inl K1⟩,_,rfl,_,rfl,_,_,rfl,rfl,lb,_,_,.int (beg ds (i + 1)),rfl,rfl,bq.of Qu,Ob (i + 1) (by omega),_,rfl,_,_,rfl,rfl,_,mI.k (k := Sum.inl (beg ds (i + 1) + t)) K1,hD,bK (by rw [length_map,length_take]; have := hfd.2; omega),_,rfl,?_,bh sx nD,ah⟩
      rw [hval,nQ,take_add_one,Hw,map_append]
      rfl
     ·rintro σ ys Gx ⟨v,rfl,rfl,sx,hD⟩
      rw [take_of_length_le (by unfold iM; rw [length_map,length_map]; exact le_refl _)] at hD
      have K2 := s8.trans sx
      have kx : mr G5 Gx la := fun a o e n => K2 _ _ (k7 a o e n)
      have tx := t7.trans K2
      have AQ := tZ.same K2
      have AR := K2 _ _ vG
      have hall : ((iM ds ds.length i d).map rS).all iE = true := by
       rw [all_eq_true]
       intro y hy
       obtain ⟨o,_,rfl⟩ := mem_map.mp hy
       cases o <;> rfl
      rw [hdr] at gH
      have hbe : eC ds i d = true → rO cU (beg ds i).toNat H E := fun z => by
       rw [xJ z] at gH
       rw [gH] at k
       exact k
      have Oc := jz rT i (by omega)
      refine ⟨_,rfl,D,_,rfl,.inl (bq.of hD),rfl,hall,_,rfl,?_⟩
      rw [show inV .non ((iM ds ds.length i d).map rS) = decide (none ∈ iM ds ds.length i d) from xI _]
      have raise : eC ds i d = true → (beg ds i).natAbs < 10 ^ 12 ∧ ∀ dd,Gx dd = none → E (.ref cU) (some dd) (upd Gx dd (.xd [("at",.int (beg ds i))])) := fun z => by
       refine ⟨by omega,fun dd nd => hbe z _ dd (tx.trans (ae nd)) ?_⟩
       rw [ah,show (((beg ds i).toNat : Nat) : Int) = beg ds i by omega]
      have good : eC ds i d = false → ∀ (p : Addr) (Gy : Hp),Same Gx Gy → bQ Gy p (kn ds i d) → ∃ (v4 v6 v7 : Option V) (ps' : List Addr) (uG : List FR),([some (.ref lu),some (.ref lr),some (.ref lb),some (.ref pd),some (.int (i : Int)),some (.ref la),some (.ref q),some (.ref D)] : St) = [some (.ref lu),some (.ref lr),some (.ref lb),some (.ref pd),v4,some (.ref la),v6,v7] ∧ Same H (upd Gy la (.lst ((ps ++ [p]).map V.ref))) ∧ mr G5 (upd Gy la (.lst ((ps ++ [p]).map V.ref))) la ∧ upd Gy la (.lst ((ps ++ [p]).map V.ref)) la = some (.lst (ps'.map V.ref)) ∧ (ps'.length = uG.length ∧ ∀ (j : Nat) q d,ps'[j]? = some q → uG[j]? = some d → bQ (upd Gy la (.lst ((ps ++ [p]).map V.ref))) q d) ∧ eE ds 0 ds = gR uG (eE ds (i + 1) (ds.drop (i + 1))) ∧ uG.length = i + 1 ∧ i + 1 ≤ ds.length := fun z p Gy sy hp => by
       rw [AI z] at gH
       have hlay := sy _ _ AR
       refine ⟨_,_,_,ps ++ [p],ms ++ [kn ds i d],rfl,bh (tx.trans sy) AK,fun a o e n => by rw [aX n]; exact sy _ _ (kx a o e n),ah,⟨by rw [length_append,length_append,hps.1]; rfl,fun j q' d' g1 g2 => ?_⟩,gH,by rw [length_append,hml]; rfl,by omega⟩
       by_cases hj : j < ps.length
       ·rw [List.getElem?_append_left hj] at g1
        rw [List.getElem?_append_left (by rw [← hps.1]; exact hj)] at g2
        exact (((AO j q' d' g1 g2).same K2).same sy).put hlay
       ·have h9 := (List.getElem?_eq_some_iff.mp g1).1
        rw [length_append,length_singleton] at h9
        have ei : j = ps.length := by omega
        subst ei
        rw [show (ps ++ [p])[ps.length]? = some p by simp] at g1
        rw [hps.1,show (ms ++ [kn ds i d])[ms.length]? = some (kn ds i d) by simp] at g2
        cases g1
        cases g2
        exact hp.put hlay
      by_cases hno : none ∈ iM ds ds.length i d
      ·refine bz (decide_eq_true hno) ?_
       obtain ⟨rb,rk⟩ := raise (by unfold eC; rw [decide_eq_true hno]; rfl)
       exact bz rfl ⟨_,rfl,_,rfl,lb,_,_,.int (beg ds i),rfl,rfl,bq.of (kx _ _ hlb nB),Ob i (by omega),_,rfl,rb,rk⟩
      ·refine bY (fun z => hno (of_decide_eq_true z)) ?_
       refine ⟨_,rfl,_,rfl,lr,_,rfl,.inl (bq.of (kx _ _ r1 nR)),_,_,rfl,rfl,rfl,_,rfl,?_⟩
       rw [length_map,r2]
       by_cases iW : i + 1 = ds.length
       ·refine bz (decide_eq_true (by show V.int (i : Int) = V.int (((ds.length : Nat) : Int) - 1); congr 1; omega)) ?_
        refine ⟨_,rfl,q,d,rfl,AQ,_,rfl,?_⟩
        by_cases hon : d.u ∈ dE
        ·have hbf : eC ds i d = false := by unfold eC; rw [decide_eq_false hno,decide_eq_true hon]; simp
         refine bY (by rw [decide_eq_true hon]; decide) ?_
         refine ⟨_,rfl,.inl ⟨rfl,_,bq.of AR⟩,_,rfl,_,rfl,q,D,d,(iM ds ds.length i d).map (fun o => ((o.getD 0 : Nat) : Int)),rfl,AQ,by rw [hD,nO hno],by unfold iM; rw [length_map,length_map],fun p Gy sy hp => ⟨la,_,_,rfl,rfl,sy _ _ AR,bK (by rw [length_map,hps.1]; omega),?_⟩⟩
         rw [show ps.map V.ref ++ [V.ref p] = (ps ++ [p]).map V.ref by rw [map_append]; rfl]
         exact good hbf p Gy sy hp
        ·obtain ⟨rb,rk⟩ := raise (by unfold eC; rw [decide_eq_true iW,decide_eq_false hon]; simp)
         refine bz (by rw [decide_eq_false hon]; rfl) ?_
         exact ⟨_,rfl,_,rfl,lb,_,_,.int (beg ds i),rfl,rfl,bq.of (kx _ _ hlb nB),Ob i (by omega),_,rfl,rb,rk⟩
       ·have hbf : eC ds i d = false := by unfold eC; rw [decide_eq_false hno,decide_eq_false iW]; rfl
        refine bY (fun z => iW (by have := V.int.inj (of_decide_eq_true z); omega)) ?_
        refine ⟨_,rfl,.inl ⟨rfl,_,bq.of AR⟩,_,rfl,_,rfl,q,D,d,(iM ds ds.length i d).map (fun o => ((o.getD 0 : Nat) : Int)),rfl,AQ,by rw [hD,nO hno],by unfold iM; rw [length_map,length_map],fun p Gy sy hp => ⟨la,_,_,rfl,rfl,sy _ _ AR,bK (by rw [length_map,hps.1]; omega),?_⟩⟩
        rw [show ps.map V.ref ++ [V.ref p] = (ps ++ [p]).map V.ref by rw [map_append]; rfl]
        exact good hbf p Gy sy hp
    ·rintro σ G' ⟨v4,v6,v7,ps,ms,rfl,t6,k6,hla,hps,gH,hml,hid⟩
     rw [length_map,r2,drop_length] at gH
     have gH : eE ds 0 ds = .ok ms := by rw [gH]; show Except.ok (ms ++ []) = _; rw [append_nil]
     rw [gH] at k
     exact ⟨_,rfl,k la _ t6 AK ⟨ps,hla,hps.1,hps.2⟩⟩
end
def Hx : Option Int → V
 | none => .non
 | some x => .int x
def K3 (n : Int) : Option Int → Bool
 | none => true
 | some x => decide (x ≤ n)
def Jl (n : Int) : Option Int → Bool
 | none => true
 | some x => decide (n ≤ x)
def dy (n : Int) (lo hi : Option Int) : Bool := K3 n lo && Jl n hi
def oR (v : V) (lo hi : Option Int) : Bool := match wn v with
 | some n => dy n lo hi
 | none => false
def gi (r : Except Nat FR) (at_ : Nat) (H : Hp) (Q : VK) : Prop := match r with
 | .ok d => ∀ (p t : Addr) (H' : Hp),Same H H' → bQ H' p d → H' t = some (.tup [.ref p,.int ((at_ : Int) + gE d)]) → Q (.ref t) H'
 | .error e => ∀ (t : Addr) (H' : Hp),Same H H' → H' t = some (.tup [.non,.int (e : Int)]) → Q (.ref t) H'
theorem Dk (xs : List V) (a b : Nat) (h1 : a ≤ b) (h2 : b ≤ xs.length) : gw xs (some (a : Int)) (some (b : Int)) = (xs.drop a).take (b - a) := by
 unfold gw
 have e1 : HT.dz xs.length 0 (some (a : Int)) = min a xs.length := HT.gY ..
 have e2 : HT.dz xs.length xs.length (some (b : Int)) = min b xs.length := HT.gY ..
 rw [e1,e2,min_eq_left h2,min_eq_left (le_trans h1 h2)]
theorem take_snoc {us : List V} {a i : Nat} {x : Int} {ns : List Int} (h : (us.drop a).take i = ns.map V.int) (hx : us[a + i]? = some (.int x)) : (us.drop a).take (i + 1) = (ns ++ [x]).map V.int := by
 rw [take_add_one,h,List.getElem?_drop,hx,map_append]
 rfl
section
variable {P : Program} {w : World} {K : Frag} {mg : Str → Option Value} {base : Heap}
def ko : Sp := fun vs H Q _ => ∃ (v : V) (lo hi : Option Int),vs = [v,Hx lo,Hx hi] ∧ FV v ∧ Q (.bl (oR v lo hi)) H
theorem K4 : aW ["_law_unit", "_law_least", "_law_most"] ["_law_unit", "_law_least", "_law_most"] (aq jr) := ⟨rfl,rfl,rfl,by decide +kernel,rfl,by decide +kernel,by decide +kernel⟩
theorem yX {f : Addr} {fd : FuncData} (F : fq K "_law_whole" "_law_whole" jr f fd) (T : Txt K w.params mg) : aY P w K mg base cQ 1 f fd ["_law_unit", "_law_least", "_law_most"] ko := by
 refine F.ok K4 (fun vs H Q E h => ?_) (fun cdv A outer s H vs Q E hr h => ?_)
 ·obtain ⟨v,lo,hi,rfl,_⟩ := h
  rfl
 ·obtain ⟨v,lo,hi,rfl,hv,k⟩ := h
  refine dS (ao (bj (iD (dI (cP (bf dR (by rfl) T.C0 ie (af (pv 0) (af (gU (v := .ty "int") (by rfl) T.int fK rfl) aj))))) (eZ (cP (bf dR (by rfl) T.C0 ie (af (pv 0) (af (gU (v := .ty "bool") (by rfl) T.bool rJ rfl) aj)))))).pt (ay (aw (aA iN))) (aR aD))
   (ay (aw (aA (nY (zx (cF lj (pv 1) cH (aL _)) (iO (cF sT (pv 0) (pv 1) (aL _)))) (iO (zx (cF lj (pv 2) cH (aL _)) (iO (cF jZ (pv 0) (pv 2) (aL _)))))))))) ?_
  cases hv with
  | bl b =>
   refine ⟨_,rfl,_,_,_,_,rfl,.bl _,oG,_,rfl,bY (by decide) ?_⟩
   exact ⟨_,rfl,_,_,_,_,rfl,.bl _,mh,_,rfl,bz (by decide) k⟩
  | non => exact ⟨_,rfl,_,_,_,_,rfl,.non,iU,_,rfl,bz (by decide) (bz rfl k)⟩
  | str s => exact ⟨_,rfl,_,_,_,_,rfl,.str _,qv,_,rfl,bz (by decide) (bz rfl k)⟩
  | int n =>
  have k : Q (.bl (dy n lo hi)) H := k
  refine ⟨_,rfl,_,_,_,_,rfl,.int _,qw,_,rfl,bY (by decide) ?_⟩
  refine ⟨_,rfl,_,_,_,_,rfl,.int _,jQ,_,rfl,bY (by decide) ?_⟩
  unfold dy at k
  cases lo with
  | none =>
   refine ⟨_,rfl,rfl,_,rfl,bz rfl ⟨_,rfl,bz rfl ?_⟩⟩
   cases hi with
   | none => exact ⟨_,rfl,rfl,_,rfl,bz rfl k⟩
   | some y => exact ⟨_,rfl,rfl,_,rfl,bY (by simp [Hx]) ⟨_,rfl,_,rfl,_,_,rfl,rfl,k⟩⟩
  | some x =>
   refine ⟨_,rfl,rfl,_,rfl,bY (by simp [Hx]) ⟨_,rfl,_,rfl,_,_,rfl,rfl,_,rfl,?_⟩⟩
   have k : Q (.bl (decide (x ≤ n) && Jl n hi)) H := k
   refine cB (fun e => ?_) (fun e => ?_)
   ·have e : decide (x ≤ n) = true := e
    rw [e] at k
    cases hi with
    | none => exact ⟨_,rfl,rfl,_,rfl,bz rfl k⟩
    | some y => exact ⟨_,rfl,rfl,_,rfl,bY (by simp [Hx]) ⟨_,rfl,_,rfl,_,_,rfl,rfl,k⟩⟩
   ·have e : decide (x ≤ n) = false := Bool.eq_false_iff.mpr e
    rw [e] at k
    exact k
def uc : Sp := fun vs H Q _ => ∃ (lu : Addr) (us : List V) (at_ : Nat) (a : Int),vs = [.ref lu,.int (at_ : Int),.int a] ∧ H lu = some (.lst us) ∧ (us.length ≤ 1000000 ∧ Fl us) ∧ at_ + 1 < us.length ∧ gi (tabAt us at_ a) at_ H Q
theorem AT : aW ["_law_units_here", "_law_at", "_law_box", "_law_k", "_law_behind"] ["_law_units_here", "_law_at", "_law_box"] (aq ju) := ⟨rfl,rfl,rfl,by decide +kernel,rfl,by decide +kernel,by decide +kernel⟩
theorem yZ {f fW : Addr} {fd kj : FuncData} (F : fq K "_law_table" "_law_table" ju f fd) (T : Txt K w.params mg) (GW : aY P w K mg base cQ 1 fW kj ["_law_unit", "_law_least", "_law_most"] ko) (kW : KI K fW) (bW : Binds K kj ["_law_unit", "_law_least", "_law_most"] []) (mW : mg "_law_whole" = some (.ref fW)) : aY P w K mg base cQ 2 f fd ["_law_units_here", "_law_at", "_law_box"] uc := by
 refine F.ok AT (fun vs H Q E h => ?_) (fun cdv A outer s H vs Q E hr h => ?_)
 ·obtain ⟨lu,us,at_,a,rfl,_⟩ := h
  rfl
 ·obtain ⟨lu,us,at_,a,rfl,hu,hl,ha,k⟩ := h
  have hx : us[at_ + 1]? = some us[at_ + 1] := List.getElem?_eq_getElem ha
  have hv := hl.2.get hx
  generalize us[at_ + 1] = v at hx hv
  have hat : j4 us ((at_ : Int) + 1) = some v := cI (j := at_ + 1) hx
  unfold tabAt at k
  rw [mq hx] at k
  refine dS (ao (bj (dI (cP (aK GW hr (by rfl) mW kW bW .nil ck (af (aE aQ (pv 0) (au aO (pv 1) ai) (fun _ _ => rfl)) (af ai (af ai aj)))))) (ay (aw (aA (aI (af cH (af (au aO (pv 1) ai) aj)))))) (aR aD))
   (ao (aw (fc PassesOwn.never rfl (dP rfl T.range (af (aE aQ (pv 0) (au aO (pv 1) ai) (fun _ _ => rfl)) aj)) (cq (i := 3) AT.nd rfl (Or.inl rfl)) (aG (cK (iD (az sT (au aO (au aO (pv 1) ai) (pv 3)) (bf aU (by rfl) T.len cM (af (pv 0) aj)) (aL _)) (eZ (dI (cP (aK GW hr (by rfl) mW kW bW .nil ck (af (aE aQ (pv 0) (au aO (au aO (pv 1) ai) (pv 3)) (fun _ _ => rfl)) (af cH (af cH aj)))))))).pt (aG (aA (aI (af cH (af (au aO (au aO (pv 1) ai) (pv 3)) aj))))) aD))))
   (ao (aw (aF (i := 4) AT.nd rfl (Or.inl rfl) (au aO (au aO (pv 1) ai) (aE aQ (pv 0) (au aO (pv 1) ai) (fun _ _ => rfl)))))
   (ay (aw (aA (aI (af (aI (af ak (af (pv 2) (af (bA cJ (by rfl) T.tuple eM (af (dk j5 (pv 0) (dj (au aO (pv 1) ai)) (dj (pv 4))) aj)) aj)))) (af (pv 4) aj))))))))) ?_
  refine ⟨_,rfl,_,rfl,_,_,rfl,rfl,lu,_,_,v,rfl,rfl,bq.of hu,hat,v,some 1,some 16,rfl,hv,_,rfl,?_⟩
  cases hwn : wn v with
  | none =>
   rw [hwn] at k
   have k : ∀ (t : Addr) (H' : Hp),Same H H' → H' t = some (.tup [.non,.int ((at_ + 1 : Nat) : Int)]) → Q (.ref t) H' := k
   refine bz (by unfold oR; rw [hwn]; rfl) ?_
   exact ⟨_,rfl,_,_,rfl,rfl,aJ,fun t nt => k t _ (ae nt) ah⟩
  | some n =>
  rw [hwn] at k
  have hvn : v = .int n := by cases v <;> cases hwn; rfl
  subst hvn
  have k : gi (if 1 ≤ n ∧ n ≤ 16 then (match wholes us (at_ + 2) n.toNat with | .error e => .error e | .ok l => .ok ⟨"table",[a],l⟩) else .error (at_ + 1)) at_ H Q := k
  by_cases hb : 1 ≤ n ∧ n ≤ 16
  ·refine bY (by show ¬ (!dy n (some 1) (some 16)) = true; unfold dy K3 Jl; simp [hb.1,hb.2]) ?_
   rw [if_pos hb] at k
   refine ⟨_,rfl,_,rfl,_,_,rfl,rfl,lu,_,_,.int n,rfl,rfl,bq.of hu,hat,?_⟩
   refine ⟨_,rfl,by omega,by omega,?_⟩
   refine eW (lo := 0) (n := n.toNat) (fun i σ G => ∃ (v : Option V) (ns : List Int),σ = [some (.ref lu),some (.int (at_ : Int)),some (.int a),v,none] ∧ G = H ∧ at_ + 2 + i ≤ us.length ∧ i ≤ n.toNat ∧ ns.length = i ∧ wholes us (at_ + 2) n.toNat = rN ns (wholes us (at_ + 2 + i) (n.toNat - i)) ∧ (us.drop (at_ + 2)).take i = ns.map V.int) ?_ ?_ ?_
   ·exact ⟨none,[],rfl,rfl,by omega,zero_le _,rfl,(tV _).symm,rfl⟩
   ·rintro i σ G hi ⟨v,ns,rfl,hG,hle,hin,hnl,pD,htk⟩
    subst hG
    have e0 : (0 : Int) + (i : Int) = (i : Int) := by omega
    rw [e0]
    have Qo : n.toNat - i = n.toNat - (i + 1) + 1 := by omega
    rw [Qo] at pD
    refine ⟨_,rfl,_,_,rfl,rfl,_,rfl,_,_,rfl,rfl,_,rfl,lu,_,rfl,.inl (bq.of hu),_,_,rfl,rfl,_,rfl,?_⟩
    have bad : uA us (at_ + 2 + i) = none → ∀ (t : Addr) (H' : Hp),Same G H' → H' t = some (.tup [.non,.int ((at_ : Int) + 2 + (i : Int))]) → Q (.ref t) H' := fun z t H' s' ht => by
     rw [oO z] at pD
     rw [pD] at k
     have k : ∀ (t : Addr) (H' : Hp),Same G H' → H' t = some (.tup [.non,.int ((at_ + 2 + i : Nat) : Int)]) → Q (.ref t) H' := k
     exact k t H' s' ht
    by_cases hge : us.length ≤ at_ + 2 + i
    ·refine bz (decide_eq_true (by omega)) ?_
     exact bz rfl ⟨_,rfl,_,_,rfl,rfl,_,rfl,_,_,rfl,rfl,aJ,fun t nt => bad (nM hge) t _ (ae nt) ah⟩
    ·refine bY (fun z => hge (by have := of_decide_eq_true z; omega)) ?_
     have hx : us[at_ + 2 + i]? = some (us[at_ + 2 + i]'(by omega)) := List.getElem?_eq_getElem _
     have Jm := hl.2.get hx
     generalize us[at_ + 2 + i]'(by omega) = x at hx Jm
     refine ⟨_,rfl,_,rfl,_,_,rfl,rfl,_,rfl,_,_,rfl,rfl,lu,_,_,x,rfl,rfl,bq.of hu,cI (j := at_ + 2 + i) hx,x,none,none,rfl,Jm,_,rfl,?_⟩
     cases Od : wn x with
     | none =>
      refine bz (by unfold oR; rw [Od]; rfl) ?_
      exact ⟨_,rfl,_,_,rfl,rfl,_,rfl,_,_,rfl,rfl,aJ,fun t nt => bad ((mq hx).trans Od) t _ (ae nt) ah⟩
     | some y =>
      have hxy : x = .int y := by cases x <;> cases Od; rfl
      subst hxy
      rw [qB ((mq hx).trans Od)] at pD
      refine bY (by show ¬ (false : Bool) = true; decide) ?_
      exact ⟨_,ns ++ [y],rfl,rfl,by omega,by omega,by rw [length_append,hnl]; rfl,pD,take_snoc htk hx⟩
   ·rintro σ G ⟨v,ns,rfl,hG,hle,hin,hnl,pD,htk⟩
    subst hG
    rw [sub_self] at pD
    have pD : wholes us (at_ + 2) n.toNat = .ok ns := by rw [pD]; show Except.ok (ns ++ []) = _; rw [append_nil]
    rw [pD] at k
    refine ⟨_,rfl,_,_,rfl,rfl,_,rfl,_,rfl,_,_,rfl,rfl,lu,_,_,.int n,rfl,rfl,bq.of hu,hat,_,_,rfl,rfl,?_⟩
    have hc : gw us (some ((at_ : Int) + 2)) (some ((at_ : Int) + 2 + n)) = ns.map V.int := by
     have := Dk us (at_ + 2) (at_ + 2 + n.toNat) (by omega) (by omega)
     rw [show ((at_ + 2 + n.toNat : Nat) : Int) = (at_ : Int) + 2 + n by omega,Nat.add_sub_cancel_left,htk] at this
     exact this
    refine ⟨_,rfl,_,rfl,_,rfl,_,_,rfl,rfl,_,rfl,_,rfl,_,rfl,lu,_,rfl,bq.of hu,fun lc nc => ?_⟩
    rw [hc]
    refine ⟨lc,_,rfl,.inl ⟨bq.of ah,fun tt tY => ⟨ef,fun p np => ⟨_,rfl,aJ,fun t nt => ?_⟩⟩⟩⟩
    have k : ∀ (p t : Addr) (H' : Hp),Same G H' → bQ H' p ⟨"table",[a],ns⟩ → H' t = some (.tup [.ref p,.int ((at_ : Int) + gE ⟨"table",[a],ns⟩)]) → Q (.ref t) H' := k
    refine k p t _ (((ae nc).trans (ae tY)).trans ((ae np).trans (ae nt))) ((eY ah (ae np _ _ ah)).same (ae nt)) ?_
    rw [ah]
    have hsz : gE ⟨"table",[a],ns⟩ = 2 + n := by
     show (2 : Int) + (ns.length : Nat) = 2 + n
     omega
    rw [hsz]
    show some (HO.tup [V.ref p,V.int ((at_ : Int) + 2 + n)]) = some (HO.tup [V.ref p,V.int ((at_ : Int) + (2 + n))])
    rw [Int.add_assoc]
  ·refine bz (by show (!dy n (some 1) (some 16)) = true; unfold dy K3 Jl; simp; omega) ?_
   rw [if_neg hb] at k
   have k : ∀ (t : Addr) (H' : Hp),Same H H' → H' t = some (.tup [.non,.int ((at_ + 1 : Nat) : Int)]) → Q (.ref t) H' := k
   exact ⟨_,rfl,_,_,rfl,rfl,aJ,fun t nt => k t _ (ae nt) ah⟩
end
theorem Hy {X : Cx} {e : Expr} {t : TE} (h : PE X e t) : wY X e t := by
 unfold wY
 exact h
theorem Hz {X : Cx} {a b : Expr} {op : Operator} {ta tb : TE} {pos : Pos} {r : R2} (hr : iQ X (binaryOp op) r) (ha : wY X a ta) (hb : wY X b tb) : wY X (.BinOp a op b pos) (B5 r ta tb) := by
 unfold wY at ha hb ⊢
 exact au hr ha hb
def n6 : List Str := ["stop", "back", "halt", "jump", "call", "mark"]
def iF (h : Str × Int) : Int := 127 * (if (decide (h.1 ∈ five) && decide (h.2 = 0)) = true then 1 else 0) + 7 * (if decide (h.1 ∈ w2) = true then 1 else 0)
theorem vH : ∀ h ∈ heads,((cj h.1).count ("box" : Str) = 0 ↔ h.1 ∈ n6) ∧ ((cj h.1).count ("box" : Str) = 2 ↔ h.1 ∈ w2) ∧ (h.1 ∈ w2 → ¬ h.1 ∈ five ∧ ¬ h.1 ∈ n6) := by decide +kernel
theorem xM {h : Str × Int} (hm : h ∈ heads) {a low : Int} (ha : 0 ≤ a) (hl : 0 ≤ low) (hl2 : low ≤ 127) : fits h a low = (!(decide (h.1 ∈ n6) && decide (0 < a)) && decide (low ≤ iF h)) := by
 obtain ⟨f1,f2,f3⟩ := vH h hm
 unfold fits iF
 by_cases h6 : h.1 ∈ n6
 ·by_cases ha0 : a = 0
  ·have hw : ¬ h.1 ∈ w2 := fun z => (f3 z).2 h6
   rw [if_neg (fun z => z.2 ha0),if_neg (fun z => hw (f2.mp z)),decide_eq_false hw,ha0]
   by_cases h5 : h.1 ∈ five <;> by_cases hz : h.2 = 0 <;> simp [h5,hz] <;> omega
  ·rw [if_pos ⟨f1.mpr h6,ha0⟩,decide_eq_true h6,decide_eq_true (show 0 < a by omega)]
   rfl
 ·rw [if_neg (fun z => h6 (f1.mp z.1)),decide_eq_false h6]
  by_cases hw : h.1 ∈ w2
  ·rw [if_pos (f2.mpr hw),decide_eq_true hw,decide_eq_false (f3 hw).1]
   simp
   omega
  ·rw [if_neg (fun z => hw (f2.mp z)),decide_eq_false hw]
   by_cases h5 : h.1 ∈ five <;> by_cases hz : h.2 = 0 <;> simp [h5,hz] <;> omega
def gj (u : Int) : Option ((Str × Int) × Int × Int) := if 0 ≤ u ∧ u < 25600 then (match heads[(u / 1024).toNat]? with
 | none => none
 | some h => if fits h (u % 1024 / 128) (u % 128) = true then some (h,u % 1024 / 128,u % 128) else none) else none
def oS (r : Option ((Str × Int) × Int × Int)) (H : Hp) (Q : VK) : Prop := match r with
 | none => ∀ H',Same H H' → Q .non H'
 | some (h,a,low) => ∀ (t : Addr) (H' : Hp),Same H H' → H' t = some (.tup [.str h.1,.int a,.int low,.int h.2]) → Q (.ref t) H'
theorem AU : ∀ i : Nat,i < 25 → ∀ h,heads[i]? = some h → ((["stop", "back", "halt", "set", "more", "copy", "add", "less", "load", "keep", "tell", "see", "put", "take"] : List Str) ++ (["jump", "zero", "below", "call", "mark", "table", "jump", "zero", "below", "call", "mark"] : List Str))[i]? = some h.1 ∧ h.2 = (if 19 < i then 1 else 0) := by
 have key : ∀ i ∈ List.range 25,(heads[i]?).all (fun h => decide (((["stop", "back", "halt", "set", "more", "copy", "add", "less", "load", "keep", "tell", "see", "put", "take"] : List Str) ++ (["jump", "zero", "below", "call", "mark", "table", "jump", "zero", "below", "call", "mark"] : List Str))[i]? = some h.1) && decide (h.2 = (if 19 < i then 1 else 0))) = true := by decide +kernel
 intro i hi h hh
 have := key i (mem_range.mpr hi)
 rw [hh] at this
 have this : (decide (((["stop", "back", "halt", "set", "more", "copy", "add", "less", "load", "keep", "tell", "see", "put", "take"] : List Str) ++ (["jump", "zero", "below", "call", "mark", "table", "jump", "zero", "below", "call", "mark"] : List Str))[i]? = some h.1) && decide (h.2 = (if 19 < i then 1 else 0))) = true := this
 rw [Bool.and_eq_true] at this
 exact ⟨of_decide_eq_true this.1,of_decide_eq_true this.2⟩
section
variable {P : Program} {w : World} {K : Frag} {mg : Str → Option Value} {base : Heap}
def ud : Sp := fun vs H Q _ => ∃ v : V,vs = [v] ∧ FV v ∧ oS ((wn v).bind gj) H Q
theorem kr : aW ["_law_unit", "_law_words", "_law_word", "_law_far", "_law_box", "_law_low", "_law_most"] ["_law_unit"] (aq jt) := ⟨rfl,rfl,rfl,by decide +kernel,rfl,by decide +kernel,by decide +kernel⟩
theorem y4 {f fW : Addr} {fd kj : FuncData} (F : fq K "_law_first" "_law_first" jt f fd) (T : Txt K w.params mg) (GW : aY P w K mg base cQ 1 fW kj ["_law_unit", "_law_least", "_law_most"] ko) (kW : KI K fW) (bW : Binds K kj ["_law_unit", "_law_least", "_law_most"] []) (mW : mg "_law_whole" = some (.ref fW)) : aY P w K mg base cQ 2 f fd ["_law_unit"] ud := by
 refine F.ok kr (fun vs H Q E h => ?_) (fun cdv A outer s H vs Q E hr h => ?_)
 ·obtain ⟨v,rfl,_⟩ := h
  rfl
 ·obtain ⟨v,rfl,hv,k⟩ := h
  refine dS (ao (iV (nK (i := 1) kr.nd rfl (Or.inl rfl) (nJ (.cons ak (.cons ak (.cons ak (.cons ak (.cons ak (.cons ak (.cons ak (.cons ak (.cons ak (.cons ak (.cons ak (.cons ak (.cons ak (.cons ak .nil)))))))))))))))))
   (ao (iV (nK (i := 1) kr.nd rfl (Or.inl rfl) (Hz hV (Hy (pv 1)) (nJ (.cons ak (.cons ak (.cons ak (.cons ak (.cons ak (.cons ak (.cons ak (.cons ak (.cons ak (.cons ak (.cons ak .nil)))))))))))))))
   (ao (bj (dI (cP (aK GW hr (by rfl) mW kW bW .nil ck (af (pv 0) (af ai (af (au dU (au cS ai ai) ai) aj)))))) (ay (aw (aA cH))) (aR aD))
   (ao (aw (aF (i := 2) kr.nd rfl (Or.inl rfl) (aE aQ (pv 1) (au bM (pv 0) ai) (fun _ _ => rfl))))
   (ao (aw (aF (i := 3) kr.nd rfl (Or.inl rfl) (bA dv (by rfl) T.int fK (af (cF wF (au bM (pv 0) ai) ai (aL _)) aj))))
   (ao (aw (aF (i := 4) kr.nd rfl (Or.inl rfl) (au bV (au bM (pv 0) ai) ai)))
   (ao (aw (aF (i := 5) kr.nd rfl (Or.inl rfl) (au bV (pv 0) ai)))
   (ao (bj (gX (az bg (pv 2) (dG (.cons ak (.cons ak (.cons ak (.cons ak (.cons ak (.cons ak .nil))))))) rfl) (gW (az wF (pv 4) ai (aL _)))).pt (ay (aw (aA cH))) (aR aD))
   (ao (aw (aF (i := 6) kr.nd rfl (Or.inl rfl) (au cS ai (bA dv (by rfl) T.int fK (af (zR (nY (cF bg (pv 2) (dG (.cons ak (.cons ak (.cons ak (.cons ak (.cons ak .nil)))))) rfl) (iO (cF cw (pv 3) ai (aL _))))) aj)))))
   (ao (aw (aF (i := 6) kr.nd rfl (Or.inl rfl) (au aO (pv 6) (au cS ai (bA dv (by rfl) T.int fK (af (cF bg (pv 2) (dG (.cons ak (.cons ak (.cons ak (.cons ak (.cons ak .nil)))))) rfl) aj))))))
   (ay (aw (aA (aE aQ (bw (af cH (af (aI (af (pv 2) (af (pv 4) (af (pv 5) (af (pv 3) aj))))) aj))) (bA dv (by rfl) T.int fK (af (cF jZ (pv 5) (pv 6) (aL _)) aj)) (fun _ _ => rfl))))))))))))))) ?_
  refine ⟨Ex,fun la mn => ?_⟩
  have s1 := ae (o := .lst [V.str "stop",V.str "back",V.str "halt",V.str "set",V.str "more",V.str "copy",V.str "add",V.str "less",V.str "load",V.str "keep",V.str "tell",V.str "see",V.str "put",V.str "take"]) mn
  have h1 : upd H la (.lst [V.str "stop",V.str "back",V.str "halt",V.str "set",V.str "more",V.str "copy",V.str "add",V.str "less",V.str "load",V.str "keep",V.str "tell",V.str "see",V.str "put",V.str "take"]) la = some (.lst ((["stop", "back", "halt", "set", "more", "copy", "add", "less", "load", "keep", "tell", "see", "put", "take"] : List Str).map V.str)) := ah
  generalize upd H la (.lst [V.str "stop",V.str "back",V.str "halt",V.str "set",V.str "more",V.str "copy",V.str "add",V.str "less",V.str "load",V.str "keep",V.str "tell",V.str "see",V.str "put",V.str "take"]) = G1 at s1 h1 ⊢
  refine ⟨_,rfl,Km,fun lb AJ => ?_⟩
  have s2 := s1.trans (ae (o := .lst [V.str "jump",V.str "zero",V.str "below",V.str "call",V.str "mark",V.str "table",V.str "jump",V.str "zero",V.str "below",V.str "call",V.str "mark"]) AJ)
  have h12 := ae (o := .lst [V.str "jump",V.str "zero",V.str "below",V.str "call",V.str "mark",V.str "table",V.str "jump",V.str "zero",V.str "below",V.str "call",V.str "mark"]) AJ _ _ h1
  have h2 : upd G1 lb (.lst [V.str "jump",V.str "zero",V.str "below",V.str "call",V.str "mark",V.str "table",V.str "jump",V.str "zero",V.str "below",V.str "call",V.str "mark"]) lb = some (.lst ((["jump", "zero", "below", "call", "mark", "table", "jump", "zero", "below", "call", "mark"] : List Str).map V.str)) := ah
  generalize upd G1 lb (.lst [V.str "jump",V.str "zero",V.str "below",V.str "call",V.str "mark",V.str "table",V.str "jump",V.str "zero",V.str "below",V.str "call",V.str "mark"]) = G2 at s2 h12 h2 ⊢
  refine ⟨la,lb,_,_,rfl,rfl,h12,h2,z9,fun lc K5 => ?_⟩
  rw [← map_append]
  have s3 := s2.trans (ae (o := .lst (((["stop", "back", "halt", "set", "more", "copy", "add", "less", "load", "keep", "tell", "see", "put", "take"] : List Str) ++ (["jump", "zero", "below", "call", "mark", "table", "jump", "zero", "below", "call", "mark"] : List Str)).map V.str)) K5)
  have h3 : upd G2 lc (.lst (((["stop", "back", "halt", "set", "more", "copy", "add", "less", "load", "keep", "tell", "see", "put", "take"] : List Str) ++ (["jump", "zero", "below", "call", "mark", "table", "jump", "zero", "below", "call", "mark"] : List Str)).map V.str)) lc = _ := ah
  generalize upd G2 lc (.lst (((["stop", "back", "halt", "set", "more", "copy", "add", "less", "load", "keep", "tell", "see", "put", "take"] : List Str) ++ (["jump", "zero", "below", "call", "mark", "table", "jump", "zero", "below", "call", "mark"] : List Str)).map V.str)) = G3 at s3 h3 ⊢
  refine ⟨_,rfl,_,_,rfl,rfl,.inl ⟨by decide,by decide⟩,_,_,rfl,rfl,v,some 0,some 25599,rfl,hv,_,rfl,?_⟩
  cases hwn : wn v with
  | none =>
   rw [hwn] at k
   exact bz (by unfold oR; rw [hwn]; rfl) (k _ s3)
  | some u =>
  rw [hwn] at k
  have hvn : v = .int u := by cases v <;> cases hwn; rfl
  subst hvn
  have k : oS (gj u) H Q := k
  unfold gj at k
  by_cases hb : 0 ≤ u ∧ u < 25600
  ·refine bY (by show ¬ (!dy u (some 0) (some 25599)) = true; unfold dy K3 Jl; simp; omega) ?_
   rw [if_pos hb] at k
   have hj : (u / 1024).toNat < heads.length := by show _ < 25; omega
   have hh : heads[(u / 1024).toNat]? = some heads[(u / 1024).toNat] := List.getElem?_eq_getElem hj
   have hmem := List.getElem_mem hj
   generalize heads[(u / 1024).toNat] = h at hh hmem
   rw [hh] at k
   have k : oS (if fits h (u % 1024 / 128) (u % 128) = true then some (h,u % 1024 / 128,u % 128) else none) H Q := k
   obtain ⟨hw,hf⟩ := AU _ (show (u / 1024).toNat < 25 from hj) h hh
   have hwa : j4 (((["stop", "back", "halt", "set", "more", "copy", "add", "less", "load", "keep", "tell", "see", "put", "take"] : List Str) ++ (["jump", "zero", "below", "call", "mark", "table", "jump", "zero", "below", "call", "mark"] : List Str)).map V.str) (u / 1024) = some (.str h.1) := by
    rw [show u / 1024 = (((u / 1024).toNat : Nat) : Int) by omega]
    exact cI (by rw [List.getElem?_map,hw]; rfl)
   refine ⟨_,rfl,_,rfl,_,_,rfl,rfl,⟨by show (0 : Int) < 1024; decide,by show (1024 : Int) < _; decide⟩,lc,_,_,.str h.1,rfl,rfl,bq.of h3,hwa,?_⟩
   refine ⟨_,rfl,_,_,rfl,rfl,⟨by show (0 : Int) < 1024; decide,by show (1024 : Int) < _; decide⟩,_,_,rfl,rfl,.inr ⟨_,rfl,?_⟩⟩
   have hf2 : (if decide ((19 : Int) < u / 1024) = true then (1 : Int) else 0) = h.2 := by
    rw [hf]
    by_cases z : (19 : Int) < u / 1024
    ·rw [if_pos (decide_eq_true z),if_pos (by omega)]
    ·rw [if_neg (by simp; omega),if_neg (by omega)]
   rw [hf2]
   refine ⟨_,rfl,_,_,rfl,rfl,⟨by show (0 : Int) < 128; decide,by show (128 : Int) < _; decide⟩,_,_,rfl,rfl,CY,?_⟩
   rw [xM hmem (by omega) (by omega) (by omega),show u % 1024 / 128 = u / 128 % 8 by omega] at k
   refine ⟨_,rfl,_,_,rfl,rfl,Ab,?_⟩
   refine ⟨_,rfl,CW,fun t6 Jg => ⟨t6,n6.map V.str,rfl,.inr (aZ.of ah),rfl,rfl,_,rfl,?_⟩⟩
   have s6 := s3.trans (ae (o := .tup [V.str "stop",V.str "back",V.str "halt",V.str "jump",V.str "call",V.str "mark"]) Jg)
   rw [show inV (.str h.1) (n6.map V.str) = decide (h.1 ∈ n6) from bt _ _]
   generalize upd G3 t6 (.tup [V.str "stop",V.str "back",V.str "halt",V.str "jump",V.str "call",V.str "mark"]) = G6 at s6 ⊢
   by_cases h6 : h.1 ∈ n6
   ·refine bz (decide_eq_true h6) ?_
    refine ⟨_,rfl,_,_,rfl,rfl,_,rfl,?_⟩
    by_cases ha0 : 0 < u / 128 % 8
    ·refine bz (decide_eq_true ha0) ?_
     rw [decide_eq_true h6,decide_eq_true ha0] at k
     exact k _ s6
    ·refine bY (fun z => ha0 (of_decide_eq_true z)) ?_
     rw [decide_eq_true h6,decide_eq_false ha0,Bool.and_false,Bool.not_false,Bool.true_and] at k
     refine ⟨fun v G => v = .bl (decide (h.1 ∈ five) && decide (h.2 = 0)) ∧ Same G6 G,?_,?_⟩
     ·refine ⟨_,rfl,iS,fun t7 sM => ⟨t7,(["jump", "zero", "below", "call", "mark"] : List Str).map V.str,rfl,.inr (aZ.of ah),rfl,rfl,_,rfl,?_⟩⟩
      rw [show inV (.str h.1) ((["jump", "zero", "below", "call", "mark"] : List Str).map V.str) = decide (h.1 ∈ five) from (bt _ _).trans (decide_eq_decide.mpr ⟨(by decide +kernel : ∀ u ∈ (["jump", "zero", "below", "call", "mark"] : List Str),u ∈ five) _,(by decide +kernel : ∀ u ∈ five,u ∈ (["jump", "zero", "below", "call", "mark"] : List Str)) _⟩)]
      by_cases h5 : h.1 ∈ five
      ·refine bz (decide_eq_true h5) ?_
       refine ⟨_,rfl,rfl,?_,ae sM⟩
       rw [decide_eq_true h5,Bool.true_and]
       exact congrArg V.bl (decide_eq_decide.mpr ⟨V.int.inj,fun z => by rw [z]⟩)
      ·refine bY (fun z => h5 (of_decide_eq_true z)) ?_
       exact ⟨by rw [decide_eq_false h5]; rfl,ae sM⟩
     rintro v G7 ⟨rfl,t7⟩
     have s7 := s6.trans t7
     refine .inr ⟨_,rfl,_,_,rfl,rfl,.inl ⟨by decide,by decide⟩,?_⟩
     refine ⟨_,rfl,_,rfl,iS,fun t8 Dl => ⟨t8,w2.map V.str,rfl,.inr (aZ.of ah),rfl,rfl,.inr ⟨_,rfl,_,_,rfl,rfl,.inl ⟨by decide,by decide⟩,_,_,rfl,rfl,?_⟩⟩⟩
     have s8 := s7.trans (ae (o := .tup [V.str "copy",V.str "add",V.str "less",V.str "load",V.str "keep"]) Dl)
     rw [show (if false = true then !inV (.str h.1) (w2.map V.str) else inV (.str h.1) (w2.map V.str)) = decide (h.1 ∈ w2) from bt _ _]
     generalize upd G7 t8 (.tup [V.str "copy",V.str "add",V.str "less",V.str "load",V.str "keep"]) = G8 at s8 ⊢
     refine ⟨_,rfl,_,rfl,_,rfl,_,rfl,ke,fun t9 AV => ⟨aJ,fun l9 HA => ⟨_,rfl,_,rfl,_,_,rfl,rfl,.inr ⟨_,rfl,?_⟩⟩⟩⟩
     by_cases hle : u % 128 ≤ iF h
     ·rw [if_pos (decide_eq_true hle)] at k
      refine ⟨l9,_,1,.ref t9,rfl,by show V.int (if decide (u % 128 ≤ iF h) = true then 1 else 0) = V.int 1; rw [if_pos (decide_eq_true hle)],bq.of ah,rfl,k t9 _ (s8.trans ((ae AV).trans (ae HA))) (ae HA _ _ ah)⟩
     ·rw [if_neg (fun z => hle (of_decide_eq_true z))] at k
      refine ⟨l9,_,0,.non,rfl,by show V.int (if decide (u % 128 ≤ iF h) = true then 1 else 0) = V.int 0; rw [if_neg (fun z => hle (of_decide_eq_true z))],bq.of ah,rfl,k _ (s8.trans ((ae AV).trans (ae HA)))⟩
   ·refine bY (fun z => h6 (of_decide_eq_true z)) ?_
    rw [decide_eq_false h6,Bool.false_and,Bool.not_false,Bool.true_and] at k
    refine ⟨fun v G => v = .bl (decide (h.1 ∈ five) && decide (h.2 = 0)) ∧ Same G6 G,?_,?_⟩
    ·refine ⟨_,rfl,iS,fun t7 sM => ⟨t7,(["jump", "zero", "below", "call", "mark"] : List Str).map V.str,rfl,.inr (aZ.of ah),rfl,rfl,_,rfl,?_⟩⟩
     rw [show inV (.str h.1) ((["jump", "zero", "below", "call", "mark"] : List Str).map V.str) = decide (h.1 ∈ five) from (bt _ _).trans (decide_eq_decide.mpr ⟨(by decide +kernel : ∀ u ∈ (["jump", "zero", "below", "call", "mark"] : List Str),u ∈ five) _,(by decide +kernel : ∀ u ∈ five,u ∈ (["jump", "zero", "below", "call", "mark"] : List Str)) _⟩)]
     by_cases h5 : h.1 ∈ five
     ·refine bz (decide_eq_true h5) ?_
      refine ⟨_,rfl,rfl,?_,ae sM⟩
      rw [decide_eq_true h5,Bool.true_and]
      exact congrArg V.bl (decide_eq_decide.mpr ⟨V.int.inj,fun z => by rw [z]⟩)
     ·refine bY (fun z => h5 (of_decide_eq_true z)) ?_
      exact ⟨by rw [decide_eq_false h5]; rfl,ae sM⟩
    rintro v G7 ⟨rfl,t7⟩
    have s7 := s6.trans t7
    refine .inr ⟨_,rfl,_,_,rfl,rfl,.inl ⟨by decide,by decide⟩,?_⟩
    refine ⟨_,rfl,_,rfl,iS,fun t8 Dl => ⟨t8,w2.map V.str,rfl,.inr (aZ.of ah),rfl,rfl,.inr ⟨_,rfl,_,_,rfl,rfl,.inl ⟨by decide,by decide⟩,_,_,rfl,rfl,?_⟩⟩⟩
    have s8 := s7.trans (ae (o := .tup [V.str "copy",V.str "add",V.str "less",V.str "load",V.str "keep"]) Dl)
    rw [show (if false = true then !inV (.str h.1) (w2.map V.str) else inV (.str h.1) (w2.map V.str)) = decide (h.1 ∈ w2) from bt _ _]
    generalize upd G7 t8 (.tup [V.str "copy",V.str "add",V.str "less",V.str "load",V.str "keep"]) = G8 at s8 ⊢
    refine ⟨_,rfl,_,rfl,_,rfl,_,rfl,ke,fun t9 AV => ⟨aJ,fun l9 HA => ⟨_,rfl,_,rfl,_,_,rfl,rfl,.inr ⟨_,rfl,?_⟩⟩⟩⟩
    by_cases hle : u % 128 ≤ iF h
    ·rw [if_pos (decide_eq_true hle)] at k
     refine ⟨l9,_,1,.ref t9,rfl,by show V.int (if decide (u % 128 ≤ iF h) = true then 1 else 0) = V.int 1; rw [if_pos (decide_eq_true hle)],bq.of ah,rfl,k t9 _ (s8.trans ((ae AV).trans (ae HA))) (ae HA _ _ ah)⟩
    ·rw [if_neg (fun z => hle (of_decide_eq_true z))] at k
     refine ⟨l9,_,0,.non,rfl,by show V.int (if decide (u % 128 ≤ iF h) = true then 1 else 0) = V.int 0; rw [if_neg (fun z => hle (of_decide_eq_true z))],bq.of ah,rfl,k _ (s8.trans ((ae AV).trans (ae HA)))⟩
  ·refine bz (by show (!dy u (some 0) (some 25599)) = true; unfold dy K3 Jl; simp; omega) ?_
   rw [if_neg hb] at k
   exact k _ s3
end
theorem E4 {X : Cx} {a b c d e : Int} {j1 p1 j2 p2 j3 p3 p4 p5 j6 p6 j7 p7 p8 x1 pos} : PE X (.Tuple [.BinOp (.Constant (.int a) j1 p1) .Sub (.BinOp (.Constant (.int b) j2 p2) .Pow (.Constant (.int c) j3 p3) p4) p5,.BinOp (.Constant (.int d) j6 p6) .Pow (.Constant (.int e) j7 p7) p8] x1 pos) (Cd (pU (B5 (B6 fun i j => .int (i - j)) (tC (.int a)) (B5 (rI n9 fun i j => .int (i ^ j.toNat)) (tC (.int b)) (tC (.int c)))) (pU (B5 (rI n9 fun i j => .int (i ^ j.toNat)) (tC (.int d)) (tC (.int e))) Ca))) := aI (af (au dU ai (au gu ai ai)) (af (au gu ai ai) aj))
theorem K6 {X : Cx} {a d e : Int} {j1 p1 j6 p6 j7 p7 p8 x1 pos} : PE X (.Tuple [.Constant (.int a) j1 p1,.BinOp (.Constant (.int d) j6 p6) .Pow (.Constant (.int e) j7 p7) p8] x1 pos) (Cd (pU (tC (.int a)) (pU (B5 (rI n9 fun i j => .int (i ^ j.toNat)) (tC (.int d)) (tC (.int e))) Ca))) := aI (af ai (af (au gu ai ai) aj))
theorem AW {X : Cx} {k1 k2 : Str} {v1 v2 e f : Expr} {t1 t2 ty tx : TE} {j1 p1 j2 p2 dpos apos cpos} (hu : X.A.units + 1 < cLine) (h1 : PE X v1 t1) (h2 : PE X v2 t2) (he : PE X e ty) (hf : PE X f tx) (se : isStar e = false) (sf : isStar f = false) (hline : (apos.endLine == cpos.line) = true) :
  PE X (.Call (.Attribute (.Dict [some (.Constant (.str k1) j1 p1),some (.Constant (.str k2) j2 p2)] [v1,v2] dpos) "get" apos) [e,f] [] cpos) (uX (zM [(tC (.str k1),t1),(tC (.str k2),t2)]) ty tx) :=
 sZ hu (rg (iR ak h1 (iR ak h2 rc)) rfl rfl (cons_ne_nil _ _) (le_of_ble_eq_true rfl)) he hf ⟨rfl,by rw [kf se,kf sf]; rfl,hline,by rw [kf se,kf sf]; rfl⟩
theorem y6 {X : Cx} {k1 k2 : Str} {v1 v2 e f : Expr} {t1 t2 ty tx : TE} {j1 p1 j2 p2 dpos apos cpos} (hu : X.A.units + 1 < cLine) (h1 : PE X v1 t1) (h2 : PE X v2 t2) (he : PE X e ty) (hf : PE X f tx) (se : isStar e = false) (sf : isStar f = false) (hline : (apos.endLine == cpos.line) = true) :
  wY X (.Call (.Attribute (.Dict [some (.Constant (.str k1) j1 p1),some (.Constant (.str k2) j2 p2)] [v1,v2] dpos) "get" apos) [e,f] [] cpos) (uX (zM [(tC (.str k1),t1),(tC (.str k2),t2)]) ty tx) := by
 unfold wY
 exact AW hu h1 h2 he hf se sf hline
theorem rV {X : Cx} {pos pos' cpos : Pos} {i : Nat} {x : Str} {fe : Expr} {es : List Expr} {te : TE} (hN : X.N.Nodup) (hi : X.N[i]? = some x) (hx : Loc X.env.scope x) (he : wY X (.Call fe es [] cpos) te) (hf : X.fn x = true ∨ X.env.scope.names.lookup x = some .local := by first | exact .inl rfl | exact .inr rfl | assumption) :
  Jc X (.Assign [.Name x pos'] (.Call fe es [] cpos) pos) (zA te (n4 i)) := by
 unfold wY at he
 unfold Jc
 exact aF hN hi hx he rfl hf
def cm (us : List V) (at_ : Nat) (h : Str × Int) (a low : Int) : Except Nat FR := if h.1 = "table" then tabAt us at_ a else if h.1 ∈ five then iX us at_ h a low else if h.1 ∈ w2 then .ok ⟨h.1,[a,low],[]⟩ else match cW us at_ a (cj h.1) with
 | .ok l => .ok ⟨h.1,l,[]⟩
 | .error e => .error e
theorem il {us : List V} {at_ : Nat} {v : V} (hv : us[at_]? = some v) : rowAt us at_ = match (wn v).bind gj with
  | none => .error at_
  | some (h,a,low) => cm us at_ h a low := by
 unfold rowAt
 rw [mq hv]
 cases wn v with
 | none => rfl
 | some u =>
 show (if 0 ≤ u ∧ u < 25600 then _ else _) = match gj u with | none => Except.error at_ | some (h,a,low) => cm us at_ h a low
 unfold gj
 by_cases hb : 0 ≤ u ∧ u < 25600
 ·rw [if_pos hb,if_pos hb]
  cases heads[(u / 1024).toNat]? with
  | none => rfl
  | some h =>
   show eV us at_ h (u % 1024 / 128) (u % 128) = match (if fits h (u % 1024 / 128) (u % 128) = true then some (h,u % 1024 / 128,u % 128) else none) with | none => Except.error at_ | some (h,a,low) => cm us at_ h a low
   unfold eV
   by_cases hf : fits h (u % 1024 / 128) (u % 128) = true
   ·rw [if_pos hf,if_pos hf]
    rfl
   ·rw [if_neg hf,if_neg hf]
 ·rw [if_neg hb,if_neg hb]
theorem y8 {u : Int} {h : Str × Int} {a low : Int} (e : gj u = some (h,a,low)) : h ∈ heads := by
 unfold gj at e
 split at e
 ·cases hh : heads[(u / 1024).toNat]? with
  | none => rw [hh] at e; cases e
  | some h' =>
   rw [hh] at e
   have e : (if fits h' (u % 1024 / 128) (u % 128) = true then some (h',u % 1024 / 128,u % 128) else none) = some (h,a,low) := e
   split at e
   ·cases e
    exact List.mem_of_getElem? hh
   ·cases e
 ·cases e
theorem AX : ∀ h ∈ heads,(h.1 ∈ (["stop", "back"] : List Str) ∧ cj h.1 = [] ∧ gE ⟨h.1,[],[]⟩ = 1) ∨ (h.1 = "tell") ∨ (h.1 ∈ w2) ∨ (h.1 = "table") ∨ (h.1 ∈ five) ∨ (h.1 = "halt") ∨ (h.1 ∈ (["set", "more", "see", "put", "take"] : List Str)) := by decide +kernel
def k2 (u : Str) : Str := (cj u)[1]?.getD ""
theorem xN {us : List V} {at_ : Nat} {h : Str × Int} {a low : Int} (hs : h.1 ∈ (["stop", "back"] : List Str)) : cm us at_ h a low = .ok ⟨h.1,[],[]⟩ := by
 obtain ⟨f1,f2,f3,f4⟩ := (by decide +kernel : ∀ u ∈ (["stop", "back"] : List Str),¬ u = "table" ∧ ¬ u ∈ five ∧ ¬ u ∈ w2 ∧ cj u = []) _ hs
 unfold cm
 rw [if_neg f1,if_neg f2,if_neg f3,f4]
 rfl
theorem qF {us : List V} {at_ : Nat} {h : Str × Int} {a low : Int} (hs : h.1 = "tell") : cm us at_ h a low = .ok ⟨h.1,[a],[]⟩ := by
 obtain ⟨f1,f2,f3,f4⟩ := (by decide +kernel : ∀ u ∈ (["tell"] : List Str),¬ u = "table" ∧ ¬ u ∈ five ∧ ¬ u ∈ w2 ∧ cj u = (["box"] : List Str)) _ (show h.1 ∈ _ by rw [hs]; decide)
 unfold cm
 rw [if_neg f1,if_neg f2,if_neg f3,f4]
 rfl
theorem xO {us : List V} {at_ : Nat} {h : Str × Int} {a low : Int} (hs : h.1 ∈ w2) : cm us at_ h a low = .ok ⟨h.1,[a,low],[]⟩ := by
 obtain ⟨f1,f2⟩ := (by decide +kernel : ∀ u ∈ w2,¬ u = "table" ∧ ¬ u ∈ five) _ hs
 unfold cm
 rw [if_neg f1,if_neg f2,if_pos hs]
theorem jA {us : List V} {at_ : Nat} {h : Str × Int} {a low : Int} (hs : h.1 ∈ five) : cm us at_ h a low = iX us at_ h a low := by
 have f1 := (by decide +kernel : ∀ u ∈ five,¬ u = "table") _ hs
 unfold cm
 rw [if_neg f1,if_pos hs]
def nS (u : Str) : Int := if u ∈ (["set", "more"] : List Str) then -1000000000 else 0
def nU (u : Str) : Int := if u ∈ (["set", "more"] : List Str) then 1000000000 else 1000000
theorem HB {us : List V} {at_ : Nat} {n a : Int} {kd : Str} (hk : ¬ kd = "box") (hn : (uA us (at_ + 1)) = some n) : eT us at_ kd a = if inB kd n = true then .ok n else .error (at_ + 1) := by
 unfold eT numAt
 rw [if_neg hk,hn]
theorem HD {us : List V} {at_ : Nat} {a : Int} {kd : Str} (hk : ¬ kd = "box") (hn : (uA us (at_ + 1)) = none) : eT us at_ kd a = .error (at_ + 1) := by
 unfold eT numAt
 rw [if_neg hk,hn]
theorem E5 {us : List V} {at_ : Nat} {a : Int} {kd : Str} {e : Nat} (h : eT us at_ kd a = .error e) : cW us at_ a [kd] = .error e := by
 show (match eT us at_ kd a with | .error e => Except.error e | .ok n => _) = _
 rw [h]
theorem K7 {us : List V} {at_ : Nat} {a n : Int} {kd : Str} (h : eT us at_ kd a = .ok n) : cW us at_ a [kd] = .ok [n] := by
 show (match eT us at_ kd a with | .error e => Except.error e | .ok n => _) = _
 rw [h]
 rfl
theorem K8 {us : List V} {at_ : Nat} {a : Int} {ks : List Str} : cW us at_ a ("box" :: ks) = match cW us at_ a ks with | .error e => .error e | .ok l => .ok (a :: l) := rfl
theorem E6 {us : List V} {at_ : Nat} {a lo hi : Int} {kd : Str} (hk : ¬ kd = "box") (hb : gF kd = (lo,hi)) : cW us at_ a [kd] = match (uA us (at_ + 1)) with
  | none => .error (at_ + 1)
  | some n => if lo ≤ n ∧ n ≤ hi then .ok [n] else .error (at_ + 1) := by
 cases hn : (uA us (at_ + 1)) with
 | none => exact E5 (HD hk hn)
 | some n =>
  have e := HB (a := a) hk hn
  unfold inB at e
  rw [hb] at e
  show cW us at_ a [kd] = if lo ≤ n ∧ n ≤ hi then Except.ok [n] else .error (at_ + 1)
  by_cases z : lo ≤ n ∧ n ≤ hi
  ·rw [if_pos (decide_eq_true z)] at e
   rw [if_pos z]
   exact K7 e
  ·rw [if_neg (fun y => z (of_decide_eq_true y))] at e
   rw [if_neg z]
   exact E5 e
theorem jB {us : List V} {at_ : Nat} {h : Str × Int} {a low : Int} (hs : h.1 = "halt") : cm us at_ h a low = match (uA us (at_ + 1)) with
  | none => .error (at_ + 1)
  | some n => if nS h.1 ≤ n ∧ n ≤ nU h.1 then .ok ⟨h.1,[n],[]⟩ else .error (at_ + 1) := by
 obtain ⟨f1,f2,f3,f4,f5,f6⟩ := (by decide +kernel : ∀ u ∈ (["halt"] : List Str),¬ u = "table" ∧ ¬ u ∈ five ∧ ¬ u ∈ w2 ∧ cj u = (["number"] : List Str) ∧ gF "number" = (nS u,nU u) ∧ ¬ ("number" : Str) = "box") h.1 (by rw [hs]; decide)
 unfold cm
 rw [if_neg f1,if_neg f2,if_neg f3,f4,E6 f6 f5]
 cases (uA us (at_ + 1)) with
 | none => rfl
 | some n =>
  show (match (if nS h.1 ≤ n ∧ n ≤ nU h.1 then Except.ok [n] else .error (at_ + 1)) with | .ok l => Except.ok (⟨h.1,l,[]⟩ : FR) | .error e => .error e) = if nS h.1 ≤ n ∧ n ≤ nU h.1 then .ok ⟨h.1,[n],[]⟩ else .error (at_ + 1)
  by_cases z : nS h.1 ≤ n ∧ n ≤ nU h.1
  ·rw [if_pos z,if_pos z]
  ·rw [if_neg z,if_neg z]
theorem nV {us : List V} {at_ : Nat} {h : Str × Int} {a low : Int} (hs : h.1 ∈ (["set", "more", "see", "put", "take"] : List Str)) : cm us at_ h a low = match (uA us (at_ + 1)) with
  | none => .error (at_ + 1)
  | some n => if nS h.1 ≤ n ∧ n ≤ nU h.1 then .ok ⟨h.1,[a,n],[]⟩ else .error (at_ + 1) := by
 obtain ⟨f1,f2,f3,f4,f5,f6⟩ := (by decide +kernel : ∀ u ∈ (["set", "more", "see", "put", "take"] : List Str),¬ u = "table" ∧ ¬ u ∈ five ∧ ¬ u ∈ w2 ∧ cj u = ((("box" : Str) :: [k2 u] : List Str)) ∧ gF (k2 u) = (nS u,nU u) ∧ ¬ k2 u = "box") _ hs
 unfold cm
 rw [if_neg f1,if_neg f2,if_neg f3,f4,K8,E6 f6 f5]
 cases (uA us (at_ + 1)) with
 | none => rfl
 | some n =>
  show (match (match (if nS h.1 ≤ n ∧ n ≤ nU h.1 then Except.ok [n] else .error (at_ + 1)) with | .error e => Except.error e | .ok l => .ok (a :: l)) with | .ok l => Except.ok (⟨h.1,l,[]⟩ : FR) | .error e => .error e) = if nS h.1 ≤ n ∧ n ≤ nU h.1 then .ok ⟨h.1,[a,n],[]⟩ else .error (at_ + 1)
  by_cases z : nS h.1 ≤ n ∧ n ≤ nU h.1
  ·rw [if_pos z,if_pos z]
  ·rw [if_neg z,if_neg z]
theorem vI {u : Str} {is ts : List Int} (h1 : ¬ u = "table" ∧ ¬ u ∈ five ∧ ¬ u ∈ six) : gE ⟨u,is,ts⟩ = 1 := by
 show (if u = "table" then _ else if u ∈ five then _ else if u ∈ six then (2 : Int) else 1) = 1
 rw [if_neg h1.1,if_neg h1.2.1,if_neg h1.2.2]
theorem AY {u : Str} {is ts : List Int} (h1 : ¬ u = "table" ∧ ¬ u ∈ five ∧ u ∈ six) : gE ⟨u,is,ts⟩ = 2 := by
 show (if u = "table" then _ else if u ∈ five then _ else if u ∈ six then (2 : Int) else 1) = 2
 rw [if_neg h1.1,if_neg h1.2.1,if_pos h1.2.2]
theorem K9 {u : Str} {a d f : Int} (h1 : u ∈ five) : gE (iL u a d f) = 1 + f := by
 unfold gE
 rw [Hq,if_neg ((by decide +kernel : ∀ u ∈ five,¬ u = "table") _ h1),if_pos h1,tX]
def ip (h : Str × Int) : Option Int × Option Int := if h.2 = 1 then (none,none) else (some (nS h.1),some (nU h.1))
theorem xP : ∀ h ∈ heads,(h.2 = 0 ∨ h.2 = 1) ∧ (h.2 = 1 → h.1 ∈ five) := by decide +kernel
theorem Dm (a b : V) : gx [] [((Sum.inr "set" : Key),a),(Sum.inr "more",b)] = ([((Sum.inr "set" : Key),a),(Sum.inr "more",b)] : List (Key × V)) := rfl
theorem La (a b : V) : ∀ u : Str,dB [((Sum.inr "set" : Key),a),(Sum.inr "more",b)] (Sum.inr u) = if u = "set" then some a else if u = "more" then some b else none := by
 intro u
 by_cases h : u = "set"
 ·subst h; rfl
 ·by_cases h2 : u = "more"
  ·subst h2; rfl
  ·rw [if_neg h,if_neg h2]
   have e1 : ¬ ((Sum.inr "set" : Key) = Sum.inr u) := fun z => h (Sum.inr.inj z).symm
   have e2 : ¬ ((Sum.inr "more" : Key) = Sum.inr u) := fun z => h2 (Sum.inr.inj z).symm
   simp [dB,List.find?,e1,e2]
theorem y9 {r : Except Nat FR} {at_ : Nat} {H G : Hp} {Q : VK} (s : Same H G) (k : gi r at_ H Q) : gi r at_ G Q := by
 cases r with
 | ok d => exact fun p t H' s' hr ht => k p t H' (s.trans s') hr ht
 | error e => exact fun t H' s' ht => k t H' (s.trans s') ht
theorem oU {us : List V} {at_ : Nat} {h : Str × Int} {a low : Int} (hm : h ∈ heads) (c1 : ¬ h.1 ∈ (["stop", "back"] : List Str)) (c2 : ¬ h.1 = "tell") (c3 : ¬ h.1 ∈ w2) (c5 : ¬ (h.1 ∈ five ∧ h.2 = 0)) (hn : (uA us (at_ + 1)) = none) : cm us at_ h a low = .error (at_ + 1) := by
 rcases AX h hm with z | z | z | z | z | z | z
 ·exact absurd z.1 c1
 ·exact absurd z c2
 ·exact absurd z c3
 ·unfold cm tabAt
  rw [if_pos z,hn]
 ·rw [jA z]
  unfold iX
  rw [if_neg (fun y => c5 ⟨z,y⟩),hn]
 ·rw [jB z,hn]
 ·rw [nV z,hn]
theorem AZ {us : List V} {at_ : Nat} {h : Str × Int} {a low n : Int} (hm : h ∈ heads) (c1 : ¬ h.1 ∈ (["stop", "back"] : List Str)) (c2 : ¬ h.1 = "tell") (c3 : ¬ h.1 ∈ w2) (c5 : ¬ (h.1 ∈ five ∧ h.2 = 0)) (c6 : ¬ h.1 = "table") (hn : (uA us (at_ + 1)) = some n) (hb : ¬ dy n (ip h).1 (ip h).2 = true) : cm us at_ h a low = .error (at_ + 1) := by
 have h01 := xP h hm
 have e0 : ¬ h.2 = 1 := fun y => hb (by unfold ip; rw [if_pos y]; rfl)
 have e1 : ¬ (nS h.1 ≤ n ∧ n ≤ nU h.1) := fun y => hb (by
  unfold ip; rw [if_neg e0]
  show (decide (nS h.1 ≤ n) && decide (n ≤ nU h.1)) = true
  rw [decide_eq_true y.1,decide_eq_true y.2]; rfl)
 rcases AX h hm with z | z | z | z | z | z | z
 ·exact absurd z.1 c1
 ·exact absurd z c2
 ·exact absurd z c3
 ·exact absurd z c6
 ·exact absurd (h01.1.resolve_right e0) (fun y => c5 ⟨z,y⟩)
 ·rw [jB z,hn]
  exact if_neg e1
 ·rw [nV z,hn]
  exact if_neg e1
theorem A0 {h : Str × Int} {n : Int} (e0 : ¬ h.2 = 1) (hb : dy n (ip h).1 (ip h).2 = true) : nS h.1 ≤ n ∧ n ≤ nU h.1 := by
 unfold ip at hb
 rw [if_neg e0] at hb
 have hb : (decide (nS h.1 ≤ n) && decide (n ≤ nU h.1)) = true := hb
 rw [Bool.and_eq_true] at hb
 exact ⟨of_decide_eq_true hb.1,of_decide_eq_true hb.2⟩
theorem uf {us : List V} {at_ : Nat} {h : Str × Int} {a low n : Int} (hm : h ∈ heads) (h1 : h.2 = 1) (hn : (uA us (at_ + 1)) = some n) : cm us at_ h a low = .ok (iL h.1 a n h.2) := by
 rw [jA ((xP h hm).2 h1)]
 unfold iX
 rw [if_neg (by rw [h1]; decide),hn]
theorem oV {us : List V} {at_ : Nat} {h : Str × Int} {a low : Int} (h1 : h.1 = "table") : cm us at_ h a low = tabAt us at_ a := by
 unfold cm
 rw [if_pos h1]
def Qv (lu : Addr) (at_ : Nat) (h : Str × Int) (a low : Int) (tb : Addr) (o : Option V) : St := [some (.ref lu),some (.int (at_ : Int)),some (.str h.1),some (.int a),some (.int low),some (.int h.2),some (.ref tb),o]
theorem e4c {h : Str × Int} {a dd : Int} : [V.str h.1] ++ (if h.1 ∈ zb then [V.int a] else []) ++ [V.int dd,V.int h.2] = (if h.1 ∈ zb then [.str h.1,.int a,.int dd,.int h.2] else [.str h.1,.int dd,.int h.2]) := by split <;> rfl
theorem rW {u : Str} {a : Int} : ((if u ∈ zb then [V.int a] else []) : List V).length ≤ 1 := by
 split
 ·exact le_refl 1
 ·exact zero_le 1
theorem iq {d : FR} {at_ : Nat} {H : Hp} {Q : VK} {r : Except Nat FR} (e : r = .ok d) (k : gi r at_ H Q) : ∀ (p t : Addr) (H' : Hp),Same H H' → bQ H' p d → H' t = some (.tup [.ref p,.int ((at_ : Int) + gE d)]) → Q (.ref t) H' := by
 rw [e] at k
 exact k
theorem iY {x at_ : Nat} {H : Hp} {Q : VK} {r : Except Nat FR} (e : r = .error x) (k : gi r at_ H Q) : ∀ (t : Addr) (H' : Hp),Same H H' → H' t = some (.tup [.non,.int (x : Int)]) → Q (.ref t) H' := by
 rw [e] at k
 exact k
section
variable {P : Program} {w : World} {K : Frag} {mg : Str → Option Value} {base : Heap}
def xQ : Sp := fun vs H Q _ => ∃ (lu : Addr) (us : List V) (at_ : Nat),vs = [.ref lu,.int (at_ : Int)] ∧ H lu = some (.lst us) ∧ (us.length ≤ 1000000 ∧ Fl us) ∧ gi (rowAt us at_) at_ H Q
theorem my : aW ["_law_units_here", "_law_at", "_law_word", "_law_box", "_law_low", "_law_far", "_law_boxes", "_law_bounds"] ["_law_units_here", "_law_at"] (aq lI) := ⟨rfl,rfl,rfl,by decide +kernel,rfl,by decide +kernel,by decide +kernel⟩
theorem A1 {f fF fT fW : Addr} {fd EZ xc kj : FuncData} (F : fq K "_law_next" "_law_next" lI f fd) (T : Txt K w.params mg) (GF : aY P w K mg base cQ 2 fF EZ ["_law_unit"] ud) (kF : KI K fF) (bF : Binds K EZ ["_law_unit"] []) (mF : mg "_law_first" = some (.ref fF)) (GT : aY P w K mg base cQ 2 fT xc ["_law_units_here", "_law_at", "_law_box"] uc) (kT : KI K fT) (bT : Binds K xc ["_law_units_here", "_law_at", "_law_box"] []) (mT : mg "_law_table" = some (.ref fT)) (GW : aY P w K mg base cQ 1 fW kj ["_law_unit", "_law_least", "_law_most"] ko) (kW : KI K fW) (bW : Binds K kj ["_law_unit", "_law_least", "_law_most"] []) (mW : mg "_law_whole" = some (.ref fW)) : aY P w K mg base cQ 3 f fd ["_law_units_here", "_law_at"] xQ := by
 refine F.ok my (fun vs H Q E h => ?_) (fun cdv A outer s H vs Q E hr h => ?_)
 ·obtain ⟨lu,us,at_,rfl,_⟩ := h
  rfl
 ·obtain ⟨lu,us,at_,rfl,hu,hl,k⟩ := h
  have BX := hr.mono (show 1 ≤ _ by decide)
  have hu1 := hr.u 1
  refine dS (ao (bj (iD (az sT (pv 1) (bf aU (by rfl) T.len cM (af (pv 0) aj)) (aL _)) (eZ (az lj (aK GF hr (by rfl) mF kF bF .nil ck (af (aE aQ (pv 0) (pv 1) (fun _ _ => rfl)) aj)) cH (aL _)))).pt (ay (aw (aA (aI (af cH (af (pv 1) aj)))))) (aR aD))
   (ao (aw (qQ (aK GF hr (by rfl) mF kF bF .nil ck (af (aE aQ (pv 0) (pv 1) (fun _ _ => rfl)) aj)) (qP (n := 4) rfl (dA (cq (i := 2) my.nd rfl (Or.inl rfl)) (dA (cq (i := 3) my.nd rfl (Or.inl rfl)) (dA (cq (i := 4) my.nd rfl (Or.inl rfl)) (dA (cq (i := 5) my.nd rfl (Or.inl rfl)) nA)))))))
   (ao (bj (az bg (pv 2) (aI (af ak (af ak aj))) rfl) (ay (aw (aA (aI (af (aI (af (pv 2) aj)) (af (au aO (pv 1) ai) aj)))))) (aR aD))
   (ao (bj (az cw (pv 2) ak (aL _)) (ay (aw (aA (aI (af (aI (af (pv 2) (af (pv 3) aj))) (af (au aO (pv 1) ai) aj)))))) (aR aD))
   (ao (bj (az bg (pv 2) (dG (.cons ak (.cons ak (.cons ak (.cons ak (.cons ak .nil)))))) rfl) (ay (aw (aA (aI (af (aI (af (pv 2) (af (pv 3) (af (pv 4) aj)))) (af (au aO (pv 1) ai) aj)))))) (aR aD))
   (gN (aw (aF (i := 6) my.nd rfl (Or.inl rfl) (au zQ (aI (af (pv 3) aj)) (bA dv (by rfl) T.int fK (af (cF bg (pv 2) (aI (af ak (af ak aj))) rfl) aj)))))
   (gN (bj (gX (az bg (pv 2) (dG (.cons ak (.cons ak (.cons ak (.cons ak (.cons ak .nil)))))) rfl) (gW (az cw (pv 5) ai (aL _)))).pt (ay (aw (aA (aI (af (au jd (au jd (aI (af (pv 2) aj)) (pv 6)) (aI (af (au dU (pv 4) ai) (af ai aj)))) (af (au aO (pv 1) ai) aj)))))) (aR aD))
   (ao (bj (az sT (au aO (pv 1) ai) (bf aU (by rfl) T.len cM (af (pv 0) aj)) (aL _)) (ay (aw (aA (aI (af cH (af (au aO (pv 1) ai) aj)))))) (aR aD))
   (ao (bj (az cw (pv 2) ak (aL _)) (ay (aw (aA (aK GT hr (by rfl) mT kT bT .nil ck (af (pv 0) (af (pv 1) (af (pv 3) aj))))))) (aR aD))
   (gN (iV (rV (i := 7) my.nd rfl (Or.inl rfl) (y6 hu1 E4 E4 (pv 2) K6 rfl rfl rfl)))
   (gN (bj (az cw (pv 5) ai (aL _)) (ay (aw (aF (i := 7) my.nd rfl (Or.inl rfl) (aI (af cH (af cH aj)))))) (aR aD))
   (ao (bj (dI (cP (aK GW BX (by rfl) mW kW bW .nil ck (af (aE aQ (pv 0) (au aO (pv 1) ai) (fun _ _ => rfl)) (af (aE aN (pv 7) ai (fun _ _ => rfl)) (af (aE aN (pv 7) ai (fun _ _ => rfl)) aj)))))) (ay (aw (aA (aI (af cH (af (au aO (pv 1) ai) aj)))))) (aR aD))
   (ao (bj (az cw (pv 5) ai (aL _)) (ay (aw (aA (aI (af (au jd (au jd (aI (af (pv 2) aj)) (pv 6)) (aI (af (aE aQ (pv 0) (au aO (pv 1) ai) (fun _ _ => rfl)) (af ai aj)))) (af (au aO (pv 1) ai) aj)))))) (aR aD))
   (ao (bj (az cw (pv 2) ak (aL _)) (ay (aw (aA (aI (af (aI (af (pv 2) (af (aE aQ (pv 0) (au aO (pv 1) ai) (fun _ _ => rfl)) aj))) (af (au aO (pv 1) ai) aj)))))) (aR aD))
   (ay (aw (aA (aI (af (aI (af (pv 2) (af (pv 3) (af (aE aQ (pv 0) (au aO (pv 1) ai) (fun _ _ => rfl)) aj)))) (af (au aO (pv 1) ai) aj)))))))))))))))))))) ?_
  refine ⟨_,rfl,_,rfl,lu,_,rfl,.inl (bq.of hu),_,_,rfl,rfl,_,rfl,?_⟩
  by_cases hge : us.length ≤ at_
  ·refine bz (decide_eq_true (by omega)) ?_
   have hn : (uA us (at_)) = none := nM hge
   have kk := iY (x := at_) (by unfold rowAt; rw [hn]) k
   exact bz rfl ⟨_,rfl,aJ,fun t nt => kk t _ (ae nt) ah⟩
  refine bY (fun z => hge (by have := of_decide_eq_true z; omega)) ?_
  have hx : us[at_]? = some (us[at_]'(by omega)) := List.getElem?_eq_getElem _
  have Jm := hl.2.get hx
  generalize us[at_]'(by omega) = u at hx Jm
  have hat : j4 us (at_ : Int) = some u := cI hx
  rw [il hx] at k
  refine ⟨_,rfl,_,rfl,lu,_,_,u,rfl,rfl,bq.of hu,hat,u,rfl,Jm,?_⟩
  cases hh : (wn u).bind gj with
  | none =>
   rw [hh] at k
   have kk := iY (x := at_) rfl k
   intro G1 s1
   exact ⟨rfl,_,rfl,bz (by decide) ⟨_,rfl,aJ,fun t nt => kk t _ (s1.trans (ae nt)) ah⟩⟩
  | some v =>
   obtain ⟨h,a,low⟩ := v
   rw [hh] at k
   have k : gi (cm us at_ h a low) at_ H Q := k
   have hmem : h ∈ heads := by
    cases hwn : wn u with
    | none => rw [hwn] at hh; cases hh
    | some y => rw [hwn] at hh; exact y8 hh
   intro t1 G1 s1 ht1
   refine ⟨rfl,_,rfl,bY (by simp) ?_⟩
   refine ⟨_,rfl,_,rfl,lu,_,_,u,rfl,rfl,bq.of (s1 _ _ hu),hat,u,rfl,Jm,?_⟩
   rw [hh]
   intro t2 G2 s2' BR
   have s2 := s1.trans s2'
   refine ⟨t2,_,rfl,aZ.of BR,rfl,_,_,rfl,_,_,rfl,_,_,rfl,_,_,rfl,rfl,?_⟩
   refine ⟨_,rfl,aJ,fun t3 uH => ⟨t3,(["stop", "back"] : List Str).map V.str,rfl,.inr (aZ.of ah),rfl,rfl,_,rfl,?_⟩⟩
   have s3 := s2.trans (ae (o := .tup [V.str "stop",V.str "back"]) uH)
   rw [show inV (.str h.1) ((["stop", "back"] : List Str).map V.str) = decide (h.1 ∈ (["stop", "back"] : List Str)) from bt _ _]
   generalize upd G2 t3 (.tup [V.str "stop",V.str "back"]) = G3 at s3 ⊢
   by_cases c1 : h.1 ∈ (["stop", "back"] : List Str)
   ·refine bz (decide_eq_true c1) ?_
    have kk := iq (xN c1) k
    obtain ⟨f1,f2⟩ := (by decide +kernel : ∀ u ∈ (["stop", "back"] : List Str),(¬ u = "table" ∧ ¬ u ∈ five ∧ ¬ u ∈ six) ∧ (eu 0 u ∧ ¬ u ∈ w2 ∧ ¬ u ∈ w1)) _ c1
    refine ⟨_,rfl,dD,fun p np => ⟨_,rfl,_,_,rfl,rfl,aJ,fun t nt => ?_⟩⟩
    exact kk p t _ (s3.trans ((ae np).trans (ae nt))) ((oK f2 ah).same (ae nt)) (by rw [vI f1]; exact ah)
   refine bY (fun z => c1 (of_decide_eq_true z)) ?_
   refine ⟨_,rfl,rfl,_,rfl,?_⟩
   by_cases c2 : h.1 = "tell"
   ·refine bz (by rw [c2]; decide) ?_
    have kk := iq (qF c2) k
    obtain ⟨f1,f2⟩ := (by decide +kernel : ∀ u ∈ (["tell"] : List Str),(¬ u = "table" ∧ ¬ u ∈ five ∧ ¬ u ∈ six) ∧ (eu 1 u ∧ ¬ u ∈ w2)) h.1 (by rw [c2]; decide)
    refine ⟨_,rfl,_,rfl,aJ,fun p np => ⟨_,rfl,_,_,rfl,rfl,aJ,fun t nt => ?_⟩⟩
    exact kk p t _ (s3.trans ((ae np).trans (ae nt))) ((jy f2 ah).same (ae nt)) (by rw [vI f1]; exact ah)
   refine bY (fun z => c2 (strEq z)) ?_
   refine ⟨_,rfl,iS,fun t4 zq => ⟨t4,(["copy", "add", "less", "load", "keep"] : List Str).map V.str,rfl,.inr (aZ.of ah),rfl,rfl,_,rfl,?_⟩⟩
   have s4 := s3.trans (ae (o := .tup [V.str "copy",V.str "add",V.str "less",V.str "load",V.str "keep"]) zq)
   rw [show inV (.str h.1) ((["copy", "add", "less", "load", "keep"] : List Str).map V.str) = decide (h.1 ∈ (["copy", "add", "less", "load", "keep"] : List Str)) from bt _ _]
   generalize upd G3 t4 (.tup [V.str "copy",V.str "add",V.str "less",V.str "load",V.str "keep"]) = G4 at s4 ⊢
   by_cases c3 : h.1 ∈ w2
   ·refine bz (decide_eq_true c3) ?_
    have kk := iq (xO c3) k
    obtain ⟨f1,f2⟩ := (by decide +kernel : ∀ u ∈ w2,(¬ u = "table" ∧ ¬ u ∈ five ∧ ¬ u ∈ six) ∧ eu 2 u) _ c3
    refine ⟨_,rfl,_,rfl,_,rfl,ef,fun p np => ⟨_,rfl,_,_,rfl,rfl,aJ,fun t nt => ?_⟩⟩
    exact kk p t _ (s4.trans ((ae np).trans (ae nt))) ((jx f2 ah).same (ae nt)) (by rw [vI f1]; exact ah)
   refine bY (fun z => c3 (of_decide_eq_true z)) ?_
   refine ⟨fun σ G => ∃ tb : Addr,σ = [some (.ref lu),some (.int (at_ : Int)),some (.str h.1),some (.int a),some (.int low),some (.int h.2),some (.ref tb),none] ∧ Same H G ∧ G tb = some (.tup (if h.1 ∈ zb then [V.int a] else [])),?_,?_⟩
   ·refine ⟨_,rfl,dD,fun tb HE => ⟨_,rfl,aJ,fun t5 BV => ⟨t5,(["zero", "below"] : List Str).map V.str,rfl,.inr (aZ.of ah),rfl,rfl,.inr ⟨_,rfl,?_⟩⟩⟩⟩
    have sb := (s4.trans (ae (o := .tup [V.int a]) HE)).trans (ae (o := .tup [V.str "zero",V.str "below"]) BV)
    have hb := ae (o := .tup [V.str "zero",V.str "below"]) BV _ _ (ah (H := G4) (a := tb) (o := .tup [V.int a]))
    rw [show (if false = true then !inV (.str h.1) ((["zero", "below"] : List Str).map V.str) else inV (.str h.1) ((["zero", "below"] : List Str).map V.str)) = decide (h.1 ∈ zb) from bt _ _]
    by_cases z : h.1 ∈ zb
    ·rw [if_pos (decide_eq_true z),if_pos z]
     exact ⟨tb,1,[V.int a],rfl,rfl,aZ.of hb,cons_ne_nil _ _,.inr rfl,fun _ => ⟨tb,rfl,sb,hb⟩,fun y => absurd y (by decide)⟩
    ·rw [if_neg (fun y => z (of_decide_eq_true y)),if_neg z]
     exact ⟨tb,0,[V.int a],rfl,rfl,aZ.of hb,cons_ne_nil _ _,.inl rfl,fun y => absurd y (by decide),fun _ p np => ⟨p,rfl,sb.trans (ae np),ah⟩⟩
   clear s4 s3 s2 ht1 BR
   rintro σ G5 ⟨tb,rfl,s5,htb⟩
   refine ⟨fun σ G => σ = Qv lu at_ h a low tb none ∧ Same H G ∧ G tb = some (.tup (if h.1 ∈ zb then [V.int a] else [])) ∧ ¬ (h.1 ∈ five ∧ h.2 = 0),?_,?_⟩
   ·refine ⟨_,rfl,iS,fun t6 Jg => ⟨t6,(["jump", "zero", "below", "call", "mark"] : List Str).map V.str,rfl,.inr (aZ.of ah),rfl,rfl,_,rfl,?_⟩⟩
    have s6 := s5.trans (ae (o := .tup [V.str "jump",V.str "zero",V.str "below",V.str "call",V.str "mark"]) Jg)
    have Dn := ae (o := .tup [V.str "jump",V.str "zero",V.str "below",V.str "call",V.str "mark"]) Jg _ _ htb
    rw [show inV (.str h.1) ((["jump", "zero", "below", "call", "mark"] : List Str).map V.str) = decide (h.1 ∈ five) from (bt _ _).trans (decide_eq_decide.mpr ⟨(by decide +kernel : ∀ u ∈ (["jump", "zero", "below", "call", "mark"] : List Str),u ∈ five) _,(by decide +kernel : ∀ u ∈ five,u ∈ (["jump", "zero", "below", "call", "mark"] : List Str)) _⟩)]
    generalize upd G5 t6 (.tup [V.str "jump",V.str "zero",V.str "below",V.str "call",V.str "mark"]) = G6 at s6 Dn ⊢
    clear htb s5
    have xR := s6 _ _ hu
    by_cases c5 : h.1 ∈ five
    ·refine bz (decide_eq_true c5) ?_
     refine ⟨_,rfl,rfl,_,rfl,?_⟩
     by_cases h0 : h.2 = 0
     ·refine bz (by rw [h0]; decide) ?_
      have kk := iq (by rw [jA c5]; unfold iX; rw [if_pos h0]) k
      refine ⟨_,rfl,dD,fun t7 sM => ⟨_,rfl,t7,tb,[V.str h.1],_,rfl,rfl,ah,aZ.of (ae sM _ _ Dn),cons_ne_nil _ _,le_trans (Nat.add_le_add_left rW 1) (by decide),fun t8 G8 s8 h8 => ?_⟩⟩
      refine ⟨_,rfl,_,_,rfl,rfl,aJ,fun t9 AV => ⟨t8,t9,_,[V.int (low - 64),V.int 0],rfl,rfl,ae AV _ _ h8,aZ.of ah,cons_ne_nil _ _,le_trans (Nat.add_le_add_right (show ([V.str h.1] ++ (if h.1 ∈ zb then [V.int a] else [])).length ≤ 2 by rw [length_append]; exact Nat.add_le_add_left rW 1) _) (show 4 ≤ sizeLine by decide),fun p Gp sp hp => ?_⟩⟩
      refine ⟨_,rfl,_,_,rfl,rfl,aJ,fun t nt => ?_⟩
      refine kk p t _ (s6.trans ((ae sM).trans (s8.trans ((ae AV).trans (sp.trans (ae nt)))))) (kl c5 ?_) (by rw [K9 c5,h0]; exact ah)
      rw [← e4c,h0]
      exact ae nt _ _ hp
     ·exact bY (by simp [h0]) ⟨rfl,s6,Dn,fun y => h0 y.2⟩
    ·exact bY (fun y => c5 (of_decide_eq_true y)) ⟨rfl,s6,Dn,fun y => c5 y.1⟩
   clear s5 htb
   rintro σ G7 ⟨rfl,s7,Lb,c5⟩
   have xR := s7 _ _ hu
   refine ⟨_,rfl,_,_,rfl,rfl,_,rfl,lu,_,rfl,.inl (bq.of xR),_,_,rfl,rfl,_,rfl,?_⟩
   by_cases Lc : us.length ≤ at_ + 1
   ·refine bz (decide_eq_true (by omega)) ?_
    have kk := iY (oU hmem c1 c2 c3 c5 (nM Lc)) k
    exact ⟨_,rfl,_,_,rfl,rfl,aJ,fun t nt => kk t _ (s7.trans (ae nt)) ah⟩
   refine bY (fun z => Lc (by have := of_decide_eq_true z; omega)) ?_
   refine ⟨_,rfl,rfl,_,rfl,?_⟩
   by_cases c6 : h.1 = "table"
   ·refine bz (by rw [c6]; decide) ?_
    rw [oV c6] at k
    exact ⟨_,rfl,_,rfl,_,rfl,lu,us,at_,a,rfl,xR,hl,by omega,y9 s7 k⟩
   refine bY (fun z => c6 (strEq z)) ?_
   have hx1 : us[at_ + 1]? = some (us[at_ + 1]'(by omega)) := List.getElem?_eq_getElem _
   have hv1 := hl.2.get hx1
   generalize us[at_ + 1]'(by omega) = v1 at hx1 hv1
   have Dp : j4 us ((at_ : Int) + 1) = some v1 := cI (j := at_ + 1) hx1
   have cp : n9 10 9 := ⟨by decide,by decide,by decide⟩
   have Qw : n9 10 6 := ⟨by decide,by decide,by decide⟩
   refine ⟨fun σ G => ∃ tq : Addr,σ = Qv lu at_ h a low tb (some (.ref tq)) ∧ Same H G ∧ G tb = some (.tup (if h.1 ∈ zb then [V.int a] else [])) ∧ G tq = some (.tup [V.int (nS h.1),V.int (nU h.1)]),?_,?_⟩
   ·refine fun p0 np0 => ?_
    have s8 := s7.trans (ae (o := .dK []) np0)
    have hp8 : upd G7 p0 (.dK []) p0 = _ := ah
    generalize hG8 : upd G7 p0 (.dK []) = G8 at s8 hp8 ⊢
    refine ⟨_,_,rfl,rfl,cp,_,_,rfl,rfl,_,_,rfl,rfl,cp,aJ,fun q1 Qx => ?_⟩
    refine ⟨_,_,rfl,rfl,cp,_,_,rfl,rfl,_,_,rfl,rfl,cp,aJ,fun q2 Oe => ?_⟩
    have hq1 := ae (o := .tup [V.int (0 - 10 ^ (9 : Int).toNat),V.int (10 ^ (9 : Int).toNat)]) Oe _ _ (ah (H := G8) (a := q1) (o := .tup [V.int (0 - 10 ^ (9 : Int).toNat),V.int (10 ^ (9 : Int).toNat)]))
    have za := ae (o := .tup [V.int (0 - 10 ^ (9 : Int).toNat),V.int (10 ^ (9 : Int).toNat)]) Oe _ _ (ae (o := .tup [V.int (0 - 10 ^ (9 : Int).toNat),V.int (10 ^ (9 : Int).toNat)]) Qx _ _ hp8)
    have BQ := (s8.trans (ae (o := .tup [V.int (0 - 10 ^ (9 : Int).toNat),V.int (10 ^ (9 : Int).toNat)]) Qx)).trans (ae (o := .tup [V.int (0 - 10 ^ (9 : Int).toNat),V.int (10 ^ (9 : Int).toNat)]) Oe)
    have hq2 : upd (upd G8 q1 (.tup [V.int (0 - 10 ^ (9 : Int).toNat),V.int (10 ^ (9 : Int).toNat)])) q2 (.tup [V.int (0 - 10 ^ (9 : Int).toNat),V.int (10 ^ (9 : Int).toNat)]) q2 = _ := ah
    have Ld : upd (upd G8 q1 (.tup [V.int (0 - 10 ^ (9 : Int).toNat),V.int (10 ^ (9 : Int).toNat)])) q2 (.tup [V.int (0 - 10 ^ (9 : Int).toNat),V.int (10 ^ (9 : Int).toNat)]) tb = some (.tup (if h.1 ∈ zb then [V.int a] else [])) := ae Oe _ _ (ae Qx _ _ (by rw [← hG8]; exact ae np0 _ _ Lb))
    generalize upd (upd G8 q1 (.tup [V.int (0 - 10 ^ (9 : Int).toNat),V.int (10 ^ (9 : Int).toNat)])) q2 (.tup [V.int (0 - 10 ^ (9 : Int).toNat),V.int (10 ^ (9 : Int).toNat)]) = HF at hq1 hq2 za BQ Ld ⊢
    refine ⟨za,[(Sum.inr "set",.ref q1),(Sum.inr "more",.ref q2)],rfl,(by show 2 ≤ 15; decide),?_⟩
    rw [Dm]
    have N3 : Same H (upd HF p0 (.dK [(Sum.inr "set",.ref q1),(Sum.inr "more",.ref q2)])) := bh BQ (s7.free np0)
    have ne1 : ∀ (q : Addr) (xs : List V),HF q = some (.tup xs) → upd HF p0 (.dK [(Sum.inr "set",.ref q1),(Sum.inr "more",.ref q2)]) q = some (.tup xs) := fun q xs hq => by
     rw [aX (fun z => by rw [z,za] at hq; cases hq)]
     exact hq
    have g1 := ne1 _ _ hq1
    have g2 := ne1 _ _ hq2
    have gb := ne1 _ _ Ld
    have gp : upd HF p0 (.dK [(Sum.inr "set",.ref q1),(Sum.inr "more",.ref q2)]) p0 = _ := ah
    generalize upd HF p0 (.dK [(Sum.inr "set",.ref q1),(Sum.inr "more",.ref q2)]) = G11 at N3 g1 g2 gb gp ⊢
    refine ⟨p0,rfl,.inl ⟨_,.inl gp⟩,_,rfl,_,_,rfl,rfl,Qw,aJ,fun q3 HG => ?_⟩
    refine ⟨_,mI.k (k := Sum.inr h.1) (ae HG _ _ gp),?_⟩
    rw [La]
    have hcase := (by decide +kernel : ∀ h ∈ heads,h.1 = "set" ∨ h.1 = "more" ∨ ¬ h.1 ∈ (["set", "more"] : List Str)) h hmem
    have s12 := N3.trans (ae (o := .tup [V.int 0,V.int (10 ^ (6 : Int).toNat)]) HG)
    rcases hcase with z | z | z
    ·rw [if_pos z]
     refine ⟨q1,rfl,s12,ae HG _ _ gb,?_⟩
     rw [ae HG _ _ g1,show nS h.1 = 0 - 10 ^ (9 : Int).toNat by rw [z]; decide,show nU h.1 = 10 ^ (9 : Int).toNat by rw [z]; decide]
    ·rw [if_neg (show ¬ h.1 = "set" by rw [z]; decide),if_pos z]
     refine ⟨q2,rfl,s12,ae HG _ _ gb,?_⟩
     rw [ae HG _ _ g2,show nS h.1 = 0 - 10 ^ (9 : Int).toNat by rw [z]; decide,show nU h.1 = 10 ^ (9 : Int).toNat by rw [z]; decide]
    ·rw [if_neg (show ¬ h.1 = "set" from fun y => z (by rw [y]; decide)),if_neg (show ¬ h.1 = "more" from fun y => z (by rw [y]; decide))]
     refine ⟨q3,rfl,s12,ae HG _ _ gb,?_⟩
     rw [ah,show nS h.1 = 0 from if_neg z,show nU h.1 = 10 ^ (6 : Int).toNat from if_neg z]
   clear Lb s7 xR
   rintro σ G12 ⟨tq,rfl,s12,A2,E7⟩
   refine ⟨fun σ G => ∃ tq : Addr,σ = Qv lu at_ h a low tb (some (.ref tq)) ∧ Same H G ∧ G tb = some (.tup (if h.1 ∈ zb then [V.int a] else [])) ∧ G tq = some (.tup [Hx (ip h).1,Hx (ip h).2]),?_,?_⟩
   ·refine ⟨_,rfl,rfl,_,rfl,?_⟩
    by_cases h1 : h.2 = 1
    ·refine bz (by rw [h1]; decide) ⟨aJ,fun q nq => ⟨q,rfl,s12.trans (ae nq),ae nq _ _ A2,?_⟩⟩
     rw [ah,show ip h = (none,none) from if_pos h1]
     rfl
    ·refine bY (by simp [h1]) ⟨tq,rfl,s12,A2,?_⟩
     rw [E7,show ip h = (some (nS h.1),some (nU h.1)) from if_neg h1]
     rfl
   clear A2 s12 E7
   rintro σ G13 ⟨tq,rfl,Jo,Le,E8⟩
   have xR := Jo _ _ hu
   refine ⟨_,rfl,_,rfl,_,_,rfl,rfl,lu,_,_,v1,rfl,rfl,bq.of xR,Dp,_,rfl,tq,_,0,_,rfl,rfl,aZ.of E8,at0 _ _,_,rfl,tq,_,1,_,rfl,rfl,aZ.of E8,at1 _ _ _,v1,(ip h).1,(ip h).2,rfl,hv1,_,rfl,?_⟩
   cases hwn : wn v1 with
   | none =>
    have kk := iY (oU hmem c1 c2 c3 c5 ((mq hx1).trans hwn)) k
    refine bz (by unfold oR; rw [hwn]; rfl) ?_
    exact ⟨_,rfl,_,_,rfl,rfl,aJ,fun t nt => kk t _ (Jo.trans (ae nt)) ah⟩
   | some n =>
   have hvn : v1 = .int n := by cases v1 <;> cases hwn; rfl
   subst hvn
   have hn : uA us (at_ + 1) = some n := (mq hx1).trans hwn
   by_cases hw : dy n (ip h).1 (ip h).2 = true
   ·refine bY (by show ¬ (!dy n (ip h).1 (ip h).2) = true; rw [hw]; decide) ?_
    refine ⟨_,rfl,rfl,_,rfl,?_⟩
    by_cases h1 : h.2 = 1
    ·refine bz (by rw [h1]; decide) ?_
     have c5' := (xP h hmem).2 h1
     have kk := iq (uf hmem h1 hn) k
     refine ⟨_,rfl,dD,fun t7 sM => ⟨_,rfl,t7,tb,[V.str h.1],_,rfl,rfl,ah,aZ.of (ae sM _ _ Le),cons_ne_nil _ _,le_trans (Nat.add_le_add_left rW 1) (by decide),fun t8 G8 s8 h8 => ?_⟩⟩
     refine ⟨_,rfl,_,rfl,_,_,rfl,rfl,lu,_,_,.int n,rfl,rfl,bq.of (s8 _ _ (ae sM _ _ xR)),Dp,aJ,fun t9 AV => ⟨t8,t9,_,[V.int n,V.int 1],rfl,rfl,ae AV _ _ h8,aZ.of ah,cons_ne_nil _ _,le_trans (Nat.add_le_add_right (show ([V.str h.1] ++ (if h.1 ∈ zb then [V.int a] else [])).length ≤ 2 by rw [length_append]; exact Nat.add_le_add_left rW 1) _) (show 4 ≤ sizeLine by decide),fun p Gp sp hp => ?_⟩⟩
     refine ⟨_,rfl,_,_,rfl,rfl,aJ,fun t nt => ?_⟩
     refine kk p t _ (Jo.trans ((ae sM).trans (s8.trans ((ae AV).trans (sp.trans (ae nt)))))) (kl c5' ?_) (by rw [K9 c5',h1]; exact ah)
     rw [← e4c,h1]
     exact ae nt _ _ hp
    refine bY (by simp [h1]) ?_
    have hin := A0 h1 hw
    have h0 : h.2 = 0 := (xP h hmem).1.resolve_right h1
    refine ⟨_,rfl,rfl,_,rfl,?_⟩
    by_cases c7 : h.1 = "halt"
    ·refine bz (by rw [c7]; decide) ?_
     have kk := iq ((jB c7).trans (by rw [hn]; exact if_pos hin)) k
     obtain ⟨f1,f2⟩ := (by decide +kernel : ∀ u ∈ (["halt"] : List Str),(¬ u = "table" ∧ ¬ u ∈ five ∧ u ∈ six) ∧ (eu 1 u ∧ ¬ u ∈ w2)) h.1 (by rw [c7]; decide)
     refine ⟨_,rfl,_,rfl,_,rfl,_,_,rfl,rfl,lu,_,_,.int n,rfl,rfl,bq.of xR,Dp,aJ,fun p np => ⟨_,rfl,_,_,rfl,rfl,aJ,fun t nt => ?_⟩⟩
     exact kk p t _ (Jo.trans ((ae np).trans (ae nt))) ((jy f2 ah).same (ae nt)) (by rw [AY f1]; exact ah)
    refine bY (fun z => c7 (strEq z)) ?_
    have c8 : h.1 ∈ (["set", "more", "see", "put", "take"] : List Str) := by
     rcases AX h hmem with z | z | z | z | z | z | z
     ·exact absurd z.1 c1
     ·exact absurd z c2
     ·exact absurd z c3
     ·exact absurd z c6
     ·exact absurd ⟨z,h0⟩ c5
     ·exact absurd z c7
     ·exact z
    have kk := iq ((nV c8).trans (by rw [hn]; exact if_pos hin)) k
    obtain ⟨f1,f2⟩ := (by decide +kernel : ∀ u ∈ (["set", "more", "see", "put", "take"] : List Str),(¬ u = "table" ∧ ¬ u ∈ five ∧ u ∈ six) ∧ eu 2 u) h.1 c8
    refine ⟨_,rfl,_,rfl,_,rfl,_,rfl,_,_,rfl,rfl,lu,_,_,.int n,rfl,rfl,bq.of xR,Dp,ef,fun p np => ⟨_,rfl,_,_,rfl,rfl,aJ,fun t nt => ?_⟩⟩
    exact kk p t _ (Jo.trans ((ae np).trans (ae nt))) ((jx f2 ah).same (ae nt)) (by rw [AY f1]; exact ah)
   ·refine bz (by show (!dy n (ip h).1 (ip h).2) = true; rw [Bool.eq_false_iff.mpr hw]; decide) ?_
    have kk := iY (AZ hmem c1 c2 c3 c5 c6 hn hw) k
    exact ⟨_,rfl,_,_,rfl,rfl,aJ,fun t nt => kk t _ (Jo.trans (ae nt)) ah⟩
end
section
variable {P : Program} {w : World} {K : Frag} {mg : Str → Option Value} {base : Heap}
def xS : Sp := fun vs H Q _ => ∃ (q pd : Addr) (d : FR) (b : Int) (kvs : List (Key × V)) (PL : Int → Option Nat),vs = [.ref q,.int b,.ref pd] ∧ bQ H q d ∧ d.ts.length ≤ 16 ∧ H pd = some (.dK kvs) ∧ (∀ x,dB kvs (Sum.inl x) = (PL x).map fun r : Nat => V.int (r : Int)) ∧
 (none ∈ (d.ts.map fun x => PL (b + x)) → ∀ H',Same H H' → Q .non H') ∧ (¬ none ∈ (d.ts.map fun x => PL (b + x)) → ∀ (p : Addr) (H' : Hp),Same H H' → bQ H' p (d4 d ((d.ts.map fun x => PL (b + x)).map fun o => ((o.getD 0 : Nat) : Int))) → Q (.ref p) H')
theorem A3 : aW ["_law_row_here", "_law_behind", "_law_places", "_law_target", "_law_targets_here"] ["_law_row_here", "_law_behind", "_law_places"] (aq jP) := ⟨rfl,rfl,rfl,by decide +kernel,rfl,by decide +kernel,by decide +kernel⟩
def Dq : Scope := { kind := .function,names := [(".0",.local),("_law_distance_here",.local),("_law_behind",.free),("_law_places",.free)],isGenerator := false,isCoroutine := false,more := [] }
theorem xT : dq (aq jP) Dq ["_law_row_here", "_law_behind", "_law_places", "_law_target", "_law_targets_here"] ["_law_distance_here", "_law_places", "_law_behind"] [none,some 2,some 1] := ⟨rfl,by decide +kernel,by decide +kernel,by decide +kernel,by decide +kernel,by decide +kernel⟩
theorem A4 {f : Addr} {fd : FuncData} (F : fq K "_law_aimed" "_law_aimed" jP f fd) (T : Txt K w.params mg) : aY P w K mg base cQ 1 f fd ["_law_row_here", "_law_behind", "_law_places"] xS := by
 refine F.ok A3 (fun vs H Q E h => ?_) (fun cdv A outer s H vs Q E hr h => ?_)
 ·obtain ⟨q,pd,d,b,kvs,PL,rfl,_⟩ := h
  rfl
 ·obtain ⟨q,pd,d,b,kvs,PL,rfl,hR,htl,hp,hv,k1,k2⟩ := h
  obtain ⟨items,i1,_⟩ := hR.parts
  have hu1 := hr.u 1
  refine dS (ao (bj (az bg (aE aN (pv 0) ai (fun _ _ => rfl)) (dG (.cons ak (.cons ak (.cons ak (.cons ak (.cons ak .nil)))))) rfl) (ao (aw (aF (i := 3) A3.nd rfl (Or.inl rfl) (oh hu1 (pv 2) (au aO (pv 1) (aE aN (pv 0) (dQ cT ai) (fun _ _ => rfl))) ⟨rfl,rfl,rfl,rfl⟩)))
   (ay (aw (aA (aE aQ (bw (af (au jd (dk ly (pv 0) fV (dj (dQ cT ai))) (aI (af (pv 3) (af (aE aN (pv 0) (dQ cT ai) (fun _ _ => rfl)) aj)))) (af cH aj))) (bA dv (by rfl) T.int fK (af (cF lj (pv 3) cH (aL _)) aj)) (fun _ _ => rfl)))))) (aR aD))
   (ao (bj (az cw (aE aN (pv 0) ai (fun _ _ => rfl)) ak (aL _)) (ao (aw (aF (i := 4) A3.nd rfl (Or.inl rfl) (bA cJ (by rfl) T.tuple eM (af (fY (N' := ["_law_distance_here", "_law_places", "_law_behind"]) (fr := [none,some 2,some 1]) xT rfl (qR (aE aN (pv 0) ai (fun _ _ => rfl))) (fun C s0 H0 fp => (cq (i := 0) xT.nd rfl (Or.inl rfl))) (fun C s0 H0 fp => eI) (fun C s0 H0 fp => (oh hu1 (pv 1) (au aO (pv 2) (pv 0)) ⟨rfl,rfl,rfl,rfl⟩))) aj))))
   (ay (aw (aA (aE aQ (bw (af (au jd (dk ly (pv 0) fV (dj ai)) (aI (af (pv 4) aj))) (af cH aj))) (bA dv (by rfl) T.int fK (af (cF bg cH (pv 4) rfl) aj)) (fun _ _ => rfl)))))) (aR aD))
   (ay (aw (aA (pv 0)))))) ?_
  refine ⟨_,rfl,q,_,0,.str d.u,rfl,rfl,aZ.of i1,at0 _ _,iS,fun t0 Aj => ⟨t0,(["jump", "zero", "below", "call", "mark"] : List Str).map V.str,rfl,.inr (aZ.of ah),rfl,rfl,_,rfl,?_⟩⟩
  have s0 := ae (o := .tup [V.str "jump",V.str "zero",V.str "below",V.str "call",V.str "mark"]) Aj
  rw [show inV (.str d.u) ((["jump", "zero", "below", "call", "mark"] : List Str).map V.str) = decide (d.u ∈ five) from (bt _ _).trans (decide_eq_decide.mpr ⟨(by decide +kernel : ∀ u ∈ (["jump", "zero", "below", "call", "mark"] : List Str),u ∈ five) _,(by decide +kernel : ∀ u ∈ five,u ∈ (["jump", "zero", "below", "call", "mark"] : List Str)) _⟩)]
  generalize upd H t0 (.tup [V.str "jump",V.str "zero",V.str "below",V.str "call",V.str "mark"]) = G0 at s0 ⊢
  by_cases c5 : d.u ∈ five
  ·refine bz (decide_eq_true c5) ?_
   have e5 : ¬ d.u = "table" ∧ G0 q = some (.tup (.str d.u :: d.is.map V.int)) := ⟨(eN (hR.same s0) c5).1,(eN (hR.same s0) c5).2.1⟩
   by_cases ej : d.u ∈ eS
   ·obtain ⟨tt,ff,e1,e2⟩ := hR.1.2.2.1 ej
    have g1 : G0 q = some (.tup [V.str d.u,V.int tt,V.int ff]) := by rw [e5.2,e1]; rfl
    rw [e2] at k1 k2
    refine ⟨_,rfl,pd,rfl,.inl ⟨_,.inl (s0 _ _ hp)⟩,_,rfl,_,rfl,_,rfl,q,_,-2,.int tt,rfl,rfl,aZ.of g1,rfl,_,_,rfl,rfl,_,mI.k (k := Sum.inl (b + tt)) (s0 _ _ hp),?_⟩
    rw [hv,nQ]
    refine ⟨_,rfl,_,rfl,_,rfl,q,_,rfl,aZ.of g1,fun z => absurd z.2 (by decide : ¬ HT.dz 3 3 (some (-2)) = 3),fun p np => ?_⟩
    refine ⟨_,rfl,_,rfl,_,rfl,q,_,-1,.int ff,rfl,rfl,aZ.of (ae np _ _ g1),rfl,aJ,fun t2 gg => ⟨p,t2,[V.str d.u],[rS (PL (b + tt)),V.int ff],rfl,rfl,ae gg _ _ ah,aZ.of ah,cons_ne_nil _ _,(show 3 ≤ sizeLine by decide),fun r Gr sr hr2 => ⟨aJ,fun l nl => ⟨_,rfl,rfl,.inr ⟨_,rfl,?_⟩⟩⟩⟩⟩
    have sl : Same H (upd Gr l (.lst [V.ref r,V.non])) := s0.trans ((ae np).trans ((ae gg).trans (sr.trans (ae nl))))
    cases ho : PL (b + tt) with
    | none =>
     exact ⟨l,_,1,.non,rfl,rfl,bq.of ah,at1 _ _ _,k1 (by show none ∈ [PL (b + tt)]; rw [ho]; exact mem_cons_self ..) _ sl⟩
    | some i =>
     refine ⟨l,_,0,.ref r,rfl,rfl,bq.of ah,at0 _ _,k2 (fun z => by rw [show ([tt].map fun x => PL (b + x)) = [some i] from by show [PL (b + tt)] = _; rw [ho]] at z; cases z with | tail _ z => cases z) r _ sl ?_⟩
     unfold d4
     rw [if_neg (show ¬ d.u = "table" from e5.1),if_pos ej]
     have hf : dt d = ff := by unfold dt; rw [e1]; rfl
     rw [hf,show ([tt].map fun x => PL (b + x)) = [some i] from by show [PL (b + tt)] = _; rw [ho]]
     refine ig ej ?_
     rw [ho] at hr2
     exact ae nl _ _ hr2
   ·have nj := ej
    have ez : d.u ∈ zb := (by decide +kernel : ∀ u ∈ five,¬ u ∈ eS → u ∈ zb) _ c5 ej
    obtain ⟨bb,tt,ff,e1,e2⟩ := hR.1.2.2.2.1 ez
    have g1 : G0 q = some (.tup [V.str d.u,V.int bb,V.int tt,V.int ff]) := by rw [e5.2,e1]; rfl
    rw [e2] at k1 k2
    refine ⟨_,rfl,pd,rfl,.inl ⟨_,.inl (s0 _ _ hp)⟩,_,rfl,_,rfl,_,rfl,q,_,-2,.int tt,rfl,rfl,aZ.of g1,rfl,_,_,rfl,rfl,_,mI.k (k := Sum.inl (b + tt)) (s0 _ _ hp),?_⟩
    rw [hv,nQ]
    refine ⟨_,rfl,_,rfl,_,rfl,q,_,rfl,aZ.of g1,fun z => absurd z.2 (by decide : ¬ HT.dz 4 4 (some (-2)) = 4),fun p np => ?_⟩
    refine ⟨_,rfl,_,rfl,_,rfl,q,_,-1,.int ff,rfl,rfl,aZ.of (ae np _ _ g1),rfl,aJ,fun t2 gg => ⟨p,t2,[V.str d.u,V.int bb],[rS (PL (b + tt)),V.int ff],rfl,rfl,ae gg _ _ ah,aZ.of ah,cons_ne_nil _ _,(show 4 ≤ sizeLine by decide),fun r Gr sr hr2 => ⟨aJ,fun l nl => ⟨_,rfl,rfl,.inr ⟨_,rfl,?_⟩⟩⟩⟩⟩
    have sl : Same H (upd Gr l (.lst [V.ref r,V.non])) := s0.trans ((ae np).trans ((ae gg).trans (sr.trans (ae nl))))
    cases ho : PL (b + tt) with
    | none =>
     exact ⟨l,_,1,.non,rfl,rfl,bq.of ah,at1 _ _ _,k1 (by show none ∈ [PL (b + tt)]; rw [ho]; exact mem_cons_self ..) _ sl⟩
    | some i =>
     refine ⟨l,_,0,.ref r,rfl,rfl,bq.of ah,at0 _ _,k2 (fun z => by rw [show ([tt].map fun x => PL (b + x)) = [some i] from by show [PL (b + tt)] = _; rw [ho]] at z; cases z with | tail _ z => cases z) r _ sl ?_⟩
     unfold d4
     rw [if_neg (show ¬ d.u = "table" from e5.1),if_neg nj,if_pos ez]
     have hf : dt d = ff := by unfold dt; rw [e1]; rfl
     rw [hf,e1,show ([tt].map fun x => PL (b + x)) = [some i] from by show [PL (b + tt)] = _; rw [ho]]
     refine lK ez ?_
     rw [ho] at hr2
     exact ae nl _ _ hr2
  ·refine bY (fun z => c5 (of_decide_eq_true z)) ?_
   refine ⟨_,rfl,q,_,0,.str d.u,rfl,rfl,aZ.of (s0 _ _ i1),at0 _ _,rfl,_,rfl,?_⟩
   by_cases ct : d.u = "table"
   ·refine bz (by rw [ct]; decide) ?_
    rcases (hR.same s0).2 with ⟨_,bx,pt,KY,g1,g2⟩ | ⟨z,_⟩
    ·refine ⟨_,rfl,q,_,2,.ref pt,rfl,rfl,aZ.of g1,at2 _ _ _ _,pt,rfl,⟨_,aZ.of g2⟩,fun D nD => kc (K := K) (a := pt) (xs := d.ts.map V.int) (fun j σ ys Gx => ∃ v : Option V,σ = [v,some (.ref pd),some (.int b)] ∧ ys = ((d.ts.map fun x => PL (b + x)).take j).map rS ∧ Same G0 Gx ∧ Gx D = some (.lst ys)) ?_ ?_ ?_ ?_⟩
     ·exact ⟨none,rfl,rfl,ae nD,ah⟩
     ·rintro j σ ys Gx _ ⟨v,rfl,rfl,sx,_⟩
      exact aZ.of (sx _ _ g2)
     ·rintro j x σ ys Gx hx ⟨v,rfl,rfl,sx,hD⟩
      rw [List.getElem?_map] at hx
      obtain ⟨t,htj,rfl⟩ := map_eq_some_iff.mp hx
      have hpx := sx _ _ (s0 _ _ hp)
      have Hw : (d.ts.map fun x => PL (b + x))[j]? = some (PL (b + t)) := by rw [List.getElem?_map,htj]; rfl
      refine ⟨_,rfl,pd,rfl,.inl ⟨_,.inl hpx⟩,_,rfl,_,rfl,_,_,rfl,rfl,_,mI.k (k := Sum.inl (b + t)) hpx,hD,bK (by rw [length_map,length_take,length_map]; omega),_,rfl,?_,bh sx nD,ah⟩
      rw [hv,nQ,take_add_one,Hw,map_append]
      rfl
     ·rintro σ ys Gx ⟨v,rfl,rfl,sx,hD⟩
      rw [length_map,take_of_length_le (by rw [length_map]; exact le_refl _)] at hD
      generalize hos : (d.ts.map fun x => PL (b + x)) = os at hD k1 k2
      refine ⟨D,_,rfl,.inl ⟨bq.of hD,fun tt tY => ?_⟩⟩
      have s1 := (s0.trans sx).trans (ae (o := .tup (os.map rS)) tY)
      have Hs := ae (o := .tup (os.map rS)) tY _ _ (sx _ _ g1)
      have hT : upd Gx tt (.tup (os.map rS)) tt = _ := ah
      generalize upd Gx tt (.tup (os.map rS)) = G1 at s1 Hs hT ⊢
      have hall : (os.map rS).all iE = true := by
       rw [all_eq_true]
       intro y hy
       obtain ⟨o,_,rfl⟩ := mem_map.mp hy
       cases o <;> rfl
      refine ⟨_,rfl,_,rfl,q,_,rfl,aZ.of Hs,fun z => absurd z.2 (by decide : ¬ HT.dz 3 3 (some 2) = 3),fun p np => ?_⟩
      refine ⟨_,rfl,dD,fun t2 gg => ⟨p,t2,[V.str d.u,V.int bx],[V.ref tt],rfl,rfl,ae gg _ _ ah,aZ.of ah,cons_ne_nil _ _,(show 3 ≤ sizeLine by decide),fun r Gr sr hr2 => ⟨aJ,fun l nl => ?_⟩⟩⟩
      have hT2 := ae (o := .lst [V.ref r,V.non]) nl _ _ (sr _ _ (ae gg _ _ (ae np _ _ hT)))
      refine ⟨_,rfl,tt,os.map rS,rfl,.inr (aZ.of hT2),rfl,hall,.inr ⟨_,rfl,?_⟩⟩
      have sl : Same H (upd Gr l (.lst [V.ref r,V.non])) := s1.trans ((ae np).trans ((ae gg).trans (sr.trans (ae nl))))
      rw [show (if false = true then !inV .non (os.map rS) else inV .non (os.map rS)) = decide (none ∈ os) from xI _]
      by_cases hno : none ∈ os
      ·rw [if_pos (decide_eq_true hno)]
       exact ⟨l,_,1,.non,rfl,rfl,bq.of ah,at1 _ _ _,k1 hno _ sl⟩
      ·rw [if_neg (fun z => hno (of_decide_eq_true z))]
       refine ⟨l,_,0,.ref r,rfl,rfl,bq.of ah,at0 _ _,k2 hno r _ sl ?_⟩
       unfold d4
       rw [if_pos ct,KY]
       refine eY (p := tt) ?_ ?_
       ·rw [← ct]; exact ae nl _ _ hr2
       ·rw [hT2,nO hno]
    ·exact absurd ct z
   ·refine bY (fun z => ct (strEq z)) ?_
    have nj : ¬ d.u ∈ eS := fun z => c5 ((by decide +kernel : ∀ u ∈ eS,u ∈ five) _ z)
    have nz : ¬ d.u ∈ zb := fun z => c5 ((by decide +kernel : ∀ u ∈ zb,u ∈ five) _ z)
    have oM : d.ts = [] := (hR.1.2.2.2.2.1 ct nj nz).1
    rw [oM] at k2
    have k2 := k2 (fun z => by cases z) q G0 s0
    unfold d4 at k2
    rw [if_neg ct,if_neg nj,if_neg nz] at k2
    exact ⟨_,rfl,k2 (hR.same s0)⟩
end
def kQ (ds : List FR) (n : Nat) : List Int := (List.range n).map (beg ds)
theorem ku (ds : List FR) (n : Nat) : (kQ ds n).length = n := by unfold kQ; rw [length_map,length_range]
theorem oW (ds : List FR) (n : Nat) : kQ ds (n + 1) = kQ ds n ++ [beg ds n] := by
 unfold kQ
 rw [range_succ,map_append]
 rfl
theorem A5 (ds : List FR) (n : Nat) : kQ ds n ++ [beg ds n] = iJ ds n := by
 unfold kQ iJ
 rw [range_succ,map_append]
 rfl
theorem rX {ds : List FR} {j : Nat} (l : List FR) (h : j ≤ ds.length) : beg (ds ++ l) j = beg ds j := by
 unfold beg
 rw [List.take_append_of_le_length h]
theorem Dr {ds : List FR} {n : Nat} (l : List FR) (h : n ≤ ds.length) : kQ (ds ++ l) n = kQ ds n := by
 unfold kQ
 exact List.map_congr_left fun j hj => rX l (by have := mem_range.mp hj; omega)
theorem A6 {ds : List FR} {n j : Nat} (h : j < n) : (kQ ds n)[j]? = some (beg ds j) := by
 unfold kQ
 rw [List.getElem?_map,List.getElem?_range h]
 rfl
theorem iu {ds : List FR} (h : ∀ d ∈ ds,fM d ∧ d.ts.length ≤ 16) {i : Nat} : ∀ j,i < j → j ≤ ds.length → beg ds i < beg ds j
 | 0,hi,_ => absurd hi (not_lt_zero _)
 | j + 1,hi,hj => by
  have hd : ds[j]? = some ds[j] := List.getElem?_eq_getElem (by omega)
  have h1 := km (h ds[j] (List.getElem_mem _)).1
  rw [dY hd]
  by_cases e : i = j
  ·subst e; omega
  ·have := iu h (i := i) j (Nat.lt_of_le_of_ne (Nat.le_of_lt_succ hi) e) (Nat.le_of_succ_le hj)
   omega
theorem ug {ds : List FR} {x : Int} : ∀ n,(∀ j,j < n → beg ds j ≠ x) → sO ds n x = none
 | 0,_ => rfl
 | n + 1,h => by
  show (if beg ds n = x then some n else sO ds n x) = none
  rw [if_neg (h n (lt_succ_self n)),ug n fun j hj => h j (by omega)]
def uI (ds : List FR) (n : Nat) : List (Key × V) := (List.range n).map fun k => (Sum.inl (beg ds k),V.int (k : Int))
theorem A7 (ds : List FR) (n : Nat) : uI ds (n + 1) = uI ds n ++ [(Sum.inl (beg ds n),V.int (n : Int))] := by
 unfold uI
 rw [range_succ,map_append]
 rfl
theorem A8 (l : List (Key × V)) (k : Key) (e : Key × V) : dB (l ++ [e]) k = (dB l k).or (if e.1 = k then some e.2 else none) := by
 unfold dB
 rw [List.find?_append]
 cases l.find? (fun kv => decide (kv.1 = k)) with
 | some v => rfl
 | none =>
  by_cases z : e.1 = k
  ·simp [z]
  ·simp [z]
theorem A9 {ds : List FR} (h : ∀ d ∈ ds,fM d ∧ d.ts.length ≤ 16) (x : Int) : ∀ n,n ≤ ds.length → dB (uI ds n) (Sum.inl x) = (sO ds n x).map fun r : Nat => V.int (r : Int)
 | 0,_ => rfl
 | n + 1,hn => by
  rw [A7,A8,A9 h x n (by omega)]
  show Option.or _ (if (Sum.inl (beg ds n) : Key) = Sum.inl x then some (V.int (n : Int)) else none) = (if beg ds n = x then some n else sO ds n x).map _
  by_cases z : beg ds n = x
  ·rw [if_pos z,if_pos (by rw [z]),ug n fun j hj => by have := iu h n hj (by omega); omega]
   rfl
  ·rw [if_neg z,if_neg (fun y => z (Sum.inl.inj y))]
   cases sO ds n x <;> rfl
theorem Lf {ds : List FR} (h : ∀ d ∈ ds,fM d ∧ d.ts.length ≤ 16) {n : Nat} (hn : n ≤ ds.length) : ((uI ds n).map (·.1)).Nodup := by
 unfold uI
 rw [map_map]
 refine List.pairwise_map.mpr ?_
 refine List.Pairwise.imp_of_mem ?_ List.pairwise_lt_range
 intro a b ha hb hab z
 have := iu h b hab (by have := mem_range.mp hb; omega)
 have z := Sum.inl.inj z
 omega
theorem HI {ds : List FR} {n i : Nat} {k : Key} {v : V} (h : (uI ds n)[i]? = some (k,v)) : k = Sum.inl (beg ds i) ∧ v = V.int (i : Int) ∧ i < n := by
 have hi := (List.getElem?_eq_some_iff.mp h).1
 unfold uI at h hi
 rw [length_map,length_range] at hi
 rw [List.getElem?_map,List.getElem?_range hi] at h
 cases h
 exact ⟨rfl,rfl,hi⟩
theorem xU (ds : List FR) (n : Nat) : (uI ds n).length = n := by unfold uI; rw [length_map,length_range]
theorem ky (K : Frag) {H : Hp} {l : Addr} {xs : List Int} (h : H l = some (.lst (xs.map V.int))) : eK K H (.ref l) (.lst (xs.map Da.int)) := by
 refine .lst (bq.of h) (by rw [length_map,length_map]) fun i x d g1 g2 => ?_
 rw [List.getElem?_map] at g1 g2
 obtain ⟨j,hj,rfl⟩ := map_eq_some_iff.mp g1
 rw [hj] at g2
 cases g2
 exact .int _
theorem kz (xs : List Int) : (Da.lst (xs.map Da.int)).Nb 1 := .lst fun d hd => by
 obtain ⟨j,_,rfl⟩ := mem_map.mp hd
 exact .int
def Ba (r : Except Nat (List FR)) (H : Hp) (Q : VK) : Prop := match r with
 | .ok ds => ∀ (t lr : Addr) (H' : Hp),Same H H' → H lr = none → dZ H' lr ds → H' t = some (.tup [.str "rows",.ref lr]) → Q (.ref t) H'
 | .error e => ∀ (t : Addr) (H' : Hp),Same H H' → H' t = some (.tup [.str "none",.int (e : Int)]) → Q (.ref t) H'
theorem lO {G : Hp} {qs : List Addr} {ds : List FR} {p : Addr} {d : FR} (hn : qs.length = ds.length) (h : ∀ (i : Nat) q e,qs[i]? = some q → ds[i]? = some e → bQ G q e) (hp : bQ G p d) : ∀ (i : Nat) q e,(qs ++ [p])[i]? = some q → (ds ++ [d])[i]? = some e → bQ G q e := by
 intro i q e g1 g2
 by_cases hi : i < qs.length
 ·rw [List.getElem?_append_left hi] at g1
  rw [List.getElem?_append_left (by rw [← hn]; exact hi)] at g2
  exact h i q e g1 g2
 ·have h9 := (List.getElem?_eq_some_iff.mp g1).1
  rw [length_append,length_singleton] at h9
  have ei : i = qs.length := by omega
  subst ei
  rw [show (qs ++ [p])[qs.length]? = some p by simp] at g1
  rw [hn,show (ds ++ [d])[ds.length]? = some d by simp] at g2
  cases g1
  cases g2
  exact hp
theorem Ds : bootBuiltins "dict" = some (.type "dict") := by decide +kernel
section
variable {P : Program} {w : World} {K : Frag} {mg : Str → Option Value} {base : Heap}
def Bb : Sp := fun vs H Q _ => ∃ (lu : Addr) (us : List V),vs = [.ref lu] ∧ H lu = some (.lst us) ∧ (us.length ≤ 4600 ∧ Fl us) ∧ Ba (dH us) H Q
theorem jK : aW ["_law_units_here", "_law_found", "_law_begins", "_law_at", "_law_row_here", "_law_places", "_law_rows", "_law_k", "_law_led_here"] ["_law_units_here"] (aq vw) := ⟨rfl,rfl,rfl,by decide +kernel,rfl,by decide +kernel,by decide +kernel⟩
def Dt : Scope := { kind := .function,names := [(".0",.local),("_law_k",.local),("_law_begin",.local)],isGenerator := false,isCoroutine := false,more := [] }
theorem xV : dq (aq vw) Dt ["_law_units_here", "_law_found", "_law_begins", "_law_at", "_law_row_here", "_law_places", "_law_rows", "_law_k", "_law_led_here"] ["_law_k", "_law_begin"] [none,none] := ⟨rfl,by decide +kernel,by decide +kernel,by decide +kernel,by decide +kernel,by decide +kernel⟩
theorem HJ {f fN fL : Addr} {fd EV KA : FuncData} (F : fq K "_law_due" "_law_due" vw f fd) (T : Txt K w.params mg) (GN : aY P w K mg base cQ 3 fN EV ["_law_units_here", "_law_at"] xQ) (kN : KI K fN) (bN : Binds K EV ["_law_units_here", "_law_at"] []) (mN : mg "_law_next" = some (.ref fN)) (GL : aY P w K mg base cQ 1 fL KA ["_law_row_here", "_law_behind", "_law_places"] xS) (kL : KI K fL) (bL : Binds K KA ["_law_row_here", "_law_behind", "_law_places"] []) (mL : mg "_law_aimed" = some (.ref fL)) : aY P w K mg base cQ 4 f fd ["_law_units_here"] Bb := by
 refine F.ok jK (fun vs H Q E h => ?_) (fun cdv A outer s H vs Q E hr h => ?_)
 ·obtain ⟨lu,us,rfl,_⟩ := h
  rfl
 ·obtain ⟨lu,us,rfl,hu,hl,k⟩ := h
  have hrL := hr.mono (show 1 ≤ _ by decide)
  have hu0 := hr.u 6
  refine dS (ao (aw (aF (i := 1) jK.nd rfl (Or.inl rfl) (bw aj)))
   (ao (aw (aF (i := 2) jK.nd rfl (Or.inl rfl) (bw aj)))
   (ao (aw (aF (i := 3) jK.nd rfl (Or.inl rfl) ai))
   (ao (aw (jX PassesOwn.never (iD (az jY (pv 3) (bf aU (by rfl) T.len cM (af (pv 0) aj)) (aL _)) (eZ (az (vh hu0) (pv 2) (bw aj) (aL _)))).pt (aC (cV (eP PySem.F.plainAttrs_list PySem.F.slot_list_append PySem.F.type_list_append cG (pv 2) (af (pv 3) aj)))
   (aC (qQ (aK GN hr (by rfl) mN kN bN .nil ck (af (pv 0) (af (pv 3) aj))) (qP (n := 2) rfl (dA (cq (i := 4) jK.nd rfl (Or.inl rfl)) (dA (cq (i := 3) jK.nd rfl (Or.inl rfl)) nA))))
   (aC (cK (az lj (pv 4) cH (aL _)) (aG (aA (aI (af ak (af (pv 3) aj))))) aD)
   (aG (cV (eP PySem.F.plainAttrs_list PySem.F.slot_list_append PySem.F.type_list_append cG (pv 1) (af (pv 4) aj)))))))))
   (ao (aw (aF (i := 5) jK.nd rfl (Or.inl rfl) (bA (mV rfl) (by rfl) T.dict Ds (af (fY (N' := ["_law_k", "_law_begin"]) (fr := [none,none]) xV rfl (nE rfl T.enum (af (pv 2) aj)) (fun C s0 H0 fp => (rR (K := K) (i := 0) (j := 1) rfl rfl xV.nd rfl (Or.inl rfl) rfl (Or.inl rfl))) (fun C s0 H0 fp => eI) (fun C s0 H0 fp => (aI (af (pv 1) (af (pv 0) aj))))) aj))))
   (ao (aw (aF (i := 6) jK.nd rfl (Or.inl rfl) (bw aj)))
   (ao (aw (fc PassesOwn.never rfl (nE rfl T.enum (af (pv 1) aj)) (rR (K := K) (i := 7) (j := 4) rfl rfl jK.nd rfl (Or.inl rfl) rfl (Or.inl rfl)) (aC (aF (i := 8) jK.nd rfl (Or.inl rfl) (aK GL hrL (by rfl) mL kL bL .nil ck (af (pv 4) (af (aE aQ (au hV (pv 2) (bw (af (pv 3) aj))) (au aO (pv 7) ai) (fun _ _ => rfl)) (af (pv 5) aj)))))
   (aC (cK (iD (az lj (pv 8) cH (aL _)) (eZ (gX (az cw (pv 7) (au dU (bf aU (by rfl) T.len cM (af (pv 1) aj)) ai) (aL _)) (gW (az hU (aE aN (pv 4) ai (fun _ _ => rfl)) (aI (af ak (af ak (af ak (af ak aj))))) rfl))).pt)).pt (aG (aA (aI (af ak (af (aE aQ (pv 2) (pv 7) (fun _ _ => rfl)) aj))))) aD)
   (aG (cV (eP PySem.F.plainAttrs_list PySem.F.slot_list_append PySem.F.type_list_append cG (pv 6) (af (pv 8) aj))))))))
   (ay (aw (aA (aI (af ak (af (pv 6) aj))))))))))))) ?_
  refine ⟨le_of_ble_eq_true rfl,fun lf BW => ?_⟩
  have s0 := ae (o := .lst []) BW
  have dM : upd H lf (.lst []) lf = some (.lst (([] : List Addr).map V.ref)) := ah
  generalize upd H lf (.lst []) = G0 at s0 dM ⊢
  refine ⟨le_of_ble_eq_true rfl,fun lb AJ => ?_⟩
  have Lg : H lb = none := s0.free AJ
  have s1 := s0.trans (ae (o := .lst []) AJ)
  have HK := ae (o := .lst []) AJ _ _ dM
  have HL : upd G0 lb (.lst []) lb = some (.lst (([] : List Int).map V.int)) := ah
  have nfb : lf ≠ lb := fun z => by rw [z,AJ] at dM; cases dM
  clear dM
  generalize upd G0 lb (.lst []) = G1 at s1 HK HL ⊢
  refine ⟨fun mm σ G => ∃ (at_ : Nat) (qs : List Addr) (ds : List FR) (v4 : Option V),σ = [some (.ref lu),some (.ref lf),some (.ref lb),some (.int (at_ : Int)),v4,none,none,none,none] ∧ Same H G ∧ G lf = some (.lst (qs.map V.ref)) ∧ G lb = some (.lst ((kQ ds ds.length).map V.int)) ∧ (qs.length = ds.length ∧ ∀ (i : Nat) q d,qs[i]? = some q → ds[i]? = some d → bQ G q d) ∧ cA us (us.length + 1) 0 = gR ds (cA us mm at_) ∧ us.length < at_ + mm ∧ ds.length ≤ us.length ∧ (at_ : Int) = beg ds ds.length ∧ ∀ d ∈ ds,fM d ∧ d.ts.length ≤ 16,⟨us.length + 1,0,[],[],none,rfl,s1,HK,HL,⟨rfl,fun i q d g => by simp at g⟩,?_,by omega,zero_le _,rfl,fun d hd => (not_mem_nil hd).elim⟩,?_⟩
  ·cases cA us (us.length + 1) 0 <;> rfl
  clear HK HL s1
  rintro mm σ G ⟨at_,qs,ds,v4,rfl,s1,dM,hlb,hR,hrd,hf,hdu,hat,rT⟩
  refine ⟨_,rfl,_,rfl,lu,_,rfl,.inl (bq.of (s1 _ _ hu)),_,_,rfl,rfl,_,rfl,?_⟩
  by_cases hlt : at_ < us.length
  ·refine bz (decide_eq_true (by omega)) (bz rfl ?_)
   have KZ : ¬ us.length ≤ at_ := by omega
   have hne : ¬ us = [] := fun z => by rw [z] at hlt; exact absurd hlt (not_lt_zero _)
   unfold dH at k
   rw [if_neg hne] at k
   obtain ⟨f0,rfl⟩ : ∃ f0,mm = f0 + 1 := ⟨mm - 1,by omega⟩
   refine ⟨fun σ G => ∃ (at2 : Nat) (qs : List Addr) (ds : List FR) (v4 : Option V),σ = [some (.ref lu),some (.ref lf),some (.ref lb),some (.int (at2 : Int)),v4,none,none,none,none] ∧ Same H G ∧ G lf = some (.lst (qs.map V.ref)) ∧ G lb = some (.lst ((kQ ds ds.length).map V.int)) ∧ (qs.length = ds.length ∧ ∀ (i : Nat) q d,qs[i]? = some q → ds[i]? = some d → bQ G q d) ∧ cA us (us.length + 1) 0 = gR ds (cA us f0 at2) ∧ us.length < at2 + f0 ∧ ds.length ≤ us.length ∧ (at2 : Int) = beg ds ds.length ∧ ∀ d ∈ ds,fM d ∧ d.ts.length ≤ 16,?_,?_⟩
   ·rintro σ' G' ⟨at2,qs,ds,v4,rfl,a1,a2,a3,a4,a5,a6,a7,a8,a9⟩
    exact ⟨f0,by omega,at2,qs,ds,v4,rfl,a1,a2,a3,a4,a5,a6,a7,a8,a9⟩
   refine ⟨_,rfl,.inl ⟨rfl,_,bq.of hlb⟩,_,rfl,lb,_,_,rfl,rfl,hlb,bK (by rw [length_map,ku]; omega),?_⟩
   have eB : (kQ ds ds.length).map V.int ++ [V.int (at_ : Int)] = (kQ ds (ds.length + 1)).map V.int := by rw [oW,map_append,hat]; rfl
   rw [eB]
   have s2 : Same H (upd G lb (.lst ((kQ ds (ds.length + 1)).map V.int))) := bh s1 Lg
   have Bc : upd G lb (.lst ((kQ ds (ds.length + 1)).map V.int)) lf = some (.lst (qs.map V.ref)) := by rw [aX nfb]; exact dM
   have pE : upd G lb (.lst ((kQ ds (ds.length + 1)).map V.int)) lb = _ := ah
   have BU : ∀ (i : Nat) q d,qs[i]? = some q → ds[i]? = some d → bQ (upd G lb (.lst ((kQ ds (ds.length + 1)).map V.int))) q d := fun i q d a b => (hR.2 i q d a b).put hlb
   generalize upd G lb (.lst ((kQ ds (ds.length + 1)).map V.int)) = G2 at s2 Bc pE BU ⊢
   refine ⟨_,rfl,_,rfl,lu,us,at_,rfl,s2 _ _ hu,⟨by omega,hl.2⟩,?_⟩
   cases hrow : rowAt us at_ with
   | error e' =>
    rw [qD KZ hrow] at hrd
    rw [hrd] at k
    intro t G3 s3 ht
    refine ⟨t,_,rfl,aZ.of ht,rfl,_,_,rfl,_,_,rfl,rfl,?_⟩
    refine ⟨_,rfl,rfl,_,rfl,bz (by decide) ?_⟩
    exact ⟨_,rfl,aJ,fun tt tY => k tt _ (s2.trans (s3.trans (ae tY))) ah⟩
   | ok d =>
    rw [tW KZ hrow] at hrd
    have hok := vF hrow
    have hsz := km hok.1
    intro p t G3 s3 hp ht
    refine ⟨t,_,rfl,aZ.of ht,rfl,_,_,rfl,_,_,rfl,rfl,?_⟩
    refine ⟨_,rfl,rfl,_,rfl,bY (by simp) ?_⟩
    have lQ := s3 _ _ Bc
    refine ⟨_,rfl,.inl ⟨rfl,_,bq.of lQ⟩,_,rfl,lf,_,_,rfl,rfl,lQ,bK (by rw [length_map,hR.1]; omega),?_⟩
    rw [show qs.map V.ref ++ [V.ref p] = (qs ++ [p]).map V.ref by rw [map_append]; rfl]
    obtain ⟨sn,hsn⟩ := Int.eq_ofNat_of_zero_le (show 0 ≤ gE d by omega)
    have hbe : beg (ds ++ [d]) (ds.length + 1) = beg ds ds.length + gE d := by
     rw [dY (d := d) (by simp),rX _ (le_refl _)]
    have Og : (ds ++ [d]).length = ds.length + 1 := by rw [length_append]; rfl
    refine ⟨at_ + sn,qs ++ [p],ds ++ [d],some (.ref p),by show _ = [some (V.ref lu),some (V.ref lf),some (V.ref lb),some (V.int ((at_ + sn : Nat) : Int)),some (.ref p),none,none,none,none]; rw [hsn]; rfl,bh (s2.trans s3) BW,ah,?_,⟨by rw [length_append,length_append,hR.1]; rfl,lO hR.1 (fun i q e a b => ((BU i q e a b).same s3).put lQ) (hp.put lQ)⟩,?_,by rw [hsn] at hsz; omega,?_,?_,?_⟩
    ·rw [aX (Ne.symm nfb),s3 _ _ pE,Og]
     congr 3
     rw [oW,oW,Dr _ (le_refl _),rX _ (le_refl _)]
    ·rw [hrd,hsn]
     rfl
    ·rw [Og]
     have Oc : ((ds.length : Nat) : Int) ≤ beg ds ds.length := by
      have key : ∀ j,j ≤ ds.length → (j : Int) ≤ beg ds j := by
       intro j
       induction j with
       | zero => intro _; exact Int.le_refl 0
       | succ j ih =>
        intro hj
        have h1 := ih (Nat.le_of_succ_le hj)
        have h2 := iu rT (i := j) (j + 1) (lt_succ_self j) hj
        push_cast
        omega
      exact key _ (le_refl _)
     omega
    ·rw [Og,hbe,← hat,hsn]
     rfl
    ·intro e he
     rcases mem_append.mp he with z | z
     ·exact rT e z
     ·rw [mem_singleton] at z
      rw [z]
      exact hok
  ·refine bY (fun z => hlt (by have := of_decide_eq_true z; omega)) ?_
   have hge : us.length ≤ at_ := by omega
   refine ⟨_,rfl,le_of_ble_eq_true rfl,fun l0 Qy => ?_⟩
   have t1 := ae (o := .lst []) Qy
   have s2 := s1.trans t1
   have h0 : upd G l0 (.lst []) l0 = some (.lst (([] : List Int).map V.int)) := ah
   have Bc := t1 _ _ dM
   have pE := t1 _ _ hlb
   have BU : ∀ (i : Nat) q d,qs[i]? = some q → ds[i]? = some d → bQ (upd G l0 (.lst [])) q d := fun i q d a b => (hR.2 i q d a b).same t1
   clear t1
   generalize upd G l0 (.lst []) = G2 at s2 h0 Bc pE BU ⊢
   refine ⟨1,lb,l0,_,_,rfl,rfl,ky K pE,ky K h0,kz _,kz _,by decide,_,rfl,?_⟩
   rw [lM hge] at hrd
   have hrd : cA us (us.length + 1) 0 = .ok ds := by rw [hrd]; show Except.ok (ds ++ []) = _; rw [append_nil]
   by_cases hds : ds = []
   ·subst hds
    refine bz (by decide) ?_
    have hus : us = [] := by
     by_cases z : us = []
     ·exact z
     ·have hp : 0 < us.length := List.length_pos_iff.mpr z
      have : (at_ : Int) = 0 := hat
      omega
    unfold dH at k
    rw [if_pos hus] at k
    have Qz : at_ = 0 := by have : (at_ : Int) = 0 := hat; omega
    obtain ⟨f0,rfl⟩ : ∃ f0,mm = f0 + 1 := ⟨mm - 1,by omega⟩
    refine ⟨fun σ G => ∃ (at2 : Nat) (qs : List Addr) (ds : List FR) (v4 : Option V),σ = [some (.ref lu),some (.ref lf),some (.ref lb),some (.int (at2 : Int)),v4,none,none,none,none] ∧ Same H G ∧ G lf = some (.lst (qs.map V.ref)) ∧ G lb = some (.lst ((kQ ds ds.length).map V.int)) ∧ (qs.length = ds.length ∧ ∀ (i : Nat) q d,qs[i]? = some q → ds[i]? = some d → bQ G q d) ∧ cA us (us.length + 1) 0 = gR ds (cA us f0 at2) ∧ us.length < at2 + f0 ∧ ds.length ≤ us.length ∧ (at2 : Int) = beg ds ds.length ∧ ∀ d ∈ ds,fM d ∧ d.ts.length ≤ 16,?_,?_⟩
    ·rintro σ' G' ⟨at2,qs,ds,v4,rfl,a1,a2,a3,a4,a5,a6,a7,a8,a9⟩
     exact ⟨f0,by omega,at2,qs,ds,v4,rfl,a1,a2,a3,a4,a5,a6,a7,a8,a9⟩
    refine ⟨_,rfl,.inl ⟨rfl,_,bq.of pE⟩,_,rfl,lb,_,_,rfl,rfl,pE,(by decide),?_⟩
    have s3 : Same H (upd G2 lb (.lst ((kQ [] ([] : List FR).length).map V.int ++ [V.int (at_ : Int)]))) := bh s2 Lg
    generalize upd G2 lb (.lst ((kQ [] ([] : List FR).length).map V.int ++ [V.int (at_ : Int)])) = G3 at s3 ⊢
    refine ⟨_,rfl,_,rfl,lu,us,at_,rfl,s3 _ _ hu,⟨by omega,hl.2⟩,?_⟩
    have hrow : rowAt us at_ = .error 0 := by unfold rowAt; rw [hus,Qz]; rfl
    rw [hrow]
    intro t G4 s4 ht
    refine ⟨t,_,rfl,aZ.of ht,rfl,_,_,rfl,_,_,rfl,rfl,?_⟩
    refine ⟨_,rfl,rfl,_,rfl,bz (by decide) ?_⟩
    exact ⟨_,rfl,aJ,fun tt tY => k tt _ (s3.trans (s4.trans (ae tY))) ah⟩
   ·refine bY (fun z => hds ?_) ?_
    ·rw [Bool.false_xor] at z
     have z := of_decide_eq_true z
     injection z with z
     have z2 := congrArg length z
     rw [length_map,ku] at z2
     exact length_eq_zero_iff.mp z2
    have hus : ¬ us = [] := fun z => by
     rw [z] at hrd
     exact hds (by injection hrd with e; exact e.symm)
    unfold dH at k
    rw [if_neg hus,hrd] at k
    have k : Ba (eE ds 0 ds) H Q := k
    have hdl : ds.length ≤ 4600 := by omega
    refine ⟨_,rfl,lb,rfl,⟨_,bq.of pE⟩,fun D nD => qe (K := K) (a := lb) (xs := (kQ ds ds.length).map V.int) (fun i σ ys Gx => ∃ (v1 v2 : Option V) (ts : List Addr),σ = [v1,v2] ∧ ys = ts.map V.ref ∧ ts.length = i ∧ (∀ (j : Nat) t,ts[j]? = some t → Gx t = some (.tup [V.int (beg ds j),V.int (j : Int)])) ∧ Same G2 Gx ∧ Gx D = some (.lst ys)) ?_ ?_ ?_ ?_⟩
    ·exact ⟨none,none,[],rfl,rfl,rfl,fun j t g => by simp at g,ae nD,ah⟩
    ·rintro i σ ys Gx _ ⟨v1,v2,ts,rfl,rfl,_,_,sx,_⟩
     exact bq.of (sx _ _ pE)
    ·rintro i x σ ys Gx t hx nt ⟨v1,v2,ts,rfl,rfl,htl,htp,sx,hD⟩
     rw [List.getElem?_map] at hx
     obtain ⟨y,hy,rfl⟩ := map_eq_some_iff.mp hx
     have hil : i < ds.length := by have := (List.getElem?_eq_some_iff.mp hy).1; rw [ku] at this; exact this
     rw [A6 hil] at hy
     cases hy
     have u1 := ae (o := .tup [V.int (i : Int),V.int (beg ds i)]) nt
     refine ⟨t,_,rfl,aZ.of ah,rfl,_,_,rfl,_,_,rfl,rfl,?_⟩
     refine ⟨_,rfl,_,rfl,aJ,fun t2 gg => ?_⟩
     have u2 := u1.trans (ae (o := .tup [V.int (beg ds i),V.int (i : Int)]) gg)
     have BR : upd (upd Gx t (.tup [V.int (i : Int),V.int (beg ds i)])) t2 (.tup [V.int (beg ds i),V.int (i : Int)]) t2 = _ := ah
     generalize upd (upd Gx t (.tup [V.int (i : Int),V.int (beg ds i)])) t2 (.tup [V.int (beg ds i),V.int (i : Int)]) = Gy at u2 BR ⊢
     refine ⟨u2 _ _ hD,bK (by rw [length_map]; omega),_,_,ts ++ [t2],rfl,by rw [map_append]; rfl,by rw [length_append,htl]; rfl,fun j t' g => ?_,bh (sx.trans u2) nD,ah⟩
     by_cases hj : j < ts.length
     ·rw [List.getElem?_append_left hj] at g
      have e := htp j t' g
      rw [aX (fun z => by rw [z,hD] at e; cases e)]
      exact u2 _ _ e
     ·have h9 := (List.getElem?_eq_some_iff.mp g).1
      rw [length_append,length_singleton] at h9
      have ej : j = ts.length := by omega
      subst ej
      rw [show (ts ++ [t2])[ts.length]? = some t2 by simp] at g
      cases g
      rw [aX (fun z => by have e := u2 _ _ hD; rw [← z,BR] at e; cases e),BR,htl]
    ·rintro σ ys Gx ⟨v1,v2,ts,rfl,rfl,htl,htp,sx,hD⟩
     rw [length_map,ku] at htl
     refine ⟨D,ts,uI ds ds.length,rfl,hD,by rw [xU,htl],fun i t kk vv g1 g2 => ?_,by rw [xU]; omega,Lf rT (le_refl _),fun pd Dj => ?_⟩
     ·obtain ⟨rfl,rfl,_⟩ := HI g2
      exact htp i t g1
     have sp := sx.trans (ae (o := .dK (uI ds ds.length)) Dj)
     have s3 := s2.trans sp
     have lQ := sp _ _ Bc
     have Bd := sp _ _ pE
     have QA : ∀ (i : Nat) q d,qs[i]? = some q → ds[i]? = some d → bQ (upd Gx pd (.dK (uI ds ds.length))) q d := fun i q d a b => (BU i q d a b).same sp
     have hpd : upd Gx pd (.dK (uI ds ds.length)) pd = _ := ah
     clear sp
     generalize upd Gx pd (.dK (uI ds ds.length)) = G3 at s3 lQ Bd QA hpd ⊢
     refine ⟨le_of_ble_eq_true rfl,fun la mn => ?_⟩
     have t5 := ae (o := .lst []) mn
     have s5 := s3.trans t5
     have AK : H la = none := s3.free mn
     have h5 : upd G3 la (.lst []) la = some (.lst (([] : List Addr).map V.ref)) := ah
     have nF : lf ≠ la := fun z => by rw [z,mn] at lQ; cases lQ
     have nB : lb ≠ la := fun z => by rw [z,mn] at Bd; cases Bd
     have nP : pd ≠ la := fun z => by rw [z,mn] at hpd; cases hpd
     have Du := t5 _ _ lQ
     have Lh := t5 _ _ Bd
     have Li := t5 _ _ hpd
     have Oh : ∀ (i : Nat) q d,qs[i]? = some q → ds[i]? = some d → bQ (upd G3 la (.lst [])) q d := fun i q d a b => (QA i q d a b).same t5
     clear t5 lQ Bd hpd QA
     generalize upd G3 la (.lst []) = G5 at s5 h5 Du Lh Li Oh ⊢
     refine ⟨_,rfl,lf,rfl,⟨_,bq.of Du⟩,tG (K := K) (xs := qs.map V.ref) (fun i σ G => ∃ (v4 v7 v8 : Option V) (ps : List Addr) (ms : List FR),σ = [some (.ref lu),some (.ref lf),some (.ref lb),some (.int (at_ : Int)),v4,some (.ref pd),some (.ref la),v7,v8] ∧ Same H G ∧ mr G5 G la ∧ G la = some (.lst (ps.map V.ref)) ∧ (ps.length = ms.length ∧ ∀ (j : Nat) q d,ps[j]? = some q → ms[j]? = some d → bQ G q d) ∧ eE ds 0 ds = gR ms (eE ds i (ds.drop i)) ∧ ms.length = i ∧ i ≤ ds.length) ?_ ?_ ?_ ?_⟩
     ·refine ⟨_,none,none,[],[],rfl,s5,fun a o e n => e,h5,⟨rfl,fun j q d g => by simp at g⟩,?_,rfl,zero_le _⟩
      rw [drop_zero]
      cases eE ds 0 ds <;> rfl
     ·rintro i σ G' _ ⟨v4,v7,v8,ps,ms,rfl,t6,k6,_⟩
      exact bq.of (k6 _ _ Du nF)
     ·rintro i x σ G' tt hx tY ⟨v4,v7,v8,ps,ms,rfl,t6,k6,hla,hps,gH,hml,hid⟩
      rw [List.getElem?_map] at hx
      obtain ⟨q,hq,rfl⟩ := map_eq_some_iff.mp hx
      have hil : i < ds.length := by have := (List.getElem?_eq_some_iff.mp hq).1; omega
      have hd : ds[i]? = some ds[i] := List.getElem?_eq_getElem hil
      have hdr : ds.drop i = ds[i] :: ds.drop (i + 1) := List.drop_eq_getElem_cons hil
      have hfd := rT ds[i] (List.getElem_mem hil)
      generalize ds[i] = d at hd hdr hfd
      have hrow := Oh i q d hq hd
      have s7 := ae (o := .tup [V.int i,V.ref q]) tY
      have t7 := t6.trans s7
      have k7 : mr G5 (upd G' tt (.tup [V.int i,V.ref q])) la := fun a o e n => s7 _ _ (k6 a o e n)
      have vG := s7 _ _ hla
      have AO : ∀ (j : Nat) q' d',ps[j]? = some q' → ms[j]? = some d' → bQ (upd G' tt (.tup [V.int i,V.ref q])) q' d' := fun j q' d' a b => (hps.2 j q' d' a b).same s7
      have htt : upd G' tt (.tup [V.int i,V.ref q]) tt = _ := ah
      generalize upd G' tt (.tup [V.int i,V.ref q]) = G7 at s7 t7 k7 vG AO htt ⊢
      refine ⟨tt,_,rfl,aZ.of htt,rfl,_,_,rfl,_,_,rfl,rfl,?_⟩
      have tZ := hrow.keep k7 h5
      have HM := k7 _ _ Lh nB
      have QB := k7 _ _ Du nF
      have QC := k7 _ _ Li nP
      rw [hdr] at gH
      have Oc := jz rT i (by omega)
      have bad : eC ds i d = true → ∀ (t : Addr) (Gy : Hp),Same G7 Gy → Gy t = none → Q (.ref t) (upd Gy t (.tup [.str "none",.int (beg ds i)])) := fun z t Gy sy nt => by
       rw [xJ z] at gH
       rw [gH] at k
       refine k t _ (t7.trans (sy.trans (ae nt))) ?_
       rw [ah,show (((beg ds i).toNat : Nat) : Int) = beg ds i by omega]
      have good : eC ds i d = false → ∀ (p : Addr) (Gy : Hp),Same G7 Gy → bQ Gy p (kn ds i d) → ∃ (v4 v7 v8 : Option V) (ps' : List Addr) (uG : List FR),([some (.ref lu),some (.ref lf),some (.ref lb),some (.int (at_ : Int)),some (.ref q),some (.ref pd),some (.ref la),some (.int (i : Int)),some (.ref p)] : St) = [some (.ref lu),some (.ref lf),some (.ref lb),some (.int (at_ : Int)),v4,some (.ref pd),some (.ref la),v7,v8] ∧ Same H (upd Gy la (.lst ((ps ++ [p]).map V.ref))) ∧ mr G5 (upd Gy la (.lst ((ps ++ [p]).map V.ref))) la ∧ upd Gy la (.lst ((ps ++ [p]).map V.ref)) la = some (.lst (ps'.map V.ref)) ∧ (ps'.length = uG.length ∧ ∀ (j : Nat) q d,ps'[j]? = some q → uG[j]? = some d → bQ (upd Gy la (.lst ((ps ++ [p]).map V.ref))) q d) ∧ eE ds 0 ds = gR uG (eE ds (i + 1) (ds.drop (i + 1))) ∧ uG.length = i + 1 ∧ i + 1 ≤ ds.length := fun z p Gy sy hp => by
       rw [AI z] at gH
       have hlay := sy _ _ vG
       exact ⟨_,_,_,ps ++ [p],ms ++ [kn ds i d],rfl,bh (t7.trans sy) AK,fun a o e n => by rw [aX n]; exact sy _ _ (k7 a o e n),ah,⟨by rw [length_append,length_append,hps.1]; rfl,lO hps.1 (fun j q e a b => ((AO j q e a b).same sy).put hlay) (hp.put hlay)⟩,gH,by rw [length_append,hml]; rfl,by omega⟩
      have eA : (kQ ds ds.length).map V.int ++ [V.int (at_ : Int)] = (iJ ds ds.length).map V.int := by rw [← A5,map_append,hat]; rfl
      refine ⟨_,rfl,_,rfl,_,rfl,dD,fun l1 nL => ⟨lb,l1,_,_,rfl,rfl,ae nL _ _ HM,ah,le_trans (show ((kQ ds ds.length).map V.int).length + 1 ≤ 5000 by rw [length_map,ku]; omega) (by decide),fun l2 pj => ?_⟩⟩
      rw [eA]
      have u8 := (ae (o := .lst [V.int (at_ : Int)]) nL).trans (ae (o := .lst ((iJ ds ds.length).map V.int)) pj)
      have h8 : upd (upd G7 l1 (.lst [V.int (at_ : Int)])) l2 (.lst ((iJ ds ds.length).map V.int)) l2 = _ := ah
      generalize upd (upd G7 l1 (.lst [V.int (at_ : Int)])) l2 (.lst ((iJ ds ds.length).map V.int)) = G8 at u8 h8 ⊢
      have Lj : ∀ n : Nat,n < ds.length → j4 ((kQ ds ds.length).map V.int) (n : Int) = some (.int (beg ds n)) := fun n hn => cI (by rw [List.getElem?_map,A6 hn]; rfl)
      refine ⟨_,rfl,_,_,rfl,rfl,l2,_,_,.int (beg ds (i + 1)),rfl,rfl,bq.of h8,cI (j := i + 1) (by rw [List.getElem?_map,rL (by omega)]; rfl),_,rfl,q,pd,d,beg ds (i + 1),uI ds ds.length,sO ds ds.length,rfl,tZ.same u8,hfd.2,u8 _ _ QC,fun x => A9 rT x _ (le_refl _),fun hno G9 s9 => ?_,fun hno p G9 s9 hp => ?_⟩
      ·have u9 := u8.trans s9
       refine ⟨_,rfl,rfl,_,rfl,bz (by decide) (bz rfl ?_)⟩
       exact ⟨_,rfl,_,rfl,lb,_,_,.int (beg ds i),rfl,rfl,bq.of (u9 _ _ HM),Lj i hil,aJ,fun t nt => bad (by unfold eC; rw [show decide (none ∈ iM ds ds.length i d) = true from decide_eq_true hno]; rfl) t _ u9 nt⟩
      ·have u9 := u8.trans s9
       have hno' : decide (none ∈ iM ds ds.length i d) = false := decide_eq_false hno
       have hp : bQ G9 p (kn ds i d) := hp
       refine ⟨_,rfl,rfl,_,rfl,bY (by simp) ?_⟩
       refine ⟨_,rfl,_,rfl,lf,_,rfl,.inl (bq.of (u9 _ _ QB)),_,_,rfl,rfl,rfl,_,rfl,?_⟩
       rw [length_map,hR.1]
       by_cases iW : i + 1 = ds.length
       ·refine bz (decide_eq_true (by show V.int (i : Int) = V.int (((ds.length : Nat) : Int) - 1); congr 1; omega)) ?_
        obtain ⟨items,i1,_⟩ := (tZ.same u9).parts
        refine ⟨_,rfl,q,_,0,.str d.u,rfl,rfl,aZ.of i1,at0 _ _,ke,fun t4 zq => ⟨t4,(["stop", "back", "halt", "jump"] : List Str).map V.str,rfl,.inr (aZ.of ah),rfl,rfl,_,rfl,?_⟩⟩
        have Lk := u9.trans (ae (o := .tup [V.str "stop",V.str "back",V.str "halt",V.str "jump"]) zq)
        have za := hp.same (ae (o := .tup [V.str "stop",V.str "back",V.str "halt",V.str "jump"]) zq)
        rw [show inV (.str d.u) ((["stop", "back", "halt", "jump"] : List Str).map V.str) = decide (d.u ∈ dE) from bt _ _]
        generalize upd G9 t4 (.tup [V.str "stop",V.str "back",V.str "halt",V.str "jump"]) = HF at Lk za ⊢
        by_cases hon : d.u ∈ dE
        ·have hbf : eC ds i d = false := by unfold eC; rw [hno',decide_eq_true hon]; simp
         refine bY (by rw [decide_eq_true hon]; decide) ?_
         have uh := Lk _ _ vG
         refine ⟨_,rfl,.inl ⟨rfl,_,bq.of uh⟩,_,rfl,la,_,_,rfl,rfl,uh,bK (by rw [length_map,hps.1]; omega),?_⟩
         rw [show ps.map V.ref ++ [V.ref p] = (ps ++ [p]).map V.ref by rw [map_append]; rfl]
         exact good hbf p HF Lk za
        ·have hbt : eC ds i d = true := by unfold eC; rw [decide_eq_true iW,decide_eq_false hon]; simp
         refine bz (by rw [decide_eq_false hon]; rfl) ?_
         exact ⟨_,rfl,_,rfl,lb,_,_,.int (beg ds i),rfl,rfl,bq.of (Lk _ _ HM),Lj i hil,aJ,fun t nt => bad hbt t _ Lk nt⟩
       ·have hbf : eC ds i d = false := by unfold eC; rw [hno',decide_eq_false iW]; rfl
        refine bY (fun z => iW (by have := V.int.inj (of_decide_eq_true z); omega)) ?_
        have uh := u9 _ _ vG
        refine ⟨_,rfl,.inl ⟨rfl,_,bq.of uh⟩,_,rfl,la,_,_,rfl,rfl,uh,bK (by rw [length_map,hps.1]; omega),?_⟩
        rw [show ps.map V.ref ++ [V.ref p] = (ps ++ [p]).map V.ref by rw [map_append]; rfl]
        exact good hbf p G9 u9 hp
     ·rintro σ G' ⟨v4,v7,v8,ps,ms,rfl,t6,k6,hla,hps,gH,hml,hid⟩
      rw [length_map,hR.1,drop_length] at gH
      have gH : eE ds 0 ds = .ok ms := by rw [gH]; show Except.ok (ms ++ []) = _; rw [append_nil]
      rw [gH] at k
      exact ⟨_,rfl,aJ,fun t nt => k t la _ (t6.trans (ae nt)) AK ⟨ps,ae nt _ _ hla,hps.1,fun i q d a b => (hps.2 i q d a b).same (ae nt)⟩ ah⟩
end
theorem xW (K : Frag) (H : Hp) (ms : List Int) : ∀ (i : Nat) x d,(ms.map V.int)[i]? = some x → (ms.map Da.int)[i]? = some d → eK K H x d := fun i x d h1 h2 => by
 rw [List.getElem?_map] at h1 h2
 obtain ⟨j,hj,rfl⟩ := map_eq_some_iff.mp h1
 rw [hj] at h2
 cases h2
 exact .int _
def vJ (d : FR) : Da := if d.u = "table" then .tup [.str d.u,.int (d.is.headD 0),.tup (d.ts.map Da.int)] else .tup (.str d.u :: d.is.map Da.int)
theorem Dv (K : Frag) {H : Hp} {q : Addr} {d : FR} (h : bQ H q d) : eK K H (.ref q) (vJ d) := by
 unfold vJ
 rcases h.2 with ⟨a,b,p,e,h1,h2⟩ | ⟨a,h1⟩
 ·rw [if_pos a,e]
  refine .tup (aZ.of h1) rfl fun i x d' g1 g2 => ?_
  match i,g1,g2 with
  | 0,g1,g2 => cases g1; cases g2; exact .str _
  | 1,g1,g2 => cases g1; cases g2; exact .int _
  | 2,g1,g2 => cases g1; cases g2; exact .tup (aZ.of h2) (by simp) (xW K H _)
 ·rw [if_neg a]
  refine .tup (aZ.of h1) (by simp) fun i x d' g1 g2 => ?_
  cases i with
  | zero => simp at g1 g2; subst g1; subst g2; exact .str _
  | succ i => exact xW K H d.is i x d' (by simpa using g1) (by simpa using g2)
theorem Be (ms : List Int) : (Da.tup (ms.map Da.int)).Nb 1 := .tup fun d hd => by
 obtain ⟨j,_,rfl⟩ := mem_map.mp hd
 exact .int
theorem Ln (d : FR) : (vJ d).Nb 2 := by
 unfold vJ
 split
 ·refine .tup fun x hx => ?_
  rcases mem_cons.mp hx with rfl | hx
  ·exact .str
  rcases mem_cons.mp hx with rfl | hx
  ·exact .int
  rw [mem_singleton.mp hx]
  exact Be _
 ·refine .tup fun x hx => ?_
  rcases mem_cons.mp hx with rfl | hx
  ·exact .str
  obtain ⟨j,_,rfl⟩ := mem_map.mp hx
  exact .int
theorem Bf (K : Frag) {H : Hp} {l : Addr} {qs : List Addr} {ds : List FR} (hl : H l = some (.lst (qs.map V.ref))) (hn : qs.length = ds.length) (h : ∀ (i : Nat) q d,qs[i]? = some q → ds[i]? = some d → bQ H q d) : eK K H (.ref l) (.lst (ds.map vJ)) := by
 refine .lst (bq.of hl) (by simp [hn]) fun i x e g1 g2 => ?_
 rw [List.getElem?_map] at g1 g2
 obtain ⟨q,hq,rfl⟩ := map_eq_some_iff.mp g1
 obtain ⟨d,hd,rfl⟩ := map_eq_some_iff.mp g2
 exact Dv K (h i q d hq hd)
theorem jC (ds : List FR) : (Da.lst (ds.map vJ)).Nb 3 := .lst fun x hx => by
 obtain ⟨d,_,rfl⟩ := mem_map.mp hx
 exact Ln d
theorem dZ.da (K : Frag) {H : Hp} {l : Addr} {ds : List FR} (h : dZ H l ds) : eK K H (.ref l) (.lst (ds.map vJ)) := by
 obtain ⟨qs,a,b,c⟩ := h
 exact Bf K a b c
theorem eJ (K : Frag) {H : Hp} {p : Addr} {x : Str} {v : V} {b : Da} (h : H p = some (.tup [.str x,v])) (hb : eK K H v b) : eK K H (.ref p) (.tup [.str x,b]) := by
 refine .tup (aZ.of h) rfl fun i y d g1 g2 => ?_
 match i,g1,g2 with
 | 0,g1,g2 => cases g1; cases g2; exact .str _
 | 1,g1,g2 => cases g1; cases g2; exact hb
def Dw (K : Frag) : R2 := fun x y H Q => ∃ (p q : Addr) (xs : List V),x = .ref p ∧ y = .ref q ∧ bq K H p xs ∧ bq K H q xs ∧ (∀ z ∈ xs,Pl z) ∧ Q (.bl false) H
theorem zc {X : Cx} (hu : X.A.units < cLine) : iQ X (compareOp .NotEq) (Dw X.K) := by
 intro pins s σ H x y v u Q I rx ry h
 obtain ⟨p,q,xs,rfl,rfl,hp,hq,hc,k⟩ := h
 cases rx
 cases ry
 obtain ⟨its,hv,pl,_⟩ := I.list hp
 obtain ⟨its2,hv2,pl2,_⟩ := I.list hq
 have e1 := hv.length
 have e2 := hv2.length
 have key : SeqAt.RcNeAt X.A s (.ref p) (.ref q) (!(List.range its.toArray.size).all fun _ => true) := by
  refine SeqAt.RcNeAt.lists pl.isList pl2.isList (by simp; omega) hu fun j h1 h2 => ?_
  have j1 : j < xs.length := by simp at h1; omega
  have z1 : xs[j]? = some xs[j] := List.getElem?_eq_getElem j1
  obtain ⟨u1,w1,r1⟩ := hv.get z1
  obtain ⟨u2,w2,r2⟩ := hv2.get z1
  have i1 : its.toArray[j] = u1 := by
   have : its[j]? = some its[j] := List.getElem?_eq_getElem (by omega)
   rw [this] at w1
   simpa using w1
  have i2 : its2.toArray[j] = u2 := by
   have : its2[j]? = some its2[j] := List.getElem?_eq_getElem (by omega)
   rw [this] at w2
   simpa using w2
  rw [i1,i2]
  exact (hc _ (List.getElem_mem j1)).at r1 r2
 rw [show (!(List.range its.toArray.size).all fun _ => true) = false by simp] at key
 exact key _ _ _ _ ⟨.bl false,H,I,rfl,k⟩
theorem Lp : bootBuiltins "ValueError" = some (.type "ValueError") := by decide +kernel
theorem rY {K : Frag} : kitOne K (.type "list") (.type "bool") = some false := gD (by decide) (by decide +kernel) (by decide +kernel)
theorem dF {x : Str} {b : Da} {n : Nat} (h : b.Nb n) : (Da.tup [.str x,b]).Nb (n + 1) := .tup fun d hd => by
 rcases mem_cons.mp hd with rfl | hd
 ·exact .str
 ·rw [mem_singleton.mp hd]
  exact h
structure Ys (K : Frag) (mg : Str → Option Value) (aM cy cX cC cY cZ df fI : Addr) : Prop where
 ui : mg "NoUnits" = some (.ref aM)
 qG : mg "RowError" = some (.ref cy)
 Dx : mg "NoFree" = some (.ref cX)
 zg : mg "NoLayout" = some (.ref cC)
 Dy : mg "NoRows" = some (.ref cY)
 Dz : mg "NoText" = some (.ref cZ)
 DA : mg "NoWish" = some (.ref df)
 uj : mg "ValueError" = none
 cx : fz K aM cy fI
 kC : KI K aM
 exm : exmOne K (.ref aM) (.ref cy) = some true
 oth : kitAny K (.ref aM) [.ref cX,.ref cC,.ref cY,.ref cZ,.ref df] = some false
 own : kitOne K (.ref aM) (.ref aM) = some true
 val : kitOne K (.ref aM) (.type "ValueError") = some true
theorem uk {ds : List FR} : ∀ {l : List FR} {r : Nat} {ms : List FR},eE ds r l = .ok ms → ms.length = l.length
 | [],r,ms,h => by cases h; rfl
 | d :: l,r,ms,h => by
  have h : (if eC ds r d = true then .error (beg ds r).toNat else match eE ds (r + 1) l with | .error e => .error e | .ok m => .ok (kn ds r d :: m)) = Except.ok ms := h
  split at h
  ·cases h
  ·cases e : eE ds (r + 1) l with
   | error x => rw [e] at h; cases h
   | ok m => rw [e] at h; cases h; rw [length_cons,length_cons,uk e]
theorem um {us : List V} {ds : List FR} (h : dH us = .ok ds) : ds.length ≤ us.length + 1 := by
 unfold dH at h
 split at h
 ·cases h
 ·cases e : cA us (us.length + 1) 0 with
  | error x => rw [e] at h; cases h
  | ok l =>
   rw [e] at h
   have h : eE l 0 l = .ok ds := h
   rw [uk h]
   exact lN _ _ _ e
theorem xX {K : Frag} {H G : Hp} {v : V} {t : Value} (h : iI K H v t) (s : Same H G) : iI K G v t := by
 cases h with
 | non => exact .non
 | bl x => exact .bl x
 | int i => exact .int i
 | str x => exact .str x
 | flt x => exact .flt x
 | lst e => exact .lst (s _ _ e)
 | sR e => exact .sR (s _ _ e)
 | tup e => exact .tup (s _ _ e)
 | dK e => exact .dK (s _ _ e)
 | dT e => exact .dT (s _ _ e)
 | ins e a b c d g => exact .ins (s _ _ e) a b c d g
theorem E9 {us : List V} (h : Fl us) : ∀ z ∈ us,Pl z := fun z hz => by
 cases h z hz with
 | int n => exact .inr (.inl ⟨n,rfl⟩)
 | bl b => exact .inr (.inr (.inr (.inr ⟨b,rfl⟩)))
 | non => exact .inr (.inr (.inr (.inl rfl)))
 | str s => exact .inr (.inr (.inl ⟨s,rfl⟩))
section
variable {P : Program} {w : World} {K : Frag} {mg : Str → Option Value} {base : Heap}
def vK : Sp := fun vs H Q E => Bb vs H Q E ∨ (∃ (v : V) (t : Value),vs = [v] ∧ iI K H v t ∧ kitOne K t (.type "list") = some false ∧ ∀ (tt : Addr) (H' : Hp),Same H H' → H' tt = some (.tup [.str "none",.int 0]) → Q (.ref tt) H')
theorem qH : aW ["_law_units_here", "_law_found", "e", "_law_others"] ["_law_units_here"] (aq lJ) := ⟨rfl,rfl,rfl,by decide +kernel,rfl,by decide +kernel,by decide +kernel⟩
section
variable {aM cy cX cC cY cZ df fI : Addr}
theorem Bg {f fF : Addr} {fd EZ : FuncData} (F : fq K "_law_read" "_law_read" lJ f fd) (T : Txt K w.params mg) (Y : Ys K mg aM cy cX cC cY cZ df fI)
  (GF : aY P w K mg base (eR P w) 8 fF EZ ["units"] (E3 (K := K) aM)) (kF : KI K fF) (bF : Binds K EZ ["units"] []) (mF : mg "rows_of_units" = some (.ref fF)) : aY P w K mg base cQ 9 f fd ["_law_units_here"] (vK (K := K)) := by
 refine F.ok qH (fun vs H Q E h => ?_) (fun cdv A outer s H vs Q E hr h => ?_)
 ·rcases h with ⟨lu,us,rfl,_⟩ | ⟨v,t,rfl,_⟩ <;> rfl
 ·refine ⟨_,(aC (aF (i := 1) qH.nd rfl (Or.inl rfl) (aI (af ak (af cH aj))))
   (aC (CP (i := 2) (n := "e") (CO (i := 1) qH.nd rfl (Or.inl rfl) (z7 (z3 (af (pv 0) aj) (by rfl) mF kF))) GF hr bF .nil rfl rfl rfl rfl (by rfl) Y.qG qH.nd rfl rfl (fun ea => (aC (aF (i := 3) qH.nd rfl (Or.inl rfl) (bf (r := Et K aM) (yH Y.cx.rd PySem.F.attr_ValueError) (by rfl) T.C0 ie (af (pv 2) (af (aI (af (cu (v := .ref cX) (by rfl) Y.Dx rfl) (af (cu (v := .ref cC) (by rfl) Y.zg rfl) (af (cu (v := .ref cY) (by rfl) Y.Dy rfl) (af (cu (v := .ref cZ) (by rfl) Y.Dz rfl) (af (cu (v := .ref df) (by rfl) Y.DA rfl) aj)))))) aj))))
   (aG (cK (gX (cP (bf (r := Gv K aM) (tL Y.cx.rd PySem.F.attr_ValueError) (by rfl) T.C0 ie (af (pv 2) (af (cu (v := .ref aM) (by rfl) Y.ui rfl) aj)))) (gX (cP (bf (r := Gv K aM) (tL Y.cx.rd PySem.F.attr_ValueError) (by rfl) T.C0 ie (af (pv 2) (af (gU (v := .ty "ValueError") (by rfl) Y.uj Lp rfl) aj)))) (gW (dI (cP (pv 3)))))).pt (aG (aF (i := 1) qH.nd rfl (Or.inl rfl) (aI (af ak (af (Gw Y.cx (pv 2)) aj))))) aD)))))
   (aG (aA (pv 1))))),?_⟩
  rcases h with ⟨lu,us,rfl,hu,hl,k⟩ | ⟨v,t,rfl,hv,hk,k⟩
  case inr =>
   refine ⟨aJ,fun t0 n0 => ?_⟩
   have s0 := ae (o := .tup [V.str "other",V.non]) n0
   generalize upd H t0 (.tup [V.str "other",V.non]) = G0 at s0 ⊢
   refine ⟨_,rfl,.inr ⟨v,t,rfl,xX hv s0,hk,?_⟩⟩
   intro H7 d s7 hd
   refine ⟨Y.exm,fun ea QD => ?_⟩
   have s8 := ae (o := mX ea (.ref aM) (some d)) QD
   have e8 : upd H7 ea (mX ea (.ref aM) (some d)) ea = _ := ah
   have d8 := s8 _ _ hd
   generalize upd H7 ea (mX ea (.ref aM) (some d)) = H8 at s8 e8 d8 ⊢
   refine ⟨_,rfl,le_of_ble_eq_true rfl,fun tp Fb => ?_⟩
   have s9 := ae (o := .tup [V.ref cX,V.ref cC,V.ref cY,V.ref cZ,V.ref df]) Fb
   have t9 : upd H8 tp (.tup [V.ref cX,V.ref cC,V.ref cY,V.ref cZ,V.ref df]) tp = _ := ah
   have e9 := s9 _ _ e8
   have d9 := s9 _ _ d8
   generalize upd H8 tp (.tup [V.ref cX,V.ref cC,V.ref cY,V.ref cZ,V.ref df]) = H9 at s9 t9 e9 d9 ⊢
   refine ⟨ea,tp,_,_,false,rfl,e9,t9,fun N6 hv => ?_,?_⟩
   ·cases hv with | cons a1 hv => cases hv with | cons a2 hv => cases hv with | cons a3 hv => cases hv with | cons a4 hv => cases hv with | cons a5 hv =>
    cases hv
    cases a1
    cases a2
    cases a3
    cases a4
    cases a5
    exact Y.oth
   refine ⟨_,rfl,ea,_,.ref aM,true,rfl,e9,(fun cv hc => by cases hc; exact Y.own),_,rfl,bz (by decide) ?_⟩
   refine ⟨_,rfl,ea,_,.ty "ValueError",true,rfl,e9,(fun cv hc => by cases hc; exact Y.val),_,rfl,bz (by decide) ?_⟩
   refine ⟨_,rfl,_,rfl,bz (by decide) ?_⟩
   refine ⟨_,rfl,ea,d,((0 : Nat) : Int),rfl,e9,d9,aJ,fun p np => ?_⟩
   exact ⟨_,rfl,k p _ ((s0.trans (s7.trans (s8.trans s9))).trans (ae np)) ah⟩
  refine ⟨aJ,fun t0 n0 => ?_⟩
  have s0 := ae (o := .tup [V.str "other",V.non]) n0
  generalize upd H t0 (.tup [V.str "other",V.non]) = G0 at s0 ⊢
  refine ⟨_,rfl,.inl ⟨lu,us,rfl,s0 _ _ hu,⟨by omega,hl.2⟩,?_⟩⟩
  cases hr : dH us with
  | ok ds =>
   rw [hr] at k
   intro lr G1 s1 Jk hR
   refine fun p np => ⟨_,rfl,?_⟩
   exact k p lr _ ((s0.trans s1).trans (ae np)) (s0.free Jk) (hR.same (ae np)) ah
  | error r =>
   rw [hr] at k
   intro H7 d s7 hd
   refine ⟨Y.exm,fun ea QD => ?_⟩
   have s8 := ae (o := mX ea (.ref aM) (some d)) QD
   have e8 : upd H7 ea (mX ea (.ref aM) (some d)) ea = _ := ah
   have d8 := s8 _ _ hd
   generalize upd H7 ea (mX ea (.ref aM) (some d)) = H8 at s8 e8 d8 ⊢
   refine ⟨_,rfl,le_of_ble_eq_true rfl,fun tp Fb => ?_⟩
   have s9 := ae (o := .tup [V.ref cX,V.ref cC,V.ref cY,V.ref cZ,V.ref df]) Fb
   have t9 : upd H8 tp (.tup [V.ref cX,V.ref cC,V.ref cY,V.ref cZ,V.ref df]) tp = _ := ah
   have e9 := s9 _ _ e8
   have d9 := s9 _ _ d8
   generalize upd H8 tp (.tup [V.ref cX,V.ref cC,V.ref cY,V.ref cZ,V.ref df]) = H9 at s9 t9 e9 d9 ⊢
   refine ⟨ea,tp,_,_,false,rfl,e9,t9,fun N6 hv => ?_,?_⟩
   ·cases hv with | cons a1 hv => cases hv with | cons a2 hv => cases hv with | cons a3 hv => cases hv with | cons a4 hv => cases hv with | cons a5 hv =>
    cases hv
    cases a1
    cases a2
    cases a3
    cases a4
    cases a5
    exact Y.oth
   refine ⟨_,rfl,ea,_,.ref aM,true,rfl,e9,(fun cv hc => by cases hc; exact Y.own),_,rfl,bz (by decide) ?_⟩
   refine ⟨_,rfl,ea,_,.ty "ValueError",true,rfl,e9,(fun cv hc => by cases hc; exact Y.val),_,rfl,bz (by decide) ?_⟩
   refine ⟨_,rfl,_,rfl,bz (by decide) ?_⟩
   refine ⟨_,rfl,ea,d,r,rfl,e9,d9,aJ,fun p np => ?_⟩
   exact ⟨_,rfl,k p _ ((s0.trans (s7.trans (s8.trans s9))).trans (ae np)) ah⟩
end
def uo : Sp := fun vs H Q _ => ∃ (lu : Addr) (us : List V),vs = [.ref lu] ∧ H lu = some (.lst us) ∧ (us.length ≤ 4600 ∧ Fl us) ∧ ∀ H',Same H H' → Q (.bl true) H'
theorem Bh : aW ["_law_units_here", "_law_handed", "_law_found"] ["_law_units_here"] (aq ic) := ⟨rfl,rfl,rfl,by decide +kernel,rfl,by decide +kernel,by decide +kernel⟩
theorem Bi {f fR fD : Addr} {fd xl EG : FuncData} (F : fq K "_law_right" "_law_right" ic f fd) (T : Txt K w.params mg) (GR : aY P w K mg base cQ 9 fR xl ["_law_units_here"] (vK (K := K))) (kR : KI K fR) (bR : Binds K xl ["_law_units_here"] []) (mR : mg "_law_read" = some (.ref fR)) (GD : aY P w K mg base cQ 4 fD EG ["_law_units_here"] Bb) (kD : KI K fD) (bD : Binds K EG ["_law_units_here"] []) (mD : mg "_law_due" = some (.ref fD)) : aY P w K mg base cQ 10 f fd ["_law_units_here"] uo := by
 refine F.ok Bh (fun vs H Q E h => ?_) (fun cdv A outer s H vs Q E hr h => ?_)
 ·obtain ⟨lu,us,rfl,_⟩ := h
  rfl
 ·obtain ⟨lu,us,rfl,hu,hl,k⟩ := h
  have hrD := hr.mono (show 4 ≤ _ by decide)
  have hu0 := hr.u 6
  have huS : (A.deeper (PyProof.Rows.envOfC "_law_right" (aq ic) s.heap.objs.size f cdv)).units < cLine := Nat.lt_of_le_of_lt (Nat.le_add_right _ _) hu0
  refine dS (ao (aw (aF (i := 1) Bh.nd rfl (Or.inl rfl) (bA dX (by rfl) T.list jw (af (pv 0) aj))))
   (ao (aw (aF (i := 2) Bh.nd rfl (Or.inl rfl) (aK GR hr (by rfl) mR kR bR .nil ck (af (pv 1) aj))))
   (ao (bj (iD (az (rE hu0) (pv 2) (aK GD hrD (by rfl) mD kD bD .nil ck (af (pv 0) aj)) (aL _)) (iD (az (zc huS) (pv 1) (pv 0) (aL _)) (eZ (cP (bf dR (by rfl) T.C0 ie (af (aE aN (pv 2) ai (fun _ _ => rfl)) (af (gU (v := .ty "bool") (by rfl) T.bool rJ rfl) aj))))))).pt (ay (aw (aA iN))) (aR aD))
   (ao (bj (az cw (aE aN (pv 2) ai (fun _ _ => rfl)) ak (aL _)) (ao (aw (cV (eP PySem.F.plainAttrs_list PySem.F.slot_list_append PySem.F.type_list_append cG (aE aN (pv 2) ai (fun _ _ => rfl)) (af ai aj))))
   (ay (aw (aA (cF (vh hu0) (aK GR hr (by rfl) mR kR bR .nil ck (af (pv 0) aj)) (aK GD hrD (by rfl) mD kD bD .nil ck (af (pv 0) aj)) (aL _)))))) (aR aD))
   (ay (aw (aA iN))))))) ?_
  refine ⟨_,rfl,lu,_,rfl,.inl (bq.of hu),fun lh nh => ?_⟩
  have s1 := ae (o := .lst us) nh
  have HN : upd H lh (.lst us) lh = _ := ah
  have hu1 := s1 _ _ hu
  generalize upd H lh (.lst us) = G1 at s1 HN hu1 ⊢
  refine ⟨_,rfl,.inl ⟨lh,us,rfl,HN,hl,?_⟩⟩
  cases hr2 : dH us with
  | ok ds =>
   intro t lr G2 s2 Jk hR ht
   refine ⟨_,rfl,_,rfl,lu,us,rfl,s2 _ _ hu1,hl,?_⟩
   rw [hr2]
   intro t' lr' G3 s3 nlr' hR' ht'
   refine ⟨4,t,t',_,_,rfl,rfl,eJ K (s3 _ _ ht) ((hR.same s3).da K),eJ K ht' (hR'.da K),dF (jC _),dF (jC _),by decide,_,rfl,bY (by simp) ?_⟩
   have HP := s2.trans s3
   refine ⟨_,rfl,_,rfl,lh,lu,us,rfl,rfl,bq.of (HP _ _ HN),bq.of (HP _ _ hu1),E9 hl.2,_,rfl,bY (by decide) ?_⟩
   obtain ⟨qs,g1,g2,_⟩ := hR.same s3
   refine ⟨_,rfl,t,_,1,.ref lr,rfl,rfl,aZ.of (s3 _ _ ht),rfl,_,_,_,_,rfl,.lst g1,rY,_,rfl,bY (by decide) ?_⟩
   refine ⟨_,rfl,t,_,0,.str "rows",rfl,rfl,aZ.of (s3 _ _ ht),rfl,rfl,_,rfl,bz (by decide) ?_⟩
   have hdl : qs.length ≤ 4601 := by
    have := um hr2
    omega
   refine ⟨_,rfl,t,_,1,.ref lr,rfl,rfl,aZ.of (s3 _ _ ht),rfl,.inl ⟨rfl,_,bq.of g1⟩,lr,_,_,rfl,rfl,g1,bK (by rw [length_map]; omega),?_⟩
   have QE : H lr = none := s1.free Jk
   have s4 : Same H (upd G3 lr (.lst (qs.map V.ref ++ [V.int 0]))) := bh (s1.trans HP) QE
   have QF := s4 _ _ hu
   generalize upd G3 lr (.lst (qs.map V.ref ++ [V.int 0])) = G4 at s4 QF ⊢
   refine ⟨_,rfl,.inl ⟨lu,us,rfl,QF,hl,?_⟩⟩
   rw [hr2]
   intro t5 lr5 G5 s5 n5 Oh ht5
   refine ⟨_,rfl,lu,us,rfl,s5 _ _ QF,hl,?_⟩
   rw [hr2]
   intro t6 lr6 G6 s6 n6 hR6 ht6
   refine ⟨4,t5,t6,_,_,rfl,rfl,eJ K (s6 _ _ ht5) ((Oh.same s6).da K),eJ K ht6 (hR6.da K),dF (jC _),dF (jC _),by decide,?_⟩
   rw [Bool.false_xor,decide_eq_true rfl]
   exact k _ (s4.trans (s5.trans s6))
  | error e =>
   intro t G2 s2 ht
   refine ⟨_,rfl,_,rfl,lu,us,rfl,s2 _ _ hu1,hl,?_⟩
   rw [hr2]
   intro t' G3 s3 ht'
   refine ⟨1,t,t',_,_,rfl,rfl,eJ K (s3 _ _ ht) (.int _),eJ K ht' (.int _),dF .int,dF .int,by decide,_,rfl,bY (by simp) ?_⟩
   have HP := s2.trans s3
   refine ⟨_,rfl,_,rfl,lh,lu,us,rfl,rfl,bq.of (HP _ _ HN),bq.of (HP _ _ hu1),E9 hl.2,_,rfl,bY (by decide) ?_⟩
   refine ⟨_,rfl,t,_,1,.int (e : Int),rfl,rfl,aZ.of (s3 _ _ ht),rfl,_,_,_,_,rfl,.int _,jQ,_,rfl,bY (by decide) ?_⟩
   refine ⟨_,rfl,t,_,0,.str "none",rfl,rfl,aZ.of (s3 _ _ ht),rfl,rfl,_,rfl,bY (by decide) ?_⟩
   exact k _ (s1.trans HP)
end
def DB (d : FR) : Int := if d.u ∈ five then dt d else 0
def oX (d : FR) (S : List Str) : List Int := (((cj d.u).zip d.is).filter fun x => decide (x.1 ∈ S)).map (·.2)
def xY (d : FR) : Nat := heads.idxOf (d.u,DB d)
def DC (d : FR) (dist : List Int) : Int := if cn d = true then dist.headD 0 + 64 else if (oX d ["box"]).length = 2 then (oX d ["box"])[1]?.getD 0 else 0
def rZ (d : FR) (dist : List Int) : Int := (xY d : Int) * 1024 + (oX d ["box"]).headD 0 * 128 + DC d dist
def sd (d : FR) (dist : List Int) : List Int := if d.u = "table" then (dist.length : Int) :: dist else if d.u ∈ five then (if dt d = 1 then dist else []) else oX d tP
def eF (ds : List FR) (r : Nat) (d : FR) : List Int := rZ d (d.ts.map (dg ds r)) :: sd d (d.ts.map (dg ds r))
def di (ds : List FR) (n : Nat) : List Int := ((List.range n).filterMap fun r => ds[r]?.map (eF ds r)).flatten
theorem gk {ds : List FR} {n : Nat} {d : FR} (h : ds[n]? = some d) : di ds (n + 1) = di ds n ++ eF ds n d := by
 unfold di
 rw [range_succ,List.filterMap_append,List.flatten_append]
 simp [h]
theorem bQ.full {H : Hp} {q : Addr} {d : FR} (h : bQ H q d) : ∃ items,H q = some (.tup (.str d.u :: items)) ∧ items.length = (cj d.u).length ∧ ((¬ d.u = "table" ∧ items = d.is.map V.int ∧ d.is.length = (cj d.u).length) ∨ (d.u = "table" ∧ ∃ b p,d.is = [b] ∧ items = [.int b,.ref p])) := by
 obtain ⟨⟨hu,h1,h2,h3,h4,h5,h6⟩,h⟩ := h
 rcases h with ⟨a,b,p,e,g1,g2⟩ | ⟨a,g1⟩
 ·exact ⟨_,g1,by rw [a]; exact (by decide +kernel : 2 = (cj "table").length),.inr ⟨a,b,p,e,rfl⟩⟩
 ·have hl : d.is.length = (cj d.u).length := by
   by_cases z1 : d.u ∈ eS
   ·obtain ⟨t,f,e1,_⟩ := h2 z1
    rw [e1]
    exact ((by decide +kernel : ∀ u ∈ eS,2 = (cj u).length)) _ z1
   ·by_cases z2 : d.u ∈ zb
    ·obtain ⟨b,t,f,e1,_⟩ := h3 z2
     rw [e1]
     exact ((by decide +kernel : ∀ u ∈ zb,3 = (cj u).length)) _ z2
    ·exact (h4 a z1 z2).2
  exact ⟨_,g1,by rw [length_map,hl],.inl ⟨a,rfl,hl⟩⟩
def Lq (mask : List Bool) (is : List Int) : List Int := ((mask.zip is).filter (·.1)).map (·.2)
theorem xZ (S : List Str) : ∀ (ks : List Str) (is : List Int),((ks.zip is).filter fun x => decide (x.1 ∈ S)).map (·.2) = Lq (ks.map fun k => decide (k ∈ S)) is
 | [],is => by simp [Lq]
 | k :: ks,[] => by simp [Lq]
 | k :: ks,i :: is => by
  have ih := xZ S ks is
  unfold Lq at ih ⊢
  rw [List.zip_cons_cons,map_cons,List.zip_cons_cons,List.filter_cons,List.filter_cons]
  by_cases h : k ∈ S
  ·simp only [h,decide_true,if_true,map_cons,ih]
  ·simp only [h,decide_false,Bool.false_eq_true,if_false,ih]
theorem bp (d : FR) (S : List Str) : oX d S = Lq ((cj d.u).map fun k => decide (k ∈ S)) d.is := xZ S _ _
theorem Bj : ∀ u ∈ (eS : List Str),(cj u).map (fun k => decide (k ∈ (["box"] : List Str))) = [false,false] := by decide +kernel
theorem Fc : ∀ u ∈ (zb : List Str),(cj u).map (fun k => decide (k ∈ (["box"] : List Str))) = [true,false,false] := by decide +kernel
theorem Bk : ∀ u ∈ (["table"] : List Str),(cj u).map (fun k => decide (k ∈ (["box"] : List Str))) = [true,false] := by decide +kernel
theorem Fd : ∀ u ∈ (w2 : List Str),(cj u).map (fun k => decide (k ∈ (["box"] : List Str))) = [true,true] := by decide +kernel
theorem Bl : ∀ u ∈ (w2 : List Str),(cj u).map (fun k => decide (k ∈ (tP : List Str))) = [false,false] := by decide +kernel
theorem Fe : ∀ u ∈ (["stop", "back"] : List Str),(cj u).map (fun k => decide (k ∈ (["box"] : List Str))) = [] := by decide +kernel
theorem Bm : ∀ u ∈ (["stop", "back"] : List Str),(cj u).map (fun k => decide (k ∈ (tP : List Str))) = [] := by decide +kernel
theorem ya : ∀ u ∈ (["halt"] : List Str),(cj u).map (fun k => decide (k ∈ (["box"] : List Str))) = [false] := by decide +kernel
theorem sh : ∀ u ∈ (["halt"] : List Str),(cj u).map (fun k => decide (k ∈ (tP : List Str))) = [true] := by decide +kernel
theorem yb : ∀ u ∈ (["tell"] : List Str),(cj u).map (fun k => decide (k ∈ (["box"] : List Str))) = [true] := by decide +kernel
theorem si : ∀ u ∈ (["tell"] : List Str),(cj u).map (fun k => decide (k ∈ (tP : List Str))) = [false] := by decide +kernel
theorem Ff : ∀ u ∈ (["set", "more", "see", "put", "take"] : List Str),(cj u).map (fun k => decide (k ∈ (["box"] : List Str))) = [true,false] := by decide +kernel
theorem Bo : ∀ u ∈ (["set", "more", "see", "put", "take"] : List Str),(cj u).map (fun k => decide (k ∈ (tP : List Str))) = [false,true] := by decide +kernel
theorem Fg : ∀ u ∈ bu,heads.idxOf (u,(0 : Int)) = bu.idxOf u := by decide +kernel
theorem Lr : ∀ u ∈ five,heads.idxOf (u,(1 : Int)) = bu.idxOf u + 6 := by decide +kernel
theorem iw {ds : List FR} {r : Nat} {d : FR} {t b : Int} (h : d.u ∈ five) (hu : d.u ∈ bu) (oM : d.ts = [t]) (hb : (oX d ["box"]).headD 0 = b) (hb2 : (oX d ["box"]).length ≠ 2) :
  (dt d = 0 → eF ds r d = [((bu.idxOf d.u : Nat) : Int) * 1024 + b * 128 + (dg ds r t + 64)]) ∧ (dt d = 1 → eF ds r d = [((bu.idxOf d.u : Nat) : Int) * 1024 + 6144 + b * 128,dg ds r t]) := by
 have nt : ¬ d.u = "table" := fun z => absurd h (by rw [z]; decide)
 refine ⟨fun z => ?_,fun z => ?_⟩
 ·have hs : cn d = true := by unfold cn; rw [decide_eq_true h,decide_eq_true z]; rfl
  unfold eF rZ sd DC xY DB
  rw [if_pos h,if_neg nt,if_pos h,if_pos hs,z,if_neg (by decide),hb,oM,Fg _ hu]
  rfl
 ·have hs : ¬ cn d = true := by unfold cn; rw [z]; simp
  unfold eF rZ sd DC xY DB
  rw [if_pos h,if_neg nt,if_pos h,if_neg hs,z,if_pos rfl,hb,oM,Lr _ h,if_neg hb2]
  show [_,_] = [_,_]
  congr 1
  push_cast
  omega
theorem iZ {ds : List FR} {r : Nat} {d : FR} (h : ¬ d.u ∈ five) (hu : d.u ∈ bu) :
  eF ds r d = (((bu.idxOf d.u : Nat) : Int) * 1024 + (oX d ["box"]).headD 0 * 128 + (if (oX d ["box"]).length = 2 then (oX d ["box"])[1]?.getD 0 else 0)) :: (if d.u = "table" then ((d.ts.map (dg ds r)).length : Int) :: d.ts.map (dg ds r) else oX d tP) := by
 have hs : ¬ cn d = true := by unfold cn; rw [decide_eq_false h]; simp
 unfold eF rZ sd DC xY DB
 rw [if_neg h,if_neg hs,if_neg h,Fg _ hu]
theorem lR {l : List Int} (h : l.length = 2) : ∃ b c,l = [b,c] := by
 match l,h with
 | [b,c],_ => exact ⟨b,c,rfl⟩
theorem Bp : ∀ u ∈ bu,u ∈ five ∨ u = "table" ∨ u = "halt" ∨ u ∈ (["stop", "back"] : List Str) ∨ u ∈ w2 ∨ u = "tell" ∨ u ∈ (["set", "more", "see", "put", "take"] : List Str) := by decide +kernel
theorem Ls (x y : V) (xs : List V) : gw (x :: y :: xs) (some 2) none = xs := by
 unfold gw
 have h1 : HT.dz (x :: y :: xs).length 0 (some 2) = 2 := by
  have : HT.dz (x :: y :: xs).length 0 (some ((2 : Nat) : Int)) = min 2 (x :: y :: xs).length := HT.gY ..
  rw [show (2 : Int) = ((2 : Nat) : Int) from rfl,this,length_cons,length_cons]
  omega
 have h2 : HT.dz (x :: y :: xs).length (x :: y :: xs).length none = (x :: y :: xs).length := rfl
 rw [h1,h2]
 show (xs).take _ = xs
 exact take_of_length_le (by simp)
theorem Fh (x y : V) (xs : List V) (h : HT.dz (x :: y :: xs).length 0 (some 2) = 0) : False := by
 have : HT.dz (x :: y :: xs).length 0 (some ((2 : Nat) : Int)) = min 2 (x :: y :: xs).length := HT.gY ..
 rw [show (2 : Int) = ((2 : Nat) : Int) from rfl,this,length_cons,length_cons] at h
 omega
section
variable {P : Program} {w : World} {K : Frag} {mg : Str → Option Value} {base : Heap}
def uq : Sp := fun vs H Q _ => ∃ (lr : Addr) (ds : List FR) (r : Nat) (d : FR),vs = [.ref lr,.int (r : Int)] ∧ dZ H lr ds ∧ ds[r]? = some d ∧ GoodR d ds.length ∧ ds.length ≤ 100000 ∧ ∀ (l : Addr) (H' : Hp),Same H H' → H' l = some (.lst ((eF ds r d).map V.int)) → Q (.ref l) H'
theorem kA : aW ["_law_rows", "_law_here", "_law_row_here", "_law_words", "_law_code", "_law_distance_here", "_law_first_here"] ["_law_rows", "_law_here"] (aq gd) := ⟨rfl,rfl,rfl,by decide +kernel,rfl,by decide +kernel,by decide +kernel⟩
def DE : Scope := { kind := .function,names := [(".0",.local),("_law_target",.local),("_law_distance",.globalImplicit),("_law_here",.free),("_law_rows",.free)],isGenerator := false,isCoroutine := false,more := [] }
theorem yc : dq (aq gd) DE ["_law_rows", "_law_here", "_law_row_here", "_law_words", "_law_code", "_law_distance_here", "_law_first_here"] ["_law_target", "_law_rows", "_law_here"] [none,some 0,some 1] := ⟨rfl,by decide +kernel,by decide +kernel,by decide +kernel,by decide +kernel,by decide +kernel⟩
theorem zh {f fD : Addr} {fd EG : FuncData} (F : fq K "_law_units" "_law_units" gd f fd) (T : Txt K w.params mg) (GD : aY P w K mg base cQ 2 fD EG ["_law_rows", "_law_here", "_law_there"] rM) (kD : KI K fD) (bD : Binds K EG ["_law_rows", "_law_here", "_law_there"] []) (mD : mg "_law_distance" = some (.ref fD)) : aY P w K mg base cQ 3 f fd ["_law_rows", "_law_here"] uq := by
 refine F.ok kA (fun vs H Q E h => ?_) (fun cdv A outer s H vs Q E hr h => ?_)
 ·obtain ⟨lr,ds,r,d,rfl,_⟩ := h
  rfl
 ·obtain ⟨lr,ds,r,d,rfl,hR,hd,hg,hn,k⟩ := h
  obtain ⟨qs,p,g1,g2,g2',g3⟩ := hR.get hd
  have hu := g3.1.1
  obtain ⟨items,i1,_⟩ := g3.full
  have hrl := (List.getElem?_eq_some_iff.mp hd).1
  refine dS (ao (aw (aF (i := 2) kA.nd rfl (Or.inl rfl) (aE aQ (pv 0) (pv 1) (fun _ _ => rfl))))
   (ao (iV (nK (i := 3) kA.nd rfl (Or.inl rfl) (nJ (.cons ak (.cons ak (.cons ak (.cons ak (.cons ak (.cons ak (.cons ak (.cons ak (.cons ak (.cons ak (.cons ak (.cons ak (.cons ak (.cons ak .nil)))))))))))))))))
   (ao (aw (aF (i := 3) kA.nd rfl (Or.inl rfl) (au hV (pv 3) (wX (.cons ak (.cons ak (.cons ak (.cons ak (.cons ak (.cons ak .nil))))))))))
   (ao (aw (aF (i := 4) kA.nd rfl (Or.inl rfl) (eP PySem.F.plainAttrs_list PySem.F.slot_list_index PySem.F.type_list_index yJ (pv 3) (af (aE aN (pv 2) ai (fun _ _ => rfl)) aj))))
   (ao (bj (az bg (aE aN (pv 2) ai (fun _ _ => rfl)) (dG (.cons ak (.cons ak (.cons ak (.cons ak (.cons ak .nil)))))) rfl) (ao (aw (aF (i := 5) kA.nd rfl (Or.inl rfl) (aK GD hr (by rfl) mD kD bD .nil ck (af (pv 0) (af (pv 1) (af (aE aN (pv 2) (dQ cT ai) (fun _ _ => rfl)) aj))))))
   (ao (aw (aF (i := 6) kA.nd rfl (Or.inl rfl) (au cS (au aO (pv 4) (au cS ai (aE aN (pv 2) (dQ cT ai) (fun _ _ => rfl)))) ai)))
   (ao (bj (az bg (aE aN (pv 2) ai (fun _ _ => rfl)) (aI (af ak (af ak aj))) rfl) (ay (aw (aF (i := 6) kA.nd rfl (Or.inl rfl) (au aO (pv 6) (au cS ai (aE aN (pv 2) ai (fun _ _ => rfl))))))) (aR aD))
   (ay (aw (aA (aE aQ (bw (af (bw (af (au aO (au aO (pv 6) (pv 5)) ai) aj)) (af (bw (af (pv 6) (af (pv 5) aj))) aj))) (aE aN (pv 2) (dQ cT ai) (fun _ _ => rfl)) (fun _ _ => rfl)))))))) (aR aD))
   (ao (bj (az cw (aE aN (pv 2) ai (fun _ _ => rfl)) ak (aL _)) (ay (aw (aA (au hV (bw (af (au aO (au cS (pv 4) ai) (au cS ai (aE aN (pv 2) ai (fun _ _ => rfl)))) (af (bf aU (by rfl) T.len cM (af (aE aN (pv 2) ai (fun _ _ => rfl)) aj)) aj))) (fY (X := (fh cQ P w K mg base ["_law_rows", "_law_here", "_law_row_here", "_law_words", "_law_code", "_law_distance_here", "_law_first_here"] "_law_units" (aq gd) f cdv A outer s H E).I0) (N' := ["_law_target", "_law_rows", "_law_here"]) (fr := [none,some 0,some 1]) yc rfl (qR (aE aN (pv 2) ai (fun _ _ => rfl))) (fun C s0 H0 fp => (cq (i := 0) yc.nd rfl (Or.inl rfl))) (fun C s0 H0 fp => eI) (fun C s0 H0 fp => (aK GD hr (by rfl) mD kD bD .nil ck (af (pv 1) (af (pv 2) (af (pv 0) aj)))))))))) (aR aD))
   (ao (bj (az cw (aE aN (pv 2) ai (fun _ _ => rfl)) ak (aL _)) (ay (aw (aA (bw (af (au cS (pv 4) ai) (af (aE aN (pv 2) ai (fun _ _ => rfl)) aj)))))) (aR aD))
   (ao (bj (az cw (bf aU (by rfl) T.len cM (af (pv 2) aj)) ai (aL _)) (ay (aw (aA (bw (af (au cS (pv 4) ai) aj))))) (aR aD))
   (ao (aw (aF (i := 6) kA.nd rfl (Or.inl rfl) (au aO (au cS (pv 4) ai) (au cS ai (aE aN (pv 2) ai (fun _ _ => rfl))))))
   (ao (bj (az bg (aE aN (pv 2) ai (fun _ _ => rfl)) (dG (.cons ak (.cons ak (.cons ak (.cons ak (.cons ak .nil)))))) rfl) (ay (aw (aA (bw (af (au aO (pv 6) (aE aN (pv 2) ai (fun _ _ => rfl))) aj))))) (aR aD))
   (ay (aw (aA (au hV (bw (af (pv 6) aj)) (bA dX (by rfl) T.list jw (af (dk ly (pv 2) (dj ai) fV) aj)))))))))))))))) ?_
  refine ⟨_,rfl,_,rfl,lr,_,_,_,rfl,rfl,bq.of g1,g2,?_⟩
  refine ⟨Ex,fun la mn => ?_⟩
  have s1 := ae (o := .lst [V.str "stop",V.str "back",V.str "halt",V.str "set",V.str "more",V.str "copy",V.str "add",V.str "less",V.str "load",V.str "keep",V.str "tell",V.str "see",V.str "put",V.str "take"]) mn
  have h1 : upd H la (.lst [V.str "stop",V.str "back",V.str "halt",V.str "set",V.str "more",V.str "copy",V.str "add",V.str "less",V.str "load",V.str "keep",V.str "tell",V.str "see",V.str "put",V.str "take"]) la = some (.lst ((["stop", "back", "halt", "set", "more", "copy", "add", "less", "load", "keep", "tell", "see", "put", "take"] : List Str).map V.str)) := ah
  generalize upd H la (.lst [V.str "stop",V.str "back",V.str "halt",V.str "set",V.str "more",V.str "copy",V.str "add",V.str "less",V.str "load",V.str "keep",V.str "tell",V.str "see",V.str "put",V.str "take"]) = G1 at s1 h1 ⊢
  refine ⟨_,rfl,CW,fun lb AJ => ?_⟩
  have s2 := s1.trans (ae (o := .lst [V.str "jump",V.str "zero",V.str "below",V.str "call",V.str "mark",V.str "table"]) AJ)
  have h12 := ae (o := .lst [V.str "jump",V.str "zero",V.str "below",V.str "call",V.str "mark",V.str "table"]) AJ _ _ h1
  have h2 : upd G1 lb (.lst [V.str "jump",V.str "zero",V.str "below",V.str "call",V.str "mark",V.str "table"]) lb = some (.lst ((["jump", "zero", "below", "call", "mark", "table"] : List Str).map V.str)) := ah
  generalize upd G1 lb (.lst [V.str "jump",V.str "zero",V.str "below",V.str "call",V.str "mark",V.str "table"]) = G2 at s2 h12 h2 ⊢
  refine ⟨la,lb,_,_,rfl,rfl,h12,h2,Ey,fun lc K5 => ?_⟩
  rw [← map_append]
  have s3 := s2.trans (ae (o := .lst (((["stop", "back", "halt", "set", "more", "copy", "add", "less", "load", "keep", "tell", "see", "put", "take"] : List Str) ++ (["jump", "zero", "below", "call", "mark", "table"] : List Str)).map V.str)) K5)
  have h3 : upd G2 lc (.lst (((["stop", "back", "halt", "set", "more", "copy", "add", "less", "load", "keep", "tell", "see", "put", "take"] : List Str) ++ (["jump", "zero", "below", "call", "mark", "table"] : List Str)).map V.str)) lc = some (.lst (bu.map V.str)) := ah
  generalize upd G2 lc (.lst (((["stop", "back", "halt", "set", "more", "copy", "add", "less", "load", "keep", "tell", "see", "put", "take"] : List Str) ++ (["jump", "zero", "below", "call", "mark", "table"] : List Str)).map V.str)) = G3 at s3 h3 ⊢
  refine ⟨_,rfl,.inl ⟨rfl,_,bq.of h3⟩,_,rfl,p,_,0,.str d.u,rfl,rfl,aZ.of (s3 _ _ i1),at0 _ _,lc,bu,d.u,rfl,rfl,h3,hu,by decide,?_⟩
  refine ⟨_,rfl,p,_,0,.str d.u,rfl,rfl,aZ.of (s3 _ _ i1),at0 _ _,iS,fun t5 BV => ⟨t5,(["jump", "zero", "below", "call", "mark"] : List Str).map V.str,rfl,.inr (aZ.of ah),rfl,rfl,_,rfl,?_⟩⟩
  have s5 := s3.trans (ae (o := .tup [V.str "jump",V.str "zero",V.str "below",V.str "call",V.str "mark"]) BV)
  rw [show inV (.str d.u) ((["jump", "zero", "below", "call", "mark"] : List Str).map V.str) = decide (d.u ∈ (["jump", "zero", "below", "call", "mark"] : List Str)) from bt _ _]
  generalize upd G3 t5 (.tup [V.str "jump",V.str "zero",V.str "below",V.str "call",V.str "mark"]) = G5 at s5 ⊢
  refine cB (fun e => ?_) (fun e => ?_)
  ·have e := (by decide +kernel : ∀ u ∈ (["jump", "zero", "below", "call", "mark"] : List Str),u ∈ five) _ (of_decide_eq_true e)
   obtain ⟨nt,y1,y2,t,oM,y3⟩ := eN g3 e
   have hf := hg.2.2.1 e
   obtain ⟨ht0,ht1⟩ := hg.2.1 t (by rw [oM]; simp)
   obtain ⟨tn,rfl⟩ := Int.eq_ofNat_of_zero_le ht0
   rcases (by decide +kernel : ∀ u ∈ five,(u ∈ eS ∧ ¬ u ∈ (["zero", "below"] : List Str)) ∨ u ∈ zb) _ e with ⟨z,nz⟩ | z
   ·skip
    refine ⟨_,rfl,_,rfl,_,rfl,_,rfl,p,_,_,_,rfl,rfl,aZ.of (s5 _ _ y1),y3,lr,ds,r,tn,rfl,hR.same s5,hrl,by omega,hn,fun G6 t6 => ?_⟩
    have s6 := s5.trans t6
    refine ⟨_,rfl,_,rfl,_,rfl,p,_,_,_,rfl,rfl,aZ.of (s6 _ _ y1),y2,_,_,rfl,rfl,.inl ⟨by decide,by decide⟩,_,_,rfl,rfl,_,_,rfl,rfl,.inr ⟨by decide,by decide⟩,?_⟩
    refine ⟨_,rfl,p,_,0,.str d.u,rfl,rfl,aZ.of (s6 _ _ y1),at0 _ _,aJ,fun t7 sM => ⟨t7,(["zero", "below"] : List Str).map V.str,rfl,.inr (aZ.of ah),rfl,rfl,_,rfl,?_⟩⟩
    have s7 := s6.trans (ae (o := .tup [V.str "zero",V.str "below"]) sM)
    rw [show inV (.str d.u) ((["zero", "below"] : List Str).map V.str) = decide (d.u ∈ (["zero", "below"] : List Str)) from bt _ _]
    generalize upd G6 t7 (.tup [V.str "zero",V.str "below"]) = G7 at s7 ⊢
    refine bY (fun x => nz (of_decide_eq_true x)) ?_
    obtain ⟨tt,ff,e1,_⟩ := g3.1.2.2.1 z
    have hb : (oX d ["box"]).headD 0 = 0 ∧ (oX d ["box"]).length ≠ 2 := by
     rw [bp,Bj _ z,e1]
     exact ⟨rfl,show ¬ (0 : Nat) = 2 by decide⟩
    obtain ⟨u0,u1⟩ := iw (ds := ds) (r := r) e hu oM hb.1 hb.2
    refine ⟨_,rfl,_,rfl,_,_,rfl,rfl,_,_,rfl,rfl,dD,fun l1 nL => ⟨_,rfl,_,rfl,aJ,fun l2 pj => ⟨aJ,fun l3 pC => ?_⟩⟩⟩
    have sN := s7.trans ((ae nL).trans ((ae pj).trans (ae (o := .lst [V.ref l1,V.ref l2]) pC)))
    rcases hf with zf | zf
    ·refine ⟨_,rfl,_,rfl,p,_,_,_,rfl,rfl,aZ.of (sN _ _ y1),y2,l3,_,_,.ref l1,rfl,rfl,bq.of ah,by rw [zf]; rfl,?_⟩
     refine k l1 _ sN ?_
     rw [u0 zf]
     refine (ae pC _ _ (ae pj _ _ ah)).trans ?_
     rw [zf]
     show some (HO.lst [V.int (((bu.idxOf d.u : Nat) + 6 * 0) * 1024 + dg ds r (tn : Int) + 64)]) = some (HO.lst [V.int (((bu.idxOf d.u : Nat) : Int) * 1024 + 0 * 128 + (dg ds r (tn : Int) + 64))])
     congr 4
     omega
    ·refine ⟨_,rfl,_,rfl,p,_,_,_,rfl,rfl,aZ.of (sN _ _ y1),y2,l3,_,_,.ref l2,rfl,rfl,bq.of ah,by rw [zf]; rfl,?_⟩
     refine k l2 _ sN ?_
     rw [u1 zf]
     refine (ae pC _ _ ah).trans ?_
     rw [zf]
     show some (HO.lst [V.int (((bu.idxOf d.u : Nat) + 6 * 1) * 1024),V.int (dg ds r (tn : Int))]) = some (HO.lst [V.int (((bu.idxOf d.u : Nat) : Int) * 1024 + 6144 + 0 * 128),V.int (dg ds r (tn : Int))])
     congr 4
     omega
   ·skip
    refine ⟨_,rfl,_,rfl,_,rfl,_,rfl,p,_,_,_,rfl,rfl,aZ.of (s5 _ _ y1),y3,lr,ds,r,tn,rfl,hR.same s5,hrl,by omega,hn,fun G6 t6 => ?_⟩
    have s6 := s5.trans t6
    refine ⟨_,rfl,_,rfl,_,rfl,p,_,_,_,rfl,rfl,aZ.of (s6 _ _ y1),y2,_,_,rfl,rfl,.inl ⟨by decide,by decide⟩,_,_,rfl,rfl,_,_,rfl,rfl,.inr ⟨by decide,by decide⟩,?_⟩
    refine ⟨_,rfl,p,_,0,.str d.u,rfl,rfl,aZ.of (s6 _ _ y1),at0 _ _,aJ,fun t7 sM => ⟨t7,(["zero", "below"] : List Str).map V.str,rfl,.inr (aZ.of ah),rfl,rfl,_,rfl,?_⟩⟩
    have s7 := s6.trans (ae (o := .tup [V.str "zero",V.str "below"]) sM)
    rw [show inV (.str d.u) ((["zero", "below"] : List Str).map V.str) = decide (d.u ∈ (["zero", "below"] : List Str)) from bt _ _]
    generalize upd G6 t7 (.tup [V.str "zero",V.str "below"]) = G7 at s7 ⊢
    refine bz (decide_eq_true z) ?_
    obtain ⟨bb,tt,ff,e1,_⟩ := g3.1.2.2.2.1 z
    have y0 : H p = some (.tup [V.str d.u,.int bb,.int tt,.int ff]) := by rw [y1,e1]; rfl
    have hb : (oX d ["box"]).headD 0 = bb ∧ (oX d ["box"]).length ≠ 2 := by
     rw [bp,Fc _ z,e1]
     exact ⟨rfl,show ¬ (1 : Nat) = 2 by decide⟩
    refine ⟨_,rfl,_,rfl,p,_,1,.int bb,rfl,rfl,aZ.of (s7 _ _ y0),at1 _ _ _,_,_,rfl,rfl,.inl ⟨by decide,by decide⟩,_,_,rfl,rfl,?_⟩
    obtain ⟨u0,u1⟩ := iw (ds := ds) (r := r) e hu oM hb.1 hb.2
    refine ⟨_,rfl,_,rfl,_,_,rfl,rfl,_,_,rfl,rfl,dD,fun l1 nL => ⟨_,rfl,_,rfl,aJ,fun l2 pj => ⟨aJ,fun l3 pC => ?_⟩⟩⟩
    have sN := s7.trans ((ae nL).trans ((ae pj).trans (ae (o := .lst [V.ref l1,V.ref l2]) pC)))
    rcases hf with zf | zf
    ·refine ⟨_,rfl,_,rfl,p,_,_,_,rfl,rfl,aZ.of (sN _ _ y1),y2,l3,_,_,.ref l1,rfl,rfl,bq.of ah,by rw [zf]; rfl,?_⟩
     refine k l1 _ sN ?_
     rw [u0 zf]
     refine (ae pC _ _ (ae pj _ _ ah)).trans ?_
     rw [zf]
     show some (HO.lst [V.int (((bu.idxOf d.u : Nat) + 6 * 0) * 1024 + 128 * bb + dg ds r (tn : Int) + 64)]) = some (HO.lst [V.int (((bu.idxOf d.u : Nat) : Int) * 1024 + bb * 128 + (dg ds r (tn : Int) + 64))])
     congr 4
     omega
    ·refine ⟨_,rfl,_,rfl,p,_,_,_,rfl,rfl,aZ.of (sN _ _ y1),y2,l3,_,_,.ref l2,rfl,rfl,bq.of ah,by rw [zf]; rfl,?_⟩
     refine k l2 _ sN ?_
     rw [u1 zf]
     refine (ae pC _ _ ah).trans ?_
     rw [zf]
     show some (HO.lst [V.int (((bu.idxOf d.u : Nat) + 6 * 1) * 1024 + 128 * bb),V.int (dg ds r (tn : Int))]) = some (HO.lst [V.int (((bu.idxOf d.u : Nat) : Int) * 1024 + 6144 + bb * 128),V.int (dg ds r (tn : Int))])
     congr 4
     omega
  have e : ¬ d.u ∈ five := fun z => e (decide_eq_true ((by decide +kernel : ∀ u ∈ five,u ∈ (["jump", "zero", "below", "call", "mark"] : List Str)) _ z))
  have zi := iZ (ds := ds) (r := r) e hu
  refine ⟨_,rfl,p,_,0,.str d.u,rfl,rfl,aZ.of (s5 _ _ i1),at0 _ _,rfl,_,rfl,?_⟩
  refine cB (fun et => ?_) (fun et => ?_)
  ·have et := strEq et
   rcases g3.2 with ⟨_,b,p3,KY,j1,j2⟩ | ⟨a,_⟩
   ·rw [if_pos et,bp,Bk _ (by rw [et]; decide),KY] at zi
    refine ⟨_,rfl,_,_,rfl,rfl,.inr ⟨by decide,by decide⟩,_,rfl,p,_,1,.int b,rfl,rfl,aZ.of (s5 _ _ j1),at1 _ _ _,_,_,rfl,rfl,.inl ⟨by decide,by decide⟩,_,_,rfl,rfl,?_⟩
    refine ⟨_,rfl,p,_,2,.ref p3,rfl,rfl,aZ.of (s5 _ _ j1),at2 _ _ _ _,p3,_,rfl,.inr (aZ.of (s5 _ _ j2)),aJ,fun l1 nL => ?_⟩
    have s6 := s5.trans (ae (o := .lst [V.int (((bu.idxOf d.u : Nat) : Int) * 1024 + 128 * b),V.int (((d.ts.map V.int).length : Nat) : Int)]) nL)
    have hl1 : upd G5 l1 (.lst [V.int (((bu.idxOf d.u : Nat) : Int) * 1024 + 128 * b),V.int (((d.ts.map V.int).length : Nat) : Int)]) l1 = some (.lst [V.int (((bu.idxOf d.u : Nat) : Int) * 1024 + 128 * b),V.int (((d.ts.map V.int).length : Nat) : Int)]) := ah
    refine ⟨_,rfl,p,_,2,.ref p3,rfl,rfl,aZ.of (s6 _ _ j1),at2 _ _ _ _,p3,rfl,⟨_,aZ.of (s6 _ _ j2)⟩,fun D nD => kc (K := K) (a := p3) (xs := d.ts.map V.int) (fun j σ ys G => ∃ (v : Option V),σ = [v,some (.ref lr),some (.int (r : Int))] ∧ ys = ((d.ts.take j).map (dg ds r)).map V.int ∧ Same (upd G5 l1 (.lst [V.int (((bu.idxOf d.u : Nat) : Int) * 1024 + 128 * b),V.int (((d.ts.map V.int).length : Nat) : Int)])) G ∧ G D = some (.lst ys)) ?_ ?_ ?_ ?_⟩
    ·exact ⟨none,rfl,rfl,ae nD,ah⟩
    ·rintro j σ ys G _ ⟨v,rfl,rfl,t2,_⟩
     exact aZ.of (t2 _ _ (s6 _ _ j2))
    ·rintro j x σ ys G hx ⟨v,rfl,rfl,t2,hD⟩
     rw [List.getElem?_map] at hx
     obtain ⟨tt,htj,rfl⟩ := map_eq_some_iff.mp hx
     obtain ⟨h0,h1⟩ := hg.2.1 tt (List.mem_of_getElem? htj)
     obtain ⟨tn,rfl⟩ := Int.eq_ofNat_of_zero_le h0
     have h16 := hg.1
     refine ⟨_,rfl,_,rfl,_,rfl,lr,ds,r,tn,rfl,hR.same (s6.trans t2),hrl,by omega,hn,fun G7 t7 => ⟨t7 _ _ hD,bK (by rw [length_map,length_map,length_take]; omega),_,rfl,?_,bh (t2.trans t7) nD,ah⟩⟩
     rw [take_add_one,htj,map_append,map_append]
     rfl
    ·rintro σ ys G ⟨v,rfl,rfl,t2,hD⟩
     rw [length_map,take_length] at hD
     have h16 := hg.1
     refine ⟨l1,D,_,_,rfl,rfl,t2 _ _ hl1,hD,er (by show 2 + _ ≤ 1000000; rw [length_map,length_map]; omega),fun l2 pj => ?_⟩
     refine k l2 _ ((s6.trans t2).trans (ae pj)) ?_
     rw [zi,ah]
     show some (HO.lst ([V.int (((bu.idxOf d.u : Nat) : Int) * 1024 + 128 * b),V.int (((d.ts.map V.int).length : Nat) : Int)] ++ (d.ts.map (dg ds r)).map V.int)) = some (HO.lst (V.int (((bu.idxOf d.u : Nat) : Int) * 1024 + b * 128 + 0) :: V.int (((d.ts.map (dg ds r)).length : Nat) : Int) :: (d.ts.map (dg ds r)).map V.int))
     rw [length_map,length_map,show 128 * b = b * 128 by omega,Int.add_zero]
     rfl
   ·exact absurd et a
  ·have et := jJ et
   rw [if_neg et] at zi
   rcases g3.2 with ⟨a,_⟩ | ⟨_,j1⟩
   ·exact absurd a et
   have har := (g3.1.2.2.2.2.1 et (fun z => e ((by decide : ∀ u ∈ eS,u ∈ five) _ z)) (fun z => e ((by decide : ∀ u ∈ zb,u ∈ five) _ z))).2
   refine ⟨_,rfl,p,_,0,.str d.u,rfl,rfl,aZ.of (s5 _ _ i1),at0 _ _,rfl,_,rfl,?_⟩
   refine cB (fun eh => ?_) (fun eh => ?_)
   ·have eh := strEq eh
    rw [eh,show vA "halt" = 1 by decide +kernel] at har
    obtain ⟨n,en⟩ := length_eq_one_iff.mp har
    rw [bp,bp,ya _ (by rw [eh]; decide),sh _ (by rw [eh]; decide),en] at zi
    have BZ : H p = some (.tup [.str d.u,.int n]) := by rw [j1,en]; rfl
    refine ⟨_,rfl,_,_,rfl,rfl,.inr ⟨by decide,by decide⟩,_,rfl,p,_,1,.int n,rfl,rfl,aZ.of (s5 _ _ BZ),at1 _ _ _,aJ,fun l1 nL => ?_⟩
    refine k l1 _ (s5.trans (ae nL)) ?_
    rw [zi,ah]
    show some (HO.lst [V.int (((bu.idxOf d.u : Nat) : Int) * 1024),V.int n]) = some (HO.lst [V.int (((bu.idxOf d.u : Nat) : Int) * 1024 + 0 * 128 + 0),V.int n])
    rw [Int.zero_mul,Int.add_zero,Int.add_zero]
   ·have eh := jJ eh
    refine ⟨_,rfl,p,_,rfl,.inr (aZ.of (s5 _ _ j1)),rfl,_,rfl,?_⟩
    rw [length_cons,length_map]
    rcases Bp _ hu with z | z | z | z | z | z | z
    ·exact absurd z e
    ·exact absurd z et
    ·exact absurd z eh
    ·rw [(by decide +kernel : ∀ u ∈ (["stop", "back"] : List Str),vA u = 0) _ z] at har
     have en := length_eq_zero_iff.mp har
     rw [bp,bp,Fe _ z,Bm _ z,en] at zi
     refine bz (by rw [har]; rfl) ?_
     refine ⟨_,rfl,_,_,rfl,rfl,.inr ⟨by decide,by decide⟩,dD,fun l1 nL => ?_⟩
     refine k l1 _ (s5.trans (ae nL)) ?_
     rw [zi,ah]
     show some (HO.lst [V.int (((bu.idxOf d.u : Nat) : Int) * 1024)]) = some (HO.lst [V.int (((bu.idxOf d.u : Nat) : Int) * 1024 + 0 * 128 + 0)])
     rw [Int.zero_mul,Int.add_zero,Int.add_zero]
    ·rw [(by decide +kernel : ∀ u ∈ w2,vA u = 2) _ z] at har
     obtain ⟨b,c,en⟩ := lR har
     rw [bp,bp,Fd _ z,Bl _ z,en] at zi
     have BZ : H p = some (.tup [.str d.u,.int b,.int c]) := by rw [j1,en]; rfl
     refine bY (by rw [har]; decide) ?_
     refine ⟨_,rfl,_,_,rfl,rfl,.inr ⟨by decide,by decide⟩,_,rfl,p,_,1,.int b,rfl,rfl,aZ.of (s5 _ _ BZ),at1 _ _ _,_,_,rfl,rfl,.inl ⟨by decide,by decide⟩,_,_,rfl,rfl,?_⟩
     refine ⟨_,rfl,p,_,0,.str d.u,rfl,rfl,aZ.of (s5 _ _ i1),at0 _ _,iS,fun t8 Dl => ⟨t8,(["copy", "add", "less", "load", "keep"] : List Str).map V.str,rfl,.inr (aZ.of ah),rfl,rfl,_,rfl,?_⟩⟩
     have s8 := s5.trans (ae (o := .tup [V.str "copy",V.str "add",V.str "less",V.str "load",V.str "keep"]) Dl)
     rw [show inV (.str d.u) ((["copy", "add", "less", "load", "keep"] : List Str).map V.str) = decide (d.u ∈ (["copy", "add", "less", "load", "keep"] : List Str)) from bt _ _]
     generalize upd G5 t8 (.tup [V.str "copy",V.str "add",V.str "less",V.str "load",V.str "keep"]) = G8 at s8 ⊢
     refine bz (decide_eq_true z) ?_
     refine ⟨_,rfl,_,rfl,p,_,2,.int c,rfl,rfl,aZ.of (s8 _ _ BZ),at2 _ _ _ _,_,_,rfl,rfl,dD,fun l1 nL => ?_⟩
     refine k l1 _ (s8.trans (ae nL)) ?_
     rw [zi,ah]
     show some (HO.lst [V.int (((bu.idxOf d.u : Nat) : Int) * 1024 + 128 * b + c)]) = some (HO.lst [V.int (((bu.idxOf d.u : Nat) : Int) * 1024 + b * 128 + c)])
     congr 4
     omega
    ·have har : d.is.length = 1 := by rw [har,z]; decide +kernel
     obtain ⟨b,en⟩ := length_eq_one_iff.mp har
     rw [bp,bp,yb _ (by rw [z]; decide),si _ (by rw [z]; decide),en] at zi
     have BZ : H p = some (.tup [.str d.u,.int b]) := by rw [j1,en]; rfl
     refine bY (by rw [har]; decide) ?_
     refine ⟨_,rfl,_,_,rfl,rfl,.inr ⟨by decide,by decide⟩,_,rfl,p,_,1,.int b,rfl,rfl,aZ.of (s5 _ _ BZ),at1 _ _ _,_,_,rfl,rfl,.inl ⟨by decide,by decide⟩,_,_,rfl,rfl,?_⟩
     refine ⟨_,rfl,p,_,0,.str d.u,rfl,rfl,aZ.of (s5 _ _ i1),at0 _ _,iS,fun t8 Dl => ⟨t8,(["copy", "add", "less", "load", "keep"] : List Str).map V.str,rfl,.inr (aZ.of ah),rfl,rfl,_,rfl,?_⟩⟩
     have s8 := s5.trans (ae (o := .tup [V.str "copy",V.str "add",V.str "less",V.str "load",V.str "keep"]) Dl)
     rw [show inV (.str d.u) ((["copy", "add", "less", "load", "keep"] : List Str).map V.str) = decide (d.u ∈ (["copy", "add", "less", "load", "keep"] : List Str)) from bt _ _]
     generalize upd G5 t8 (.tup [V.str "copy",V.str "add",V.str "less",V.str "load",V.str "keep"]) = G8 at s8 ⊢
     refine bY (fun x => absurd (of_decide_eq_true x) (by rw [z]; decide)) ?_
     refine ⟨_,rfl,dD,fun l1 nL => ?_⟩
     have s9 := s8.trans (ae (o := .lst [V.int (((bu.idxOf d.u : Nat) : Int) * 1024 + 128 * b)]) nL)
     refine ⟨_,rfl,2,rfl,p,_,rfl,aZ.of (s9 _ _ BZ),(fun x => Fh _ _ _ x.1),fun t2 gg => ?_⟩
     rw [Ls]
     refine ⟨t2,_,rfl,.inr (aZ.of ah),fun l2 pj => ⟨l1,l2,_,_,rfl,rfl,ae pj _ _ (ae gg _ _ ah),ah,dD,fun l3 pC => ?_⟩⟩
     refine k l3 _ (((s9.trans (ae gg)).trans (ae pj)).trans (ae pC)) ?_
     rw [zi,ah]
     show some (HO.lst [V.int (((bu.idxOf d.u : Nat) : Int) * 1024 + 128 * b)]) = some (HO.lst [V.int (((bu.idxOf d.u : Nat) : Int) * 1024 + b * 128 + 0)])
     congr 4
     omega
    ·rw [(by decide +kernel : ∀ u ∈ (["set", "more", "see", "put", "take"] : List Str),vA u = 2) _ z] at har
     obtain ⟨b,c,en⟩ := lR har
     rw [bp,bp,Ff _ z,Bo _ z,en] at zi
     have BZ : H p = some (.tup [.str d.u,.int b,.int c]) := by rw [j1,en]; rfl
     refine bY (by rw [har]; decide) ?_
     refine ⟨_,rfl,_,_,rfl,rfl,.inr ⟨by decide,by decide⟩,_,rfl,p,_,1,.int b,rfl,rfl,aZ.of (s5 _ _ BZ),at1 _ _ _,_,_,rfl,rfl,.inl ⟨by decide,by decide⟩,_,_,rfl,rfl,?_⟩
     refine ⟨_,rfl,p,_,0,.str d.u,rfl,rfl,aZ.of (s5 _ _ i1),at0 _ _,iS,fun t8 Dl => ⟨t8,(["copy", "add", "less", "load", "keep"] : List Str).map V.str,rfl,.inr (aZ.of ah),rfl,rfl,_,rfl,?_⟩⟩
     have s8 := s5.trans (ae (o := .tup [V.str "copy",V.str "add",V.str "less",V.str "load",V.str "keep"]) Dl)
     rw [show inV (.str d.u) ((["copy", "add", "less", "load", "keep"] : List Str).map V.str) = decide (d.u ∈ (["copy", "add", "less", "load", "keep"] : List Str)) from bt _ _]
     generalize upd G5 t8 (.tup [V.str "copy",V.str "add",V.str "less",V.str "load",V.str "keep"]) = G8 at s8 ⊢
     refine bY (fun x => absurd (of_decide_eq_true x) ((by decide +kernel : ∀ u ∈ (["set", "more", "see", "put", "take"] : List Str),¬ u ∈ (["copy", "add", "less", "load", "keep"] : List Str)) _ z)) ?_
     refine ⟨_,rfl,dD,fun l1 nL => ?_⟩
     have s9 := s8.trans (ae (o := .lst [V.int (((bu.idxOf d.u : Nat) : Int) * 1024 + 128 * b)]) nL)
     refine ⟨_,rfl,2,rfl,p,_,rfl,aZ.of (s9 _ _ BZ),(fun x => Fh _ _ _ x.1),fun t2 gg => ?_⟩
     rw [Ls]
     refine ⟨t2,_,rfl,.inr (aZ.of ah),fun l2 pj => ⟨l1,l2,_,_,rfl,rfl,ae pj _ _ (ae gg _ _ ah),ah,aJ,fun l3 pC => ?_⟩⟩
     refine k l3 _ (((s9.trans (ae gg)).trans (ae pj)).trans (ae pC)) ?_
     rw [zi,ah]
     show some (HO.lst [V.int (((bu.idxOf d.u : Nat) : Int) * 1024 + 128 * b),V.int c]) = some (HO.lst [V.int (((bu.idxOf d.u : Nat) : Int) * 1024 + b * 128 + 0),V.int c])
     congr 4
     omega
end
def lS (ds : List FR) (r : Nat) (d : FR) : FR := d4 d (d.ts.map (dg ds r))
theorem codes : ∀ u ∈ bu,heads[bu.idxOf u]? = some (u,(0 : Int)) ∧ bu.idxOf u < 20 := by decide +kernel
theorem Bq : ∀ u ∈ five,heads[bu.idxOf u + 6]? = some (u,(1 : Int)) := by decide +kernel
theorem oY {h : Str × Int} {c : Nat} {a low u : Int} (hc : heads[c]? = some h) (ha : 0 ≤ a ∧ a ≤ 7) (hl : 0 ≤ low ∧ low ≤ 127) (hn : h.1 ∈ n6 → a = 0) (hm : low ≤ iF h) (hu : u = (c : Int) * 1024 + a * 128 + low) : gj u = some (h,a,low) := by
 have hc25 : c < 25 := (List.getElem?_eq_some_iff.mp hc).1
 have hmem := List.mem_of_getElem? hc
 have e1 : (u / 1024).toNat = c := by omega
 have e2 : u % 1024 / 128 = a := by omega
 have e3 : u % 128 = low := by omega
 unfold gj
 rw [if_pos (by omega),e1,hc,e2,e3]
 show (if fits h a low = true then some (h,a,low) else none) = _
 rw [if_pos]
 rw [xM hmem ha.1 hl.1 hl.2,decide_eq_true hm]
 by_cases z : h.1 ∈ n6
 ·rw [hn z]; simp
 ·simp [z]
theorem vL {k : Str} {lo hi n : Int} (hk : ¬ k ∈ (["target", "far", "targets"] : List Str)) (hb : gF k = (lo,hi)) (h : iK k n = true) : lo ≤ n ∧ n ≤ hi := by
 unfold iK inB at h
 rw [if_neg hk,hb] at h
 exact of_decide_eq_true h
theorem jD {n : Int} (h : iK "box" n = true) : 0 ≤ n ∧ n ≤ 7 := vL (by decide) (by decide +kernel : gF "box" = (0,7)) h
theorem qI {us : List V} : ∀ {l : List Int} {i : Nat},(∀ (j : Nat) x,l[j]? = some x → uA us (i + j) = some x) → wholes us i l.length = .ok l
 | [],i,h => rfl
 | x :: l,i,h => by
  show (match uA us i with | none => Except.error i | some x => match wholes us (i + 1) l.length with | .error e => .error e | .ok l => .ok (x :: l)) = _
  rw [show uA us i = some x from h 0 x rfl]
  show (match wholes us (i + 1) l.length with | .error e => Except.error e | .ok l => .ok (x :: l)) = _
  rw [qI (i := i + 1) (fun j y hy => by rw [show i + 1 + j = i + (j + 1) by omega]; exact h (j + 1) y (by simpa using hy))]
theorem FR.eta {d : FR} (h : d.ts = []) : (⟨d.u,d.is,[]⟩ : FR) = d := by cases d; cases h; rfl
theorem HQ {d : FR} (h : d.Ok) (hj : d.u ∈ eS) : (oX d ["box"]).headD 0 = 0 ∧ (oX d ["box"]).length ≠ 2 := by
 obtain ⟨tt,ff,e1,_⟩ := h.2.2.1 hj
 rw [bp,Bj _ hj,e1]
 exact ⟨rfl,show ¬ (0 : Nat) = 2 by decide⟩
theorem Lv {d : FR} (h : d.Ok) (hz : d.u ∈ zb) : (oX d ["box"]).headD 0 = d.is.headD 0 ∧ (oX d ["box"]).length ≠ 2 := by
 obtain ⟨bb,tt,ff,e1,_⟩ := h.2.2.2.1 hz
 rw [bp,Fc _ hz,e1]
 exact ⟨rfl,show ¬ (1 : Nat) = 2 by decide⟩
theorem qJ {us : List V} {at_ : Nat} {ds : List FR} {r : Nat} {d : FR} {n b t : Int} (hok : d.Ok) (hg : GoodR d n) (h5 : d.u ∈ five) (oM : d.ts = [t]) (hb : (oX d ["box"]).headD 0 = b) (hb2 : (oX d ["box"]).length ≠ 2) (hbb : 0 ≤ b ∧ b ≤ 7) (hn : d.u ∈ n6 → b = 0) (hbr : cn d = true → oH (dst ds r d) = true)
  (hu : ∀ (j : Nat) x,(eF ds r d)[j]? = some x → uA us (at_ + j) = some x) : rowAt us at_ = .ok (iL d.u b (dg ds r t) (dt d)) := by
 obtain ⟨u0,u1⟩ := iw (ds := ds) (r := r) h5 hok.1 oM hb hb2
 have hc := codes _ hok.1
 rcases hg.2.2.1 h5 with zf | zf
 ·have hsh : cn d = true := by unfold cn; rw [decide_eq_true h5,decide_eq_true zf]; rfl
  have hbo := of_decide_eq_true (hbr hsh)
  have QG : dst ds r d = dg ds r t := by unfold dst; rw [oM]; rfl
  rw [QG] at hbo
  have e0 := hu 0 _ (by rw [u0 zf]; rfl)
  rw [Nat.add_zero] at e0
  rw [il (kh e0)]
  have hh := oY (h := (d.u,0)) (a := b) (low := dg ds r t + 64) hc.1 hbb (by omega) hn (by unfold iF; rw [if_pos (by rw [decide_eq_true h5]; rfl)]; omega) rfl
  show (match gj _ with | none => Except.error at_ | some (h,a,low) => cm us at_ h a low) = _
  rw [hh]
  show cm us at_ (d.u,0) b (dg ds r t + 64) = _
  rw [jA (h := (d.u,0)) h5]
  unfold iX
  rw [if_pos rfl,zf,show dg ds r t + 64 - 64 = dg ds r t by omega]
 ·have e0 := hu 0 _ (by rw [u1 zf]; rfl)
  have e1 := hu 1 _ (by rw [u1 zf]; rfl)
  rw [Nat.add_zero] at e0
  rw [il (kh e0)]
  have hh := oY (h := (d.u,1)) (c := bu.idxOf d.u + 6) (a := b) (low := 0) (Bq _ h5) hbb (by omega) hn (by unfold iF; split <;> split <;> omega) (u := ((bu.idxOf d.u : Nat) : Int) * 1024 + 6144 + b * 128) (by push_cast; omega)
  show (match gj _ with | none => Except.error at_ | some (h,a,low) => cm us at_ h a low) = _
  rw [hh]
  show cm us at_ (d.u,1) b 0 = _
  rw [uf (h := (d.u,1)) (List.mem_of_getElem? (Bq _ h5)) rfl e1,zf]
theorem eG {us : List V} {at_ : Nat} {d : FR} {a low u : Int} {R : Except Nat FR} (hok : d.Ok) (h5 : ¬ d.u ∈ five) (ha : 0 ≤ a ∧ a ≤ 7) (hl : 0 ≤ low ∧ low ≤ 127) (hn : d.u ∈ n6 → a = 0) (hm : low = 0 ∨ d.u ∈ w2 ∧ low ≤ 7) (e0 : uA us at_ = some u) (hu : u = ((bu.idxOf d.u : Nat) : Int) * 1024 + a * 128 + low) (ht : cm us at_ (d.u,0) a low = R) : rowAt us at_ = R := by
 have hc := codes _ hok.1
 rw [il (kh e0)]
 have hh := oY (h := (d.u,0)) (a := a) (low := low) (u := u) hc.1 ha hl hn (by
  unfold iF
  rcases hm with z | ⟨z1,z2⟩
  ·rw [z]; split <;> split <;> omega
  ·rw [if_neg (by rw [decide_eq_false h5]; exact Bool.false_ne_true),if_pos (decide_eq_true z1)]; omega) hu
 show (match gj u with | none => Except.error at_ | some (h,a,low) => cm us at_ h a low) = _
 rw [hh]
 exact ht
theorem HR {us : List V} {at_ : Nat} {ds : List FR} {r : Nat} {d : FR} {n : Int} (hok : d.Ok) (hg : GoodR d n) (hbr : cn d = true → oH (dst ds r d) = true)
  (hu : ∀ (j : Nat) x,(eF ds r d)[j]? = some x → uA us (at_ + j) = some x) : rowAt us at_ = .ok (lS ds r d) := by
 unfold lS d4
 by_cases h5 : d.u ∈ five
 ·have nt : ¬ d.u = "table" := fun z => absurd h5 (by rw [z]; decide)
  rw [if_neg nt]
  rcases (by decide +kernel : ∀ u ∈ five,(u ∈ eS ∧ ¬ u ∈ zb) ∨ (u ∈ zb ∧ ¬ u ∈ eS ∧ ¬ u ∈ n6)) _ h5 with ⟨z,nz⟩ | ⟨z,nj,n6'⟩
  ·obtain ⟨tt,ff,e1,e2⟩ := hok.2.2.1 z
   rw [qJ hok hg h5 e2 (HQ hok z).1 (HQ hok z).2 (by omega) (fun _ => rfl) hbr hu,if_pos z,e2]
   unfold iL
   rw [if_neg nz]
   rfl
  ·obtain ⟨bb,tt,ff,e1,e2⟩ := hok.2.2.2.1 z
   have hb := jD (hg.2.2.2.box (.inl z) e1)
   have hp := Lv hok z
   rw [e1] at hp
   rw [qJ hok hg h5 e2 hp.1 hp.2 hb (fun y => absurd y n6') hbr hu,if_neg nj,if_pos z,e2,e1]
   unfold iL
   rw [if_pos z]
   rfl
 ·have hup := iZ (ds := ds) (r := r) h5 hok.1
  have nj : ¬ d.u ∈ eS := fun z => h5 ((by decide +kernel : ∀ u ∈ eS,u ∈ five) _ z)
  have nz : ¬ d.u ∈ zb := fun z => h5 ((by decide +kernel : ∀ u ∈ zb,u ∈ five) _ z)
  by_cases ht : d.u = "table"
  ·rw [if_pos ht]
   obtain ⟨b,e1⟩ := hok.2.1 ht
   have hb := jD (hg.2.2.2.box (.inr ht) e1)
   have h1 := hg.2.2.2.2 ht
   rw [bp,Bk _ (by rw [ht]; decide),e1,if_pos ht,length_map] at hup
   have e0 := hu 0 _ (by rw [hup]; rfl)
   have eL := hu 1 _ (by rw [hup]; rfl)
   refine eG hok h5 hb (low := 0) (by omega) (fun y => absurd y (by rw [ht]; decide)) (.inl rfl) e0 rfl ?_
   rw [oV (h := (d.u,0)) ht]
   unfold tabAt
   rw [eL]
   show (if (1 : Int) ≤ ((d.ts.length : Nat) : Int) ∧ ((d.ts.length : Nat) : Int) ≤ 16 then (match wholes us (at_ + 2) (((d.ts.length : Nat) : Int)).toNat with | .error e => Except.error e | .ok l => .ok (⟨"table",[b],l⟩ : FR)) else .error (at_ + 1)) = _
   rw [if_pos ⟨by omega,by have := hg.1; omega⟩,Int.toNat_natCast]
   have hw : wholes us (at_ + 2) (d.ts.map (dg ds r)).length = .ok (d.ts.map (dg ds r)) := qI fun j x hx => by
    rw [show at_ + 2 + j = at_ + (j + 2) by omega]
    exact hu (j + 2) x (by rw [hup]; exact hx)
   rw [length_map] at hw
   rw [hw,e1]
  ·rw [if_neg ht,if_neg nj,if_neg nz]
   obtain ⟨oM,har⟩ := hok.2.2.2.2.1 ht nj nz
   rw [if_neg ht] at hup
   rcases Bp _ hok.1 with z | z | z | z | z | z | z
   ·exact absurd z h5
   ·exact absurd z ht
   ·have hl : d.is.length = 1 := by rw [har,z]; decide +kernel
    obtain ⟨m,en⟩ := length_eq_one_iff.mp hl
    rw [bp,bp,ya _ (by rw [z]; decide),sh _ (by rw [z]; decide),en] at hup
    have e0 := hu 0 _ (by rw [hup]; rfl)
    have e1 := hu 1 m (by rw [hup]; rfl)
    have hm := vL (by decide) (by decide +kernel : gF "number" = (0,1000000)) (hg.2.2.2.1 0 "number" m (by rw [z]; decide +kernel) (by rw [en]; rfl))
    refine eG hok h5 (a := 0) (low := 0) (by omega) (by omega) (fun _ => rfl) (.inl rfl) e0 rfl ?_
    rw [jB (h := (d.u,0)) z,e1]
    have hlo : nS d.u = 0 ∧ nU d.u = 1000000 := by rw [z]; decide +kernel
    show (if nS d.u ≤ m ∧ m ≤ nU d.u then Except.ok (⟨d.u,[m],[]⟩ : FR) else .error (at_ + 1)) = _
    rw [if_pos ⟨by rw [hlo.1]; exact hm.1,by rw [hlo.2]; exact hm.2⟩,← en,FR.eta oM]
   ·have hl : d.is.length = 0 := by rw [har]; exact (by decide +kernel : ∀ u ∈ (["stop", "back"] : List Str),vA u = 0) _ z
    have en := length_eq_zero_iff.mp hl
    rw [bp,bp,Fe _ z,Bm _ z,en] at hup
    have e0 := hu 0 _ (by rw [hup]; rfl)
    refine eG hok h5 (a := 0) (low := 0) (by omega) (by omega) (fun _ => rfl) (.inl rfl) e0 rfl ?_
    rw [xN (h := (d.u,0)) z]
    exact congrArg Except.ok ((congrArg (fun l => (⟨d.u,l,[]⟩ : FR)) en.symm).trans (FR.eta oM))
   ·have hl : d.is.length = 2 := by rw [har]; exact (by decide +kernel : ∀ u ∈ w2,vA u = 2) _ z
    obtain ⟨b,c,en⟩ := lR hl
    have hks := (by decide +kernel : ∀ u ∈ w2,cj u = (["box", "box"] : List Str) ∧ ¬ u ∈ n6) _ z
    have hb := jD (hg.2.2.2.1 0 "box" b (by rw [hks.1]; rfl) (by rw [en]; rfl))
    have hc := jD (hg.2.2.2.1 1 "box" c (by rw [hks.1]; rfl) (by rw [en]; rfl))
    rw [bp,bp,Fd _ z,Bl _ z,en] at hup
    have e0 := hu 0 _ (by rw [hup]; rfl)
    refine eG hok h5 (a := b) (low := c) hb (by omega) (fun y => absurd y hks.2) (.inr ⟨z,hc.2⟩) e0 rfl ?_
    rw [xO (h := (d.u,0)) z,← en,FR.eta oM]
   ·have hl : d.is.length = 1 := by rw [har,z]; decide +kernel
    obtain ⟨b,en⟩ := length_eq_one_iff.mp hl
    have hb := jD (hg.2.2.2.1 0 "box" b (by rw [z]; decide +kernel) (by rw [en]; rfl))
    rw [bp,bp,yb _ (by rw [z]; decide),si _ (by rw [z]; decide),en] at hup
    have e0 := hu 0 _ (by rw [hup]; rfl)
    refine eG hok h5 (a := b) (low := 0) hb (by omega) (fun y => absurd y (by rw [z]; decide)) (.inl rfl) e0 rfl ?_
    rw [qF (h := (d.u,0)) z,← en,FR.eta oM]
   ·have hl : d.is.length = 2 := by rw [har]; exact (by decide +kernel : ∀ u ∈ (["set", "more", "see", "put", "take"] : List Str),vA u = 2) _ z
    obtain ⟨b,c,en⟩ := lR hl
    have hks := (by decide +kernel : ∀ u ∈ (["set", "more", "see", "put", "take"] : List Str),(cj u)[0]? = some ("box" : Str) ∧ (cj u)[1]? = some (k2 u) ∧ gF (k2 u) = (nS u,nU u) ∧ ¬ k2 u ∈ (["target", "far", "targets"] : List Str) ∧ ¬ u ∈ n6) _ z
    have hb := jD (hg.2.2.2.1 0 "box" b hks.1 (by rw [en]; rfl))
    have hc := vL hks.2.2.2.1 hks.2.2.1 (hg.2.2.2.1 1 (k2 d.u) c hks.2.1 (by rw [en]; rfl))
    rw [bp,bp,Ff _ z,Bo _ z,en] at hup
    have e0 := hu 0 _ (by rw [hup]; rfl)
    have e1 := hu 1 c (by rw [hup]; rfl)
    refine eG hok h5 (a := b) (low := 0) hb (by omega) (fun y => absurd y hks.2.2.2.2) (.inl rfl) e0 rfl ?_
    rw [nV (h := (d.u,0)) z,e1]
    show (if nS d.u ≤ c ∧ c ≤ nU d.u then Except.ok (⟨d.u,[b,c],[]⟩ : FR) else .error (at_ + 1)) = _
    rw [if_pos hc,← en,FR.eta oM]
theorem vM {ds : List FR} {r : Nat} {d : FR} {n : Int} (hok : d.Ok) (hg : GoodR d n) : (((eF ds r d).length : Nat) : Int) = gE d := by
 unfold gE
 by_cases h5 : d.u ∈ five
 ·have nt : ¬ d.u = "table" := fun z => absurd h5 (by rw [z]; decide)
  rw [if_neg nt,if_pos h5]
  have hp : ∃ t,d.ts = [t] ∧ (oX d ["box"]).length ≠ 2 := by
   rcases (by decide +kernel : ∀ u ∈ five,u ∈ eS ∨ u ∈ zb) _ h5 with z | z
   ·obtain ⟨tt,ff,e1,e2⟩ := hok.2.2.1 z
    exact ⟨tt,e2,(HQ hok z).2⟩
   ·obtain ⟨bb,tt,ff,e1,e2⟩ := hok.2.2.2.1 z
    exact ⟨tt,e2,(Lv hok z).2⟩
  obtain ⟨t,oM,hb2⟩ := hp
  obtain ⟨u0,u1⟩ := iw (ds := ds) (r := r) h5 hok.1 oM rfl hb2
  rcases hg.2.2.1 h5 with zf | zf
  ·rw [u0 zf,zf]; rfl
  ·rw [u1 zf,zf]; rfl
 ·have hup := iZ (ds := ds) (r := r) h5 hok.1
  have nj : ¬ d.u ∈ eS := fun z => h5 ((by decide +kernel : ∀ u ∈ eS,u ∈ five) _ z)
  have nz : ¬ d.u ∈ zb := fun z => h5 ((by decide +kernel : ∀ u ∈ zb,u ∈ five) _ z)
  rw [hup]
  by_cases ht : d.u = "table"
  ·rw [if_pos ht,if_pos ht,length_cons,length_cons,length_map]
   push_cast
   omega
  ·rw [if_neg ht,if_neg ht,if_neg h5,length_cons]
   obtain ⟨oM,har⟩ := hok.2.2.2.2.1 ht nj nz
   have key : (oX d tP).length = if d.u ∈ six then 1 else 0 := by
    rcases Bp _ hok.1 with z | z | z | z | z | z | z
    ·exact absurd z h5
    ·exact absurd z ht
    ·have hl : d.is.length = 1 := by rw [har,z]; decide +kernel
     obtain ⟨m,en⟩ := length_eq_one_iff.mp hl
     rw [bp,sh _ (by rw [z]; decide),en,if_pos (by rw [z]; decide)]
     rfl
    ·rw [bp,Bm _ z,if_neg ((by decide +kernel : ∀ u ∈ (["stop", "back"] : List Str),¬ u ∈ six) _ z)]
     rfl
    ·have hl : d.is.length = 2 := by rw [har]; exact (by decide +kernel : ∀ u ∈ w2,vA u = 2) _ z
     obtain ⟨b,c,en⟩ := lR hl
     rw [bp,Bl _ z,en,if_neg ((by decide +kernel : ∀ u ∈ w2,¬ u ∈ six) _ z)]
     rfl
    ·have hl : d.is.length = 1 := by rw [har,z]; decide +kernel
     obtain ⟨m,en⟩ := length_eq_one_iff.mp hl
     rw [bp,si _ (by rw [z]; decide),en,if_neg (by rw [z]; decide)]
     rfl
    ·have hl : d.is.length = 2 := by rw [har]; exact (by decide +kernel : ∀ u ∈ (["set", "more", "see", "put", "take"] : List Str),vA u = 2) _ z
     obtain ⟨b,c,en⟩ := lR hl
     rw [bp,Bo _ z,en,if_pos ((by decide +kernel : ∀ u ∈ (["set", "more", "see", "put", "take"] : List Str),u ∈ six) _ z)]
     rfl
   rw [key]
   by_cases h6 : d.u ∈ six
   ·rw [if_pos h6,if_pos h6]; rfl
   ·rw [if_neg h6,if_neg h6]; rfl
structure i0 (ds : List FR) : Prop where
 ok : ∀ d ∈ ds,d.Ok
 good : ∀ d ∈ ds,GoodR d ds.length
 bears : ∀ (r : Nat) d,ds[r]? = some d → cn d = true → oH (dst ds r d) = true
 last : ∀ d,ds[ds.length - 1]? = some d → d.u ∈ dE
theorem i0.far {ds : List FR} (A : i0 ds) : ∀ d ∈ ds,fM d ∧ d.ts.length ≤ 16 := fun d hd => ⟨(A.good d hd).2.2.1,(A.good d hd).1⟩
theorem dO {ds : List FR} (A : i0 ds) : ∀ n,n ≤ ds.length → (((di ds n).length : Nat) : Int) = beg ds n
 | 0,_ => rfl
 | n + 1,h => by
  have hd : ds[n]? = some ds[n] := List.getElem?_eq_getElem (by omega)
  have ih := dO A n (by omega)
  have hl := vM (ds := ds) (r := n) (A.ok _ (List.getElem_mem (by omega : n < ds.length))) (A.good _ (List.getElem_mem (by omega : n < ds.length)))
  rw [gk hd,length_append,dY hd]
  push_cast
  omega
theorem qK {ds : List FR} (A : i0 ds) {r j : Nat} {d : FR} {x : Int} (hd : ds[r]? = some d) (hx : (eF ds r d)[j]? = some x) : ∀ n,r < n → n ≤ ds.length → (di ds n)[(beg ds r).toNat + j]? = some x
 | 0,h,_ => absurd h (not_lt_zero _)
 | n + 1,h,hn => by
  have hdn : ds[n]? = some ds[n] := List.getElem?_eq_getElem (by omega)
  rw [gk hdn]
  by_cases e : r = n
  ·subst e
   rw [hd] at hdn
   have hl := dO A r (by omega)
   cases hdn
   rw [List.getElem?_append_right (by omega),show (beg ds r).toNat + j - (di ds r).length = j by omega]
   exact hx
  ·have ih := qK A hd hx n (by omega) (by omega)
   rw [List.getElem?_append_left (List.getElem?_eq_some_iff.mp ih).1]
   exact ih
theorem HS {us : List Int} {i : Nat} {x : Int} (h : us[i]? = some x) : uA (us.map V.int) i = some x := by
 unfold uA
 rw [List.getElem?_map,h]
 rfl
def pF (ds : List FR) : List FR := (List.range ds.length).filterMap fun r => ds[r]?.map (lS ds r)
theorem sj (ds : List FR) : ∀ n,n ≤ ds.length → ((List.range n).filterMap fun r => ds[r]?.map (lS ds r)).length = n ∧ ∀ r,r < n → ((List.range n).filterMap fun r => ds[r]?.map (lS ds r))[r]? = ds[r]?.map (lS ds r)
 | 0,_ => ⟨rfl,fun r h => absurd h (not_lt_zero _)⟩
 | n + 1,h => by
  have ih := sj ds n (by omega)
  have hd : ds[n]? = some ds[n] := List.getElem?_eq_getElem (by omega)
  rw [range_succ,List.filterMap_append]
  have e1 : ([n].filterMap fun r => ds[r]?.map (lS ds r)) = [lS ds n ds[n]] := by simp [hd]
  rw [e1]
  refine ⟨by rw [length_append,ih.1]; rfl,fun r hr => ?_⟩
  by_cases e : r = n
  ·subst e
   rw [List.getElem?_append_right (by omega),ih.1,sub_self,hd]
   rfl
  ·rw [List.getElem?_append_left (by omega)]
   exact ih.2 r (by omega)
theorem jE (ds : List FR) : (pF ds).length = ds.length := (sj ds _ (le_refl _)).1
theorem vN {ds : List FR} {r : Nat} {d : FR} (hd : ds[r]? = some d) : (pF ds)[r]? = some (lS ds r d) := by
 have := (sj ds _ (le_refl _)).2 r (List.getElem?_eq_some_iff.mp hd).1
 rw [hd] at this
 exact this
theorem sk (d : FR) (ts : List Int) : (d4 d ts).u = d.u := by
 unfold d4
 split
 ·rename_i z; exact z.symm
 ·split
  ·rfl
  ·split <;> rfl
theorem Fi {ds : List FR} {r : Nat} {d : FR} (hok : d.Ok) : gE (lS ds r d) = gE d := by
 unfold gE
 rw [show (lS ds r d).u = d.u from sk _ _]
 by_cases ht : d.u = "table"
 ·rw [if_pos ht,if_pos ht]
  unfold lS d4
  rw [if_pos ht]
  show (2 : Int) + ((d.ts.map (dg ds r)).length : Nat) = _
  rw [length_map]
 ·rw [if_neg ht,if_neg ht]
  by_cases h5 : d.u ∈ five
  ·rw [if_pos h5,if_pos h5]
   congr 1
   unfold lS d4
   rw [if_neg ht]
   rcases (by decide +kernel : ∀ u ∈ five,u ∈ eS ∨ (u ∈ zb ∧ ¬ u ∈ eS)) _ h5 with z | ⟨z,nj⟩
   ·rw [if_pos z]; rfl
   ·rw [if_neg nj,if_pos z]; rfl
  ·rw [if_neg h5,if_neg h5]
theorem vO {ds : List FR} (A : i0 ds) : ∀ j,j ≤ ds.length → beg (pF ds) j = beg ds j
 | 0,_ => rfl
 | j + 1,h => by
  have hd : ds[j]? = some ds[j] := List.getElem?_eq_getElem (by omega)
  rw [dY (vN hd),dY hd,vO A j (by omega),Fi (A.ok _ (List.getElem_mem _))]
theorem ur {ds : List FR} (A : i0 ds) : ∀ (k r f : Nat),r + k = ds.length → k < f → cA ((di ds ds.length).map V.int) f (beg ds r).toNat = .ok ((pF ds).drop r)
 | 0,r,f,h,_ => by
  have e : r = ds.length := by omega
  subst e
  have hl := dO A ds.length (le_refl _)
  rw [lM (by rw [length_map]; omega),List.drop_eq_nil_of_le (by rw [jE]; exact le_refl _)]
 | k + 1,r,0,_,hf => absurd hf (not_lt_zero _)
 | k + 1,r,f + 1,h,hf => by
  have hrl : r < ds.length := by omega
  have hd : ds[r]? = some ds[r] := List.getElem?_eq_getElem hrl
  have hmem := List.getElem_mem hrl
  generalize ds[r] = d at hd hmem
  have hrow : rowAt ((di ds ds.length).map V.int) (beg ds r).toNat = .ok (lS ds r d) := HR (A.ok _ hmem) (A.good _ hmem) (A.bears r d hd) fun j x hx => HS (qK A hd hx _ hrl (le_refl _))
  have hl := dO A ds.length (le_refl _)
  have hlt := iu A.far (i := r) ds.length hrl (le_refl _)
  have hp := jz A.far r (by omega)
  have hs := km (A.far d hmem).1
  show (if ((di ds ds.length).map V.int).length ≤ (beg ds r).toNat then Except.ok [] else match rowAt ((di ds ds.length).map V.int) (beg ds r).toNat with | .error e => .error e | .ok d => match cA ((di ds ds.length).map V.int) f ((beg ds r).toNat + (gE d).toNat) with | .error e => .error e | .ok l => .ok (d :: l)) = _
  rw [if_neg (by rw [length_map]; omega),hrow]
  show (match cA ((di ds ds.length).map V.int) f ((beg ds r).toNat + (gE (lS ds r d)).toNat) with | .error e => Except.error e | .ok l => .ok (lS ds r d :: l)) = _
  rw [Fi (A.ok _ hmem),show (beg ds r).toNat + (gE d).toNat = (beg ds (r + 1)).toNat by rw [dY hd]; omega,ur A k (r + 1) f (by omega) (by omega)]
  have hsl : r < (pF ds).length := by rw [jE]; exact hrl
  have e := vN hd
  rw [List.drop_eq_getElem_cons hsl]
  have e2 : (pF ds)[r] = lS ds r d := by
   have := List.getElem?_eq_getElem hsl
   rw [e] at this
   exact (Option.some.inj this).symm
  rw [e2]
theorem yd {ds : List FR} (h : ∀ d ∈ ds,fM d ∧ d.ts.length ≤ 16) {t : Nat} : ∀ n,t < n → n ≤ ds.length → sO ds n (beg ds t) = some t
 | 0,ht,_ => absurd ht (not_lt_zero _)
 | n + 1,ht,hn => by
  show (if beg ds n = beg ds t then some n else sO ds n (beg ds t)) = some t
  by_cases e : t = n
  ·subst e
   rw [if_pos rfl]
  ·have := iu h (i := t) n (by omega) (by omega)
   rw [if_neg (by omega),yd h n (by omega) (by omega)]
theorem qM {ds es : List FR} (x : Int) : ∀ n,(∀ j,j < n → beg ds j = beg es j) → sO ds n x = sO es n x
 | 0,_ => rfl
 | n + 1,h => by
  show (if beg ds n = x then some n else sO ds n x) = (if beg es n = x then some n else sO es n x)
  rw [h n (lt_succ_self n),qM x n fun j hj => h j (by omega)]
theorem Lw {ds : List FR} {r : Nat} {d : FR} (hok : d.Ok) : (lS ds r d).ts = d.ts.map (dg ds r) := by
 unfold lS d4
 by_cases ht : d.u = "table"
 ·rw [if_pos ht]
 ·rw [if_neg ht]
  by_cases hj : d.u ∈ eS
  ·obtain ⟨tt,ff,e1,e2⟩ := hok.2.2.1 hj
   rw [if_pos hj,e2]
   rfl
  ·rw [if_neg hj]
   by_cases hz : d.u ∈ zb
   ·obtain ⟨bb,tt,ff,e1,e2⟩ := hok.2.2.2.1 hz
    rw [if_pos hz,e2]
    rfl
   ·rw [if_neg hz,(hok.2.2.2.2.1 ht hj hz).1]
    rfl
theorem zj {d : FR} (hok : d.Ok) (ts : List Int) : d4 (d4 d ts) d.ts = d := by
 have hu := sk d ts
 obtain ⟨u,is,Lx⟩ := d
 unfold d4 at hu ⊢
 by_cases ht : u = "table"
 ·subst ht
  rfl
 ·have h0 : ¬ (⟨u,is,Lx⟩ : FR).u = "table" := ht
  rw [if_neg h0] at hu ⊢
  by_cases hj : u ∈ eS
  ·obtain ⟨tt,ff,e1,e2⟩ := hok.2.2.1 hj
   have e1 : is = [tt,ff] := e1
   have e2 : Lx = [tt] := e2
   subst e1
   subst e2
   have h1 : (⟨u,[tt,ff],[tt]⟩ : FR).u ∈ eS := hj
   rw [if_pos h1,if_neg (show ¬ (⟨u,[ts.headD 0,dt ⟨u,[tt,ff],[tt]⟩],[ts.headD 0]⟩ : FR).u = "table" from ht),if_pos (show (⟨u,[ts.headD 0,dt ⟨u,[tt,ff],[tt]⟩],[ts.headD 0]⟩ : FR).u ∈ eS from hj)]
   rfl
  ·have h1 : ¬ (⟨u,is,Lx⟩ : FR).u ∈ eS := hj
   rw [if_neg h1] at hu ⊢
   by_cases hz : u ∈ zb
   ·obtain ⟨bb,tt,ff,e1,e2⟩ := hok.2.2.2.1 hz
    have e1 : is = [bb,tt,ff] := e1
    have e2 : Lx = [tt] := e2
    subst e1
    subst e2
    have h2 : (⟨u,[bb,tt,ff],[tt]⟩ : FR).u ∈ zb := hz
    rw [if_pos h2,if_neg (show ¬ (⟨u,[bb,ts.headD 0,dt ⟨u,[bb,tt,ff],[tt]⟩],[ts.headD 0]⟩ : FR).u = "table" from ht),if_neg (show ¬ (⟨u,[bb,ts.headD 0,dt ⟨u,[bb,tt,ff],[tt]⟩],[ts.headD 0]⟩ : FR).u ∈ eS from hj),if_pos (show (⟨u,[bb,ts.headD 0,dt ⟨u,[bb,tt,ff],[tt]⟩],[ts.headD 0]⟩ : FR).u ∈ zb from hz)]
    rfl
   ·have h2 : ¬ (⟨u,is,Lx⟩ : FR).u ∈ zb := hz
    rw [if_neg h2,if_neg h0,if_neg h1,if_neg h2]
theorem HU {ds : List FR} (A : i0 ds) {r : Nat} {d : FR} (hd : ds[r]? = some d) : iM (pF ds) (pF ds).length r (lS ds r d) = d.ts.map fun t => some t.toNat := by
 have hmem := List.mem_of_getElem? hd
 have hrl := (List.getElem?_eq_some_iff.mp hd).1
 unfold iM
 rw [Lw (A.ok _ hmem),map_map,jE]
 refine List.map_congr_left fun t ht => ?_
 obtain ⟨t0,t1⟩ := (A.good _ hmem).2.1 t ht
 show sO (pF ds) ds.length (beg (pF ds) (r + 1) + dg ds r t) = some t.toNat
 rw [vO A (r + 1) (by omega),qM (es := ds) _ ds.length fun j hj => vO A j (by omega)]
 unfold dg
 rw [show beg ds (r + 1) + (beg ds t.toNat - beg ds (r + 1)) = beg ds t.toNat by omega]
 exact yd A.far _ (by omega) (le_refl _)
theorem DF {ds : List FR} (A : i0 ds) {r : Nat} {d : FR} (hd : ds[r]? = some d) : eC (pF ds) r (lS ds r d) = false ∧ kn (pF ds) r (lS ds r d) = d := by
 have hmem := List.mem_of_getElem? hd
 have hrl := (List.getElem?_eq_some_iff.mp hd).1
 have hl := HU A hd
 refine ⟨?_,?_⟩
 ·unfold eC
  rw [hl,jE,show (lS ds r d).u = d.u from sk _ _]
  have h1 : decide (none ∈ d.ts.map fun t => some t.toNat) = false := decide_eq_false fun z => by
   obtain ⟨t,_,e⟩ := mem_map.mp z
   cases e
  rw [h1,Bool.false_or]
  by_cases e : r + 1 = ds.length
  ·have : d.u ∈ dE := A.last d (by rw [show ds.length - 1 = r by omega]; exact hd)
   rw [decide_eq_true this]
   simp
  ·rw [decide_eq_false e]
   rfl
 ·unfold kn
  rw [hl,map_map]
  have : (d.ts.map ((fun o : Option Nat => ((o.getD 0 : Nat) : Int)) ∘ fun t => some t.toNat)) = d.ts := by
   refine (List.map_congr_left fun t ht => ?_).trans (List.map_id _)
   obtain ⟨t0,t1⟩ := (A.good _ hmem).2.1 t ht
   show ((t.toNat : Nat) : Int) = id t
   show ((t.toNat : Nat) : Int) = t
   omega
  rw [this]
  unfold lS
  exact zj (A.ok _ hmem) _
theorem ye {ds : List FR} (A : i0 ds) : ∀ (k r : Nat),r + k = ds.length → eE (pF ds) r ((pF ds).drop r) = .ok (ds.drop r)
 | 0,r,h => by
  rw [List.drop_eq_nil_of_le (by rw [jE]; omega),List.drop_eq_nil_of_le (by omega)]
  rfl
 | k + 1,r,h => by
  have hrl : r < ds.length := by omega
  have hd : ds[r]? = some ds[r] := List.getElem?_eq_getElem hrl
  have hdr : ds.drop r = ds[r] :: ds.drop (r + 1) := List.drop_eq_getElem_cons hrl
  generalize ds[r] = d at hd hdr
  have hsl : r < (pF ds).length := by rw [jE]; exact hrl
  have e := vN hd
  have e2 : (pF ds)[r] = lS ds r d := by
   have := List.getElem?_eq_getElem hsl
   rw [e] at this
   exact (Option.some.inj this).symm
  have ih := ye A k (r + 1) (by omega)
  obtain ⟨b1,b2⟩ := DF A hd
  rw [List.drop_eq_getElem_cons hsl,e2,hdr]
  show (if eC (pF ds) r (lS ds r d) = true then _ else match eE (pF ds) (r + 1) ((pF ds).drop (r + 1)) with | .error e => Except.error e | .ok m => .ok (kn (pF ds) r (lS ds r d) :: m)) = _
  rw [if_neg (by rw [b1]; decide),ih,b2]
theorem vP {ds : List FR} (A : i0 ds) (h0 : ds ≠ []) : dH ((di ds ds.length).map V.int) = .ok ds := by
 have hp : 0 < ds.length := List.length_pos_iff.mpr h0
 have hl := dO A ds.length (le_refl _)
 have hlt := iu A.far (i := 0) ds.length hp (le_refl _)
 have hb0 : beg ds 0 = 0 := rfl
 have key : ∀ j,j ≤ ds.length → (j : Int) ≤ beg ds j := by
  intro j
  induction j with
  | zero => intro _; exact Int.le_refl 0
  | succ j ih =>
   intro hj
   have h1 := ih (Nat.le_of_succ_le hj)
   have h2 := iu A.far (i := j) (j + 1) (lt_succ_self j) hj
   push_cast
   omega
 have hk := key ds.length (le_refl _)
 unfold dH
 rw [if_neg (fun z => by
  have := congrArg length z
  rw [length_map,List.length_nil] at this
  omega)]
 have hr := ur A ds.length 0 (((di ds ds.length).map V.int).length + 1) (by omega) (by rw [length_map]; omega)
 rw [hb0] at hr
 have hr : cA ((di ds ds.length).map V.int) (((di ds ds.length).map V.int).length + 1) 0 = .ok (pF ds) := hr
 rw [hr]
 have := ye A ds.length 0 (by omega)
 rw [drop_zero,drop_zero] at this
 exact this
theorem yf {n j : Nat} (h : j < n) : zp n (j : Int) = some j := by
 unfold zp
 rw [if_pos (by omega),if_pos (by omega)]
 rfl
theorem gm (us : List Int) : Fl (us.map V.int) := fun v hv => by
 obtain ⟨x,_,rfl⟩ := mem_map.mp hv
 exact .int x
theorem vQ {vs : List V} (h : Fl vs) {v : V} (hv : FV v) (j : Nat) : Fl (vs.set j v) := fun x hx => by
 rcases List.mem_or_eq_of_mem_set hx with z | rfl
 ·exact h x z
 ·exact hv
section
variable {P : Program} {w : World} {K : Frag} {mg : Str → Option Value} {base : Heap}
def uv : Sp := fun vs H Q _ => ∃ u x : Int,vs = [.int u,.int x] ∧ ∀ (v : V) (H' : Hp),FV v → Same H H' → Q v H'
theorem Fj : aW ["_law_unit", "_law_x", "_law_way"] ["_law_unit", "_law_x"] (aq gQ) := ⟨rfl,rfl,rfl,by decide +kernel,rfl,by decide +kernel,by decide +kernel⟩
theorem zk {f : Addr} {fd : FuncData} (F : fq K "_law_turned" "_law_turned" gQ f fd) (T : Txt K w.params mg) : aY P w K mg base cQ 1 f fd ["_law_unit", "_law_x"] uv := by
 refine F.ok Fj (fun vs H Q E h => ?_) (fun cdv A outer s H vs Q E hr h => ?_)
 ·obtain ⟨u,x,rfl,_⟩ := h
  rfl
 ·obtain ⟨u,x,rfl,k⟩ := h
  have cp : n9 10 9 := ⟨by decide,by decide,by decide⟩
  have Qw : n9 10 6 := ⟨by decide,by decide,by decide⟩
  have QH : n9 10 40 := ⟨by decide,by decide,by decide⟩
  refine dS (ao (aw (aF (i := 2) Fj.nd rfl (Or.inl rfl) (au bV (pv 1) ai)))
   (ao (bj (az jY (pv 2) ai (aL _)) (ay (aw (aA (au aO (pv 0) (aE aQ (bw (af ai (af (dQ cT ai) (af ai (af (dQ cT ai) aj))))) (pv 2) (fun _ _ => rfl)))))) (aR aD))
   (ao (bj (az jY (pv 2) ai (aL _)) (ay (aw (aA (au aO (pv 0) (aE aQ (bw (af ai (af (au cS ai ai) aj))) (au dU (pv 2) ai) (fun _ _ => rfl)))))) (aR aD))
   (ao (bj (az cw (pv 2) ai (aL _)) (ay (aw (aA (au dU (dQ cT ai) (au bV (au bM (pv 1) ai) ai))))) (aR aD))
   (ao (bj (az cw (pv 2) ai (aL _)) (ay (aw (aA (aE aQ (bw (af (au aO (au gu ai ai) ai) (af (au aO (au gu ai ai) ai) (af (au dU (au dU ai (au gu ai ai)) ai) (af (au cS ai ai) (af (au gu ai ai) aj)))))) (au bV (au bM (pv 1) ai) ai) (fun _ _ => rfl))))) (aR aD))
   (ao (bj (az cw (pv 2) ai (aL _)) (ay (aw (aA (au bV (au bM (pv 1) ai) (au cS ai ai))))) (aR aD))
   (ao (bj (az cw (pv 2) ai (aL _)) (ay (aw (aA (aE aQ (bw (af iN (af iN (af cH (af ak aj))))) (au bV (au bM (pv 1) ai) ai) (fun _ _ => rfl))))) (aR aD))
   (ay (aw (aA (au bV (au bM (pv 1) ai) ai))))))))))) ?_
  have h12 := ik x (show (0 : Int) < 12 by decide)
  refine ⟨_,rfl,_,_,rfl,rfl,Kp,?_⟩
  refine ⟨_,rfl,_,_,rfl,rfl,_,rfl,?_⟩
  refine cB (fun e => ?_) (fun e => ?_)
  ·have e := of_decide_eq_true e
   obtain ⟨y,_,hy⟩ := dh [1,-1,128,-128] (x % 12) h12.1 (by show x % 12 < 4; exact e)
   refine ⟨_,rfl,_,rfl,_,rfl,ke,fun l nl => ⟨_,rfl,l,_,_,.int y,rfl,rfl,bq.of (show _ = some (.lst (([1,-1,128,-128] : List Int).map V.int)) from ah),hy,_,_,rfl,rfl,k _ _ (.int _) (ae nl)⟩⟩
  have e1 : ¬ x % 12 < 4 := fun z => e (decide_eq_true z)
  refine ⟨_,rfl,_,_,rfl,rfl,_,rfl,?_⟩
  refine cB (fun e => ?_) (fun e => ?_)
  ·have e := of_decide_eq_true e
   have e : x % 12 < 6 := e
   obtain ⟨y,_,hy⟩ := dh [1024,5 * 1024] (x % 12 - 4) (by omega) (by show x % 12 - 4 < 2; omega)
   refine ⟨_,rfl,_,_,rfl,rfl,.inl ⟨by decide,by decide⟩,aJ,fun l nl => ⟨_,rfl,_,_,rfl,rfl,l,_,_,.int y,rfl,rfl,bq.of (show _ = some (.lst (([1024,5 * 1024] : List Int).map V.int)) from ah),hy,_,_,rfl,rfl,k _ _ (.int _) (ae nl)⟩⟩
  refine ⟨_,rfl,rfl,_,rfl,?_⟩
  refine cB (fun e => ?_) (fun e => ?_)
  ·exact ⟨_,rfl,_,rfl,_,_,rfl,rfl,⟨by show (0 : Int) < 12; decide,by show (12 : Int) < _; decide⟩,_,_,rfl,rfl,Ku,_,_,rfl,rfl,k _ _ (.int _) (.refl _)⟩
  refine ⟨_,rfl,rfl,_,rfl,?_⟩
  refine cB (fun e => ?_) (fun e => ?_)
  ·have h5 := ik (x / 12) (show (0 : Int) < 5 by decide)
   obtain ⟨y,_,hy⟩ := dh [(10 : Int) ^ (6 : Int).toNat + 1,(10 : Int) ^ (9 : Int).toNat + 1,0 - (10 : Int) ^ (9 : Int).toNat - 1,25 * 1024,(10 : Int) ^ (40 : Int).toNat] (x / 12 % 5) h5.1 (by show x / 12 % 5 < 5; exact h5.2)
   refine ⟨_,_,rfl,rfl,Qw,_,_,rfl,rfl,_,_,rfl,rfl,cp,_,_,rfl,rfl,_,_,rfl,rfl,cp,_,_,rfl,rfl,_,_,rfl,rfl,_,_,rfl,rfl,.inl ⟨by decide,by decide⟩,_,_,rfl,rfl,QH,iS,fun l nl => ?_⟩
   have hl : upd H l (.lst (([(10 : Int) ^ (6 : Int).toNat + 1,(10 : Int) ^ (9 : Int).toNat + 1,0 - (10 : Int) ^ (9 : Int).toNat - 1,25 * 1024,(10 : Int) ^ (40 : Int).toNat] : List Int).map V.int)) l = some (.lst (([(10 : Int) ^ (6 : Int).toNat + 1,(10 : Int) ^ (9 : Int).toNat + 1,0 - (10 : Int) ^ (9 : Int).toNat - 1,25 * 1024,(10 : Int) ^ (40 : Int).toNat] : List Int).map V.int)) := ah
   exact ⟨_,rfl,_,_,rfl,rfl,⟨by show (0 : Int) < 12; decide,by show (12 : Int) < _; decide⟩,_,_,rfl,rfl,Qb,l,_,_,.int y,rfl,rfl,bq.of hl,hy,k _ _ (.int _) (ae nl)⟩
  refine ⟨_,rfl,rfl,_,rfl,?_⟩
  refine cB (fun e => ?_) (fun e => ?_)
  ·exact ⟨_,rfl,_,_,rfl,rfl,⟨by show (0 : Int) < 12; decide,by show (12 : Int) < _; decide⟩,_,_,rfl,rfl,.inl ⟨by decide,by decide⟩,_,_,rfl,rfl,(by show (0 : Int) < 25 * 1024; decide),k _ _ (.int _) (.refl _)⟩
  refine ⟨_,rfl,rfl,_,rfl,?_⟩
  refine cB (fun e => ?_) (fun e => ?_)
  ·have h4 := ik (x / 12) (show (0 : Int) < 4 by decide)
   refine ⟨ke,fun l nl => ?_⟩
   refine ⟨_,rfl,_,_,rfl,rfl,⟨by show (0 : Int) < 12; decide,by show (12 : Int) < _; decide⟩,_,_,rfl,rfl,vq,?_⟩
   rcases (show x / 12 % 4 = 0 ∨ x / 12 % 4 = 1 ∨ x / 12 % 4 = 2 ∨ x / 12 % 4 = 3 by omega) with z | z | z | z
   ·exact ⟨l,_,0,.bl true,rfl,congrArg V.int z,bq.of ah,rfl,k _ _ (.bl _) (ae nl)⟩
   ·exact ⟨l,_,1,.bl false,rfl,congrArg V.int z,bq.of ah,rfl,k _ _ (.bl _) (ae nl)⟩
   ·exact ⟨l,_,2,.non,rfl,congrArg V.int z,bq.of ah,rfl,k _ _ .non (ae nl)⟩
   ·exact ⟨l,_,3,.str "7",rfl,congrArg V.int z,bq.of ah,rfl,k _ _ (.str _) (ae nl)⟩
  exact ⟨_,rfl,_,_,rfl,rfl,⟨by show (0 : Int) < 12; decide,by show (12 : Int) < _; decide⟩,_,_,rfl,rfl,Kq,k _ _ (.int _) (.refl _)⟩
def uw : Sp := fun vs H Q _ => ∃ (lu : Addr) (us : List Int) (c : Int),vs = [.ref lu,.int c] ∧ H lu = some (.lst (us.map V.int)) ∧ 1 ≤ us.length ∧ us.length ≤ 100000 ∧ ∀ (l : Addr) (vs : List V) (H' : Hp),Same H H' → H' l = some (.lst vs) → Fl vs → vs.length ≤ us.length + 1 → Q (.ref l) H'
theorem oZ : aW ["_law_units_here", "_law_cell", "_law_xs", "_law_at", "_law_other", "_law_found", "_law_way"] ["_law_units_here", "_law_cell"] (aq jv) := ⟨rfl,rfl,rfl,by decide +kernel,rfl,by decide +kernel,by decide +kernel⟩
theorem zl {f fS fT : Addr} {fd w4 xc : FuncData} (F : fq K "_law_spoilt" "_law_spoilt" jv f fd) (T : Txt K w.params mg) (GS : aY P w K mg base cQ 1 fS w4 ["_law_cell", "_law_many"] oI) (kS : KI K fS) (bS : Binds K w4 ["_law_cell", "_law_many"] []) (mS : mg "_law_stream" = some (.ref fS)) (GT : aY P w K mg base cQ 1 fT xc ["_law_unit", "_law_x"] uv) (kT : KI K fT) (bT : Binds K xc ["_law_unit", "_law_x"] []) (mT : mg "_law_turned" = some (.ref fT)) : aY P w K mg base cQ 2 f fd ["_law_units_here", "_law_cell"] uw := by
 refine F.ok oZ (fun vs H Q E h => ?_) (fun cdv A outer s H vs Q E hr h => ?_)
 ·obtain ⟨lu,us,c,rfl,_⟩ := h
  rfl
 ·obtain ⟨lu,us,c,rfl,hu,hl1,hl2,k⟩ := h
  have hr1 := hr
  refine dS (ao (aw (aF (i := 2) oZ.nd rfl (Or.inl rfl) (aK GS hr1 (by rfl) mS kS bS .nil ck (af (pv 1) (af ai aj)))))
   (ao (aw (aF (i := 3) oZ.nd rfl (Or.inl rfl) (au bV (aE aQ (pv 2) ai (fun _ _ => rfl)) (bf aU (by rfl) T.len cM (af (pv 0) aj)))))
   (ao (aw (aF (i := 4) oZ.nd rfl (Or.inl rfl) (au bV (aE aQ (pv 2) ai (fun _ _ => rfl)) (bf aU (by rfl) T.len cM (af (pv 0) aj)))))
   (ao (aw (aF (i := 5) oZ.nd rfl (Or.inl rfl) (bA dX (by rfl) T.list jw (af (pv 0) aj))))
   (ao (aw (aF (i := 6) oZ.nd rfl (Or.inl rfl) (au bV (aE aQ (pv 2) ai (fun _ _ => rfl)) ai)))
   (gN (bj (az cw (pv 6) ai (aL _)) (ay (aw (cV (eP PySem.F.plainAttrs_list PySem.F.slot_list_pop PySem.F.type_list_pop zH (pv 5) (af (pv 3) aj))))) (ay (bj (az cw (pv 6) ai (aL _)) (ay (aw (cV (eP PySem.F.plainAttrs_list PySem.F.slot_list_insert PySem.F.type_list_insert yL (pv 5) (af (pv 3) (af (aK GT hr1 (by rfl) mT kT bT .nil ck (af (aE aQ (pv 0) (pv 4) (fun _ _ => rfl)) (af (aE aQ (pv 2) ai (fun _ _ => rfl)) aj))) aj)))))) (ay (bj (az cw (pv 6) ai (aL _)) (ay (aw (aF (i := 5) oZ.nd rfl (Or.inl rfl) (dk j5 (pv 5) fV (dj (pv 3)))))) (ay (bj (az cw (pv 6) ai (aL _)) (ay (aw (qQ (aI (af (aE aQ (pv 5) (pv 4) (fun _ _ => rfl)) (af (aE aQ (pv 5) (pv 3) (fun _ _ => rfl)) aj))) (qP (n := 2) rfl (dA (uK (pv 5) (pv 3) set_list) (dA (uK (pv 5) (pv 4) set_list) nA)))))) (ay (aw (qQ (aK GT hr1 (by rfl) mT kT bT .nil ck (af (aE aQ (pv 0) (pv 3) (fun _ _ => rfl)) (af (aE aQ (pv 2) ai (fun _ _ => rfl)) aj))) (uK (pv 5) (pv 3) set_list)))))))))))
   (ay (aw (aA (pv 5)))))))))) ?_
  refine ⟨_,rfl,c,4,rfl,by decide,fun ls ms G1 s1 nls hls hml hpos => ?_⟩
  obtain ⟨x0,_,hx0⟩ := dh ms 0 (by decide) (by omega)
  obtain ⟨x1,_,hx1⟩ := dh ms 1 (by decide) (by omega)
  obtain ⟨x2,_,hx2⟩ := dh ms 2 (by decide) (by omega)
  obtain ⟨x3,_,hx3⟩ := dh ms 3 (by decide) (by omega)
  have hu1 := s1 _ _ hu
  have hlp : (0 : Int) < ((us.length : Nat) : Int) := by omega
  refine ⟨_,rfl,ls,_,0,.int x0,rfl,rfl,bq.of (hls),hx0,_,rfl,lu,_,rfl,.inl (bq.of hu1),?_⟩
  rw [length_map]
  refine ⟨_,_,rfl,rfl,hlp,?_⟩
  refine ⟨_,rfl,ls,_,1,.int x1,rfl,rfl,bq.of (hls),hx1,_,rfl,lu,_,rfl,.inl (bq.of hu1),?_⟩
  rw [length_map]
  refine ⟨_,_,rfl,rfl,hlp,?_⟩
  have ha := ik x0 hlp
  have hb := ik x1 hlp
  obtain ⟨a,ea⟩ := Int.eq_ofNat_of_zero_le ha.1
  obtain ⟨b,eb⟩ := Int.eq_ofNat_of_zero_le hb.1
  rw [ea] at ha
  rw [eb] at hb
  have hal : a < us.length := by omega
  have hbl : b < us.length := by omega
  have gA : us[a]? = some us[a] := List.getElem?_eq_getElem hal
  have gB : us[b]? = some us[b] := List.getElem?_eq_getElem hbl
  generalize us[a] = ua at gA
  generalize us[b] = ub at gB
  have tA : j4 (us.map V.int) (x0 % ((us.length : Nat) : Int)) = some (.int ua) := by rw [ea]; exact cI (by rw [List.getElem?_map,gA]; rfl)
  have tB : j4 (us.map V.int) (x1 % ((us.length : Nat) : Int)) = some (.int ub) := by rw [eb]; exact cI (by rw [List.getElem?_map,gB]; rfl)
  have iA : zp us.length (x0 % ((us.length : Nat) : Int)) = some a := by rw [ea]; exact yf hal
  have iB : zp us.length (x1 % ((us.length : Nat) : Int)) = some b := by rw [eb]; exact yf hbl
  refine ⟨_,rfl,lu,_,rfl,.inl (bq.of hu1),fun lf BW => ?_⟩
  have s2 := s1.trans (ae (o := .lst (us.map V.int)) BW)
  have Br : H lf = none := s1.free BW
  have dM : upd G1 lf (.lst (us.map V.int)) lf = _ := ah
  have hls2 := ae (o := .lst (us.map V.int)) BW _ _ hls
  have hu2 := ae (o := .lst (us.map V.int)) BW _ _ hu1
  generalize upd G1 lf (.lst (us.map V.int)) = G2 at s2 dM hls2 hu2 ⊢
  refine ⟨_,rfl,ls,_,2,.int x2,rfl,rfl,bq.of (hls2),hx2,_,_,rfl,rfl,CY,?_⟩
  have hlen : (us.map V.int).length < sizeLine := bK (by rw [length_map]; omega)
  refine ⟨fun σ G => ∃ (l : Addr) (vs : List V),σ = [some (.ref lu),some (.int c),some (.ref ls),some (.int (x0 % ((us.length : Nat) : Int))),some (.int (x1 % ((us.length : Nat) : Int))),some (.ref l),some (.int (x2 % 8))] ∧ Same H G ∧ G l = some (.lst vs) ∧ Fl vs ∧ vs.length ≤ us.length + 1,?_,?_⟩
  ·refine ⟨_,rfl,rfl,_,rfl,?_⟩
   refine cB (fun e => ?_) (fun e => ?_)
   ·refine ⟨_,rfl,.inl ⟨rfl,_,bq.of dM⟩,_,rfl,lf,_,(x0 % ((us.length : Nat) : Int)),a,_,rfl,rfl,dM,by omega,by omega,?_,by rw [List.getElem?_map,gA]; rfl,?_⟩
    ·rw [length_map]; exact (qV iA).1
    ·exact ⟨lf,_,rfl,bh s2 Br,ah,fun v hv => gm us v (List.mem_of_mem_eraseIdx hv),by rw [List.length_eraseIdx,length_map]; split <;> omega⟩
   refine ⟨_,rfl,rfl,_,rfl,?_⟩
   refine cB (fun e => ?_) (fun e => ?_)
   ·refine ⟨_,rfl,.inl ⟨rfl,_,bq.of dM⟩,_,rfl,_,rfl,_,rfl,lu,_,_,.int ub,rfl,rfl,bq.of hu2,tB,_,rfl,ls,_,3,.int x3,rfl,rfl,bq.of (hls2),hx3,ub,x3,rfl,fun v G3 hv s3 => ?_⟩
    refine ⟨lf,_,a,v,rfl,by show [V.int (x0 % ((us.length : Nat) : Int)),v] = _; rw [ea],s3 _ _ dM,by rw [length_map]; omega,hlen,by omega,lf,_,rfl,bh (s2.trans s3) Br,ah,fun z hz => ?_,by rw [length_append,length_cons,length_take,length_drop,length_map]; omega⟩
    rcases mem_append.mp hz with y | y
    ·exact gm us z (List.mem_of_mem_take y)
    ·rcases mem_cons.mp y with rfl | y
     ·exact hv
     ·exact gm us z (List.mem_of_mem_drop y)
   refine ⟨_,rfl,rfl,_,rfl,?_⟩
   refine cB (fun e => ?_) (fun e => ?_)
   ·refine ⟨_,rfl,_,rfl,_,rfl,lf,_,rfl,bq.of dM,fun l3 pC => ?_⟩
    rw [show gw (us.map V.int) none (some (x0 % ((us.length : Nat) : Int))) = (us.take a).map V.int by rw [ea,map_take]; exact tS _ a]
    exact ⟨l3,_,rfl,s2.trans (ae pC),ah,gm _,by rw [length_map,length_take]; omega⟩
   refine ⟨_,rfl,rfl,_,rfl,?_⟩
   refine cB (fun e => ?_) (fun e => ?_)
   ·refine ⟨_,rfl,_,rfl,lf,_,_,.int ub,rfl,rfl,bq.of dM,tB,_,rfl,_,rfl,lf,_,_,.int ua,rfl,rfl,bq.of dM,tA,aJ,fun t nt => ?_⟩
    have s3 := s2.trans (ae (o := .tup [V.int ub,V.int ua]) nt)
    have lQ := ae (o := .tup [V.int ub,V.int ua]) nt _ _ dM
    have ht3 : upd G2 t (.tup [V.int ub,V.int ua]) t = _ := ah
    generalize upd G2 t (.tup [V.int ub,V.int ua]) = G3 at s3 lQ ht3 ⊢
    refine ⟨t,_,rfl,aZ.of ht3,rfl,_,_,rfl,_,rfl,_,rfl,lf,_,_,a,rfl,rfl,lQ,by rw [length_map]; exact iA,?_⟩
    refine ⟨_,_,rfl,_,rfl,_,rfl,lf,_,_,b,rfl,rfl,ah,by rw [length_set,length_map]; exact iB,rfl,?_⟩
    exact ⟨lf,_,rfl,bh (bh s3 Br) Br,ah,vQ (vQ (gm us) (.int _) _) (.int _) _,by rw [length_set,length_set,length_map]; omega⟩
   ·refine ⟨_,rfl,_,rfl,lu,_,_,.int ua,rfl,rfl,bq.of hu2,tA,_,rfl,ls,_,3,.int x3,rfl,rfl,bq.of (hls2),hx3,ua,x3,rfl,fun v G3 hv s3 => ?_⟩
    refine ⟨_,rfl,_,rfl,lf,_,_,a,rfl,rfl,s3 _ _ dM,by rw [length_map]; exact iA,?_⟩
    exact ⟨lf,_,rfl,bh (s2.trans s3) Br,ah,vQ (gm us) hv _,by rw [length_set,length_map]; omega⟩
  rintro σ G ⟨l,vs,rfl,sG,hl,hfl,hlen⟩
  exact ⟨_,rfl,k l vs _ sG hl hfl hlen⟩
end
def HV (ds : List FR) (r : Nat) : Bool := match ds[r]? with
 | some d => du ds r d
 | none => true
def zr (ds : List FR) (n : Nat) : List Nat := (List.range n).filter fun r => !HV ds r
theorem vR {ds : List FR} {r : Nat} {d : FR} (h : ds[r]? = some d) : HV ds r = du ds r d := by unfold HV; rw [h]
theorem ux (ds : List FR) (n : Nat) : zr ds (n + 1) = zr ds n ++ (if HV ds n = true then [] else [n]) := by
 unfold zr
 rw [range_succ,List.filter_append]
 congr 1
 cases h : HV ds n <;> simp [h]
theorem Bs {ds : List FR} {n r : Nat} (h : zr ds n = []) (hr : r < n) : HV ds r = true := by
 unfold zr at h
 have := List.filter_eq_nil_iff.mp h r (mem_range.mpr hr)
 cases hb : HV ds r
 ·rw [hb] at this; exact absurd rfl this
 ·rfl
theorem HW (ds : List FR) (n : Nat) : (zr ds n).length ≤ n := by
 unfold zr
 exact le_trans (List.length_filter_le _ _) (by rw [length_range]; exact le_refl _)
def Jp (ds : List FR) (n : Nat) : List Int := (zr ds n).map fun r : Nat => (r : Int)
theorem uy {ds : List FR} {r : Nat} {d : FR} (h : ¬ du ds r d = true) : cn d = true := by
 unfold du at h
 cases hs : cn d
 ·rw [hs] at h; exact absurd rfl h
 ·rfl
theorem dZ.oks {G : Hp} {lr : Addr} {ds : List FR} (h : dZ G lr ds) : ∀ d ∈ ds,d.Ok := fun d hd => by
 obtain ⟨qs,r1,r2,r3⟩ := h
 obtain ⟨i,hi,rfl⟩ := List.getElem_of_mem hd
 exact (r3 i _ _ (List.getElem?_eq_getElem (by omega : i < qs.length)) (List.getElem?_eq_getElem hi)).1
theorem Bt (ns : List Int) (a b : Option Int) : ∃ cs : List Int,gw (ns.map V.int) a b = cs.map V.int := by
 unfold gw
 exact ⟨_,by rw [← map_drop,← map_take]⟩
section
variable {P : Program} {w : World} {K : Frag} {mg : Str → Option Value} {base : Heap}
def yg : Sp := fun vs H Q _ => ∃ (a : Addr) (ns : List Int),vs = [.ref a] ∧ bq K H a (ns.map V.int) ∧ ns.length ≤ 63 ∧ ∀ H',Q (.bl true) H'
theorem kI : aW ["_law_script", "_law_xs", "_law_rows", "_law_units_here", "_law_here", "_law_cell", "_law_odd"] ["_law_script"] (aq oF) := ⟨rfl,rfl,rfl,by decide +kernel,rfl,by decide +kernel,by decide +kernel⟩
def DG : Scope := { kind := .function,names := [(".0",.local),("_law_k",.local),("_law_bears",.globalImplicit),("_law_rows",.free)],isGenerator := false,isCoroutine := false,more := [] }
theorem yh : dq (aq oF) DG ["_law_script", "_law_xs", "_law_rows", "_law_units_here", "_law_here", "_law_cell", "_law_odd"] ["_law_k", "_law_rows"] [none,some 2] := ⟨rfl,by decide +kernel,by decide +kernel,by decide +kernel,by decide +kernel,by decide +kernel⟩
def DH : Scope := { kind := .function,names := [(".0",.local),("_law_k",.local),("_law_row_here",.local),("_law_bears",.globalImplicit),("_law_rows",.free)],isGenerator := false,isCoroutine := false,more := [] }
theorem yi : dq (aq oF) DH ["_law_script", "_law_xs", "_law_rows", "_law_units_here", "_law_here", "_law_cell", "_law_odd"] ["_law_k", "_law_row_here", "_law_rows"] [none,none,some 2] := ⟨rfl,by decide +kernel,by decide +kernel,by decide +kernel,by decide +kernel,by decide +kernel⟩
theorem HX {f fC fS fP fB fU fR fG fZ : Addr} {fd fdC w4 KU K0 fdU xl fdG fdZ : FuncData} (F : fq K "law" "law" oF f fd) (T : Txt K w.params mg) (GC : aY P w K mg base cQ 1 fC fdC ["_law_script", "_law_k"] (Ag (K := K))) (kC : KI K fC) (bC : Binds K fdC ["_law_script", "_law_k"] []) (mC : mg "_law_cell_at" = some (.ref fC)) (GS : aY P w K mg base cQ 1 fS w4 ["_law_cell", "_law_many"] oI) (kS : KI K fS) (bS : Binds K w4 ["_law_cell", "_law_many"] []) (mS : mg "_law_stream" = some (.ref fS)) (GP : aY P w K mg base cQ 3 fP KU ["_law_xs", "_law_many"] Al) (kP : KI K fP) (bP : Binds K KU ["_law_xs", "_law_many"] []) (mP : mg "_law_program" = some (.ref fP)) (GB : aY P w K mg base cQ 3 fB K0 ["_law_rows", "_law_here"] xu) (kB : KI K fB) (bB : Binds K K0 ["_law_rows", "_law_here"] []) (mB : mg "_law_bears" = some (.ref fB)) (GU : aY P w K mg base cQ 3 fU fdU ["_law_rows", "_law_here"] uq) (kU : KI K fU) (bU : Binds K fdU ["_law_rows", "_law_here"] []) (mU : mg "_law_units" = some (.ref fU)) (GR : aY P w K mg base cQ 9 fR xl ["_law_units_here"] (vK (K := K))) (kR : KI K fR) (bR : Binds K xl ["_law_units_here"] []) (mR : mg "_law_read" = some (.ref fR)) (GG : aY P w K mg base cQ 10 fG fdG ["_law_units_here"] uo) (kG : KI K fG) (bG : Binds K fdG ["_law_units_here"] []) (mG : mg "_law_right" = some (.ref fG)) (GZ : aY P w K mg base cQ 2 fZ fdZ ["_law_units_here", "_law_cell"] uw) (kZ : KI K fZ) (bZ : Binds K fdZ ["_law_units_here", "_law_cell"] []) (mZ : mg "_law_spoilt" = some (.ref fZ)) : aY P w K mg base cQ 11 f fd ["_law_script"] (yg (K := K)) := by
 refine F.ok kI (fun vs H Q E h => ?_) (fun cdv A outer s H vs Q E hr h => ?_)
 ·obtain ⟨a,ns,rfl,_⟩ := h
  rfl
 ·obtain ⟨a,ns,rfl,hS,hn,k⟩ := h
  have hr1 := hr.mono (show 1 ≤ _ by decide)
  have hr2 := hr.mono (show 2 ≤ _ by decide)
  have Oi := hr.mono (show 3 ≤ _ by decide)
  have hr9 := hr.mono (show 9 ≤ _ by decide)
  have hu0 := hr.u 6
  refine dS (ao (aw (aF (i := 1) kI.nd rfl (Or.inl rfl) (aK GS hr1 (by rfl) mS kS bS .nil ck (af (aK GC hr1 (by rfl) mC kC bC .nil ck (af (pv 0) (af ai aj))) (af ai aj)))))
   (ao (aw (aF (i := 2) kI.nd rfl (Or.inr rfl) (aK GP Oi (by rfl) mP kP bP .nil ck (af (pv 1) (af (au aO ai (au bV (aK GC hr1 (by rfl) mC kC bC .nil ck (af (pv 0) (af ai aj))) ai)) aj)))))
   (ao (aw (jX PassesOwn.never (az (rE hu0) (fY (N' := ["_law_k", "_law_rows"]) (fr := [none,some 2]) yh rfl (dP rfl T.range (af (bf aU (by rfl) T.len cM (af (pv 2) aj)) aj)) (fun C s0 H0 fp => (cq (i := 0) yh.nd rfl (Or.inl rfl))) (fun C s0 H0 fp => (Cv (dI (cP (aK GB Oi (by rfl) mB kB bB .nil ck (af (pv 1) (af (pv 0) aj))))))) (fun C s0 H0 fp => (pv 0))) (bw aj) (aL _)) (aG (aF (i := 2) kI.nd rfl (Or.inr rfl) (fY (N' := ["_law_k", "_law_row_here", "_law_rows"]) (fr := [none,none,some 2]) yi rfl (nE rfl T.enum (af (pv 2) aj)) (fun C s0 H0 fp => (rR (K := K) (i := 0) (j := 1) rfl rfl yi.nd rfl (Or.inl rfl) rfl (Or.inl rfl))) (fun C s0 H0 fp => eI) (fun C s0 H0 fp => (jW (cP (aK GB Oi (by rfl) mB kB bB .nil ck (af (pv 2) (af (pv 0) aj)))) (pv 1) (au (r := En K) gZ (dk (r := JT K) ly (pv 1) fV (dj (dQ cT ai))) (aI (af ai aj))))))))))
   (ao (aw (aF (i := 3) kI.nd rfl (Or.inl rfl) (bw aj)))
   (ao (aw (fc PassesOwn.never rfl (dP rfl T.range (af (bf aU (by rfl) T.len cM (af (pv 2) aj)) aj)) (cq (i := 4) kI.nd rfl (Or.inl rfl)) (aG (aF (i := 3) kI.nd rfl (Or.inl rfl) (au hV (pv 3) (aK GU Oi (by rfl) mU kU bU .nil ck (af (pv 2) (af (pv 4) aj))))))))
   (ao (bj (iD (az (rE hu0) (aK GR hr9 (by rfl) mR kR bR .nil ck (af (bA dX (by rfl) T.list jw (af (pv 3) aj)) aj)) (aI (af ak (af (pv 2) aj))) (aL _)) (eZ (dI (cP (aK GG hr (by rfl) mG kG bG .nil ck (af (pv 3) aj)))))).pt (ay (aw (aA iN))) (aR aD))
   (ao (aw (fc PassesOwn.never rfl (ja (dk j5 (pv 0) (dj ai) (dj ai))) (cq (i := 5) kI.nd rfl (Or.inl rfl)) (aG (cK (dI (cP (aK GG hr (by rfl) mG kG bG .nil ck (af (aK GZ hr2 (by rfl) mZ kZ bZ .nil ck (af (pv 3) (af (pv 5) aj))) aj)))) (aG (aA iN)) aD))))
   (ao (aw (fc PassesOwn.never rfl (ja (bw (af cH (af (bA cJ (by rfl) T.tuple eM (af (pv 3) aj)) (af ak (af (rg (iR ai ai rc) rfl rfl (cons_ne_nil _ _) (le_of_ble_eq_true rfl)) (af ai aj))))))) (cq (i := 6) kI.nd rfl (Or.inl rfl)) (aG (cK (az (rE hu0) (aK GR hr9 (by rfl) mR kR bR .nil ck (af (pv 6) aj)) (aI (af ak (af ai aj))) (aL _)) (aG (aA iN)) aD))))
   (ay (aw (aA iN))))))))))) ?_
  refine ⟨_,rfl,a,ns,0,rfl,hS,by decide,fun c0 => ⟨c0,16,rfl,by decide,fun ls ms G1 s1 nls hls hml hpos => ?_⟩⟩
  refine ⟨_,rfl,_,rfl,a,ns,1,rfl,s1.seq hS,by decide,fun c1 => ?_⟩
  have h4 : 0 ≤ c1 % 4 ∧ c1 % 4 < 4 := ik c1 (by decide)
  obtain ⟨n,hnn⟩ := Int.eq_ofNat_of_zero_le (show 0 ≤ 2 + c1 % 4 by omega)
  refine ⟨_,_,rfl,rfl,vq,_,_,rfl,rfl,ls,ms,n,by show [V.ref ls,V.int (2 + c1 % 4)] = _; rw [hnn],hls,by omega,by omega,by omega,fun lr ds G2 s2 Jk hR hG hla h1 h50 => ?_⟩
  refine ⟨fun mm σ G => ∃ (lr : Addr) (ds : List FR),σ = [some (.ref a),some (.ref ls),some (.ref lr),none,none,none,none] ∧ Same H G ∧ dZ G lr ds ∧ (∀ d ∈ ds,GoodR d ds.length) ∧ (∀ d,ds[ds.length - 1]? = some d → d.u ∈ dE) ∧ 1 ≤ ds.length ∧ ds.length ≤ 250 ∧ mm = ds.countP cn,⟨_,lr,ds,rfl,s1.trans s2,hR,hG,hla,h1,by omega,rfl⟩,?_⟩
  clear s2 hR hG hla h1 h50 Jk ds lr
  rintro mm σ G ⟨lr,ds,rfl,s2,hR,hG,hla,h1,h50,hmm⟩
  obtain ⟨qs,r1,r2,r3⟩ := id hR
  refine ⟨_,rfl,lr,_,rfl,.inl (bq.of r1),?_⟩
  rw [length_map,r2]
  refine ⟨_,rfl,by omega,by omega,fun D nD => oq (lo := 0) (n := ((ds.length : Nat) : Int).toNat) (fun i σ ys G' => ∃ v : Option V,σ = [v,some (.ref lr)] ∧ ys = (Jp ds i).map V.int ∧ i ≤ ds.length ∧ Same G G' ∧ G' D = some (.lst ys)) ?_ ?_ ?_⟩
  ·exact ⟨none,rfl,rfl,zero_le _,ae nD,ah⟩
  ·rintro i σ ys G' hi ⟨v,rfl,rfl,_,s3,hD⟩
   have hi : i < ds.length := by rw [Int.toNat_natCast] at hi; exact hi
   have e0 : (0 : Int) + (i : Int) = (i : Int) := by omega
   rw [e0]
   have hd : ds[i]? = some ds[i] := List.getElem?_eq_getElem hi
   have hgd := hG _ (List.getElem_mem hi)
   generalize ds[i] = d at hd hgd
   refine ⟨_,rfl,_,rfl,lr,ds,i,d,rfl,hR.same s3,hd,hgd,by omega,fun G4 s4 => ⟨_,rfl,?_⟩⟩
   have hb := vR hd
   have hsc := ux ds i
   refine cB (fun e => ?_) (fun e => ?_)
   ·have e : (!du ds i d) = true := e
    have eb : du ds i d = false := by cases hx : du ds i d; rfl; rw [hx] at e; cases e
    rw [hb,eb,if_neg (by decide)] at hsc
    refine ⟨_,rfl,s4 _ _ hD,bK (by unfold Jp; rw [length_map,length_map]; have := HW ds i; omega),_,rfl,?_,hi,bh (s3.trans s4) nD,ah⟩
    unfold Jp
    rw [hsc,map_append,map_append]
    rfl
   ·have eb : du ds i d = true := by cases hx : du ds i d; exact absurd (show (!du ds i d) = true by rw [hx]; rfl) e; rfl
    rw [hb,eb,if_pos rfl,append_nil] at hsc
    refine ⟨_,rfl,by unfold Jp; rw [hsc],hi,s3.trans s4,s4 _ _ hD⟩
  rintro σ ys G' ⟨v,rfl,rfl,_,s3,hD⟩
  rw [Int.toNat_natCast] at hD
  refine ⟨le_of_ble_eq_true rfl,fun l0 Qy => ?_⟩
  have t1 := ae (o := .lst []) Qy
  have h0 : upd G' l0 (.lst []) l0 = some (.lst (([] : List Int).map V.int)) := ah
  have hD2 := t1 _ _ hD
  replace s3 := s3.trans t1
  clear t1
  generalize upd G' l0 (.lst []) = G3 at s3 h0 hD2 ⊢
  refine ⟨1,D,l0,_,_,rfl,rfl,ky K hD2,ky K h0,kz _,kz _,by decide,_,rfl,?_⟩
  clear hD
  replace hR := hR.same s3
  replace s2 := s2.trans s3
  clear r1 r2 r3 qs
  obtain ⟨qs,r1,r2,r3⟩ := id hR
  by_cases hnb : zr ds ds.length = []
  ·refine bY (by unfold Jp; rw [hnb]; simp) ?_
   have A : i0 ds := ⟨hR.oks,hG,fun r d hd hs => by
    have hb := Bs hnb (List.getElem?_eq_some_iff.mp hd).1
    rw [vR hd] at hb
    unfold du at hb
    rw [hs] at hb
    exact hb,hla⟩
   clear hmm hD2 h0
   refine ⟨le_of_ble_eq_true rfl,fun lz nlz => ?_⟩
   have t1 := ae (o := .lst []) nlz
   have hlz : upd G3 lz (.lst []) lz = some (.lst (([] : List Int).map V.int)) := ah
   have s4 := s2.trans t1
   replace hR := hR.same t1
   clear t1 r1 r2 r3 qs
   generalize upd G3 lz (.lst []) = G4 at s4 hlz hR ⊢
   obtain ⟨qs,r1,r2,r3⟩ := id hR
   refine ⟨_,rfl,lr,_,rfl,.inl (bq.of r1),?_⟩
   rw [length_map,r2]
   refine ⟨_,rfl,by omega,by omega,?_⟩
   refine eW (lo := 0) (n := ((ds.length : Nat) : Int).toNat) (fun i σ G => ∃ (l : Addr) (v4 : Option V),σ = [some (.ref a),some (.ref ls),some (.ref lr),some (.ref l),v4,none,none] ∧ Same G4 G ∧ G l = some (.lst ((di ds i).map V.int)) ∧ i ≤ ds.length) ?_ ?_ ?_
   ·exact ⟨lz,none,rfl,.refl _,hlz,zero_le _⟩
   ·rintro i σ G hi ⟨l,v4,rfl,s5,hl,_⟩
    have hi : i < ds.length := by rw [Int.toNat_natCast] at hi; exact hi
    have e0 : (0 : Int) + (i : Int) = (i : Int) := by omega
    rw [e0]
    have hd : ds[i]? = some ds[i] := List.getElem?_eq_getElem hi
    have hgd := hG _ (List.getElem_mem hi)
    generalize ds[i] = d at hd hgd
    refine ⟨_,rfl,_,rfl,_,rfl,lr,ds,i,d,rfl,hR.same s5,hd,hgd,by omega,fun l2 G6 s6 h2 => ?_⟩
    have hlen := dO A (i + 1) hi
    rw [gk hd] at hlen
    have Oc := (jz A.far (i + 1) hi).2
    refine ⟨l,l2,_,_,rfl,rfl,s6 _ _ hl,h2,er (by rw [length_map,length_map]; rw [length_append] at hlen; omega),fun l3 pC => ?_⟩
    refine ⟨l3,_,rfl,s5.trans (s6.trans (ae pC)),?_,hi⟩
    rw [ah,gk hd,map_append]
   rintro σ G ⟨lu,v4,rfl,s5,xR,_⟩
   rw [Int.toNat_natCast] at xR
   have hne : ds ≠ [] := fun z => by rw [z] at h1; exact absurd h1 (by decide)
   have hrd := vP A hne
   have hlen := dO A ds.length (le_refl _)
   have Oc := (jz A.far ds.length (le_refl _)).2
   have hb1 := iu A.far (i := 0) ds.length (by omega) (le_refl _)
   have hb0 : beg ds 0 = 0 := rfl
   generalize di ds ds.length = us at hrd hlen xR
   have hus : us.length ≤ 4500 ∧ 1 ≤ us.length := by omega
   replace hR := hR.same s5
   replace s5 := s4.trans s5
   clear s4 hlz r1 r2 r3
   refine ⟨_,rfl,lu,_,rfl,.inl (bq.of xR),fun lh nlh => ?_⟩
   have t1 := ae (o := .lst (us.map V.int)) nlh
   have HN : upd G lh (.lst (us.map V.int)) lh = _ := ah
   have Ly := t1 _ _ xR
   replace hR := hR.same t1
   replace s5 := s5.trans t1
   clear t1
   generalize upd G lh (.lst (us.map V.int)) = G5 at s5 HN Ly hR ⊢
   refine .inl ⟨lh,us.map V.int,rfl,HN,⟨by rw [length_map]; omega,gm us⟩,?_⟩
   rw [hrd]
   intro t lr2 G6 s6 _ BU ht
   refine ⟨_,rfl,aJ,fun tp Fb => ?_⟩
   have t6 := ae (o := .tup [V.str "rows",V.ref lr]) Fb
   refine ⟨4,t,tp,_,_,rfl,rfl,eJ K (t6 _ _ ht) ((BU.same t6).da K),eJ K ah (((hR.same s6).same t6).da K),dF (jC _),dF (jC _),by decide,_,rfl,bY (by simp) ?_⟩
   have HY := t6 _ _ (s6 _ _ Ly)
   have s7 := s5.trans (s6.trans t6)
   clear BU ht hR
   generalize upd G6 tp (.tup [V.str "rows",V.ref lr]) = G7 at s7 HY ⊢
   clear t6
   refine ⟨_,rfl,lu,us.map V.int,rfl,HY,⟨by rw [length_map]; omega,gm us⟩,fun G8 s8 => ⟨_,rfl,bY (by decide) ?_⟩⟩
   have QI := s8 _ _ HY
   replace s8 := s7.trans s8
   refine ⟨_,rfl,_,rfl,_,rfl,a,_,rfl,s8.seq hS,fun lc K5 => ?_⟩
   obtain ⟨cs,hcs⟩ := Bt ns (some 2) (some 10)
   rw [hcs]
   have Oa : upd G8 lc (.lst (cs.map V.int)) lc = _ := ah
   have HZ := ae (o := .lst (cs.map V.int)) K5 _ _ QI
   generalize upd G8 lc (.lst (cs.map V.int)) = G9 at Oa HZ ⊢
   refine ⟨lc,rfl,⟨_,bq.of Oa⟩,n8 (K := K) (a := lc) (xs := cs.map V.int) (fun i σ G => ∃ v5 : Option V,σ = [some (.ref a),some (.ref ls),some (.ref lr),some (.ref lu),v4,v5,none] ∧ Same G9 G) ?_ ?_ ?_ ?_⟩
   ·exact ⟨none,rfl,.refl _⟩
   ·rintro i σ Ga _ ⟨v5,rfl,sa⟩
    exact bq.of (sa _ _ Oa)
   ·rintro i x σ Ga hx ⟨v5,rfl,sa⟩
    rw [List.getElem?_map] at hx
    obtain ⟨c,hc,rfl⟩ := map_eq_some_iff.mp hx
    refine ⟨_,rfl,_,rfl,lu,us,c,rfl,sa _ _ HZ,hus.2,by omega,fun l vs Gb sb hl hfl Og => ?_⟩
    exact ⟨l,vs,rfl,hl,⟨by omega,hfl⟩,fun Gc sc => ⟨_,rfl,bY (by decide) ⟨_,rfl,sa.trans (sb.trans sc)⟩⟩⟩
   ·rintro σ Ga ⟨v5,rfl,sa⟩
    have QJ := sa _ _ HZ
    refine ⟨_,rfl,lu,_,rfl,.inl ⟨bq.of QJ,fun tt tY => ?_⟩⟩
    have htt : upd Ga tt (.tup (us.map V.int)) tt = _ := ah
    generalize upd Ga tt (.tup (us.map V.int)) = Gb at htt ⊢
    refine fun pd Dj => ?_
    have DI := ae (o := .dK []) Dj _ _ htt
    have hpd : upd Gb pd (.dK []) pd = _ := ah
    generalize upd Gb pd (.dK []) = Gc at DI hpd ⊢
    refine ⟨hpd,[(Sum.inl 0,.int 0)],rfl,(by show 1 ≤ 15; decide),?_⟩
    have Lz : upd Gc pd (.dK (gx [] [((Sum.inl 0 : Key),V.int 0)])) tt = some (.tup (us.map V.int)) := by
     rw [aX (fun z => by rw [z,hpd] at DI; cases DI)]
     exact DI
    have LA : upd Gc pd (.dK (gx [] [((Sum.inl 0 : Key),V.int 0)])) pd = _ := ah
    generalize upd Gc pd (.dK (gx [] [((Sum.inl 0 : Key),V.int 0)])) = Gd at Lz LA ⊢
    refine ⟨iS,fun lo nlo => ?_⟩
    have LB := ae (o := .lst [V.non,V.ref tt,V.str "0",V.ref pd,V.int 7]) nlo _ _ Lz
    have LC := ae (o := .lst [V.non,V.ref tt,V.str "0",V.ref pd,V.int 7]) nlo _ _ LA
    have hlo : upd Gd lo (.lst [V.non,V.ref tt,V.str "0",V.ref pd,V.int 7]) lo = _ := ah
    generalize upd Gd lo (.lst [V.non,V.ref tt,V.str "0",V.ref pd,V.int 7]) = Ge at LB LC hlo ⊢
    have hodd : ∀ (i : Nat) x,[V.non,V.ref tt,V.str "0",V.ref pd,V.int 7][i]? = some x → ∃ t,iI K Ge x t ∧ kitOne K t (.type "list") = some false := fun i x hx => by
     match i,hx with
     | 0,hx => cases hx; exact ⟨_,.non,mY⟩
     | 1,hx => cases hx; exact ⟨_,.tup LB,rK⟩
     | 2,hx => cases hx; exact ⟨_,.str _,vy⟩
     | 3,hx => cases hx; exact ⟨_,.dK LC,tN⟩
     | 4,hx => cases hx; exact ⟨_,.int _,vz⟩
    refine ⟨lo,rfl,⟨_,bq.of hlo⟩,n8 (K := K) (a := lo) (xs := [V.non,V.ref tt,V.str "0",V.ref pd,V.int 7]) (fun i σ G => ∃ v6 : Option V,σ = [some (.ref a),some (.ref ls),some (.ref lr),some (.ref lu),v4,v5,v6] ∧ Same Ge G) ?_ ?_ ?_ ?_⟩
    ·exact ⟨none,rfl,.refl _⟩
    ·rintro i σ Gf _ ⟨v6,rfl,sf⟩
     exact bq.of (sf _ _ hlo)
    ·rintro i x σ Gf hx ⟨v6,rfl,sf⟩
     obtain ⟨t,ht,hk⟩ := hodd i x hx
     refine ⟨_,rfl,.inr ⟨x,t,rfl,xX ht sf,hk,fun tq Gg sg hq => ?_⟩⟩
     refine ⟨aJ,fun tp Fb => ⟨1,tq,tp,_,_,rfl,rfl,eJ K (ae Fb _ _ hq) (.int _),eJ K ah (.int _),dF .int,dF .int,by decide,_,rfl,bY (by simp) ⟨_,rfl,sf.trans (sg.trans (ae Fb))⟩⟩⟩
    ·rintro σ Gf ⟨v6,rfl,sf⟩
     exact k _
  ·refine bz (by
    rw [Bool.true_xor,Bool.not_eq_true']
    refine decide_eq_false fun z => hnb ?_
    injection z with z
    have z2 := congrArg length z
    rw [length_map] at z2
    unfold Jp at z2
    rw [length_map] at z2
    exact length_eq_zero_iff.mp z2) ?_
   have hcnt : 1 ≤ (zr ds ds.length).length := List.length_pos_iff.mpr hnb
   refine ⟨fun σ G => ∃ m',m' < mm ∧ ∃ (lr : Addr) (ds : List FR),σ = [some (.ref a),some (.ref ls),some (.ref lr),none,none,none,none] ∧ Same H G ∧ dZ G lr ds ∧ (∀ d ∈ ds,GoodR d ds.length) ∧ (∀ d,ds[ds.length - 1]? = some d → d.u ∈ dE) ∧ 1 ≤ ds.length ∧ ds.length ≤ 250 ∧ m' = ds.countP cn,?_,?_⟩
   ·rintro σ' G' ⟨m',hm',lr,ds,rfl,a1,a2,a3,a4,a5,a6,a7⟩
    exact ⟨m',hm',lr,ds,rfl,a1,a2,a3,a4,a5,a6,a7⟩
   clear hD2 h0
   refine ⟨_,rfl,lr,rfl,⟨_,bq.of r1⟩,?_⟩
   refine fun D nD => qe (K := K) (a := lr) (xs := qs.map V.ref) (fun i σ ys G' => ∃ (v1 v2 : Option V) (es : List Addr) (dl : List FR),σ = [v1,v2,some (.ref lr)] ∧ ys = es.map V.ref ∧ es.length = i ∧ dl.length = i ∧ (∀ (j : Nat) q d,es[j]? = some q → dl[j]? = some d → bQ G' q d) ∧ (∀ d ∈ dl,GoodR d ds.length) ∧ (∀ (j : Nat) d d',ds[j]? = some d → dl[j]? = some d' → d'.u = d.u) ∧ dl.countP cn + (zr ds i).length = (ds.take i).countP cn ∧ Same G3 G' ∧ G' D = some (.lst ys)) ?_ ?_ ?_ ?_
   ·exact ⟨none,none,[],[],rfl,rfl,rfl,rfl,fun j q d h => by simp at h,fun d hd => (not_mem_nil hd).elim,fun j d d' _ h => by simp at h,rfl,ae nD,ah⟩
   ·rintro i σ ys G' _ ⟨v1,v2,es,dl,rfl,rfl,_,_,_,_,_,_,s6,_⟩
    exact bq.of (s6 _ _ r1)
   ·rintro i x σ ys G' tt hx tY ⟨v1,v2,es,dl,rfl,rfl,hel,hdl,hes,hgs,hus,hcn,s6,hD⟩
    rw [List.getElem?_map] at hx
    obtain ⟨q,hq,rfl⟩ := map_eq_some_iff.mp hx
    have hil := (List.getElem?_eq_some_iff.mp hq).1
    have hd : ds[i]? = some (ds[i]'(by omega)) := List.getElem?_eq_getElem _
    have hgd := hG _ (List.mem_of_getElem? hd)
    generalize ds[i]'(by omega) = d at hd hgd
    have s7 := s6.trans (ae (o := .tup [V.int i,V.ref q]) tY)
    have hD7 := ae (o := .tup [V.int i,V.ref q]) tY _ _ hD
    replace hes : ∀ (j : Nat) q' d',es[j]? = some q' → dl[j]? = some d' → bQ (upd G' tt (.tup [V.int i,V.ref q])) q' d' := fun j q' d' g1 g2 => (hes j q' d' g1 g2).same (ae tY)
    have htt : upd G' tt (.tup [V.int i,V.ref q]) tt = _ := ah
    generalize upd G' tt (.tup [V.int i,V.ref q]) = G5' at s7 hD7 hes htt ⊢
    refine ⟨tt,_,rfl,aZ.of htt,rfl,_,_,rfl,_,_,rfl,rfl,?_⟩
    refine ⟨_,rfl,_,rfl,lr,ds,i,d,rfl,hR.same s7,hd,hgd,by omega,fun G6 s8 => ⟨_,rfl,?_⟩⟩
    have hD6 := s8 _ _ hD7
    have hrow := (r3 i q d hq hd).same (s7.trans s8)
    have hsc := ux ds i
    rw [vR hd] at hsc
    have htk : (ds.take (i + 1)).countP cn = (ds.take i).countP cn + (if cn d = true then 1 else 0) := by
     rw [take_add_one,hd,List.countP_append]
     simp [countP_cons]
    have hfin : ∀ (p' : Addr) (d' : FR) (G8 : Hp),Same G6 G8 → bQ G8 p' d' → GoodR d' ds.length → d'.u = d.u → (if du ds i d = true then cn d' = cn d else cn d = true ∧ cn d' = false) → G8 D = some (.lst (es.map V.ref)) ∧ (es.map V.ref).length < sizeLine ∧ ∃ (v1 v2 : Option V) (es' : List Addr) (LD : List FR),([some (V.int (i : Int)),some (V.ref q),some (V.ref lr)] : St) = [v1,v2,some (.ref lr)] ∧ es.map V.ref ++ [V.ref p'] = es'.map V.ref ∧ es'.length = i + 1 ∧ LD.length = i + 1 ∧ (∀ (j : Nat) q d,es'[j]? = some q → LD[j]? = some d → bQ (upd G8 D (.lst (es.map V.ref ++ [V.ref p']))) q d) ∧ (∀ d ∈ LD,GoodR d ds.length) ∧ (∀ (j : Nat) d d',ds[j]? = some d → LD[j]? = some d' → d'.u = d.u) ∧ LD.countP cn + (zr ds (i + 1)).length = (ds.take (i + 1)).countP cn ∧ Same G3 (upd G8 D (.lst (es.map V.ref ++ [V.ref p']))) ∧ upd G8 D (.lst (es.map V.ref ++ [V.ref p'])) D = some (.lst (es.map V.ref ++ [V.ref p'])) := fun p' d' G8 s9 hp' hg' hu' hcc => by
     have QK := s9 _ _ hD6
     refine ⟨QK,bK (by rw [length_map]; omega),_,_,es ++ [p'],dl ++ [d'],rfl,by rw [map_append]; rfl,by rw [length_append,hel]; rfl,by rw [length_append,hdl]; rfl,lO (by omega) (fun j q e g1 g2 => (((hes j q e g1 g2).same s8).same s9).put QK) (hp'.put QK),fun e he => ?_,fun j e e' g1 g2 => ?_,?_,bh ((s7.trans s8).trans s9) nD,ah⟩
     ·rcases mem_append.mp he with z | z
      ·exact hgs e z
      ·rw [mem_singleton.mp z]; exact hg'
     ·by_cases hj : j < dl.length
      ·rw [List.getElem?_append_left hj] at g2
       exact hus j e e' g1 g2
      ·have h9 := (List.getElem?_eq_some_iff.mp g2).1
       rw [length_append,length_singleton] at h9
       have ej : j = dl.length := by omega
       subst ej
       rw [show (dl ++ [d'])[dl.length]? = some d' by simp] at g2
       cases g2
       rw [hdl,hd] at g1
       cases g1
       exact hu'
     ·rw [htk,hsc,List.countP_append,length_append]
      by_cases hbb : du ds i d = true
      ·rw [if_pos hbb] at hcc ⊢
       rw [← hcc]
       simp [countP_cons]
       omega
      ·rw [if_neg hbb] at hcc ⊢
       rw [if_pos hcc.1]
       simp [countP_cons,hcc.2]
       omega
    refine cB (fun e => ?_) (fun e => ?_)
    ·exact ⟨_,rfl,hfin q d G6 (.refl _) hrow hgd rfl (by rw [if_pos (show du ds i d = true from e)])⟩
    ·have e : ¬ du ds i d = true := e
     have hsh := uy e
     have e5 : d.u ∈ five := by
      unfold cn at hsh
      rw [Bool.and_eq_true] at hsh
      exact of_decide_eq_true hsh.1
     obtain ⟨_,y1,_⟩ := eN hrow e5
     have hok := hrow.1
     rcases (by decide +kernel : ∀ u ∈ five,u ∈ eS ∨ u ∈ zb) _ e5 with z | z
     ·obtain ⟨tt,ff,e1,e2⟩ := hok.2.2.1 z
      have ep : G6 q = some (.tup [V.str d.u,V.int tt,V.int ff]) := by rw [y1,e1]; rfl
      have htt := hgd.2.1 tt (by rw [e2]; simp)
      refine ⟨_,rfl,1,rfl,-1,rfl,q,_,rfl,aZ.of ep,(fun z => absurd z.2 (by show ¬ (2 : Nat) = 3; decide)),fun ta QL => ?_⟩
      refine ⟨dD,fun tb HE => ?_⟩
      refine ⟨ta,tb,[V.str d.u,V.int tt],_,rfl,rfl,aZ.of (ae HE _ _ ah),aZ.of ah,cons_ne_nil _ _,ef,fun z => absurd z (cons_ne_nil _ _),fun _ tc QM => ?_⟩
      exact hfin tc ⟨d.u,[tt,1],[tt]⟩ _ (((ae QL).trans (ae HE)).trans (ae QM)) (ig z ah) ⟨(by show 1 ≤ 16; decide),fun t ht => by rw [mem_singleton.mp ht]; exact htt,fun _ => .inr rfl,w6.N9 z⟩ rfl (by rw [if_neg e]; exact ⟨hsh,by unfold cn; simp [dt]⟩)
     ·obtain ⟨bb,tt,ff,e1,e2⟩ := hok.2.2.2.1 z
      have ep : G6 q = some (.tup [V.str d.u,V.int bb,V.int tt,V.int ff]) := by rw [y1,e1]; rfl
      have htt := hgd.2.1 tt (by rw [e2]; simp)
      refine ⟨_,rfl,1,rfl,-1,rfl,q,_,rfl,aZ.of ep,(fun z => absurd z.2 (by show ¬ (3 : Nat) = 4; decide)),fun ta QL => ?_⟩
      refine ⟨dD,fun tb HE => ?_⟩
      refine ⟨ta,tb,[V.str d.u,V.int bb,V.int tt],_,rfl,rfl,aZ.of (ae HE _ _ ah),aZ.of ah,cons_ne_nil _ _,ke,fun z => absurd z (cons_ne_nil _ _),fun _ tc QM => ?_⟩
      exact hfin tc ⟨d.u,[bb,tt,1],[tt]⟩ _ (((ae QL).trans (ae HE)).trans (ae QM)) (lK z ah) ⟨(by show 1 ≤ 16; decide),fun t ht => by rw [mem_singleton.mp ht]; exact htt,fun _ => .inr rfl,w6.Qf z (hgd.2.2.2.box (.inl z) e1)⟩ rfl (by rw [if_neg e]; exact ⟨hsh,by unfold cn; simp [dt]⟩)
   ·rintro σ ys G' ⟨v1,v2,es,dl,rfl,rfl,hel,hdl,hes,hgs,hus,hcn,s6,hD⟩
    rw [length_map,r2] at hel hdl hcn
    rw [take_length] at hcn
    refine ⟨dl.countP cn,by omega,D,dl,rfl,s2.trans s6,⟨es,hD,by omega,hes⟩,by rw [hdl]; exact hgs,fun d hd => ?_,by omega,by omega,rfl⟩
    rw [hdl] at hd
    have hd0 : ds[ds.length - 1]? = some (ds[ds.length - 1]'(by omega)) := List.getElem?_eq_getElem _
    rw [hus _ _ d hd0 hd]
    exact hla _ hd0
end
abbrev Jq : Stmt := inClass (top 5) 0
section
variable {P : Program} {w : World} {K : Frag} {mg : Str → Option Value} {base : Heap}
theorem QN : aW ["self", "at"] ["self", "at"] (aq Jq) := ⟨rfl,rfl,rfl,by decide +kernel,rfl,by decide +kernel,by decide +kernel⟩
theorem LG {f C R : Addr} {fd : FuncData} (F : fq K "__init__" "NoUnits.__init__" Jq f fd) (c : fz K C R f) (hm : mg "RowError" = some (.ref R)) : aY P w K mg base cQ 1 f fd ["self", "at"] (rH C) := by
 refine F.ok QN (fun vs H Q E h => ?_) (fun cdv A outer s H vs Q E hr h => ?_)
 ·obtain ⟨e,i,rfl,_⟩ := h
  rfl
 ·obtain ⟨e,i,rfl,he,hi,k⟩ := h
  refine ⟨_,aC (cV (CG c (by rfl) hm (af (pv 0) (af (CF (pv 1) (by decide)) aj)))) (aG (Gs c (pv 0) (pv 1) rfl)),?_⟩
  refine ⟨_,rfl,_,rfl,i,rfl,hi,fun u => ⟨e,_,rfl,he,?_⟩⟩
  refine ⟨_,rfl,_,rfl,e,rfl,ah,fun d nd de => ?_⟩
  rw [Ka de]
  rw [aX de] at nd
  exact k d nd de
end
set_option maxHeartbeats 8000000
theorem vS {α : Type} {p : α → Prop} : ∀ x ∈ ([] : List α),p x := fun x h => absurd h (by simp)
theorem aT {α : Type} {p : α → Prop} {a : α} {l : List α} (h : p a) (t : ∀ x ∈ l,p x) : ∀ x ∈ a :: l,p x := fun x hx => by
 rcases mem_cons.mp hx with rfl | hx
 ·exact h
 ·exact t x hx
theorem lT : ∀ hs : List Addr,Vals (hs.map V.ref) (hs.map Value.ref)
 | [] => .nil
 | a :: r => .cons (show RelV (.ref a) (.ref a) from rfl) (lT r)
inductive sm (K : Frag) (H : Hp) : List Addr → List (Str × Int) → Prop
 | nil : sm K H [] []
 | cons {q : Addr} {u : Str} {f : Int} {qs : List Addr} {hs : List (Str × Int)} : aZ K H q [.str u,.int f] → sm K H qs hs → sm K H (q :: qs) ((u,f) :: hs)
theorem sm.len {K : Frag} {H : Hp} : ∀ {qs : List Addr} {hs : List (Str × Int)},sm K H qs hs → qs.length = hs.length
 | _,_,.nil => rfl
 | _,_,.cons _ r => congrArg (· + 1) r.len
theorem sm.get {K : Frag} {H : Hp} {qs : List Addr} {hs : List (Str × Int)} (h : sm K H qs hs) : ∀ (i : Nat) q x,qs[i]? = some q → hs[i]? = some x → aZ K H q [.str x.1,.int x.2] := by
 induction h with
 | nil => intro i q x h; simp at h
 | cons h0 _ ih =>
  intro i q x h1 h2
  cases i with
  | zero => cases h1; cases h2; exact h0
  | succ i => exact ih i q x (by simpa using h1) (by simpa using h2)
theorem all_mk {l : OpenLaw} {w : World} {K : Frag} {h : Heap} {mg : Str → Option Value} {fa f0 f1 f2 f3 f4 f5 f6 f7 f8 f9 QO f11 QP QR QS QT QU QV QW QX QY QZ Q0 Q5 Q6 Q7 Q8 Q9 Ra Rb Rc Rf f32 Rg Rh Ri Rj Rk Rl : Addr} (X : K.In h) (G : h.Ns mainGlobals mg) (hfa : mg "law" = some (.ref fa))
  {od0 an0 od1 an1 od2 an2 od3 an3 od4 an4 od5 an5 od6 an6 od7 an7 od8 an8 od9 an9 Rm Rn Ro Rp Rq Rr Rt Ru Rv Rw Rx Ry Rz RA RB RD RE RF RG RH RI RJ RK RL RM RN RO RP RQ RR RS RT RU RV RW RX RY RZ R0 R1 R3 R4 R5 R6 R7 R8 R9 Sb Sd Se Sf Sg Sh Si Sl Sn Sq LH : Option Addr} {sl0 N8 sl2 sl3 sl4 sl5 sl6 sl7 sl8 sl9 Sr Ss Sv Sw Sx Sy Sz SA SD SE SG SH SJ SK SL SM SN SO SQ SR SU SV SW SX SY SZ S0 S1 S2 : Array (Option Value)} {oc0 kV0 dc0 pm0 cd0 ct0 oc1 kV1 dc1 pm1 cd1 ct1 oc2 kV2 yF pm2 cd2 ct2 oc3 kV3 dc3 pm3 cd3 ct3 oc4 kV4 Kc pm4 cd4 ct4 oc5 kV5 Kd pm5 cd5 ct5 oc6 kV6 Kg pm6 cd6 ct6 oc7 kV7 dc7 pm7 cd7 ct7 oc8 kV8 dc8 pm8 cd8 ct8 oc9 kV9 P5 pm9 cd9 ct9 S3 S4 S5 S6 LI S7 S8 S9 Ta Tb LJ Tc Td Tf Tg Ti LK Tj Tn Tp Tq Tr LL Ts Tt Tv Tw Tx LM Tz TB TF TH TJ LN TK TL TN TQ TU LO TV TX TY T2 T3 LP T4 T5 T7 T8 T9 LQ Ua Ub Uc Ud Ue LR Ug Uh Ui Uj Uk LS Ul Um Uo Up Uq LU Ur Us Ut Uu Uv LV Uw Ux Uy Uz UA LW UB UC UD UE UG LX UH UI UJ UK UL LY UM UN UO UP UQ LZ UR US UT UU UW L5 UX UY UZ U0 U1 L6 U2 U3 U4 U5 U6 L7 U7 U8 U9 Va Vb L8 Vc Vd Ve Vf Vg Ma Vh Vi Vj Vk Vl Mb Vm Vn Vo Vp Vq Md Vr Vs Vt Vu Vv Mf Vw Vx Vy Vz VA Mg VB VC VD VE VF Mh VG VH VI VJ VL Mi VM VN Mj Mk Ml Ia Mp : Value}
  (a0 : nsIn K mainGlobals "goes_on" = some (some (.ref f0))) (l0 : K.lookup f0 = some ⟨oc0,od0,.func (fnOf "goes_on" "goes_on" (aV ji) (aS ji) (aq ji) .none kV0 dc0 pm0 an0 cd0 ct0),sl0⟩) (c0 : codeIn K cd0 "goes_on" = true) (k0 : keepIn K (.ref f0) = true)
  (a1 : nsIn K mainGlobals "targets_of" = some (some (.ref f1))) (l1 : K.lookup f1 = some ⟨oc1,od1,.func (fnOf "targets_of" "targets_of" (aV gO) (aS gO) (aq gO) .none kV1 dc1 pm1 an1 cd1 ct1),N8⟩) (c1 : codeIn K cd1 "targets_of" = true) (k1 : keepIn K (.ref f1) = true)
  (a2 : nsIn K mainGlobals "with_targets" = some (some (.ref f2))) (l2 : K.lookup f2 = some ⟨oc2,od2,.func (fnOf "with_targets" "with_targets" (aV lC) (aS lC) (aq lC) .none kV2 yF pm2 an2 cd2 ct2),sl2⟩) (c2 : codeIn K cd2 "with_targets" = true) (k2 : keepIn K (.ref f2) = true)
  (a3 : nsIn K mainGlobals "is_whole" = some (some (.ref f3))) (l3 : K.lookup f3 = some ⟨oc3,od3,.func (fnOf "is_whole" "is_whole" (aV jj) (aS jj) (aq jj) .none kV3 dc3 pm3 an3 cd3 ct3),sl3⟩) (c3 : codeIn K cd3 "is_whole" = true) (k3 : keepIn K (.ref f3) = true)
  (a4 : nsIn K mainGlobals "is_number_of" = some (some (.ref f4))) (l4 : K.lookup f4 = some ⟨oc4,od4,.func (fnOf "is_number_of" "is_number_of" (aV lD) (aS lD) (aq lD) .none kV4 Kc pm4 an4 cd4 ct4),sl4⟩) (c4 : codeIn K cd4 "is_number_of" = true) (k4 : keepIn K (.ref f4) = true)
  (a5 : nsIn K mainGlobals "has_far" = some (some (.ref f5))) (l5 : K.lookup f5 = some ⟨oc5,od5,.func (fnOf "has_far" "has_far" (aV jk) (aS jk) (aq jk) .none kV5 Kd pm5 an5 cd5 ct5),sl5⟩) (c5 : codeIn K cd5 "has_far" = true) (k5 : keepIn K (.ref f5) = true)
  (a6 : nsIn K mainGlobals "size_of" = some (some (.ref f6))) (l6 : K.lookup f6 = some ⟨oc6,od6,.func (fnOf "size_of" "size_of" (aV qp) (aS qp) (aq qp) .none kV6 Kg pm6 an6 cd6 ct6),sl6⟩) (c6 : codeIn K cd6 "size_of" = true) (k6 : keepIn K (.ref f6) = true)
  (a7 : nsIn K mainGlobals "begins_of" = some (some (.ref f7))) (l7 : K.lookup f7 = some ⟨oc7,od7,.func (fnOf "begins_of" "begins_of" (aV jl) (aS jl) (aq jl) .none kV7 dc7 pm7 an7 cd7 ct7),sl7⟩) (c7 : codeIn K cd7 "begins_of" = true) (k7 : keepIn K (.ref f7) = true)
  (a8 : nsIn K mainGlobals "whole_at" = some (some (.ref f8))) (l8 : K.lookup f8 = some ⟨oc8,od8,.func (fnOf "whole_at" "whole_at" (aV gP) (aS gP) (aq gP) .none kV8 dc8 pm8 an8 cd8 ct8),sl8⟩) (c8 : codeIn K cd8 "whole_at" = true) (k8 : keepIn K (.ref f8) = true)
  (a9 : nsIn K mainGlobals "fits_head" = some (some (.ref f9))) (l9 : K.lookup f9 = some ⟨oc9,od9,.func (fnOf "fits_head" "fits_head" (aV qq) (aS qq) (aq qq) .none kV9 P5 pm9 an9 cd9 ct9),sl9⟩) (c9 : codeIn K cd9 "fits_head" = true) (k9 : keepIn K (.ref f9) = true)
  (a10 : nsIn K mainGlobals "table_at" = some (some (.ref QO))) (l10 : K.lookup QO = some ⟨S3,Rm,.func (fnOf "table_at" "table_at" (aV fA) (aS fA) (aq fA) .none S4 S5 S6 Rn LI S7),Sr⟩) (VO : codeIn K LI "table_at" = true) (k10 : keepIn K (.ref QO) = true)
  (a11 : nsIn K mainGlobals "number_at" = some (some (.ref f11))) (VP : K.lookup f11 = some ⟨S8,Ro,.func (fnOf "number_at" "number_at" (aV lE) (aS lE) (aq lE) .none S9 Ta Tb Rp LJ Tc),Ss⟩) (VQ : codeIn K LJ "number_at" = true) (k11 : keepIn K (.ref f11) = true)
  (a12 : nsIn K mainGlobals "part_at" = some (some (.ref QP))) (VR : K.lookup QP = some ⟨Td,Rq,.func (fnOf "part_at" "part_at" (aV jm) (aS jm) (aq jm) .none Tf Tg Ti Rr LK Tj),Sv⟩) (c12 : codeIn K LK "part_at" = true) (k12 : keepIn K (.ref QP) = true)
  (a13 : nsIn K mainGlobals "jump_at" = some (some (.ref QR))) (VT : K.lookup QR = some ⟨Tn,Rt,.func (fnOf "jump_at" "jump_at" (aV jn) (aS jn) (aq jn) .none Tp Tq Tr Ru LL Ts),Sw⟩) (VU : codeIn K LL "jump_at" = true) (k13 : keepIn K (.ref QR) = true)
  (a14 : nsIn K mainGlobals "row_at" = some (some (.ref QS))) (VW : K.lookup QS = some ⟨Tt,Rv,.func (fnOf "row_at" "row_at" (aV iT) (aS iT) (aq iT) .none Tv Tw Tx Rw LM Tz),Sx⟩) (VX : codeIn K LM "row_at" = true) (k14 : keepIn K (.ref QS) = true)
  (a15 : nsIn K mainGlobals "rows_with_distances" = some (some (.ref QT))) (VY : K.lookup QT = some ⟨TB,Rx,.func (fnOf "rows_with_distances" "rows_with_distances" (aV jo) (aS jo) (aq jo) .none TF TH TJ Ry LN TK),Sy⟩) (VZ : codeIn K LN "rows_with_distances" = true) (V0 : keepIn K (.ref QT) = true)
  (a16 : nsIn K mainGlobals "rows_of_units" = some (some (.ref QU))) (V1 : K.lookup QU = some ⟨TL,Rz,.func (fnOf "rows_of_units" "rows_of_units" (aV ib) (aS ib) (aq ib) .none TN TQ TU RA LO TV),Sz⟩) (c16 : codeIn K LO "rows_of_units" = true) (V2 : keepIn K (.ref QU) = true)
  (a17 : nsIn K mainGlobals "_law_cell_at" = some (some (.ref QV))) (V3 : K.lookup QV = some ⟨TX,RB,.func (fnOf "_law_cell_at" "_law_cell_at" (aV qr) (aS qr) (aq qr) .none TY T2 T3 RD LP T4),SA⟩) (V4 : codeIn K LP "_law_cell_at" = true) (V5 : keepIn K (.ref QV) = true)
  (a18 : nsIn K mainGlobals "_law_stream" = some (some (.ref QW))) (V6 : K.lookup QW = some ⟨T5,RE,.func (fnOf "_law_stream" "_law_stream" (aV jq) (aS jq) (aq jq) .none T7 T8 T9 RF LQ Ua),SD⟩) (V7 : codeIn K LQ "_law_stream" = true) (V8 : keepIn K (.ref QW) = true)
  (a19 : nsIn K mainGlobals "_law_row" = some (some (.ref QX))) (V9 : K.lookup QX = some ⟨Ub,RG,.func (fnOf "_law_row" "_law_row" (aV yM) (aS yM) (aq yM) .none Uc Ud Ue RH LR Ug),SE⟩) (Wa : codeIn K LR "_law_row" = true) (Wb : keepIn K (.ref QX) = true)
  (a20 : nsIn K mainGlobals "_law_targets" = some (some (.ref QY))) (Wc : K.lookup QY = some ⟨Uh,RI,.func (fnOf "_law_targets" "_law_targets" (aV qt) (aS qt) (aq qt) .none Ui Uj Uk RJ LS Ul),SG⟩) (Wd : codeIn K LS "_law_targets" = true) (Wf : keepIn K (.ref QY) = true)
  (a21 : nsIn K mainGlobals "_law_last" = some (some (.ref QZ))) (Wg : K.lookup QZ = some ⟨Um,RK,.func (fnOf "_law_last" "_law_last" (aV qu) (aS qu) (aq qu) .none Uo Up Uq RL LU Ur),SH⟩) (c21 : codeIn K LU "_law_last" = true) (Wh : keepIn K (.ref QZ) = true)
  (a22 : nsIn K mainGlobals "_law_program" = some (some (.ref Q0))) (Wi : K.lookup Q0 = some ⟨Us,RM,.func (fnOf "_law_program" "_law_program" (aV oE) (aS oE) (aq oE) .none Ut Uu Uv RN LV Uw),SJ⟩) (Wj : codeIn K LV "_law_program" = true) (Wk : keepIn K (.ref Q0) = true)
  (a23 : nsIn K mainGlobals "_law_led" = some (some (.ref Q5))) (Wl : K.lookup Q5 = some ⟨Ux,RO,.func (fnOf "_law_led" "_law_led" (aV vt) (aS vt) (aq vt) .none Uy Uz UA RP LW UB),SK⟩) (Wm : codeIn K LW "_law_led" = true) (Wn : keepIn K (.ref Q5) = true)
  (a24 : nsIn K mainGlobals "_law_size" = some (some (.ref Q6))) (Wo : K.lookup Q6 = some ⟨UC,RQ,.func (fnOf "_law_size" "_law_size" (aV lF) (aS lF) (aq lF) .none UD UE UG RR LX UH),SL⟩) (Wp : codeIn K LX "_law_size" = true) (Wq : keepIn K (.ref Q6) = true)
  (a25 : nsIn K mainGlobals "_law_distance" = some (some (.ref Q7))) (Wr : K.lookup Q7 = some ⟨UI,RS,.func (fnOf "_law_distance" "_law_distance" (aV jO) (aS jO) (aq jO) .none UJ UK UL RT LY UM),SM⟩) (Ws : codeIn K LY "_law_distance" = true) (Wt : keepIn K (.ref Q7) = true)
  (a26 : nsIn K mainGlobals "_law_bears" = some (some (.ref Q8))) (Wu : K.lookup Q8 = some ⟨UN,RU,.func (fnOf "_law_bears" "_law_bears" (aV lG) (aS lG) (aq lG) .none UO UP UQ RV LZ UR),SN⟩) (Wv : codeIn K LZ "_law_bears" = true) (Ww : keepIn K (.ref Q8) = true)
  (a27 : nsIn K mainGlobals "_law_units" = some (some (.ref Q9))) (Wx : K.lookup Q9 = some ⟨US,RW,.func (fnOf "_law_units" "_law_units" (aV gd) (aS gd) (aq gd) .none UT UU UW RX L5 UX),SO⟩) (Wy : codeIn K L5 "_law_units" = true) (Wz : keepIn K (.ref Q9) = true)
  (a28 : nsIn K mainGlobals "_law_whole" = some (some (.ref Ra))) (WB : K.lookup Ra = some ⟨UY,RY,.func (fnOf "_law_whole" "_law_whole" (aV jr) (aS jr) (aq jr) .none UZ U0 U1 RZ L6 U2),SQ⟩) (WC : codeIn K L6 "_law_whole" = true) (WD : keepIn K (.ref Ra) = true)
  (a29 : nsIn K mainGlobals "_law_first" = some (some (.ref Rb))) (WG : K.lookup Rb = some ⟨U3,R0,.func (fnOf "_law_first" "_law_first" (aV jt) (aS jt) (aq jt) .none U4 U5 U6 R1 L7 U7),SR⟩) (WH : codeIn K L7 "_law_first" = true) (WK : keepIn K (.ref Rb) = true)
  (a30 : nsIn K mainGlobals "_law_next" = some (some (.ref Rc))) (WL : K.lookup Rc = some ⟨U8,R3,.func (fnOf "_law_next" "_law_next" (aV lI) (aS lI) (aq lI) .none U9 Va Vb R4 L8 Vc),SU⟩) (WM : codeIn K L8 "_law_next" = true) (WN : keepIn K (.ref Rc) = true)
  (a31 : nsIn K mainGlobals "_law_table" = some (some (.ref Rf))) (WO : K.lookup Rf = some ⟨Vd,R5,.func (fnOf "_law_table" "_law_table" (aV ju) (aS ju) (aq ju) .none Ve Vf Vg R6 Ma Vh),SV⟩) (WQ : codeIn K Ma "_law_table" = true) (WR : keepIn K (.ref Rf) = true)
  (a32 : nsIn K mainGlobals "_law_aimed" = some (some (.ref f32))) (WT : K.lookup f32 = some ⟨Vi,R7,.func (fnOf "_law_aimed" "_law_aimed" (aV jP) (aS jP) (aq jP) .none Vj Vk Vl R8 Mb Vm),SW⟩) (WU : codeIn K Mb "_law_aimed" = true) (WV : keepIn K (.ref f32) = true)
  (a33 : nsIn K mainGlobals "_law_due" = some (some (.ref Rg))) (WW : K.lookup Rg = some ⟨Vn,R9,.func (fnOf "_law_due" "_law_due" (aV vw) (aS vw) (aq vw) .none Vo Vp Vq Sb Md Vr),SX⟩) (WX : codeIn K Md "_law_due" = true) (WY : keepIn K (.ref Rg) = true)
  (a34 : nsIn K mainGlobals "_law_read" = some (some (.ref Rh))) (WZ : K.lookup Rh = some ⟨Vs,Sd,.func (fnOf "_law_read" "_law_read" (aV lJ) (aS lJ) (aq lJ) .none Vt Vu Vv Se Mf Vw),SY⟩) (W0 : codeIn K Mf "_law_read" = true) (W1 : keepIn K (.ref Rh) = true)
  (a35 : nsIn K mainGlobals "_law_turned" = some (some (.ref Ri))) (W2 : K.lookup Ri = some ⟨Vx,Sf,.func (fnOf "_law_turned" "_law_turned" (aV gQ) (aS gQ) (aq gQ) .none Vy Vz VA Sg Mg VB),SZ⟩) (W3 : codeIn K Mg "_law_turned" = true) (W4 : keepIn K (.ref Ri) = true)
  (a36 : nsIn K mainGlobals "_law_spoilt" = some (some (.ref Rj))) (W5 : K.lookup Rj = some ⟨VC,Sh,.func (fnOf "_law_spoilt" "_law_spoilt" (aV jv) (aS jv) (aq jv) .none VD VE VF Si Mh VG),S0⟩) (W6 : codeIn K Mh "_law_spoilt" = true) (W7 : keepIn K (.ref Rj) = true)
  (a37 : nsIn K mainGlobals "_law_right" = some (some (.ref Rk))) (W8 : K.lookup Rk = some ⟨VH,Sl,.func (fnOf "_law_right" "_law_right" (aV ic) (aS ic) (aq ic) .none VI VJ VL Sn Mi VM),S1⟩) (W9 : codeIn K Mi "_law_right" = true) (Xa : keepIn K (.ref Rk) = true)
  (a38 : nsIn K mainGlobals "law" = some (some (.ref Rl))) (Xb : K.lookup Rl = some ⟨VN,Sq,.func (fnOf "law" "law" (aV oF) (aS oF) (aq oF) .none Mj Mk Ml LH Ia Mp),S2⟩) (Xc : codeIn K Ia "law" = true) (Xd : keepIn K (.ref Rl) = true)
  {Xe : Addr} {Xf : Option Addr} {Xg : Array (Option Value)} {nT0 : Nat} {Xh Xi Xj Xk Xl Xm : Tok} (Xn : nsIn K mainGlobals "TWO_UNITS" = some (some (.ref Xe)))
  (Xo : K.lookup Xe = some ⟨.type "tuple",Xf,.seq #[.str "set" Xh,.str "more" Xi,.str "put" Xj,.str "take" Xk,.str "see" Xl,.str "halt" Xm] nT0,Xg⟩)
  {Xp : Addr} {Xq : Option Addr} {Xr : Array (Option Value)} {nT1 : Nat} {Xt Xu Xv Xw : Tok} (Xx : nsIn K mainGlobals "NOT_GOING_ON" = some (some (.ref Xp)))
  (Xy : K.lookup Xp = some ⟨.type "tuple",Xq,.seq #[.str "stop" Xt,.str "back" Xu,.str "halt" Xv,.str "jump" Xw] nT1,Xr⟩)
  (Bu : nsIn K mainGlobals "len" = some none)
  (vT : nsIn K mainGlobals "list" = some none)
  (sq : nsIn K mainGlobals "tuple" = some none)
  (Bv : nsIn K mainGlobals "int" = some none)
  (vU : nsIn K mainGlobals "bool" = some none)
  (ix : nsIn K mainGlobals "isinstance" = some none)
  (i5 : nsIn K mainGlobals "enumerate" = some none)
  (su : nsIn K mainGlobals "range" = some none)
  (Bw : nsIn K mainGlobals "min" = some none)
  (Bx : nsIn K mainGlobals "max" = some none)
  (By : nsIn K mainGlobals "sum" = some none)
  (vV : nsIn K mainGlobals "dict" = some none)
  (iy : nsIn K mainGlobals "ValueError" = some none)
  {pP : Addr} {gL : Array DictEntry} {nP : Nat} (aP : nsIn K mainGlobals "PARTS" = some (some (.ref pP))) (lP : K.lookup pP = some ⟨.type "dict",none,.dict gL nP,#[]⟩) (kP : KeysLit w.params gL.toList) (oP : (pP == sysModules) = false)
  {Oj : Addr} {Xz : Array (Option Value)} {nP0 : Nat} (Ol : nsIn K pP "stop" = some (some (.ref Oj))) (Mq : K.lookup Oj = some ⟨.type "tuple",none,.seq #[] nP0,Xz⟩)
  {Om : Addr} {XA : Array (Option Value)} {nP1 : Nat} (Oo : nsIn K pP "back" = some (some (.ref Om))) (Mr : K.lookup Om = some ⟨.type "tuple",none,.seq #[] nP1,XA⟩)
  {Oq : Addr} {XB : Array (Option Value)} {nP2 : Nat} {Ms : Tok} (Ot : nsIn K pP "halt" = some (some (.ref Oq))) (Mt : K.lookup Oq = some ⟨.type "tuple",none,.seq #[.str "number" Ms] nP2,XB⟩)
  {Ou : Addr} {XC : Array (Option Value)} {nP3 : Nat} {Mu Mv : Tok} (Ov : nsIn K pP "set" = some (some (.ref Ou))) (Mw : K.lookup Ou = some ⟨.type "tuple",none,.seq #[.str "box" Mu,.str "value" Mv] nP3,XC⟩)
  {Ow : Addr} {XD : Array (Option Value)} {nP4 : Nat} {Mx Mz : Tok} (Ox : nsIn K pP "more" = some (some (.ref Ow))) (MA : K.lookup Ow = some ⟨.type "tuple",none,.seq #[.str "box" Mx,.str "value" Mz] nP4,XD⟩)
  {Oy : Addr} {XF : Array (Option Value)} {nP5 : Nat} {MB MC : Tok} (Oz : nsIn K pP "copy" = some (some (.ref Oy))) (MD : K.lookup Oy = some ⟨.type "tuple",none,.seq #[.str "box" MB,.str "box" MC] nP5,XF⟩)
  {OB : Addr} {XG : Array (Option Value)} {nP6 : Nat} {ME MF : Tok} (OD : nsIn K pP "add" = some (some (.ref OB))) (MG : K.lookup OB = some ⟨.type "tuple",none,.seq #[.str "box" ME,.str "box" MF] nP6,XG⟩)
  {OG : Addr} {XH : Array (Option Value)} {nP7 : Nat} {MH MI : Tok} (OI : nsIn K pP "less" = some (some (.ref OG))) (MJ : K.lookup OG = some ⟨.type "tuple",none,.seq #[.str "box" MH,.str "box" MI] nP7,XH⟩)
  {OJ : Addr} {XI : Array (Option Value)} {nP8 : Nat} {MK ML : Tok} (OL : nsIn K pP "load" = some (some (.ref OJ))) (MN : K.lookup OJ = some ⟨.type "tuple",none,.seq #[.str "box" MK,.str "box" ML] nP8,XI⟩)
  {OM : Addr} {XJ : Array (Option Value)} {nP9 : Nat} {MO MP : Tok} (OO : nsIn K pP "keep" = some (some (.ref OM))) (MQ : K.lookup OM = some ⟨.type "tuple",none,.seq #[.str "box" MO,.str "box" MP] nP9,XJ⟩)
  {DJ : Addr} {MR : Array (Option Value)} {XM : Nat} {Ib : Tok} (DK : nsIn K pP "tell" = some (some (.ref DJ))) (Bz : K.lookup DJ = some ⟨.type "tuple",none,.seq #[.str "box" Ib] XM,MR⟩)
  {DL : Addr} {MS : Array (Option Value)} {XO : Nat} {Ie Ig : Tok} (DM : nsIn K pP "see" = some (some (.ref DL))) (BA : K.lookup DL = some ⟨.type "tuple",none,.seq #[.str "box" Ie,.str "number" Ig] XO,MS⟩)
  {DN : Addr} {MT : Array (Option Value)} {XQ : Nat} {Ih Ii : Tok} (DO : nsIn K pP "put" = some (some (.ref DN))) (BD : K.lookup DN = some ⟨.type "tuple",none,.seq #[.str "box" Ih,.str "aside" Ii] XQ,MT⟩)
  {DP : Addr} {MU : Array (Option Value)} {XR : Nat} {Ij Ik : Tok} (DQ : nsIn K pP "take" = some (some (.ref DP))) (BE : K.lookup DP = some ⟨.type "tuple",none,.seq #[.str "box" Ij,.str "aside" Ik] XR,MU⟩)
  {DR : Addr} {MV : Array (Option Value)} {XS : Nat} {Il Im : Tok} (DS : nsIn K pP "jump" = some (some (.ref DR))) (BF : K.lookup DR = some ⟨.type "tuple",none,.seq #[.str "target" Il,.str "far" Im] XS,MV⟩)
  {DT : Addr} {MW : Array (Option Value)} {XT : Nat} {Io Ip Iq : Tok} (DU : nsIn K pP "zero" = some (some (.ref DT))) (BG : K.lookup DT = some ⟨.type "tuple",none,.seq #[.str "box" Io,.str "target" Ip,.str "far" Iq] XT,MW⟩)
  {DV : Addr} {MX : Array (Option Value)} {XU : Nat} {Ir Iu Iv : Tok} (DW : nsIn K pP "below" = some (some (.ref DV))) (BH : K.lookup DV = some ⟨.type "tuple",none,.seq #[.str "box" Ir,.str "target" Iu,.str "far" Iv] XU,MX⟩)
  {DX : Addr} {MY : Array (Option Value)} {XW : Nat} {Iw Iy : Tok} (DY : nsIn K pP "call" = some (some (.ref DX))) (BI : K.lookup DX = some ⟨.type "tuple",none,.seq #[.str "target" Iw,.str "far" Iy] XW,MY⟩)
  {DZ : Addr} {MZ : Array (Option Value)} {XY : Nat} {Iz IA : Tok} (D0 : nsIn K pP "mark" = some (some (.ref DZ))) (BJ : K.lookup DZ = some ⟨.type "tuple",none,.seq #[.str "target" Iz,.str "far" IA] XY,MZ⟩)
  {D1 : Addr} {M0 : Array (Option Value)} {XZ : Nat} {IB IC : Tok} (D2 : nsIn K pP "table" = some (some (.ref D1))) (BK : K.lookup D1 = some ⟨.type "tuple",none,.seq #[.str "box" IB,.str "targets" IC] XZ,M0⟩)
  {o4 : Tok} (jS : nsIn K mainGlobals "CODE_STEP" = some (some (.int (1024) o4)))
  {qN : Tok} (lU : nsIn K mainGlobals "BOX_STEP" = some (some (.int (128) qN)))
  {kK : Tok} (iz : nsIn K mainGlobals "SHORT_ADDED" = some (some (.int (64) kK)))
  {pH IE IG IH II IJ IK IL IQ IU IV vW vX vY vZ v9 wa wc wd wg wj wk wm wo wq wt : Addr} {slH : Array (Option Value)} {nH : Nat} (aH : nsIn K mainGlobals "HEADS" = some (some (.ref pH))) (lH : K.lookup pH = some ⟨.type "tuple",none,.seq #[.ref IE,.ref IG,.ref IH,.ref II,.ref IJ,.ref IK,.ref IL,.ref IQ,.ref IU,.ref IV,.ref vW,.ref vX,.ref vY,.ref vZ,.ref v9,.ref wa,.ref wc,.ref wd,.ref wg,.ref wj,.ref wk,.ref wm,.ref wo,.ref wq,.ref wt] nH,slH⟩)
  {X0 : Option Addr} {X2 : Array (Option Value)} {nH0 : Nat} {tH0 uH0 : Tok} (OQ : K.lookup IE = some ⟨.type "tuple",X0,.seq #[.str "stop" tH0,.int 0 uH0] nH0,X2⟩)
  {X3 : Option Addr} {X4 : Array (Option Value)} {nH1 : Nat} {tH1 uH1 : Tok} (OS : K.lookup IG = some ⟨.type "tuple",X3,.seq #[.str "back" tH1,.int 0 uH1] nH1,X4⟩)
  {X5 : Option Addr} {X6 : Array (Option Value)} {nH2 : Nat} {tH2 uH2 : Tok} (OU : K.lookup IH = some ⟨.type "tuple",X5,.seq #[.str "halt" tH2,.int 0 uH2] nH2,X6⟩)
  {X7 : Option Addr} {X8 : Array (Option Value)} {nH3 : Nat} {tH3 uH3 : Tok} (OV : K.lookup II = some ⟨.type "tuple",X7,.seq #[.str "set" tH3,.int 0 uH3] nH3,X8⟩)
  {X9 : Option Addr} {Ya : Array (Option Value)} {nH4 : Nat} {tH4 uH4 : Tok} (OW : K.lookup IJ = some ⟨.type "tuple",X9,.seq #[.str "more" tH4,.int 0 uH4] nH4,Ya⟩)
  {Yb : Option Addr} {Yc : Array (Option Value)} {nH5 : Nat} {tH5 uH5 : Tok} (OX : K.lookup IK = some ⟨.type "tuple",Yb,.seq #[.str "copy" tH5,.int 0 uH5] nH5,Yc⟩)
  {Yd : Option Addr} {Ye : Array (Option Value)} {nH6 : Nat} {tH6 uH6 : Tok} (OY : K.lookup IL = some ⟨.type "tuple",Yd,.seq #[.str "add" tH6,.int 0 uH6] nH6,Ye⟩)
  {Yf : Option Addr} {Yg : Array (Option Value)} {nH7 : Nat} {tH7 uH7 : Tok} (OZ : K.lookup IQ = some ⟨.type "tuple",Yf,.seq #[.str "less" tH7,.int 0 uH7] nH7,Yg⟩)
  {Yh : Option Addr} {Yi : Array (Option Value)} {nH8 : Nat} {tH8 uH8 : Tok} (O0 : K.lookup IU = some ⟨.type "tuple",Yh,.seq #[.str "load" tH8,.int 0 uH8] nH8,Yi⟩)
  {Yj : Option Addr} {Yk : Array (Option Value)} {nH9 : Nat} {tH9 uH9 : Tok} (O1 : K.lookup IV = some ⟨.type "tuple",Yj,.seq #[.str "keep" tH9,.int 0 uH9] nH9,Yk⟩)
  {M3 : Option Addr} {M4 : Array (Option Value)} {Yl : Nat} {Ym Yn : Tok} (D3 : K.lookup vW = some ⟨.type "tuple",M3,.seq #[.str "tell" Ym,.int 0 Yn] Yl,M4⟩)
  {M5 : Option Addr} {M6 : Array (Option Value)} {Yo : Nat} {Yp Yq : Tok} (D4 : K.lookup vX = some ⟨.type "tuple",M5,.seq #[.str "see" Yp,.int 0 Yq] Yo,M6⟩)
  {M7 : Option Addr} {M8 : Array (Option Value)} {Yr : Nat} {Yt Yu : Tok} (D5 : K.lookup vY = some ⟨.type "tuple",M7,.seq #[.str "put" Yt,.int 0 Yu] Yr,M8⟩)
  {M9 : Option Addr} {Nc : Array (Option Value)} {Yv : Nat} {Yw Yx : Tok} (D6 : K.lookup vZ = some ⟨.type "tuple",M9,.seq #[.str "take" Yw,.int 0 Yx] Yv,Nc⟩)
  {Nf : Option Addr} {Ng : Array (Option Value)} {Yy : Nat} {Yz YB : Tok} (D7 : K.lookup v9 = some ⟨.type "tuple",Nf,.seq #[.str "jump" Yz,.int 0 YB] Yy,Ng⟩)
  {Nh : Option Addr} {Ni : Array (Option Value)} {YC : Nat} {YD YF : Tok} (D8 : K.lookup wa = some ⟨.type "tuple",Nh,.seq #[.str "zero" YD,.int 0 YF] YC,Ni⟩)
  {Nj : Option Addr} {Nk : Array (Option Value)} {YG : Nat} {YH YJ : Tok} (D9 : K.lookup wc = some ⟨.type "tuple",Nj,.seq #[.str "below" YH,.int 0 YJ] YG,Nk⟩)
  {Nm : Option Addr} {Nn : Array (Option Value)} {YK : Nat} {YL YM : Tok} (Ea : K.lookup wd = some ⟨.type "tuple",Nm,.seq #[.str "call" YL,.int 0 YM] YK,Nn⟩)
  {Np : Option Addr} {Nq : Array (Option Value)} {YN : Nat} {YQ YR : Tok} (Eb : K.lookup wg = some ⟨.type "tuple",Np,.seq #[.str "mark" YQ,.int 0 YR] YN,Nq⟩)
  {Nr : Option Addr} {Nt : Array (Option Value)} {YS : Nat} {YT YV : Tok} (Ec : K.lookup wj = some ⟨.type "tuple",Nr,.seq #[.str "table" YT,.int 0 YV] YS,Nt⟩)
  {Nu : Option Addr} {Nv : Array (Option Value)} {YW : Nat} {YZ Y0 : Tok} (Ed : K.lookup wk = some ⟨.type "tuple",Nu,.seq #[.str "jump" YZ,.int 1 Y0] YW,Nv⟩)
  {Nw : Option Addr} {Nx : Array (Option Value)} {Y1 : Nat} {Y2 Y3 : Tok} (Ee : K.lookup wm = some ⟨.type "tuple",Nw,.seq #[.str "zero" Y2,.int 1 Y3] Y1,Nx⟩)
  {Ny : Option Addr} {Nz : Array (Option Value)} {Y4 : Nat} {Y5 Y6 : Tok} (Ef : K.lookup wo = some ⟨.type "tuple",Ny,.seq #[.str "below" Y5,.int 1 Y6] Y4,Nz⟩)
  {NA : Option Addr} {NB : Array (Option Value)} {Y7 : Nat} {Y8 Y9 : Tok} (Eg : K.lookup wq = some ⟨.type "tuple",NA,.seq #[.str "call" Y8,.int 1 Y9] Y7,NB⟩)
  {NC : Option Addr} {ND : Array (Option Value)} {Za : Nat} {Zb Zc : Tok} (Eh : K.lookup wt = some ⟨.type "tuple",NC,.seq #[.str "mark" Zb,.int 1 Zc] Za,ND⟩)
  {pB : Addr} {Fk : Array DictEntry} {nB : Nat} (aB : nsIn K mainGlobals "BOUNDS" = some (some (.ref pB))) (lB : K.lookup pB = some ⟨.type "dict",none,.dict Fk nB,#[]⟩) (kB : KeysLit w.params Fk.toList) (oB : (pB == sysModules) = false)
  {Zd : Addr} {Ze : Array (Option Value)} {nB0 : Nat} {NF NG : Tok} (Zf : nsIn K pB "box" = some (some (.ref Zd))) (Zg : K.lookup Zd = some ⟨.type "tuple",none,.seq #[.int (0) NF,.int (7) NG] nB0,Ze⟩)
  {Zh : Addr} {Zi : Array (Option Value)} {nB1 : Nat} {NH NI : Tok} (Zj : nsIn K pB "aside" = some (some (.ref Zh))) (Zk : K.lookup Zh = some ⟨.type "tuple",none,.seq #[.int (0) NH,.int (1000000) NI] nB1,Zi⟩)
  {Zm : Addr} {Zn : Array (Option Value)} {nB2 : Nat} {NJ NK : Tok} (Zo : nsIn K pB "target" = some (some (.ref Zm))) (Zq : K.lookup Zm = some ⟨.type "tuple",none,.seq #[.int (0) NJ,.int (1000000000) NK] nB2,Zn⟩)
  {Zr : Addr} {Zt : Array (Option Value)} {nB3 : Nat} {NM NN : Tok} (Zu : nsIn K pB "number" = some (some (.ref Zr))) (Zv : K.lookup Zr = some ⟨.type "tuple",none,.seq #[.int (0) NM,.int (1000000) NN] nB3,Zt⟩)
  {Zw : Addr} {Zx : Array (Option Value)} {nB4 : Nat} {NP NQ : Tok} (Zy : nsIn K pB "value" = some (some (.ref Zw))) (Zz : K.lookup Zw = some ⟨.type "tuple",none,.seq #[.int (-1000000000) NP,.int (1000000000) NQ] nB4,Zx⟩)
  {ZA : Addr} {ZC : Array (Option Value)} {nB5 : Nat} {NR NS : Tok} (ZD : nsIn K pB "far" = some (some (.ref ZA))) (ZE : K.lookup ZA = some ⟨.type "tuple",none,.seq #[.int (0) NR,.int (1) NS] nB5,ZC⟩)
  {jL : Tok} (gJ : nsIn K mainGlobals "MOST_TARGETS" = some (some (.int (16) jL)))
  {BL : Tok} (wu : nsIn K mainGlobals "BOXES" = some (some (.int (8) BL)))
  {aM : Addr} (o5 : nsIn K mainGlobals "NoUnits" = some (some (.ref aM)))
  {cy : Addr} (lV : nsIn K mainGlobals "RowError" = some (some (.ref cy)))
  {cX : Addr} (sv : nsIn K mainGlobals "NoFree" = some (some (.ref cX)))
  {cC : Addr} (lW : nsIn K mainGlobals "NoLayout" = some (some (.ref cC)))
  {cY : Addr} (sA : nsIn K mainGlobals "NoRows" = some (some (.ref cY)))
  {cZ : Addr} (sC : nsIn K mainGlobals "NoText" = some (some (.ref cZ)))
  {df : Addr} (sD : nsIn K mainGlobals "NoWish" = some (some (.ref df)))
  {gI : Addr} {ZF ZG : Option Addr} {ZI : Array (Option Value)} {ZJ ZK ZL ZM NT ZO : Value} (ZP : findIn K (.ref aM) "__init__" = some (some (.ref gI))) (ZQ : typeIn K (.ref gI) = some (.type "function")) (ZR : K.lookup gI = some ⟨ZJ,ZF,.func (fnOf "__init__" "NoUnits.__init__" (aV Jq) (aS Jq) (aq Jq) .none ZK ZL ZM ZG NT ZO),ZI⟩) (ZS : codeIn K NT "NoUnits.__init__" = true) (ZU : keepIn K (.ref gI) = true)
  {ddC : Option Addr} {nmC qnC : Str} {bsC ZV : List Value} {Kh : Addr} {snC : List Str} {abC : Bool} {ZW : Option Bool} {k0C k1C k2C k3C k5C : Option Value} {cdE : ClassData} (ZX : K.lookup aM = some ⟨.type "type",ddC,.cls ⟨nmC,bsC,.ref aM :: .ref cy :: oz,Kh,qnC,true,snC,ZV,abC,ZW,false⟩,#[k0C,k1C,k2C,k3C,some (.builtin "ValueError.__new__"),k5C]⟩) (xq : excIn K cy oz "ValueError.__new__" = true) (ZY : mroIn K cy (.type "object") = some true) (Z0 : findIn K (.ref aM) "__setattr__" = some (some (.builtin "object.__setattr__"))) (Z1 : PySem.W.takerIn K aM "at" = some none) (Z2 : findIn K (.ref aM) "at" = some none) (Z3 : PySem.W.hasDictIn K aM = true) (Z4 : findIn K (.ref aM) "__getattribute__" = some (some (.builtin "BaseException.__getattribute__"))) (Z5 : findIn K (.ref aM) "__getattr__" = some none) (Z6 : findIn K (.ref aM) "__class__" = some (some (.builtin "object.__class__"))) (Z7 : specialIn K (.builtin "object.__class__") "__get__" = some (some (.builtin "getset_descriptor.__get__"))) (Z8 : PySem.W.takesIn K (.builtin "object.__class__") = some true) (Z9 : mroIn K aM (.type "object") = some true) (xbx : mroIn K aM (.type "BaseException") = some true) (xci : clsIn K aM = some cdE) (xsg : specialIn K (.ref cy) "__getattribute__" = some (some (.builtin "type.__getattribute__"))) (xrr : PySem.W.readsIn K cy (.type "type") = true) (xfi : PySem.W.findCls K (.ref cy) (.type "type") "__init__" = some (.val (.builtin "ValueError.__init__"))) (Fm : keepIn K (.ref aM) = true) (IW : exmOne K (.ref aM) (.ref cy) = some true) (IY : kitOne K (.ref aM) (.ref aM) = some true) (xval : kitOne K (.ref aM) (.type "ValueError") = some true) (IZ : kitAny K (.ref aM) [.ref cX,.ref cC,.ref cY,.ref cZ,.ref df] = some false)
  : ∃ fd : FuncData,(∀ (s : Shared) (v : Value),BindsTo s fd ⟨[v],[]⟩ [("_law_script",v)]) ∧ ∀ base : Heap,K.In base → base.Ns mainGlobals mg → aY l.prog w K mg base cQ 11 fa fd ["_law_script"] (yg (K := K)) := by
 have e := hfa.symm.trans (mg_of X G a38)
 cases e
 have F0 := bX (st := ji) l0 c0 k0
 have b0 := F0.binds (ps := ["row"]) fun _ _ _ _ _ _ us hl => match us,hl with | [_],_ => rfl
 have m0 := mg_of X G a0
 have F1 := bX (st := gO) l1 c1 k1
 have b1 := F1.binds (ps := ["row"]) fun _ _ _ _ _ _ us hl => match us,hl with | [_],_ => rfl
 have m1 := mg_of X G a1
 have F2 := bX (st := lC) l2 c2 k2
 have b2 := F2.binds (ps := ["row", "targets"]) fun _ _ _ _ _ _ us hl => match us,hl with | [_,_],_ => rfl
 have m2 := mg_of X G a2
 have F3 := bX (st := jj) l3 c3 k3
 have b3 := F3.binds (ps := ["thing"]) fun _ _ _ _ _ _ us hl => match us,hl with | [_],_ => rfl
 have m3 := mg_of X G a3
 have F4 := bX (st := lD) l4 c4 k4
 have b4 := F4.binds (ps := ["kind", "thing"]) fun _ _ _ _ _ _ us hl => match us,hl with | [_,_],_ => rfl
 have m4 := mg_of X G a4
 have F5 := bX (st := jk) l5 c5 k5
 have b5 := F5.binds (ps := ["word"]) fun _ _ _ _ _ _ us hl => match us,hl with | [_],_ => rfl
 have m5 := mg_of X G a5
 have F6 := bX (st := qp) l6 c6 k6
 have b6 := F6.binds (ps := ["row"]) fun _ _ _ _ _ _ us hl => match us,hl with | [_],_ => rfl
 have m6 := mg_of X G a6
 have F7 := bX (st := jl) l7 c7 k7
 have b7 := F7.binds (ps := ["rows"]) fun _ _ _ _ _ _ us hl => match us,hl with | [_],_ => rfl
 have m7 := mg_of X G a7
 have F8 := bX (st := gP) l8 c8 k8
 have b8 := F8.binds (ps := ["units", "at"]) fun _ _ _ _ _ _ us hl => match us,hl with | [_,_],_ => rfl
 have m8 := mg_of X G a8
 have F9 := bX (st := qq) l9 c9 k9
 have b9 := F9.binds (ps := ["head", "a", "low"]) fun _ _ _ _ _ _ us hl => match us,hl with | [_,_,_],_ => rfl
 have m9 := mg_of X G a9
 have F10 := bX (st := fA) l10 VO k10
 have b10 := F10.binds (ps := ["units", "at", "a"]) fun _ _ _ _ _ _ us hl => match us,hl with | [_,_,_],_ => rfl
 have m10 := mg_of X G a10
 have F11 := bX (st := lE) VP VQ k11
 have b11 := F11.binds (ps := ["units", "at", "kind"]) fun _ _ _ _ _ _ us hl => match us,hl with | [_,_,_],_ => rfl
 have m11 := mg_of X G a11
 have F12 := bX (st := jm) VR c12 k12
 have b12 := F12.binds (ps := ["units", "at", "kind", "a"]) fun _ _ _ _ _ _ us hl => match us,hl with | [_,_,_,_],_ => rfl
 have m12 := mg_of X G a12
 have F13 := bX (st := jn) VT VU k13
 have b13 := F13.binds (ps := ["units", "at", "head", "a", "low"]) fun _ _ _ _ _ _ us hl => match us,hl with | [_,_,_,_,_],_ => rfl
 have m13 := mg_of X G a13
 have F14 := bX (st := iT) VW VX k14
 have b14 := F14.binds (ps := ["units", "at"]) fun _ _ _ _ _ _ us hl => match us,hl with | [_,_],_ => rfl
 have m14 := mg_of X G a14
 have F15 := bX (st := jo) VY VZ V0
 have b15 := F15.binds (ps := ["units"]) fun _ _ _ _ _ _ us hl => match us,hl with | [_],_ => rfl
 have m15 := mg_of X G a15
 have F16 := bX (st := ib) V1 c16 V2
 have b16 := F16.binds (ps := ["units"]) fun _ _ _ _ _ _ us hl => match us,hl with | [_],_ => rfl
 have m16 := mg_of X G a16
 have F17 := bX (st := qr) V3 V4 V5
 have b17 := F17.binds (ps := ["_law_script", "_law_k"]) fun _ _ _ _ _ _ us hl => match us,hl with | [_,_],_ => rfl
 have m17 := mg_of X G a17
 have F18 := bX (st := jq) V6 V7 V8
 have b18 := F18.binds (ps := ["_law_cell", "_law_many"]) fun _ _ _ _ _ _ us hl => match us,hl with | [_,_],_ => rfl
 have m18 := mg_of X G a18
 have F19 := bX (st := yM) V9 Wa Wb
 have b19 := F19.binds (ps := ["_law_x", "_law_many"]) fun _ _ _ _ _ _ us hl => match us,hl with | [_,_],_ => rfl
 have m19 := mg_of X G a19
 have F20 := bX (st := qt) Wc Wd Wf
 have b20 := F20.binds (ps := ["_law_x", "_law_many", "_law_count"]) fun _ _ _ _ _ _ us hl => match us,hl with | [_,_,_],_ => rfl
 have m20 := mg_of X G a20
 have F21 := bX (st := qu) Wg c21 Wh
 have b21 := F21.binds (ps := ["_law_row_here", "_law_x"]) fun _ _ _ _ _ _ us hl => match us,hl with | [_,_],_ => rfl
 have m21 := mg_of X G a21
 have F22 := bX (st := oE) Wi Wj Wk
 have b22 := F22.binds (ps := ["_law_xs", "_law_many"]) fun _ _ _ _ _ _ us hl => match us,hl with | [_,_],_ => rfl
 have m22 := mg_of X G a22
 have F23 := bX (st := vt) Wl Wm Wn
 have b23 := F23.binds (ps := ["_law_row_here", "_law_first_here"]) fun _ _ _ _ _ _ us hl => match us,hl with | [_,_],_ => rfl
 have m23 := mg_of X G a23
 have F24 := bX (st := lF) Wo Wp Wq
 have b24 := F24.binds (ps := ["_law_row_here"]) fun _ _ _ _ _ _ us hl => match us,hl with | [_],_ => rfl
 have m24 := mg_of X G a24
 have F25 := bX (st := jO) Wr Ws Wt
 have b25 := F25.binds (ps := ["_law_rows", "_law_here", "_law_there"]) fun _ _ _ _ _ _ us hl => match us,hl with | [_,_,_],_ => rfl
 have m25 := mg_of X G a25
 have F26 := bX (st := lG) Wu Wv Ww
 have b26 := F26.binds (ps := ["_law_rows", "_law_here"]) fun _ _ _ _ _ _ us hl => match us,hl with | [_,_],_ => rfl
 have m26 := mg_of X G a26
 have F27 := bX (st := gd) Wx Wy Wz
 have b27 := F27.binds (ps := ["_law_rows", "_law_here"]) fun _ _ _ _ _ _ us hl => match us,hl with | [_,_],_ => rfl
 have m27 := mg_of X G a27
 have F28 := bX (st := jr) WB WC WD
 have b28 := F28.binds (ps := ["_law_unit", "_law_least", "_law_most"]) fun _ _ _ _ _ _ us hl => match us,hl with | [_,_,_],_ => rfl
 have m28 := mg_of X G a28
 have F29 := bX (st := jt) WG WH WK
 have b29 := F29.binds (ps := ["_law_unit"]) fun _ _ _ _ _ _ us hl => match us,hl with | [_],_ => rfl
 have m29 := mg_of X G a29
 have F30 := bX (st := lI) WL WM WN
 have b30 := F30.binds (ps := ["_law_units_here", "_law_at"]) fun _ _ _ _ _ _ us hl => match us,hl with | [_,_],_ => rfl
 have m30 := mg_of X G a30
 have F31 := bX (st := ju) WO WQ WR
 have b31 := F31.binds (ps := ["_law_units_here", "_law_at", "_law_box"]) fun _ _ _ _ _ _ us hl => match us,hl with | [_,_,_],_ => rfl
 have m31 := mg_of X G a31
 have F32 := bX (st := jP) WT WU WV
 have b32 := F32.binds (ps := ["_law_row_here", "_law_behind", "_law_places"]) fun _ _ _ _ _ _ us hl => match us,hl with | [_,_,_],_ => rfl
 have m32 := mg_of X G a32
 have F33 := bX (st := vw) WW WX WY
 have b33 := F33.binds (ps := ["_law_units_here"]) fun _ _ _ _ _ _ us hl => match us,hl with | [_],_ => rfl
 have m33 := mg_of X G a33
 have F34 := bX (st := lJ) WZ W0 W1
 have b34 := F34.binds (ps := ["_law_units_here"]) fun _ _ _ _ _ _ us hl => match us,hl with | [_],_ => rfl
 have m34 := mg_of X G a34
 have F35 := bX (st := gQ) W2 W3 W4
 have b35 := F35.binds (ps := ["_law_unit", "_law_x"]) fun _ _ _ _ _ _ us hl => match us,hl with | [_,_],_ => rfl
 have m35 := mg_of X G a35
 have F36 := bX (st := jv) W5 W6 W7
 have b36 := F36.binds (ps := ["_law_units_here", "_law_cell"]) fun _ _ _ _ _ _ us hl => match us,hl with | [_,_],_ => rfl
 have m36 := mg_of X G a36
 have F37 := bX (st := ic) W8 W9 Xa
 have b37 := F37.binds (ps := ["_law_units_here"]) fun _ _ _ _ _ _ us hl => match us,hl with | [_],_ => rfl
 have m37 := mg_of X G a37
 have F38 := bX (st := oF) Xb Xc Xd
 have T : Txt K w.params mg := ⟨⟨pP,mg_of X G aP,aT ⟨Oj,⟨gL,nP,lP,kP,oP,_,Ol,rfl⟩,fun H => .inr ⟨_,_,_,Mq,rfl,rfl,z8,.nil⟩⟩
   (aT ⟨Om,⟨gL,nP,lP,kP,oP,_,Oo,rfl⟩,fun H => .inr ⟨_,_,_,Mr,rfl,rfl,z8,.nil⟩⟩
   (aT ⟨Oq,⟨gL,nP,lP,kP,oP,_,Ot,rfl⟩,fun H => .inr ⟨_,_,_,Mt,rfl,rfl,dD,.cons ⟨_,rfl⟩ (.nil)⟩⟩
   (aT ⟨Ou,⟨gL,nP,lP,kP,oP,_,Ov,rfl⟩,fun H => .inr ⟨_,_,_,Mw,rfl,rfl,aJ,.cons ⟨_,rfl⟩ (.cons ⟨_,rfl⟩ (.nil))⟩⟩
   (aT ⟨Ow,⟨gL,nP,lP,kP,oP,_,Ox,rfl⟩,fun H => .inr ⟨_,_,_,MA,rfl,rfl,aJ,.cons ⟨_,rfl⟩ (.cons ⟨_,rfl⟩ (.nil))⟩⟩
   (aT ⟨Oy,⟨gL,nP,lP,kP,oP,_,Oz,rfl⟩,fun H => .inr ⟨_,_,_,MD,rfl,rfl,aJ,.cons ⟨_,rfl⟩ (.cons ⟨_,rfl⟩ (.nil))⟩⟩
   (aT ⟨OB,⟨gL,nP,lP,kP,oP,_,OD,rfl⟩,fun H => .inr ⟨_,_,_,MG,rfl,rfl,aJ,.cons ⟨_,rfl⟩ (.cons ⟨_,rfl⟩ (.nil))⟩⟩
   (aT ⟨OG,⟨gL,nP,lP,kP,oP,_,OI,rfl⟩,fun H => .inr ⟨_,_,_,MJ,rfl,rfl,aJ,.cons ⟨_,rfl⟩ (.cons ⟨_,rfl⟩ (.nil))⟩⟩
   (aT ⟨OJ,⟨gL,nP,lP,kP,oP,_,OL,rfl⟩,fun H => .inr ⟨_,_,_,MN,rfl,rfl,aJ,.cons ⟨_,rfl⟩ (.cons ⟨_,rfl⟩ (.nil))⟩⟩
   (aT ⟨OM,⟨gL,nP,lP,kP,oP,_,OO,rfl⟩,fun H => .inr ⟨_,_,_,MQ,rfl,rfl,aJ,.cons ⟨_,rfl⟩ (.cons ⟨_,rfl⟩ (.nil))⟩⟩
   (aT ⟨DJ,⟨gL,nP,lP,kP,oP,_,DK,rfl⟩,fun H => .inr ⟨_,_,_,Bz,rfl,rfl,dD,.cons ⟨_,rfl⟩ (.nil)⟩⟩
   (aT ⟨DL,⟨gL,nP,lP,kP,oP,_,DM,rfl⟩,fun H => .inr ⟨_,_,_,BA,rfl,rfl,aJ,.cons ⟨_,rfl⟩ (.cons ⟨_,rfl⟩ (.nil))⟩⟩
   (aT ⟨DN,⟨gL,nP,lP,kP,oP,_,DO,rfl⟩,fun H => .inr ⟨_,_,_,BD,rfl,rfl,aJ,.cons ⟨_,rfl⟩ (.cons ⟨_,rfl⟩ (.nil))⟩⟩
   (aT ⟨DP,⟨gL,nP,lP,kP,oP,_,DQ,rfl⟩,fun H => .inr ⟨_,_,_,BE,rfl,rfl,aJ,.cons ⟨_,rfl⟩ (.cons ⟨_,rfl⟩ (.nil))⟩⟩
   (aT ⟨DR,⟨gL,nP,lP,kP,oP,_,DS,rfl⟩,fun H => .inr ⟨_,_,_,BF,rfl,rfl,aJ,.cons ⟨_,rfl⟩ (.cons ⟨_,rfl⟩ (.nil))⟩⟩
   (aT ⟨DT,⟨gL,nP,lP,kP,oP,_,DU,rfl⟩,fun H => .inr ⟨_,_,_,BG,rfl,rfl,ef,.cons ⟨_,rfl⟩ (.cons ⟨_,rfl⟩ (.cons ⟨_,rfl⟩ (.nil)))⟩⟩
   (aT ⟨DV,⟨gL,nP,lP,kP,oP,_,DW,rfl⟩,fun H => .inr ⟨_,_,_,BH,rfl,rfl,ef,.cons ⟨_,rfl⟩ (.cons ⟨_,rfl⟩ (.cons ⟨_,rfl⟩ (.nil)))⟩⟩
   (aT ⟨DX,⟨gL,nP,lP,kP,oP,_,DY,rfl⟩,fun H => .inr ⟨_,_,_,BI,rfl,rfl,aJ,.cons ⟨_,rfl⟩ (.cons ⟨_,rfl⟩ (.nil))⟩⟩
   (aT ⟨DZ,⟨gL,nP,lP,kP,oP,_,D0,rfl⟩,fun H => .inr ⟨_,_,_,BJ,rfl,rfl,aJ,.cons ⟨_,rfl⟩ (.cons ⟨_,rfl⟩ (.nil))⟩⟩
   (aT ⟨D1,⟨gL,nP,lP,kP,oP,_,D2,rfl⟩,fun H => .inr ⟨_,_,_,BK,rfl,rfl,aJ,.cons ⟨_,rfl⟩ (.cons ⟨_,rfl⟩ (.nil))⟩⟩
   (vS))))))))))))))))))))⟩,
  ⟨Xe,mg_of X G Xn,fun H => .inr ⟨_,_,_,Xo,rfl,rfl,CW,.cons ⟨_,rfl⟩ (.cons ⟨_,rfl⟩ (.cons ⟨_,rfl⟩ (.cons ⟨_,rfl⟩ (.cons ⟨_,rfl⟩ (.cons ⟨_,rfl⟩ (.nil))))))⟩⟩,
  ⟨o4,mg_of X G jS⟩,
  ⟨qN,mg_of X G lU⟩,
  ⟨kK,mg_of X G iz⟩,
  ⟨pH,mg_of X G aH,⟨_,lH,rfl,rfl⟩,fun H => have hd : sm K H [IE,IG,IH,II,IJ,IK,IL,IQ,IU,IV,vW,vX,vY,vZ,v9,wa,wc,wd,wg,wj,wk,wm,wo,wq,wt] heads := (.cons (.inr ⟨_,_,_,OQ,rfl,rfl,aJ,.cons ⟨_,rfl⟩ (.cons ⟨_,rfl⟩ .nil)⟩) (.cons (.inr ⟨_,_,_,OS,rfl,rfl,aJ,.cons ⟨_,rfl⟩ (.cons ⟨_,rfl⟩ .nil)⟩) (.cons (.inr ⟨_,_,_,OU,rfl,rfl,aJ,.cons ⟨_,rfl⟩ (.cons ⟨_,rfl⟩ .nil)⟩) (.cons (.inr ⟨_,_,_,OV,rfl,rfl,aJ,.cons ⟨_,rfl⟩ (.cons ⟨_,rfl⟩ .nil)⟩) (.cons (.inr ⟨_,_,_,OW,rfl,rfl,aJ,.cons ⟨_,rfl⟩ (.cons ⟨_,rfl⟩ .nil)⟩) (.cons (.inr ⟨_,_,_,OX,rfl,rfl,aJ,.cons ⟨_,rfl⟩ (.cons ⟨_,rfl⟩ .nil)⟩) (.cons (.inr ⟨_,_,_,OY,rfl,rfl,aJ,.cons ⟨_,rfl⟩ (.cons ⟨_,rfl⟩ .nil)⟩) (.cons (.inr ⟨_,_,_,OZ,rfl,rfl,aJ,.cons ⟨_,rfl⟩ (.cons ⟨_,rfl⟩ .nil)⟩) (.cons (.inr ⟨_,_,_,O0,rfl,rfl,aJ,.cons ⟨_,rfl⟩ (.cons ⟨_,rfl⟩ .nil)⟩) (.cons (.inr ⟨_,_,_,O1,rfl,rfl,aJ,.cons ⟨_,rfl⟩ (.cons ⟨_,rfl⟩ .nil)⟩) (.cons (.inr ⟨_,_,_,D3,rfl,rfl,aJ,.cons ⟨_,rfl⟩ (.cons ⟨_,rfl⟩ .nil)⟩) (.cons (.inr ⟨_,_,_,D4,rfl,rfl,aJ,.cons ⟨_,rfl⟩ (.cons ⟨_,rfl⟩ .nil)⟩) (.cons (.inr ⟨_,_,_,D5,rfl,rfl,aJ,.cons ⟨_,rfl⟩ (.cons ⟨_,rfl⟩ .nil)⟩) (.cons (.inr ⟨_,_,_,D6,rfl,rfl,aJ,.cons ⟨_,rfl⟩ (.cons ⟨_,rfl⟩ .nil)⟩) (.cons (.inr ⟨_,_,_,D7,rfl,rfl,aJ,.cons ⟨_,rfl⟩ (.cons ⟨_,rfl⟩ .nil)⟩) (.cons (.inr ⟨_,_,_,D8,rfl,rfl,aJ,.cons ⟨_,rfl⟩ (.cons ⟨_,rfl⟩ .nil)⟩) (.cons (.inr ⟨_,_,_,D9,rfl,rfl,aJ,.cons ⟨_,rfl⟩ (.cons ⟨_,rfl⟩ .nil)⟩) (.cons (.inr ⟨_,_,_,Ea,rfl,rfl,aJ,.cons ⟨_,rfl⟩ (.cons ⟨_,rfl⟩ .nil)⟩) (.cons (.inr ⟨_,_,_,Eb,rfl,rfl,aJ,.cons ⟨_,rfl⟩ (.cons ⟨_,rfl⟩ .nil)⟩) (.cons (.inr ⟨_,_,_,Ec,rfl,rfl,aJ,.cons ⟨_,rfl⟩ (.cons ⟨_,rfl⟩ .nil)⟩) (.cons (.inr ⟨_,_,_,Ed,rfl,rfl,aJ,.cons ⟨_,rfl⟩ (.cons ⟨_,rfl⟩ .nil)⟩) (.cons (.inr ⟨_,_,_,Ee,rfl,rfl,aJ,.cons ⟨_,rfl⟩ (.cons ⟨_,rfl⟩ .nil)⟩) (.cons (.inr ⟨_,_,_,Ef,rfl,rfl,aJ,.cons ⟨_,rfl⟩ (.cons ⟨_,rfl⟩ .nil)⟩) (.cons (.inr ⟨_,_,_,Eg,rfl,rfl,aJ,.cons ⟨_,rfl⟩ (.cons ⟨_,rfl⟩ .nil)⟩) (.cons (.inr ⟨_,_,_,Eh,rfl,rfl,aJ,.cons ⟨_,rfl⟩ (.cons ⟨_,rfl⟩ .nil)⟩) .nil))))))))))))))))))))))))); ⟨_,.inr ⟨_,_,_,lH,rfl,rfl,z9,lT [IE,IG,IH,II,IJ,IK,IL,IQ,IU,IV,vW,vX,vY,vZ,v9,wa,wc,wd,wg,wj,wk,wm,wo,wq,wt]⟩,hd.len,hd.get⟩⟩,
  have hd : ∀ H,sm K H [IE,IG,IH,II,IJ,IK,IL,IQ,IU,IV,vW,vX,vY,vZ,v9,wa,wc,wd,wg,wj,wk,wm,wo,wq,wt] heads := fun H => (.cons (.inr ⟨_,_,_,OQ,rfl,rfl,aJ,.cons ⟨_,rfl⟩ (.cons ⟨_,rfl⟩ .nil)⟩) (.cons (.inr ⟨_,_,_,OS,rfl,rfl,aJ,.cons ⟨_,rfl⟩ (.cons ⟨_,rfl⟩ .nil)⟩) (.cons (.inr ⟨_,_,_,OU,rfl,rfl,aJ,.cons ⟨_,rfl⟩ (.cons ⟨_,rfl⟩ .nil)⟩) (.cons (.inr ⟨_,_,_,OV,rfl,rfl,aJ,.cons ⟨_,rfl⟩ (.cons ⟨_,rfl⟩ .nil)⟩) (.cons (.inr ⟨_,_,_,OW,rfl,rfl,aJ,.cons ⟨_,rfl⟩ (.cons ⟨_,rfl⟩ .nil)⟩) (.cons (.inr ⟨_,_,_,OX,rfl,rfl,aJ,.cons ⟨_,rfl⟩ (.cons ⟨_,rfl⟩ .nil)⟩) (.cons (.inr ⟨_,_,_,OY,rfl,rfl,aJ,.cons ⟨_,rfl⟩ (.cons ⟨_,rfl⟩ .nil)⟩) (.cons (.inr ⟨_,_,_,OZ,rfl,rfl,aJ,.cons ⟨_,rfl⟩ (.cons ⟨_,rfl⟩ .nil)⟩) (.cons (.inr ⟨_,_,_,O0,rfl,rfl,aJ,.cons ⟨_,rfl⟩ (.cons ⟨_,rfl⟩ .nil)⟩) (.cons (.inr ⟨_,_,_,O1,rfl,rfl,aJ,.cons ⟨_,rfl⟩ (.cons ⟨_,rfl⟩ .nil)⟩) (.cons (.inr ⟨_,_,_,D3,rfl,rfl,aJ,.cons ⟨_,rfl⟩ (.cons ⟨_,rfl⟩ .nil)⟩) (.cons (.inr ⟨_,_,_,D4,rfl,rfl,aJ,.cons ⟨_,rfl⟩ (.cons ⟨_,rfl⟩ .nil)⟩) (.cons (.inr ⟨_,_,_,D5,rfl,rfl,aJ,.cons ⟨_,rfl⟩ (.cons ⟨_,rfl⟩ .nil)⟩) (.cons (.inr ⟨_,_,_,D6,rfl,rfl,aJ,.cons ⟨_,rfl⟩ (.cons ⟨_,rfl⟩ .nil)⟩) (.cons (.inr ⟨_,_,_,D7,rfl,rfl,aJ,.cons ⟨_,rfl⟩ (.cons ⟨_,rfl⟩ .nil)⟩) (.cons (.inr ⟨_,_,_,D8,rfl,rfl,aJ,.cons ⟨_,rfl⟩ (.cons ⟨_,rfl⟩ .nil)⟩) (.cons (.inr ⟨_,_,_,D9,rfl,rfl,aJ,.cons ⟨_,rfl⟩ (.cons ⟨_,rfl⟩ .nil)⟩) (.cons (.inr ⟨_,_,_,Ea,rfl,rfl,aJ,.cons ⟨_,rfl⟩ (.cons ⟨_,rfl⟩ .nil)⟩) (.cons (.inr ⟨_,_,_,Eb,rfl,rfl,aJ,.cons ⟨_,rfl⟩ (.cons ⟨_,rfl⟩ .nil)⟩) (.cons (.inr ⟨_,_,_,Ec,rfl,rfl,aJ,.cons ⟨_,rfl⟩ (.cons ⟨_,rfl⟩ .nil)⟩) (.cons (.inr ⟨_,_,_,Ed,rfl,rfl,aJ,.cons ⟨_,rfl⟩ (.cons ⟨_,rfl⟩ .nil)⟩) (.cons (.inr ⟨_,_,_,Ee,rfl,rfl,aJ,.cons ⟨_,rfl⟩ (.cons ⟨_,rfl⟩ .nil)⟩) (.cons (.inr ⟨_,_,_,Ef,rfl,rfl,aJ,.cons ⟨_,rfl⟩ (.cons ⟨_,rfl⟩ .nil)⟩) (.cons (.inr ⟨_,_,_,Eg,rfl,rfl,aJ,.cons ⟨_,rfl⟩ (.cons ⟨_,rfl⟩ .nil)⟩) (.cons (.inr ⟨_,_,_,Eh,rfl,rfl,aJ,.cons ⟨_,rfl⟩ (.cons ⟨_,rfl⟩ .nil)⟩) .nil))))))))))))))))))))))))); ⟨pH,[IE,IG,IH,II,IJ,IK,IL,IQ,IU,IV,vW,vX,vY,vZ,v9,wa,wc,wd,wg,wj,wk,wm,wo,wq,wt],mg_of X G aH,fun H => .inr ⟨_,_,_,lH,rfl,rfl,z9,lT [IE,IG,IH,II,IJ,IK,IL,IQ,IU,IV,vW,vX,vY,vZ,v9,wa,wc,wd,wg,wj,wk,wm,wo,wq,wt]⟩,rfl,fun i q x g1 g2 H => (hd H).get i q x g1 g2⟩,
  ⟨pP,mg_of X G aP,aT ⟨Oj,⟨gL,nP,lP,kP,oP,_,Ol,rfl⟩,⟨_,Mq,rfl,rfl⟩,fun H => .inr ⟨_,_,_,Mq,rfl,rfl,z8,.nil⟩⟩
   (aT ⟨Om,⟨gL,nP,lP,kP,oP,_,Oo,rfl⟩,⟨_,Mr,rfl,rfl⟩,fun H => .inr ⟨_,_,_,Mr,rfl,rfl,z8,.nil⟩⟩
   (aT ⟨Oq,⟨gL,nP,lP,kP,oP,_,Ot,rfl⟩,⟨_,Mt,rfl,rfl⟩,fun H => .inr ⟨_,_,_,Mt,rfl,rfl,dD,.cons ⟨_,rfl⟩ (.nil)⟩⟩
   (aT ⟨Ou,⟨gL,nP,lP,kP,oP,_,Ov,rfl⟩,⟨_,Mw,rfl,rfl⟩,fun H => .inr ⟨_,_,_,Mw,rfl,rfl,aJ,.cons ⟨_,rfl⟩ (.cons ⟨_,rfl⟩ (.nil))⟩⟩
   (aT ⟨Ow,⟨gL,nP,lP,kP,oP,_,Ox,rfl⟩,⟨_,MA,rfl,rfl⟩,fun H => .inr ⟨_,_,_,MA,rfl,rfl,aJ,.cons ⟨_,rfl⟩ (.cons ⟨_,rfl⟩ (.nil))⟩⟩
   (aT ⟨Oy,⟨gL,nP,lP,kP,oP,_,Oz,rfl⟩,⟨_,MD,rfl,rfl⟩,fun H => .inr ⟨_,_,_,MD,rfl,rfl,aJ,.cons ⟨_,rfl⟩ (.cons ⟨_,rfl⟩ (.nil))⟩⟩
   (aT ⟨OB,⟨gL,nP,lP,kP,oP,_,OD,rfl⟩,⟨_,MG,rfl,rfl⟩,fun H => .inr ⟨_,_,_,MG,rfl,rfl,aJ,.cons ⟨_,rfl⟩ (.cons ⟨_,rfl⟩ (.nil))⟩⟩
   (aT ⟨OG,⟨gL,nP,lP,kP,oP,_,OI,rfl⟩,⟨_,MJ,rfl,rfl⟩,fun H => .inr ⟨_,_,_,MJ,rfl,rfl,aJ,.cons ⟨_,rfl⟩ (.cons ⟨_,rfl⟩ (.nil))⟩⟩
   (aT ⟨OJ,⟨gL,nP,lP,kP,oP,_,OL,rfl⟩,⟨_,MN,rfl,rfl⟩,fun H => .inr ⟨_,_,_,MN,rfl,rfl,aJ,.cons ⟨_,rfl⟩ (.cons ⟨_,rfl⟩ (.nil))⟩⟩
   (aT ⟨OM,⟨gL,nP,lP,kP,oP,_,OO,rfl⟩,⟨_,MQ,rfl,rfl⟩,fun H => .inr ⟨_,_,_,MQ,rfl,rfl,aJ,.cons ⟨_,rfl⟩ (.cons ⟨_,rfl⟩ (.nil))⟩⟩
   (aT ⟨DJ,⟨gL,nP,lP,kP,oP,_,DK,rfl⟩,⟨_,Bz,rfl,rfl⟩,fun H => .inr ⟨_,_,_,Bz,rfl,rfl,dD,.cons ⟨_,rfl⟩ (.nil)⟩⟩
   (aT ⟨DL,⟨gL,nP,lP,kP,oP,_,DM,rfl⟩,⟨_,BA,rfl,rfl⟩,fun H => .inr ⟨_,_,_,BA,rfl,rfl,aJ,.cons ⟨_,rfl⟩ (.cons ⟨_,rfl⟩ (.nil))⟩⟩
   (aT ⟨DN,⟨gL,nP,lP,kP,oP,_,DO,rfl⟩,⟨_,BD,rfl,rfl⟩,fun H => .inr ⟨_,_,_,BD,rfl,rfl,aJ,.cons ⟨_,rfl⟩ (.cons ⟨_,rfl⟩ (.nil))⟩⟩
   (aT ⟨DP,⟨gL,nP,lP,kP,oP,_,DQ,rfl⟩,⟨_,BE,rfl,rfl⟩,fun H => .inr ⟨_,_,_,BE,rfl,rfl,aJ,.cons ⟨_,rfl⟩ (.cons ⟨_,rfl⟩ (.nil))⟩⟩
   (aT ⟨DR,⟨gL,nP,lP,kP,oP,_,DS,rfl⟩,⟨_,BF,rfl,rfl⟩,fun H => .inr ⟨_,_,_,BF,rfl,rfl,aJ,.cons ⟨_,rfl⟩ (.cons ⟨_,rfl⟩ (.nil))⟩⟩
   (aT ⟨DT,⟨gL,nP,lP,kP,oP,_,DU,rfl⟩,⟨_,BG,rfl,rfl⟩,fun H => .inr ⟨_,_,_,BG,rfl,rfl,ef,.cons ⟨_,rfl⟩ (.cons ⟨_,rfl⟩ (.cons ⟨_,rfl⟩ (.nil)))⟩⟩
   (aT ⟨DV,⟨gL,nP,lP,kP,oP,_,DW,rfl⟩,⟨_,BH,rfl,rfl⟩,fun H => .inr ⟨_,_,_,BH,rfl,rfl,ef,.cons ⟨_,rfl⟩ (.cons ⟨_,rfl⟩ (.cons ⟨_,rfl⟩ (.nil)))⟩⟩
   (aT ⟨DX,⟨gL,nP,lP,kP,oP,_,DY,rfl⟩,⟨_,BI,rfl,rfl⟩,fun H => .inr ⟨_,_,_,BI,rfl,rfl,aJ,.cons ⟨_,rfl⟩ (.cons ⟨_,rfl⟩ (.nil))⟩⟩
   (aT ⟨DZ,⟨gL,nP,lP,kP,oP,_,D0,rfl⟩,⟨_,BJ,rfl,rfl⟩,fun H => .inr ⟨_,_,_,BJ,rfl,rfl,aJ,.cons ⟨_,rfl⟩ (.cons ⟨_,rfl⟩ (.nil))⟩⟩
   (aT ⟨D1,⟨gL,nP,lP,kP,oP,_,D2,rfl⟩,⟨_,BK,rfl,rfl⟩,fun H => .inr ⟨_,_,_,BK,rfl,rfl,aJ,.cons ⟨_,rfl⟩ (.cons ⟨_,rfl⟩ (.nil))⟩⟩
   (vS))))))))))))))))))))⟩,
  ⟨pB,mg_of X G aB,aT ⟨Zd,⟨Fk,nB,lB,kB,oB,_,Zf,rfl⟩,fun H => .inr ⟨_,_,_,Zg,rfl,rfl,aJ,.cons ⟨_,rfl⟩ (.cons ⟨_,rfl⟩ (.nil))⟩⟩
   (aT ⟨Zh,⟨Fk,nB,lB,kB,oB,_,Zj,rfl⟩,fun H => .inr ⟨_,_,_,Zk,rfl,rfl,aJ,.cons ⟨_,rfl⟩ (.cons ⟨_,rfl⟩ (.nil))⟩⟩
   (aT ⟨Zm,⟨Fk,nB,lB,kB,oB,_,Zo,rfl⟩,fun H => .inr ⟨_,_,_,Zq,rfl,rfl,aJ,.cons ⟨_,rfl⟩ (.cons ⟨_,rfl⟩ (.nil))⟩⟩
   (aT ⟨Zr,⟨Fk,nB,lB,kB,oB,_,Zu,rfl⟩,fun H => .inr ⟨_,_,_,Zv,rfl,rfl,aJ,.cons ⟨_,rfl⟩ (.cons ⟨_,rfl⟩ (.nil))⟩⟩
   (aT ⟨Zw,⟨Fk,nB,lB,kB,oB,_,Zy,rfl⟩,fun H => .inr ⟨_,_,_,Zz,rfl,rfl,aJ,.cons ⟨_,rfl⟩ (.cons ⟨_,rfl⟩ (.nil))⟩⟩
   (aT ⟨ZA,⟨Fk,nB,lB,kB,oB,_,ZD,rfl⟩,fun H => .inr ⟨_,_,_,ZE,rfl,rfl,aJ,.cons ⟨_,rfl⟩ (.cons ⟨_,rfl⟩ (.nil))⟩⟩
   (vS))))))⟩,
  ⟨jL,mg_of X G gJ⟩,
  ⟨BL,mg_of X G wu⟩,
  ⟨Xp,mg_of X G Xx,fun H => .inr ⟨_,_,_,Xy,rfl,rfl,ke,.cons ⟨_,rfl⟩ (.cons ⟨_,rfl⟩ (.cons ⟨_,rfl⟩ (.cons ⟨_,rfl⟩ (.nil))))⟩⟩,
  mg_none_of X G Bu,
  mg_none_of X G vT,
  mg_none_of X G sq,
  mg_none_of X G Bv,
  mg_none_of X G vU,
  mg_none_of X G ix,
  mg_none_of X G i5,
  mg_none_of X G su,
  mg_none_of X G Bw,
  mg_none_of X G Bx,
  mg_none_of X G By,
  mg_none_of X G vV⟩
 refine ⟨fnOf "law" "law" (aV oF) (aS oF) (aq oF) .none Mj Mk Ml LH Ia Mp,fun s v => .of_eq rfl,fun base _ _ => ?_⟩
 have FI := bX (st := Jq) ZR ZS ZU
 have bI := FI.binds (ps := ["self", "at"]) fun _ _ _ _ _ _ us hl => match us,hl with | [_,_],_ => rfl
 have CX : fz K aM cy gI := ⟨⟨_,_,_,_,_,_,_,_,_,_,_,_,_,_,ZX⟩,ZP,ZQ,⟨xq⟩,ZY,Z0,Z1,Z2,Z3,⟨Z4,Z5,Z6,Z7,Z8,Z9,xbx,by rw [xci]; rfl⟩,xsg,xrr,xfi⟩
 have YX : Ys K mg aM cy cX cC cY cZ df gI := ⟨mg_of X G o5,mg_of X G lV,mg_of X G sv,mg_of X G lW,mg_of X G sA,mg_of X G sC,mg_of X G sD,mg_none_of X G iy,CX,Fm,IW,IZ,IY,xval⟩
 have mRE := YX.qG
 have tU := YX.ui
 have GI := LG (P := l.prog) (w := w) (base := base) FI CX mRE
 have pG := vB (P := l.prog) (w := w) (base := base) F1 T
 have jT := GQ (P := l.prog) (w := w) (base := base) F5 T
 have o6 := C1 (P := l.prog) (w := w) (base := base) F6 T jT F5.kp b5 m5
 have sE := yQ (P := l.prog) (w := w) (base := base) F7 T o6 F6.kp b6 m6
 have ng := C2 (P := l.prog) (w := w) (base := base) F17 T
 have i6 := yR (P := l.prog) (w := w) (base := base) F18 T
 have ni := Ha (P := l.prog) (w := w) (base := base) F20 T
 have uz := Hb (P := l.prog) (w := w) (base := base) F19 T ni F20.kp b20 m20
 have sF := C3 (P := l.prog) (w := w) (base := base) F21 T
 have uD := Hf (P := l.prog) (w := w) (base := base) F23 T
 have nr := C6 (P := l.prog) (w := w) (base := base) F22 T uz F19.kp b19 m19 sF F21.kp b21 m21 uD F23.kp b23 m23
 have sH := Ao (P := l.prog) (w := w) (base := base) F24 T
 have gS := Aq (P := l.prog) (w := w) (base := base) F25 T sH F24.kp b24 m24
 have pI := Ar (P := l.prog) (w := w) (base := base) F26 T gS F25.kp b25 m25
 have mz := Av (P := l.prog) (w := w) (base := base) F3 T
 have nu := Aw (P := l.prog) (w := w) (base := base) F4 T mz F3.kp b3 m3
 have gn := Hi (P := l.prog) (w := w) (base := base) F8 T mz F3.kp b3 m3 CX Fm GI bI tU
 have sI := C9 (P := l.prog) (w := w) (base := base) F9 T jT F5.kp b5 m5
 have uE := Hk (P := l.prog) (w := w) (base := base) F10 T gn F8.kp b8 m8 CX Fm GI bI tU
 have sJ := Hl (P := l.prog) (w := w) (base := base) F11 T gn F8.kp b8 m8 nu F4.kp b4 m4 CX Fm GI bI tU
 have wx := Hm (P := l.prog) (w := w) (base := base) F12 T sJ F11.kp b11 m11
 have wy := Hn (P := l.prog) (w := w) (base := base) F13 T gn F8.kp b8 m8
 have zm := Ho (P := l.prog) (w := w) (base := base) F14 T gn F8.kp b8 m8 sI F9.kp b9 m9 uE F10.kp b10 m10 jT F5.kp b5 m5 wy F13.kp b13 m13 wx F12.kp b12 m12 CX Fm GI bI tU
 have wz := Dh (P := l.prog) (w := w) (base := base) F0 T
 have ny := AH (P := l.prog) (w := w) (base := base) F2 T
 have iC := Ht (P := l.prog) (w := w) (base := base) F15 T zm F14.kp b14 m14 o6 F6.kp b6 m6
 have lX := Hv (P := l.prog) (w := w) (base := base) F16 T iC F15.kp b15 m15 sE F7.kp b7 m7 pG F1.kp b1 m1 wz F0.kp b0 m0 ny F2.kp b2 m2 CX Fm GI bI tU
 have gK := yX (P := l.prog) (w := w) (base := base) F28 T
 have pJ := yZ (P := l.prog) (w := w) (base := base) F31 T gK F28.kp b28 m28
 have pK := y4 (P := l.prog) (w := w) (base := base) F29 T gK F28.kp b28 m28
 have sL := A1 (P := l.prog) (w := w) (base := base) F30 T pK F29.kp b29 m29 pJ F31.kp b31 m31 gK F28.kp b28 m28
 have pL := A4 (P := l.prog) (w := w) (base := base) F32 T
 have uF := HJ (P := l.prog) (w := w) (base := base) F33 T sL F30.kp b30 m30 pL F32.kp b32 m32
 have kM := Bg (P := l.prog) (w := w) (base := base) F34 T YX lX F16.kp b16 m16
 have pM := Bi (P := l.prog) (w := w) (base := base) F37 T kM F34.kp b34 m34 uF F33.kp b33 m33
 have pN := zh (P := l.prog) (w := w) (base := base) F27 T gS F25.kp b25 m25
 have o7 := zk (P := l.prog) (w := w) (base := base) F35 T
 have o8 := zl (P := l.prog) (w := w) (base := base) F36 T i6 F18.kp b18 m18 o7 F35.kp b35 m35
 exact HX F38 T ng F17.kp b17 m17 i6 F18.kp b18 m18 nr F22.kp b22 m22 pI F26.kp b26 m26 pN F27.kp b27 m27 kM F34.kp b34 m34 pM F37.kp b37 m37 o8 F36.kp b36 m36
theorem walk {l : OpenLaw} {q : Program} {loose : List Str} {XP : (Str → Option Value) → Heap → Prop} {YP : World → Heap → Prop} {d : DefRec} {K : Params → Frag} (hn : l.most = some 63) (hdf : d.params.defaults = [])
  (hY : ∀ (w : World) (h : Heap),YP w h → (K w.params).In h)
  (F : ∀ (w : World) (mg : Str → Option Value) (fa : Addr) (h : Heap),(K w.params).In h → h.Ns mainGlobals mg → mg d.name = some (.ref fa) →
   ∃ fd : FuncData,(∀ (s : Shared) (u : Value),BindsTo s fd ⟨[u],[]⟩ [("_law_script",u)]) ∧ ∀ base : Heap,(K w.params).In base → base.Ns mainGlobals mg → aY l.prog w (K w.params) mg base cQ 11 fa fd ["_law_script"] (yg (K := K w.params))) :
  WalkO q loose XP YP l.row.toRowW d [] (fun f vs => PySem.call f vs) :=
 L2.wM (n := 63) (k := 11) (x := "_law_script") (CX := fun _ => cQ) (sp := fun w => yg (K := K w.params)) hn (by decide) hdf ⟨rfl,by decide,by decide⟩ hY F (fun _ _ a ns hl _ hS => ⟨a,ns,rfl,hS,hl,fun _ => rfl⟩) fun _ _ _ _ _ z => z
end My
open PySem PySem.W PyProof.Rows
set_option maxRecDepth 100000 in
set_option maxHeartbeats 0 in
theorem PySem.Challenge.cw_widenrows_k14_units_read_and_spoilt_holds : PySem.Challenge.rw_widenrows_k14_units_read_and_spoilt.Holds := by
 w_on; o_law; k_head; (case hw => w_witness2)
 k_fill
 refine My.walk (l := PySem.Challenge.rw_widenrows_k14_units_read_and_spoilt) rfl rfl (fun w h Y => kIn_of Y) ?F
 case F =>
  intro w mg fa h KX G hmg
  refine' My.all_mk KX G hmg ?a0 ?l0 ?c0 ?k0 ?a1 ?l1 ?c1 ?k1 ?a2 ?l2 ?c2 ?k2 ?a3 ?l3 ?c3 ?k3 ?a4 ?l4 ?c4 ?k4 ?a5 ?l5 ?c5 ?k5 ?a6 ?l6 ?c6 ?k6 ?a7 ?l7 ?c7 ?k7 ?a8 ?l8 ?c8 ?k8 ?a9 ?l9 ?c9 ?k9 ?a10 ?l10 ?VO ?k10 ?a11 ?VP ?VQ ?k11 ?a12 ?VR ?c12 ?k12 ?a13 ?VT ?VU ?k13 ?a14 ?VW ?VX ?k14 ?a15 ?VY ?VZ ?V0 ?a16 ?V1 ?c16 ?V2 ?a17 ?V3 ?V4 ?V5 ?a18 ?V6 ?V7 ?V8 ?a19 ?V9 ?Wa ?Wb ?a20 ?Wc ?Wd ?Wf ?a21 ?Wg ?c21 ?Wh ?a22 ?Wi ?Wj ?Wk ?a23 ?Wl ?Wm ?Wn ?a24 ?Wo ?Wp ?Wq ?a25 ?Wr ?Ws ?Wt ?a26 ?Wu ?Wv ?Ww ?a27 ?Wx ?Wy ?Wz ?a28 ?WB ?WC ?WD ?a29 ?WG ?WH ?WK ?a30 ?WL ?WM ?WN ?a31 ?WO ?WQ ?WR ?a32 ?WT ?WU ?WV ?a33 ?WW ?WX ?WY ?a34 ?WZ ?W0 ?W1 ?a35 ?W2 ?W3 ?W4 ?a36 ?W5 ?W6 ?W7 ?a37 ?W8 ?W9 ?Xa ?a38 ?Xb ?Xc ?Xd ?Xn ?Xo ?Xx ?Xy ?Bu ?vT ?sq ?Bv ?vU ?ix ?i5 ?su ?Bw ?Bx ?By ?vV ?iy ?aP ?lP ?kP ?oP ?Ol ?Mq ?Oo ?Mr ?Ot ?Mt ?Ov ?Mw ?Ox ?MA ?Oz ?MD ?OD ?MG ?OI ?MJ ?OL ?MN ?OO ?MQ ?DK ?Bz ?DM ?BA ?DO ?BD ?DQ ?BE ?DS ?BF ?DU ?BG ?DW ?BH ?DY ?BI ?D0 ?BJ ?D2 ?BK ?jS ?lU ?iz ?aH ?lH ?OQ ?OS ?OU ?OV ?OW ?OX ?OY ?OZ ?O0 ?O1 ?D3 ?D4 ?D5 ?D6 ?D7 ?D8 ?D9 ?Ea ?Eb ?Ec ?Ed ?Ee ?Ef ?Eg ?Eh ?aB ?lB ?kB ?oB ?Zf ?Zg ?Zj ?Zk ?Zo ?Zq ?Zu ?Zv ?Zy ?Zz ?ZD ?ZE ?gJ ?wu ?o5 ?lV ?sv ?lW ?sA ?sC ?sD ?ZP ?ZQ ?ZR ?ZS ?ZU ?ZX ?xq ?ZY ?Z0 ?Z1 ?Z2 ?Z3 ?Z4 ?Z5 ?Z6 ?Z7 ?Z8 ?Z9 ?xbx ?xci ?xsg ?xrr ?xfi ?Fm ?IW ?IY ?xval ?IZ
  (case a0 => k_is)
  (case l0 => k_is)
  (case c0 => k_is)
  (case k0 => k_is)
  (case a1 => k_is)
  (case l1 => k_is)
  (case c1 => k_is)
  (case k1 => k_is)
  (case a2 => k_is)
  (case l2 => k_is)
  (case c2 => k_is)
  (case k2 => k_is)
  (case a3 => k_is)
  (case l3 => k_is)
  (case c3 => k_is)
  (case k3 => k_is)
  (case a4 => k_is)
  (case l4 => k_is)
  (case c4 => k_is)
  (case k4 => k_is)
  (case a5 => k_is)
  (case l5 => k_is)
  (case c5 => k_is)
  (case k5 => k_is)
  (case a6 => k_is)
  (case l6 => k_is)
  (case c6 => k_is)
  (case k6 => k_is)
  (case a7 => k_is)
  (case l7 => k_is)
  (case c7 => k_is)
  (case k7 => k_is)
  (case a8 => k_is)
  (case l8 => k_is)
  (case c8 => k_is)
  (case k8 => k_is)
  (case a9 => k_is)
  (case l9 => k_is)
  (case c9 => k_is)
  (case k9 => k_is)
  (case a10 => k_is)
  (case l10 => k_is)
  (case VO => k_is)
  (case k10 => k_is)
  (case a11 => k_is)
  (case VP => k_is)
  (case VQ => k_is)
  (case k11 => k_is)
  (case a12 => k_is)
  (case VR => k_is)
  (case c12 => k_is)
  (case k12 => k_is)
  (case a13 => k_is)
  (case VT => k_is)
  (case VU => k_is)
  (case k13 => k_is)
  (case a14 => k_is)
  (case VW => k_is)
  (case VX => k_is)
  (case k14 => k_is)
  (case a15 => k_is)
  (case VY => k_is)
  (case VZ => k_is)
  (case V0 => k_is)
  (case a16 => k_is)
  (case V1 => k_is)
  (case c16 => k_is)
  (case V2 => k_is)
  (case a17 => k_is)
  (case V3 => k_is)
  (case V4 => k_is)
  (case V5 => k_is)
  (case a18 => k_is)
  (case V6 => k_is)
  (case V7 => k_is)
  (case V8 => k_is)
  (case a19 => k_is)
  (case V9 => k_is)
  (case Wa => k_is)
  (case Wb => k_is)
  (case a20 => k_is)
  (case Wc => k_is)
  (case Wd => k_is)
  (case Wf => k_is)
  (case a21 => k_is)
  (case Wg => k_is)
  (case c21 => k_is)
  (case Wh => k_is)
  (case a22 => k_is)
  (case Wi => k_is)
  (case Wj => k_is)
  (case Wk => k_is)
  (case a23 => k_is)
  (case Wl => k_is)
  (case Wm => k_is)
  (case Wn => k_is)
  (case a24 => k_is)
  (case Wo => k_is)
  (case Wp => k_is)
  (case Wq => k_is)
  (case a25 => k_is)
  (case Wr => k_is)
  (case Ws => k_is)
  (case Wt => k_is)
  (case a26 => k_is)
  (case Wu => k_is)
  (case Wv => k_is)
  (case Ww => k_is)
  (case a27 => k_is)
  (case Wx => k_is)
  (case Wy => k_is)
  (case Wz => k_is)
  (case a28 => k_is)
  (case WB => k_is)
  (case WC => k_is)
  (case WD => k_is)
  (case a29 => k_is)
  (case WG => k_is)
  (case WH => k_is)
  (case WK => k_is)
  (case a30 => k_is)
  (case WL => k_is)
  (case WM => k_is)
  (case WN => k_is)
  (case a31 => k_is)
  (case WO => k_is)
  (case WQ => k_is)
  (case WR => k_is)
  (case a32 => k_is)
  (case WT => k_is)
  (case WU => k_is)
  (case WV => k_is)
  (case a33 => k_is)
  (case WW => k_is)
  (case WX => k_is)
  (case WY => k_is)
  (case a34 => k_is)
  (case WZ => k_is)
  (case W0 => k_is)
  (case W1 => k_is)
  (case a35 => k_is)
  (case W2 => k_is)
  (case W3 => k_is)
  (case W4 => k_is)
  (case a36 => k_is)
  (case W5 => k_is)
  (case W6 => k_is)
  (case W7 => k_is)
  (case a37 => k_is)
  (case W8 => k_is)
  (case W9 => k_is)
  (case Xa => k_is)
  (case a38 => k_is)
  (case Xb => k_is)
  (case Xc => k_is)
  (case Xd => k_is)
  (case Xn => k_is)
  (case Xo => k_is)
  (case Xx => k_is)
  (case Xy => k_is)
  (case Bu => k_is)
  (case vT => k_is)
  (case sq => k_is)
  (case Bv => k_is)
  (case vU => k_is)
  (case ix => k_is)
  (case i5 => k_is)
  (case su => k_is)
  (case Bw => k_is)
  (case Bx => k_is)
  (case By => k_is)
  (case vV => k_is)
  (case iy => k_is)
  (case aP => k_is)
  (case lP => k_is)
  (case kP => k_keys)
  (case oP => first | exact rfl | decide | k_is)
  (case Ol => k_is)
  (case Mq => k_is)
  (case Oo => k_is)
  (case Mr => k_is)
  (case Ot => k_is)
  (case Mt => k_is)
  (case Ov => k_is)
  (case Mw => k_is)
  (case Ox => k_is)
  (case MA => k_is)
  (case Oz => k_is)
  (case MD => k_is)
  (case OD => k_is)
  (case MG => k_is)
  (case OI => k_is)
  (case MJ => k_is)
  (case OL => k_is)
  (case MN => k_is)
  (case OO => k_is)
  (case MQ => k_is)
  (case DK => k_is)
  (case Bz => k_is)
  (case DM => k_is)
  (case BA => k_is)
  (case DO => k_is)
  (case BD => k_is)
  (case DQ => k_is)
  (case BE => k_is)
  (case DS => k_is)
  (case BF => k_is)
  (case DU => k_is)
  (case BG => k_is)
  (case DW => k_is)
  (case BH => k_is)
  (case DY => k_is)
  (case BI => k_is)
  (case D0 => k_is)
  (case BJ => k_is)
  (case D2 => k_is)
  (case BK => k_is)
  (case jS => k_is)
  (case lU => k_is)
  (case iz => k_is)
  (case aH => k_is)
  (case lH => k_is)
  (case OQ => k_is)
  (case OS => k_is)
  (case OU => k_is)
  (case OV => k_is)
  (case OW => k_is)
  (case OX => k_is)
  (case OY => k_is)
  (case OZ => k_is)
  (case O0 => k_is)
  (case O1 => k_is)
  (case D3 => k_is)
  (case D4 => k_is)
  (case D5 => k_is)
  (case D6 => k_is)
  (case D7 => k_is)
  (case D8 => k_is)
  (case D9 => k_is)
  (case Ea => k_is)
  (case Eb => k_is)
  (case Ec => k_is)
  (case Ed => k_is)
  (case Ee => k_is)
  (case Ef => k_is)
  (case Eg => k_is)
  (case Eh => k_is)
  (case aB => k_is)
  (case lB => k_is)
  (case kB => k_keys)
  (case oB => first | exact rfl | decide | k_is)
  (case Zf => k_is)
  (case Zg => k_is)
  (case Zj => k_is)
  (case Zk => k_is)
  (case Zo => k_is)
  (case Zq => k_is)
  (case Zu => k_is)
  (case Zv => k_is)
  (case Zy => k_is)
  (case Zz => k_is)
  (case ZD => k_is)
  (case ZE => k_is)
  (case gJ => k_is)
  (case wu => k_is)
  (case o5 => k_is)
  (case lV => k_is)
  (case sv => k_is)
  (case lW => k_is)
  (case sA => k_is)
  (case sC => k_is)
  (case sD => k_is)
  (case ZP => k_is)
  (case ZQ => k_is)
  (case ZR => k_is)
  (case ZS => k_is)
  (case ZU => k_is)
  (case ZX => k_is)
  (case xq => k_exc)
  (case ZY => k_is)
  (case Z0 => k_is)
  (case Z1 => k_is)
  (case Z2 => k_is)
  (case Z3 => k_is)
  (case Z4 => k_is)
  (case Z5 => k_is)
  (case Z6 => k_is)
  (case Z7 => k_is)
  (case Z8 => k_is)
  (case Z9 => k_is)
  (case xbx => k_is)
  (case xci => k_is)
  (case xsg => k_is)
  (case xrr => k_is)
  (case xfi => k_is)
  (case Fm => k_is)
  (case IW => kts_exm)
  (case IY => kit_is)
  (case xval => kit_is)
  (case IZ => kit_is)
#print axioms PySem.Challenge.cw_widenrows_k14_units_read_and_spoilt_holds
