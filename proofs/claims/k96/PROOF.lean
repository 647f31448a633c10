import PyProof.Rows.All
import Wide.All
import OpenK.AllK
import Wide.FinOn
import Lean
import PyProof.EqAt
import PyProof.EqKinds
import PyProof.TupleCall
import PyProof.NeKinds
import PyProof.ListRange
import KE.KDictSum
import Wide.Seal
import PyProof.EnumIter
import PyProof.EnumFor
import PyProof.EnumMake
import PyProof.EnumStmt
import PyProof.ConsumeWalk
import KE.KPairComp
import PyProof.DictItemsLoops
import KE.KEqDict
import PyProof.AttrMissSeq
import PyProof.CollectWalk
import OpenK.KTop
import PyProof.TupleOps
import PyProof.ListMulRoad
import PyProof.FactsAll.tuple_2
import PyProof.StrBlock2
import PyProof.Rows.SortWalk
import KE.KFind
import PyProof.StationsW
import PyProof.Rows.OwnQ
import OpenK.KOwn
import KE.KTryMore
import PyProof.NsDelKeeps
import PyProof.ExcArgsOwn
import PyProof.ExcAttrAll.ValueError
import PyProof.InstStoreFacts
import PyProof.ExcBaseAll.ValueError
import PyProof.Rows.FStr
import OpenK.KCls
import KE.LcSums
import PyProof.Cells
import PyProof.Rows.TupAdd
import PyProof.ZipIter
import PyProof.TupleIter
import PyProof.WalksMore
import KE.KTurns
import PyProof.FactsAll.tuple_0
import PyProof.FactsAll.tuple_3
import KE.KIntText
import KE.BitLaws
import PySem.Challenge.RW_widenrows_k96_whole_no_good_layout_has_f
set_option Elab.async false
set_option linter.all false
set_option maxRecDepth 100000
namespace L2
open PySem PySem.Spec PyProof.Rows
abbrev Key:=Sum Int Str
def oV:Key→Value→Bool
 | .inl k,v=>Value.isInt k v
 | .inr x,v=>Value.isStrOf x v
def QC (w:World):Key→Int
 | .inl k=>hashInt k
 | .inr x=>hashStr w x
theorem cG:∀ {k:Key} {v:Value},oV k v=true→(∃ i t,k=Sum.inl i∧v=Value.int i t)∨(∃ x t,k=Sum.inr x∧v=Value.str x t)
 | .inl i,v,h=>by
  obtain ⟨t,e⟩:=Value.isInt_shape (k:=i) (v:=v) h
  exact .inl ⟨i,t,rfl,e⟩
 | .inr x,v,h=>by
  obtain ⟨t,e⟩:=Value.isStrOf_shape (x:=x) (v:=v) h
  exact .inr ⟨x,t,rfl,e⟩
theorem wd (i:Int) (t:Tok):oV (.inl i) (.int i t)=true:=by simp [oV,Value.isInt]
theorem wg (x:Str) (t:Tok):oV (.inr x) (.str x t)=true:=by simp [oV,Value.isStrOf]
theorem Fc (a b:Int):decide ((Sum.inl a:Key)=Sum.inl b)=(a == b):=by
 by_cases e:a=b
 ·subst e; simp
 ·have h:¬ (Sum.inl a:Key)=Sum.inl b:=fun q=>e (Sum.inl.inj q)
  rw [decide_eq_false h]
  exact (beq_eq_false_iff_ne.mpr e).symm
theorem Fd (a b:Str):decide ((Sum.inr a:Key)=Sum.inr b)=decide (a=b):=by
 by_cases e:a=b
 ·subst e; simp
 ·have h:¬ (Sum.inr a:Key)=Sum.inr b:=fun q=>e (Sum.inr.inj q)
  rw [decide_eq_false h,decide_eq_false e]
theorem Fe (a:Int) (b:Str):decide ((Sum.inl a:Key)=Sum.inr b)=false:=decide_eq_false (fun q=>nomatch q)
theorem Ff (a:Str) (b:Int):decide ((Sum.inr a:Key)=Sum.inl b)=false:=decide_eq_false (fun q=>nomatch q)
def cn (prog:Program) (w:World):PySem.KeyKind prog w Key where
 is:=oV
 hash:=QC w
 inj:=fun v a b ha hb=>by
  rcases cG ha with ⟨i,t,rfl,rfl⟩ | ⟨x,t,rfl,rfl⟩
  ·rcases cG hb with ⟨j,u,rfl,e⟩ | ⟨y,u,rfl,e⟩
   ·injection e with e1 _; rw [e1]
   ·exact nomatch e
  ·rcases cG hb with ⟨j,u,rfl,e⟩ | ⟨y,u,rfl,e⟩
   ·exact nomatch e
   ·injection e with e1 _; rw [e1]
 byValue:=fun k v h=>by
  rcases cG h with ⟨i,t,rfl,rfl⟩ | ⟨x,t,rfl,rfl⟩ <;> rfl
 pyHash:=fun hv h=>by
  rcases cG hv with ⟨i,t,rfl,rfl⟩ | ⟨x,t,rfl,rfl⟩
  ·exact wpAny_pyHash_int h
  ·exact wpAny_pyHash_str h
 eqBool:=fun hu hv h=>by
  rcases cG hu with ⟨i,t,rfl,rfl⟩ | ⟨x,t,rfl,rfl⟩
  ·rcases cG hv with ⟨j,u,rfl,rfl⟩ | ⟨y,u,rfl,rfl⟩
   ·rw [Fc] at h; exact wpAny_eqBool_int h
   ·rw [Fe] at h; exact SeqAt.EqAt.int_str i t y u _ _ _ _ h
  ·rcases cG hv with ⟨j,u,rfl,rfl⟩ | ⟨y,u,rfl,rfl⟩
   ·rw [Ff] at h; exact SeqAt.EqAt.str_int x t j u _ _ _ _ h
   ·rw [Fd] at h; exact wpAny_eqBool_str h
 «strs»:=fun k x t v h=>by
  rcases cG h with ⟨i,u,rfl,e⟩ | ⟨y,u,rfl,e⟩
  ·exact nomatch e
  ·injection e with e1 _
   subst e1
   cases v <;> rfl
theorem qZ (prog:Program) (w:World) (i:Int) (t:Tok):(cn prog w).is (.inl i) (.int i t)=true:=wd i t
theorem q0 (prog:Program) (w:World) (x:Str) (t:Tok):(cn prog w).is (.inr x) (.str x t)=true:=wg x t
inductive V where
 | non | bl (b:Bool) | int (i:Int) | str (x:Str) | xK (b:Array UInt8) | flt (b:UInt64) | ref (a:Addr) | ty (n:String)
 deriving DecidableEq
def RelV:V→Value→Prop
 | .non,u=>u=Value.none
 | .bl b,u=>u=Value.bool b
 | .int i,u=>∃ t,u=Value.int i t
 | .str x,u=>∃ t,u=Value.str x t
 | .xK b,u=>∃ t,u=Value.bytes b t
 | .flt b,u=>∃ t,u=Value.float b t
 | .ref a,u=>u=Value.ref a
 | .ty n,u=>u=Value.type n
abbrev Vals:List V→List Value→Prop:=Paired RelV
theorem Vals.length {xs:List V} {us:List Value} (r:Vals xs us):xs.length=us.length:=Paired.length r
theorem Vals.get:∀ {xs:List V} {us:List Value} {i:Nat} {x:V},Vals xs us→xs[i]? = some x→∃ u,us[i]? = some u∧RelV x u
 | _,_,_,_,.nil,e=>by simp at e
 | _,_,0,_,.cons r _,e=>by simp at e; subst e; exact ⟨_,rfl,r⟩
 | _,_,i + 1,x,.cons _ t,e=>by
  obtain ⟨u,h1,h2⟩:=Vals.get (i:=i) (x:=x) t (by simpa using e)
  exact ⟨u,by simpa using h1,h2⟩
theorem Vals.set {x:V} {u:Value} (r:RelV x u):∀ {xs:List V} {us:List Value} (i:Nat),Vals xs us→Vals (xs.set i x) (us.set i u)
 | _,_,_,.nil=>.nil
 | _,_,0,.cons _ t=>.cons r t
 | _,_,i + 1,.cons q t=>.cons q (Vals.set r i t)
theorem Vals.append:∀ {xs ys:List V} {us ws:List Value},Vals xs us→Vals ys ws→Vals (xs ++ ys) (us ++ ws)
 | _,_,_,_,.nil,s=>s
 | _,_,_,_,.cons r t,s=>.cons r (Vals.append t s)
theorem Vals.take:∀ {xs:List V} {us:List Value} (n:Nat),Vals xs us→Vals (xs.take n) (us.take n)
 | _,_,0,_=>.nil
 | _,_,_ + 1,.nil=>.nil
 | _,_,n + 1,.cons r t=>.cons r (Vals.take n t)
theorem Vals.drop:∀ {xs:List V} {us:List Value} (n:Nat),Vals xs us→Vals (xs.drop n) (us.drop n)
 | _,_,0,r=>r
 | _,_,_ + 1,.nil=>.nil
 | _,_,n + 1,.cons _ t=>Vals.drop n t
def fM:Option V→Option Value→Prop
 | some v,some u=>RelV v u
 | none,none=>True
 | _,_=>False
def KV {κ:Type}:List (κ × V)→List (κ × Value)→Prop:=Paired fun (p:κ × V) (q:κ × Value)=>p.1=q.1∧RelV p.2 q.2
def kV:Key→V
 | .inl i=>.int i
 | .inr x=>.str x
inductive HO where
 | lst (xs:List V)
 | tup (xs:List V)
 | dK (kvs:List (Key × V)) | dT (kvs:List (List Key × V))
 | set (S:Int→Bool) (n:Nat)
 | ins (C dx:Addr) (fs:List (Str × V))
 | own (x:Addr)
 | xd (fs:List (Str × V))
 | met (f x:Addr)
 | rng (lo hi:Int)
 | iL (o:Obj) (u:HO)
 | Ea (ps:Array Value)
 | ext (φ:Heap→Prop)
abbrev Hp:=Addr→Option HO
def upd (H:Hp) (a:Addr) (o:HO):Hp:=fun b=>if b=a then some o else H b
theorem ai {H:Hp} {a:Addr} {o:HO}:upd H a o a=some o:=by unfold upd; rw [if_pos rfl]
theorem aq {H:Hp} {a b:Addr} {o:HO} (h:b ≠ a):upd H a o b=H b:=by unfold upd; rw [if_neg h]
theorem cH {H:Hp} {a b:Addr} {o u:HO} (h:H a=some o) (h':H b=some u) (d:o ≠ u):a ≠ b:=by
 intro e; subst e; rw [h] at h'; exact d (Option.some.inj h')
theorem aB {H:Hp} {a b:Addr} {o:HO} (h:H a=some o) (h':H b=none):a ≠ b:=by
 intro e; subst e; rw [h] at h'; cases h'
section
variable (P:Program) (w:World)
def cE (H:Hp) (h:Heap) (a:Addr):HO→Prop
 | .lst xs=>xs.length ≤ sizeLine∧∃ (its:List Value) (n:Nat),Vals xs its∧h.get? a=some { cls:=.type "list",data:=.seq its.toArray n }
 | .tup xs=>xs.length ≤ sizeLine∧∃ its:List Value,Vals xs its∧IsTup h a its.toArray
 | .dK kvs=>kvs.length ≤ sizeLine∧(a == sysModules)=false∧∃ vs,KV kvs vs∧h.DictOf (cn P w) a vs
 | .dT kvs=>kvs.length ≤ sizeLine∧(a == sysModules)=false∧∃ xs:List (List Key × Addr × Value),
   Paired (fun (p:List Key × V) (q:List Key × Addr × Value)=>p.1=q.1∧H q.2.1=some (.tup (p.1.map kV))∧RelV p.2 q.2.2) kvs xs ∧
   ∃ o es ep,h.get? a=some o∧o.ExactDict∧o.data=.dict es ep∧es.toList=xs.map (entryOfKey (tupleKind (cn P w)))∧(xs.map (·.1)).Nodup
 | .set S n=>h.SetOf (intKind P w) a S n
 | .ins C dx fs=>H dx=some (.own a)∧fs.length ≤ 1000∧dx ≠ a∧h.get? a=some (PySem.W.instObj C dx) ∧
   ∃ mA,h.Ns1 dx mA∧(∀ f,fM (fs.lookup f) (mA f))∧PySem.Within mA (fs.map (·.1))
 | .own _=>∃ o,h.get? a=some o
 | .xd fs=>∃ mA,h.Ns1 a mA∧∀ f,fM (fs.lookup f) (mA f)
 | .rng lo hi=>∃ t u v,h.get? a=some { cls:=.type "range",data:=.fields #[.int lo t,.int hi u,.int 1 v] }
 | .iL o u=>h.get? a=some o∧cE H h a u
 | .Ea ps=>h.get? a=some { cls:=.none,data:=.fields ps }
 | .met f x=>h.get? a=some (PySem.W.methodObj (.ref f) (.ref x))
 | .ext φ=>φ h∧(∃ o,h.get? a=some o)∧∀ h1 h2:Heap,φ h1→(∀ o,h1.get? a=some o→h2.get? a=some o)→φ h2
def i9 (H:Hp) (h:Heap):Prop:=∀ a o,H a=some o→cE P w H h a o
end
section
variable {P:Program} {w:World} {H H':Hp} {h h':Heap} {a:Addr} {o:HO}
theorem cE.lt (x:cE P w H h a o):a < h.objs.size:=by
 cases o with
 | lst xs=>obtain ⟨_,_,_,_,e⟩:=x; exact Heap.lt_size e
 | tup xs=>obtain ⟨_,_,_,p⟩:=x; exact p.lt
 | dK kvs=>obtain ⟨_,_,_,_,o,_,_,e,_⟩:=x; exact Heap.lt_size e
 | dT kvs=>obtain ⟨_,_,_,_,o,_,_,e,_⟩:=x; exact Heap.lt_size e
 | set S n=>obtain ⟨o,_,_,_,e,_⟩:=x; exact Heap.lt_size e
 | ins C dx fs=>obtain ⟨_,_,_,e,_⟩:=x; exact Heap.lt_size e
 | own y=>obtain ⟨_,e⟩:=x; exact Heap.lt_size e
 | xd fs=>obtain ⟨_,⟨_,_,_,e,_⟩,_⟩:=x; exact Heap.lt_size e
 | rng lo hi=>obtain ⟨_,_,_,e⟩:=x; exact Heap.lt_size e
 | iL ob u=>obtain ⟨e,_⟩:=x; exact Heap.lt_size e
 | Ea ps=>exact Heap.lt_size (show h.get? a=some _ from x)
 | met f y=>exact Heap.lt_size (show h.get? a=some _ from x)
 | ext φ=>obtain ⟨_,⟨_,e⟩,_⟩:=x; exact Heap.lt_size e
theorem Paired.Fg {α β:Type} {F G:α→β→Prop}:∀ {l₁:List α} {l₂:List β},Paired F l₁ l₂→(∀ a b,F a b→G a b)→Paired G l₁ l₂
 | _,_,.nil,_=>.nil
 | _,_,.cons r t,f=>.cons (f _ _ r) (Paired.Fg t f)
theorem cE.stay (x:cE P w H h a o) (k:∀ b u,(b=a∨H b=some (.own a))→h.get? b=some u→h'.get? b=some u)
  (ho:∀ b,H b=some (.own a)→H' b=some (.own a)) (ht:∀ b xs,H b=some (.tup xs)→H' b=some (.tup xs)):cE P w H' h' a o:=by
 induction o with
 | lst xs=>obtain ⟨z,its,n,r,e⟩:=x; exact ⟨z,its,n,r,k _ _ (.inl rfl) e⟩
 | tup xs=>obtain ⟨z,its,r,ob,e,c⟩:=x; exact ⟨z,its,r,ob,k _ _ (.inl rfl) e,c⟩
 | dK kvs=>obtain ⟨z,y,vs,r,ob,es,ep,e,c⟩:=x; exact ⟨z,y,vs,r,ob,es,ep,k _ _ (.inl rfl) e,c⟩
 | dT kvs =>
  obtain ⟨z,y,xs,r,ob,es,ep,e,c⟩:=x
  exact ⟨z,y,xs,Paired.Fg r fun p q z=>⟨z.1,ht _ _ z.2.1,z.2.2⟩,ob,es,ep,k _ _ (.inl rfl) e,c⟩
 | set S n=>obtain ⟨ob,es,ep,t,e,c⟩:=x; exact ⟨ob,es,ep,t,k _ _ (.inl rfl) e,c⟩
 | ins C dx fs =>
  obtain ⟨d,z,ne,e,mA,⟨od,es,ep,e2,c⟩,r⟩:=x
  exact ⟨ho _ d,z,ne,k _ _ (.inl rfl) e,mA,⟨od,es,ep,k _ _ (.inr d) e2,c⟩,r⟩
 | own y=>obtain ⟨ob,e⟩:=x; exact ⟨ob,k _ _ (.inl rfl) e⟩
 | xd fs=>obtain ⟨mA,⟨od,es,ep,e,c⟩,r⟩:=x; exact ⟨mA,⟨od,es,ep,k _ _ (.inl rfl) e,c⟩,r⟩
 | rng lo hi=>obtain ⟨t,u,v,e⟩:=x; exact ⟨t,u,v,k _ _ (.inl rfl) e⟩
 | iL ob u ih=>obtain ⟨e,q⟩:=x; exact ⟨k _ _ (.inl rfl) e,ih q⟩
 | Ea ps =>
  have e:h.get? a=some { cls:=.none,data:=.fields ps }:=x
  show h'.get? a=some { cls:=.none,data:=.fields ps }
  exact k a _ (.inl rfl) e
 | met f y =>
  have e:h.get? a=some (PySem.W.methodObj (.ref f) (.ref y)):=x
  show h'.get? a=some (PySem.W.methodObj (.ref f) (.ref y))
  exact k a _ (.inl rfl) e
 | ext φ=>obtain ⟨p,⟨o,e⟩,st⟩:=x; exact ⟨st _ _ p fun o q=>k _ _ (.inl rfl) q,⟨o,k _ _ (.inl rfl) e⟩,st⟩
theorem i9.lt (x:i9 P w H h) (e:H a=some o):a < h.objs.size:=(x a o e).lt
theorem i9.fresh (x:i9 P w H h) (e:h.objs.size ≤ a):H a=none:=by
 cases q:H a with
 | none=>rfl
 | some u=>exact absurd (Nat.lt_of_lt_of_le (x.lt q) e) (Nat.lt_irrefl _)
theorem i9.kept (x:i9 P w H h) (k:∀ b u,h.get? b=some u→h'.get? b=some u):i9 P w H h':=fun a o e =>
 (x a o e).stay (fun b u _ q=>k b u q) (fun _ q=>q) fun _ _ q=>q
theorem i9.laid (x:i9 P w H h) (k:∀ b u,h.get? b=some u→h'.get? b=some u) (hp:h.objs.size ≤ a) (new:cE P w (upd H a o) h' a o):i9 P w (upd H a o) h':=fun b u e=>by
 have hn:=x.fresh hp
 by_cases hb:b=a
 ·subst hb; rw [ai] at e; cases e; exact new
 ·rw [aq hb] at e
  exact (x b u e).stay (fun c v _ q=>k c v q) (fun c q=>by rw [aq (aB q hn)]; exact q) fun c xs q=>by rw [aq (aB q hn)]; exact q
end
def Rd (H:Hp) (a:Addr) (u:HO):Prop:=H a=some u∨∃ o,H a=some (.iL o u)
theorem Rd.of {H:Hp} {a:Addr} {u:HO} (h:H a=some u):Rd H a u:=.inl h
theorem Rd.ok {P:Program} {w:World} {H:Hp} {h:Heap} {a:Addr} {u:HO} (r:Rd H a u) (x:i9 P w H h):cE P w H h a u:=by
 rcases r with r | ⟨o,r⟩
 ·exact x a u r
 ·obtain ⟨_,q⟩:=x a _ r
  exact q
def JE:Option HO→Prop
 | some (.lst _)=>True
 | some (.dK _)=>True
 | some (.dT _)=>True
 | some (.set _ _)=>True
 | some (.ins _ _ _)=>True
 | some (.ext _)=>True
 | _=>False
section
variable {P:Program} {w:World} {H:Hp} {h h':Heap} {x e:Addr} {o':HO}
theorem i9.write (ok:i9 P w H h) (mu:JE (H x)) (he:e=x∨H e=some (.own x)) (k:∀ b u,b ≠ e→h.get? b=some u→h'.get? b=some u) (heo:∃ u,h'.get? e=some u)
  (new:cE P w (upd H x o') h' x o'):i9 P w (upd H x o') h':=fun b u q=>by
 have JF:∀ c y,H c=some (.own y)→c ≠ x:=fun c y r z=>by subst z; rw [r] at mu; exact mu
 have QD:∀ c xs,H c=some (.tup xs)→c ≠ x:=fun c xs r z=>by subst z; rw [r] at mu; exact mu
 by_cases hb:b=x
 ·subst hb; rw [ai] at q; cases q; exact new
 ·rw [aq hb] at q
  by_cases hbe:b=e
  ·have q':H b=some (.own x):=by
    rcases he with z | z
    ·exact absurd (hbe.trans z) hb
    ·rw [hbe]; exact z
   rw [q] at q'; cases q'
   obtain ⟨v,hv⟩:=heo
   exact ⟨v,by rw [hbe]; exact hv⟩
  ·refine (ok b u q).stay (fun c v hc r=>k c v ?_ r) (fun c r=>by rw [aq (JF c b r)]; exact r) fun c xs r=>by rw [aq (QD c xs r)]; exact r
   rcases hc with rfl | hc
   ·exact hbe
   ·rintro rfl
    rcases he with z | z
    ·exact JF c b hc z
    ·rw [hc] at z; cases z; exact hb rfl
end
structure Un (fs ex:List Addr) (H H':Hp) (h h':Heap):Prop where
 keep:∀ b o,h.get? b=some o→H b=none→b ∉ fs→b ∉ ex→h'.get? b=some o
 slot:∀ b o,h.get? b=some o→H b=none→b ∈ fs→b ∉ ex→∃ sl,h'.get? b=some { o with slots:=sl }
 free:∀ b o,h.get? b=some o→H b=none→b ∉ ex→H' b=none
 there:∀ b o,h.get? b=some o→b ∉ ex→∃ o',h'.get? b=some o'
 tups:∀ b xs,H b=some (.tup xs)→H' b=some (.tup xs)
 jV:∀ b o u,H b=some (.iL o u)→H' b=some (.iL o u)
 ml:∀ b ps,H b=some (.Ea ps)→∃ more,H' b=some (.Ea (ps ++ more))
section
variable {fs fs' ex ex':List Addr} {H H1 H2:Hp} {h h1 h2 h':Heap} {a x e:Addr} {o:HO}
theorem Un.any (u:Un fs ex H H1 h h1) {b:Addr} {ob:Obj} (q:h.get? b=some ob) (n:H b=none) (hx:b ∉ ex):∃ sl,h1.get? b=some { ob with slots:=sl }:=by
 by_cases hb:b ∈ fs
 ·exact u.slot b ob q n hb hx
 ·exact ⟨ob.slots,u.keep b ob q n hb hx⟩
theorem Un.kept (k:∀ b u,h.get? b=some u→h'.get? b=some u):Un fs ex H H h h' :=
 ⟨fun b ob q _ _ _=>k b ob q,fun b ob q _ _ _=>⟨ob.slots,k b ob q⟩,fun _ _ _ n _=>n,fun b ob q _=>⟨ob,k b ob q⟩,fun _ _ q=>q,fun _ _ _ q=>q,fun _ ps q=>⟨#[],by rw [q]; simp⟩⟩
theorem Un.refl:Un fs ex H H h h:=Un.kept fun _ _ q=>q
theorem Un.laid (k:∀ b u,h.get? b=some u→h'.get? b=some u) (hp:h.objs.size ≤ a) (hn:H a=none):Un fs ex H (upd H a o) h h' where
 keep:=fun b u q _ _ _=>k b u q
 slot:=fun b u q _ _ _=>⟨u.slots,k b u q⟩
 free:=fun b u q n _=>by rw [aq (Nat.ne_of_lt (Nat.lt_of_lt_of_le (Heap.lt_size q) hp))]; exact n
 there:=fun b u q _=>⟨u,k b u q⟩
 tups:=fun b xs q=>by rw [aq (aB q hn)]; exact q
 jV:=fun b u xs q=>by rw [aq (aB q hn)]; exact q
 ml:=fun b ps q=>⟨#[],by rw [aq (aB q hn),q]; simp⟩
theorem Un.write (mu:JE (H x)) (he:e=x∨H e=some (.own x)) (k:∀ b u,b ≠ e→h.get? b=some u→h'.get? b=some u) (heo:∃ u,h'.get? e=some u):Un fs ex H (upd H x o) h h':=by
 have hx:∀ b,H b=none→b ≠ x:=fun b n z=>by subst z; rw [n] at mu; exact mu
 have hb:∀ b,H b=none→b ≠ e:=fun b n z=>by
  subst z
  rcases he with r | r
  ·exact hx b n r
  ·rw [n] at r; cases r
 have hm:∀ b u,H b=some u→¬ JE (some u)→b ≠ x:=fun b u q nm z=>by subst z; rw [q] at mu; exact nm mu
 refine ⟨fun b u q n _ _=>k b u (hb b n) q,fun b u q n _ _=>⟨u.slots,k b u (hb b n) q⟩,fun b u q n _=>by rw [aq (hx b n)]; exact n,fun b u q _=>?_,
  fun b xs q=>by rw [aq (hm b _ q fun z=>z)]; exact q,fun b u xs q=>by rw [aq (hm b _ q fun z=>z)]; exact q,fun b ps q=>⟨#[],by rw [aq (hm b _ q fun z=>z),q]; simp⟩⟩
 by_cases hbe:b=e
 ·subst hbe; exact heo
 ·exact ⟨u,k b u hbe q⟩
end
def PN (h:Heap) (H:Hp):List Addr:=(List.range h.objs.size).filter fun a=>(H a).isSome
def qm (h:Heap) (H:Hp):Heap:=PySem.W.hideAll h (PN h H)
theorem wj (h:Heap) (H:Hp):(qm h H).objs.size=h.objs.size:=PySem.W.hideAll_size _ _
theorem xP {h:Heap} {H:Hp} {b:Addr} {o:Obj} (e:h.get? b=some o) (n:H b=none):(qm h H).get? b=some o :=
 PySem.W.hideAll_get _ e fun hm=>by
  have q:(H b).isSome=true:=(List.mem_filter.mp hm).2
  rw [n] at q; simp at q
theorem Bs {h:Heap} {H:Hp} {b:Addr} {o:Obj} (e:(qm h H).get? b=some o):h.get? b=some o∧H b=none:=by
 have e':h.get? b=some o:=PySem.W.of_hideAll (PN h H) e
 refine ⟨e',?_⟩
 cases q:H b with
 | none=>rfl
 | some x =>
  have hm:b ∈ PN h H:=List.mem_filter.mpr ⟨List.mem_range.mpr (Heap.lt_size e'),by simp [q]⟩
  have z:(qm h H).get? b=none:=PySem.W.hideAll_none (PN h H) hm
  rw [z] at e; cases e
structure Mod (K:PySem.W.Frag) (mg:Str→Option Value) (base:Heap):Prop where
 Jg:K.In base
 glob:base.Ns mainGlobals mg
 blt:∃ mb,base.Ns builtinsNs mb∧∀ x:Str,x ≠ "__name__" → mb x=bootBuiltins x
 nolimit:base.NoLimit
structure Cx where
 prog:Program
 w:World
 K:PySem.W.Frag
 mg:Str→Option Value
 base:Heap
 A:Around
 N:List Str
 s₀:Shared
 H₀:Hp
 env:Env
 outer:List Env
 stack:List Env
 ex:List Addr
 fn:Str→Bool
 calm:Bool
 pn:List (Addr × Obj)
 xe:Value→Shared→Prop
def frs (l:List Env):List Addr:=l.filterMap (·.frame)
abbrev Cx.fs (X:Cx):List Addr:=frs X.outer
def QE (sc:Scope) (x:Str):Prop:=sc.names.lookup x=some .local∨sc.names.lookup x=some .cell∨sc.names.lookup x=some .free
def Loc (sc:Scope) (x:Str):Prop:=sc.names.lookup x=some .local∨sc.names.lookup x=some .cell
def Look (env:Env) (h:Heap) (m:Str→Option Value) (x:Str) (u:Value):Prop :=
 (env.kindOf x=some .local∧m x=some u)∨((env.kindOf x=some .cell∨env.kindOf x=some .free)∧∃ c,env.cells.lookup x=some c∧h.IsCell c (some u))
structure Cx.Ok (X:Cx):Prop where
 mod:Mod X.K X.mg X.base
 kind:X.env.scope.kind=.function
 glob:X.env.globals=mainGlobals
 blt:X.env.builtins=builtinsNs
 above:X.s₀.heap.objs.size ≤ X.env.locals
 inj:∀ x y c,X.env.cells.lookup x=some c→X.env.cells.lookup y=some c→x=y
 has:∀ x,(X.env.kindOf x=some .cell∨X.env.kindOf x=some .free)→∃ c,X.env.cells.lookup x=some c
 cab:∀ x c,X.fn x=true→X.env.cells.lookup x=some c→X.s₀.heap.objs.size ≤ c
 hd:X.calm=true→X.A.handled=none
 frames:X.A.frames=some X.stack
 stk:X.stack=X.outer∨(X.stack=X.env :: X.outer∧X.env.frame=some X.env.locals)
 QF:∀ b ∈ X.ex,b ≠ X.env.locals∧∀ x c,X.env.cells.lookup x=some c→c ≠ b
 bs:∀ b o,X.base.get? b=some o→X.s₀.heap.get? b=some o∧X.H₀ b=none
 Bt:X.base.objs.size ≤ X.s₀.heap.objs.size
 xQ:∀ b o,X.base.get? b=some o→b ∉ X.ex
 xR:∀ b ∈ X.ex,b ∉ X.fs
 jB:X.s₀.heap.FunFrames X.base X.outer
 Fh:∀ b ∈ X.fs,X.H₀ b=none
structure Inv (X:Cx) (pins:List (Addr × Obj)) (σ:List (Option V)) (H:Hp) (s:Shared):Prop where
 ok:X.Ok
 os:s.os=X.s₀.os
 bare:AllBare s.gens
 base:Un X.fs X.ex X.H₀ H X.s₀.heap s.heap
 loc:∃ m,s.heap.Ns X.env.locals m∧∀ (i:Nat) (x:Str) (v:V),X.N[i]? = some x→σ[i]? = some (some v)→QE X.env.scope x→∃ u,RelV v u∧Look X.env s.heap m x u
 cell:∀ x c,X.env.cells.lookup x=some c→∃ v,s.heap.IsCell c v
 free:H X.env.locals=none
 gR:∀ x c,X.env.cells.lookup x=some c→H c=none
 pin:∀ p ∈ X.pn ++ pins,s.heap.get? p.1=some p.2∧H p.1=none∧p.1 ≠ X.env.locals∧p.1 ∉ X.fs∧∀ v,p.2.data ≠ .cell v
 hok:i9 X.prog X.w H s.heap
 len:σ.length=X.N.length
section
variable {X:Cx} {pins:List (Addr × Obj)} {σ:List (Option V)} {H H':Hp} {s:Shared} {h':Heap}
theorem Cx.Ok.QG (ok:X.Ok) {b:Addr} {o:Obj} (e:X.base.get? b=some o):b ∉ X.fs:=fun hb=>by
 have:=(ok.jB.mem hb).1
 rw [e] at this; cases this
theorem Inv.bs (I:Inv X pins σ H s):∀ b o,X.base.get? b=some o→s.heap.get? b=some o∧H b=none:=fun b o e =>
 ⟨I.base.keep b o (I.ok.bs b o e).1 (I.ok.bs b o e).2 (I.ok.QG e) (I.ok.xQ b o e),I.base.free b o (I.ok.bs b o e).1 (I.ok.bs b o e).2 (I.ok.xQ b o e)⟩
theorem Inv.bk (I:Inv X pins σ H s):∀ b o,X.base.get? b=some o→s.heap.get? b=some o:=fun b o e=>(I.bs b o e).1
theorem Inv.mod (I:Inv X pins σ H s):Mod X.K X.mg X.base:=I.ok.mod
theorem Inv.mn (I:Inv X pins σ H s):X.K.In s.heap:=I.ok.mod.Jg.keeps I.bk
theorem Inv.lt (I:Inv X pins σ H s):X.env.locals < s.heap.objs.size:=let ⟨_,hn,_⟩:=I.loc; hn.lt
theorem Inv.sz (I:Inv X pins σ H s):X.s₀.heap.objs.size ≤ s.heap.objs.size:=Nat.le_trans I.ok.above (Nat.le_of_lt I.lt)
theorem Inv.QH (I:Inv X pins σ H s) {a:Addr} (h:s.heap.objs.size ≤ a):a ∉ X.fs:=fun hb=>by
 obtain ⟨_,o,ho,_⟩:=I.ok.jB.mem hb
 exact absurd (Nat.lt_of_lt_of_le (Heap.lt_size ho) (Nat.le_trans I.sz h)) (Nat.lt_irrefl _)
theorem Inv.Fi (I:Inv X pins σ H s):∀ x c,X.env.cells.lookup x=some c→c ≠ X.env.locals:=fun x c e z=>by
 obtain ⟨v,o,ho,hd⟩:=I.cell x c e
 obtain ⟨m,⟨o',es,ep,ho',hd',_⟩,_⟩:=I.loc
 rw [z,ho'] at ho; cases ho; rw [hd'] at hd; cases hd
theorem Inv.jB (I:Inv X pins σ H s):s.heap.FunFrames X.base X.outer:=by
 have all:∀ (l:List Env),(∀ b ∈ frs l,b ∈ X.fs)→X.s₀.heap.FunFrames X.base l→s.heap.FunFrames X.base l:=by
  intro l
  induction l with
  | nil=>intro _ _; trivial
  | cons env r ih =>
   intro hs hl
   obtain ⟨hk,⟨L,o,hf,hn,ho,hd⟩,hr⟩:=hl
   have hL:L ∈ X.fs:=hs L (by unfold frs; rw [List.filterMap_cons,hf]; exact List.mem_cons_self)
   obtain ⟨sl,e⟩:=I.base.slot L o ho (I.ok.Fh L hL) hL fun z=>I.ok.xR L z hL
   exact ⟨hk,⟨L,_,hf,hn,e,hd⟩,ih (fun b hb=>hs b (by unfold frs; rw [List.filterMap_cons,hf]; exact List.mem_cons_of_mem _ hb)) hr⟩
 exact all X.outer (fun _ hb=>hb) I.ok.jB
theorem Inv.stack (I:Inv X pins σ H s):s.heap.FunFrames X.base X.stack:=by
 rcases I.ok.stk with e | ⟨e,hf⟩
 ·rw [e]; exact I.jB
 ·rw [e]
  obtain ⟨m,hn,_⟩:=I.loc
  refine .cons (by rw [I.ok.kind]; decide) hf hn ?_ I.jB
  exact Heap.get?_none_of_le (Nat.le_trans I.ok.Bt I.ok.above)
theorem Inv.mq (I:Inv X pins σ H s):∀ b ∈ frs X.stack,b ∈ X.env.locals :: X.fs:=fun b hb=>by
 rcases I.ok.stk with e | ⟨e,hf⟩
 ·rw [e] at hb; exact List.mem_cons_of_mem _ hb
 ·rw [e] at hb
  unfold frs at hb
  rw [List.filterMap_cons,hf] at hb
  exact hb
theorem Inv.lN (I:Inv X pins σ H s):∀ b ∈ frs X.stack,H b=none:=fun b hb=>by
 rcases List.mem_cons.mp (I.mq b hb) with e | hb
 ·rw [e]; exact I.free
 ·obtain ⟨_,o,ho,_⟩:=I.ok.jB.mem hb
  exact I.base.free b o ho (I.ok.Fh b hb) fun z=>I.ok.xR b z hb
theorem Inv.step {g':Array GenState} {t':Nat} {d':Drawn} {ch:List Addr} (I:Inv X pins σ H s)
  (hch:∀ b ∈ ch,(b ∈ X.ex∨X.s₀.heap.objs.size ≤ b)∧b ≠ X.env.locals∧(∀ x c,X.env.cells.lookup x=some c→c ≠ b)∧∀ p ∈ X.pn ++ pins,p.1 ≠ b)
  (keep:∀ b o,b ≠ X.env.locals→b ∉ X.fs→b ∉ ch→s.heap.get? b=some o→H b=none→h'.get? b=some o)
  (slot:∀ b o,b ≠ X.env.locals→b ∈ X.fs→b ∉ ch→s.heap.get? b=some o→H b=none→∃ sl,h'.get? b=some { o with slots:=sl }) (free:∀ b o,b ∉ ch→s.heap.get? b=some o→H b=none→H' b=none)
  (there:∀ b o,b ∉ ch→s.heap.get? b=some o→∃ o',h'.get? b=some o')
  (tups:∀ b xs,H b=some (.tup xs)→H' b=some (.tup xs)) (jV:∀ b o u,H b=some (.iL o u)→H' b=some (.iL o u)) (ml:∀ b ps,H b=some (.Ea ps)→∃ more,H' b=some (.Ea (ps ++ more)))
  (ns:∀ m,s.heap.Ns X.env.locals m→h'.Ns X.env.locals m) (hok:i9 X.prog X.w H' h') (hg:AllBare g') :
  Inv X pins σ H' { s with heap:=h',gens:=g',drawn:=d',toks:=t' }:=by
 have neL:∀ b o,X.s₀.heap.get? b=some o→b ≠ X.env.locals:=fun b o e=>Nat.ne_of_lt (Nat.lt_of_lt_of_le (Heap.lt_size e) I.ok.above)
 have PR:∀ b o,X.s₀.heap.get? b=some o→b ∉ X.ex→b ∉ ch:=fun b o e hx hb=>by
  rcases (hch b hb).1 with z | z
  ·exact hx z
  ·exact absurd (Nat.lt_of_lt_of_le (Heap.lt_size e) z) (Nat.lt_irrefl _)
 have cellK:∀ x c,X.env.cells.lookup x=some c→∀ v,s.heap.IsCell c v→h'.IsCell c v:=fun x c e v ⟨o,ho,hd⟩=>by
  have JG:c ∉ ch:=fun z=>(hch c z).2.2.1 x c e rfl
  by_cases hc:c ∈ X.fs
  ·obtain ⟨sl,q⟩:=slot c o (I.Fi x c e) hc JG ho (I.gR x c e)
   exact ⟨_,q,hd⟩
  ·exact ⟨o,keep c o (I.Fi x c e) hc JG ho (I.gR x c e),hd⟩
 refine ⟨I.ok,I.os,hg,⟨fun b o e n hb hx=>?_,fun b o e n hb hx=>?_,fun b o e n hx=>?_,fun b o e hx=>?_,fun b xs e=>tups b xs (I.base.tups b xs e),fun b o xs e=>jV b o xs (I.base.jV b o xs e),fun b ps e=>?_⟩,?_,fun x c e=>?_,?_,fun x c e=>?_,fun p hp=>?_,hok,I.len⟩
 ·exact keep b o (neL b o e) hb (PR b o e hx) (I.base.keep b o e n hb hx) (I.base.free b o e n hx)
 ·obtain ⟨sl,e1⟩:=I.base.slot b o e n hb hx
  obtain ⟨sl',e2⟩:=slot b _ (neL b o e) hb (PR b o e hx) e1 (I.base.free b o e n hx)
  exact ⟨sl',e2⟩
 ·obtain ⟨o',e1⟩:=I.base.there b o e hx
  exact free b o' (PR b o e hx) e1 (I.base.free b o e n hx)
 ·obtain ⟨o',e1⟩:=I.base.there b o e hx
  exact there b o' (PR b o e hx) e1
 ·obtain ⟨m1,e1⟩:=I.base.ml b ps e
  obtain ⟨m2,e2⟩:=ml b _ e1
  exact ⟨m1 ++ m2,by rw [e2,Array.append_assoc]⟩
 ·obtain ⟨m,hn,hl⟩:=I.loc
  refine ⟨m,ns m hn,fun i x v e1 e2 e3=>?_⟩
  obtain ⟨u,r,l⟩:=hl i x v e1 e2 e3
  refine ⟨u,r,?_⟩
  rcases l with l | ⟨k,c,e,z⟩
  ·exact .inl l
  ·exact .inr ⟨k,c,e,cellK x c e _ z⟩
 ·obtain ⟨v,z⟩:=I.cell x c e
  exact ⟨v,cellK x c e v z⟩
 ·obtain ⟨m,⟨o,_,_,ho,_⟩,_⟩:=I.loc
  exact free _ o (fun z=>(hch _ z).2.1 rfl) ho I.free
 ·obtain ⟨v,o,ho,hd⟩:=I.cell x c e
  exact free c o (fun z=>(hch c z).2.2.1 x c e rfl) ho (I.gR x c e)
 ·obtain ⟨e,n,ne,nf,d⟩:=I.pin p hp
  have JG:p.1 ∉ ch:=fun z=>(hch p.1 z).2.2.2 p hp rfl
  exact ⟨keep p.1 p.2 ne nf JG e n,free p.1 p.2 JG e n,ne,nf,d⟩
theorem Inv.un {t':Nat} (I:Inv X pins σ H s) (u:Un X.fs [] H H' s.heap h') (hok:i9 X.prog X.w H' h'):Inv X pins σ H' { s with heap:=h',toks:=t' }:=by
 obtain ⟨m,⟨o,es,ep,ho,r⟩,_⟩:=id I.loc
 obtain ⟨sl,hL⟩:=u.any ho I.free (by simp)
 exact I.step (g':=s.gens) (d':=s.drawn) (ch:=[]) (fun _ z=>nomatch z) (fun b o _ hb _ e n=>u.keep b o e n hb (by simp)) (fun b o _ hb _ e n=>u.slot b o e n hb (by simp)) (fun b o _ e n=>u.free b o e n (by simp)) (fun b o _ e=>u.there b o e (by simp)) u.tups u.jV u.ml (fun m' hm=>by
  obtain ⟨o',es',ep',ho',r'⟩:=hm
  rw [ho] at ho'; cases ho'
  exact ⟨_,es',ep',hL,r'⟩) hok I.bare
theorem Inv.call {g':Array GenState} {t':Nat} {d':Drawn} {ch:List Addr} (I:Inv X pins σ H s) (u:Un (frs X.stack) ch H H' s.heap h') (hok:i9 X.prog X.w H' h') (hg:AllBare g')
  (hch:∀ b ∈ ch,(b ∈ X.ex∨X.s₀.heap.objs.size ≤ b)∧b ≠ X.env.locals∧(∀ x c,X.env.cells.lookup x=some c→c ≠ b)∧∀ p ∈ X.pn ++ pins,p.1 ≠ b) :
  Inv X pins σ H' { s with heap:=h',gens:=g',drawn:=d',toks:=t' }:=by
 obtain ⟨m,⟨o,es,ep,ho,r⟩,_⟩:=id I.loc
 obtain ⟨sl,hL⟩:=u.any ho I.free fun z=>(hch _ z).2.1 rfl
 exact I.step (ch:=ch) hch (fun b o hL hb hc e n=>u.keep b o e n (fun z=>(List.mem_cons.mp (I.mq b z)).elim hL hb) hc) (fun b o _ _ hc e n=>u.any e n hc) (fun b o hc e n=>u.free b o e n hc) (fun b o hc e=>u.there b o e hc) u.tups u.jV u.ml (fun m' hm=>by
  obtain ⟨o',es',ep',ho',r'⟩:=hm
  rw [ho] at ho'; cases ho'
  exact ⟨_,es',ep',hL,r'⟩) hok hg
theorem Inv.turned {t':Nat} {it:Addr} (I:Inv X pins σ H s) (k:∀ b o,b ≠ it→s.heap.get? b=some o→h'.get? b=some o) (hn:H it=none) (hL:it ≠ X.env.locals)
  (h1:it ∈ X.ex∨X.s₀.heap.objs.size ≤ it) (h2:∀ x c,X.env.cells.lookup x=some c→c ≠ it) (h3:∀ p ∈ X.pn ++ pins,p.1 ≠ it):Inv X pins σ H { s with heap:=h',toks:=t' }:=by
 have Eb:∀ b u,H b=some u→b ≠ it:=fun b u e z=>by rw [z,hn] at e; cases e
 refine I.step (g':=s.gens) (d':=s.drawn) (ch:=[it]) (fun b hb=>?_) (fun b o _ _ hc e _=>k b o (fun z=>hc (by simp [z])) e) (fun b o _ _ hc e _=>⟨o.slots,k b o (fun z=>hc (by simp [z])) e⟩) (fun _ _ _ _ n=>n)
  (fun b o hc e=>⟨o,k b o (fun z=>hc (by simp [z])) e⟩) (fun _ _ e=>e) (fun _ _ _ e=>e) (fun b ps e=>⟨#[],by rw [e]; simp⟩) (fun m hm=>?_) (fun b u e=>?_) I.bare
 ·have e:b=it:=by simpa using hb
  subst e
  exact ⟨h1,hL,h2,h3⟩
 ·obtain ⟨o,es,ep,ho,r⟩:=hm
  exact ⟨o,es,ep,k _ o (Ne.symm hL) ho,r⟩
 ·refine (I.hok b u e).stay (fun c v hc q=>k c v ?_ q) (fun _ q=>q) fun _ _ q=>q
  rcases hc with z | z
  ·rw [z]; exact Eb b u e
  ·exact Eb c _ z
theorem Inv.tok (I:Inv X pins σ H s) (t:Nat):Inv X pins σ H { s with toks:=t }:=I.un (h':=s.heap) (t':=t) Un.refl I.hok
theorem Inv.kept {t':Nat} (I:Inv X pins σ H s) (k:∀ b u,s.heap.get? b=some u→h'.get? b=some u):Inv X pins σ H { s with heap:=h',toks:=t' }:=I.un (Un.kept k) (I.hok.kept k)
theorem Inv.laid {a:Addr} {o:HO} {t':Nat} (I:Inv X pins σ H s) (k:∀ b u,s.heap.get? b=some u→h'.get? b=some u) (hp:s.heap.objs.size ≤ a) (new:cE X.prog X.w (upd H a o) h' a o) :
  Inv X pins σ (upd H a o) { s with heap:=h',toks:=t' }:=I.un (Un.laid k hp (I.hok.fresh hp)) (I.hok.laid k hp new)
theorem Inv.write {x e:Addr} {o:HO} {t':Nat} (I:Inv X pins σ H s) (mu:JE (H x)) (he:e=x∨H e=some (.own x)) (k:∀ b u,b ≠ e→s.heap.get? b=some u→h'.get? b=some u) (heo:∃ u,h'.get? e=some u)
  (new:cE X.prog X.w (upd H x o) h' x o):Inv X pins σ (upd H x o) { s with heap:=h',toks:=t' }:=I.un (Un.write mu he k heo) (I.hok.write mu he k heo new)
theorem Inv.uH {Ec:List (Addr × Obj)} (I:Inv X pins σ H s) (h:∀ p ∈ Ec,s.heap.get? p.1=some p.2∧H p.1=none∧p.1 ≠ X.env.locals∧p.1 ∉ X.fs∧∀ v,p.2.data ≠ .cell v):Inv X Ec σ H s :=
 ⟨I.ok,I.os,I.bare,I.base,I.loc,I.cell,I.free,I.gR,fun p hp=>(List.mem_append.mp hp).elim (fun z=>I.pin p (List.mem_append_left _ z)) (h p),I.hok,I.len⟩
theorem rc {N:List Str} (hN:N.Nodup) {i j:Nat} {x:Str} (a:N[i]? = some x) (b:N[j]? = some x):i=j:=by
 obtain ⟨h1,e1⟩:=List.getElem?_eq_some_iff.mp a
 obtain ⟨h2,e2⟩:=List.getElem?_eq_some_iff.mp b
 exact (List.getElem_inj hN).mp (e1.trans e2.symm)
theorem oW {M:Model} {A:Around} {E:Value→Shared→Prop} {i:Nat} {x:Str} {v:V} {u:Value} {Q:Unit→Shared→Prop} (I:Inv X pins σ H s) (hN:X.N.Nodup) (hi:X.N[i]? = some x) (hx:Loc X.env.scope x) (r:RelV v u)
  (h:∀ s',Inv X pins (σ.set i (some v)) H s'→(∃ a,Heap.SameBut a s.heap s'.heap∧(a=X.env.locals∨X.env.cells.lookup x=some a))→Q () s') (hf:X.fn x=true∨X.env.scope.names.lookup x=some .local:=by first | exact .inl rfl | exact .inr rfl | assumption):wpAny M A (storeName X.env x u) Q E s:=by
 obtain ⟨m,hn,hl⟩:=id I.loc
 have hcls:(X.env.scope.kind == .class || (X.env.scope.kind == .module && X.env.locals != X.env.globals))=false:=by rw [I.ok.kind]; rfl
 have hiσ:i < σ.length:=by rw [I.len]; exact (List.getElem?_eq_some_iff.mp hi).1
 have Fi:=I.Fi
 have tracked:∀ {a:Addr} {h':Heap},(∃ o,s.heap.get? a=some o∧H a=none)→Heap.SameBut a s.heap h'→i9 X.prog X.w H h':=fun {a h'} ha hs b ob e=>by
  obtain ⟨_,_,hfree⟩:=ha
  refine (I.hok b ob e).stay (fun c w' hc q=>(hs.2 c ?_).trans q) (fun _ q=>q) fun _ _ q=>q
  rintro rfl
  rcases hc with rfl | hc
  ·rw [hfree] at e; cases e
  ·rw [hfree] at hc; cases hc
 rcases hx with hk | hk
 ·refine wpAny_storeName_local hk hn (fun h' hn' hs=>?_) hcls
  obtain ⟨oL,_,_,hoL,_⟩:=id hn
  refine h _ ⟨I.ok,I.os,I.bare,⟨fun b o e n hb hx=>?_,fun b o e n hb hx=>?_,I.base.free,fun b o e hx=>?_,I.base.tups,I.base.jV,I.base.ml⟩,⟨_,hn',fun j y v' e1 e2 e3=>?_⟩,fun y c e=>?_,I.free,I.gR,fun p hp=>?_,tracked ⟨oL,hoL,I.free⟩ hs,by simpa using I.len⟩ ⟨_,hs,.inl rfl⟩
  ·exact (hs.2 b (Nat.ne_of_lt (Nat.lt_of_lt_of_le (Heap.lt_size e) I.ok.above))).trans (I.base.keep b o e n hb hx)
  ·obtain ⟨sl,e1⟩:=I.base.slot b o e n hb hx
   exact ⟨sl,(hs.2 b (Nat.ne_of_lt (Nat.lt_of_lt_of_le (Heap.lt_size e) I.ok.above))).trans e1⟩
  ·obtain ⟨o',e1⟩:=I.base.there b o e hx
   exact ⟨o',(hs.2 b (Nat.ne_of_lt (Nat.lt_of_lt_of_le (Heap.lt_size e) I.ok.above))).trans e1⟩
  ·by_cases hj:j=i
   ·subst hj
    rw [hi] at e1; cases e1
    rw [List.getElem?_set_self hiσ] at e2
    cases e2
    exact ⟨u,r,.inl ⟨hk,by simp⟩⟩
   ·rw [List.getElem?_set_ne (Ne.symm hj)] at e2
    obtain ⟨u',r',q⟩:=hl j y v' e1 e2 e3
    refine ⟨u',r',?_⟩
    rcases q with ⟨k,e⟩ | ⟨k,c,e,z⟩
    ·refine .inl ⟨k,?_⟩
     have:y ≠ x:=fun e=>hj (rc hN e1 (e ▸ hi))
     simp [this,e]
    ·exact .inr ⟨k,c,e,z.sameBut hs (Fi y c e)⟩
  ·obtain ⟨w',z⟩:=I.cell y c e
   exact ⟨w',z.sameBut hs (Fi y c e)⟩
  ·obtain ⟨e,n,ne,nf,d⟩:=I.pin p hp
   exact ⟨(hs.2 p.1 ne).trans e,n,ne,nf,d⟩
 ·have hfn:X.fn x=true:=by
   rcases hf with z | z
   ·exact z
   ·rw [z] at hk; cases hk
  obtain ⟨c,hc⟩:=I.ok.has x (.inl hk)
  obtain ⟨w',z⟩:=I.cell x c hc
  refine wpAny_storeName_cell I.ok.kind hk hc z (fun h' hc' hs=>?_)
  obtain ⟨oc,hoc,QI⟩:=id z
  refine h { s with heap:=h' } ⟨I.ok,I.os,I.bare,⟨fun b o e n hb hx=>?_,fun b o e n hb hx=>?_,I.base.free,fun b o e hx=>?_,I.base.tups,I.base.jV,I.base.ml⟩,⟨m,hn.sameBut hs (Ne.symm (Fi x c hc)),fun j y v' e1 e2 e3=>?_⟩,fun y c' e=>?_,I.free,I.gR,fun p hp=>?_,tracked ⟨oc,hoc,I.gR x c hc⟩ hs,by simpa using I.len⟩ ⟨c,hs,.inr hc⟩
  ·exact (hs.2 b (Nat.ne_of_lt (Nat.lt_of_lt_of_le (Heap.lt_size e) (I.ok.cab x c hfn hc)))).trans (I.base.keep b o e n hb hx)
  ·obtain ⟨sl,e1⟩:=I.base.slot b o e n hb hx
   exact ⟨sl,(hs.2 b (Nat.ne_of_lt (Nat.lt_of_lt_of_le (Heap.lt_size e) (I.ok.cab x c hfn hc)))).trans e1⟩
  ·obtain ⟨o',e1⟩:=I.base.there b o e hx
   exact ⟨o',(hs.2 b (Nat.ne_of_lt (Nat.lt_of_lt_of_le (Heap.lt_size e) (I.ok.cab x c hfn hc)))).trans e1⟩
  ·by_cases hj:j=i
   ·subst hj
    rw [hi] at e1; cases e1
    rw [List.getElem?_set_self hiσ] at e2
    cases e2
    exact ⟨u,r,.inr ⟨.inl hk,c,hc,hc'⟩⟩
   ·rw [List.getElem?_set_ne (Ne.symm hj)] at e2
    obtain ⟨u',r',q⟩:=hl j y v' e1 e2 e3
    refine ⟨u',r',?_⟩
    rcases q with q | ⟨k,c',e,z'⟩
    ·exact .inl q
    ·refine .inr ⟨k,c',e,z'.sameBut hs ?_⟩
     rintro rfl
     exact hj (rc hN e1 (I.ok.inj _ _ _ e hc ▸ hi))
  ·by_cases hcc:c'=c
   ·subst hcc; exact ⟨_,hc'⟩
   ·obtain ⟨w2,z2⟩:=I.cell y c' e
    exact ⟨w2,z2.sameBut hs hcc⟩
  ·obtain ⟨e,n,ne,nf,d⟩:=I.pin p hp
   refine ⟨(hs.2 p.1 ?_).trans e,n,ne,nf,d⟩
   intro q
   rw [q,hoc] at e
   have q':oc=p.2:=Option.some.inj e
   exact d w' (by rw [← q']; exact QI)
theorem rh {M:Model} {A:Around} {E:Value→Shared→Prop} {i:Nat} {x:Str} {v:V} {u:Value} {Q:Unit→Shared→Prop} (I:Inv X pins σ H s) (hN:X.N.Nodup) (hi:X.N[i]? = some x) (hx:Loc X.env.scope x) (r:RelV v u)
  (h:∀ s',Inv X pins (σ.set i (some v)) H s'→Q () s') (hf:X.fn x=true∨X.env.scope.names.lookup x=some .local:=by first | exact .inl rfl | exact .inr rfl | assumption):wpAny M A (storeName X.env x u) Q E s :=
 oW I hN hi hx r (fun s' I' _=>h s' I') hf
theorem Inv.call' {s':Shared} {ch:List Addr} (I:Inv X pins σ H s) (ho:s'.os=s.os) (u:Un (frs X.stack) ch H H' s.heap s'.heap) (hok:i9 X.prog X.w H' s'.heap) (hg:AllBare s'.gens)
  (hch:∀ b ∈ ch,(b ∈ X.ex∨X.s₀.heap.objs.size ≤ b)∧b ≠ X.env.locals∧(∀ x c,X.env.cells.lookup x=some c→c ≠ b)∧∀ p ∈ X.pn ++ pins,p.1 ≠ b):Inv X pins σ H' s':=by
 obtain ⟨h',g',d',t',o'⟩:=s'
 have e:o'=s.os:=ho
 subst e
 exact I.call (g':=g') (t':=t') (d':=d') u hok hg hch
end
abbrev XK:=Value→Option Addr→Hp→Prop
abbrev St:=List (Option V)
abbrev VK:=V→Hp→Prop
abbrev TE:=St→Hp→VK→Prop
abbrev TT:=St→Hp→(Bool→Hp→Prop)→Prop
abbrev TA:=St→Hp→(List V→Hp→Prop)→Prop
structure Ends where
 nx:St→Hp→Prop
 rt:VK
 bk:St→Hp→Prop:=fun _ _=>False
 ct:St→Hp→Prop:=fun _ _=>False
abbrev TS:=Ends→St→Hp→Prop
def EP (X:Cx) (pins:List (Addr × Obj)) (σ:St) (Q:VK) (u:Value) (s':Shared):Prop:=∃ v H',Inv X pins σ H' s'∧RelV v u∧Q v H'
def TP (X:Cx) (pins:List (Addr × Obj)) (σ:St) (Q:Bool→Hp→Prop) (b:Bool) (s':Shared):Prop:=∃ H',Inv X pins σ H' s'∧Q b H'
def AP (X:Cx) (pins:List (Addr × Obj)) (σ:St) (Q:List V→Hp→Prop) (us:List Value) (s':Shared):Prop:=∃ vs H',Inv X pins σ H' s'∧Vals vs us∧Q vs H'
def SP (X:Cx) (pins:List (Addr × Obj)) (D:Ends) (f:Flow) (s':Shared):Prop :=
 match f with
 | .next=>∃ σ' H',Inv X pins σ' H' s'∧D.nx σ' H'
 | .brk=>∃ σ' H',Inv X pins σ' H' s'∧D.bk σ' H'
 | .cont=>∃ σ' H',Inv X pins σ' H' s'∧D.ct σ' H'
 | .ret u=>∃ v σ' H',Inv X pins σ' H' s'∧RelV v u∧D.rt v H'
def PE (X:Cx) (e:Expr) (t:TE):Prop :=
 ∀ (pins:List (Addr × Obj)) (s:Shared) (σ:St) (H:Hp) (Q:VK),Inv X pins σ H s→t σ H Q→wpAny (model X.prog X.w) X.A (eval e X.env) (EP X pins σ Q) X.xe s
def PT (X:Cx) (e:Expr) (t:TT):Prop :=
 ∀ (pins:List (Addr × Obj)) (s:Shared) (σ:St) (H:Hp) (Q:Bool→Hp→Prop),Inv X pins σ H s→t σ H Q→wpAny (model X.prog X.w) X.A (isTrue e X.env (eval e X.env)) (TP X pins σ Q) X.xe s
def PW (X:Cx) (e:Expr) (t:TT):Prop :=
 ∀ (whole:Sem Value) (pins:List (Addr × Obj)) (s:Shared) (σ:St) (H:Hp) (Q:Bool→Hp→Prop),Inv X pins σ H s→t σ H Q→wpAny (model X.prog X.w) X.A (isTrue e X.env whole) (TP X pins σ Q) X.xe s
theorem PW.pt {X:Cx} {e:Expr} {t:TT} (h:PW X e t):PT X e t:=h _
def PA (X:Cx) (es:List Expr) (t:TA):Prop :=
 ∀ (pos:Pos) (pins:List (Addr × Obj)) (s:Shared) (σ:St) (H:Hp) (Q:List V→Hp→Prop),Inv X pins σ H s→t σ H Q→wpAny (model X.prog X.w) X.A (spliced (backTo pos (starEach es X.env))) (AP X pins σ Q) X.xe s
def PS (X:Cx) (st:Stmt) (t:TS):Prop :=
 ∀ (pins:List (Addr × Obj)) (s:Shared) (σ:St) (H:Hp) (D:Ends),Inv X pins σ H s→t D σ H→wpAny (model X.prog X.w) X.A (exec st X.env) (SP X pins D) X.xe s
def oX (X:Cx) (st:List Stmt) (t:TS):Prop :=
 ∀ (pins:List (Addr × Obj)) (s:Shared) (σ:St) (H:Hp) (D:Ends),Inv X pins σ H s→t D σ H→wpAny (model X.prog X.w) X.A (execs st X.env) (SP X pins D) X.xe s
theorem cA {α:Type} {t:Sem α} {Q Q':α→Shared→Prop} {M:Model} {A:Around} {E:Value→Shared→Prop} {s:Shared} (h:wpAny M A t Q E s) (hQ:∀ a s,Q a s→Q' a s):wpAny M A t Q' E s:=wpAny_mono h hQ fun _ _ x=>x
section
variable {X:Cx}
def JH (i:Nat):TE:=fun σ H Q=>∃ v,σ[i]? = some (some v)∧Q v H
def tC (v:V):TE:=fun _ H Q=>Q v H
theorem Fj {i:Nat} {x:Str} {pos:Pos} (hN:X.N[i]? = some x) (hv:QE X.env.scope x) (hd:(x == ("__debug__" : Str))=false:=by decide) (hcd:(x == ("__classdict__" : Str))=false:=by decide):PE X (.Name x pos) (JH i):=by
 intro pins s σ H Q I h
 obtain ⟨v,e,h⟩:=h
 obtain ⟨m,hn,hl⟩:=I.loc
 obtain ⟨u,r,l⟩:=hl i x v hN e hv
 have fin:EP X pins σ Q u s:=⟨v,H,I,r,h⟩
 rcases l with ⟨hk,hm⟩ | ⟨hk,c,hc,hcell⟩
 ·exact wpAny_Name (wpAny_loadName_local I.ok.kind hk hn hm fin) hd
 ·rcases hk with hk | hk
  ·exact wpAny_Name (wpAny_loadName_cell I.ok.kind hk hc hcell fin) hd
  ·exact wpAny_Name (wpAny_loadName_free I.ok.kind hk hc hcell fin hcd) hd
theorem ak {i j pos}:PE X (.Constant (.int i) j pos) (tC (.int i)):=fun _ _ _ H _ I h=>wpAny_Constant_int ⟨.int i,H,I.tok _,⟨_,rfl⟩,h⟩
theorem jf {b j pos}:PE X (.Constant (.bool b) j pos) (tC (.bl b)):=fun _ _ _ H _ I h=>Constant_bool ⟨.bl b,H,I,rfl,h⟩
theorem jW {j pos}:PE X (.Constant .none j pos) (tC .non):=fun _ _ _ H _ I h=>Constant_none ⟨.non,H,I,rfl,h⟩
theorem az {x j pos}:PE X (.Constant (.str x) j pos) (tC (.str x)):=fun _ _ _ H _ I h=>Calls.Constant_str ⟨.str x,H,I.tok _,⟨_,rfl⟩,h⟩
def Gl (X:Cx) (x:Str):Prop:=X.env.kindOf x=some .globalImplicit
theorem jC {E:Value→Shared→Prop} {pins:List (Addr × Obj)} {s:Shared} {σ:St} {H:Hp} {x:Str} {u:Value} {pos:Pos} {Q:Value→Shared→Prop} (I:Inv X pins σ H s) (hg:Gl X x) (hm:X.mg x=some u) (h:Q u s)
  (hd:(x == ("__debug__" : Str))=false:=by decide):wpAny (model X.prog X.w) X.A (eval (.Name x pos) X.env) Q E s :=
 Calls.Name_function_global I.ok.kind hg (Calls.loadGlobal_global (by rw [I.ok.glob]; exact I.mod.glob.keeps I.bk) hm h) hd
theorem jX {E:Value→Shared→Prop} {pins:List (Addr × Obj)} {s:Shared} {σ:St} {H:Hp} {x:Str} {u:Value} {pos:Pos} {Q:Value→Shared→Prop} (I:Inv X pins σ H s) (hg:Gl X x) (hm:X.mg x=none) (hv:bootBuiltins x=some u) (h:Q u s)
  (hn:x ≠ "__name__" := by decide) (hd:(x == ("__debug__" : Str))=false:=by decide):wpAny (model X.prog X.w) X.A (eval (.Name x pos) X.env) Q E s:=by
 obtain ⟨mb,h1,h2⟩:=I.mod.blt
 exact Calls.Name_function_global I.ok.kind hg (Calls.loadGlobal_builtin (by rw [I.ok.glob]; exact I.mod.glob.keeps I.bk) hm (by rw [I.ok.blt]; exact h1.keeps I.bk) ((h2 x hn).trans hv) h) hd
theorem dB {x:Str} {v:V} {u:Value} {pos:Pos} (hg:Gl X x) (hm:X.mg x=some u) (r:RelV v u) (hd:(x == ("__debug__" : Str))=false:=by decide):PE X (.Name x pos) (tC v) :=
 fun _ _ _ H _ I h=>jC I hg hm ⟨v,H,I,r,h⟩ hd
variable {a b:Expr} {ta tb:TE} {pos:Pos}
def PC (X:Cx) (op:CmpOp) (a b:Expr) (t:TE):Prop :=
 ∀ (pins:List (Addr × Obj)) (s:Shared) (σ:St) (H:Hp) (Q:VK),Inv X pins σ H s→t σ H Q →
  wpAny (model X.prog X.w) X.A (eval a X.env) (fun v s₁=>wpAny (model X.prog X.w) X.A (eval b X.env) (fun u s₂=>wpAny (model X.prog X.w) X.A (compareOp op v u) (EP X pins σ Q) X.xe s₂) X.xe s₁) X.xe s
def tB (t:TE):TT:=fun σ H Q=>t σ H fun x H1=>∃ c,x=.bl c∧Q c H1
theorem qo {op:CmpOp} {t:TE} (h:PC X op a b t) (h1:behindInMarks op b=false:=by first | exact nobehind _ (by decide) (by decide) | rfl):PT X (.Compare a [op] [b] pos) (tB t):=by
 intro pins s σ H Q I hw
 refine wpAny_isTrue_Compare1 (cA (h pins s σ H _ I hw) fun v s1 h1=>cA h1 fun u s2 h2=>cA h2 fun c s3 ⟨x,H1,I1,r1,q1⟩=>?_) h1
 obtain ⟨d,rfl,q⟩:=q1
 cases r1
 exact wpAny_truthy_bool ⟨H1,I1,q⟩
theorem eR {e:Expr} {t:TE} (h:PE X e t) (he:∀ whole,isTrue e X.env whole=(do let v ← whole; standAt e.pos; holding [v] (truthy v)):=by intro _; rfl):PT X e (tB t):=by
 intro pins s σ H Q I hw
 refine isTrue_plain (cA (h pins s σ H _ I hw) fun v s1 ⟨x,H1,I1,r1,q1⟩=>?_) (he _)
 obtain ⟨d,rfl,q⟩:=q1
 cases r1
 exact wpAny_truthy_bool ⟨H1,I1,q⟩
variable {tA PU:TT} {rest:List Expr}
def QJ (t u:TT):TT:=fun σ H Q=>t σ H fun c H1=>if c=true then u σ H1 Q else Q false H1
def tOr (t u:TT):TT:=fun σ H Q=>t σ H fun c H1=>if c=true then Q true H1 else u σ H1 Q
def QK (t:TT):TT:=fun σ H Q=>t σ H fun c H1=>Q (!c) H1
theorem lO (ha:PT X a tA):PW X (.BoolOp .And [a] pos) tA:=by
 intro wh pins s σ H Q I h
 refine isTrue_and (cA (ha pins s σ H Q I h) fun c s1 e=>?_)
 cases c with
 | true=>exact isTrue_and_nil e
 | false=>exact e
theorem Fk (ha:PT X a tA):PW X (.BoolOp .Or [a] pos) tA:=by
 intro wh pins s σ H Q I h
 refine isTrue_or (cA (ha pins s σ H Q I h) fun c s1 e=>?_)
 cases c with
 | false=>exact isTrue_or_nil e
 | true=>exact e
theorem jY (ha:PT X a tA) (hb:PW X (.BoolOp .And (b :: rest) pos) PU):PW X (.BoolOp .And (a :: b :: rest) pos) (QJ tA PU):=by
 intro wh pins s σ H Q I h
 refine isTrue_and (cA (ha pins s σ H _ I h) fun c s1 ⟨H1,I1,q1⟩=>?_)
 cases c with
 | true=>exact hb wh pins s1 σ H1 Q I1 q1
 | false=>exact ⟨H1,I1,q1⟩
theorem JI (ha:PT X a tA) (hb:PW X (.BoolOp .Or (b :: rest) pos) PU):PW X (.BoolOp .Or (a :: b :: rest) pos) (tOr tA PU):=by
 intro wh pins s σ H Q I h
 refine isTrue_or (cA (ha pins s σ H _ I h) fun c s1 ⟨H1,I1,q1⟩=>?_)
 cases c with
 | true=>exact ⟨H1,I1,q1⟩
 | false=>exact hb wh pins s1 σ H1 Q I1 q1
theorem qp (ha:PT X a tA):PT X (.UnaryOp .Not a pos) (QK tA):=by
 intro pins s σ H Q I h
 exact isTrue_not (ha pins s σ H (fun c H1=>Q (!c) H1) I h)
def JJ (ta tb:TE):TE:=fun σ H Q=>ta σ H fun x H1=>∃ c,x=.bl c∧if c=true then tb σ H1 Q else Q (.bl false) H1
theorem xS {op} {t:TE} (h:PE X a t):PE X (.BoolOp op [a] pos) t:=fun pins s σ H Q I hw=>BoolOp_one (h pins s σ H Q I hw)
theorem xT (ha:PE X a ta) (hb:PE X (.BoolOp .And (b :: rest) pos) tb):PE X (.BoolOp .And (a :: b :: rest) pos) (JJ ta tb):=by
 intro pins s σ H Q I h
 refine BoolOp_and (cA (ha pins s σ H _ I h) fun v s1 ⟨x,H1,I1,r1,q1⟩=>?_)
 obtain ⟨c,rfl,q1⟩:=q1
 cases r1
 refine wpAny_truthy_bool ?_
 cases c with
 | true=>exact hb pins s1 σ H1 Q I1 q1
 | false=>exact ⟨.bl false,H1,I1,rfl,q1⟩
def tIf (t:TT) (ta tb:TE):TE:=fun σ H Q=>t σ H fun c H1=>if c=true then ta σ H1 Q else tb σ H1 Q
theorem eF {c:Expr} (hc:PT X c tA) (ha:PE X a ta) (hb:PE X b tb):PE X (.IfExp c a b pos) (tIf tA ta tb):=by
 intro pins s σ H Q I h
 refine wpAny_IfExp (cA (hc pins s σ H _ I h) fun d s1 ⟨H1,I1,q1⟩=>?_)
 cases d with
 | true=>exact ha pins s1 σ H1 Q I1 q1
 | false=>exact hb pins s1 σ H1 Q I1 q1
end
def bh (K:PySem.W.Frag) (H:Hp) (a:Addr) (xs:List V):Prop :=
 Rd H a (.lst xs) ∨
  ∃ (o:Obj) (its:Array Value) (n:Nat),K.lookup a=some o∧o.cls=.type "list" ∧ o.dict=none∧o.data=.seq its n∧its.size ≤ sizeLine∧Vals xs its.toList
def bq (K:PySem.W.Frag) (H:Hp) (a:Addr) (xs:List V):Prop :=
 Rd H a (.tup xs) ∨
  ∃ (o:Obj) (its:Array Value) (n:Nat),K.lookup a=some o∧o.cls=.type "tuple" ∧ o.data=.seq its n∧its.size ≤ sizeLine∧Vals xs its.toList
def QL:Value→Option V
 | .none=>some .non
 | .bool b=>some (.bl b)
 | .int i _=>some (.int i)
 | .str x _=>some (.str x)
 | .bytes b _=>some (.xK b)
 | .float b _=>some (.flt b)
 | .ref a=>some (.ref a)
 | .type n=>some (.ty n)
 | _=>none
theorem RelV.abs {x:V} {u:Value} (r:RelV x u):QL u=some x:=by
 cases x with
 | non=>cases r; rfl
 | bl _=>cases r; rfl
 | int _=>obtain ⟨t,rfl⟩:=r; rfl
 | str _=>obtain ⟨t,rfl⟩:=r; rfl
 | xK _=>obtain ⟨t,rfl⟩:=r; rfl
 | flt _=>obtain ⟨t,rfl⟩:=r; rfl
 | ref _=>cases r; rfl
 | ty _=>cases r; rfl
theorem RelV.inj {x y:V} {u:Value} (r:RelV x u) (q:RelV y u):x=y:=Option.some.inj (r.abs.symm.trans q.abs)
theorem Vals.inj:∀ {xs ys:List V} {us:List Value},Vals xs us→Vals ys us→xs=ys
 | _,_,_,.nil,.nil=>rfl
 | _,_,_,.cons r t,.cons r' t'=>by rw [r.inj r',Vals.inj t t']
section
variable {X:Cx} {pins:List (Addr × Obj)} {σ:St} {H:Hp} {s:Shared} {a:Addr} {xs ys:List V}
theorem bh.of {K:PySem.W.Frag} (h:H a=some (.lst xs)):bh K H a xs:=.inl (.inl h)
theorem bq.of {K:PySem.W.Frag} (h:H a=some (.tup xs)):bq K H a xs:=.inl (.inl h)
theorem Inv.list (I:Inv X pins σ H s) (h:bh X.K H a xs):∃ its:List Value,Vals xs its∧PlainL s.heap a its.toArray∧xs.length ≤ sizeLine:=by
 rcases h with h | ⟨o,its,n,hk,hc,hd,hs,hz,r⟩
 ·obtain ⟨z,its,n,r,e⟩:=h.ok I.hok
  exact ⟨its,r,⟨_,n,e,rfl,rfl,rfl⟩,z⟩
 ·refine ⟨its.toList,r,⟨o,n,I.mn a o hk,hc,hd,by simpa using hs⟩,?_⟩
  have e:=r.length
  simp only [Array.length_toList] at e
  omega
theorem Inv.tuple (I:Inv X pins σ H s) (h:bq X.K H a xs):∃ its:List Value,Vals xs its∧IsTup s.heap a its.toArray∧xs.length ≤ sizeLine:=by
 rcases h with h | ⟨o,its,n,hk,hc,hs,hz,r⟩
 ·obtain ⟨z,its,r,p⟩:=h.ok I.hok
  exact ⟨its,r,p,z⟩
 ·refine ⟨its.toList,r,⟨o,I.mn a o hk,hc,n,by simpa using hs⟩,?_⟩
  have e:=r.length
  simp only [Array.length_toList] at e
  omega
theorem Inv.mr (I:Inv X pins σ H s) (h:bh X.K H a xs) (h':bh X.K H a ys):xs=ys:=by
 obtain ⟨its,r,⟨o,n,e,_,_,d⟩,_⟩:=I.list h
 obtain ⟨its',r',⟨o',n',e',_,_,d'⟩,_⟩:=I.list h'
 rw [e] at e'; cases e'
 rw [d] at d'
 injection d' with d1 _
 have:its=its':=by simpa using congrArg Array.toList d1
 subst this
 exact r.inj r'
theorem Inv.iM (I:Inv X pins σ H s) (h:bq X.K H a xs) (h':bq X.K H a ys):xs=ys:=by
 obtain ⟨its,r,⟨o,e,_,n,d⟩,_⟩:=I.tuple h
 obtain ⟨its',r',⟨o',e',_,n',d'⟩,_⟩:=I.tuple h'
 rw [e] at e'; cases e'
 rw [d] at d'
 injection d' with d1 _
 have:its=its':=by simpa using congrArg Array.toList d1
 subst this
 exact r.inj r'
end
abbrev Cx.wish (X:Cx) (E:Value→Shared→Prop):Cx:={ X with xe:=E }
abbrev Cx.PV (X:Cx):Cx:=X.wish fun _ _=>False
theorem Cx.Ok.wish {X:Cx} (ok:X.Ok) (E:Value→Shared→Prop):(X.wish E).Ok :=
 ⟨ok.mod,ok.kind,ok.glob,ok.blt,ok.above,ok.inj,ok.has,ok.cab,ok.hd,ok.frames,ok.stk,ok.QF,ok.bs,ok.Bt,ok.xQ,ok.xR,ok.jB,ok.Fh⟩
theorem Cx.Ok.gX {X:Cx} {E:Value→Shared→Prop} (ok:(X.wish E).Ok):X.Ok :=
 ⟨ok.mod,ok.kind,ok.glob,ok.blt,ok.above,ok.inj,ok.has,ok.cab,ok.hd,ok.frames,ok.stk,ok.QF,ok.bs,ok.Bt,ok.xQ,ok.xR,ok.jB,ok.Fh⟩
section
variable {X:Cx} {pins:List (Addr × Obj)} {σ:St} {H:Hp} {s:Shared} {E:Value→Shared→Prop}
theorem Inv.wish (I:Inv X pins σ H s) (E:Value→Shared→Prop):Inv (X.wish E) pins σ H s:=⟨I.ok.wish E,I.os,I.bare,I.base,I.loc,I.cell,I.free,I.gR,I.pin,I.hok,I.len⟩
theorem Inv.gX (I:Inv (X.wish E) pins σ H s):Inv X pins σ H s:=⟨I.ok.gX,I.os,I.bare,I.base,I.loc,I.cell,I.free,I.gR,I.pin,I.hok,I.len⟩
theorem SP.gX {D:Ends} {f:Flow} {s':Shared} (h:SP (X.wish E) pins D f s'):SP X pins D f s':=by
 cases f with
 | next=>obtain ⟨σ',H',I,q⟩:=h; exact ⟨σ',H',I.gX,q⟩
 | brk=>obtain ⟨σ',H',I,q⟩:=h; exact ⟨σ',H',I.gX,q⟩
 | cont=>obtain ⟨σ',H',I,q⟩:=h; exact ⟨σ',H',I.gX,q⟩
 | ret u=>obtain ⟨v,σ',H',I,r,q⟩:=h; exact ⟨v,σ',H',I.gX,r,q⟩
theorem oX.PV {st:List Stmt} {t:TS} (h:oX X.PV st t):oX X st t:=fun pins s σ H D I hw =>
 wpAny_mono (h pins s σ H D (I.wish _) hw) (fun _ _ q=>q.gX) fun _ _ z=>False.elim z
end
section
variable {X:Cx} {st:Stmt} {rest:List Stmt} {t u:TS} {e:Expr} {te:TE} {pos:Pos}
def JK:TS:=fun D σ H=>D.nx σ H
def JL (t u:TS):TS:=fun D σ H=>t { D with nx:=u D } σ H
theorem aX:oX X [] JK:=fun _ _ σ H _ I h=>wpAny_execs_nil ⟨σ,H,I,h⟩
theorem aD (h1:PS X st t) (h2:oX X rest u):oX X (st :: rest) (JL t u):=by
 intro pins s σ H D I h
 refine wpAny_execs_cons (cA (h1 pins s σ H { D with nx:=u D } I h) fun f s1 q=>?_)
 cases f with
 | next =>
  obtain ⟨σ',H',I',q⟩:=q
  exact h2 pins s1 σ' H' D I' q
 | ret v=>exact q
 | brk=>exact q
 | cont=>exact q
theorem au (h1:PS X st t):oX X [st] t:=by
 intro pins s σ H D I h
 refine wpAny_execs_cons (cA (h1 pins s σ H D I h) fun f s1 q=>?_)
 cases f with
 | next=>exact wpAny_execs_nil q
 | ret v=>exact q
 | brk=>exact q
 | cont=>exact q
theorem Inv.quiet {pins:List (Addr × Obj)} {σ:St} {H:Hp} {s:Shared} (I:Inv X pins σ H s):interactive X.env=false:=by simp [interactive,I.ok.kind]
def JM (te:TE):TS:=fun D σ H=>te σ H fun _ H1=>D.nx σ H1
theorem bQ (he:PE X e te) (hs:swapsWith e none pos.line X.env=pure false:=by rfl):PS X (.Expr e pos) (JM te):=by
 intro pins s σ H D I h
 exact wpAny_Expr_any (cA (he pins s σ H _ I h) fun v s1 ⟨x,H1,I1,r1,q1⟩=>⟨σ,H1,I1,q1⟩) I.quiet hs
def QM (te:TE):TS:=fun D σ H=>te σ H D.rt
theorem aN (he:PE X e te):PS X (.Return (some e) pos) (QM te):=by
 intro pins s σ H D I h
 exact wpAny_Return_some (cA (he pins s σ H _ I h) fun v s1 ⟨x,H1,I1,r1,q1⟩=>⟨x,σ,H1,I1,r1,q1⟩)
def JN (c:TT) (t u:TS):TS:=fun D σ H=>c σ H fun b H1=>if b=true then t D σ H1 else u D σ H1
theorem cV {c:Expr} {a b:List Stmt} {tc:TT} (hc:PT X c tc) (ha:oX X a t) (hb:oX X b u):PS X (.If c a b pos) (JN tc t u):=by
 intro pins s σ H D I h
 refine wpAny_If (cA (hc pins s σ H _ I h) fun d s1 ⟨H1,I1,q1⟩=>?_)
 cases d with
 | true=>exact ha pins s1 σ H1 D I1 q1
 | false=>exact hb pins s1 σ H1 D I1 q1
def Fl:TS:=fun _ _ _=>False
theorem wk {sts:List Stmt}:oX X sts Fl:=fun _ _ _ _ _ _ h=>h.elim
end
abbrev TG:=V→St→Hp→(St→Hp→Prop)→Prop
abbrev Fm:=List V→St→Hp→(St→Hp→Prop)→Prop
def PG (X:Cx) (target:Expr) (t:TG):Prop :=
 ∀ (pins:List (Addr × Obj)) (s:Shared) (σ:St) (H:Hp) (v:V) (u:Value) (Q:St→Hp→Prop),Inv X pins σ H s→RelV v u→t v σ H Q →
  wpAny (model X.prog X.w) X.A (assign target X.env u) (fun _ s'=>∃ σ' H',Inv X pins σ' H' s'∧Q σ' H') X.xe s
def PX (X:Cx) (ts:List Expr) (t:Fm):Prop :=
 ∀ (pins:List (Addr × Obj)) (s:Shared) (σ:St) (H:Hp) (vs:List V) (us:List Value) (Q:St→Hp→Prop),Inv X pins σ H s→Vals vs us→t vs σ H Q →
  wpAny (model X.prog X.w) X.A (assignInOrder ((assignEach ts X.env).map (·.2)) us) (fun _ s'=>∃ σ' H',Inv X pins σ' H' s'∧Q σ' H') X.xe s
abbrev Fn:=V→V→V→Hp→(Hp→Prop)→Prop
def JO (X:Cx) (t:Fn):Prop :=
 ∀ (pins:List (Addr × Obj)) (s:Shared) (σ:St) (H:Hp) (o i v:V) (ov iv u:Value) (Q:Hp→Prop),Inv X pins σ H s→RelV o ov→RelV i iv→RelV v u→t o i v H Q →
  wpAny (model X.prog X.w) X.A (setItem ov iv u) (fun _ s'=>∃ H',Inv X pins σ H' s'∧Q H') X.xe s
section
variable {X:Cx} {pos:Pos}
def oY (i:Nat):TG:=fun v σ H Q=>Q (σ.set i (some v)) H
theorem cu {i:Nat} {x:Str} (hN:X.N.Nodup) (hi:X.N[i]? = some x) (hx:Loc X.env.scope x) (hf:X.fn x=true∨X.env.scope.names.lookup x=some .local:=by first | exact .inl rfl | exact .inr rfl | assumption):PG X (.Name x pos) (oY i):=by
 intro pins s σ H v u Q I r h
 exact wpAny_assign_Name (rh I hN hi hx r (fun s' I'=>⟨_,H,I',h⟩) hf)
def JP:Fm:=fun vs σ H Q=>vs=[]∧Q σ H
def xU (t:TG) (u:Fm):Fm:=fun vs σ H Q=>∃ v r,vs=v :: r∧t v σ H fun σ' H'=>u r σ' H' Q
theorem Bu:PX X [] JP:=by
 intro pins s σ H vs us Q I r h
 obtain ⟨e,h⟩:=h
 subst e
 cases r
 exact assignInOrder_nil ⟨σ,H,I,h⟩
theorem rj {e:Expr} {es:List Expr} {t:TG} {u:Fm} (h1:PG X e t) (h2:PX X es u)
  (hs:(assignEach (e :: es) X.env).map (·.2)=assign e X.env :: (assignEach es X.env).map (·.2):=by rfl):PX X (e :: es) (xU t u):=by
 intro pins s σ H vs us Q I r h
 obtain ⟨v,vr,e1,h⟩:=h
 subst e1
 cases r with
 | cons r rr =>
  rw [hs]
  refine assignInOrder_cons (cA (h1 pins s σ H _ _ _ I r h) fun _ s1 ⟨σ1,H1,I1,q1⟩=>?_)
  exact h2 pins s1 σ1 H1 _ _ Q I1 rr q1
def JQ (K:PySem.W.Frag) (n:Nat) (t:Fm):TG:=fun v σ H Q=>∃ a xs,v=.ref a∧bq K H a xs∧xs.length=n∧t xs σ H Q
theorem Fo {es:List Expr} {k:Nat} {t:Fm} {n:Nat} (hc:X.calm=true) (h:PX X es t)
  (hn:(assignEach es X.env).length=n:=by rfl) (hst:(assignEach es X.env).findIdx? (·.1)=none:=by rfl):PG X (.Tuple es k pos) (JQ X.K n t):=by
 intro pins s σ H v u Q I r hw
 obtain ⟨a,xs,e1,hq,hl,hw⟩:=hw
 subst e1
 cases r
 obtain ⟨its,rv,ht,hz⟩:=I.tuple hq
 refine assign_Tuple_tuple (I.ok.hd hc) ht (by simp [hn,← hl,rv.length]) hst fun h' hx=>?_
 have I1:Inv X pins σ H { s with heap:=h' }:=I.kept (t':=s.toks) fun b o e=>hx b o (Nat.ne_of_lt (Heap.lt_size e)) e
 exact h pins _ σ H xs _ Q I1 (by simpa using rv) hw
def QN (to ti:TE) (t:Fn):TG:=fun v σ H Q=>to σ H fun o H1=>ti σ H1 fun i H2=>t o i v H2 fun H3=>Q σ H3
theorem gY {o i:Expr} {to ti:TE} {t:Fn} (ho:PE X o to) (hi:PE X i ti) (hs:JO X t)
  (ha:∀ v,assign (.Subscript o i pos) X.env v=(do
   let ov ← holding [v] (eval o X.env)
   let iv ← holding [v,ov] (eval i X.env)
   standAt pos
   holding [v,ov,iv] (setItem ov iv v)
   release [v,ov,iv] []):=by intro _; rfl):PG X (.Subscript o i pos) (QN to ti t):=by
 intro pins s σ H v u Q I r h
 rw [ha]
 refine wpAny_bind (wpAny_holding (cA (ho pins s σ H _ I h) fun ov s1 ⟨x,H1,I1,r1,q1⟩=>?_))
 refine wpAny_bind (wpAny_holding (cA (hi pins s1 σ H1 _ I1 q1) fun iv s2 ⟨y,H2,I2,r2,q2⟩=>?_))
 refine wpAny_bind (wpAny_standAt (wpAny_bind (wpAny_holding (cA (hs pins s2 σ H2 x y v ov iv u _ I2 r1 r2 r q2) fun _ s3 ⟨H3,I3,q3⟩=>?_))))
 exact wpAny_release ⟨σ,H3,I3,q3⟩
def Bv (te:TE) (g:TG):TS:=fun D σ H=>te σ H fun x H1=>g x σ H1 D.nx
theorem gZ {tg e:Expr} {te:TE} {g:TG} (he:PE X e te) (hg:PG X tg g) (hs:swapsWithSole [tg] e pos.line X.env=pure false:=by rfl) (hw:swappedStores [tg] e X.env=pure none:=by rfl)
  (h1:(assignEach [tg] X.env).map (·.2)=[assign tg X.env]:=by rfl):PS X (.Assign [tg] e pos) (Bv te g):=by
 intro pins s σ H D I h
 refine wpAny_Assign_stores (cA (he pins s σ H _ I h) fun v s1 ⟨x,H1,I1,r1,q1⟩=>?_) hs hw
 rw [h1]
 exact cA (hg pins s1 σ H1 x v _ I1 r1 q1) fun _ s2 q=>q
theorem aW {i:Nat} {x:Str} {e:Expr} {te:TE} {pos':Pos} (hN:X.N.Nodup) (hi:X.N[i]? = some x) (hx:Loc X.env.scope x) (he:PE X e te) (hs:swapsWith e (some (.Name x pos')) pos.line X.env=pure false:=by rfl) (hf:X.fn x=true∨X.env.scope.names.lookup x=some .local:=by first | exact .inl rfl | exact .inr rfl | assumption) :
  PS X (.Assign [.Name x pos'] e pos) (Bv te (oY i)):=by
 intro pins s σ H D I h
 refine wpAny_Assign_Name (cA (he pins s σ H _ I h) fun v s1 ⟨y,H1,I1,r1,q1⟩=>?_) hs
 exact rh I1 hN hi hx r1 (fun s2 I2=>⟨_,H1,I2,q1⟩) hf
end
section
variable {X:Cx} {pos:Pos}
def Fp (c:TT) (tb:TS):TS:=fun D σ H=>∃ W:Nat→St→Hp→Prop,(∃ m,W m σ H)∧∀ m σ H,W m σ H →
 c σ H fun b H1=>if b=true then ∃ N:St→Hp→Prop,(∀ σ' H',N σ' H'→∃ m',m' < m∧W m' σ' H')∧tb { D with nx:=N,ct:=N,bk:=D.nx } σ H1 else D.nx σ H1
theorem rn {c:Expr} {body:List Stmt} {tc:TT} {tb:TS} (hp:PassesOwn (model X.prog X.w) X.A X.env X.xe) (hc:PT X c tc) (hb:oX X body tb):PS X (.While c body [] pos) (Fp tc tb):=by
 intro pins s σ H D I h
 obtain ⟨W,⟨m0,w0⟩,turn⟩:=h
 refine wpAny_While (codeAny_whileLoop (fun n s'=>∃ σ' H',Inv X pins σ' H' s'∧W n σ' H') ?_ m0 ⟨σ,H,I,w0⟩)
 rintro n s1 ⟨σ1,H1,I1,w1⟩
 refine wpAny_passesOwn hp (cA (hc pins s1 σ1 H1 _ I1 (turn n σ1 H1 w1)) fun b s2 ⟨H2,I2,q2⟩=>?_)
 cases b with
 | true =>
  obtain ⟨N,hN,q2⟩:=q2
  rw [if_pos rfl]
  refine wpAny_passesOwn hp (cA (hb pins s2 σ1 H2 _ I2 q2) fun f s3 q3=>?_)
  cases f with
  | next =>
   obtain ⟨σ3,H3,I3,n3⟩:=q3
   obtain ⟨m',hm,w3⟩:=hN σ3 H3 n3
   exact ⟨m',hm,σ3,H3,I3,w3⟩
  | cont =>
   obtain ⟨σ3,H3,I3,n3⟩:=q3
   obtain ⟨m',hm,w3⟩:=hN σ3 H3 n3
   exact ⟨m',hm,σ3,H3,I3,w3⟩
  | brk=>exact q3
  | ret v=>exact q3
 | false =>
  rw [if_neg Bool.false_ne_true]
  exact wpAny_execs_nil ⟨σ1,H2,I2,q2⟩
end
structure It where
 go:Nat→Hp→Prop
 uI:Nat→Hp→V→Hp→Prop
 stop:Nat→Hp→Prop
def mw (X:Cx) (pins:List (Addr × Obj)) (H:Hp) (b:Addr):Prop :=
 H b=none∧b ≠ X.env.locals∧b ∉ X.fs∧(b ∈ X.ex∨X.s₀.heap.objs.size ≤ b)∧(∀ x c,X.env.cells.lookup x=some c→c ≠ b)∧∀ p ∈ X.pn ++ pins,p.1 ≠ b
theorem Inv.sO {X:Cx} {pins:List (Addr × Obj)} {σ:St} {H H':Hp} {s:Shared} {b:Addr} (I:Inv X pins σ H s) (hb:s.heap.objs.size ≤ b) (hn:H' b=none):mw X pins H' b:=by
 refine ⟨hn,Nat.ne_of_gt (Nat.lt_of_lt_of_le I.lt hb),I.QH hb,.inr (Nat.le_trans I.sz hb),fun x c e z=>?_,fun p hp z=>?_⟩
 ·obtain ⟨v,q⟩:=I.cell x c e
  exact absurd (Nat.lt_of_lt_of_le q.lt (by rw [z]; exact hb)) (Nat.lt_irrefl _)
 ·exact absurd (Nat.lt_of_lt_of_le (Heap.lt_size (I.pin p hp).1) (by rw [z]; exact hb)) (Nat.lt_irrefl _)
structure Turn (P:Program) (w:World) (K:PySem.W.Frag) (tg:Expr) (J:It) (fp:List Addr) (it:Addr) (tn:Nat→Heap→Prop):Prop where
 mem:it ∈ fp
 obj:∀ i h,tn i h→∀ b ∈ fp,∃ o,h.get? b=some o∧∀ v,o.data ≠ .cell v
 keep:∀ i h h',tn i h→(∀ b ∈ fp,∀ o,h.get? b=some o→h'.get? b=some o)→tn i h'
 item:∀ (X:Cx),X.prog=P→X.w=w→X.K=K→X.calm=true→∀ (i:Nat) (pins:List (Addr × Obj)) (s:Shared) (σ:St) (H:Hp) (E:Value→Shared→Prop),Inv X pins σ H s→(∀ b ∈ fp,mw X pins H b)→tn i s.heap→J.go i H →
  wpAny (model P w) X.A (pyNext (.ref it)) (fun r s1=>∃ u,r=some u ∧
   wpAny (model P w) X.A (letOwnedTupleGo tg (.ref it) u) (fun _ s2=>∃ x H',Inv X pins σ H' s2∧RelV x u∧J.uI i H x H'∧tn (i + 1) s2.heap∧∀ b ∈ fp,H' b=none) E s1) E s
 done:∀ (X:Cx),X.prog=P→X.w=w→X.K=K→X.calm=true→∀ (i:Nat) (pins:List (Addr × Obj)) (s:Shared) (σ:St) (H:Hp) (E:Value→Shared→Prop),Inv X pins σ H s→(∀ b ∈ fp,mw X pins H b)→tn i s.heap→J.stop i H →
  wpAny (model P w) X.A (pyNext (.ref it)) (fun r s1=>r=none∧Inv X pins σ H s1) E s
 self:∀ (A:Around) (i:Nat) (s:Shared) (Q:Value→Shared→Prop) (E:Value→Shared→Prop),tn i s.heap→Q (.ref it) s→wpAny (model P w) A (pyIter (.ref it)) Q E s
abbrev TI:=St→Hp→(It→Hp→Prop)→Prop
def PIE (X:Cx) (pins:List (Addr × Obj)) (σ:St) (tg:Expr) (R:It→Hp→Prop) (itv:Value) (s2:Shared):Prop :=
 ∃ (it:Addr) (fp:List Addr) (tn:Nat→Heap→Prop) (J:It) (H':Hp),itv=.ref it∧Inv X pins σ H' s2∧Turn X.prog X.w X.K tg J fp it tn∧tn 0 s2.heap∧(∀ b ∈ fp,mw X pins H' b)∧R J H'
def PI (X:Cx) (tg iter:Expr) (wi:TI):Prop :=
 ∀ (pins:List (Addr × Obj)) (s:Shared) (σ:St) (H:Hp) (R:It→Hp→Prop),Inv X pins σ H s→wi σ H R →
  wpAny (model X.prog X.w) X.A (eval iter X.env) (fun v s1=>wpAny (model X.prog X.w) X.A (pyIter v) (PIE X pins σ tg R) X.xe s1) X.xe s
theorem uJ {M:Model} {A:Around} {E:Value→Shared→Prop} {s:Shared} {tg:Expr} {it:Addr} {u:Value} {o:Obj} {n:String} {vs:Array Value} {Q:Unit→Shared→Prop} (ho:s.heap.get? it=some o) (hc:o.cls=.type n) (hd:o.data=.fields vs)
  (hn:["enumerate", "zip", "dict_itemiterator", "dict_reverseitemiterator", "odict_iterator", "itertools.zip_longest", "itertools.pairwise"].contains n=false) (hQ:Q () s):wpAny M A (letOwnedTupleGo tg (.ref it) u) Q E s:=by
 unfold letOwnedTupleGo
 cases tg <;> first
  | exact wpAny_pure hQ
  | (cases u <;> first
    | exact wpAny_pure hQ
    | (refine wpAny_bind (wpAny_load ho ?_)
       rw [hc,hd]
       show wpAny M A (if (["enumerate", "zip", "dict_itemiterator", "dict_reverseitemiterator", "odict_iterator", "itertools.zip_longest", "itertools.pairwise"].contains n && vs[0]? == some (rawInt _))=true then _ else _) Q E s
       rw [if_neg (by intro h; rw [hn,Bool.false_and] at h; cases h)]
       exact wpAny_pure hQ))
def Ed (K:PySem.W.Frag) (a:Addr):It :=
 ⟨fun i H=>∃ xs x,bh K H a xs∧xs[i]? = some x,fun i H x H'=>H'=H∧∀ xs,bh K H a xs→xs[i]? = some x,fun i H=>∃ xs,bh K H a xs∧xs.length ≤ i⟩
def JR (K:PySem.W.Frag) (a:Addr):It :=
 ⟨fun i H=>∃ xs x,bq K H a xs∧xs[i]? = some x,fun i H x H'=>H'=H∧∀ xs,bq K H a xs→xs[i]? = some x,fun i H=>∃ xs,bq K H a xs∧xs.length ≤ i⟩
def Bm (lo:Int) (n:Nat):It:=⟨fun i _=>i < n,fun i H x H'=>H'=H∧x=.int (lo + i),fun i _=>n ≤ i⟩
theorem wm {P:Program} {w:World} {K:PySem.W.Frag} {tg:Expr} (a it:Addr):Turn P w K tg (Ed K a) [it] it (fun i h=>h.IsListIter it a i) where
 mem:=by simp
 obj:=fun i h st b hb=>by
  have e:b=it:=by simpa using hb
  subst e
  obtain ⟨o,e,c,d⟩:=st
  exact ⟨o,e,fun v z=>by rw [d] at z; cases z⟩
 keep:=fun i h h' st k=>st.at fun o e=>k it (by simp) o e
 item:=by
  intro X hP hw hK hc i pins s σ H E I hf st hg
  subst hP hw hK
  obtain ⟨xs,x,hq,hx⟩:=hg
  obtain ⟨its,rv,p,hz⟩:=I.list hq
  obtain ⟨u,hu,ru⟩:=rv.get hx
  obtain ⟨f0,f1,f2,f3,f4,f5⟩:=hf it (by simp)
  refine wpAny_pyNext_list_item st p.isList (x:=u) (by simpa using hu) fun h' st' sb=>?_
  have I1:Inv X pins σ H { s with heap:=h' }:=I.turned (t':=s.toks) (fun b o hb e=>(sb.2 b hb).trans e) f0 f1 f3 f4 f5
  obtain ⟨o,e,c,d⟩:=id st'
  exact ⟨u,rfl,uJ (s:={ s with heap:=h' }) e c d (by decide) ⟨x,H,I1,ru,⟨rfl,fun ys hy=>by rw [I.mr hy hq]; exact hx⟩,st',fun b hb=>(hf b hb).1⟩⟩
 done:=by
  intro X hP hw hK hc i pins s σ H E I hf st hg
  subst hP hw hK
  obtain ⟨xs,hq,hx⟩:=hg
  obtain ⟨its,rv,p,hz⟩:=I.list hq
  obtain ⟨f0,f1,f2,f3,f4,f5⟩:=hf it (by simp)
  have hl:=rv.length
  exact wpAny_pyNext_list_end (I.ok.hd hc) st p.isList (by simp; omega) fun h' eb=>⟨rfl,I.turned (t':=s.toks) (fun b o hb e=>eb b o hb e) f0 f1 f3 f4 f5⟩
 self:=fun _ _ _ _ _ st h=>wpAny_pyIter_listiter st h
theorem sP {P:Program} {w:World} {K:PySem.W.Frag} {tg:Expr} (a it:Addr):Turn P w K tg (JR K a) [it] it (fun i h=>h.IsTupleIter it a i) where
 mem:=by simp
 obj:=fun i h st b hb=>by
  have e:b=it:=by simpa using hb
  subst e
  obtain ⟨o,e,c,d⟩:=st
  exact ⟨o,e,fun v z=>by rw [d] at z; cases z⟩
 keep:=fun i h h' st k=>st.at fun o e=>k it (by simp) o e
 item:=by
  intro X hP hw hK hc i pins s σ H E I hf st hg
  subst hP hw hK
  obtain ⟨xs,x,hq,hx⟩:=hg
  obtain ⟨its,rv,p,hz⟩:=I.tuple hq
  obtain ⟨u,hu,ru⟩:=rv.get hx
  obtain ⟨f0,f1,f2,f3,f4,f5⟩:=hf it (by simp)
  refine wpAny_pyNext_tuple_item st (show s.heap.IsTuple a its.toArray from p) (x:=u) (by simpa using hu) fun h' st' sb=>?_
  have I1:Inv X pins σ H { s with heap:=h' }:=I.turned (t':=s.toks) (fun b o hb e=>(sb.2 b hb).trans e) f0 f1 f3 f4 f5
  obtain ⟨o,e,c,d⟩:=id st'
  exact ⟨u,rfl,uJ (s:={ s with heap:=h' }) e c d (by decide) ⟨x,H,I1,ru,⟨rfl,fun ys hy=>by rw [I.iM hy hq]; exact hx⟩,st',fun b hb=>(hf b hb).1⟩⟩
 done:=by
  intro X hP hw hK hc i pins s σ H E I hf st hg
  subst hP hw hK
  obtain ⟨xs,hq,hx⟩:=hg
  obtain ⟨its,rv,p,hz⟩:=I.tuple hq
  obtain ⟨f0,f1,f2,f3,f4,f5⟩:=hf it (by simp)
  have hl:=rv.length
  exact wpAny_pyNext_tuple_end (I.ok.hd hc) st (show s.heap.IsTuple a its.toArray from p) (by simp; omega) fun h' eb=>⟨rfl,I.turned (t':=s.toks) (fun b o hb e=>eb b o hb e) f0 f1 f3 f4 f5⟩
 self:=fun _ _ _ _ _ st h=>wpAny_pyIter_tupleiter st h
theorem sQ {P:Program} {w:World} {K:PySem.W.Frag} {tg:Expr} (it:Addr) (lo:Int) (n:Nat):Turn P w K tg (Bm lo n) [it] it (fun i h=>IsRangeIter h it (lo + (i:Nat) * 1) ((n:Int) - (i:Nat)) 1) where
 mem:=by simp
 obj:=fun i h st b hb=>by
  have e:b=it:=by simpa using hb
  subst e
  exact ⟨_,st,fun v z=>by
   have z':Data.fields _=Data.cell v:=z
   cases z'⟩
 keep:=fun i h h' st k=>k it (by simp) _ st
 item:=by
  intro X hP hw hK hc i pins s σ H E I hf st hg
  subst hP hw hK
  obtain ⟨f0,f1,f2,f3,f4,f5⟩:=hf it (by simp)
  have W:=Walks.range (prog:=X.prog) (w:=X.w) (I.ok.hd hc) it lo 1 n
  refine W.item i s _ _ hg st fun v h' tk hv st' kk=>?_
  obtain ⟨t,rfl⟩:=hv
  have I1:Inv X pins σ H { s with heap:=h',toks:=tk }:=I.turned (fun b o hb e=>kk b o (by simpa using hb) e) f0 f1 f3 f4 f5
  refine ⟨_,rfl,uJ (s:={ s with heap:=h',toks:=tk }) (n := "range_iterator") st' rfl rfl (by decide) ⟨.int (lo + i),H,I1,⟨t,?_⟩,⟨rfl,rfl⟩,st',fun b hb=>(hf b hb).1⟩⟩
  rw [Int.mul_one]
 done:=by
  intro X hP hw hK hc i pins s σ H E I hf st hg
  subst hP hw hK
  obtain ⟨f0,f1,f2,f3,f4,f5⟩:=hf it (by simp)
  exact wpAny_pyNext_range_end (I.ok.hd hc) st (by have:n ≤ i:=hg; omega) fun h' eb=>⟨rfl,I.turned (t':=s.toks) (fun b o hb e=>eb b o hb e) f0 f1 f3 f4 f5⟩
 self:=fun _ _ _ _ _ st h=>wpAny_pyIter_rangeiter st h
section
variable {X:Cx} {tg:Expr}
def JT (K:PySem.W.Frag) (tl:TE):TI:=fun σ H R=>tl σ H fun x H1=>∃ a,x=.ref a∧(∃ xs,bh K H1 a xs)∧R (Ed K a) H1
def QO (K:PySem.W.Frag) (tl:TE):TI:=fun σ H R=>tl σ H fun x H1=>∃ a,x=.ref a∧(∃ xs,bq K H1 a xs)∧R (JR K a) H1
theorem eC {l:Expr} {tl:TE} (hl:PE X l tl):PI X tg l (JT X.K tl):=by
 intro pins s σ H R I h
 refine cA (hl pins s σ H _ I h) fun v s1 ⟨x,H1,I1,r1,q1⟩=>?_
 obtain ⟨a,e,⟨xs,hq⟩,q⟩:=q1
 subst e
 cases r1
 obtain ⟨its,rv,p,hz⟩:=I1.list hq
 refine wpAny_pyIter_list p.isList ?_
 refine ⟨s1.heap.objs.size,[s1.heap.objs.size],_,_,H1,rfl,I1.kept (t':=s1.toks) fun b o e=>Heap.get?_push_of_some _ e,wm a _,⟨_,Heap.get?_push_size _ rfl,rfl,rfl⟩,fun b hb=>?_,q⟩
 have e:b=s1.heap.objs.size:=by simpa using hb
 subst e
 exact I1.sO (Nat.le_refl _) (I1.hok.fresh (Nat.le_refl _))
theorem Fq {l:Expr} {tl:TE} (hl:PE X l tl):PI X tg l (QO X.K tl):=by
 intro pins s σ H R I h
 refine cA (hl pins s σ H _ I h) fun v s1 ⟨x,H1,I1,r1,q1⟩=>?_
 obtain ⟨a,e,⟨xs,hq⟩,q⟩:=q1
 subst e
 cases r1
 obtain ⟨its,rv,p,hz⟩:=I1.tuple hq
 refine wpAny_pyIter_tuple (show s1.heap.IsTuple a its.toArray from p) ?_
 refine ⟨s1.heap.objs.size,[s1.heap.objs.size],_,_,H1,rfl,I1.kept (t':=s1.toks) fun b o e=>Heap.get?_push_of_some _ e,sP a _,⟨_,Heap.get?_push_size _ rfl,rfl,rfl⟩,fun b hb=>?_,q⟩
 have e:b=s1.heap.objs.size:=by simpa using hb
 subst e
 exact I1.sO (Nat.le_refl _) (I1.hok.fresh (Nat.le_refl _))
theorem rA {pins:List (Addr × Obj)} {σ:St} {H:Hp} {s:Shared} {R:It→Hp→Prop} {E:Value→Shared→Prop} {lo hi:Int} {t u v:Tok} {tk:Nat} (I:Inv X pins σ H s) (h1:-(2 ^ 62) ≤ lo) (h2:lo < 2 ^ 62) (h3:-(2 ^ 62) ≤ hi) (h4:hi < 2 ^ 62)
  (q:R (Bm lo (hi - lo).toNat) H):wpAny (model X.prog X.w) X.A (pyIter (.ref s.heap.objs.size)) (PIE X pins σ tg R) E { s with heap:=s.heap.push { cls:=.type "range",data:=.fields #[.int lo t,.int hi u,.int 1 v] },toks:=tk }:=by
 refine wpAny_pyIter_range (IsRange.new ..) (small_one h1 h2 h3 h4) ?_
 have I1:Inv X pins σ H { s with heap:=s.heap.push { cls:=.type "range",data:=.fields #[.int lo t,.int hi u,.int 1 v] },toks:=tk }:=I.kept fun b o e=>Heap.get?_push_of_some _ e
 refine ⟨(s.heap.push { cls:=.type "range",data:=.fields #[.int lo t,.int hi u,.int 1 v] }).objs.size,[(s.heap.push { cls:=.type "range",data:=.fields #[.int lo t,.int hi u,.int 1 v] }).objs.size],_,_,H,rfl,
  I1.kept (t':=tk) fun b o e=>Heap.get?_push_of_some _ e,sQ _ lo (hi - lo).toNat,?_,fun b hb=>?_,q⟩
 ·have e1:lo + ((0:Nat):Int) * 1=lo:=by simp
  have e2:(((hi - lo).toNat:Nat):Int) - ((0:Nat):Int)=Builtin.Range.rangeSize lo hi 1:=by rw [rangeSize_one]; split <;> omega
  show IsRangeIter _ _ (lo + ((0:Nat):Int) * 1) ((((hi - lo).toNat:Nat):Int) - ((0:Nat):Int)) 1
  rw [e1,e2]
  exact Heap.get?_push_size _ rfl
 ·have e:b=(s.heap.push { cls:=.type "range",data:=.fields #[.int lo t,.int hi u,.int 1 v] }).objs.size:=by simpa using hb
  subst e
  exact I1.sO (Nat.le_refl _) (I1.hok.fresh (Nat.le_refl _))
def JU (ta:TA):TI:=fun σ H R=>ta σ H fun vs H1=>∃ j:Int,vs=[.int j]∧-(2 ^ 62) ≤ j∧j < 2 ^ 62∧R (Bm 0 j.toNat) H1
def JV (ta:TA):TI:=fun σ H R=>ta σ H fun vs H1=>∃ i j:Int,vs=[.int i,.int j]∧(-(2 ^ 62) ≤ i∧i < 2 ^ 62∧-(2 ^ 62) ≤ j∧j < 2 ^ 62)∧R (Bm i (j - i).toNat) H1
theorem dQ {a:Expr} {ta:TA} {p pos:Pos} (hg:Gl X "range") (hm:X.mg "range" = none) (ha:PA X [a] ta) (hs:starEach [a] X.env=[(false,eval a X.env)]:=by rfl):PI X tg (.Call (.Name "range" p) [a] [] pos) (JU ta):=by
 intro pins s σ H R I h
 refine Call_ (jX I hg hm boot_range (PyProof.Rows.callWith_type1 (cA (ha pos pins s σ H _ I h) fun us s1 ⟨vs,H1,I1,r1,q1⟩=>?_) hs rfl))
 obtain ⟨j,e,q1,q2,q⟩:=q1
 subst e
 cases r1 with
 | cons r rr =>
  cases rr
  obtain ⟨t,rfl⟩:=r
  exact call_range_1 (rA I1 (by omega) (by omega) q1 q2 (by simpa using q))
theorem wo {a b:Expr} {ta:TA} {p pos:Pos} (hg:Gl X "range") (hm:X.mg "range" = none) (ha:PA X [a,b] ta) (hs:starEach [a,b] X.env=[(false,eval a X.env),(false,eval b X.env)]:=by rfl) (hs2:starEach [b] X.env=[(false,eval b X.env)]:=by rfl) :
  PI X tg (.Call (.Name "range" p) [a,b] [] pos) (JV ta):=by
 intro pins s σ H R I h
 refine Call_ (jX I hg hm boot_range (PyProof.Rows.callWith_type1 (cA (ha pos pins s σ H _ I h) fun us s1 ⟨vs,H1,I1,r1,q1⟩=>?_) (by rw [hs,hs2]) (by rw [hs2]; rfl)))
 obtain ⟨i,j,e,⟨q1,q2,q3,q4⟩,q⟩:=q1
 subst e
 cases r1 with
 | cons r rr =>
  cases rr with
  | cons r' rr =>
   cases rr
   obtain ⟨t,rfl⟩:=r
   obtain ⟨t',rfl⟩:=r'
   exact call_range_2 (rA I1 q1 q2 q3 q4 q)
def QP (wi:TI) (g:TG) (tb:TS):TS:=fun D σ H=>wi σ H fun J H1=>∃ W:Nat→Nat→St→Hp→Prop,(∃ m,W 0 m σ H1)∧∀ i m σ H,W i m σ H →
 (J.stop i H∧D.nx σ H)∨(J.go i H∧∃ N:St→Hp→Prop,(∀ σ' H',N σ' H'→∃ m',m' < m∧W (i + 1) m' σ' H')∧∀ x H',J.uI i H x H'→g x σ H' fun σ2 H2=>tb { D with nx:=N,ct:=N,bk:=D.nx } σ2 H2)
def my (fp:List Addr) (h:Heap):List (Addr × Obj):=fp.filterMap fun b=>(h.get? b).map fun o=>(b,o)
theorem gF {fp:List Addr} {h:Heap} {b:Addr} {o:Obj} (hb:b ∈ fp) (e:h.get? b=some o):(b,o) ∈ my fp h:=List.mem_filterMap.mpr ⟨b,hb,by rw [e]; rfl⟩
theorem wq {fp:List Addr} {h:Heap} {p:Addr × Obj} (hp:p ∈ my fp h):p.1 ∈ fp∧h.get? p.1=some p.2:=by
 obtain ⟨b,hb,e⟩:=List.mem_filterMap.mp hp
 cases q:h.get? b with
 | none=>rw [q] at e; cases e
 | some o =>
  rw [q] at e
  have e':(b,o)=p:=Option.some.inj e
  subst e'
  exact ⟨hb,q⟩
theorem Inv.pinned {pins:List (Addr × Obj)} {σ:St} {H:Hp} {s:Shared} {fp:List Addr} (I:Inv X pins σ H s) (hf:∀ b ∈ fp,mw X pins H b) (ho:∀ b ∈ fp,∃ o,s.heap.get? b=some o∧∀ v,o.data ≠ .cell v):Inv X (pins ++ my fp s.heap) σ H s :=
 I.uH fun p hp=>(List.mem_append.mp hp).elim (fun z=>I.pin p (List.mem_append_right _ z)) fun z=>by
  obtain ⟨hb,e⟩:=wq z
  obtain ⟨f0,f1,f2,_⟩:=hf p.1 hb
  obtain ⟨o,e',d⟩:=ho p.1 hb
  rw [e] at e'; cases e'
  exact ⟨e,f0,f1,f2,d⟩
theorem Inv.jD {pins pl:List (Addr × Obj)} {σ:St} {H:Hp} {s:Shared} (I:Inv X (pins ++ pl) σ H s):Inv X pins σ H s:=I.uH fun p hp=>I.pin p (List.mem_append_right _ (List.mem_append_left _ hp))
theorem df {iter:Expr} {body:List Stmt} {wi:TI} {g:TG} {tb:TS} {pos:Pos} (hp:PassesOwn (model X.prog X.w) X.A X.env X.xe) (hc:X.calm=true) (hi:PI X tg iter wi) (hg:PG X tg g) (hb:oX X body tb)
  (hs:∀ x,foldedSetIterable iter X.env x=pure x:=by intro _; rfl):PS X (.For tg iter body [] pos) (QP wi g tb):=by
 intro pins s σ H D I h
 refine wpAny_For (cA (hi pins s σ H _ I h) fun v s1 h1=>cA h1 fun itv s2 h2=>?_) hs
 obtain ⟨it,fp,tn,J,H2,e,I2,T,st2,f2,W,⟨m0,w0⟩,turn⟩:=h2
 subst e
 have stat:∀ {H':Hp},(∀ b ∈ fp,H' b=none)→∀ b ∈ fp,mw X pins H' b:=fun hn b hb=>⟨hn b hb,(f2 b hb).2⟩
 refine codeAny_forLoop_any (fun n s'=>∃ i σ' H',Inv X pins σ' H' s'∧tn i s'.heap∧(∀ b ∈ fp,H' b=none)∧W i n σ' H') ?_ m0 ⟨0,σ,H2,I2,st2,fun b hb=>(f2 b hb).1,w0⟩
 rintro n s3 ⟨i,σ3,H3,I3,st3,fr3,w3⟩
 rcases turn i n σ3 H3 w3 with ⟨stop,qn⟩ | ⟨go,N,hN,step⟩
 ·refine wpAny_passesOwn hp (cA (T.done X rfl rfl rfl hc i pins s3 σ3 H3 X.xe I3 (stat fr3) st3 stop) fun r s4 ⟨hr,I4⟩=>?_)
  subst hr
  exact wpAny_execs_nil ⟨σ3,H3,I4,qn⟩
 ·refine wpAny_passesOwn hp (cA (T.item X rfl rfl rfl hc i pins s3 σ3 H3 X.xe I3 (stat fr3) st3 go) fun r s4 ⟨u,hr,h4⟩=>?_)
  subst hr
  refine wpAny_passesOwn hp (cA h4 fun _ s5 ⟨x,H5,I5,r5,y5,Jh,PY⟩=>?_)
  have I5':=I5.pinned (stat PY) (T.obj _ _ Jh)
  refine wpAny_passesOwn hp (cA (hg _ s5 σ3 H5 x u _ I5' r5 (step x H5 y5)) fun _ s6 ⟨σ6,H6,I6,q6⟩=>?_)
  refine wpAny_passesOwn hp (cA (hb _ s6 σ6 H6 _ I6 q6) fun f s7 q7=>?_)
  have again:∀ {σ7:St} {H7:Hp},Inv X (pins ++ my fp s5.heap) σ7 H7 s7→N σ7 H7→∃ m,m < n∧∃ i σ' H',Inv X pins σ' H' s7∧tn i s7.heap∧(∀ b ∈ fp,H' b=none)∧W i m σ' H':=fun {σ7 H7} I7 n7=>by
   obtain ⟨m',hm,w7⟩:=hN σ7 H7 n7
   refine ⟨m',hm,i + 1,σ7,H7,I7.jD,T.keep _ _ _ Jh fun b hb o e=>(I7.pin (b,o) (List.mem_append_right _ (List.mem_append_right _ (gF hb e)))).1,fun b hb=>?_,w7⟩
   obtain ⟨o,e,d⟩:=T.obj _ _ Jh b hb
   exact (I7.pin (b,o) (List.mem_append_right _ (List.mem_append_right _ (gF hb e)))).2.1
  cases f with
  | next=>obtain ⟨σ7,H7,I7,n7⟩:=q7; exact again I7 n7
  | cont=>obtain ⟨σ7,H7,I7,n7⟩:=q7; exact again I7 n7
  | brk=>obtain ⟨σ7,H7,I7,q7⟩:=q7; exact ⟨σ7,H7,I7.jD,q7⟩
  | ret v=>obtain ⟨x7,σ7,H7,I7,r7,q7⟩:=q7; exact ⟨x7,σ7,H7,I7.jD,r7,q7⟩
end
theorem hU {K:PySem.W.Frag} {a:Addr} {xs:List V} {g:TG} {tb:TS} {D:Ends} {σ:St} {H:Hp} (Pv:Nat→St→Hp→Prop) (h0:Pv 0 σ H) (hl:∀ i σ H,i ≤ xs.length→Pv i σ H→bh K H a xs)
  (hs:∀ i x σ H,xs[i]? = some x→Pv i σ H→g x σ H fun σ2 H2=>tb { D with nx:=Pv (i + 1),ct:=Pv (i + 1),bk:=D.nx } σ2 H2) (hd:∀ σ H,Pv xs.length σ H→D.nx σ H) :
  ∃ W:Nat→Nat→St→Hp→Prop,(∃ m,W 0 m σ H)∧∀ i m σ H,W i m σ H →
   ((Ed K a).stop i H∧D.nx σ H)∨((Ed K a).go i H∧∃ N:St→Hp→Prop,(∀ σ' H',N σ' H'→∃ m',m' < m∧W (i + 1) m' σ' H')∧∀ x H',(Ed K a).uI i H x H'→g x σ H' fun σ2 H2=>tb { D with nx:=N,ct:=N,bk:=D.nx } σ2 H2):=by
 refine ⟨fun i m σ H=>m=xs.length - i∧i ≤ xs.length∧Pv i σ H,⟨xs.length,by simp,Nat.zero_le _,h0⟩,?_⟩
 rintro i m σ H ⟨rfl,hi,p⟩
 have q:=hl i σ H hi p
 by_cases hlt:i < xs.length
 ·refine .inr ⟨⟨xs,xs[i],q,by simp [hlt]⟩,Pv (i + 1),fun σ' H' p'=>⟨xs.length - (i + 1),by omega,rfl,hlt,p'⟩,fun x H' y=>?_⟩
  obtain ⟨e,y⟩:=y
  subst e
  exact hs i x σ _ (y xs q) p
 ·have e:i=xs.length:=by omega
  subst e
  exact .inl ⟨⟨xs,q,Nat.le_refl _⟩,hd σ H p⟩
theorem d9 {lo:Int} {n:Nat} {g:TG} {tb:TS} {D:Ends} {σ:St} {H:Hp} (Pv:Nat→St→Hp→Prop) (h0:Pv 0 σ H)
  (hs:∀ i σ H,i < n→Pv i σ H→g (.int (lo + i)) σ H fun σ2 H2=>tb { D with nx:=Pv (i + 1),ct:=Pv (i + 1),bk:=D.nx } σ2 H2) (hd:∀ σ H,Pv n σ H→D.nx σ H) :
  ∃ W:Nat→Nat→St→Hp→Prop,(∃ m,W 0 m σ H)∧∀ i m σ H,W i m σ H →
   ((Bm lo n).stop i H∧D.nx σ H)∨((Bm lo n).go i H∧∃ N:St→Hp→Prop,(∀ σ' H',N σ' H'→∃ m',m' < m∧W (i + 1) m' σ' H')∧∀ x H',(Bm lo n).uI i H x H'→g x σ H' fun σ2 H2=>tb { D with nx:=N,ct:=N,bk:=D.nx } σ2 H2):=by
 refine ⟨fun i m σ H=>m=n - i∧i ≤ n∧Pv i σ H,⟨n,by simp,Nat.zero_le _,h0⟩,?_⟩
 rintro i m σ H ⟨rfl,hi,p⟩
 by_cases hlt:i < n
 ·refine .inr ⟨hlt,Pv (i + 1),fun σ' H' p'=>⟨n - (i + 1),by omega,rfl,hlt,p'⟩,fun x H' y=>?_⟩
  obtain ⟨e,y⟩:=y
  subst e y
  exact hs i σ _ hlt p
 ·have e:i=n:=by omega
  subst e
  exact .inl ⟨Nat.le_refl _,hd σ H p⟩
abbrev R2:=V→V→Hp→VK→Prop
def iN (X:Cx) (f:Value→Value→Sem Value) (r:R2):Prop :=
 ∀ (pins:List (Addr × Obj)) (s:Shared) (σ:St) (H:Hp) (x y:V) (v u:Value) (Q:VK),Inv X pins σ H s→RelV x v→RelV y u→r x y H Q →
  wpAny (model X.prog X.w) X.A (f v u) (EP X pins σ Q) X.xe s
def QR (X:Cx) (f:Value→Sem Value) (r:V→Hp→VK→Prop):Prop :=
 ∀ (pins:List (Addr × Obj)) (s:Shared) (σ:St) (H:Hp) (x:V) (v:Value) (Q:VK),Inv X pins σ H s→RelV x v→r x H Q →
  wpAny (model X.prog X.w) X.A (f v) (EP X pins σ Q) X.xe s
def jg (X:Cx) (f:Value) (r:List V→Hp→VK→Prop):Prop :=
 ∀ (pins:List (Addr × Obj)) (s:Shared) (σ:St) (H:Hp) (xs:List V) (us:List Value) (Q:VK),Inv X pins σ H s→Vals xs us→r xs H Q →
  wpAny (model X.prog X.w) X.A (call f us) (EP X pins σ Q) X.xe s
def PZ (r:R2) (ta tb:TE):TE:=fun σ H Q=>ta σ H fun x H1=>tb σ H1 fun y H2=>r x y H2 Q
def tUn (r:V→Hp→VK→Prop) (ta:TE):TE:=fun σ H Q=>ta σ H fun x H1=>r x H1 Q
def rI (C:Int→Int→Prop) (g:Int→Int→V):R2:=fun x y H Q=>∃ i j,x=.int i∧y=.int j∧C i j∧Q (g i j) H
def Ee (g:Int→Int→V):R2:=fun x y H Q=>∃ i j,x=.int i∧y=.int j∧Q (g i j) H
def rU (g:Int→V):V→Hp→VK→Prop:=fun x H Q=>∃ i,x=.int i∧Q (g i) H
section
variable {X:Cx} {a b c:Expr} {ta tb tc:TE} {pos:Pos}
theorem Fs (ha:PE X a ta) (hb:PE X b tb) {pins:List (Addr × Obj)} {s:Shared} {σ:St} {H:Hp} {R:V→V→Hp→Prop} (I:Inv X pins σ H s)
  (h:ta σ H fun x H1=>tb σ H1 fun y H2=>R x y H2) {Q:Value→Shared→Prop} {f:Value→Value→Sem Value}
  (hf:∀ v u s2 x y H2,Inv X pins σ H2 s2→RelV x v→RelV y u→R x y H2→wpAny (model X.prog X.w) X.A (f v u) Q X.xe s2) :
  wpAny (model X.prog X.w) X.A (eval a X.env) (fun v s₁=>wpAny (model X.prog X.w) X.A (eval b X.env) (fun u s₂=>wpAny (model X.prog X.w) X.A (f v u) Q X.xe s₂) X.xe s₁) X.xe s:=by
 refine cA (ha pins s σ H _ I h) fun v s1 ⟨x,H1,I1,r1,q1⟩=>?_
 refine cA (hb pins s1 σ H1 _ I1 q1) fun u s2 ⟨y,H2,I2,r2,q2⟩=>?_
 exact hf v u s2 x y H2 I2 r1 r2 q2
theorem aG {op:Operator} {r:R2} (ho:iN X (binaryOp op) r) (ha:PE X a ta) (hb:PE X b tb):PE X (.BinOp a op b pos) (PZ r ta tb):=by
 intro pins s σ H Q I h
 exact wpAny_BinOp (Fs ha hb I h fun v u s2 x y H2 I2 rx ry q=>ho pins s2 σ H2 x y v u Q I2 rx ry q)
theorem dX {op:UnaryOp} {r:V→Hp→VK→Prop} (ho:QR X (unaryOp op) r) (ha:PE X a ta):PE X (.UnaryOp op a pos) (tUn r ta):=by
 intro pins s σ H Q I h
 exact UnaryOp_ (cA (ha pins s σ H _ I h) fun v s1 ⟨x,H1,I1,r1,q1⟩=>ho pins s1 σ H1 x v Q I1 r1 q1)
theorem Ji {f:Value→Value→Sem Value} {C:Int→Int→Prop} {g:Int→Int→Int}
  (rule:∀ (i j:Int) (t u:Tok) (s:Shared) (Q:Value→Shared→Prop) (E:Value→Shared→Prop),C i j→Q (.int (g i j) s.toks) { s with toks:=s.toks + 1 }→wpAny (model X.prog X.w) X.A (f (.int i t) (.int j u)) Q E s) :
  iN X f (rI C fun i j=>.int (g i j)):=by
 intro pins s σ H x y v u Q I rx ry h
 obtain ⟨i,j,rfl,rfl,hc,q⟩:=h
 obtain ⟨t,rfl⟩:=rx
 obtain ⟨t',rfl⟩:=ry
 exact rule i j t t' s _ _ hc ⟨.int (g i j),H,I.tok _,⟨_,rfl⟩,q⟩
theorem Ft {f:Value→Value→Sem Value} {g:Int→Int→Int}
  (rule:∀ (i j:Int) (t u:Tok) (s:Shared) (Q:Value→Shared→Prop) (E:Value→Shared→Prop),Q (.int (g i j) s.toks) { s with toks:=s.toks + 1 }→wpAny (model X.prog X.w) X.A (f (.int i t) (.int j u)) Q E s) :
  iN X f (Ee fun i j=>.int (g i j)):=by
 intro pins s σ H x y v u Q I rx ry h
 obtain ⟨i,j,rfl,rfl,q⟩:=h
 obtain ⟨t,rfl⟩:=rx
 obtain ⟨t',rfl⟩:=ry
 exact rule i j t t' s _ _ ⟨.int (g i j),H,I.tok _,⟨_,rfl⟩,q⟩
theorem Fu {f:Value→Value→Sem Value} {g:Int→Int→Bool}
  (rule:∀ (i j:Int) (t u:Tok) (s:Shared) (Q:Value→Shared→Prop) (E:Value→Shared→Prop),Q (.bool (g i j)) s→wpAny (model X.prog X.w) X.A (f (.int i t) (.int j u)) Q E s) :
  iN X f (Ee fun i j=>.bl (g i j)):=by
 intro pins s σ H x y v u Q I rx ry h
 obtain ⟨i,j,rfl,rfl,q⟩:=h
 obtain ⟨t,rfl⟩:=rx
 obtain ⟨t',rfl⟩:=ry
 exact rule i j t t' s _ _ ⟨.bl (g i j),H,I,rfl,q⟩
def Bw (i j:Int):Prop:=0 ≤ j∧j ≤ 1000000∧i.natAbs < 2 ^ 64
def Fv (i j:Int):Prop:=(-(2 ^ 64) < i∧i < 2 ^ 64)∨(-(2 ^ 64) < j∧j < 2 ^ 64)
theorem Fv.ok {i j:Int} (h:Fv i j):IntMulOk i j:=by
 rcases h with ⟨h1,h2⟩ | ⟨h1,h2⟩
 ·exact .of_left (intBits_le_64 h1 h2)
 ·exact .of_right (intBits_le_64 h1 h2)
theorem sR (k:Nat):(0:Int) ≤ 2 ^ k:=by
 rw [two_pow_cast]
 exact Int.natCast_nonneg _
theorem cm:iN X (binaryOp .Add) (Ee fun i j=>.int (i + j)):=Ft fun _ _ _ _ _ _ _ q=>add_int q
theorem gG:iN X (binaryOp .Sub) (Ee fun i j=>.int (i - j)):=Ft fun _ _ _ _ _ _ _ q=>sub_int q
theorem jZ:iN X (binaryOp .Mult) (rI Fv fun i j=>.int (i * j)):=Ji fun _ _ _ _ _ _ _ hc q=>mul_int q hc.ok
theorem bV:iN X (binaryOp .Mod) (rI (fun _ j=>0 < j) fun i j=>.int (i % j)):=Ji fun i j _ _ _ _ _ hc q=>by
 have h1:(0:Int) < j:=hc
 exact mod_int' (by omega) (by rw [Int.fmod_eq_emod_of_nonneg i (by omega)]; exact q)
theorem sS:iN X (binaryOp .Pow) (rI Bw fun i j=>.int (i ^ j.toNat)):=Ji fun _ _ _ _ _ _ _ hc q=>pow_int_small hc.1 hc.2.1 hc.2.2 q
theorem Fw:iN X (binaryOp .LShift) (rI Bw fun i j=>.int (i * 2 ^ j.toNat)):=Ji fun _ _ _ _ _ _ _ hc q=>lshift_int_small hc.1 hc.2.1 hc.2.2 q
theorem xV:iN X (binaryOp .RShift) (rI (fun _ j=>0 ≤ j) fun i j=>.int (i / 2 ^ j.toNat)):=Ji fun i j _ _ _ _ _ hc q =>
 rshift_int hc (by rw [Int.fdiv_eq_ediv_of_nonneg i (sR _)]; exact q)
theorem xW:iN X (binaryOp .BitAnd) (Ee fun i j=>.int (Builtin.bitAnd i j)):=Ft fun _ _ _ _ _ _ _ q=>and_int q
theorem unI {f:Value→Sem Value} {g:Int→Int}
  (rule:∀ (i:Int) (t:Tok) (s:Shared) (Q:Value→Shared→Prop) (E:Value→Shared→Prop),Q (.int (g i) s.toks) { s with toks:=s.toks + 1 }→wpAny (model X.prog X.w) X.A (f (.int i t)) Q E s) :
  QR X f (rU fun i=>.int (g i)):=by
 intro pins s σ H x v Q I rx h
 obtain ⟨i,rfl,q⟩:=h
 obtain ⟨t,rfl⟩:=rx
 exact rule i t s _ _ ⟨.int (g i),H,I.tok _,⟨_,rfl⟩,q⟩
theorem dg:QR X (unaryOp .USub) (rU fun i=>.int (-i)):=unI fun _ _ _ _ _ q=>neg_int q
end
def JW:V→V→Bool
 | .non,.non=>true | .non,.int _=>true | .int _,.non=>true | .non,.bl _=>true | .bl _,.non=>true | .non,.str _=>true | .str _,.non=>true
 | .int _,.int _=>true | .bl _,.bl _=>true | .str _,.str _=>true | .xK _,.xK _=>true
 | .int _,.str _=>true | .str _,.int _=>true | .bl _,.str _=>true | .str _,.bl _=>true
 | _,_=>false
def rEq:R2:=fun x y H Q=>JW x y=true∧Q (.bl (decide (x=y))) H
def rNe:R2:=fun x y H Q=>JW x y=true∧Q (.bl (!decide (x=y))) H
theorem qq {i j:Int}:decide (V.int i=V.int j)=(i == j):=by
 rw [Bool.eq_iff_iff]
 simp
theorem xX {i j:Bool}:decide (V.bl i=V.bl j)=(i == j):=by
 rw [Bool.eq_iff_iff]
 simp
theorem qr {i j:Str}:decide (V.str i=V.str j)=(i == j):=by
 rw [Bool.eq_iff_iff]
 simp
theorem uK {i j:Array UInt8}:decide (V.xK i=V.xK j)=(i.toList == j.toList):=by
 rw [Bool.eq_iff_iff]
 cases i
 cases j
 simp
section
variable {X:Cx} {a b c:Expr} {ta tb tc:TE} {pos:Pos}
theorem cq {pins:List (Addr × Obj)} {σ:St} {H:Hp} {s:Shared} {Q:VK} {k k':Bool} (I:Inv X pins σ H s) (q:Q (.bl k) H) (e:k=k'):EP X pins σ Q (.bool k') s:=by
 subst e
 exact ⟨.bl k,H,I,rfl,q⟩
theorem d7:iN X (compareOp .Eq) rEq:=by
 intro pins s σ H x y v u Q I rx ry h
 obtain ⟨hs,q⟩:=h
 cases x with
 | non =>
  cases rx
  cases y with
  | non=>cases ry; exact PySem.EqNone.eq_none_none (cq I q (by simp))
  | bl j=>cases ry; exact PySem.EqNone.eq_none_bool (cq I q (by simp))
  | int j=>obtain ⟨t',rfl⟩:=ry; exact PySem.EqNone.eq_none_int (cq I q (by simp))
  | str j=>obtain ⟨t',rfl⟩:=ry; exact PySem.EqNone.eq_none_str (cq I q (by simp))
  | _=>exact absurd (show false=true from hs) Bool.false_ne_true
 | bl i =>
  cases rx
  cases y with
  | non=>cases ry; exact PySem.EqNone.eq_bool_none (cq I q (by simp))
  | bl j=>cases ry; exact eq_bool (cq I q xX)
  | str j=>obtain ⟨t',rfl⟩:=ry; exact PySem.EqMixed.eq_bool_str (cq I q (by simp))
  | _=>exact absurd (show false=true from hs) Bool.false_ne_true
 | int i =>
  obtain ⟨t,rfl⟩:=rx
  cases y with
  | non=>cases ry; exact PySem.EqNone.eq_int_none (cq I q (by simp))
  | int j=>obtain ⟨t',rfl⟩:=ry; exact eq_int (cq I q qq)
  | str j=>obtain ⟨t',rfl⟩:=ry; exact PySem.EqMixed.eq_int_str (cq I q (by simp))
  | _=>exact absurd (show false=true from hs) Bool.false_ne_true
 | str i =>
  obtain ⟨t,rfl⟩:=rx
  cases y with
  | non=>cases ry; exact PySem.EqNone.eq_str_none (cq I q (by simp))
  | bl j=>cases ry; exact PySem.EqMixed.eq_str_bool (cq I q (by simp))
  | int j=>obtain ⟨t',rfl⟩:=ry; exact PySem.EqMixed.eq_str_int (cq I q (by simp))
  | str j=>obtain ⟨t',rfl⟩:=ry; exact eq_str (cq I q qr)
  | _=>exact absurd (show false=true from hs) Bool.false_ne_true
 | xK i =>
  obtain ⟨t,rfl⟩:=rx
  cases y with
  | xK j=>obtain ⟨t',rfl⟩:=ry; exact PySem.W.eq_bytes (cq I q uK)
  | _=>exact absurd (show false=true from hs) Bool.false_ne_true
 | _=>cases y <;> exact absurd (show false=true from hs) Bool.false_ne_true
theorem xY:iN X (compareOp .NotEq) rNe:=by
 intro pins s σ H x y v u Q I rx ry h
 obtain ⟨hs,q⟩:=h
 cases x with
 | non =>
  cases rx
  cases y with
  | non=>cases ry; exact PySem.EqNone.ne_none_none (cq I q (by simp))
  | bl j=>cases ry; exact PySem.EqNone.ne_none_bool (cq I q (by simp))
  | int j=>obtain ⟨t',rfl⟩:=ry; exact PySem.EqNone.ne_none_int (cq I q (by simp))
  | str j=>obtain ⟨t',rfl⟩:=ry; exact PySem.EqNone.ne_none_str (cq I q (by simp))
  | _=>exact absurd (show false=true from hs) Bool.false_ne_true
 | bl i =>
  cases rx
  cases y with
  | non=>cases ry; exact PySem.EqNone.ne_bool_none (cq I q (by simp))
  | bl j=>cases ry; exact ne_bool (cq I q (congrArg not xX))
  | str j=>obtain ⟨t',rfl⟩:=ry; exact PySem.EqMixed.ne_bool_str (cq I q (by simp))
  | _=>exact absurd (show false=true from hs) Bool.false_ne_true
 | int i =>
  obtain ⟨t,rfl⟩:=rx
  cases y with
  | non=>cases ry; exact PySem.EqNone.ne_int_none (cq I q (by simp))
  | int j=>obtain ⟨t',rfl⟩:=ry; exact ne_int (cq I q (congrArg not qq))
  | str j=>obtain ⟨t',rfl⟩:=ry; exact PySem.EqMixed.ne_int_str (cq I q (by simp))
  | _=>exact absurd (show false=true from hs) Bool.false_ne_true
 | str i =>
  obtain ⟨t,rfl⟩:=rx
  cases y with
  | non=>cases ry; exact PySem.EqNone.ne_str_none (cq I q (by simp))
  | bl j=>cases ry; exact PySem.EqMixed.ne_str_bool (cq I q (by simp))
  | int j=>obtain ⟨t',rfl⟩:=ry; exact PySem.EqMixed.ne_str_int (cq I q (by simp))
  | str j=>obtain ⟨t',rfl⟩:=ry; exact ne_str (cq I q (congrArg not qr))
  | _=>exact absurd (show false=true from hs) Bool.false_ne_true
 | xK i =>
  obtain ⟨t,rfl⟩:=rx
  cases y with
  | xK j=>obtain ⟨t',rfl⟩:=ry; exact PySem.W.ne_bytes (cq I q (congrArg not uK))
  | _=>exact absurd (show false=true from hs) Bool.false_ne_true
 | _=>cases y <;> exact absurd (show false=true from hs) Bool.false_ne_true
theorem oZ:iN X (compareOp .Lt) (Ee fun i j=>.bl (decide (i < j))):=Fu fun _ _ _ _ _ _ _ q=>lt_int q
theorem o8:iN X (compareOp .LtE) (Ee fun i j=>.bl (decide (i ≤ j))):=Fu fun _ _ _ _ _ _ _ q=>le_int q
theorem rB:iN X (compareOp .Gt) (Ee fun i j=>.bl (decide (j < i))):=Fu fun _ _ _ _ _ _ _ q=>gt_int q
theorem sT:iN X (compareOp .Is) (fun x y H Q=>y=.non∧Q (.bl (decide (x=.non))) H):=by
 intro pins s σ H x y v u Q I rx ry h
 obtain ⟨rfl,q⟩:=h
 cases ry
 refine is_none_gen (cq I q ?_)
 cases x <;> first
  | (cases rx; rfl)
  | (obtain ⟨t,rfl⟩:=rx; rfl)
theorem bz (b:Expr) {op:CmpOp} (h:op ≠ .In:=by decide) (h2:op ≠ .NotIn:=by decide):behindInMarks op b=false:=by
 have e1:(op == CmpOp.In)=false:=by cases op <;> first | rfl | exact absurd rfl h
 have e2:(op == CmpOp.NotIn)=false:=by cases op <;> first | rfl | exact absurd rfl h2
 cases b <;> simp [behindInMarks,e1,e2]
theorem jE {op:CmpOp} {r:R2} (ho:iN X (compareOp op) r) (ha:PE X a ta) (hb:PE X b tb) (hm:behindInMarks op b=false):PE X (.Compare a [op] [b] pos) (PZ r ta tb):=by
 intro pins s σ H Q I h
 exact wpAny_Compare1 (Fs ha hb I h fun v u s2 x y H2 I2 rx ry q=>ho pins s2 σ H2 x y v u Q I2 rx ry q) hm
def Ef (t:TE):TT:=fun σ H Q=>t σ H fun x H'=>∃ k,x=.bl k∧Q k H'
theorem aS {op:CmpOp} {r:R2} (ho:iN X (compareOp op) r) (ha:PE X a ta) (hb:PE X b tb) (hm:behindInMarks op b=false):PT X (.Compare a [op] [b] pos) (Ef (PZ r ta tb)):=by
 intro pins s σ H Q I h
 refine wpAny_isTrue_Compare1 (cA (ha pins s σ H _ I h) fun v s1 ⟨x,H1,I1,r1,q1⟩=>cA (hb pins s1 σ H1 _ I1 q1) fun u s2 ⟨y,H2,I2,r2,q2⟩ =>
  cA (ho pins s2 σ H2 x y v u _ I2 r1 r2 q2) fun c s3 ⟨z,H3,I3,r3,k,e,q3⟩=>?_) hm
 subst e
 cases r3
 exact wpAny_truthy_bool ⟨H3,I3,q3⟩
def xZ (r r':R2) (ta tb tc:TE):TE:=fun σ H Q=>ta σ H fun x H1=>tb σ H1 fun y H2=>r x y H2 fun z H3=>∃ k,z=.bl k ∧
 (if k=true then tc σ H3 fun w' H4=>r' y w' H4 Q else Q (.bl false) H3)
theorem rC {op op':CmpOp} {r r':R2} (ho:iN X (compareOp op) r) (ho':iN X (compareOp op') r') (ha:PE X a ta) (hb:PE X b tb) (hc:PE X c tc)
  (hm:lastMarks [op,op'] [b,c]=false:=by with_unfolding_all rfl):PE X (.Compare a [op,op'] [b,c] pos) (xZ r r' ta tb tc):=by
 intro pins s σ H Q I h
 refine Compare_chain (cA (ha pins s σ H _ I h) fun v s1 ⟨x,H1,I1,r1,q1⟩=>chain_link (cA (hb pins s1 σ H1 _ I1 q1) fun u s2 ⟨y,H2,I2,r2,q2⟩ =>
  cA (ho pins s2 σ H2 x y v u _ I2 r1 r2 q2) fun d s3 ⟨z,H3,I3,r3,k,e,q3⟩=>?_)) hm
 subst e
 cases r3
 refine wpAny_truthy_bool ?_
 cases k with
 | false=>exact ite_ff ⟨.bl false,H3,I3,rfl,q3⟩
 | true=>exact ite_tt (chain_last (cA (hc pins s3 σ H3 _ I3 q3) fun w' s4 ⟨z',H4,I4,r4,q4⟩=>ho' pins s4 σ H4 y z' u w' Q I4 r2 r4 q4))
theorem rE {op op':CmpOp} {r r':R2} (ho:iN X (compareOp op) r) (ho':iN X (compareOp op') r') (ha:PE X a ta) (hb:PE X b tb) (hc:PE X c tc)
  (hm:lastMarks [op,op'] [b,c]=false:=by with_unfolding_all rfl):PT X (.Compare a [op,op'] [b,c] pos) (Ef (xZ r r' ta tb tc)):=by
 intro pins s σ H Q I h
 refine isTrue_chain (cA (ha pins s σ H _ I h) fun v s1 ⟨x,H1,I1,r1,q1⟩=>test_link (cA (hb pins s1 σ H1 _ I1 q1) fun u s2 ⟨y,H2,I2,r2,q2⟩ =>
  cA (ho pins s2 σ H2 x y v u _ I2 r1 r2 q2) fun d s3 ⟨z,H3,I3,r3,k,e,q3⟩=>?_)) hm
 subst e
 cases r3
 refine wpAny_truthy_bool ?_
 cases k with
 | false =>
  obtain ⟨k',e',q'⟩:=q3
  cases e'
  exact ite_ff ⟨H3,I3,q'⟩
 | true =>
  refine ite_tt (test_last (cA (hc pins s3 σ H3 _ I3 q3) fun w' s4 ⟨z',H4,I4,r4,q4⟩=>cA (ho' pins s4 σ H4 y z' u w' _ I4 r2 r4 q4) fun d' s5 ⟨z2,H5,I5,r5,k2,e2,q5⟩=>?_))
  subst e2
  cases r5
  exact wpAny_truthy_bool ⟨H5,I5,q5⟩
theorem qt:(sizeLine:Nat) < 2 ^ 63:=by rw [sizeLine_eq]; decide
theorem vals1 {x:V} {us:List Value} (r:Vals [x] us):∃ u,us=[u]∧RelV x u:=by
 cases r with
 | cons r1 r2=>cases r2; exact ⟨_,rfl,r1⟩
theorem vals2 {x y:V} {us:List Value} (r:Vals [x,y] us):∃ u w',us=[u,w']∧RelV x u∧RelV y w':=by
 cases r with
 | cons r1 r2 =>
  cases r2 with
  | cons r3 r4=>cases r4; exact ⟨_,_,rfl,r1,r3⟩
theorem o9 (hc:X.calm=true):jg X (.builtin "max") (fun xs H Q=>∃ i j,xs=[.int i,.int j]∧Q (.int (if j > i then j else i)) H):=by
 intro pins s σ H xs us Q I r h
 obtain ⟨i,j,rfl,q⟩:=h
 obtain ⟨u,w',rfl,⟨t,rfl⟩,⟨t',rfl⟩⟩:=vals2 r
 refine max_two_ints (I.ok.hd hc) fun h' tk k=>⟨_,H,I.kept k,?_,q⟩
 by_cases hj:j > i
 ·rw [if_pos hj,if_pos hj]; exact ⟨_,rfl⟩
 ·rw [if_neg hj,if_neg hj]; exact ⟨_,rfl⟩
theorem pe (hc:X.calm=true):jg X (.builtin "min") (fun xs H Q=>∃ i j,xs=[.int i,.int j]∧Q (.int (if j < i then j else i)) H):=by
 intro pins s σ H xs us Q I r h
 obtain ⟨i,j,rfl,q⟩:=h
 obtain ⟨u,w',rfl,⟨t,rfl⟩,⟨t',rfl⟩⟩:=vals2 r
 refine min_two_ints (I.ok.hd hc) fun h' tk k=>⟨_,H,I.kept k,?_,q⟩
 by_cases hj:j < i
 ·rw [if_pos hj,if_pos hj]; exact ⟨_,rfl⟩
 ·rw [if_neg hj,if_neg hj]; exact ⟨_,rfl⟩
theorem pj:jg X (.type "int") (fun xs H Q=>(∃ i,xs=[.int i]∧Q (.int i) H)∨∃ k,xs=[.bl k]∧Q (.int (if k then 1 else 0)) H):=by
 intro pins s σ H xs us Q I r h
 rcases h with ⟨i,rfl,q⟩ | ⟨k,rfl,q⟩
 ·obtain ⟨u,rfl,t,rfl⟩:=vals1 r
  exact call_int_int ⟨.int i,H,I,⟨_,rfl⟩,q⟩
 ·obtain ⟨u,rfl,r1⟩:=vals1 r
  cases r1
  exact call_int_bool ⟨.int (if k then 1 else 0),H,I.tok _,⟨_,rfl⟩,q⟩
end
structure sU (h:Heap) (x dx C:Addr) (mA:Str→Option Value):Prop where
 obj:h.get? x=some (PySem.W.instObj C dx)
 ns:h.Ns1 dx mA
 ne:dx ≠ x
theorem wt {h:Heap} {dx:Addr} {mA:Str→Option Value} (n:h.Ns1 dx mA):∃ od,h.get? dx=some od∧∀ name,PySem.W.lookIn name od=some (mA name):=by
 obtain ⟨o,es,ep,ho,hd,hk,_,hm⟩:=n
 refine ⟨o,ho,fun name=>?_⟩
 have e:=hm name
 unfold nsFind findBy at e
 rw [← Array.find?_toList] at e
 unfold PySem.W.lookIn
 rw [hd]
 dsimp only
 split
 ·rename_i y q
  rw [q] at e
  exact congrArg some e
 ·rename_i q
  rw [q] at e
  have a:es.toList.any (·.refKey)=false:=by
   rw [List.any_eq_false]
   intro y hy
   obtain ⟨z,t,hkey⟩:=hk y (Array.mem_toList_iff.mp hy)
   simp [DictEntry.refKey,hkey]
  have a':¬ es.toList.any (·.refKey)=true:=by rw [a]; exact Bool.false_ne_true
  rw [if_neg a']
  exact congrArg some e
theorem sU.look {h:Heap} {x dx C:Addr} {mA:Str→Option Value} (I:sU h x dx C mA):∃ od,PySem.W.InstAt h x (PySem.W.instObj C dx) C (some od)∧∀ name,PySem.W.lookIn name od=some (mA name) :=
 let ⟨od,ho,hl⟩:=wt I.ns
 ⟨od,⟨I.obj,rfl,rfl,ho⟩,hl⟩
section
variable {prog:Program} {w:World} {A:Around} {E:Value→Shared→Prop} {s:Shared} {K:PySem.W.Frag} {x dx C f:Addr} {mA:Str→Option Value} {name:Str} {v:Value}
theorem get_map {expr:Bool} {Q:Value→Shared→Prop} (X:K.In s.heap) (I:sU s.heap x dx C mA) (hg:PySem.W.plainGet K C name=true) (hh:PySem.W.hasDictIn K C=true)
  (ha:PySem.W.findIn K (.ref C) name=some none) (hv:mA name=some v) (hv':PySem.W.handedIn v=true) (h:Q v { s with toks:=s.toks + 1 }) :
  wpAny (model prog w) A (getAttr (.ref x) name expr) Q E s:=by
 obtain ⟨od,J,hl⟩:=I.look
 exact PySem.W.get_value X J (PySem.W.plainGet_of hg).1 (PySem.W.findObj_own hh ha rfl (by rw [hl,hv])) hv' h
theorem yc {pl:Sem Bool} {Q:Value × List Value→Shared→Prop} (X:K.In s.heap) (I:sU s.heap x dx C mA) (hg:PySem.W.plainGet K C name=true)
  (hf:PySem.W.findIn K (.ref C) name=some (some (.ref f))) (ht:PySem.W.isFn K (.ref f)=true) (hv:mA name=none) (h:Q (.ref f,[.ref x]) s) :
  wpAny (model prog w) A (getMethod (.ref x) name pl) Q E s:=by
 obtain ⟨od,J,hl⟩:=I.look
 exact PySem.W.method_fn X J (PySem.W.plainGet_of hg).1 (PySem.W.plainGet_of hg).2 hf (beq_iff_eq.mp ht) (by show (PySem.W.lookIn name od).map (·.isSome)=some false; rw [hl,hv]; rfl) h
theorem By {ns:List Str} {Q:Unit→Shared→Prop} (X:K.In s.heap) (I:sU s.heap x dx C mA)
  (hs:PySem.W.findIn K (.ref C) "__setattr__" = some (some (.builtin "object.__setattr__"))) (hp:PySem.W.plainOver K C=true) (ht:PySem.W.takerIn K C name=some none) (hh:PySem.W.hasDictIn K C=true)
  (hw:PySem.Within mA ns) (hsz:ns.length ≤ sizeLine)
  (h:∀ h',sU h' x dx C (fun y=>if y=name then some v else mA y)→Heap.SameBut dx s.heap h'→Q () { s with heap:=h',toks:=s.toks + 2 }) :
  wpAny (model prog w) A (setAttr (.ref x) name v) Q E s:=by
 obtain ⟨od,J,hl⟩:=I.look
 refine PySem.W.set_plain X J hs (PySem.W.osa_open (s:={ s with toks:=s.toks + 1 }) (r:=none) X J hp ht fun b=>?_)
 obtain ⟨cd,hc,hd'⟩:=PySem.W.any_some hh
 have hx:s.heap.get? x=some ⟨.ref C,some dx,.plain,#[]⟩:=I.obj
 refine wpAny_bind (wpAny_pure (wpAny_bind (wpAny_bind (wpAny_loadPart hx (wpAny_bind (PySem.W.Looks.here (s:={ s with toks:=s.toks + 1 }) (PySem.W.looks_clsIn X hc) ?_))))))
 rw [hd']
 refine wpAny_pure (a:=some dx) (wpAny_bind (wpAny_pure (wpAny_bind ?_)))
 refine wpAny_nsSet1 (s:={ s with toks:=s.toks + 1 }) I.ns fun h' hn2 hs2=>?_
 obtain ⟨oD,esD,epD,hoD,hdD,hcD⟩:=hn2.count (PySem.Within.cons name v hw)
 refine wpAny_bind (wpAny_lookBehind hoD (by rw [hdD]; exact pastItsLine_dict (Nat.le_trans hcD (by rw [List.length_cons]; omega))) ?_)
 exact wpAny_pure (h _ ⟨(hs2.2 _ (Ne.symm I.ne)).trans I.obj,hn2,I.ne⟩ hs2)
theorem yd {R:Result→Shared→Prop} {vs:List Value} {kw:List (Str × Value)} (X:K.In s.heap) (hm:PySem.W.makesIn K C=true)
  (hi:PySem.W.findIn K (.ref C) "__init__" = some (some (.ref f))) (hf:PySem.W.typeIn K (.ref f)=some (.type "function"))
  (h:codeAny (model prog w) (A.under (.builtin "type.__call__" ⟨.ref C :: vs,kw⟩)) (.call (.ref f) ⟨.ref (s.heap.objs.size + 1) :: vs,kw⟩) (PySem.W.InitBack (s.heap.objs.size + 1) R)
   { s with heap:=(s.heap.push PySem.W.emptyDict).push (PySem.W.instObj C s.heap.objs.size) }) :
  codeAny (model prog w) A (.call (.ref C) ⟨vs,kw⟩) R s:=by
 obtain ⟨hh,g,d,t,os⟩:=s
 exact PySem.W.make_core (PySem.W.makes_of X hm) (PySem.W.looks_findIn X hi) (fun self=>PySem.W.bind_fn X self hf) (.inl rfl) h
end
def dC (f:Str) (v:V):List (Str × V)→List (Str × V)
 | []=>[(f,v)]
 | (g,x) :: r=>if g=f then (g,v) :: r else (g,x) :: dC f v r
theorem kK (f g:Str) (v:V):∀ fs:List (Str × V),(dC f v fs).lookup g=if g=f then some v else fs.lookup g
 | []=>by
  show List.lookup g [(f,v)]=_
  by_cases h:g=f
  ·have hb:(g == f)=true:=beq_iff_eq.mpr h
   simp only [List.lookup,hb,if_pos h]
  ·have hb:(g == f)=false:=beq_eq_false_iff_ne.mpr h
   simp only [List.lookup,hb,if_neg h]
 | (k,x) :: r=>by
  have ih:=kK f g v r
  rw [show dC f v ((k,x) :: r)=(if k=f then (k,v) :: r else (k,x) :: dC f v r) from rfl]
  by_cases hk:k=f
  ·rw [if_pos hk]
   by_cases h:g=k
   ·have hb:(g == k)=true:=beq_iff_eq.mpr h
    simp only [List.lookup,hb,if_pos (h.trans hk)]
   ·have hb:(g == k)=false:=beq_eq_false_iff_ne.mpr h
    simp only [List.lookup,hb,if_neg (fun e:g=f=>h (e.trans hk.symm))]
  ·rw [if_neg hk]
   by_cases h:g=k
   ·have hb:(g == k)=true:=beq_iff_eq.mpr h
    simp only [List.lookup,hb,if_neg (fun e:g=f=>hk (h.symm.trans e))]
   ·have hb:(g == k)=false:=beq_eq_false_iff_ne.mpr h
    simp only [List.lookup,hb]
    exact ih
theorem j0 (f:Str) (v:V):∀ fs:List (Str × V),f ∈ (dC f v fs).map (·.1)∧∀ g,g ∈ fs.map (·.1)→g ∈ (dC f v fs).map (·.1)
 | []=>⟨by simp [dC],fun g h=>by simp at h⟩
 | (k,x) :: r=>by
  obtain ⟨i1,i2⟩:=j0 f v r
  rw [show dC f v ((k,x) :: r)=(if k=f then (k,v) :: r else (k,x) :: dC f v r) from rfl]
  by_cases hk:k=f
  ·rw [if_pos hk]
   subst hk
   exact ⟨by simp,fun g h=>by simpa using h⟩
  ·rw [if_neg hk]
   refine ⟨?_,fun g h=>?_⟩
   ·rw [List.map_cons]
    exact List.mem_cons_of_mem _ i1
   ·rw [List.map_cons] at h ⊢
    rcases List.mem_cons.mp h with e | e
    ·exact List.mem_cons.mpr (.inl e)
    ·exact List.mem_cons_of_mem _ (i2 g e)
theorem kM (f:Str) (v:V):∀ fs:List (Str × V),(dC f v fs).length ≤ fs.length + 1
 | []=>by simp [dC]
 | (k,x) :: r=>by
  have ih:=kM f v r
  rw [show dC f v ((k,x) :: r)=(if k=f then (k,v) :: r else (k,x) :: dC f v r) from rfl]
  by_cases hk:k=f
  ·rw [if_pos hk,List.length_cons,List.length_cons]; omega
  ·rw [if_neg hk,List.length_cons,List.length_cons]; omega
theorem fM.some_of {v:V} {o:Option Value} (r:fM (some v) o):∃ u,o=some u∧RelV v u:=by
 cases o with
 | none=>exact (show False from r).elim
 | some u=>exact ⟨u,rfl,r⟩
theorem fM.none_of {o:Option Value} (r:fM none o):o=none:=by
 cases o with
 | none=>rfl
 | some u=>exact (show False from r).elim
theorem wu {v:V} {u:Value} (r:RelV v u):PySem.W.handedIn u=true:=by
 cases v with
 | non=>cases (show u=Value.none from r); rfl
 | bl b=>cases (show u=Value.bool b from r); rfl
 | int i=>obtain ⟨t,e⟩:=(show ∃ t,u=Value.int i t from r); cases e; rfl
 | str x=>obtain ⟨t,e⟩:=(show ∃ t,u=Value.str x t from r); cases e; rfl
 | xK b=>obtain ⟨t,e⟩:=(show ∃ t,u=Value.bytes b t from r); cases e; rfl
 | flt b=>obtain ⟨t,e⟩:=(show ∃ t,u=Value.float b t from r); cases e; rfl
 | ref a=>cases (show u=Value.ref a from r); rfl
 | ty n=>cases (show u=Value.type n from r); rfl
section
variable {P:Program} {w:World} {H H':Hp} {h h':Heap} {a C dx:Addr} {fs fs':List (Str × V)}
theorem qu (hok:i9 P w H h) (e:H a=some (.ins C dx fs)):∃ mA,sU h a dx C mA∧(∀ f,fM (fs.lookup f) (mA f))∧PySem.Within mA (fs.map (·.1))∧fs.length ≤ 1000∧H dx=some (.own a):=by
 obtain ⟨d,z,ne,ob,mA,n,r,q⟩:=(show cE P w H h a (.ins C dx fs) from hok a _ e)
 exact ⟨mA,⟨ob,n,ne⟩,r,q,z,d⟩
end
structure Cls (K:PySem.W.Frag) (C:Addr):Prop where
 pg:PySem.W.plainGet K C Str.empty=true
 hd:PySem.W.hasDictIn K C=true
 po:PySem.W.plainOver K C=true
 sa:PySem.W.findIn K (.ref C) "__setattr__" = some (some (.builtin "object.__setattr__"))
theorem Cls.get {K:PySem.W.Frag} {C:Addr} (c:Cls K C) (f:Str):PySem.W.plainGet K C f=true:=c.pg
def dq (K:PySem.W.Frag) (C:Addr) (f:Str):Prop:=PySem.W.findIn K (.ref C) f=some none
theorem dq.taker {K:PySem.W.Frag} {C:Addr} {f:Str} (n:dq K C f):PySem.W.takerIn K C f=some none:=by
 unfold PySem.W.takerIn
 rw [show PySem.W.findIn K (.ref C) f=some none from n]
 rfl
structure Meth (K:PySem.W.Frag) (C:Addr) (m:Str) (f:Addr):Prop where
 at_:PySem.W.findIn K (.ref C) m=some (some (.ref f))
 fn:PySem.W.isFn K (.ref f)=true
 kp:PySem.W.keepIn K (.ref f)=true
section
variable {X:Cx} {pins:List (Addr × Obj)} {σ:St} {H:Hp} {s:Shared} {a C dx:Addr} {fs:List (Str × V)} {f:Str} {v:V} {A:Around} {E:Value→Shared→Prop}
theorem sV {b:Bool} {Q:Value→Shared→Prop} (I:Inv X pins σ H s) (e:H a=some (.ins C dx fs)) (c:Cls X.K C) (n:dq X.K C f) (l:fs.lookup f=some v)
  (h:∀ u s',Inv X pins σ H s'→RelV v u→Q u s'):wpAny (model X.prog X.w) A (getAttr (.ref a) f b) Q E s:=by
 obtain ⟨mA,O,r,_,_,_⟩:=qu I.hok e
 obtain ⟨u,hu,ru⟩:=fM.some_of (v:=v) (o:=mA f) (by rw [← l]; exact r f)
 exact get_map I.mn O (c.get f) c.hd n hu (wu ru) (h u _ (I.tok _) ru)
theorem sW {m:Str} {g:Addr} {pl:Sem Bool} {Q:Value × List Value→Shared→Prop} (I:Inv X pins σ H s) (e:H a=some (.ins C dx fs)) (c:Cls X.K C) (k:Meth X.K C m g) (l:fs.lookup m=none)
  (h:Q (.ref g,[.ref a]) s):wpAny (model X.prog X.w) A (getMethod (.ref a) m pl) Q E s:=by
 obtain ⟨mA,O,r,_,_,_⟩:=qu I.hok e
 have hn:mA m=none:=fM.none_of (by rw [← l]; exact r m)
 exact yc I.mn O (c.get m) k.at_ k.fn hn h
theorem sX {y:V} {u:Value} {Q:Unit→Shared→Prop} (I:Inv X pins σ H s) (e:H a=some (.ins C dx fs)) (c:Cls X.K C) (n:dq X.K C f) (hl:fs.length < 1000) (ry:RelV y u)
  (h:∀ s',Inv X pins σ (upd H a (.ins C dx (dC f y fs))) s'→Q () s'):wpAny (model X.prog X.w) A (setAttr (.ref a) f u) Q E s:=by
 obtain ⟨mA,O,r,wi,_,ho⟩:=qu I.hok e
 have hz:(fs.map (·.1)).length ≤ sizeLine:=by rw [List.length_map,sizeLine_eq]; omega
 refine By I.mn O c.sa c.po n.taker c.hd wi hz fun h' O' sb=>h _ ?_
 have hd:∃ o,h'.get? dx=some o:=let ⟨o,_,_,e',_⟩:=O'.ns; ⟨o,e'⟩
 refine I.write (x:=a) (e:=dx) (by rw [e]; exact True.intro) (.inr ho) (fun b q hb z=>(sb.2 b hb).trans z) hd ?_
 refine ⟨by rw [aq O.ne]; exact ho,?_,O.ne,O'.obj,_,O'.ns,fun g=>?_,fun g hg=>?_⟩
 ·have:=kM f y fs; omega
 ·show fM ((dC f y fs).lookup g) (if g=f then some u else mA g)
  rw [kK]
  by_cases q:g=f
  ·rw [if_pos q,if_pos q]; exact ry
  ·rw [if_neg q,if_neg q]; exact r g
 ·by_cases q:g=f
  ·rw [q]; exact (j0 f y fs).1
  ·refine (j0 f y fs).2 g (wi g fun z=>hg ?_)
   show (if g=f then some u else mA g)=none
   rw [if_neg q]; exact z
theorem Inv.made (I:Inv X pins σ H s):Inv X pins σ (upd (upd H s.heap.objs.size (.own (s.heap.objs.size + 1))) (s.heap.objs.size + 1) (.ins C s.heap.objs.size []))
  { s with heap:=(s.heap.push PySem.W.emptyDict).push (PySem.W.instObj C s.heap.objs.size) }:=by
 have e1:(s.heap.push PySem.W.emptyDict).get? s.heap.objs.size=some PySem.W.emptyDict:=Heap.get?_push_size s.heap rfl
 have e2:((s.heap.push PySem.W.emptyDict).push (PySem.W.instObj C s.heap.objs.size)).get? (s.heap.objs.size + 1)=some (PySem.W.instObj C s.heap.objs.size):=by
  have:=Heap.get?_push_size (s.heap.push PySem.W.emptyDict) (o:=PySem.W.instObj C s.heap.objs.size) rfl
  rwa [Heap.size_push] at this
 have e3:(s.heap.push PySem.W.emptyDict).Ns s.heap.objs.size (fun _=>none):=⟨PySem.W.emptyDict,#[],_,e1,rfl,(fun e he=>absurd he (by simp)),fun _=>rfl⟩
 have I1:=I.laid (a:=s.heap.objs.size) (o:=.own (s.heap.objs.size + 1)) (h':=s.heap.push PySem.W.emptyDict) (t':=s.toks) (fun b u q=>Heap.get?_push_of_some _ q) (Nat.le_refl _) ⟨_,e1⟩
 refine I1.laid (a:=s.heap.objs.size + 1) (o:=.ins C s.heap.objs.size []) (t':=s.toks) (fun b u q=>Heap.get?_push_of_some _ q) (Nat.le_of_eq (Heap.size_push _ _)) ?_
 have ne:s.heap.objs.size ≠ s.heap.objs.size + 1:=Nat.ne_of_lt (Nat.lt_succ_self _)
 refine ⟨by rw [aq ne,ai],Nat.zero_le _,ne,e2,fun _=>none,(Heap.Ns1.of_empty e3).at fun o q=>Heap.get?_push_of_some _ q,fun _=>True.intro,fun y hy=>absurd rfl hy⟩
theorem Bz {prog:Program} {w:World} {env:Env} {e:Expr} {f:Str} {pos:Pos} {s:Shared} {Q:Value→Shared→Prop} (hb:attributeBase e f env (eval e env)=eval e env)
  (h:wpAny (model prog w) A (eval e env) (fun o s₁=>wpAny (model prog w) A (getAttr o f true) Q E s₁) E s):wpAny (model prog w) A (eval (.Attribute e f pos) env) Q E s :=
 Attribute_any_ h (by rw [arm_eval_Attribute,hb])
end
def QS (K:PySem.W.Frag) (ta:TE) (f:Str):TE:=fun σ H Q=>ta σ H fun x H1=>∃ a C dx fs v,x=.ref a∧H1 a=some (.ins C dx fs)∧Cls K C∧dq K C f∧fs.lookup f=some v∧Q v H1
def QT (K:PySem.W.Frag) (ta tv:TE) (f:Str):TS:=fun D σ H=>tv σ H fun y H1=>ta σ H1 fun x H2=>∃ a C dx fs,x=.ref a∧H2 a=some (.ins C dx fs)∧Cls K C∧dq K C f∧fs.length < 1000 ∧
 D.nx σ (upd H2 a (.ins C dx (dC f y fs)))
section
variable {X:Cx} {o e value:Expr} {f:Str} {pos pos' tpos:Pos} {ta tv:TE}
theorem bg (he:PE X e ta) (hb:attributeBase e f X.env (eval e X.env)=eval e X.env):PE X (.Attribute e f pos) (QS X.K ta f):=by
 intro pins s σ H Q I h
 refine Bz hb (cA (he pins s σ H _ I h) fun u s1 ⟨x,H1,I1,rx,a,C,dx,fs,v,ex,ea,c,n,l,q⟩=>?_)
 subst ex
 obtain rfl:u=Value.ref a:=rx
 exact sV I1 ea c n l fun u' s2 I2 ru=>⟨v,H1,I2,ru,q⟩
theorem cS (ha:PE X o ta) (hv:PE X value tv) (hs:swapsWith value (some (.Attribute o f pos')) pos.line X.env=pure false):PS X (.Assign [.Attribute o f pos'] value pos) (QT X.K ta tv f):=by
 intro pins s σ H D I h
 refine plainObj_wpAny_Assign_Attribute (cA (hv pins s σ H _ I h) fun u s1 ⟨y,H1,I1,ry,q⟩=>cA (ha pins s1 σ H1 _ I1 q) fun ov s2 ⟨x,H2,I2,rx,a,C,dx,fs,ex,ea,c,n,l,q2⟩=>?_) hs
 subst ex
 obtain rfl:ov=Value.ref a:=rx
 exact sX I2 ea c n l ry fun s3 I3=>⟨σ,_,I3,q2⟩
end
section
variable {X:Cx} {pins:List (Addr × Obj)} {σ:St} {H:Hp} {s:Shared} {A:Around} {E:Value→Shared→Prop} {Q:Value→Shared→Prop} {c:Value} {b:Bool}
end
structure dr (k:Nat) (A:Around):Prop where
 hd:A.handled=none
 dp:A.depth + 3 * k + 5 < recursionLimit
 un:A.units + 16 * k + 200 < cLine
theorem dr.mono {j k:Nat} {A:Around} (r:dr k A) (h:j ≤ k):dr j A:=⟨r.hd,by have:=r.dp; omega,by have:=r.un; omega⟩
theorem dr.deeper {k:Nat} {A:Around} (r:dr (k + 1) A) (env:Env):dr k (A.deeper env) :=
 ⟨r.hd,by have:=r.dp; show A.depth + 1 + 3 * k + 5 < _; omega,by have:=r.un; show A.units + 3 + 16 * k + 200 < _; omega⟩
theorem sY {A:Around} {C:Addr} {us:List Value} {kw:List (Str × Value)}:(A.under (.builtin "type.__call__" ⟨.ref C :: us,kw⟩)).depth=A.depth + 1:=by
 first | rfl | simp [Around.under,Code.weight,Code.isCreation,Code.isGuard,Code.isCaller,Code.frames,Code.isFrame,guardIds]
theorem sZ {A:Around} {C:Addr} {us:List Value} {kw:List (Str × Value)}:(A.under (.builtin "type.__call__" ⟨.ref C :: us,kw⟩)).units=A.units + 1:=by
 first | rfl | simp [Around.under,Code.cUnits,Code.frames,Code.isFrame]
theorem dr.make {k:Nat} {A:Around} (r:dr (k + 1) A) (C:Addr) (us:List Value) (kw:List (Str × Value)):dr k (A.under (.builtin "type.__call__" ⟨.ref C :: us,kw⟩)) :=
 ⟨r.hd,by have:=r.dp; rw [sY]; omega,by have:=r.un; rw [sZ]; omega⟩
theorem dr.depth {k:Nat} {A:Around} (r:dr k A):A.depth < recursionLimit:=by have:=r.dp; omega
theorem dr.units {k:Nat} {A:Around} (r:dr k A):A.units + 64 < cLine:=by have:=r.un; omega
def Fx:TA:=fun _ H Q=>Q [] H
def Eg (ta:TE) (tr:TA):TA:=fun σ H Q=>ta σ H fun x H1=>tr σ H1 fun xs H2=>Q (x :: xs) H2
section
variable {X:Cx} {e:Expr} {es:List Expr} {te:TE} {t:TA} {pos:Pos}
theorem ao:PA X [] Fx:=fun _ _ _ _ H Q I h=>Calls.spliced_nil ⟨[],H,I,.nil,h⟩
theorem ah (ha:PE X e te) (hr:PA X es t) (hs:starEach (e :: es) X.env=(false,eval e X.env) :: starEach es X.env:=by rfl):PA X (e :: es) (Eg te t):=by
 intro pos pins s σ H Q I h
 rw [hs]
 show wpAny _ _ (spliced ((false,eval e X.env) :: backTo pos (starEach es X.env))) _ _ s
 refine Calls.spliced_cons (cA (ha pins s σ H _ I h) fun u s1 ⟨x,H1,I1,r1,q1⟩=>?_)
 exact cA (hr pos pins s1 σ H1 _ I1 q1) fun us s2 ⟨xs,H2,I2,r2,q2⟩=>⟨x :: xs,H2,I2,.cons r1 r2,q2⟩
def JX (t:TA):TE:=fun σ H Q=>t σ H fun xs H1=>xs.length ≤ sizeLine∧∀ p,H1 p=none→Q (.ref p) (upd H1 p (.tup xs))
def Fy (t:TA):TE:=fun σ H Q=>t σ H fun xs H1=>xs.length ≤ sizeLine∧∀ p,H1 p=none→Q (.ref p) (upd H1 p (.lst xs))
theorem bt {x1} (h:PA X es t):PE X (.Tuple es x1 pos) (JX t):=by
 intro pins s σ H Q I hq
 refine wpAny_Tuple_spliced (cA (h pos pins s σ H _ I hq) fun us s1 ⟨xs,H1,I1,r,z,q⟩=>⟨by rw [← r.length]; exact z,?_⟩)
 have hf:H1 s1.heap.objs.size=none:=I1.hok.fresh (Nat.le_refl _)
 refine ⟨.ref s1.heap.objs.size,upd H1 s1.heap.objs.size (.tup xs),I1.laid (t':=s1.toks) (fun b u e=>Heap.get?_push_of_some _ e) (Nat.le_refl _) ?_,rfl,q _ hf⟩
 exact ⟨z,us,r,⟨_,Heap.get?_push_size _ rfl,rfl,_,rfl⟩⟩
theorem ck (h:PA X es t):PE X (.List es pos) (Fy t):=by
 intro pins s σ H Q I hq
 refine wpAny_List_spliced (cA (h pos pins s σ H _ I hq) fun us s1 ⟨xs,H1,I1,r,z,q⟩=>⟨by rw [← r.length]; exact z,?_⟩)
 have hf:H1 s1.heap.objs.size=none:=I1.hok.fresh (Nat.le_refl _)
 refine ⟨.ref s1.heap.objs.size,upd H1 s1.heap.objs.size (.lst xs),I1.laid (t':=s1.toks) (fun b u e=>Heap.get?_push_of_some _ e) (Nat.le_refl _) ?_,rfl,q _ hf⟩
 exact ⟨z,us,0,r,Heap.get?_push_size _ rfl⟩
end
abbrev Sp:=List V→Hp→VK→XK→Prop
abbrev uL:=List Env→Hp→Shared→XK→Value→Shared→Prop
structure tf (P:Program) (w:World) (K:PySem.W.Frag) (mg:Str→Option Value) (base:Heap) (A:Around) (outer:List Env) (s:Shared) (H:Hp):Prop where
 frames:A.frames=some outer
 mod:Mod K mg base
 bs:∀ b o,base.get? b=some o→s.heap.get? b=some o∧H b=none
 Bt:base.objs.size ≤ s.heap.objs.size
 jB:s.heap.FunFrames base outer
 Fh:∀ b ∈ frs outer,H b=none
 hok:i9 P w H s.heap
 bare:AllBare s.gens
def CE (outer:List Env) (P:Program) (w:World) (H:Hp) (s:Shared) (Q:VK) (u:Value) (s':Shared):Prop :=
 ∃ v H',s'.os=s.os∧AllBare s'.gens∧Un (frs outer) [] H H' s.heap s'.heap∧i9 P w H' s'.heap∧RelV v u∧Q v H'
def CR (CX:uL) (outer:List Env) (P:Program) (w:World) (H:Hp) (s:Shared) (Q:VK) (E:XK) (r:Result) (s':Shared):Prop :=
 match r with
 | .ok (.ret u)=>CE outer P w H s Q u s'
 | .ok _=>False
 | .error e=>CX outer H s E e s'
structure aL (P:Program) (w:World) (K:PySem.W.Frag) (mg:Str→Option Value) (base:Heap) (CX:uL) (k:Nat) (f:Addr) (fd:FuncData) (ps:List Str) (sp:Sp):Prop where
 len:∀ vs H Q E,sp vs H Q E→vs.length=ps.length
 run:∀ (A:Around) (outer:List Env) (s:Shared) (H:Hp) (args:Args) (us:List Value) (vs:List V) (Q:VK) (E:XK),dr k A→tf P w K mg base A outer s H→BindsTo s fd args (ps.zip us)→Vals vs us→sp vs H Q E →
  codeAny (model P w) A (.call (.ref f) args) (CR CX outer P w H s Q E) s
theorem aL.mono {P:Program} {w:World} {K:PySem.W.Frag} {mg:Str→Option Value} {base:Heap} {CX:uL} {j k:Nat} {f:Addr} {fd:FuncData} {ps:List Str} {sp:Sp} (F:aL P w K mg base CX j f fd ps sp) (h:j ≤ k) :
  aL P w K mg base CX k f fd ps sp:=⟨F.len,fun A outer s H args us vs Q E hr=>F.run A outer s H args us vs Q E (hr.mono h)⟩
theorem tf.make {P:Program} {w:World} {K:PySem.W.Frag} {mg:Str→Option Value} {base:Heap} {A:Around} {outer:List Env} {s:Shared} {H:Hp} (e:tf P w K mg base A outer s H) (C:Addr) (us:List Value) (kw:List (Str × Value)) :
  tf P w K mg base (A.under (.builtin "type.__call__" ⟨.ref C :: us,kw⟩)) outer s H:=⟨by first | exact e.frames | (simpa [Around.under,Code.envs,Code.isFrame,pushEnvs] using e.frames),e.mod,e.bs,e.Bt,e.jB,e.Fh,e.hok,e.bare⟩
section
variable {X:Cx} {pins:List (Addr × Obj)} {σ:St} {H:Hp} {s s':Shared}
theorem Inv.env0 (I:Inv X pins σ H s):tf X.prog X.w X.K X.mg X.base X.A X.stack s H :=
 ⟨I.ok.frames,I.ok.mod,I.bs,Nat.le_trans I.ok.Bt I.sz,I.stack,I.lN,I.hok,I.bare⟩
theorem Inv.after {Q:VK} {u:Value} (I:Inv X pins σ H s) (h:CE X.stack X.prog X.w H s Q u s'):EP X pins σ Q u s':=by
 obtain ⟨v,H',os,bare,un,hok,r,q⟩:=h
 obtain ⟨hh,g,d,t,os'⟩:=s'
 obtain rfl:os'=s.os:=os
 exact ⟨v,H',I.call (h':=hh) (g':=g) (d':=d) (t':=t) (ch:=[]) un hok bare (fun b z=>absurd z (by simp)),r,q⟩
end
def JY (sp:Sp) (oC:List V) (E:XK) (t:TA):TE:=fun σ H Q=>t σ H fun vs H1=>sp (vs ++ oC) H1 Q E
def JZ (C:Addr) (m:Str) (sp:Sp) (oC:List V) (E:XK) (ta:TE) (t:TA):TE:=fun σ H Q=>ta σ H fun x H1=>∃ a dx fs,x=.ref a∧H1 a=some (.ins C dx fs)∧fs.lookup m=none ∧
 t σ H1 fun vs H2=>sp (x :: (vs ++ oC)) H2 Q E
def J0 (C:Addr) (sp:Sp) (oC:List V) (E:XK) (t:TA):TE:=fun σ H Q=>t σ H fun vs H1=>∀ x dx,H1 x=none→H1 dx=none→dx ≠ x →
 sp (.ref x :: (vs ++ oC)) (upd (upd H1 dx (.own x)) x (.ins C dx [])) (fun v H2=>v=.non∧Q (.ref x) H2) E
def Binds (K:PySem.W.Frag) (fd:FuncData) (ps:List Str) (ds:List Value):Prop :=
 ∀ (s:Shared) (us:List Value),K.In s.heap→(us ++ ds).length=ps.length→BindsTo s fd ⟨us,[]⟩ (ps.zip (us ++ ds))
theorem Binds.all {K:PySem.W.Frag} {fd:FuncData} {ps:List Str} (h:∀ us:List Value,us.length=ps.length→bindArgs fd ⟨us,[]⟩=pure (ps.zip us)):Binds K fd ps []:=fun s us _ hl=>by
 rw [List.append_nil] at hl ⊢
 exact .of_eq (h us hl)
def Passes (CX:uL) (X:Cx) (E:XK):Prop:=∀ (pins:List (Addr × Obj)) (σ:St) (H:Hp) (s:Shared) (e:Value) (s':Shared),Inv X pins σ H s→CX X.stack H s E e s'→X.xe e s'
section
variable {X:Cx} {CX:uL} {k:Nat} {f C:Addr} {fd:FuncData} {ps:List Str} {sp:Sp} {oC:List V} {ds:List Value} {E:XK} {x m:Str} {p pos apos:Pos} {e o:Expr} {es:List Expr} {ta:TE} {t:TA}
theorem tj {pins:List (Addr × Obj)} {σ:St} {H:Hp} {s:Shared} {Q:VK} {us:List Value} {vs:List V} (F:aL X.prog X.w X.K X.mg X.base CX k f fd ps sp) (hr:dr k X.A) (hb:Binds X.K fd ps ds) (hd:Vals oC ds) (hx:Passes CX X E)
  (I:Inv X pins σ H s) (r:Vals vs us) (h:sp (vs ++ oC) H Q E):wpAny (model X.prog X.w) X.A (call (.ref f) us) (EP X pins σ Q) X.xe s:=by
 have r2:Vals (vs ++ oC) (us ++ ds):=r.append hd
 have hl:(us ++ ds).length=ps.length:=by rw [← r2.length]; exact F.len _ _ _ _ h
 refine wpAny_call (codeAny_mono (F.run X.A X.stack s H ⟨us,[]⟩ (us ++ ds) (vs ++ oC) Q E hr I.env0 (hb s us I.mn hl) r2 h) fun r s' hq=>?_)
 cases r with
 | error e=>exact hx pins σ H s e s' I hq
 | ok fl =>
  cases fl with
  | ret u=>exact I.after hq
  | next=>exact False.elim hq
  | brk=>exact False.elim hq
  | cont=>exact False.elim hq
theorem aM (F:aL X.prog X.w X.K X.mg X.base CX k f fd ps sp) (hr:dr k X.A) (hg:Gl X x) (hm:X.mg x=some (.ref f)) (hk:PySem.W.keepIn X.K (.ref f)=true) (hb:Binds X.K fd ps ds) (hd:Vals oC ds) (hx:Passes CX X E)
  (ha:PA X (e :: es) t) (hdb:(x == ("__debug__" : Str))=false:=by decide) (he:starEach (e :: es) X.env=(false,eval e X.env) :: starEach es X.env:=by rfl) (hpl:(backTo pos (starEach es X.env)).any (·.1)=false:=by rfl) :
  PE X (.Call (.Name x p) (e :: es) [] pos) (JY sp oC E t):=by
 intro pins s σ H Q I h
 refine wpAny_Call_Name_kw (jC I hg hm ?_ hdb)
 refine PySem.W.callWith_K (h₀:=X.base) I.ok.mod.Jg hk (cA (ha pos pins s σ H _ I h) fun us s1 ⟨vs,H1,I1,r,q⟩=>⟨I1.mn,?_⟩) he hpl
 exact tj F hr hb hd hx I1 r q
theorem dJ {pl:Sem Bool} (he:PE X o ta) (c:Cls X.K C) (hm:Meth X.K C m f) (F:aL X.prog X.w X.K X.mg X.base CX k f fd ps sp) (hr:dr k X.A) (hb:Binds X.K fd ps ds) (hd:Vals oC ds) (hx:Passes CX X E)
  (ht:eval (.Call (.Attribute o m apos) [] [] pos) X.env=(do
   let ov ← eval o X.env
   standAt apos.atName
   let (f,first) ← holding [ov] (getMethod ov m pl)
   callWith pos f first (backTo pos (starEach [] X.env)) (backToKw pos (keywordEach [] X.env))):=by rfl) :
  PE X (.Call (.Attribute o m apos) [] [] pos) (JZ C m sp oC E ta Fx):=by
 intro pins s σ H Q I h
 refine PySem.W.methodCall_KW (pl:=pl) (cA (he pins s σ H _ I h) fun u s1 ⟨x,H1,I1,rx,a,dx,fs,ex,ea,l,q⟩=>?_) ht
 subst ex
 obtain rfl:u=Value.ref a:=rx
 refine sW I1 ea c hm l ?_
 exact PySem.W.callWith_K0 (first:=[.ref a]) I1.mn hm.kp (tj (us:=[.ref a]) (vs:=[.ref a]) F hr hb hd hx I1 (.cons rfl .nil) q)
structure Mk (K:PySem.W.Frag) (C f:Addr):Prop where
 makes:PySem.W.makesIn K C=true
 init:PySem.W.findIn K (.ref C) "__init__" = some (some (.ref f))
 fn:PySem.W.isFn K (.ref f)=true
 kp:PySem.W.keepIn K (.ref C)=true
theorem ye {pins:List (Addr × Obj)} {σ:St} {H:Hp} {s:Shared} {Q:VK} {us:List Value} {vs:List V} (M:Mk X.K C f) (F:aL X.prog X.w X.K X.mg X.base CX k f fd ps sp) (hr:dr (k + 1) X.A) (hb:Binds X.K fd ps ds) (hd:Vals oC ds)
  (hx:Passes CX X E) (I:Inv X pins σ H s) (r:Vals vs us)
  (h:∀ x dx,H x=none→H dx=none→dx ≠ x→sp (.ref x :: (vs ++ oC)) (upd (upd H dx (.own x)) x (.ins C dx [])) (fun v H2=>v=.non∧Q (.ref x) H2) E) :
  wpAny (model X.prog X.w) X.A (call (.ref C) us) (EP X pins σ Q) X.xe s:=by
 have hq:=h (s.heap.objs.size + 1) s.heap.objs.size (I.hok.fresh (Nat.le_succ _)) (I.hok.fresh (Nat.le_refl _)) (Nat.ne_of_lt (Nat.lt_succ_self _))
 have I2:=Inv.made (C:=C) I
 have r2:Vals (V.ref (s.heap.objs.size + 1) :: (vs ++ oC)) (Value.ref (s.heap.objs.size + 1) :: (us ++ ds)):=.cons rfl (r.append hd)
 have hl:(Value.ref (s.heap.objs.size + 1) :: us ++ ds).length=ps.length:=by
  have e:=r2.length
  rw [F.len _ _ _ _ hq] at e
  exact e.symm
 refine wpAny_call (yd (f:=f) I.mn M.makes M.init (beq_iff_eq.mp M.fn) (codeAny_mono (F.run _ X.stack _ _ ⟨Value.ref (s.heap.objs.size + 1) :: us,[]⟩ (Value.ref (s.heap.objs.size + 1) :: (us ++ ds)) _ _ E (hr.make C us [])
  (I2.env0.make C us []) (hb _ (Value.ref (s.heap.objs.size + 1) :: us) I2.mn hl) r2 hq) fun r s' hq'=>?_))
 cases r with
 | error e=>exact hx pins σ _ _ e s' I2 hq'
 | ok fl =>
  cases fl with
  | ret u =>
   obtain ⟨v,H',I3,rv,ev,q3⟩:=I2.after hq'
   subst ev
   exact ⟨rv,⟨V.ref (s.heap.objs.size + 1),H',I3,rfl,q3⟩⟩
  | next=>exact False.elim hq'
  | brk=>exact False.elim hq'
  | cont=>exact False.elim hq'
theorem BA (M:Mk X.K C f) (F:aL X.prog X.w X.K X.mg X.base CX k f fd ps sp) (hr:dr (k + 1) X.A) (hg:Gl X x) (hm:X.mg x=some (.ref C)) (hb:Binds X.K fd ps ds) (hd:Vals oC ds) (hx:Passes CX X E)
  (ha:PA X (e :: es) t) (hdb:(x == ("__debug__" : Str))=false:=by decide) (he:starEach (e :: es) X.env=(false,eval e X.env) :: starEach es X.env:=by rfl) (hpl:(backTo pos (starEach es X.env)).any (·.1)=false:=by rfl) :
  PE X (.Call (.Name x p) (e :: es) [] pos) (J0 C sp oC E t):=by
 intro pins s σ H Q I h
 refine wpAny_Call_Name_kw (jC I hg hm ?_ hdb)
 refine PySem.W.callWith_K (h₀:=X.base) I.ok.mod.Jg M.kp (cA (ha pos pins s σ H _ I h) fun us s1 ⟨vs,H1,I1,r,q⟩=>⟨I1.mn,?_⟩) he hpl
 exact ye M F hr hb hd hx I1 r q
end
section
variable {X:Cx} {CX:uL} {k:Nat} {f C:Addr} {fd:FuncData} {ps ks:List Str} {sp:Sp} {E:XK} {x m:Str} {p pos apos kpos:Pos} {e o:Expr} {es:List Expr} {kws:List Keyword} {te ta:TE} {t tk:TA} {nm:Option Str}
variable {g:List Value→List Value→List Value} {gV:List V→List V→List V}
end
structure aI (N P:List Str) (sc:Scope):Prop where
 kind:sc.kind=.function
 co:sc.isCoroutine=false
 gen:sc.isGenerator=false
 nd:N.Nodup
 pre:N.take P.length=P
 par:∀ x ∈ P,sc.names.lookup x=some .local∨sc.names.lookup x=some .cell
 Fz:∀ y ∈ sc.names,y.2 ≠ .free
theorem pq {kindOf:Str→Option NameKind} {x:Str}:∀ {binds:List (Str × Value)} {m:Str→Option Value},(∀ v,(x,v) ∉ binds)→bindL kindOf binds m x=m x
 | [],_,_=>rfl
 | (n,v) :: r,m,h=>by
  unfold bindL
  rw [pq fun w hw=>h w (List.mem_cons_of_mem _ hw)]
  split
  ·have:x ≠ n:=by rintro rfl; exact h v List.mem_cons_self
   simp [this]
  ·rfl
theorem pw {kindOf:Str→Option NameKind} {x:Str}:∀ {binds:List (Str × Value)} {m:Str→Option Value},(∀ v,(x,v) ∉ binds)→bindC kindOf binds m x=m x
 | [],_,_=>rfl
 | (n,v) :: r,m,h=>by
  unfold bindC
  rw [pw fun w hw=>h w (List.mem_cons_of_mem _ hw)]
  split
  ·rfl
  ·have:x ≠ n:=by rintro rfl; exact h v List.mem_cons_self
   simp [this]
theorem pz {kindOf:Str→Option NameKind} {x:Str} {v:Value}:∀ {P:List Str} {vs:List Value} {i:Nat} {m:Str→Option Value},P.Nodup→P[i]? = some x→vs[i]? = some v→kindOf x=some .local →
  bindL kindOf (P.zip vs) m x=some v
 | [],_,_,_,_,h,_,_=>by simp at h
 | _ :: _,[],_,_,_,_,h,_=>by simp at h
 | p :: P,w :: vs,0,m,nd,h1,h2,hk=>by
  simp at h1 h2; subst h1; subst h2
  show bindL kindOf ((p,w) :: P.zip vs) m p=_
  unfold bindL
  rw [pq fun v hv=>(List.nodup_cons.mp nd).1 (List.of_mem_zip hv).1,if_pos hk]
  simp
 | p :: P,w :: vs,i + 1,m,nd,h1,h2,hk=>by
  show bindL kindOf ((p,w) :: P.zip vs) m x=_
  unfold bindL
  exact pz (i:=i) (List.nodup_cons.mp nd).2 (by simpa using h1) (by simpa using h2) hk
theorem pA {kindOf:Str→Option NameKind} {x:Str} {v:Value}:∀ {P:List Str} {vs:List Value} {i:Nat} {m:Str→Option Value},P.Nodup→P[i]? = some x→vs[i]? = some v→kindOf x ≠ some .local →
  bindC kindOf (P.zip vs) m x=some v
 | [],_,_,_,_,h,_,_=>by simp at h
 | _ :: _,[],_,_,_,_,h,_=>by simp at h
 | p :: P,w :: vs,0,m,nd,h1,h2,hk=>by
  simp at h1 h2; subst h1; subst h2
  show bindC kindOf ((p,w) :: P.zip vs) m p=_
  unfold bindC
  rw [pw fun v hv=>(List.nodup_cons.mp nd).1 (List.of_mem_zip hv).1,if_neg hk]
  simp
 | p :: P,w :: vs,i + 1,m,nd,h1,h2,hk=>by
  show bindC kindOf ((p,w) :: P.zip vs) m x=_
  unfold bindC
  exact pA (i:=i) (List.nodup_cons.mp nd).2 (by simpa using h1) (by simpa using h2) hk
def start (N:List Str) (vs:List V):St:=vs.map some ++ List.replicate (N.length - vs.length) none
def ja (CX:uL) (P:Program) (w:World) (K:PySem.W.Frag) (mg:Str→Option Value) (base:Heap) (N:List Str) (qual:Str) (scope:Scope) (f:Addr) (cd:Value) (A:Around) (outer:List Env) (s:Shared) (H:Hp) (E:XK):Cx where
 prog:=P
 w:=w
 K:=K
 mg:=mg
 base:=base
 A:=A.deeper (envOfC qual scope s.heap.objs.size f cd)
 N:=N
 s₀:=s
 H₀:=H
 env:=envOfC qual scope s.heap.objs.size f cd
 outer:=outer
 stack:=envOfC qual scope s.heap.objs.size f cd :: outer
 ex:=[]
 calm:=true
 fn:=fun _=>true
 pn:=[]
 xe:=fun e s'=>wpAny (model P w) (A.deeper (envOfC qual scope s.heap.objs.size f cd)) (leaving (envOfC qual scope s.heap.objs.size f cd) e) (fun _ s''=>CX outer H s E e s'') (fun e' s''=>CX outer H s E e' s'') s'
theorem rF {sc:Scope} {n:Nat} {x:Str} (h:sc.names.lookup x=some .cell):∃ c,(cellsFrom n sc.names []).lookup x=some c:=by
 have q:=PySem.W.cellsFrom_some sc.names n [] (.inl h)
 exact Option.isSome_iff_exists.mp q
theorem wx {CX:uL} {P:Program} {w:World} {K:PySem.W.Frag} {mg:Str→Option Value} {base:Heap} {N ps:List Str} {qual:Str} {scope:Scope} {f:Addr} {cd:Value} {A:Around} {outer:List Env} {s s1:Shared} {H:Hp} {E:XK} {us:List Value} {vs:List V}
  (S:aI N ps scope) (hd:A.handled=none) (e0:tf P w K mg base A outer s H) (hl:vs.length=ps.length) (r:Vals vs us)
  (x:InCallC s s.heap.objs.size (bindL (envOfC qual scope s.heap.objs.size f cd).kindOf (ps.zip us) fun _=>none) (cellsFrom (s.heap.objs.size + 1) scope.names []) (bindC (envOfC qual scope s.heap.objs.size f cd).kindOf (ps.zip us) fun _=>none) s1) :
  Inv (ja CX P w K mg base N qual scope f cd A outer s H E) [] (start N vs) H s1:=by
 have hpl:ps.length ≤ N.length:=by have:=congrArg List.length S.pre; rw [List.length_take] at this; omega
 obtain ⟨h1,tk,rfl,hk⟩:=x.done
 have J1:∀ b:Addr,b ∉ (ja CX P w K mg base N qual scope f cd A outer s H E).ex:=fun b z=>absurd (show b ∈ ([]:List Addr) from z) (by simp)
 refine ⟨⟨e0.mod,S.kind,rfl,rfl,Nat.le_refl _,fun y z c h1 h2=>?_,fun y hy=>?_,fun y c _ h=>?_,fun _=>hd,Around.frames_deeper e0.frames,.inr ⟨rfl,rfl⟩,fun b z=>absurd z (J1 b),e0.bs,e0.Bt,fun b _ _=>J1 b,fun b z=>absurd z (J1 b),e0.jB,e0.Fh⟩,
  rfl,e0.bare,Un.kept hk,⟨_,x.toInCall.ns,fun i y v h1 h2 h3=>?_⟩,fun y c h=>⟨_,x.cell y c h⟩,e0.hok.fresh (Nat.le_refl _),fun y c h=>?_,fun p hp=>absurd (show p ∈ ([]:List (Addr × Obj)) from hp) (by simp),e0.hok.kept hk,?_⟩
 ·exact name_of_addr x.apart (PySem.mem_of_lookup h1) (PySem.mem_of_lookup h2)
 ·have hy:scope.names.lookup y=some .cell∨scope.names.lookup y=some .free:=hy
  rcases hy with hy | hy
  ·exact rF hy
  ·exact absurd rfl (S.Fz _ (PySem.mem_of_lookup hy))
 ·exact Nat.le_of_lt (x.above y c (PySem.mem_of_lookup h))
 ·have hi:i < vs.length:=by
   unfold start at h2
   by_cases hi:i < vs.length
   ·exact hi
   ·rw [List.getElem?_append_right (by simpa using hi)] at h2
    rw [List.getElem?_replicate] at h2
    split at h2 <;> cases h2
  have ha:vs[i]? = some v:=by
   unfold start at h2
   rw [List.getElem?_append_left (by simpa using hi),List.getElem?_map] at h2
   cases e:vs[i]? with
   | none=>rw [e] at h2; cases h2
   | some a=>rw [e] at h2; cases h2; rfl
  obtain ⟨u,hu,rv⟩:=r.get ha
  have hp:ps[i]? = some y:=by
   rw [← S.pre,List.getElem?_take_of_lt (by omega)]; exact h1
  have ndP:ps.Nodup:=by rw [← S.pre]; exact S.nd.sublist (List.take_sublist _ _)
  refine ⟨u,rv,?_⟩
  rcases S.par y (List.mem_of_getElem? hp) with k | k
  ·exact .inl ⟨k,pz ndP hp hu k⟩
  ·obtain ⟨c,e⟩:=rF (n:=s.heap.objs.size + 1) k
   refine .inr ⟨.inl k,c,e,?_⟩
   have q:=x.cell y c e
   rw [pA ndP hp hu (by show scope.names.lookup y ≠ _; rw [k]; decide)] at q
   exact q
 ·exact e0.hok.fresh (Nat.le_of_lt (x.above y c (PySem.mem_of_lookup h)))
 ·unfold start
  show _=N.length
  rw [List.length_append,List.length_map,List.length_replicate]
  omega
theorem Eh {CX:uL} {P:Program} {w:World} {K:PySem.W.Frag} {mg:Str→Option Value} {base:Heap} {k:Nat} {f:Addr} {name qual:Str} {params:Arguments} {body:List Stmt} {scope:Scope} {dV kV doc pm cdv ct oc:Value} {an od:Option Addr}
  {osl:Array (Option Value)} {N ps:List Str} {sp:Sp} (lk:K.lookup f=some ⟨oc,od,.func (PySem.W.fnOf name qual params body scope dV kV doc pm an cdv ct),osl⟩) (hcd:PySem.W.codeIn K cdv qual=true) (S:aI N ps scope)
  (len:∀ vs H Q E,sp vs H Q E→vs.length=ps.length)
  (hbody:∀ (A:Around) (outer:List Env) (s:Shared) (H:Hp) (vs:List V) (Q:VK) (E:XK),dr k (A.deeper (envOfC qual scope s.heap.objs.size f cdv))→sp vs H Q E →
   ∃ t,oX (ja CX P w K mg base N qual scope f cdv A outer s H E) body t∧t { nx:=fun _ H'=>Q .non H',rt:=Q } (start N vs) H) :
  aL P w K mg base CX (k + 1) f (PySem.W.fnOf name qual params body scope dV kV doc pm an cdv ct) ps sp:=by
 refine ⟨len,fun A outer s H args us vs Q E hr e0 hb r hsp=>?_⟩
 have hl:=len _ _ _ _ hsp
 have KX:K.In s.heap:=e0.mod.Jg.keeps fun b o e=>(e0.bs b o e).1
 have lim:s.heap.NoLimit:=e0.mod.nolimit.keeps fun b o e=>(e0.bs b o e).1
 have hkind:∀ y ∈ ps.zip us,scope.names.lookup y.1=some .local∨(scope.names.lookup y.1=some .cell∧((cellsFrom (s.heap.objs.size + 1) scope.names []).lookup y.1).isSome=true):=fun ⟨n,v⟩ hy=>by
  rcases S.par n (List.of_mem_zip hy).1 with q | q
  ·exact .inl q
  ·exact .inr ⟨q,PySem.W.cellsFrom_some _ _ _ (.inl q)⟩
 refine codeAny_call_function hr.depth (KX _ _ lk) rfl S.co S.gen rfl (PySem.W.codeRec_of KX hcd) (hb _ _ _ _ ?_)
 refine wpAny_newFunctionEnv_cells S.kind hkind fun env he s1 x=>?_
 subst he
 refine ⟨lim.keeps x.toInCall.keep,codeAny_func ?_⟩
 obtain ⟨t,ht,hq⟩:=hbody A outer s H vs Q E (hr.deeper _) hsp
 have I:Inv (ja CX P w K mg base N qual scope f cdv A outer s H E) [] (start N vs) H s1:=wx S hr.hd e0 hl r x
 refine wpAny_mono (ht [] s1 (start N vs) H _ I hq) (fun fl s' hs=>?_) fun e s' hs=>hs
 have fin:∀ {σ':St} {H':Hp} {v:V} {u:Value},Inv (ja CX P w K mg base N qual scope f cdv A outer s H E) [] σ' H' s'→RelV v u→Q v H'→CE outer P w H s Q u s' :=
  fun {σ' H' v u} J rv q=>⟨v,H',J.os,J.bare,J.base,J.hok,rv,q⟩
 cases fl with
 | ret u =>
  obtain ⟨v,σ',H',J,rv,q⟩:=hs
  exact fin J rv q
 | next =>
  obtain ⟨σ',H',J,q⟩:=hs
  exact fin (v:=V.non) (u:=Value.none) J rfl q
 | brk =>
  obtain ⟨_,_,_,q⟩:=hs
  exact False.elim q
 | cont =>
  obtain ⟨_,_,_,q⟩:=hs
  exact False.elim q
section
variable {X:Cx} {x:Str} {p pos:Pos} {e:Expr} {es:List Expr} {t:TA} {id T:String} {r:List V→Hp→VK→Prop}
def tCB (r:List V→Hp→VK→Prop) (t:TA):TE:=fun σ H Q=>t σ H fun vs H1=>r vs H1 Q
theorem bu (hc:jg X (.builtin id) r) (hg:Gl X x) (hm:X.mg x=none) (hv:bootBuiltins x=some (.builtin id)) (ha:PA X (e :: es) t) (hn:x ≠ "__name__" := by decide) (hdb:(x == ("__debug__" : Str))=false:=by decide)
  (he:starEach (e :: es) X.env=(false,eval e X.env) :: starEach es X.env:=by rfl) (hpl:(backTo pos (starEach es X.env)).any (·.1)=false:=by rfl):PE X (.Call (.Name x p) (e :: es) [] pos) (tCB r t):=by
 intro pins s σ H Q I h
 refine wpAny_Call_Name_kw (jX I hg hm hv ?_ hn hdb)
 exact PyProof.Rows.callWith_builtin1 (cA (ha pos pins s σ H _ I h) fun us s1 ⟨vs,H1,I1,r1,q1⟩=>hc pins s1 σ H1 vs us Q I1 r1 q1) he hpl
theorem cK (hc:jg X (.type T) r) (hg:Gl X x) (hm:X.mg x=none) (hv:bootBuiltins x=some (.type T)) (ha:PA X (e :: es) t) (hn:x ≠ "__name__" := by decide) (hdb:(x == ("__debug__" : Str))=false:=by decide)
  (he:starEach (e :: es) X.env=(false,eval e X.env) :: starEach es X.env:=by rfl) (hpl:(backTo pos (starEach es X.env)).any (·.1)=false:=by rfl):PE X (.Call (.Name x p) (e :: es) [] pos) (tCB r t):=by
 intro pins s σ H Q I h
 refine wpAny_Call_Name_kw (jX I hg hm hv ?_ hn hdb)
 exact PyProof.Rows.callWith_type1 (cA (ha pos pins s σ H _ I h) fun us s1 ⟨vs,H1,I1,r1,q1⟩=>hc pins s1 σ H1 vs us Q I1 r1 q1) he hpl
end
end L2
namespace HT
open PySem PyProof.Rows
section
open PySem.SeqAt
open PySem.AutoSeq1 (wpAny_loadPart')
open PySem.MeetsSeq PySem.MeetsSeq2 PySem.MeetsSeq3
end
section
variable {prog:Program} {w:World} {A:Around} {E:Value→Shared→Prop} {s:Shared}
theorem BD {t b:Addr} {vs ws:List Value} {Q:Value→Shared→Prop} (ht:IsTup s.heap t vs.toArray) (hb:IsTup s.heap b ws.toArray) (hv:vs ≠ [])
  (h1:ws=[]→Q (.ref t) s) (h2:ws ≠ []→Q (.ref s.heap.objs.size) { s with heap:=s.heap.push { cls:=.type "tuple",data:=.seq (vs ++ ws).toArray } })
  (hsz:vs.length + ws.length ≤ sizeLine):wpAny (model prog w) A (binaryOp .Add (.ref t) (.ref b)) Q E s:=by
 obtain ⟨⟨cls,dd,data,sl⟩,ho,hc,n,hd⟩:=id ht
 obtain ⟨⟨cls2,dd2,data2,sl2⟩,ho2,hc2,n2,hd2⟩:=id hb
 simp only at hc hd hc2 hd2
 subst hc hd hc2 hd2
 have e:vs.toArray ++ ws.toArray=(vs ++ ws).toArray:=by simp
 by_cases hw:ws=[]
 ·exact concat_meets ⟨_,ho,rfl⟩ ⟨_,ho2,rfl⟩ noFill_tuple_add seq_tuple_add PySem.F.slot_tuple_add PySem.F.entry_tuple_add (PySem.F.args_tuple_add_2 _ _)
   (tuple_addW1 t b vs.toArray ws.toArray n n2 dd dd2 sl sl2 (by simpa using hv) (by simp [hw])) ⟨ho,ho2,h1 hw⟩
 ·refine concat_meets ⟨_,ho,rfl⟩ ⟨_,ho2,rfl⟩ noFill_tuple_add seq_tuple_add PySem.F.slot_tuple_add PySem.F.entry_tuple_add (PySem.F.args_tuple_add_2 _ _)
   (tuple_addW2 t b vs.toArray ws.toArray n n2 dd dd2 sl sl2 (by simpa using hv) (by simpa using hw) (by rw [List.size_toArray,List.size_toArray]; exact hsz)) ⟨ho,ho2,?_⟩
  rw [e]
  exact h2 hw
def dN (n d:Nat):Option Int→Nat
 | none=>d
 | some v=>if v < 0 then (v + (n:Int)).toNat else min v.toNat n
theorem qv (n d k:Nat):dN n d (some (k:Int))=min k n:=by
 show (if (k:Int) < 0 then ((k:Int) + (n:Int)).toNat else min (k:Int).toNat n)=min k n
 rw [if_neg (by omega),Int.toNat_natCast]
theorem FA (n d:Nat) (hd:d ≤ n) (o:Option Int):dN n d o ≤ n:=by
 cases o with
 | none=>exact hd
 | some v =>
  show (if v < 0 then (v + (n:Int)).toNat else min v.toNat n) ≤ n
  by_cases hv:v < 0
  ·rw [if_pos hv]; omega
  ·rw [if_neg hv]; exact Nat.min_le_right _ _
theorem uM (v:Int) (n d:Nat):(if v < 0 then max (v + (n:Int)) 0 else min v (n:Int))=((dN n d (some v):Nat):Int):=by
 show (if v < 0 then max (v + (n:Int)) 0 else min v (n:Int))=(((if v < 0 then (v + (n:Int)).toNat else min v.toNat n):Nat):Int)
 by_cases hv:v < 0
 ·simp only [if_pos hv]; omega
 ·simp only [if_neg hv]; omega
theorem tq (lo hi:Option Int) (n:Nat):Builtin.Slice.sliceAdjust lo hi 1 (n:Int)=(((dN n 0 lo:Nat):Int),((dN n n hi:Nat):Int)):=by
 have h1:¬ ((1:Int) < 0):=by omega
 unfold Builtin.Slice.sliceAdjust
 simp only [h1,if_false]
 refine Prod.ext ?_ ?_
 ·cases lo with
  | none=>rfl
  | some v=>exact uM v n 0
 ·cases hi with
  | none=>rfl
  | some v=>exact uM v n n
theorem tu (i j:Nat):Builtin.Slice.slicePlaces (i:Int) (j:Int) 1=j - i:=by
 unfold Builtin.Slice.slicePlaces
 have h1:(1:Int) > 0:=by omega
 simp only [h1,if_true,Int.ediv_one]
 split <;> omega
theorem mz {v:Value} {o:Option Int} {Q:Option Int→Shared→Prop} (p:IsPart v o) (h:Q o s):wpAny (model prog w) A (Builtin.Slice.slicePartIndex v) Q E s:=by
 cases p with
 | none=>exact slicePart_none h
 | int i t=>exact slicePart_int h
theorem j3 {sl:Addr} {vl vu:Value} {lo hi:Option Int} {n:Nat} {Q:Int × Int × Nat→Shared→Prop} (hs:s.heap.IsSliceOf sl vl vu .none) (pl:IsPart vl lo) (pu:IsPart vu hi)
  (h:Q (((dN n 0 lo:Nat):Int),1,dN n n hi - dN n 0 lo) s):wpAny (model prog w) A (Builtin.Slice.sliceApplied (.ref sl) (pure (n:Int))) Q E s:=by
 obtain ⟨os,hos,hcs,hds⟩:=id hs
 unfold Builtin.Slice.sliceApplied Builtin.Slice.sliceFields
 refine wpAny_bind (wpAny_bind (wpAny_field hos hds (x:=vl) rfl (wpAny_bind (wpAny_field hos hds (x:=vu) rfl (wpAny_bind (wpAny_field hos hds (x:=.none) rfl (wpAny_pure ?_)))))))
 refine wpAny_bind (slicePart_none ?_)
 show wpAny _ _ (if ((1:Int) == 0)=true then _ else _) _ _ s
 rw [if_neg (by decide)]
 refine wpAny_bind (mz pl (wpAny_bind (mz pu (wpAny_bind (wpAny_pure ?_)))))
 show wpAny _ _ (match Builtin.Slice.sliceAdjust lo hi 1 (n:Int) with | (lo,hi)=>pure (lo,(1:Int),Builtin.Slice.slicePlaces lo hi 1)) _ _ s
 rw [tq lo hi n]
 show wpAny _ _ (pure (((dN n 0 lo:Nat):Int),(1:Int),Builtin.Slice.slicePlaces ((dN n 0 lo:Nat):Int) ((dN n n hi:Nat):Int) 1)) _ _ s
 rw [tu]
 exact wpAny_pure h
theorem yf (xs:Array Value) (i k:Nat):((List.range k).filterMap fun (m:Nat)=>xs[((i:Int) + (m:Int) * 1).toNat]?).toArray=((xs.toList.drop i).take k).toArray:=by
 have e:(fun (m:Nat)=>xs[((i:Int) + (m:Int) * 1).toNat]?)=fun m=>xs[i + m]? := by
  funext m
  have:((i:Int) + (m:Int) * 1).toNat=i + m:=by omega
  rw [this]
 rw [e]
 have:=pick_run xs i k
 rw [List.filterMap_map] at this
 have e2:((fun x=>xs[x]?) ∘ fun x=>i + x)=fun m=>xs[i + m]? := rfl
 rw [e2] at this
 rw [this]
theorem jF {t sl:Addr} {items:Array Value} {vl vu:Value} {lo hi:Option Int} {Q:Value→Shared→Prop} (ht:IsTup s.heap t items) (hs:s.heap.IsSliceOf sl vl vu .none) (pl:IsPart vl lo) (pu:IsPart vu hi)
  (hw:¬ (dN items.size 0 lo=0∧dN items.size items.size hi=items.size))
  (h:Q (.ref s.heap.objs.size) { s with heap:=s.heap.push { cls:=.type "tuple",data:=.seq ((items.toList.drop (dN items.size 0 lo)).take (dN items.size items.size hi - dN items.size 0 lo)).toArray } })
  (hsz:items.size ≤ sizeLine):wpAny (model prog w) A (getItem (.ref t) (.ref sl)) Q E s:=by
 have uN:sizeOk (.seq ((items.toList.drop (dN items.size 0 lo)).take (dN items.size items.size hi - dN items.size 0 lo)).toArray):=by
  show ((items.toList.drop (dN items.size 0 lo)).take (dN items.size items.size hi - dN items.size 0 lo)).toArray.size ≤ sizeLine
  rw [List.size_toArray,List.length_take,List.length_drop,Array.length_toList]
  omega
 have hj:dN items.size items.size hi ≤ items.size:=FA _ _ (Nat.le_refl _) hi
 obtain ⟨os,hos,hcs,hds⟩:=id hs
 have hTs:s.TypeIs (.ref sl) "slice" := ⟨os,hos,hcs⟩
 unfold getItem
 try with_reducible refine wpAny_holding ?_
 first | refine wpAny_bind (wpAny_pure ?_) | skip
 refine wpAny_bind (wpAny_sequenceKey ht.typeIs (by decide) ?_)
 refine wpAny_bind (wpAny_callSpecial?_slot (name:=Str.ofString "__getitem__") ht.typeIs PyProof.Rows.slot_tuple_getitem
  (wpAny_call_entry PyProof.Rows.slot_tuple_getitem ht.typeIs entry_tuple_getitem ?_ (args_tuple_getitem _ _)))
 show wpAny _ _ (Builtin.Tuple.tupleItemsOf (.ref t) >>= _) _ _ s
 refine wpAny_bind (tupleItemsOf_ ht ?_)
 refine wpAny_bind (wpAny_typeOf hTs ?_)
 rw [if_pos (by decide)]
 refine wpAny_bind (j3 hs pl pu ?_)
 have hno:¬ ((((dN items.size 0 lo:Nat):Int) == 0 && (1:Int) == 1 && (dN items.size items.size hi - dN items.size 0 lo) == items.size)=true):=by
  intro q
  rw [Bool.and_eq_true,Bool.and_eq_true] at q
  have q1:((dN items.size 0 lo:Nat):Int)=0:=eq_of_beq q.1.1
  have q2:dN items.size items.size hi - dN items.size 0 lo=items.size:=eq_of_beq q.2
  exact hw ⟨by omega,by omega⟩
 show wpAny _ _ (if (((dN items.size 0 lo:Nat):Int) == 0 && (1:Int) == 1 && (dN items.size items.size hi - dN items.size 0 lo) == items.size)=true then _ else _) _ _ s
 rw [if_neg hno,yf]
 first
  | exact wpAny_bind (m:=Builtin.Tuple.tupleExact _) (wpAny_newObj_type (wpAny_pure ⟨_,rfl,wpAny_pure h⟩) uN)
  | exact wpAny_bind (m:=Builtin.Tuple.tupleExact _) (wpAny_newObj_type (wpAny_bind (wpAny_pure (wpAny_pure ⟨_,rfl,wpAny_pure h⟩))) uN)
  | exact wpAny_bind (wpAny_bind (m:=Builtin.Tuple.tupleExact _) (wpAny_newObj_type (wpAny_pure (wpAny_pure ⟨_,rfl,wpAny_pure h⟩)) uN))
  | exact wpAny_bind (wpAny_bind (m:=Builtin.Tuple.tupleExact _) (wpAny_newObj_type (wpAny_pure ⟨_,rfl,wpAny_pure h⟩) uN))
end
end HT
namespace L2
open PySem PySem.Spec PyProof.Rows
abbrev TO:=St→Hp→(Option Int→Hp→Prop)→Prop
def PO (X:Cx) (e:Option Expr) (t:TO):Prop :=
 ∀ (pins:List (Addr × Obj)) (s:Shared) (σ:St) (H:Hp) (Q:Option Int→Hp→Prop),Inv X pins σ H s→t σ H Q →
  wpAny (model X.prog X.w) X.A (evalPart e X.env) (fun u s'=>∃ o H',Inv X pins σ H' s'∧IsPart u o∧Q o H') X.xe s
def BE:TO:=fun _ H Q=>Q none H
def J2 (t:TE):TO:=fun σ H Q=>t σ H fun x H1=>∃ i,x=.int i∧Q (some i) H1
theorem intsAre_of {ns:List Int}:∀ {us:List Value},Vals (ns.map V.int) us→IntsAre us ns:=by
 induction ns with
 | nil=>intro us r; rw [List.map_nil] at r; cases r; exact .nil
 | cons n ns ih =>
  intro us r
  rw [List.map_cons] at r
  cases r with
  | cons r1 r2 =>
   obtain ⟨t,e⟩:=r1
   subst e
   exact .cons n t (ih r2)
section
variable {X:Cx} {e:Expr} {te:TE} {lo hi:Option Expr} {tl th:TO} {pos p2:Pos}
theorem fh:PO X none BE:=by
 intro pins s σ H Q I h
 rw [evalPart_none]
 exact wpAny_pure ⟨none,H,I,.none,h⟩
theorem fj (h:PE X e te):PO X (some e) (J2 te):=by
 intro pins s σ H Q I hw
 rw [evalPart_some]
 refine cA (h pins s σ H _ I hw) fun u s1 ⟨x,H1,I1,r1,q1⟩=>?_
 obtain ⟨i,rfl,q⟩:=q1
 obtain ⟨t,rfl⟩:=r1
 exact ⟨some i,H1,I1,.int i t,q⟩
def QU (X:Cx) (r:V→Option Int→Option Int→Hp→VK→Prop):Prop :=
 ∀ (pins:List (Addr × Obj)) (s:Shared) (σ:St) (H:Hp) (x:V) (v vl vu:Value) (lo hi:Option Int) (sl:Addr) (Q:VK),Inv X pins σ H s→RelV x v→s.heap.IsSliceOf sl vl vu .none→IsPart vl lo→IsPart vu hi→r x lo hi H Q →
  ∃ T id,typeLookup (.type T) "__getitem__" = pure (some (.builtin id))∧s.TypeIs v T∧wpAny (model X.prog X.w) X.A (getItem v (.ref sl)) (EP X pins σ Q) X.xe s
def tSl (r:V→Option Int→Option Int→Hp→VK→Prop) (te:TE) (tl th:TO):TE:=fun σ H Q=>te σ H fun x H1=>tl σ H1 fun l H2=>th σ H2 fun u H3=>r x l u H3 Q
theorem eG {r:V→Option Int→Option Int→Hp→VK→Prop} (hr:QU X r) (he:PE X e te) (hl:PO X lo tl) (hu:PO X hi th):PE X (.Subscript e (.Slice lo hi none p2) pos) (tSl r te tl th):=by
 intro pins s σ H Q I h
 refine Subscript_ (cA (he pins s σ H _ I h) fun v s1 ⟨x,H1,I1,r1,q1⟩=>?_)
 refine wpAny_Slice (cA (hl pins s1 σ H1 _ I1 q1) fun vl s2 ⟨l,H2,I2,pl,q2⟩=>cA (hu pins s2 σ H2 _ I2 q2) fun vu s3 ⟨u,H3,I3,pu,q3⟩=>?_)
 rw [evalPart_none]
 refine wpAny_pure ?_
 have I4:Inv X pins σ H3 { s3 with heap:=s3.heap.push { cls:=.type "slice",data:=.fields #[vl,vu,.none] } }:=I3.kept (t':=s3.toks) fun b ob q=>Heap.get?_push_of_some _ q
 obtain ⟨T,id,hT,ht,hg⟩:=hr pins { s3 with heap:=s3.heap.push { cls:=.type "slice",data:=.fields #[vl,vu,.none] } } σ H3 x v vl vu l u s3.heap.objs.size Q I4 r1 (Heap.IsSliceOf.new ..) pl pu q3
 show wpAny (model X.prog X.w) X.A (subscriptTail e (.Slice lo hi none p2) v (.ref s3.heap.objs.size)) (EP X pins σ Q) X.xe { s3 with heap:=s3.heap.push { cls:=.type "slice",data:=.fields #[vl,vu,.none] } }
 exact tail_any (ops:=[.ref s3.heap.objs.size,v]) ht hT hg (by with_unfolding_all rfl)
def jb (xs:List V) (lo hi:Option Int):List V:=(xs.drop (HT.dN xs.length 0 lo)).take (HT.dN xs.length xs.length hi - HT.dN xs.length 0 lo)
theorem kQ (xs:List V) (lo hi:Option Int):(jb xs lo hi).length ≤ xs.length:=by
 unfold jb
 rw [List.length_take,List.length_drop]
 omega
def FC (K:PySem.W.Frag):V→Option Int→Option Int→Hp→VK→Prop:=fun x lo hi H Q=>∃ a xs,x=.ref a∧bq K H a xs ∧
 ¬ (HT.dN xs.length 0 lo=0∧HT.dN xs.length xs.length hi=xs.length)∧∀ p,H p=none→Q (.ref p) (upd H p (.tup (jb xs lo hi)))
theorem jo:QU X (FC X.K):=by
 intro pins s σ H x v vl vu lo hi sl Q I rx hs pl pu h
 obtain ⟨a,xs,rfl,hx,hw,q⟩:=h
 cases rx
 obtain ⟨its,r,ht,hz⟩:=I.tuple hx
 have hlen:its.toArray.size=xs.length:=by rw [List.size_toArray]; exact r.length.symm
 refine ⟨"tuple",_,PyProof.Rows.slot_tuple_getitem.lookup,ht.typeIs,?_⟩
 refine HT.jF ht hs pl pu (by rw [hlen]; exact hw) ?_ (by rw [hlen]; exact hz)
 rw [hlen]
 refine ⟨.ref s.heap.objs.size,_,I.laid (t':=s.toks) (o:=.tup (jb xs lo hi)) (fun b ob q=>Heap.get?_push_of_some _ q) (Nat.le_refl _) ?_,rfl,q _ (I.hok.fresh (Nat.le_refl _))⟩
 exact ⟨Nat.le_trans (kQ xs lo hi) hz,_,(r.drop (HT.dN xs.length 0 lo)).take (HT.dN xs.length xs.length hi - HT.dN xs.length 0 lo),IsTup.new _ _⟩
def J3 (K:PySem.W.Frag):R2:=fun x y H Q=>∃ a b xs ys,x=.ref a∧y=.ref b∧bq K H a xs∧bq K H b ys∧xs ≠ []∧xs.length + ys.length ≤ sizeLine ∧
 (ys=[]→Q (.ref a) H)∧(ys ≠ []→∀ p,H p=none→Q (.ref p) (upd H p (.tup (xs ++ ys))))
theorem Vals.qw {xs:List V} {us:List Value} (r:Vals xs us):us=[]↔xs=[]:=by
 cases r with
 | nil=>simp
 | cons _ _=>simp
theorem lQ:iN X (binaryOp .Add) (J3 X.K):=by
 intro pins s σ H x y v u Q I rx ry h
 obtain ⟨a,b,xs,ys,rfl,rfl,ha,hb,hx,hz,q1,q2⟩:=h
 cases rx
 cases ry
 obtain ⟨its,r1,p1,_⟩:=I.tuple ha
 obtain ⟨its2,r2,p2,_⟩:=I.tuple hb
 refine HT.BD p1 p2 (fun z=>hx (r1.qw.mp z)) (fun z=>⟨.ref a,H,I,rfl,q1 (r2.qw.mp z)⟩) (fun z=>?_) (by rw [← r1.length,← r2.length]; exact hz)
 refine ⟨.ref s.heap.objs.size,_,I.laid (t':=s.toks) (o:=.tup (xs ++ ys)) (fun b ob q=>Heap.get?_push_of_some _ q) (Nat.le_refl _) ?_,rfl,q2 (fun w=>z (r2.qw.mpr w)) _ (I.hok.fresh (Nat.le_refl _))⟩
 exact ⟨by rw [List.length_append]; exact hz,_,r1.append r2,IsTup.new _ _⟩
end
def xM (n:Nat) (i:Int):Option Nat:=if 0 ≤ i then (if i < n then some i.toNat else none) else if -(n:Int) ≤ i then some (i + n).toNat else none
def kZ {α:Type} (xs:List α) (i:Int):Option α:=(xM xs.length i).bind fun j=>xs[j]?
theorem uO {n:Nat} {i:Int} {j:Nat} (h:xM n i=some j):seqIndex? i n=some j∧j < n∧-(n:Int) ≤ i∧i < n:=by
 unfold xM at h
 by_cases h0:0 ≤ i
 ·rw [if_pos h0] at h
  by_cases h1:i < n
  ·rw [if_pos h1] at h
   have e:i.toNat=j:=Option.some.inj h
   exact ⟨by rw [seqIndex_of h0 h1,e],by omega,by omega,h1⟩
  ·rw [if_neg h1] at h; cases h
 ·rw [if_neg h0] at h
  by_cases h1:-(n:Int) ≤ i
  ·rw [if_pos h1] at h
   have e:(i + n).toNat=j:=Option.some.inj h
   exact ⟨by rw [seqIndex_neg (by omega) h1,e],by omega,h1,by omega⟩
  ·rw [if_neg h1] at h; cases h
theorem uP {α:Type} {xs:List α} {i:Int} {v:α} (h:kZ xs i=some v):∃ j,seqIndex? i xs.length=some j∧xs[j]? = some v∧j < xs.length∧-(xs.length:Int) ≤ i∧i < xs.length:=by
 unfold kZ at h
 cases e:xM xs.length i with
 | none=>rw [e] at h; cases h
 | some j =>
  rw [e] at h
  obtain ⟨h1,h2,h3,h4⟩:=uO e
  exact ⟨j,h1,h,h2,h3,h4⟩
theorem cL {α:Type} {xs:List α} {j:Nat} {v:α} (h:xs[j]? = some v):kZ xs (j:Int)=some v:=by
 have hj:j < xs.length:=(List.getElem?_eq_some_iff.mp h).1
 have e:xM xs.length (j:Int)=some j:=by
  unfold xM
  rw [if_pos (by omega),if_pos (by omega)]; simp
 unfold kZ; rw [e]; exact h
def BF (b:Expr):Prop:=∀ o i,subscripted b false o i=operate [o,i] (getItem o i)
def QV (X:Cx) (r:R2):Prop :=
 ∀ (value slice:Expr) (pins:List (Addr × Obj)) (s:Shared) (σ:St) (H:Hp) (x y:V) (v u:Value) (Q:VK),Inv X pins σ H s→RelV x v→RelV y u→r x y H Q →
  subscripted slice false v u=operate [v,u] (getItem v u)→wpAny (model X.prog X.w) X.A (subscriptTail value slice v u) (EP X pins σ Q) X.xe s
def P0 (X:Cx) (id:String) (r:V→List V→Hp→VK→Prop):Prop :=
 ∀ (pins:List (Addr × Obj)) (s:Shared) (σ:St) (H:Hp) (x:V) (xs:List V) (v:Value) (us:List Value) (Q:VK),Inv X pins σ H s→RelV x v→Vals xs us→r x xs H Q →
  wpAny (model X.prog X.w) X.A (call (.builtin id) (v :: us)) (EP X pins σ Q) X.xe s
section
variable {X:Cx} {a b:Expr} {ta tb:TE} {pos:Pos}
theorem aJ {r:R2} (hr:QV X r) (ha:PE X a ta) (hb:PE X b tb) (hs:BF b):PE X (.Subscript a b pos) (PZ r ta tb):=by
 intro pins s σ H Q I h
 exact Subscript_ (Fs ha hb I h fun v u s2 x y H2 I2 rx ry q=>hr a b pins s2 σ H2 x y v u Q I2 rx ry q (hs _ _))
def rG (K:PySem.W.Frag):R2:=fun x y H Q=>∃ p xs i v,x=.ref p∧y=.int i∧bh K H p xs∧kZ xs i=some v∧Q v H
def QW (K:PySem.W.Frag):R2:=fun x y H Q=>∃ p xs i v,x=.ref p∧y=.int i∧bq K H p xs∧kZ xs i=some v∧Q v H
theorem aT:QV X (rG X.K):=by
 intro value slice pins s σ H x y v u Q I rx ry h hs
 obtain ⟨p,xs,i,z,rfl,rfl,hq,he,q⟩:=h
 cases rx
 obtain ⟨t,rfl⟩:=ry
 obtain ⟨its,r,pl,hz⟩:=I.list hq
 obtain ⟨j,h1,h2,h3,h4,h5⟩:=uP he
 obtain ⟨w,ew,qx⟩:=r.get h2
 have hl:=r.length
 have hn:=qt
 have fin:EP X pins σ Q w s:=⟨z,H,I,qx,q⟩
 by_cases h0:0 ≤ i
 ·have hj:i.toNat=j:=by
   rw [seqIndex_of h0 h5] at h1
   exact Option.some.inj h1
  exact item_listR pl.isList h0 (by omega) (by rw [hj]; simpa using ew) fin hs
 ·have hj:(i + (its.toArray.size:Int)).toNat=j:=by
   rw [seqIndex_neg (by omega) h4] at h1
   rw [List.size_toArray,← hl]
   exact Option.some.inj h1
  exact subscriptTail_builtinR (x:=w) pl.isList.typeIs slot_list_getitem.lookup
   (wpAny_getItem_list_neg (Q:=fun r s'=>r=w∧EP X pins σ Q r s') pl.isList (by omega) (by rw [List.size_toArray] <;> omega) (by omega) (by rw [hj]; simpa using ew) ⟨rfl,fin⟩) hs
theorem aO:QV X (QW X.K):=by
 intro value slice pins s σ H x y v u Q I rx ry h hs
 obtain ⟨p,xs,i,z,rfl,rfl,hq,he,q⟩:=h
 cases rx
 obtain ⟨t,rfl⟩:=ry
 obtain ⟨its,r,pl,hz⟩:=I.tuple hq
 obtain ⟨j,h1,h2,h3,h4,h5⟩:=uP he
 obtain ⟨w,ew,qx⟩:=r.get h2
 have hl:=r.length
 have hn:=qt
 have fin:EP X pins σ Q w s:=⟨z,H,I,qx,q⟩
 exact subscriptTail_builtinR (x:=w) pl.typeIs slot_tuple_getitem.lookup
  (getItem_tuple (j:=j) (Q:=fun r s'=>r=w∧EP X pins σ Q r s') pl (by omega) (by omega) (by rw [List.size_toArray,← hl]; exact h1) (by simpa using ew) ⟨rfl,fin⟩) hs
theorem tD (its:List Value) (n j:Nat) (u:Value):Obj.mapSeq (·.setIfInBounds j u) { cls:=.type "list",data:=.seq its.toArray n }={ cls:=.type "list",data:=.seq (its.set j u).toArray n }:=by
 simp [Obj.mapSeq]
theorem Inv.lst {pins:List (Addr × Obj)} {σ:St} {H:Hp} {s:Shared} {p:Addr} {xs:List V} (I:Inv X pins σ H s) (h:H p=some (.lst xs)) :
  ∃ (its:List Value) (n:Nat),Vals xs its∧s.heap.get? p=some { cls:=.type "list",data:=.seq its.toArray n }∧xs.length ≤ sizeLine:=by
 obtain ⟨z,its,n,r,e⟩:=I.hok p _ h
 exact ⟨its,n,r,e,z⟩
theorem Inv.FD {pins:List (Addr × Obj)} {σ:St} {H:Hp} {s:Shared} {p:Addr} {xs ys:List V} {its its':List Value} {n n':Nat} {f:Obj→Obj} (I:Inv X pins σ H s) (h:H p=some (.lst xs))
  (ho:s.heap.get? p=some { cls:=.type "list",data:=.seq its.toArray n }) (hf:f { cls:=.type "list",data:=.seq its.toArray n }={ cls:=.type "list",data:=.seq its'.toArray n' }) (r:Vals ys its') (hz:ys.length ≤ sizeLine) (t:Nat) :
  Inv X pins σ (upd H p (.lst ys)) { s with heap:=s.heap.update p f,toks:=t }:=by
 have e:(s.heap.update p f).get? p=some { cls:=.type "list",data:=.seq its'.toArray n' }:=by
  rw [Heap.get?_update_self f ho (by rw [hf] <;> rfl),hf]
 refine I.write (x:=p) (e:=p) (by rw [h]; trivial) (.inl rfl) (fun b u hb q=>(Heap.get?_update_other _ _ (Ne.symm hb)).trans q) ⟨_,e⟩ ?_
 exact ⟨hz,its',n',r,e⟩
def J4:V→V→V→Hp→(Hp→Prop)→Prop:=fun o i v H Q=>∃ p xs k j,o=.ref p∧i=.int k∧H p=some (.lst xs)∧xM xs.length k=some j∧Q (upd H p (.lst (xs.set j v)))
theorem set_list:JO X J4:=by
 intro pins s σ H o i v ov iv u Q I ro ri rv h
 obtain ⟨p,xs,k,j,rfl,rfl,hp,hj,q⟩:=h
 cases ro
 obtain ⟨t,rfl⟩:=ri
 obtain ⟨its,n,r,ho,hz⟩:=I.lst hp
 obtain ⟨h1,h2,h3,h4⟩:=uO hj
 have hl:=r.length
 have hn:=qt
 have I':Inv X pins σ (upd H p (.lst (xs.set j v))) { s with heap:=s.heap.update p (Obj.mapSeq (·.setIfInBounds j u)) } :=
  I.FD hp ho (tD its n j u) (r.set rv j) (by rw [List.length_set]; exact hz) s.toks
 by_cases h0:0 ≤ k
 ·have hk:k.toNat=j:=by
   rw [seqIndex_of h0 h4] at h1
   exact Option.some.inj h1
  exact PySem.W.ki_setAt ho h0 (by omega) (by rw [List.size_toArray,← hl]; exact h4) (by rw [hk]; exact ⟨_,I',q⟩)
 ·have hk:(k + (its.toArray.size:Int)).toNat=j:=by
   rw [seqIndex_neg (by omega) h3] at h1
   rw [List.size_toArray,← hl]
   exact Option.some.inj h1
  exact PySem.W.ki_setBack ho (by omega) (by rw [List.size_toArray,← hl]; exact h3) (by omega) (by rw [hk]; exact ⟨_,I',q⟩)
theorem qy (lo hi:Option Int) (n:Nat):(sliceBounds lo hi none n).1=((HT.dN n 0 lo:Nat):Int)∧(sliceBounds lo hi none n).2.1=((HT.dN n n hi:Nat):Int)∧(sliceBounds lo hi none n).2.2=1:=by
 refine ⟨?_,?_,rfl⟩
 ·cases lo with
  | none=>simp [sliceBounds,HT.dN]
  | some i =>
   simp only [sliceBounds,HT.dN,Option.getD_none,show (1:Int) > 0 by decide,if_true]
   by_cases h:i < 0
   ·simp only [h,if_true] <;> omega
   ·simp only [h,if_false] <;> omega
 ·cases hi with
  | none=>simp [sliceBounds,HT.dN]
  | some i =>
   simp only [sliceBounds,HT.dN,Option.getD_none,show (1:Int) > 0 by decide,if_true]
   by_cases h:i < 0
   ·simp only [h,if_true] <;> omega
   ·simp only [h,if_false] <;> omega
theorem oJ (its:List Value) (lo hi:Option Int):slicePick its.toArray lo hi none=((its.drop (HT.dN its.length 0 lo)).take (HT.dN its.length its.length hi - HT.dN its.length 0 lo)).toArray:=by
 obtain ⟨h1,h2,h3⟩:=qy lo hi its.toArray.size
 unfold slicePick
 rw [h1,h2,h3]
 simp only [sliceRange_one,pick_run,List.size_toArray] <;> rfl
def QX (K:PySem.W.Frag):V→Option Int→Option Int→Hp→VK→Prop:=fun x lo hi H Q=>∃ a xs,x=.ref a∧bh K H a xs∧∀ p,H p=none→Q (.ref p) (upd H p (.lst (jb xs lo hi)))
theorem BG:QU X (QX X.K):=by
 intro pins s σ H x v vl vu lo hi sl Q I rx hs pl pu h
 obtain ⟨a,xs,rfl,hx,q⟩:=h
 cases rx
 obtain ⟨its,r,ht,hz⟩:=I.list hx
 have hlen:=r.length
 refine ⟨"list",_,slot_list_getitem.lookup,ht.isList.typeIs,?_⟩
 refine wpAny_getItem_list_slice ht.isList hs pl pu .none (by simp) ?_ (by rw [List.size_toArray] <;> omega)
 rw [oJ,← hlen]
 refine ⟨.ref s.heap.objs.size,_,I.laid (t':=s.toks) (o:=.lst (jb xs lo hi)) (fun b ob q=>Heap.get?_push_of_some _ q) (Nat.le_refl _) ?_,rfl,q _ (I.hok.fresh (Nat.le_refl _))⟩
 exact ⟨Nat.le_trans (kQ xs lo hi) hz,_,0,(r.drop (HT.dN xs.length 0 lo)).take (HT.dN xs.length xs.length hi - HT.dN xs.length 0 lo),Heap.get?_push_size _ rfl⟩
def jG:V→Bool
 | .non=>true
 | .bl _=>true
 | .int _=>true
 | .str _=>true
 | _=>false
def Ei:V→V→Bool
 | .non,.non=>true
 | .bl a,.bl b=>a == b
 | .bl a,.int b=>(if a then 1 else 0) == b
 | .int a,.bl b=>a == (if b then 1 else 0)
 | .int a,.int b=>a == b
 | .str a,.str b=>a == b
 | _,_=>false
theorem FE {A:Around} {s:Shared} {y x:V} {u v:Value} (ry:RelV y u) (rx:RelV x v) (fy:jG y=true) (fx:jG x=true):SeqAt.EqAt A s u v (Ei y x):=by
 cases y with
 | non =>
  cases ry
  cases x with
  | non=>cases rx; exact SeqAt.EqAt.same _
  | bl b=>cases rx; exact SeqAt.EqAt.none_bool b
  | int b=>obtain ⟨t,rfl⟩:=rx; exact SeqAt.EqAt.none_int b t
  | str b=>obtain ⟨t,rfl⟩:=rx; exact SeqAt.EqAt.none_str b t
  | _=>exact absurd (show false=true from fx) Bool.false_ne_true
 | bl a =>
  cases ry
  cases x with
  | non=>cases rx; exact SeqAt.EqAt.bool_none a
  | bl b=>cases rx; exact SeqAt.EqAt.bool_bool a b
  | int b=>obtain ⟨t,rfl⟩:=rx; exact SeqAt.EqAt.bool_int a b t
  | str b=>obtain ⟨t,rfl⟩:=rx; exact SeqAt.EqAt.bool_str a b t
  | _=>exact absurd (show false=true from fx) Bool.false_ne_true
 | int a =>
  obtain ⟨t',rfl⟩:=ry
  cases x with
  | non=>cases rx; exact SeqAt.EqAt.int_none a t'
  | bl b=>cases rx; exact SeqAt.EqAt.int_bool a t' b
  | int b=>obtain ⟨t,rfl⟩:=rx; exact SeqAt.EqAt.int_int a t' b t
  | str b=>obtain ⟨t,rfl⟩:=rx; exact SeqAt.EqAt.int_str a t' b t
  | _=>exact absurd (show false=true from fx) Bool.false_ne_true
 | str a =>
  obtain ⟨t',rfl⟩:=ry
  cases x with
  | non=>cases rx; exact SeqAt.EqAt.str_none a t'
  | bl b=>cases rx; exact SeqAt.EqAt.str_bool a t' b
  | int b=>obtain ⟨t,rfl⟩:=rx; exact SeqAt.EqAt.str_int a t' b t
  | str b=>obtain ⟨t,rfl⟩:=rx; exact SeqAt.EqAt.str_str a t' b t
  | _=>exact absurd (show false=true from fx) Bool.false_ne_true
 | _=>exact absurd (show false=true from fy) Bool.false_ne_true
def tE (x:V) (u:Value):Bool:=match u with
 | .none=>Ei .non x
 | .bool b=>Ei (.bl b) x
 | .int i _=>Ei (.int i) x
 | .str z _=>Ei (.str z) x
 | _=>false
theorem yg {x y:V} {u:Value} (r:RelV y u) (f:jG y=true):tE x u=Ei y x:=by
 cases y with
 | non=>cases r; rfl
 | bl b=>cases r; rfl
 | int i=>obtain ⟨t,rfl⟩:=r; rfl
 | str z=>obtain ⟨t,rfl⟩:=r; rfl
 | _=>exact absurd (show false=true from f) Bool.false_ne_true
theorem jH {x:V}:∀ {xs:List V} {us:List Value},Vals xs us→xs.all jG=true→us.any (tE x)=xs.any fun y=>Ei y x
 | _,_,.nil,_=>rfl
 | y :: xs,u :: us,.cons r t,f=>by
  rw [List.all_cons,Bool.and_eq_true] at f
  rw [List.any_cons,List.any_cons,yg r f.1,jH t f.2]
theorem hV {A:Around} {s:Shared} {x:V} {v:Value} (rx:RelV x v) (fx:jG x=true):∀ {xs:List V} {us:List Value},Vals xs us→xs.all jG=true→∀ u ∈ us,SeqAt.EqAt A s u v (tE x u)
 | _,_,.nil,_=>fun u hu=>by cases hu
 | y :: xs,u :: us,.cons r t,f=>fun u' hu=>by
  rw [List.all_cons,Bool.and_eq_true] at f
  rcases List.mem_cons.mp hu with rfl | hu
  ·rw [yg r f.1]; exact FE r rx f.1 fx
  ·exact hV rx fx t f.2 u' hu
def inV (x:V) (xs:List V):Bool:=xs.any fun y=>Ei y x
def P1 (K:PySem.W.Frag) (neg:Bool):R2:=fun x y H Q=>∃ p xs,y=.ref p∧(bh K H p xs∨bq K H p xs)∧jG x=true∧xs.all jG=true∧Q (.bl (if neg then !inV x xs else inV x xs)) H
theorem cz:iN X (compareOp .In) (P1 X.K false):=by
 intro pins s σ H x y v u Q I rx ry h
 obtain ⟨p,xs,rfl,hq,fx,fs,q⟩:=h
 cases ry
 rcases hq with hq | hq
 ·obtain ⟨its,r,pl,hz⟩:=I.list hq
  refine SeqAt.in_listAt (tE x) pl.isList (fun w hw=>hV rx fx r fs w (by simpa using hw)) ⟨.bl _,H,I,rfl,?_⟩
  rw [show its.toArray.any (tE x)=its.any (tE x) by simp,jH r fs]
  exact q
 ·obtain ⟨its,r,pl,hz⟩:=I.tuple hq
  refine SeqAt.in_tupleAt (tE x) pl (fun w hw=>hV rx fx r fs w (by simpa using hw)) ⟨.bl _,H,I,rfl,?_⟩
  rw [show its.toArray.any (tE x)=its.any (tE x) by simp,jH r fs]
  exact q
theorem qz:iN X (compareOp .NotIn) (P1 X.K true):=by
 intro pins s σ H x y v u Q I rx ry h
 obtain ⟨p,xs,rfl,hq,fx,fs,q⟩:=h
 cases ry
 rcases hq with hq | hq
 ·obtain ⟨its,r,pl,hz⟩:=I.list hq
  refine SeqAt.notIn_listAt (tE x) pl.isList (fun w hw=>hV rx fx r fs w (by simpa using hw)) ⟨.bl _,H,I,rfl,?_⟩
  rw [show its.toArray.any (tE x)=its.any (tE x) by simp,jH r fs]
  exact q
 ·obtain ⟨its,r,pl,hz⟩:=I.tuple hq
  refine SeqAt.notIn_tupleAt (tE x) pl (fun w hw=>hV rx fx r fs w (by simpa using hw)) ⟨.bl _,H,I,rfl,?_⟩
  rw [show its.toArray.any (tE x)=its.any (tE x) by simp,jH r fs]
  exact q
theorem aY:jg X (.builtin "len") (fun xs H Q=>∃ p ys,xs=[.ref p]∧(bh X.K H p ys∨bq X.K H p ys)∧Q (.int ys.length) H):=by
 intro pins s σ H xs us Q I r h
 obtain ⟨p,ys,rfl,hq,q⟩:=h
 obtain ⟨u,rfl,rx⟩:=vals1 r
 cases rx
 have hn:=qt
 rcases hq with hq | hq
 ·obtain ⟨its,r',pl,hz⟩:=I.list hq
  have hlen:=r'.length
  exact Calls.call_len_list pl.isList (by simp only [List.size_toArray] <;> omega) ⟨.int ys.length,H,I.tok _,⟨s.toks + 1,by rw [List.size_toArray,hlen]⟩,q⟩
 ·obtain ⟨its,r',pl,hz⟩:=I.tuple hq
  have hlen:=r'.length
  exact len_tuple pl (by simp only [List.size_toArray] <;> omega) ⟨.int ys.length,H,I.tok _,⟨s.toks + 1,by rw [List.size_toArray,hlen]⟩,q⟩
theorem dh:jg X (.type "list") (fun xs H Q=>∃ p ys,xs=[.ref p]∧(bh X.K H p ys∨bq X.K H p ys)∧∀ l,H l=none→Q (.ref l) (upd H l (.lst ys))):=by
 intro pins s σ H xs us Q I r h
 obtain ⟨p,ys,rfl,hq,q⟩:=h
 obtain ⟨u,rfl,rx⟩:=vals1 r
 cases rx
 have fin:∀ (its:List Value),Vals ys its→ys.length ≤ sizeLine→∀ (h':Heap) (c':Nat),(∀ b o',s.heap.get? b=some o'→h'.get? b=some o') →
   h'.get? s.heap.objs.size=some { cls:=.type "list",dict:=none,data:=.seq its.toArray c',slots:=#[] }→EP X pins σ Q (.ref s.heap.objs.size) { s with heap:=h' }:=fun its r' hz h' c' kp e =>
  ⟨.ref s.heap.objs.size,_,I.laid (t':=s.toks) kp (Nat.le_refl _) (show cE X.prog X.w _ h' _ (.lst ys) from ⟨hz,its,c',r',e⟩),rfl,q _ (I.hok.fresh (Nat.le_refl _))⟩
 rcases hq with hq | hq
 ·obtain ⟨its,r',pl,hz⟩:=I.list hq
  have hlen:=r'.length
  obtain ⟨o,ho,hc,n,hd⟩:=pl.isList
  exact call_list_seq p (.inl rfl) ho hc hd (fun h' c' kp e=>fin its r' hz h' c' kp e) (by simp only [List.size_toArray] <;> omega)
 ·obtain ⟨its,r',pl,hz⟩:=I.tuple hq
  have hlen:=r'.length
  obtain ⟨o,ho,hc,n,hd⟩:=pl
  exact call_list_seq p (.inr rfl) ho hc hd (fun h' c' kp e=>fin its r' hz h' c' kp e) (by simp only [List.size_toArray] <;> omega)
theorem jh:jg X (.type "tuple") (fun xs H Q=>∃ p ys,xs=[.ref p]∧((bh X.K H p ys∧∀ l,H l=none→Q (.ref l) (upd H l (.tup ys)))∨(bq X.K H p ys∧Q (.ref p) H))):=by
 intro pins s σ H xs us Q I r h
 obtain ⟨p,ys,rfl,h⟩:=h
 obtain ⟨u,rfl,rx⟩:=vals1 r
 cases rx
 rcases h with ⟨hq,q⟩ | ⟨hq,q⟩
 ·obtain ⟨its,r',pl,hz⟩:=I.list hq
  have hlen:=r'.length
  refine call_tuple_list pl.isList (fun h' kp=>?_) (by simp only [List.size_toArray] <;> omega)
  have I1:Inv X pins σ H { s with heap:=h' }:=I.kept (t':=s.toks) kp
  have I2:Inv X pins σ (upd H h'.objs.size (.tup ys)) { s with heap:=h'.push { cls:=.type "tuple",data:=.seq its.toArray } } :=
   I1.laid (t':=s.toks) (fun b o e=>Heap.get?_push_of_some _ e) (Nat.le_refl _) (show cE X.prog X.w _ _ _ (.tup ys) from ⟨hz,its,r',IsTup.new _ _⟩)
  exact ⟨.ref h'.objs.size,_,I2,rfl,q _ (I1.hok.fresh (Nat.le_refl _))⟩
 ·obtain ⟨its,r',pl,hz⟩:=I.tuple hq
  exact call_tuple_same pl ⟨.ref p,H,I,rfl,q⟩
def QY (K:PySem.W.Frag) (T:String) (x:V) (H:Hp):Prop:=match x with
 | .str _=>T = "str"
 | .int _=>T = "int"
 | .ref p=>(T = "list" ∧ ∃ xs,bh K H p xs)∨(T = "tuple" ∧ ∃ o,K.lookup p=some o∧o.cls=.type "tuple" ∧ o.dict=none) ∨
   (T = "dict" ∧ ((∃ kvs,H p=some (.dK kvs))∨∃ kvs,H p=some (.dT kvs)))∨(T = "set" ∧ ∃ S n,H p=some (.set S n))
 | _=>False
theorem yh {pins:List (Addr × Obj)} {σ:St} {H:Hp} {s:Shared} {T:String} {x:V} {v:Value} (I:Inv X pins σ H s) (r:RelV x v) (ty:QY X.K T x H) :
  s.TypeIs v T∧∀ a,v=.ref a→∃ ob,s.heap.get? a=some ob∧ob.dict=none:=by
 cases x with
 | str z =>
  obtain ⟨t,rfl⟩:=r
  cases (show T = "str" from ty)
  exact ⟨typeIs_str s z t,fun _ e=>nomatch e⟩
 | int i =>
  obtain ⟨t,rfl⟩:=r
  cases (show T = "int" from ty)
  exact ⟨typeIs_int s i t,fun _ e=>nomatch e⟩
 | ref p =>
  cases r
  rcases ty with ⟨rfl,xs,hq⟩ | ⟨rfl,o,hk,hc,hd⟩ | ⟨rfl,hk⟩ | ⟨rfl,S,n,hk⟩
  ·obtain ⟨its,_,pl,_⟩:=I.list hq
   refine ⟨pl.isList.typeIs,fun a e=>?_⟩
   cases e
   obtain ⟨o,n,e,c,hd,_⟩:=pl
   exact ⟨o,e,hd⟩
  ·refine ⟨⟨o,I.mn p o hk,hc⟩,fun a e=>?_⟩
   cases e
   exact ⟨o,I.mn _ o hk,hd⟩
  ·have z:∃ o,s.heap.get? p=some o∧o.ExactDict:=by
    rcases hk with ⟨kvs,hk⟩ | ⟨kvs,hk⟩
    ·obtain ⟨_,_,_,_,o,_,_,e,ex,_⟩:=I.hok p _ hk
     exact ⟨o,e,ex⟩
    ·obtain ⟨_,_,_,_,o,_,_,e,ex,_⟩:=I.hok p _ hk
     exact ⟨o,e,ex⟩
   obtain ⟨o,e,ex⟩:=z
   refine ⟨⟨o,e,ex.1⟩,fun a e2=>?_⟩
   cases e2
   exact ⟨o,e,ex.2.1⟩
  ·obtain ⟨o,_,_,_,e,ex,_⟩:=I.hok p _ hk
   refine ⟨⟨o,e,ex.1⟩,fun a e2=>?_⟩
   cases e2
   exact ⟨o,e,ex.2.1⟩
 | _=>exact False.elim ty
def QZ (K:PySem.W.Frag) (T:String) (r:V→List V→Hp→VK→Prop) (to:TE):TE:=fun σ H Q=>to σ H fun x H1=>QY K T x H1∧r x [] H1 Q
def tBM (K:PySem.W.Frag) (T:String) (r:V→List V→Hp→VK→Prop) (to:TE) (t:TA):TE:=fun σ H Q=>to σ H fun x H1=>QY K T x H1∧t σ H1 fun xs H2=>r x xs H2 Q
variable {o e:Expr} {es:List Expr} {to:TE} {t:TA} {name:Str} {apos cpos:Pos} {T id:String} {r:V→List V→Hp→VK→Prop}
theorem yi (pa:PlainAttrs T) (slot:Slot T name id) (hty:typeOf (.builtin id)=pure (.type "method_descriptor")) (hm:P0 X id r) (ho:PE X o to)
  (hbase:attributeBase o name X.env (eval o X.env)=eval o X.env:=by rfl) (hline:(apos.endLine == cpos.line)=true:=by rfl):PE X (.Call (.Attribute o name apos) [] [] cpos) (QZ X.K T r to):=by
 intro pins s σ H Q I h
 refine wpAny_Call_method0_late hbase hline (cA (ho pins s σ H _ I h) fun v s1 ⟨x,H1,I1,r1,ty,q1⟩=>?_)
 obtain ⟨h1,h2⟩:=yh I1 r1 ty
 exact ⟨T,id,pa,slot,hty,h1,h2,Calls.callWith_builtin rfl (PySem.evalArgs_none (hm pins s1 σ H1 x [] v [] Q I1 r1 .nil q1))⟩
theorem dR (pa:PlainAttrs T) (slot:Slot T name id) (hty:typeOf (.builtin id)=pure (.type "method_descriptor")) (hm:P0 X id r) (ho:PE X o to) (ha:PA X (e :: es) t)
  (hbase:attributeBase o name X.env (eval o X.env)=eval o X.env:=by rfl)
  (hfew:((backTo cpos (starEach (e :: es) X.env)).all (fun x=>!x.1) && (backToKw cpos (keywordEach [] X.env)).all (fun x=>x.1.isSome)
   && decide ((e :: es).length + ([]:List Keyword).length + (if ([]:List Keyword).isEmpty then 0 else 1) < 30))=true:=by rfl)
  (hline:(apos.endLine == cpos.line)=true:=by rfl) (hs:starEach (e :: es) X.env=(false,eval e X.env) :: starEach es X.env:=by rfl) (hplain:(backTo cpos (starEach es X.env)).any (·.1)=false:=by rfl) :
  PE X (.Call (.Attribute o name apos) (e :: es) [] cpos) (tBM X.K T r to t):=by
 intro pins s σ H Q I h
 refine wpAny_Call_method_late hbase hfew hline rfl (cA (ho pins s σ H _ I h) fun v s1 ⟨x,H1,I1,r1,ty,q1⟩=>?_)
 obtain ⟨h1,h2⟩:=yh I1 r1 ty
 refine ⟨T,id,pa,slot,hty,h1,h2,?_⟩
 have hA:=ha cpos pins s1 σ H1 _ I1 q1
 rw [hs] at hA ⊢
 refine Calls.callWith_builtin (by show (false || (backTo cpos (starEach es X.env)).any (·.1))=false; rw [hplain] <;> rfl) (Calls.evalArgs_plain ?_)
 exact cA hA fun us s2 ⟨vs,H2,I2,r2,q2⟩=>hm pins s2 σ H2 x vs v us Q I2 r1 r2 q2
/- xs.append(e),list.index on a module's tuple .. are P0 facts of 06m -/
end
def Q0 (X:Cx) (id:String) (r:V→List V→Hp→VK→Prop):Prop :=
 ∀ (pins:List (Addr × Obj)) (s:Shared) (σ:St) (H:Hp) (x:V) (xs:List V) (v:Value) (us:List Value) (Q:VK),Inv X pins σ H s→RelV x v→Vals xs us→r x xs H Q →
  wpAny (model X.prog X.w) X.A (call (.builtin id) (v :: us)) (EP X pins σ Q) X.xe s
theorem Vals.one:∀ {x:V} {us:List Value},Vals [x] us→∃ u,us=[u]∧RelV x u
 | _,_,.cons r .nil=>⟨_,rfl,r⟩
theorem Vals.zero:∀ {us:List Value},Vals [] us→us=[]
 | _,.nil=>rfl
theorem Vals.dropLast {xs:List V} {us:List Value} (h:Vals xs us):Vals xs.dropLast us.dropLast:=by
 induction h with
 | nil=>exact .nil
 | cons r t ih =>
  cases t with
  | nil=>exact .nil
  | cons q t'=>exact .cons r ih
theorem Vals.rep {xs:List V} {us:List Value} (h:Vals xs us):∀ k:Nat,Vals (List.replicate k xs).flatten (List.replicate k us).flatten
 | 0=>.nil
 | k + 1=>by
  rw [List.replicate_succ,List.replicate_succ,List.flatten_cons,List.flatten_cons]
  exact Vals.append h (Vals.rep h k)
theorem tF {α:Type} (l:List α):l.eraseIdx (l.length - 1)=l.dropLast:=by
 induction l with
 | nil=>rfl
 | cons a r ih =>
  cases r with
  | nil=>rfl
  | cons b r =>
   have e:(a :: b :: r).length - 1=((b :: r).length - 1) + 1:=by
    have h1:(a :: b :: r).length=r.length + 2:=rfl
    have h2:(b :: r).length=r.length + 1:=rfl
    omega
   rw [e,List.eraseIdx_cons_succ,ih]
   all_goals rfl
theorem foldl_rep (its:List Value):∀ (k:Nat) (acc:List Value),
  List.foldl (fun x1 x2=>x1 ++ x2) acc.toArray (List.replicate k its.toArray)=(acc ++ (List.replicate k its).flatten).toArray
 | 0,acc=>by simp
 | k + 1,acc=>by
  have e:acc.toArray ++ its.toArray=(acc ++ its).toArray:=by simp
  have e2:(acc ++ its) ++ (List.replicate k its).flatten=acc ++ (List.replicate (k + 1) its).flatten:=by
   rw [List.replicate_succ,List.flatten_cons,List.append_assoc]
  rw [← e2,← foldl_rep its k (acc ++ its),← e,List.replicate_succ,List.foldl_cons]
section
variable {X:Cx} {pins:List (Addr × Obj)} {σ:St} {H:Hp} {s:Shared} {l b:Addr} {xs ys zs:List V}
theorem Inv.FG {its its':List Value} {n:Nat} {f:Array Value→Array Value} {t':Nat} (I:Inv X pins σ H s) (hH:H l=some (.lst xs))
  (e:s.heap.get? l=some { cls:=.type "list",data:=.seq its.toArray n }) (hf:f its.toArray=its'.toArray) (hv:Vals ys its') (hz:ys.length ≤ sizeLine) :
  Inv X pins σ (upd H l (.lst ys)) { s with heap:=s.heap.update l (Obj.mapSeq f),toks:=t' }:=by
 have q:=PySem.IsL.update e f
 rw [hf] at q
 refine I.write (x:=l) (e:=l) (by rw [hH]; exact trivial) (.inl rfl) (fun b' u hb hu=>(Heap.get?_update_other s.heap (Obj.mapSeq f) (Ne.symm hb)).trans hu) ⟨_,q⟩ ?_
 exact ⟨hz,its',_,hv,q⟩
theorem Inv.FH {its:List Value} {t':Nat} (I:Inv X pins σ H s) (hv:Vals ys its) (hz:ys.length ≤ sizeLine) :
  Inv X pins σ (upd H s.heap.objs.size (.lst ys)) { s with heap:=s.heap.push { cls:=.type "list",data:=.seq its.toArray },toks:=t' } :=
 I.laid (fun _ _ q=>Heap.get?_push_of_some _ q) (Nat.le_refl _) ⟨hz,its,0,hv,Heap.get?_push_size _ rfl⟩
theorem Inv.fresh (I:Inv X pins σ H s):H s.heap.objs.size=none:=I.hok.fresh (Nat.le_refl _)
theorem Inv.tG (I:Inv X pins σ H s) (hH:H l=some (.lst xs)):xs.length ≤ sizeLine∧∃ (its:List Value) (n:Nat),Vals xs its∧xs.length=its.length∧s.heap.get? l=some { cls:=.type "list",data:=.seq its.toArray n }:=by
 obtain ⟨z,its,n,r,e⟩:=I.hok l _ hH
 exact ⟨z,its,n,r,r.length,e⟩
theorem rH {n:Nat} (h:n ≤ sizeLine):Builtin.List.listTooLong n=false:=by
 unfold Builtin.List.listTooLong
 exact decide_eq_false (by omega)
end
section
variable {X:Cx}
def BH:V→List V→Hp→VK→Prop:=fun x vs H Q=>∃ l xs y,x=.ref l∧vs=[y]∧H l=some (.lst xs)∧xs.length < sizeLine∧Q .non (upd H l (.lst (xs ++ [y])))
theorem bZ:Q0 X "list.append" BH:=by
 intro pins s σ H x vs v us Q I rx rv h
 obtain ⟨l,xs,y,rfl,rfl,hH,hz,q⟩:=h
 cases rx
 obtain ⟨u,rfl,ru⟩:=rv.one
 obtain ⟨z,its,n,r,hl,e⟩:=I.tG hH
 refine call_meets F.slot_list_append ⟨_,e,rfl⟩ F.entry_list_append (F.args_list_append_2 _ _) (PySem.list_append l its.toArray n u (by rw [List.size_toArray]; omega)) ⟨e,?_⟩
 refine ⟨.non,_,I.FG (its':=its ++ [u]) hH e (by simp) (r.append (.cons ru .nil)) ?_,rfl,q⟩
 rw [List.length_append,List.length_singleton]
 omega
def BI:V→List V→Hp→VK→Prop:=fun x vs H Q=>∃ l b xs zs,x=.ref l∧vs=[.ref b]∧H l=some (.lst xs)∧H b=some (.lst zs)∧xs.length + zs.length ≤ sizeLine∧Q .non (upd H l (.lst (xs ++ zs)))
theorem wy:Q0 X "list.extend" BI:=by
 intro pins s σ H x vs v us Q I rx rv h
 obtain ⟨l,b,xs,zs,rfl,rfl,hH,hB,hz,q⟩:=h
 cases rx
 obtain ⟨u,rfl,ru⟩:=rv.one
 cases ru
 obtain ⟨z,its,n,r,hl,e⟩:=I.tG hH
 obtain ⟨z2,its2,n2,r2,hl2,e2⟩:=I.tG hB
 have hsz:its.toArray.size + its2.toArray.size ≤ sizeLine:=by rw [List.size_toArray,List.size_toArray]; omega
 have yj:¬ (!its.toArray.isEmpty && Builtin.List.listTooLong (its.toArray.size + its2.toArray.size))=true:=by
  rw [rH hsz,Bool.and_false]
  exact Bool.false_ne_true
 refine call_meets F.slot_list_extend ⟨_,e,rfl⟩ F.entry_list_extend (F.args_list_extend_2 _ _)
  (AutoSeq1.list_extend_list_list_0 l its.toArray n b its2.toArray n2 yj (by rw [List.size_toArray]; omega) (by omega)) ⟨e,e2,?_⟩
 refine ⟨.non,_,I.FG (its':=its ++ its2) hH e (by simp) (r.append r2) ?_,rfl,q⟩
 rw [List.length_append]
 omega
def Q5:V→List V→Hp→VK→Prop:=fun x vs H Q=>∃ l xs y,x=.ref l∧vs=[]∧H l=some (.lst xs)∧xs[xs.length - 1]? = some y∧Q y (upd H l (.lst xs.dropLast))
theorem yk:Q0 X "list.pop" Q5:=by
 intro pins s σ H x vs v us Q I rx rv h
 obtain ⟨l,xs,y,rfl,rfl,hH,hy,q⟩:=h
 cases rx
 have hus:=rv.zero
 subst hus
 obtain ⟨z,its,n,r,hl,e⟩:=I.tG hH
 obtain ⟨u,hu,ru⟩:=r.get hy
 have hy':its.toArray[its.toArray.size - 1]? = some u:=by
  show its.toArray[its.length - 1]? = some u
  rw [← Array.getElem?_toList,← hl]
  exact hu
 refine call_meets F.slot_list_pop ⟨_,e,rfl⟩ F.entry_list_pop (F.args_list_pop_1 _) (MeetsSeq.list_pop_last l its.toArray n u hy' (by rw [List.size_toArray]; omega)) ⟨e,?_⟩
 refine ⟨y,_,I.FG (its':=its.dropLast) hH e ?_ r.dropLast ?_,ru,q⟩
 ·show its.toArray.eraseIdxIfInBounds (its.toArray.size - 1)=its.dropLast.toArray
  rw [List.size_toArray,List.eraseIdxIfInBounds_toArray,tF]
 ·rw [List.length_dropLast]
  omega
def Q6:R2:=fun x y H Q=>∃ l b xs zs,x=.ref l∧y=.ref b∧H l=some (.lst xs)∧H b=some (.lst zs)∧xs.length + zs.length ≤ sizeLine∧∀ p,H p=none→Q (.ref p) (upd H p (.lst (xs ++ zs)))
theorem j4:iN X (binaryOp .Add) Q6:=by
 intro pins s σ H x y v u Q I rx ry h
 obtain ⟨l,b,xs,zs,rfl,rfl,hH,hB,hz,q⟩:=h
 cases rx
 cases ry
 obtain ⟨z,its,n,r,hl,e⟩:=I.tG hH
 obtain ⟨z2,its2,n2,r2,hl2,e2⟩:=I.tG hB
 refine PySem.P.add_list e e2 ?_ (by rw [List.size_toArray,List.size_toArray]; omega)
 have ea:its.toArray ++ its2.toArray=(its ++ its2).toArray:=by simp
 rw [ea]
 exact ⟨.ref _,_,I.FH (t':=s.toks) (r.append r2) (by rw [List.length_append]; omega),rfl,q _ I.fresh⟩
def Q7:R2:=fun x y H Q=>∃ l k xs,x=.ref l∧y=.int k∧H l=some (.lst xs)∧-(2 ^ 63) ≤ k∧k < 2 ^ 63∧xs.length * k.toNat ≤ sizeLine ∧
 ∀ p,H p=none→Q (.ref p) (upd H p (.lst (List.replicate k.toNat xs).flatten))
theorem len_rep {α:Type} (xs:List α) (k:Nat):(List.replicate k xs).flatten.length=k * xs.length:=by
 induction k with
 | zero=>simp
 | succ k ih=>rw [List.replicate_succ,List.flatten_cons,List.length_append,ih,Nat.succ_mul,Nat.add_comm]
theorem qA:iN X (binaryOp .Mult) Q7:=by
 intro pins s σ H x y v u Q I rx ry h
 obtain ⟨l,k,xs,rfl,rfl,hH,h1,h2,hz,q⟩:=h
 cases rx
 obtain ⟨t,rfl⟩:=ry
 obtain ⟨z,its,n,r,hl,e⟩:=I.tG hH
 have hlen:its.toArray.size * k.toNat ≤ sizeLine:=by rw [List.size_toArray,← hl]; exact hz
 have hcap:¬ its.toArray.size * k.toNat > (2 ^ 63 - 1) / 8:=by
  have:(sizeLine:Nat) ≤ (2 ^ 63 - 1) / 8:=by decide
  omega
 have hfit:¬ (!Builtin.List.listFitsIndex k)=true:=by
  rw [fitsIndex_both h1 h2]
  exact Bool.false_ne_true
 have yj:¬ Builtin.List.listTooLong (its.toArray.size * k.toNat)=true:=by
  rw [rH hlen]
  exact Bool.false_ne_true
 have hnew:List.foldl (fun x1 x2=>x1 ++ x2) #[] (List.replicate (if its.toArray.isEmpty=true then 0 else k.toNat) its.toArray)=(List.replicate k.toNat its).flatten.toArray:=by
  have f0:∀ m:Nat,List.foldl (fun x1 x2=>x1 ++ x2) #[] (List.replicate m its.toArray)=(List.replicate m its).flatten.toArray:=fun m=>by
   have:=foldl_rep its m []
   rw [List.nil_append] at this
   exact this
  rw [f0]
  cases its with
  | nil=>simp
  | cons a r'=>rw [if_neg (by simp)]
 refine wpAny_binaryOp_repeat_ref (T := "list") (U := "int") (by decide) ⟨_,e,rfl⟩ (fun s'=>typeIs_int s' k t) noFill_list_mul F.fills_int_mul F.slot_int_rmul repeat_list F.slot_int_index.lookup
  (call_meets F.slot_int_rmul (typeIs_int s k t) F.entry_int_rmul (F.args_int_rmul_2 _ _) (int___rmul___int_list k t l its.toArray n)
   ⟨e,rfl,⟨_,e,rfl⟩,call_meets F.slot_list_mul ⟨_,e,rfl⟩ F.entry_list_mul (F.args_list_mul_2 _ _) (AutoListH.list___mul___list_int_3 l its.toArray n k t hfit hcap yj) ⟨e,?_⟩⟩)
 rw [hnew]
 exact ⟨.ref _,_,I.FH (t':=s.toks) (r.rep k.toNat) (by rw [len_rep,Nat.mul_comm]; exact hz),rfl,q _ I.fresh⟩
end
section
variable {prog:Program} {w:World} {A:Around} {E:Value→Shared→Prop} {s:Shared}
set_option maxRecDepth 100000 in
end
section
variable {X:Cx}
end
section
variable {κ:Type} [DecidableEq κ]
def cF (kvs:List (κ × V)) (k:κ):Option V:=(kvs.find? fun kv=>decide (kv.1=k)).map (·.2)
def putK (kvs:List (κ × V)) (k:κ) (v:V):List (κ × V) :=
 if (kvs.any fun kv=>decide (kv.1=k))=true then kvs.map (fun kv=>if kv.1=k then (kv.1,v) else kv) else kvs ++ [(k,v)]
theorem cM {p:κ × V} {r:List (κ × V)} {k:κ} (e:p.1=k):cF (p :: r) k=some p.2:=by simp [cF,List.find?_cons,e]
theorem cN {p:κ × V} {r:List (κ × V)} {k:κ} (e:¬ p.1=k):cF (p :: r) k=cF r k:=by simp [cF,List.find?_cons,e]
theorem eT (k:κ):∀ kvs:List (κ × V),(kvs.any fun kv=>decide (kv.1=k))=(cF kvs k).isSome
 | []=>rfl
 | p :: r=>by
  rw [List.any_cons]
  by_cases e:p.1=k
  ·simp only [cM e,decide_eq_true e,Bool.true_or,Option.isSome_some]
  ·rw [cN e,decide_eq_false e,Bool.false_or]; exact eT k r
theorem rJ (k j:κ) (y:V):∀ kvs:List (κ × V),cF (kvs.map fun kv=>if kv.1=k then (kv.1,y) else kv) j=(cF kvs j).map fun x=>if j=k then y else x
 | []=>rfl
 | p :: r=>by
  have ih:=rJ k j y r
  rw [List.map_cons]
  by_cases h:p.1=k
  ·rw [if_pos h]
   by_cases e:p.1=j
   ·rw [cM (p:=(p.1,y)) e,cM e,Option.map_some,if_pos (e.symm.trans h)]
   ·rw [cN (p:=(p.1,y)) e,cN e,ih]
  ·rw [if_neg h]
   by_cases e:p.1=j
   ·rw [cM (p:=p) e,cM e,Option.map_some,if_neg (fun z=>h (e.trans z))]
   ·rw [cN (p:=p) e,cN e,ih]
theorem pB (k j:κ) (y:V):∀ kvs:List (κ × V),cF kvs k=none→cF (kvs ++ [(k,y)]) j=if j=k then some y else cF kvs j
 | [],_=>by
  by_cases e:k=j
  ·rw [if_pos e.symm]; exact cM (p:=(k,y)) e
  ·rw [if_neg (fun z=>e z.symm)]; exact cN (p:=(k,y)) e
 | p :: r,hn=>by
  rw [List.cons_append]
  have hk:¬ p.1=k:=fun z=>by rw [cM z] at hn; cases hn
  rw [cN hk] at hn
  have ih:=pB k j y r hn
  by_cases e:p.1=j
  ·rw [cM e,cM e,if_neg (fun z=>hk (e.trans z))]
  ·rw [cN e,cN e,ih]
theorem rK (kvs:List (κ × V)) (k j:κ) (y:V):cF (putK kvs k y) j=if j=k then some y else cF kvs j:=by
 unfold putK
 by_cases a:(kvs.any fun kv=>decide (kv.1=k))=true
 ·rw [if_pos a,rJ]
  rw [eT] at a
  by_cases e:j=k
  ·obtain ⟨x,hx⟩:=Option.isSome_iff_exists.mp a
   rw [if_pos e,e,hx,Option.map_some,if_pos rfl]
  ·rw [if_neg e]
   cases cF kvs j with
   | none=>rfl
   | some x=>rw [Option.map_some,if_neg e]
 ·rw [if_neg a]
  refine pB k j y kvs ?_
  rw [eT] at a
  cases q:cF kvs k with
  | none=>rfl
  | some x=>rw [q] at a; exact (a rfl).elim
theorem du (kvs:List (κ × V)) (k:κ) (v:V):(putK kvs k v).length ≤ kvs.length + 1:=by
 unfold putK
 split
 ·rw [List.length_map]; omega
 ·rw [List.length_append,List.length_cons,List.length_nil]; omega
theorem mI {kvs:List (κ × V)} {k:κ} (v:V) (h:cF kvs k=none):putK kvs k v=kvs ++ [(k,v)]:=by
 unfold putK
 rw [eT,h]
 exact if_neg (by decide)
theorem fM.gg {o:Option V} {u:Option Value} (r:fM o u):o.isSome=u.isSome:=by
 cases o with
 | none=>cases u with
  | none=>rfl
  | some _=>exact (show False from r).elim
 | some _=>cases u with
  | none=>exact (show False from r).elim
  | some _=>rfl
theorem fM.getD {o:Option V} {u:Option Value} {d:V} {d':Value} (r:fM o u) (rd:RelV d d'):RelV (o.getD d) (u.getD d'):=by
 cases o with
 | none=>cases u with
  | none=>exact rd
  | some _=>exact (show False from r).elim
 | some _=>cases u with
  | none=>exact (show False from r).elim
  | some _=>exact r
theorem KV.val {kvs:List (κ × V)} {vs:List (κ × Value)} (r:KV kvs vs) (k:κ):fM (cF kvs k) (valueAt vs k):=by
 unfold KV at r
 induction r with
 | nil=>exact True.intro
 | @cons p q ps qs h t ih =>
  obtain ⟨h1,h2⟩:=h
  by_cases e:p.1=k
  ·have e':q.1=k:=h1.symm.trans e
   have b:valueAt (q :: qs) k=some q.2:=by simp [valueAt,List.find?_cons,e']
   rw [cM e,b]; exact h2
  ·have e':¬ q.1=k:=fun z=>e (h1.trans z)
   have b:valueAt (q :: qs) k=valueAt qs k:=by simp [valueAt,List.find?_cons,e']
   rw [cN e,b]; exact ih
theorem KV.any {kvs:List (κ × V)} {vs:List (κ × Value)} (r:KV kvs vs) (k:κ):(kvs.any fun kv=>decide (kv.1=k))=vs.any fun kv=>decide (kv.1=k):=by
 unfold KV at r
 induction r with
 | nil=>rfl
 | cons h t ih=>rw [List.any_cons,List.any_cons,ih,h.1]
theorem KV.repl {kvs:List (κ × V)} {vs:List (κ × Value)} (r:KV kvs vs) (k:κ) {y:V} {u:Value} (ry:RelV y u) :
  KV (kvs.map fun kv=>if kv.1=k then (kv.1,y) else kv) (vs.map fun kv=>if kv.1=k then (kv.1,u) else kv):=by
 unfold KV at r ⊢
 induction r with
 | nil=>exact .nil
 | @cons p q ps qs h t ih =>
  rw [List.map_cons,List.map_cons]
  refine .cons ?_ ih
  obtain ⟨h1,h2⟩:=h
  by_cases e:p.1=k
  ·rw [if_pos e,if_pos (h1.symm.trans e)]; exact ⟨h1,ry⟩
  ·rw [if_neg e,if_neg (fun z=>e (h1.trans z))]; exact ⟨h1,h2⟩
theorem KV.put {kvs:List (κ × V)} {vs:List (κ × Value)} (r:KV kvs vs) (k:κ) {y:V} {u:Value} (ry:RelV y u):KV (putK kvs k y) (stored vs k u):=by
 unfold putK stored
 rw [r.any k]
 by_cases e:(vs.any fun kv=>decide (kv.1=k))=true
 ·rw [if_pos e,if_pos e]; exact r.repl k ry
 ·rw [if_neg e,if_neg e]; exact Paired.snoc r ⟨rfl,ry⟩
theorem KV.length {kvs:List (κ × V)} {vs:List (κ × Value)} (r:KV kvs vs):kvs.length=vs.length:=Paired.length r
end
theorem mK {P:Program} {w:World} {k:Key} {u:Value} (r:RelV (kV k) u):(cn P w).is k u=true:=by
 cases k with
 | inl i=>obtain ⟨t,e⟩:=(show ∃ t,u=Value.int i t from r); subst e; exact qZ P w i t
 | inr x=>obtain ⟨t,e⟩:=(show ∃ t,u=Value.str x t from r); subst e; exact q0 P w x t
theorem pC {P:Program} {w:World}:∀ {ks:List Key} {us:List Value},Vals (ks.map kV) us→ItemsAre (cn P w) ks us
 | [],_,r=>by rw [List.map_nil] at r; cases r; exact .nil
 | k :: ks,_,r=>by
  rw [List.map_cons] at r
  cases r with
  | cons h t=>exact .cons (mK h) (pC t)
abbrev KT (H:Hp):List (List Key × V)→List (List Key × Addr × Value)→Prop:=Paired fun p q=>p.1=q.1∧H q.2.1=some (.tup (p.1.map kV))∧RelV p.2 q.2.2
theorem KT.val {H:Hp} {kvs:List (List Key × V)} {xs:List (List Key × Addr × Value)} (r:KT H kvs xs) (k:List Key):fM (cF kvs k) ((atKey xs k).map (·.2)):=by
 induction r with
 | nil=>exact True.intro
 | @cons p q ps qs h t ih =>
  obtain ⟨h1,_,h2⟩:=h
  by_cases e:p.1=k
  ·have e':q.1=k:=h1.symm.trans e
   have b:atKey (q :: qs) k=some q.2:=by simp [atKey,List.find?_cons,e']
   rw [cM e,b]; exact h2
  ·have e':¬ q.1=k:=fun z=>e (h1.trans z)
   have b:atKey (q :: qs) k=atKey qs k:=by simp [atKey,List.find?_cons,e']
   rw [cN e,b]; exact ih
theorem KT.repl {H:Hp} {kvs:List (List Key × V)} {xs:List (List Key × Addr × Value)} (r:KT H kvs xs) (k:List Key) {y:V} {u:Value} (ry:RelV y u) :
  KT H (kvs.map fun kv=>if kv.1=k then (kv.1,y) else kv) (xs.map (putAt k u)):=by
 induction r with
 | nil=>exact .nil
 | @cons p q ps qs h t ih =>
  rw [List.map_cons,List.map_cons]
  refine .cons ?_ ih
  obtain ⟨h1,h2,h3⟩:=h
  unfold putAt
  by_cases e:p.1=k
  ·rw [if_pos e,if_pos (h1.symm.trans e)]; exact ⟨h1,h2,ry⟩
  ·rw [if_neg e,if_neg (fun z=>e (h1.trans z))]; exact ⟨h1,h2,h3⟩
theorem KT.put {H:Hp} {kvs:List (List Key × V)} {xs:List (List Key × Addr × Value)} (r:KT H kvs xs) (k:List Key) {b:Addr} {y:V} {u:Value} (hb:H b=some (.tup (k.map kV))) (ry:RelV y u) :
  KT H (putK kvs k y) (storedH xs k b u):=by
 have e:(kvs.any fun kv=>decide (kv.1=k))=(atKey xs k).isSome:=by
  rw [eT,(r.val k).gg,Option.isSome_map]
 unfold putK storedH
 rw [e]
 by_cases q:(atKey xs k).isSome=true
 ·rw [if_pos q,if_pos q]; exact r.repl k ry
 ·rw [if_neg q,if_neg q]; exact Paired.snoc r ⟨rfl,hb,ry⟩
theorem KT.keeps {H H':Hp} {kvs:List (List Key × V)} {xs:List (List Key × Addr × Value)} (r:KT H kvs xs) (ht:∀ b ys,H b=some (.tup ys)→H' b=some (.tup ys)):KT H' kvs xs :=
 Paired.Fg r fun _ _ z=>⟨z.1,ht _ _ z.2.1,z.2.2⟩
section
variable {P:Program} {w:World} {H:Hp} {h:Heap} {a:Addr}
theorem Ej {u:HO} (ok:i9 P w H h) (e:Rd H a u):cE P w H h a u:=e.ok ok
theorem lg {kvs:List (Key × V)} (ok:i9 P w H h) (e:Rd H a (.dK kvs)):kvs.length ≤ sizeLine∧(a == sysModules)=false∧∃ vs,KV kvs vs∧h.DictOf (cn P w) a vs :=
 show cE P w H h a (.dK kvs) from Ej ok e
theorem rL {kvs:List (Key × V)} (ok:i9 P w H h) (e:H a=some (.dK kvs)):kvs.length ≤ sizeLine∧(a == sysModules)=false∧∃ vs,KV kvs vs∧h.DictOf (cn P w) a vs:=lg ok (.inl e)
theorem j5 {ks:List Key} (ok:i9 P w H h) (e:H a=some (.tup (ks.map kV))):(tupleKind (cn P w)).is h ks a:=by
 obtain ⟨_,its,r,o,h1,h2,n,h3⟩:=(show cE P w H h a (.tup (ks.map kV)) from ok a _ e)
 exact ⟨o,its.toArray,n,h1,h2,h3,by simpa using pC r⟩
theorem mM {kvs:List (List Key × V)} (ok:i9 P w H h) (e:Rd H a (.dT kvs)):kvs.length ≤ sizeLine∧(a == sysModules)=false ∧
  ∃ xs,KT H kvs xs∧h.DictOfH (tupleKind (cn P w)) a xs:=by
 obtain ⟨z,y,xs,r,o,es,ep,h1,h2,h3,h4,h5⟩:=(show cE P w H h a (.dT kvs) from Ej ok e)
 refine ⟨z,y,xs,r,o,es,ep,h1,h2,h3,h4,fun x hx=>?_,h5⟩
 have all:∀ {l:List (List Key × V)} {m:List (List Key × Addr × Value)},KT H l m→∀ x ∈ m,(tupleKind (cn P w)).is h x.1 x.2.1:=by
  intro l m q
  induction q with
  | nil=>intro x hx; exact nomatch hx
  | @cons p q ps qs hq t ih =>
   intro x hx
   rcases List.mem_cons.mp hx with e | hx
   ·subst e
    exact j5 ok (by rw [← hq.1]; exact hq.2.1)
   ·exact ih x hx
 exact all r x hx
theorem J5 {kvs:List (List Key × V)} (ok:i9 P w H h) (e:H a=some (.dT kvs)):kvs.length ≤ sizeLine∧(a == sysModules)=false ∧
  ∃ xs,KT H kvs xs∧h.DictOfH (tupleKind (cn P w)) a xs:=mM ok (.inl e)
end
def gW (H:Hp) (a:Addr) (y:V) (r:Option V):Prop :=
 (∃ kvs k,Rd H a (.dK kvs)∧y=kV k∧r=cF kvs k)∨∃ kvs k b,Rd H a (.dT kvs)∧y=.ref b∧H b=some (.tup (k.map kV))∧r=cF kvs k
def mQ (H:Hp) (a:Addr) (y v:V) (H':Hp):Prop :=
 (∃ kvs k,H a=some (.dK kvs)∧y=kV k∧kvs.length < sizeLine∧H'=upd H a (.dK (putK kvs k v))) ∨
 ∃ kvs k b,H a=some (.dT kvs)∧y=.ref b∧H b=some (.tup (k.map kV))∧kvs.length < sizeLine∧H'=upd H a (.dT (putK kvs k v))
theorem gW.k {H:Hp} {a:Addr} {kvs:List (Key × V)} {k:Key} (e:H a=some (.dK kvs)):gW H a (kV k) (cF kvs k):=.inl ⟨kvs,k,.inl e,rfl,rfl⟩
theorem mQ.k {H:Hp} {a:Addr} {kvs:List (Key × V)} {k:Key} {v:V} (e:H a=some (.dK kvs)) (hl:kvs.length < sizeLine):mQ H a (kV k) v (upd H a (.dK (putK kvs k v))):=.inl ⟨kvs,k,e,rfl,hl,rfl⟩
section
variable {X:Cx} {pins:List (Addr × Obj)} {σ:St} {H:Hp} {s:Shared} {a:Addr} {y v:V} {u r:Value} {o:Option V} {A:Around} {E:Value→Shared→Prop}
theorem Inv.big (I:Inv X pins σ H s):sysModules < s.heap.objs.size:=by
 have h:mainGlobals < s.heap.objs.size:=(I.mod.glob.keeps I.bk).lt
 exact Nat.lt_trans (by decide) h
theorem wz {Q:Value→Shared→Prop} (hu:A.units + 1 < cLine) (I:Inv X pins σ H s) (g:gW H a y (some v)) (ry:RelV y u) (h:∀ w' s',Inv X pins σ H s'→RelV v w'→Q w' s') :
  wpAny (model X.prog X.w) A (getItem (.ref a) u) Q E s:=by
 rcases g with ⟨kvs,k,e,ey,l⟩ | ⟨kvs,k,b,e,ey,eb,l⟩
 ·subst ey
  obtain ⟨z,hd,vs,rel,dd⟩:=lg I.hok e
  obtain ⟨w',hw,qx⟩:=fM.some_of (v:=v) (o:=valueAt vs k) (by rw [l]; exact rel.val k)
  exact wpAny_getItem_of (mK ry) dd.mapOf hw (h w' _ (I.tok _) qx)
 ·subst ey
  cases (show u=Value.ref b from ry)
  obtain ⟨z,hd,xs,rel,dd⟩:=mM I.hok e
  obtain ⟨w',hw,qx⟩:=fM.some_of (v:=v) (o:=(atKey xs k).map (·.2)) (by rw [l]; exact rel.val k)
  obtain ⟨p,hp,hp2⟩:=Option.map_eq_some_iff.mp hw
  refine wpAny_getItem_heap (tupleKind_room_in1 hu) (j5 I.hok eb) dd hp ?_
  rw [hp2]
  exact h w' _ (I.tok _) qx
theorem Q8 {Q:Value→Shared→Prop} (hu:A.units + 1 < cLine) (I:Inv X pins σ H s) (g:gW H a y o) (ry:RelV y u) (h:∀ s',Inv X pins σ H s'→Q (.bool o.isSome) s') :
  wpAny (model X.prog X.w) A (compareOp .In u (.ref a)) Q E s:=by
 rcases g with ⟨kvs,k,e,ey,l⟩ | ⟨kvs,k,b,e,ey,eb,l⟩
 ·subst ey
  obtain ⟨z,hd,vs,rel,dd⟩:=lg I.hok e
  refine wpAny_in_of (mK ry) hd dd.mapOf ?_
  rw [← (rel.val k).gg,← l]
  exact h _ (I.tok _)
 ·subst ey
  cases (show u=Value.ref b from ry)
  obtain ⟨z,hd,xs,rel,dd⟩:=mM I.hok e
  refine wpAny_in_heap (tupleKind_room_in1 hu) (j5 I.hok eb) hd dd ?_
  have q:=(rel.val k).gg
  rw [Option.isSome_map] at q
  rw [← q,← l]
  exact h _ (I.tok _)
theorem BJ {Q:Value→Shared→Prop} (hu:A.units + 1 < cLine) (I:Inv X pins σ H s) (g:gW H a y o) (ry:RelV y u) (h:∀ s',Inv X pins σ H s'→Q (.bool (!o.isSome)) s') :
  wpAny (model X.prog X.w) A (compareOp .NotIn u (.ref a)) Q E s:=by
 rcases g with ⟨kvs,k,e,ey,l⟩ | ⟨kvs,k,b,e,ey,eb,l⟩
 ·subst ey
  obtain ⟨z,hd,vs,rel,dd⟩:=lg I.hok e
  refine wpAny_notIn_of (mK ry) hd dd.mapOf ?_
  rw [← (rel.val k).gg,← l]
  exact h _ (I.tok _)
 ·subst ey
  cases (show u=Value.ref b from ry)
  obtain ⟨z,hd,xs,rel,dd⟩:=mM I.hok e
  refine wpAny_notIn_heap (tupleKind_room_in1 hu) (j5 I.hok eb) hd dd ?_
  have q:=(rel.val k).gg
  rw [Option.isSome_map] at q
  rw [← q,← l]
  exact h _ (I.tok _)
theorem qB {h':Heap} {t':Nat} {ob:HO} (I:Inv X pins σ H s) (mu:JE (H a)) (hs:Heap.SameBut a s.heap h') (he:∃ q,h'.get? a=some q) (new:cE X.prog X.w (upd H a ob) h' a ob) :
  Inv X pins σ (upd H a ob) { s with heap:=h',toks:=t' } :=
 I.write (x:=a) (e:=a) mu (.inl rfl) (fun b q hb z=>(hs.2 b hb).trans z) he new
theorem tH {P:Program} {w:World} {H':Hp} {h':Heap} {kvs:List (Key × V)} {vs:List (Key × Value)} (z:kvs.length ≤ sizeLine) (hd:(a == sysModules)=false) (rel:KV kvs vs) (dd:h'.DictOf (cn P w) a vs) :
  cE P w H' h' a (.dK kvs):=⟨z,hd,vs,rel,dd⟩
theorem wA {H':Hp} {Q:Unit→Shared→Prop} (hu:A.units + 1 < cLine) (I:Inv X pins σ H s) (g:mQ H a y v H') (ry:RelV y u) (rv:RelV v r) (h:∀ s',Inv X pins σ H' s'→Q () s') :
  wpAny (model X.prog X.w) A (setItem (.ref a) u r) Q E s:=by
 rcases g with ⟨kvs,k,e,ey,l,eH⟩ | ⟨kvs,k,b,e,ey,eb,l,eH⟩
 ·subst ey eH
  obtain ⟨z,hd,vs,rel,dd⟩:=rL I.hok e
  have hz:vs.length ≤ sizeLine:=by rw [← rel.length]; exact z
  have hl:(putK kvs k v).length ≤ sizeLine:=by have:=du kvs k v; omega
  refine wpAny_setItem_pairs (hsz:=hz) (mK ry) dd fun h' Bo hs=>h _ ?_
  have he:∃ q,h'.get? a=some q:=let ⟨q,_,_,hq,_⟩:=Bo; ⟨q,hq⟩
  exact qB I (by rw [e]; exact True.intro) hs he (tH hl hd (rel.put k rv) Bo)
 ·subst ey eH
  cases (show u=Value.ref b from ry)
  obtain ⟨z,hd,xs,rel,dd⟩:=J5 I.hok e
  have hz:xs.length ≤ sizeLine:=by rw [← Paired.length rel]; exact z
  have hl:(putK kvs k v).length ≤ sizeLine:=by have:=du kvs k v; omega
  refine wpAny_setItem_heap (hsz:=hz) (tupleKind_room_in1 hu) (j5 I.hok eb) dd fun h' Bo hs=>h _ ?_
  obtain ⟨q,es,ep,hq,h2,h3,h4,_,h5⟩:=Bo
  refine qB I (by rw [e]; exact True.intro) hs ⟨q,hq⟩ ⟨hl,hd,_,(rel.put k eb rv).keeps fun c ys ec=>?_,q,es,ep,hq,h2,h3,h4,h5⟩
  rw [aq (cH ec e (fun z=>nomatch z))]
  exact ec
end
section
variable {X:Cx} {pins:List (Addr × Obj)} {σ:St} {H:Hp} {s:Shared} {a:Addr} {kvs:List (Key × V)} {k:Key} {u:Value} {A:Around} {E:Value→Shared→Prop}
end
def FJ (i:Expr):Prop:=∀ ov iv,subscripted i false ov iv=operate [ov,iv] (getItem ov iv)
theorem uQ {prog:Program} {w:World} {A:Around} {E:Value→Shared→Prop} {s:Shared} {env:Env} {value slice:Expr} {pos:Pos} {T id:String} {Q:Value→Shared→Prop}
  (hl:typeLookup (.type T) "__getitem__" = pure (some (.builtin id))) (hs:FJ slice)
  (h:wpAny (model prog w) A (eval value env) (fun o s₁=>wpAny (model prog w) A (eval slice env) (fun i s₂=>s₂.TypeIs o T∧wpAny (model prog w) A (getItem o i) Q E s₂) E s₁) E s) :
  wpAny (model prog w) A (eval (.Subscript value slice pos) env) Q E s:=by
 refine Subscript_ (wpAny_mono h (fun o s₁ h₁=>wpAny_mono h₁ (fun i s₂ h₂=>?_) fun _ _ x=>x) fun _ _ x=>x)
 obtain ⟨hT,h₂⟩:=h₂
 unfold subscriptTail
 refine wpAny_bind ?_
 rw [getitemInPython_of_ne hT.not_modules]
 refine wpAny_bind (wpAny_specialOf hT hl ?_)
 have fin:wpAny (model prog w) A (subscripted slice false o i) (fun r s₃=>wpAny (model prog w) A (letTemporaryGo value o r >>= fun _=>pure r) Q E s₃) E s₂:=by
  rw [hs o i]
  exact wpAny_operating (wpAny_mono h₂ (fun r s₃ h₃=>wpAny_bind (wpAny_letTemporaryGo (wpAny_pure h₃))) fun _ _ x=>x)
 first
  | exact wpAny_pure (wpAny_bind fin)
  | exact wpAny_bind (wpAny_pure (wpAny_bind fin))
  | exact wpAny_bind fin
theorem rM {X:Cx} {pins:List (Addr × Obj)} {σ:St} {H:Hp} {s:Shared} {a:Addr} {y:V} {o:Option V} (I:Inv X pins σ H s) (g:gW H a y o):s.TypeIs (.ref a) "dict" := by
 rcases g with ⟨kvs,k,e,_,_⟩ | ⟨kvs,k,b,e,_,_,_⟩
 ·obtain ⟨_,_,vs,_,dd⟩:=lg I.hok e
  exact dd.typeIs
 ·obtain ⟨_,_,xs,_,dd⟩:=mM I.hok e
  exact dd.typeIs
def J6 (td ty:TE):TE:=fun σ H Q=>td σ H fun x H1=>ty σ H1 fun y H2=>∃ a v,x=.ref a∧gW H2 a y (some v)∧Q v H2
def Q9 (ty td:TE):TE:=fun σ H Q=>ty σ H fun y H1=>td σ H1 fun x H2=>∃ a o,x=.ref a∧gW H2 a y o∧Q (.bl o.isSome) H2
def BK (ty td:TE):TE:=fun σ H Q=>ty σ H fun y H1=>td σ H1 fun x H2=>∃ a o,x=.ref a∧gW H2 a y o∧Q (.bl (!o.isSome)) H2
def J7 (td ty tv:TE):TS:=fun D σ H=>tv σ H fun v H1=>td σ H1 fun x H2=>ty σ H2 fun y H3=>∃ a H4,x=.ref a∧mQ H3 a y v H4∧D.nx σ H4
section
variable {X:Cx} {o i e value:Expr} {pos pos' tpos:Pos} {td ty tv:TE}
theorem lR (hu:X.A.units + 1 < cLine) (ho:PE X o td) (hi:PE X i ty) (hs:FJ i):PE X (.Subscript o i pos) (J6 td ty):=by
 intro pins s σ H Q I h
 refine uQ PySem.F.slot_dict_getitem.lookup hs (cA (ho pins s σ H _ I h) fun u s1 ⟨x,H1,I1,rx,q1⟩=>cA (hi pins s1 σ H1 _ I1 q1) fun iv s2 ⟨y,H2,I2,ry,a,v,ex,g,q2⟩=>?_)
 subst ex
 obtain rfl:u=Value.ref a:=rx
 exact ⟨rM I2 g,wz hu I2 g ry fun w' s3 I3 qx=>⟨v,H2,I3,qx,q2⟩⟩
theorem tI (hu:X.A.units + 1 < cLine) (hi:PE X i ty) (ho:PE X o td):PC X .In i o (Q9 ty td):=by
 intro pins s σ H Q I h
 refine cA (hi pins s σ H _ I h) fun iv s1 ⟨y,H1,I1,ry,q1⟩=>cA (ho pins s1 σ H1 _ I1 q1) fun u s2 ⟨x,H2,I2,rx,a,ov,ex,g,q2⟩=>?_
 subst ex
 obtain rfl:u=Value.ref a:=rx
 exact Q8 hu I2 g ry fun s3 I3=>⟨.bl ov.isSome,H2,I3,rfl,q2⟩
theorem wB (hu:X.A.units + 1 < cLine) (hi:PE X i ty) (ho:PE X o td):PC X .NotIn i o (BK ty td):=by
 intro pins s σ H Q I h
 refine cA (hi pins s σ H _ I h) fun iv s1 ⟨y,H1,I1,ry,q1⟩=>cA (ho pins s1 σ H1 _ I1 q1) fun u s2 ⟨x,H2,I2,rx,a,ov,ex,g,q2⟩=>?_
 subst ex
 obtain rfl:u=Value.ref a:=rx
 exact BJ hu I2 g ry fun s3 I3=>⟨.bl (!ov.isSome),H2,I3,rfl,q2⟩
theorem fq (hu:X.A.units + 1 < cLine) (ho:PE X o td) (hi:PE X i ty) (hv:PE X value tv) (hs:swapsWith value (some (.Subscript o i pos')) pos.line X.env=pure false) :
  PS X (.Assign [.Subscript o i pos'] value pos) (J7 td ty tv):=by
 intro pins s σ H D I h
 refine wpAny_Assign_Subscript (cA (hv pins s σ H _ I h) fun r s1 ⟨v,H1,I1,rv,q1⟩=>cA (ho pins s1 σ H1 _ I1 q1) fun u s2 ⟨x,H2,I2,rx,q2⟩=>cA (hi pins s2 σ H2 _ I2 q2) fun iv s3 ⟨y,H3,I3,ry,a,H4,ex,g,q3⟩=>?_) hs
 subst ex
 obtain rfl:u=Value.ref a:=rx
 exact wA hu I3 g ry rv fun s4 I4=>⟨σ,H4,I4,q3⟩
end
theorem rN {P:Program} {w:World} {H:Hp} (h:Heap) (hb:sysModules < h.objs.size):cE P w H (h.push { cls:=.type "dict",data:=.dict #[] }) h.objs.size (.dK []) :=
 ⟨Nat.zero_le _,beq_eq_false_iff_ne.mpr (Ne.symm (Nat.ne_of_lt hb)),[],.nil,Heap.DictOf.new h⟩
def FK:TE:=fun _ H Q=>∀ p,H p=none→Q (.ref p) (upd H p (.dK []))
section
variable {X:Cx} {pos:Pos}
theorem hZ:PE X (.Dict [] [] pos) FK:=fun pins s σ H Q I h =>
 wpAny_Dict_empty ⟨.ref s.heap.objs.size,_,I.laid (a:=s.heap.objs.size) (o:=.dK []) (t':=s.toks) (fun _ _ q=>Heap.get?_push_of_some _ q) (Nat.le_refl _) (rN s.heap I.big),rfl,h _ (I.hok.fresh (Nat.le_refl _))⟩
end
def tJ:List (TE × TE)→St→Hp→(List (V × V)→Hp→Prop)→Prop
 | [],_,H,Q=>Q [] H
 | (tk,tv) :: r,σ,H,Q=>tk σ H fun x H1=>tv σ H1 fun y H2=>tJ r σ H2 fun ps H3=>Q ((x,y) :: ps) H3
abbrev VV:List (V × V)→List (Value × Value)→Prop:=Paired fun p q=>RelV p.1 q.1∧RelV p.2 q.2
def P2 (X:Cx) (pos:Pos) (keys:List (Option Expr)) (values:List Expr) (BL:List (TE × TE)):Prop :=
 ∀ (pins:List (Addr × Obj)) (s:Shared) (σ:St) (H:Hp) (Q:List (V × V)→Hp→Prop),Inv X pins σ H s→tJ BL σ H Q →
  wpAny (model X.prog X.w) X.A (evalPairs (pairTrees keys values X.env pos)) (fun vs s'=>∃ ps H',Inv X pins σ H' s'∧VV ps vs∧Q ps H') X.xe s
theorem uR {X:Cx} {pos:Pos}:P2 X pos [] [] []:=fun pins s σ H Q I h=>pairTrees_nil_walk ⟨[],H,I,.nil,h⟩
theorem mV {X:Cx} {pos:Pos} {k v:Expr} {ks:List (Option Expr)} {vs:List Expr} {tk tv:TE} {BL:List (TE × TE)} (hk:PE X k tk) (hv:PE X v tv) (hr:P2 X pos ks vs BL) :
  P2 X pos (some k :: ks) (v :: vs) ((tk,tv) :: BL):=fun pins s σ H Q I h =>
 pairTrees_cons_walk (cA (hk pins s σ H _ I h) fun u s1 ⟨x,H1,I1,rx,q1⟩=>cA (hv pins s1 σ H1 _ I1 q1) fun w2 s2 ⟨y,H2,I2,ry,q2⟩ =>
  cA (hr pins s2 σ H2 _ I2 q2) fun ws s3 ⟨ps,H3,I3,rel,q3⟩=>⟨(x,y) :: ps,H3,I3,.cons ⟨rx,ry⟩ rel,q3⟩)
def jq (kvs more:List (Key × V)):List (Key × V):=more.foldl (fun acc kv=>putK acc kv.1 kv.2) kvs
theorem KV.merge:∀ {more:List (Key × V)} {rs:List (Key × Value)} {kvs:List (Key × V)} {vs:List (Key × Value)},KV more rs→KV kvs vs→KV (jq kvs more) (merged vs rs):=by
 intro more rs kvs vs r
 unfold KV at r
 induction r generalizing kvs vs with
 | nil=>intro q; exact q
 | @cons p q ps qs h t ih =>
  intro r0
  have e:KV (putK kvs p.1 p.2) (stored vs q.1 q.2):=by
   have:=r0.put p.1 h.2
   rw [← h.1]; exact this
  exact ih e
theorem ji:∀ (more kvs:List (Key × V)),(jq kvs more).length ≤ kvs.length + more.length
 | [],kvs=>by show kvs.length ≤ kvs.length + 0; omega
 | p :: r,kvs=>by
  have h1:=ji r (putK kvs p.1 p.2)
  have h2:=du kvs p.1 p.2
  show (jq (putK kvs p.1 p.2) r).length ≤ _
  rw [List.length_cons]; omega
theorem mZ {P:Program} {w:World}:∀ {kvs:List (Key × V)} {ws:List (Value × Value)},VV (kvs.map fun kv=>(kV kv.1,kv.2)) ws→∃ rs,Carries (cn P w) ws rs∧KV kvs rs
 | [],_,r=>by rw [List.map_nil] at r; cases r; exact ⟨[],True.intro,.nil⟩
 | p :: kvs,_,r=>by
  rw [List.map_cons] at r
  cases r with
  | @cons a b as bs h t =>
   obtain ⟨rs,c,q⟩:=mZ (P:=P) (w:=w) t
   obtain ⟨b1,b2⟩:=b
   exact ⟨(p.1,b2) :: rs,⟨mK h.1,rfl,c⟩,.cons ⟨rfl,h.2⟩ q⟩
def J8 (BL:List (TE × TE)):TE:=fun σ H Q=>∀ p,H p=none→tJ BL σ (upd H p (.dK [])) fun ps H2=>H2 p=some (.dK [])∧∃ kvs:List (Key × V),ps=kvs.map (fun kv=>(kV kv.1,kv.2))∧kvs.length ≤ 15∧Q (.ref p) (upd H2 p (.dK (jq [] kvs)))
theorem uS {X:Cx} {pos:Pos} {keys:List (Option Expr)} {values:List Expr} {BL:List (TE × TE)} (h:P2 X pos keys values BL) (hall:keys.all (·.isSome)=true) (hl:keys.length=values.length) (h0:keys ≠ [])
  (h15:keys.length ≤ 15):PE X (.Dict keys values pos) (J8 BL):=by
 intro pins s σ H Q I q
 have hn:=I.hok.fresh (Nat.le_refl s.heap.objs.size)
 have I1:=I.laid (a:=s.heap.objs.size) (o:=.dK []) (h':=s.heap.push { cls:=.type "dict",data:=.dict #[] }) (t':=s.toks) (fun _ _ q=>Heap.get?_push_of_some _ q) (Nat.le_refl _) (rN s.heap I.big)
 refine wpAny_Dict_walk (knd:=cn X.prog X.w) hall hl h0 h15 (cA (h pins _ σ _ _ I1 (q _ hn)) fun ws s2 ⟨ps,H2,I2,rel,e,kvs,ep,lk,q2⟩=>?_)
 subst ep
 obtain ⟨rs,c,rk⟩:=mZ (P:=X.prog) (w:=X.w) rel
 obtain ⟨z,hd,vs0,r0,dd⟩:=rL I2.hok e
 cases r0
 refine ⟨rs,c,dd,fun h' Bo hs=>⟨.ref s.heap.objs.size,_,?_,rfl,q2⟩⟩
 have hz:(jq [] kvs).length ≤ sizeLine:=by
  have h1:=ji kvs []
  rw [List.length_nil] at h1
  rw [sizeLine_eq]; omega
 have he:∃ q,h'.get? s.heap.objs.size=some q:=let ⟨q,_,_,hq,_⟩:=Bo; ⟨q,hq⟩
 exact qB I2 (by rw [e]; exact True.intro) hs he (tH hz hd (rk.merge .nil) Bo)
structure M2 (X:Cx) (o:Expr) (m:Str) (apos:Pos) (e f:Expr) (cpos:Pos):Prop where
 base:attributeBase o m X.env (eval o X.env)=eval o X.env
 few:((backTo cpos (starEach [e,f] X.env)).all (fun x=>!x.1) && (backToKw cpos (keywordEach [] X.env)).all (fun x=>x.1.isSome)
  && decide (([e,f]:List Expr).length + ([]:List Keyword).length + (if ([]:List Keyword).isEmpty then 0 else 1) < 30))=true
 line:(apos.endLine == cpos.line)=true
 trees:backTo cpos (starEach [e,f] X.env)=[(false,eval e X.env),(false,eval f X.env)]
def IsD (H:Hp) (a:Addr):Prop:=(∃ kvs,Rd H a (.dK kvs))∨∃ kvs,Rd H a (.dT kvs)
theorem FL {X:Cx} {pins:List (Addr × Obj)} {σ:St} {H:Hp} {s:Shared} {a:Addr} (I:Inv X pins σ H s) (d:IsD H a) :
  s.TypeIs (.ref a) "dict" ∧ (∀ b,Value.ref a=.ref b→∃ ob,s.heap.get? b=some ob∧ob.dict=none)∧(a == sysModules)=false:=by
 rcases d with ⟨kvs,e⟩ | ⟨kvs,e⟩
 ·obtain ⟨_,hd,vs,_,dd⟩:=lg I.hok e
  refine ⟨dd.typeIs,fun b q=>?_,hd⟩
  cases q
  obtain ⟨ob,_,_,h1,h2,_⟩:=dd
  exact ⟨ob,h1,h2.2.1⟩
 ·obtain ⟨_,hd,xs,_,dd⟩:=mM I.hok e
  refine ⟨dd.typeIs,fun b q=>?_,hd⟩
  cases q
  obtain ⟨ob,_,_,h1,h2,_⟩:=dd
  exact ⟨ob,h1,h2.2.1⟩
section
variable {X:Cx} {pins:List (Addr × Obj)} {σ:St} {H:Hp} {s:Shared} {a:Addr} {y d:V} {u r:Value} {o:Option V} {A:Around} {E:Value→Shared→Prop}
theorem FN {Q:Value→Shared→Prop} (hu:A.units + 1 < cLine) (I:Inv X pins σ H s) (g:gW H a y o) (ry:RelV y u) (rd:RelV d r) (h:∀ w' s',Inv X pins σ H s'→RelV (o.getD d) w'→Q w' s') :
  wpAny (model X.prog X.w) A (call (.builtin "dict.get") [.ref a,u,r]) Q E s:=by
 rcases g with ⟨kvs,k,e,ey,l⟩ | ⟨kvs,k,b,e,ey,eb,l⟩
 ·subst ey
  obtain ⟨z,hd,vs,rel,dd⟩:=lg I.hok e
  refine call_meetsIn PySem.F.slot_dict_get dd.typeIs PySem.F.entry_dict_get (PySem.F.args_dict_get_3 _ _ _) (meets_dict_get_default (cn X.prog X.w) a (mK ry) hd r) ⟨_,dd.mapOf,h _ _ (I.tok _) ?_⟩
  rw [l]
  exact (rel.val k).getD rd
 ·subst ey
  cases (show u=Value.ref b from ry)
  obtain ⟨z,hd,xs,rel,dd⟩:=mM I.hok e
  refine call_meetsIn PySem.F.slot_dict_get dd.typeIs PySem.F.entry_dict_get (PySem.F.args_dict_get_3 _ _ _) (meetsH_dict_get_default (tupleKind (cn X.prog X.w)) a b hd r) ⟨tupleKind_room_in1 hu,k,xs,j5 I.hok eb,dd,h _ _ (I.tok _) ?_⟩
  rw [l]
  exact (rel.val k).getD rd
end
def FO (td ty tx:TE):TE:=fun σ H Q=>td σ H fun x H1=>∃ a,x=.ref a∧IsD H1 a∧ty σ H1 fun y H2=>tx σ H2 fun z H3=>∃ o,gW H3 a y o∧Q (o.getD z) H3
section
variable {X:Cx} {o e f:Expr} {apos cpos:Pos} {td ty tx:TE}
theorem ng (hu:X.A.units + 1 < cLine) (ho:PE X o td) (he:PE X e ty) (hf:PE X f tx) (m:M2 X o "get" apos e f cpos):PE X (.Call (.Attribute o "get" apos) [e,f] [] cpos) (FO td ty tx):=by
 intro pins s σ H Q I h
 refine wpAny_Call_method m.base m.few m.line PySem.F.plainAttrs_dict PySem.F.slot_dict_get PySem.F.type_dict_get (cA (ho pins s σ H _ I h) fun u s1 ⟨x,H1,I1,rx,a,ex,d,q1⟩=>?_)
 subst ex
 obtain rfl:u=Value.ref a:=rx
 obtain ⟨t1,t2,_⟩:=FL I1 d
 refine ⟨t1,t2,?_⟩
 rw [m.trees]
 refine Calls.callWith_builtin rfl (Calls.evalArgs_plain (Calls.spliced_cons (cA (he pins s1 σ H1 _ I1 q1) fun iv s2 ⟨y,H2,I2,ry,q2⟩ =>
  Calls.spliced_cons (cA (hf pins s2 σ H2 _ I2 q2) fun fv s3 ⟨z,H3,I3,rz,ov,g,q3⟩=>Calls.spliced_nil ?_))))
 exact FN hu I3 g ry rz fun w' s4 I4 qx=>⟨_,H3,I4,qx,q3⟩
end
section
variable {X:Cx} {pins:List (Addr × Obj)} {σ:St} {H:Hp} {s:Shared} {a:Addr} {kvs:List (Key × V)} {A:Around} {E:Value→Shared→Prop}
theorem yl {Q:Value→Shared→Prop} (I:Inv X pins σ H s) (e:Rd H a (.dK kvs)) (h:∀ p s',H p=none→Inv X pins σ (upd H p (.dK kvs)) s'→Q (.ref p) s'):wpAny (model X.prog X.w) A (call (.type "dict") [.ref a]) Q E s:=by
 obtain ⟨z,hd,vs,rel,dd⟩:=lg I.hok e
 refine kt_call_dict hd dd (by rw [← rel.length]; exact z) fun h' Bo hs=>?_
 refine h _ _ (I.hok.fresh (Nat.le_refl _)) (I.laid (a:=s.heap.objs.size) (o:=.dK kvs) (t':=s.toks) (fun b q hq=>?_) (Nat.le_refl _) (tH z (beq_eq_false_iff_ne.mpr (Ne.symm (Nat.ne_of_lt I.big))) rel Bo))
 exact (hs.2 b (Nat.ne_of_lt (Heap.lt_size hq))).trans (Heap.get?_push_of_some _ hq)
end
section
variable {X:Cx} {pins:List (Addr × Obj)} {σ:St} {H:Hp} {s:Shared} {a:Addr} {y:V} {u:Value} {A:Around} {E:Value→Shared→Prop}
end
end L2
namespace Att
open PySem PySem.W PySem.Calls PyProof.Rows
theorem lJ {P:Params} {h:Heap}:∀ (ns:List Int) (vs:List Value),WellAll P h vs (ns.map WData.int)→IntsAre vs ns:=by
 intro ns
 induction ns with
 | nil =>
  intro vs w
  rw [List.map_nil] at w
  cases w
  exact .nil
 | cons n ns ih =>
  intro vs w
  rw [List.map_cons] at w
  cases w with
  | cons a b =>
   cases a
   exact .cons _ _ (ih _ b)
theorem wC {l:OpenLaw} {n:Nat} (hn:l.most=some n) {P:Params} {h:Heap} {args:List WData} {vals:List Value}
  (hpre:l.row.toRowW.claim.pre args=true) (hwl:WellAll P h vals args) :
  ∃ a vs ns,vals=[Value.ref a]∧args=[WData.list (ns.map WData.int)]∧h.get? a=some { cls:=.type "list",data:=.seq vs.toArray }∧IntsAre vs ns∧ns.length ≤ n:=by
 have hsh:WShape.hasAll [] args [.list .int]=true:=(pre_splitW hpre).1
 have hc:l.pre.holds [] { args:=args }=true:=(pre_splitW hpre).2
 obtain ⟨d,r,rfl,h1,h2⟩:=hasAllW_cons hsh
 obtain rfl:=hasAllW_nil h2
 obtain ⟨xs,rfl,h3⟩:=hasW_list h1
 obtain ⟨ns,rfl⟩:=items_int h3
 have hlen:ns.length ≤ n:=by
  unfold OpenLaw.pre at hc
  have h4:(WTm.not (.lt (.lit (.int (n:Int))) (.len (.arg 0)))).holds [] { args:=[.list (ns.map .int)] }=true:=by
   have h4:=(holds_andW hc).1
   rw [hn] at h4
   exact h4
  have h5:=condW_of h4 (w_not (w_lt w_lit (w_len_list (w_arg rfl))))
  rw [List.length_map] at h5
  refine Nat.le_of_not_lt fun q=>?_
  have q':(n:Int) < ((ns.length:Nat):Int):=by omega
  first
   | (rw [decide_eq_true q'] at h5; exact absurd h5 (by decide))
   | (simp at h5; omega)
 cases hwl with
 | cons w1 w2 =>
  cases w2
  cases w1 with
  | list ho hall=>exact ⟨_,_,ns,rfl,rfl,ho,lJ ns _ hall,hlen⟩
theorem wD (l:OpenLaw) (args:List WData):l.row.toRowW.claim.post args (.bool true) args=true :=
 postW_of (r:=l.row.toRowW) (X:=(true == true))
  (show WShape.has [] (.bool true) .bool=true by first | rfl | decide | simp [WShape.has,WShape.arms,WShape.armsAll])
  (show (WTm.eq .res (.lit (.bool true))).value [] { args:=args,res:=some (.bool true),after:=args }=some (.bool (true == true)) from w_eq_bool (w_res rfl) w_lit) rfl
theorem rO {l:OpenLaw} {n:Nat} {q:Program} {loose:List Str} {XP:(Str→Option Value)→Heap→Prop} {YP:World→Heap→Prop} {d:DefRec}
  (hn:l.most=some n) (hdf:d.params.defaults=[])
  (call:∀ (w:World) (s₀ s₁:Shared) (mg mb:Str→Option Value) (fa:Addr) (o:Obj) (pm cd doc:Value) (a:Addr) (vs:List Value) (ns:List Int),
   Ground q loose [] XP w s₀ mg mb s₁.heap→YP w s₁.heap →
   s₁.heap.get? fa=some o→o.data=.func (docDef d.name d.params d.body d.scope pm cd doc)→s₁.heap.CodeRec cd d.name→mg d.name=some (.ref fa) →
   s₁.heap.get? a=some { cls:=.type "list",data:=.seq vs.toArray }→IntsAre vs ns→ns.length ≤ n→s₁.gens=#[] →
   codeAny (model l.prog w) callerA (.call (.ref fa) ⟨[.ref a],[]⟩) (fun r s'=>r=.ok (.ret (.bool true))∧OldK s₁.heap s'.heap∧s'.os=s₁.os∧AllBare s'.gens) s₁) :
  WalkO q loose XP YP l.row.toRowW d [] (fun f vs=>PySem.call f vs):=by
 intro w s₀ s₁ mg mb G Y fa o pm cd doc dV kV ho hd hcd hD hmg hg args vals as hpre hlay hrd hwl hlo
 obtain rfl:dV=.none:=Dflts.none hD hdf
 obtain rfl:kV=.none:=Dflts.noKw hD
 obtain ⟨a,vs,ns,rfl,rfl,hobj,hints,hlen⟩:=wC hn hpre hwl
 refine enter_call (codeAny_mono (call w s₀ s₁ mg mb fa o pm cd doc a vs ns G Y ho (fd_plain hd) hcd hmg hobj hints hlen hg) fun r s' hq=>?_)
 obtain ⟨rfl,h2,h3,h4⟩:=hq
 exact ⟨.inl ⟨.bool true,.bool true,[],rfl,fun _=>rfl,.bool true,wD l _,fun _=>⟨List.Pairwise.nil,fun _ hm=>(nomatch hm)⟩⟩,h2,h3,h4⟩
section
variable {prog:Program} {w:World} {A:Around} {E:Value→Shared→Prop} {s:Shared} {K:Frag}
end
end Att
namespace L2
open PySem PySem.Spec PyProof.Rows
theorem pF:∀ {vs:List Value} {ns:List Int},IntsAre vs ns→Vals (ns.map V.int) vs
 | _,_,.nil=>.nil
 | _,_,.cons n t h=>.cons ⟨t,rfl⟩ (pF h)
def Only (H:Hp):Prop:=∀ b,H b=none∨∃ o xs,H b=some (.iL o (.lst xs))
theorem ym {P:Program} {w:World} {K:PySem.W.Frag} {mg mb:Str→Option Value} {CX:uL} {k:Nat} {fa a:Addr} {fd:FuncData} {x:Str} {sp:Sp} {s₁:Shared} {vs:List Value} {ns:List Int}
  (KX:K.In s₁.heap) (hns:s₁.heap.Ns mainGlobals mg) (hb:s₁.heap.Ns builtinsNs mb) (hbb:∀ x:Str,x ≠ "__name__" → mb x=bootBuiltins x) (hlim:s₁.heap.NoLimit) (hg:s₁.gens=#[])
  (ha:s₁.heap.get? a=some { cls:=.type "list",data:=.seq vs.toArray }) (hi:IntsAre vs ns) (hl:ns.length ≤ sizeLine) (hr:dr k callerA)
  (F:∀ base:Heap,K.In base→base.Ns mainGlobals mg→aL P w K mg base CX k fa fd [x] sp) (hbind:∀ (s:Shared) (u:Value),BindsTo s fd ⟨[u],[]⟩ [(x,u)])
  (hsp:∀ H:Hp,Only H→bh K H a (ns.map V.int)→sp [.ref a] H (fun v _=>v=.bl true) fun _ _ _=>False)
  (Ra:∀ H e s',CX [] H s₁ (fun _ _ _=>False) e s'→False) :
  codeAny (model P w) callerA (.call (.ref fa) ⟨[.ref a],[]⟩) (fun r s'=>r=.ok (.ret (.bool true))∧OldK s₁.heap s'.heap∧s'.os=s₁.os∧AllBare s'.gens) s₁:=by
 have rv:=pF hi
 have lenV:=hi.length
 have core:∀ H:Hp,Only H→bh K H a (ns.map V.int)→i9 P w H s₁.heap→(∀ b,H b ≠ none→b=a)→(H a ≠ none→K.lookup a=none) →
   codeAny (model P w) callerA (.call (.ref fa) ⟨[.ref a],[]⟩) (fun r s'=>r=.ok (.ret (.bool true))∧OldK s₁.heap s'.heap∧s'.os=s₁.os∧AllBare s'.gens) s₁:=by
  intro H hO hS hok hA hK
  have uT:∀ {b:Addr} {o:Obj},s₁.heap.get? b=some o→H b=none→(qm s₁.heap H).get? b=some o:=fun e n=>xP e n
  have J1:∀ {b:Addr} {o:Obj} {es:Array DictEntry} {ep:Nat},s₁.heap.get? b=some o→o.data=.dict es ep→H b=none:=fun {b o es ep} e d=>by
   cases q:H b with
   | none=>rfl
   | some u =>
    have e':b=a:=hA b (by rw [q]; simp)
    subst e'
    rw [ha] at e; cases e
    have d':Data.seq vs.toArray _=Data.dict es ep:=d
    cases d'
  have P4:∀ {b:Addr} {m:Str→Option Value},s₁.heap.Ns b m→(qm s₁.heap H).Ns b m:=fun {b m} ⟨o,es,ep,e,d,r⟩=>⟨o,es,ep,uT e (J1 e d),d,r⟩
  have hKb:K.In (qm s₁.heap H):=fun b o e=>uT (KX b o e) (by
   cases q:H b with
   | none=>rfl
   | some u =>
    have e':b=a:=hA b (by rw [q]; simp)
    subst e'
    rw [hK (by rw [q]; simp)] at e; cases e)
  have hM:Mod K mg (qm s₁.heap H):=⟨hKb,P4 hns,⟨mb,P4 hb,hbb⟩,let ⟨mc,h1,h2⟩:=hlim; ⟨mc,P4 h1,h2⟩⟩
  have e0:tf P w K mg (qm s₁.heap H) callerA [] s₁ H:=⟨rfl,hM,fun b o e=>Bs e,Nat.le_of_eq (wj _ _),trivial,fun b hb=>absurd (show b ∈ ([]:List Addr) from hb) (by simp),hok,.of_eq hg⟩
  refine codeAny_mono ((F _ hKb (P4 hns)).run callerA [] s₁ H ⟨[.ref a],[]⟩ [.ref a] [.ref a] _ _ hr e0 (hbind s₁ (.ref a)) (.cons rfl .nil) (hsp H hO hS)) fun r s' h=>?_
  cases r with
  | error e=>exact (Ra H e s' h).elim
  | ok fl =>
   cases fl with
   | next=>exact False.elim h
   | brk=>exact False.elim h
   | cont=>exact False.elim h
   | ret u =>
    obtain ⟨v,H',os,bare,un,hok',r',q⟩:=h
    have q':v=.bl true:=q
    subst q'
    obtain rfl:u=Value.bool true:=r'
    refine ⟨rfl,OldK.of_keep fun b o e=>?_,os,bare⟩
    cases q:H b with
    | none=>exact un.keep b o e q (by intro z; exact absurd (show b ∈ ([]:List Addr) from z) (by simp)) (by simp)
    | some u =>
     rcases hO b with z | ⟨ob,xs,z⟩
     ·rw [q] at z; cases z
     ·have z2:=un.jV b ob _ z
      obtain ⟨e1,_⟩:=hok b _ z
      obtain ⟨e2,_⟩:=hok' b _ z2
      rw [e] at e1; cases e1
      exact e2
 cases hk:K.lookup a with
 | some o =>
  have e:=KX a o hk
  rw [ha] at e
  cases e
  refine core (fun _=>none) (fun _=>.inl rfl) (.inr ⟨_,vs.toArray,_,hk,rfl,rfl,rfl,by rw [List.size_toArray,lenV]; exact hl,by simpa using rv⟩) (fun b u z=>by have z':(none:Option HO)=some u:=z; cases z') (fun b z=>absurd rfl z) fun z=>absurd rfl z
 | none =>
  refine core (fun b=>if b=a then some (.iL { cls:=.type "list",data:=.seq vs.toArray } (.lst (ns.map V.int))) else none) (fun b=>?_) (.inl (.inr ⟨{ cls:=.type "list",data:=.seq vs.toArray },if_pos rfl⟩)) (fun b u z=>?_) (fun b z=>?_) fun _=>hk
  ·by_cases hb:b=a
   ·exact .inr ⟨_,_,if_pos hb⟩
   ·exact .inl (if_neg hb)
  ·by_cases hb:b=a
   ·have z':=(if_pos hb).symm.trans z
    cases z'
    subst hb
    exact ⟨ha,by rw [List.length_map]; exact hl,vs,_,rv,ha⟩
   ·have z':=(if_neg hb).symm.trans z
    cases z'
  ·by_cases hb:b=a
   ·exact hb
   ·exact absurd (if_neg hb) z
theorem uU {l:PySem.W.OpenLaw} {n k:Nat} {q:Program} {loose:List Str} {XP:(Str→Option Value)→Heap→Prop} {YP:World→Heap→Prop} {d:DefRec} {K:Params→PySem.W.Frag} {CX:World→uL} {sp:World→Sp} {x:Str}
  (hn:l.most=some n) (hn2:n ≤ sizeLine) (hdf:d.params.defaults=[]) (hr:dr k callerA)
  (hY:∀ (w:World) (h:Heap),YP w h→(K w.params).In h)
  (F:∀ (w:World) (mg:Str→Option Value) (fa:Addr) (h:Heap),(K w.params).In h→h.Ns mainGlobals mg→mg d.name=some (.ref fa) →
   ∃ fd:FuncData,(∀ (s:Shared) (u:Value),BindsTo s fd ⟨[u],[]⟩ [(x,u)]) ∧
    ∀ base:Heap,(K w.params).In base→base.Ns mainGlobals mg→aL l.prog w (K w.params) mg base (CX w) k fa fd [x] (sp w))
  (hsp:∀ (w:World) (H:Hp) (a:Addr) (ns:List Int),ns.length ≤ n→Only H→bh (K w.params) H a (ns.map V.int)→sp w [.ref a] H (fun v _=>v=.bl true) fun _ _ _=>False)
  (Ra:∀ (w:World) (H:Hp) (s:Shared) (e:Value) (s':Shared),CX w [] H s (fun _ _ _=>False) e s'→False) :
  PySem.W.WalkO q loose XP YP l.row.toRowW d [] (fun f vs=>PySem.call f vs):=by
 refine Att.rO hn hdf fun w s₀ s₁ mg mb fa o pm cd doc a vs ns G Y ho hd hcd hmg hobj hints hlen hg=>?_
 have KX:=hY w _ Y
 obtain ⟨fd,hb,hF⟩:=F w mg fa _ KX G.T.g hmg
 exact ym KX G.T.g G.T.b G.T.builtins G.T.nolimit hg hobj hints (Nat.le_trans hlen hn2) hr hF hb (fun H hO hS=>hsp w H a ns hlen hO hS) fun H e s'=>Ra w H s₁ e s'
end L2
/- THE LAST THEOREM (shape; LID,My.* are yours):
   My.Adr: a structure of the addresses that your layer names (classes,functions); My.Txt K t: a structure (Prop) of the equations over K;
   My.FP:{K} {implicit addresses ..} (e1:nsIn K mainGlobals "law" = some (some (.ref f))) (e2:K.lookup f=some ⟨oc,od,.func (fnOf "law" "law" params body scope dV kV doc pm an cdv ct),sl⟩) (e3:codeIn K cdv "law" = true) ..:∃ t,My.Txt K t
set_option maxRecDepth 100000 in
set_option maxHeartbeats 0 in
theorem PySem.Challenge.cw_LID_holds : PySem.Challenge.rw_LID.Holds := by
 w_on; o_law; k_head; (case hw=>w_witness2)
 k_fill
 refine L2.uU (l:=PySem.Challenge.rw_LID) (n:=63) (k:=40) (x := "script") (CX:=fun w=>..) (sp:=fun _=>My.sp_law) rfl (by decide) rfl ⟨rfl,by decide,by decide⟩ (fun w h Y=>PySem.W.kIn_of Y) ?F ?S ?C
 case F =>
  intro w mg fa h KX G hmg
  have T:∃ t,My.Txt (L2.KOf KX) t:=by
   dsimp only [L2.KOf]
   refine' My.FP ?e1 ?e2 ?e3 ..
   (case e1=>PySem.W.k_is)
   (case e2=>PySem.W.k_is)
   ..
  obtain ⟨t,T⟩:=T
  have e0:=hmg.symm.trans (PySem.W.mg_of KX G T.law)
  cases e0
  exact ⟨_,fun s u=>.of_eq rfl,fun base kb nb=>My.law_fn T kb nb⟩
 case S=>exact fun w H a ns hl hO hS=>..
 case C=>exact ..
(the tactic k_is has no namespace: write k_is) -/
namespace L2
open PySem PySem.Spec PyProof.Rows
def inClass (s:Stmt) (j:Nat):Stmt:=match s with
 | .ClassDef _ _ _ body _ _ _ _ _ _ _=>body.getD j (.Pass ⟨0,0,0,0⟩)
 | _=>.Pass ⟨0,0,0,0⟩
def aF (s:Stmt):Arguments:=match s with
 | .FunctionDef _ a _ _ _ _ _ _ _ _=>a
 | _=>{ posonlyargs:=[],args:=[],vararg:=none,kwonlyargs:=[],kw_defaults:=[],kwarg:=none,defaults:=[] }
def aA (s:Stmt):List Stmt:=match s with
 | .FunctionDef _ _ b _ _ _ _ _ _ _=>b
 | _=>[]
def aj (s:Stmt):Scope:=match s with
 | .FunctionDef _ _ _ _ _ _ sc _ _ _=>sc
 | _=>{ kind:=.function,names:=[],isGenerator:=false,isCoroutine:=false }
abbrev cg:uL:=fun _ _ _ _ _ _=>False
abbrev E0:XK:=fun _ _ _=>False
theorem aZ {X:Cx}:Passes cg X E0:=fun _ _ _ _ _ _ _ h=>h.elim
structure dj (K:PySem.W.Frag) (x qual:Str) (st:Stmt) (f:Addr) (fd:FuncData):Prop where
 ex:∃ (oc:Value) (od:Option Addr) (kV doc pm:Value) (an:Option Addr) (cdv ct:Value) (osl:Array (Option Value)),
  fd=PySem.W.fnOf x qual (aF st) (aA st) (aj st) .none kV doc pm an cdv ct∧K.lookup f=some ⟨oc,od,.func fd,osl⟩∧PySem.W.codeIn K cdv qual=true
 kp:PySem.W.keepIn K (.ref f)=true
section
variable {P:Program} {w:World} {K:PySem.W.Frag} {mg:Str→Option Value} {base:Heap}
theorem dj.ok {x qual:Str} {st:Stmt} {f:Addr} {fd:FuncData} {N ps:List Str} {k:Nat} {sp:Sp} (F:dj K x qual st f fd) (S:aI N ps (aj st)) (len:∀ vs H Q E,sp vs H Q E→vs.length=ps.length)
  (hbody:∀ (cdv:Value) (A:Around) (outer:List Env) (s:Shared) (H:Hp) (vs:List V) (Q:VK) (E:XK),dr k (A.deeper (envOfC qual (aj st) s.heap.objs.size f cdv))→sp vs H Q E →
   ∃ t,oX (ja cg P w K mg base N qual (aj st) f cdv A outer s H E).PV (aA st) t∧t { nx:=fun _ H'=>Q .non H',rt:=Q } (start N vs) H):aL P w K mg base cg (k + 1) f fd ps sp:=by
 obtain ⟨oc,od,kV,doc,pm,an,cdv,ct,osl,rfl,lk,hcd⟩:=F.ex
 refine Eh lk hcd S len fun A outer s H vs Q E hr hsp=>?_
 obtain ⟨t,h,q⟩:=hbody cdv A outer s H vs Q E hr hsp
 exact ⟨t,h.PV,q⟩
theorem dj.binds {x qual:Str} {st:Stmt} {f:Addr} {fd:FuncData} {ps:List Str} (F:dj K x qual st f fd)
  (h:∀ (kV doc pm:Value) (an:Option Addr) (cdv ct:Value) (us:List Value),us.length=ps.length→bindArgs (PySem.W.fnOf x qual (aF st) (aA st) (aj st) .none kV doc pm an cdv ct) ⟨us,[]⟩=pure (ps.zip us)):Binds K fd ps []:=by
 obtain ⟨oc,od,kV,doc,pm,an,cdv,ct,osl,rfl,lk,hcd⟩:=F.ex
 exact .all (h kV doc pm an cdv ct)
theorem aQ {x qual:Str} {st:Stmt} {f:Addr} {oc:Value} {od an:Option Addr} {osl:Array (Option Value)} {kV doc pm cdv ct:Value} (l:K.lookup f=some ⟨oc,od,.func (PySem.W.fnOf x qual (aF st) (aA st) (aj st) .none kV doc pm an cdv ct),osl⟩)
  (c:PySem.W.codeIn K cdv qual=true) (k:PySem.W.keepIn K (.ref f)=true):dj K x qual st f (PySem.W.fnOf x qual (aF st) (aA st) (aj st) .none kV doc pm an cdv ct):=⟨⟨oc,od,kV,doc,pm,an,cdv,ct,osl,rfl,l,c⟩,k⟩
end
theorem dv {A:Around} {k:Nat} (hr:dr k A):A.units + 1 < cLine:=Nat.lt_of_le_of_lt (Nat.add_le_add_left (by decide:1 ≤ 64) _) hr.units
theorem eA {n:Nat} (h:n ≤ 1000):n < sizeLine:=Nat.lt_of_le_of_lt h (by decide)
section
variable {X:Cx}
theorem pv (i:Nat) {x:Str} {pos:Pos} (hN:X.N[i]? = some x:=by rfl) (hv:QE X.env.scope x:=by first | exact Or.inl rfl | exact Or.inr (Or.inl rfl) | exact Or.inr (Or.inr rfl)) (hd:(x == ("__debug__" : Str))=false:=by decide)
  (hcd:(x == ("__classdict__" : Str))=false:=by decide):PE X (.Name x pos) (JH i):=Fj hN hv hd hcd
end
theorem oK {A B:Prop} (h:B):if false=true then A else B:=by
 rw [if_neg Bool.false_ne_true]
 exact h
theorem yn {A B:Prop} (h:A):if true=true then A else B:=by
 rw [if_pos rfl]
 exact h
theorem cC {c A B:Prop} [Decidable c] (h1:c→A) (h2:¬ c→B):if c then A else B:=by
 by_cases h:c
 ·rw [if_pos h]
  exact h1 h
 ·rw [if_neg h]
  exact h2 h
def Same (H H':Hp):Prop:=∀ b o,H b=some o→H' b=some o
theorem Same.refl (H:Hp):Same H H:=fun _ _ h=>h
theorem Same.trans {H H1 H2:Hp} (a:Same H H1) (b:Same H1 H2):Same H H2:=fun c o h=>b c o (a c o h)
theorem Same.free {H H':Hp} (e:Same H H') {l:Addr} (h:H' l=Option.none):H l=Option.none:=by
 cases q:H l with
 | none=>rfl
 | some o =>
  rw [e l o q] at h
  cases h
section
variable {X:Cx}
end
section
variable {κ:Type} [DecidableEq κ]
theorem yo {kvs:List (κ × V)} {k:κ} (h:cF kvs k=none):¬ k ∈ kvs.map (·.1):=by
 intro m
 obtain ⟨p,hp,e⟩:=List.mem_map.mp m
 have q:(kvs.any fun kv=>decide (kv.1=k))=true:=List.any_eq_true.mpr ⟨p,hp,decide_eq_true e⟩
 rw [eT,h] at q
 exact absurd q (by simp)
end
end L2
set_option maxHeartbeats 4000000
namespace L2
open PySem PySem.Spec PyProof.Rows
def dO (env:Env) (cs:List (Str × Addr)) (nk:Str × NameKind):List (Str × Addr) :=
 if nk.2 == .free then (nk.1,(env.cells.lookup nk.1).getD 0) :: cs else cs
def rP (scope:Scope) (env:Env):List (Str × Addr):=scope.names.foldl (dO env) []
theorem BM {scope:Scope} {env:Env} (h:∀ y ∈ scope.names,y.2=.free→∃ c,env.cells.lookup y.1=some c):closureFor scope env=pure (rP scope env):=by
 have all:∀ (l:List (Str × NameKind)) (cs:List (Str × Addr)),(∀ y ∈ l,y.2=.free→∃ c,env.cells.lookup y.1=some c) →
   (forIn l cs (fun x r=>if (x.2 == NameKind.free)=true then do let a ← cellOf env x.1; pure (ForInStep.yield ((x.1,a) :: r)) else pure (ForInStep.yield r)):Sem (List (Str × Addr)))=pure (l.foldl (dO env) cs):=by
  intro l
  induction l with
  | nil=>intro cs _; rfl
  | cons y r ih =>
   intro cs hy
   obtain ⟨n,k⟩:=y
   rw [List.forIn_cons,List.foldl_cons]
   by_cases hk:(k == NameKind.free)=true
   ·obtain ⟨c,hc⟩:=hy (n,k) List.mem_cons_self (by simpa using hk)
    have e1:cellOf env n=pure c:=by unfold cellOf; rw [hc]
    have e2:dO env cs (n,k)=(n,c) :: cs:=by unfold dO; rw [if_pos hk,hc]; rfl
    rw [e2,← ih _ fun z hz=>hy z (List.mem_cons_of_mem _ hz)]
    dsimp only
    rw [if_pos hk,e1]
    rfl
   ·have e2:dO env cs (n,k)=cs:=by unfold dO; rw [if_neg hk]
    rw [e2,← ih _ fun z hz=>hy z (List.mem_cons_of_mem _ hz)]
    dsimp only
    rw [if_neg hk]
    rfl
 have e:=all scope.names [] h
 unfold closureFor rP
 rw [← e]
 simp only [bind_pure]
theorem rQ {env:Env}:∀ {l:List (Str × NameKind)} {cs:List (Str × Addr)} {n:Str} {c:Addr},(∀ y ∈ l,y.2=.free→∃ c,env.cells.lookup y.1=some c)→(n,c) ∈ l.foldl (dO env) cs→(n,c) ∈ cs∨env.cells.lookup n=some c
 | [],cs,n,c,_,m=>.inl m
 | (y,k) :: r,cs,n,c,h,m=>by
  rcases rQ (fun z hz=>h z (List.mem_cons_of_mem _ hz)) (show (n,c) ∈ r.foldl (dO env) (dO env cs (y,k)) from m) with q | q
  ·unfold dO at q
   by_cases hk:(k == NameKind.free)=true
   ·rw [if_pos hk] at q
    rcases List.mem_cons.mp q with q | q
    ·obtain ⟨d,hd⟩:=h (y,k) List.mem_cons_self (by simpa using hk)
     have hd:env.cells.lookup y=some d:=hd
     injection q with q1 q2
     subst q1
     rw [hd] at q2
     subst q2
     exact .inr hd
    ·exact .inl q
   ·rw [if_neg hk] at q
    exact .inl q
  ·exact .inr q
theorem nh {env:Env}:∀ {l:List (Str × NameKind)} {cs:List (Str × Addr)} {p:Str × Addr},p ∈ cs→p ∈ l.foldl (dO env) cs
 | [],_,_,m=>m
 | (y,k) :: r,cs,p,m=>by
  refine nh (l:=r) (cs:=dO env cs (y,k)) ?_
  unfold dO
  split
  ·exact List.mem_cons_of_mem _ m
  ·exact m
theorem rR {env:Env}:∀ {l:List (Str × NameKind)} {cs:List (Str × Addr)} {n:Str},(n,NameKind.free) ∈ l→∃ c,(n,c) ∈ l.foldl (dO env) cs
 | (y,k) :: r,cs,n,m=>by
  rcases List.mem_cons.mp m with q | q
  ·cases q
   exact ⟨(env.cells.lookup y).getD 0,nh (l:=r) (by simp [dO])⟩
  ·exact rR (l:=r) q
theorem ni {β:Type}:∀ {l:List (Str × β)} {n:Str} {c:β},(n,c) ∈ l→∃ d,l.lookup n=some d
 | (k,v) :: r,n,c,m=>by
  rw [List.lookup_cons]
  cases e:n == k with
  | true=>exact ⟨v,rfl⟩
  | false =>
   rcases List.mem_cons.mp m with q | q
   ·cases q
    simp at e
   ·exact ni q
theorem dH {env:Env} (hf:env.scope.kind=.function):∀ {names:List (Str × NameKind)} {x:Str},names.lookup x=some .free→env.kindOf x=some .cell →
  (names.map fun (n,k)=>if (k == NameKind.free && env.scope.kind == .function && env.kindOf n == some .cell) then (n,NameKind.cell) else (n,k)).lookup x=some .cell
 | [],_,h,_=>by simp at h
 | (n,k) :: r,x,h,hc=>by
  have ih:=@dH env hf r x
  show List.lookup x ((if (k == NameKind.free && env.scope.kind == .function && env.kindOf n == some .cell)=true then (n,NameKind.cell) else (n,k)) :: _)=_
  cases hx:x == n with
  | true =>
   have e:x=n:=by simpa using hx
   subst e
   simp only [List.lookup_cons,hx] at h
   cases h
   rw [if_pos (by rw [hf,hc]; rfl)]
   simp [List.lookup_cons]
  | false =>
   simp only [List.lookup_cons,hx] at h
   by_cases hc':(k == NameKind.free && env.scope.kind == .function && env.kindOf n == some .cell)=true
   ·rw [if_pos hc']; simp only [List.lookup_cons,hx]; exact ih h hc
   ·rw [if_neg hc']; simp only [List.lookup_cons,hx]; exact ih h hc
def lK (sc scope:Scope) (N:List Str):List Str→List (Option Nat)→Bool
 | [],[]=>true
 | _ :: r,none :: f=>lK sc scope N r f
 | y :: r,some i :: f=>(N[i]? == some y) && (scope.names.lookup y == some .free) && (sc.names.lookup y == some .cell) && lK sc scope N r f
 | _,_=>false
structure dI (sc scope:Scope) (N N':List Str) (fr:List (Option Nat)):Prop where
 kind:scope.kind=.function
 yp:∀ y ∈ scope.names,y.2 ≠ .cell
 names:∀ y ∈ scope.names,y.2=.local→scope.names.lookup y.1=some .local
 free:∀ y ∈ scope.names,y.2=.free→sc.names.lookup y.1=some .cell
 nd:N'.Nodup
 fr:lK sc scope N N' fr=true
def wF (fr:List (Option Nat)) (σ:St):St:=fr.map fun o=>o.bind fun i=>(σ[i]?).join
theorem nr {sc scope:Scope} {N:List Str}:∀ {N':List Str} {fr:List (Option Nat)},lK sc scope N N' fr=true→fr.length=N'.length
 | [],[],_=>rfl
 | _ :: r,none :: f,h=>by simp only [List.length_cons]; rw [nr (N':=r) (fr:=f) h]
 | y :: r,some i :: f,h=>by
  unfold lK at h
  simp only [Bool.and_eq_true] at h
  simp only [List.length_cons]; rw [nr (N':=r) (fr:=f) h.2]
 | [],_ :: _,h=>by simp [lK] at h
 | _ :: _,[],h=>by simp [lK] at h
theorem qC {sc scope:Scope} {N:List Str}:∀ {N':List Str} {fr:List (Option Nat)} {j i:Nat} {y:Str},lK sc scope N N' fr=true→N'[j]? = some y→fr[j]? = some (some i)→N[i]? = some y∧scope.names.lookup y=some .free∧sc.names.lookup y=some .cell
 | [],[],_,_,_,_,h,_=>by simp at h
 | _ :: r,none :: f,0,i,y,_,_,h=>by simp at h
 | _ :: r,none :: f,j + 1,i,y,h,h1,h2=>qC (N':=r) (fr:=f) (j:=j) h (by simpa using h1) (by simpa using h2)
 | z :: r,some k :: f,0,i,y,h,h1,h2=>by
  unfold lK at h
  simp only [Bool.and_eq_true,beq_iff_eq] at h
  have e1:z=y:=by simpa using h1
  have e2:k=i:=by simpa using h2
  subst e1 e2
  exact ⟨h.1.1.1,h.1.1.2,h.1.2⟩
 | z :: r,some k :: f,j + 1,i,y,h,h1,h2=>by
  unfold lK at h
  simp only [Bool.and_eq_true] at h
  exact qC (N':=r) (fr:=f) (j:=j) h.2 (by simpa using h1) (by simpa using h2)
 | [],_ :: _,_,_,_,h,_,_=>by simp [lK] at h
 | _ :: _,[],_,_,_,h,_,_=>by simp [lK] at h
def dY (X:Cx) (scope:Scope) (C:Addr) (N':List Str) (s₀:Shared) (H₀:Hp) (fp:List Addr):Cx where
 prog:=X.prog
 w:=X.w
 K:=X.K
 mg:=X.mg
 base:=X.base
 A:=X.A
 N:=N'
 s₀:=s₀
 H₀:=H₀
 env:=compEnvC scope (rP scope X.env) C X.env
 outer:=X.stack
 stack:=X.stack
 ex:=fp
 calm:=true
 fn:=fun _=>false
 pn:=[]
 xe:=fun _ _=>False
section
variable {X:Cx} {scope:Scope} {N':List Str} {fr:List (Option Nat)} {pins:List (Addr × Obj)} {σ:St} {H:Hp} {s:Shared} {fp:List Addr}
theorem Inv.block {h1:Heap} {t1:Nat} {m:Str→Option Value} (S:dI X.env.scope scope X.N N' fr) (hc:X.calm=true) (I:Inv X pins σ H s) (hf:∀ b ∈ fp,mw X pins H b) (hlt:∀ b ∈ fp,b < s.heap.objs.size)
  (hns:h1.Ns s.heap.objs.size m) (old:∀ b o,s.heap.get? b=some o→h1.get? b=some o) :
  Inv (dY X scope s.heap.objs.size N' s H fp) [] (wF fr σ) H { s with heap:=h1,toks:=t1 }:=by
 have hfree:∀ y ∈ scope.names,y.2=.free→∃ c,X.env.cells.lookup y.1=some c:=fun y hy e=>I.ok.has y.1 (.inl (S.free y hy e))
 have cl1:∀ y c,(rP scope X.env).lookup y=some c→X.env.cells.lookup y=some c:=fun y c e=>by
  rcases rQ (cs:=[]) hfree (PySem.mem_of_lookup e) with q | q
  ·exact absurd q (by simp)
  ·exact q
 have has:∀ y,((relabel scope X.env).names.lookup y=some .cell∨(relabel scope X.env).names.lookup y=some .free)→∃ c,(rP scope X.env).lookup y=some c:=fun y hy=>by
  have q:(y,NameKind.free) ∈ scope.names:=by
   have m:∃ k,(k=NameKind.cell∨k=NameKind.free)∧(y,k) ∈ (relabel scope X.env).names:=by
    rcases hy with hy | hy
    ·exact ⟨_,.inl rfl,PySem.mem_of_lookup hy⟩
    ·exact ⟨_,.inr rfl,PySem.mem_of_lookup hy⟩
   obtain ⟨k,hk,m⟩:=m
   obtain ⟨⟨n,k0⟩,hm,e⟩:=List.mem_map.mp m
   dsimp only at e
   by_cases hq:(k0 == NameKind.free && X.env.scope.kind == .function && X.env.kindOf n == some .cell)=true
   ·rw [if_pos hq] at e
    simp only [Bool.and_eq_true,beq_iff_eq] at hq
    injection e with e1 e2
    rw [← e1,← hq.1.1]
    exact hm
   ·rw [if_neg hq] at e
    injection e with e1 e2
    subst e1 e2
    rcases hk with hk | hk
    ·exact absurd hk (S.yp _ hm)
    ·rw [← hk]; exact hm
  obtain ⟨c,mc⟩:=rR (env:=X.env) (cs:=[]) q
  exact ni mc
 have ltC:∀ y c,X.env.cells.lookup y=some c→c < s.heap.objs.size:=fun y c e=>by
  obtain ⟨v,q⟩:=I.cell y c e
  exact q.lt
 refine ⟨⟨I.ok.mod,S.kind,I.ok.glob,I.ok.blt,Nat.le_refl _,fun x y c e1 e2=>I.ok.inj x y c (cl1 x c e1) (cl1 y c e2),has,fun x c e _=>absurd e (by simp [dY]),fun _=>I.ok.hd hc,I.ok.frames,.inl rfl,
   fun b hb=>⟨Nat.ne_of_lt (hlt b hb),fun x c e=>(hf b hb).2.2.2.2.1 x c (cl1 x c e)⟩,I.bs,Nat.le_trans I.ok.Bt I.sz,fun b o e hb=>?_,fun b hb z=>?_,I.stack,I.lN⟩,
  rfl,I.bare,Un.kept old,⟨m,hns,fun i x v e1 e2 e3=>?_⟩,fun x c e=>?_,I.fresh,fun x c e=>I.gR x c (cl1 x c e),fun p hp=>absurd hp (by simp [dY]),I.hok.kept old,?_⟩
 ·rcases (hf b hb).2.2.2.1 with z | z
  ·exact I.ok.xQ b o e z
  ·exact absurd (Nat.lt_of_lt_of_le (Heap.lt_size e) (Nat.le_trans I.ok.Bt z)) (Nat.lt_irrefl _)
 ·rcases List.mem_cons.mp (I.mq b z) with q | q
  ·exact (hf b hb).2.1 q
  ·exact (hf b hb).2.2.1 q
 ·
  have e2:(wF fr σ)[i]? = some (some v):=e2
  unfold wF at e2
  rw [List.getElem?_map] at e2
  cases q:fr[i]? with
  | none=>rw [q] at e2; cases e2
  | some o =>
   rw [q] at e2
   cases o with
   | none=>cases e2
   | some j =>
    have e2:(σ[j]?).join=some v:=Option.some.inj e2
    have e4:σ[j]? = some (some v):=by
     cases r:σ[j]? with
     | none=>rw [r] at e2; cases e2
     | some w=>rw [r] at e2; exact congrArg some e2
    obtain ⟨f1,f2,f3⟩:=qC S.fr e1 q
    obtain ⟨m0,_,hl⟩:=I.loc
    obtain ⟨u,r,l⟩:=hl j x v f1 e4 (.inr (.inl f3))
    refine ⟨u,r,.inr ⟨.inl (dH I.ok.kind f2 f3),?_⟩⟩
    obtain ⟨c,hc⟩:=has x (.inl (dH I.ok.kind f2 f3))
    rcases l with ⟨k,_⟩ | ⟨_,c',hc',ho⟩
    ·have k:X.env.scope.names.lookup x=some .local:=k
     rw [f3] at k; cases k
    ·have e:c=c':=Option.some.inj ((cl1 x c hc).symm.trans hc')
     subst e
     obtain ⟨o,ho,hd⟩:=ho
     exact ⟨c,hc,o,old c o ho,hd⟩
 ·obtain ⟨v,o,ho,hd⟩:=I.cell x c (cl1 x c e)
  exact ⟨v,o,old c o ho,hd⟩
 ·show (wF fr σ).length=N'.length
  unfold wF
  rw [List.length_map]
  exact nr S.fr
end
def Jj (X:Cx) (ifs:List Expr) (t:TT):Prop :=
 ∀ (pins:List (Addr × Obj)) (s:Shared) (σ:St) (H:Hp) (Q:Bool→Hp→Prop),Inv X pins σ H s→t σ H Q →
  wpAny (model X.prog X.w) X.A (forIn ifs true fun c r=>if r=true then do let ok ← isTrue c X.env (eval c X.env); pure (ForInStep.yield ok) else pure (ForInStep.yield r)) (TP X pins σ Q) X.xe s
def Rb:TT:=fun _ H Q=>Q true H
theorem iO {X:Cx}:Jj X [] Rb:=fun _ _ _ H _ I q=>wpAny_tests_nil ⟨H,I,q⟩
theorem iP {X:Cx} {c:Expr} {t:TT} (h:PT X c t):Jj X [c] t:=fun pins s σ H Q I q=>wpAny_tests_one (h pins s σ H Q I q)
theorem qD {prog:Program} {w:World} {A:Around} {R:Result→Shared→Prop} {s:Shared} {elt target iter:Expr} {ifs:List Expr} {scope:Scope} {pos:Pos} {it acc:Value} {env:Env} (I:Nat→Shared→Prop)
  (turn:∀ n s,I n s→wpAny (model prog w) A (pyNext it) (fun r s₁=>match r with
   | none=>R (.ok .next) s₁
   | some v=>wpAny (model prog w) A (letOwnedTupleGo target it v) (fun _ s₀=>wpAny (model prog w) A (assign target env v) (fun _ s₂ =>
     wpAny (model prog w) A (forIn ifs true fun c r=>if r=true then do let ok ← isTrue c env (eval c env); pure (ForInStep.yield ok) else pure (ForInStep.yield r)) (fun ok s₃ =>
      if ok=true then wpAny (model prog w) A (eval elt env) (fun x s₄ =>
       wpAny (model prog w) A (call (.builtin "list.append") [acc,x]) (fun _ s₅=>∃ m,m < n∧I m s₅) (fun _ _=>False) s₄) (fun _ _=>False) s₃
      else ∃ m,m < n∧I m s₃) (fun _ _=>False) s₂) (fun _ _=>False) s₀) (fun _ _=>False) s₁) (fun _ _=>False) s)
  (n:Nat) (h:I n s) :
  codeAny (model prog w) A (.compLoop (.ListComp elt [⟨target,iter,ifs,0⟩] scope pos) 0 it acc env) R s:=by
 refine codeAny_loop rfl I (fun n s hI=>?_) n h
 show wpAny _ A ((compTurn (.ListComp elt [⟨target,iter,ifs,0⟩] scope pos) 0 it acc env).onRaise (fun x=>do noteFrame x env; theTreesLotGoes x)) _ _ s
 refine wpAny_noted ?_
 rw [compTurn_list]
 refine wpAny_bind (wpAny_standAt (wpAny_bind (wpAny_mono (turn n s hI) (fun r s₁ h₁=>?_) fun _ _ h'=>h'.elim)))
 cases r with
 | none=>exact wpAny_pure h₁
 | some v =>
  refine wpAny_bind (wpAny_mono h₁ (fun _ s₀ h₀=>?_) fun _ _ h'=>h'.elim)
  refine wpAny_bind (wpAny_mono h₀ (fun _ s₂ h₂=>wpAny_bind (wpAny_mono h₂ (fun ok s₃ h₃=>?_) fun _ _ h'=>h'.elim)) fun _ _ h'=>h'.elim)
  cases ok with
  | false=>exact wpAny_pure ⟨rfl,h₃⟩
  | true =>
   exact wpAny_bind (wpAny_bind (wpAny_mono h₃ (fun x s₄ h₄=>wpAny_bind (wpAny_mono h₄ (fun _ s₅ h₅=>wpAny_pure (wpAny_pure ⟨rfl,h₅⟩)) fun _ _ h'=>h'.elim)) fun _ _ h'=>h'.elim))
def yq (fr:List (Option Nat)) (wi:TI) (g:TG) (tt:TT) (te:TE):TE:=fun σ H Q=>wi σ H fun J H1=>∀ D,H1 D=none →
 ∃ W:Nat→Nat→St→List V→Hp→Prop,(∃ m,W 0 m (wF fr σ) [] (upd H1 D (.lst [])))∧∀ i m σ ys H,W i m σ ys H →
  (J.stop i H∧Q (.ref D) H)∨(J.go i H∧∃ N:St→List V→Hp→Prop,(∀ σ' ys' H',N σ' ys' H'→∃ m',m' < m∧W (i + 1) m' σ' ys' H')∧∀ x H',J.uI i H x H'→g x σ H' fun σ2 H2=>tt σ2 H2 fun b H3 =>
   if b=true then te σ2 H3 fun v H4=>H4 D=some (.lst ys)∧ys.length < sizeLine∧N σ2 (ys ++ [v]) (upd H4 D (.lst (ys ++ [v])))
   else N σ2 ys H3)
theorem rS {X:Cx} {elt tg iter:Expr} {ifs:List Expr} {scope:Scope} {pos cpos:Pos} {wi:TI} {g:TG} {tt:TT} {te:TE} {N':List Str} {fr:List (Option Nat)} (S:dI X.env.scope scope X.N N' fr) (hc:X.calm=true) (hi:PI X tg iter wi)
  (hg:∀ C s0 H0 fp,PG (dY X scope C N' s0 H0 fp) tg g) (ht:∀ C s0 H0 fp,Jj (dY X scope C N' s0 H0 fp) ifs tt) (he:∀ C s0 H0 fp,PE (dY X scope C N' s0 H0 fp) elt te)
  (hs:∀ x,foldedSetIterable iter X.env x=pure x) {pins:List (Addr × Obj)} {s:Shared} {σ:St} {H:Hp} {Q:VK} (I:Inv X pins σ H s) (h:yq fr wi g tt te σ H Q) (use:Option (Value→Sem Unit)) (QQ:Value→Shared→Prop)
  (fin:∀ (D C:Addr) (H5:Hp) (s6:Shared),Inv X pins σ H5 s6→Q (.ref D) H5→H5 C=none→C ≠ X.env.locals→X.s₀.heap.objs.size ≤ C→(∀ x c,X.env.cells.lookup x=some c→c ≠ C)→(∀ p ∈ X.pn ++ pins,p.1 ≠ C)→(∃ m,s6.heap.Ns C m) →
   compPost (model X.prog X.w) X.A X.xe use QQ (.ref D) C (.ok .next) s6) :
  wpAny (model X.prog X.w) X.A (comprehension (.ListComp elt [⟨tg,iter,ifs,0⟩] scope pos) scope X.env cpos (newList []) false (eval iter X.env) use) QQ X.xe s:=by
 have hfree:∀ y ∈ scope.names,y.2=.free→∃ c,X.env.cells.lookup y.1=some c:=fun y hy e=>I.ok.has y.1 (.inl (S.free y hy e))
 refine wpAny_comprehension_free (use:=use) rfl hs (BM hfree) S.kind S.names (cA (hi pins s σ H _ I h) fun v s1 h1=>cA h1 fun itv s2 h2=>?_)
 obtain ⟨it,fp,tn,J,H2,e,I2,T,st2,f2,hD⟩:=h2
 subst e
 obtain ⟨W,⟨m0,w0⟩,turn⟩:=hD s2.heap.objs.size I2.fresh
 refine wpAny_newObj_type ?_
 have I3:Inv X pins σ (upd H2 s2.heap.objs.size (.lst [])) { s2 with heap:=s2.heap.push { cls:=.type "list",data:=.seq ([]:List Value).toArray },toks:=s2.toks }:=I2.FH (ys:=[]) .nil (Nat.zero_le _)
 revert I3
 generalize eD:s2.heap.objs.size=D at *
 generalize e3:({ s2 with heap:=s2.heap.push { cls:=.type "list",data:=.seq ([]:List Value).toArray },toks:=s2.toks }:Shared)=s3
 intro I3
 have k3:∀ b o,s2.heap.get? b=some o→s3.heap.get? b=some o:=fun b o e=>by rw [← e3]; exact Heap.get?_push_of_some _ e
 refine wpAny_newFunctionEnv S.yp (by intro y hy; simp at hy) (fun h4 hns hsb=>?_) S.kind
 have old:∀ b o,s3.heap.get? b=some o→h4.get? b=some o:=fun b o e=>hsb.extBut b o (Nat.ne_of_lt (Heap.lt_size e)) (Heap.get?_push_of_some _ e)
 have fD:∀ b ∈ fp,b ≠ D:=fun b hb z=>by
  obtain ⟨o,ho,_⟩:=T.obj _ _ st2 b hb
  exact absurd (Heap.lt_size ho) (by rw [z,eD]; exact Nat.lt_irrefl _)
 have f3:∀ b ∈ fp,mw X pins (upd H2 D (.lst [])) b:=fun b hb=>⟨by rw [aq (fD b hb)]; exact (f2 b hb).1,(f2 b hb).2⟩
 have l3:∀ b ∈ fp,b < s3.heap.objs.size:=fun b hb=>by
  obtain ⟨o,ho,_⟩:=T.obj _ _ st2 b hb
  exact Heap.lt_size (k3 b o ho)
 have I4:=Inv.block (t1:=s3.toks + ([]:List (Str × Value)).length) (scope:=scope) S hc I3 f3 l3 hns old
 generalize eX:dY X scope s3.heap.objs.size N' s3 (upd H2 D (.lst [])) fp=X' at I4
 have st4:tn 0 h4:=T.keep _ _ _ st2 fun b hb o e=>old b o (k3 b o e)
 have stat:∀ {H':Hp},(∀ b ∈ fp,H' b=none)→∀ b ∈ fp,mw X' [] H' b:=fun {H'} hn b hb=>by
  subst eX
  refine ⟨hn b hb,Nat.ne_of_lt (l3 b hb),?_,.inl hb,?_,fun p hp=>absurd hp (by simp [dY])⟩
  ·exact I4.ok.xR b hb
  ·exact (I4.ok.QF b hb).2
 show codeAny _ _ (.compStart _ 0 (.ref it) (.ref D) (compEnvC scope (rP scope X.env) s3.heap.objs.size X.env)) (compPost _ _ _ use _ (.ref D) s3.heap.objs.size) _
 have hX:X'.prog=X.prog∧X'.w=X.w∧X'.K=X.K∧X'.A=X.A∧X'.calm=true∧X'.env=compEnvC scope (rP scope X.env) s3.heap.objs.size X.env∧X'.xe=(fun _ _=>False)∧X'.s₀=s3∧X'.H₀=upd H2 D (.lst [])∧X'.fs=frs X.stack∧X'.ex=fp:=by
  subst eX
  exact ⟨rfl,rfl,rfl,rfl,rfl,rfl,rfl,rfl,rfl,rfl,rfl⟩
 have hg':PG X' tg g:=by subst eX; exact hg _ _ _ _
 have ht':Jj X' ifs tt:=by subst eX; exact ht _ _ _ _
 have he':PE X' elt te:=by subst eX; exact he _ _ _ _
 clear eX
 obtain ⟨x1,x2,x3,x4,x5,x6,x7,x8,x9,x10,x11⟩:=hX
 have loop:codeAny (model X.prog X.w) X.A (.compLoop (.ListComp elt [⟨tg,iter,ifs,0⟩] scope pos) 0 (.ref it) (.ref D) (compEnvC scope (rP scope X.env) s3.heap.objs.size X.env))
   (compPost (model X.prog X.w) X.A X.xe use QQ (.ref D) s3.heap.objs.size) { s3 with heap:=h4,toks:=s3.toks + ([]:List (Str × Value)).length }:=by
  refine qD (fun n s'=>∃ i σ' ys H',Inv X' [] σ' H' s'∧tn i s'.heap∧(∀ b ∈ fp,H' b=none)∧W i n σ' ys H') ?_ m0 ⟨0,_,[],_,I4,st4,fun b hb=>(f3 b hb).1,w0⟩
  rintro n s5 ⟨i,σ5,ys,H5,I5,Jh,PY,w5⟩
  rcases turn i n σ5 ys H5 w5 with ⟨stop,qn⟩ | ⟨go,N,hN,step⟩
  ·have z:=T.done X' x1 x2 x3 x5 i [] s5 σ5 H5 (fun _ _=>False) I5 (stat PY) Jh stop
   rw [x4] at z
   refine cA z fun r s6 ⟨hr,I6⟩=>?_
   subst hr
   obtain ⟨mm,hn6,_⟩:=I6.loc
   have hL:X'.env.locals=s3.heap.objs.size:=by rw [x6]; rfl
   rw [hL] at hn6
   have nC:H5 s3.heap.objs.size=none:=by have:=I6.free; rw [hL] at this; exact this
   have base:=I6.base
   rw [x8,x9,x10,x11] at base
   have hok:i9 X.prog X.w H5 s6.heap:=by have q:=I6.hok; rw [x1,x2] at q; exact q
   have os:s6.os=s3.os:=by have:=I6.os; rw [x8] at this; exact this
   have IX:Inv X pins σ H5 s6:=I3.call' os base hok I6.bare fun b hb=>⟨(f3 b hb).2.2.2.1,(f3 b hb).2.1,(f3 b hb).2.2.2.2.1,(f3 b hb).2.2.2.2.2⟩
   refine fin D s3.heap.objs.size H5 s6 IX qn nC (Nat.ne_of_gt I3.lt) I3.sz (fun x c e=>?_) (fun p hp=>?_) ⟨mm,hn6⟩
   ·obtain ⟨v,q⟩:=I3.cell x c e
    exact Nat.ne_of_lt q.lt
   ·exact Nat.ne_of_lt (Heap.lt_size (I3.pin p hp).1)
  ·have z:=T.item X' x1 x2 x3 x5 i [] s5 σ5 H5 (fun _ _=>False) I5 (stat PY) Jh go
   rw [x4] at z
   refine cA z fun r s6 ⟨u,hr,h6⟩=>?_
   subst hr
   refine cA h6 fun _ s7 ⟨x,H7,I7,r7,y7,Rc,fr7⟩=>?_
   have I7':=I7.pinned (stat fr7) (T.obj _ _ Rc)
   have again:∀ {σ':St} {H':Hp} {s':Shared},Inv X' ([] ++ my fp s7.heap) σ' H' s'→Inv X' [] σ' H' s'∧tn (i + 1) s'.heap∧∀ b ∈ fp,H' b=none:=fun {σ' H' s'} J=>by
    refine ⟨J.jD,T.keep _ _ _ Rc fun b hb o e=>(J.pin (b,o) (List.mem_append_right _ (List.mem_append_right _ (gF hb e)))).1,fun b hb=>?_⟩
    obtain ⟨o,e,d⟩:=T.obj _ _ Rc b hb
    exact (J.pin (b,o) (List.mem_append_right _ (List.mem_append_right _ (gF hb e)))).2.1
   have z:=hg' _ s7 σ5 H7 x u _ I7' r7 (step x H7 y7)
   rw [x1,x2,x4,x6,x7] at z
   refine cA z fun _ s8 ⟨σ8,H8,I8,q8⟩=>?_
   have z:=ht' _ s8 σ8 H8 _ I8 q8
   rw [x1,x2,x4,x6,x7] at z
   refine cA z fun b s9 ⟨H9,I9,q9⟩=>?_
   cases b with
   | false =>
    rw [if_neg Bool.false_ne_true] at q9 ⊢
    obtain ⟨m',hm,w9⟩:=hN _ _ _ q9
    obtain ⟨a1,a2,a3⟩:=again I9
    exact ⟨m',hm,i + 1,σ8,ys,H9,a1,a2,a3,w9⟩
   | true =>
    rw [if_pos rfl] at q9 ⊢
    have z:=he' _ s9 σ8 H9 _ I9 q9
    rw [x1,x2,x4,x6,x7] at z
    refine cA z fun v' s10 ⟨y,H10,I10,r10,Rf,hz,w10⟩=>?_
    have z:=bZ (X:=X') _ s10 σ8 H10 (.ref D) [y] (.ref D) [v'] (fun _ H'=>N σ8 (ys ++ [y]) H') I10 rfl (.cons r10 .nil) ⟨D,ys,y,rfl,rfl,Rf,hz,w10⟩
    rw [x1,x2,x4,x7] at z
    refine cA z fun _ s11 ⟨_,H11,I11,_,w11⟩=>?_
    obtain ⟨m',hm,w11⟩:=hN _ _ _ w11
    obtain ⟨a1,a2,a3⟩:=again I11
    exact ⟨m',hm,i + 1,σ8,_,H11,a1,a2,a3,w11⟩
 exact codeAny_compStart_list loop (T.self _ 0 _ _ _ st4 loop)
theorem eE {X:Cx} {elt tg iter:Expr} {ifs:List Expr} {scope:Scope} {pos:Pos} {wi:TI} {g:TG} {tt:TT} {te:TE} {N':List Str} {fr:List (Option Nat)} (S:dI X.env.scope scope X.N N' fr) (hc:X.calm=true) (hi:PI X tg iter wi)
  (hg:∀ C s0 H0 fp,PG (dY X scope C N' s0 H0 fp) tg g) (ht:∀ C s0 H0 fp,Jj (dY X scope C N' s0 H0 fp) ifs tt) (he:∀ C s0 H0 fp,PE (dY X scope C N' s0 H0 fp) elt te)
  (hs:∀ x,foldedSetIterable iter X.env x=pure x:=by intro _; rfl):PE X (.ListComp elt [⟨tg,iter,ifs,0⟩] scope pos) (yq fr wi g tt te):=by
 intro pins s σ H Q I h
 rw [eval_ListComp]
 refine rS S hc hi hg ht he hs I h none _ fun D C H5 s6 IX q nC c1 c2 c3 c4 hm=>?_
 obtain ⟨m,hm⟩:=hm
 refine ⟨m,hm,fun h' hs'=>⟨.ref D,H5,IX.turned (t':=s6.toks) (it:=C) (fun b o hb e=>hs'.extBut b o hb e) nC c1 (.inr c2) c3 c4,rfl,q⟩⟩
theorem uV {X:Cx} {elt tg iter:Expr} {ifs:List Expr} {scope:Scope} {pos spos py:Pos} {y:Str} {i:Nat} {wi:TI} {g:TG} {tt:TT} {te:TE} {N':List Str} {fr:List (Option Nat)} (hN:X.N.Nodup) (hy:X.N[i]? = some y) (hl:X.env.scope.names.lookup y=some .local)
  (S:dI X.env.scope scope X.N N' fr) (hc:X.calm=true) (hi:PI X tg iter wi)
  (hg:∀ C s0 H0 fp,PG (dY X scope C N' s0 H0 fp) tg g) (ht:∀ C s0 H0 fp,Jj (dY X scope C N' s0 H0 fp) ifs tt) (he:∀ C s0 H0 fp,PE (dY X scope C N' s0 H0 fp) elt te)
  (hs:∀ x,foldedSetIterable iter X.env x=pure x:=by intro _; rfl) (hsw:swapsWith (.ListComp elt [⟨tg,iter,ifs,0⟩] scope pos) (some (.Name y py)) spos.line X.env=pure true:=by rfl) :
  PS X (.Assign [.Name y py] (.ListComp elt [⟨tg,iter,ifs,0⟩] scope pos) spos) (Bv (yq fr wi g tt te) (oY i)):=by
 intro pins s σ H D I h
 rw [exec_Assign_Name_used _ _ _ _ hsw]
 refine wpAny_bind (wpAny_standAt (wpAny_bind ?_))
 show wpAny _ X.A (do let _ ← comprehension (.ListComp elt [⟨tg,iter,ifs,0⟩] scope pos) scope X.env _ (newList []) false (eval iter X.env) (some (assign (.Name y py) X.env))) _ _ s
 refine wpAny_bind (cA (rS S hc hi hg ht he hs I h (some (assign (.Name y py) X.env)) (fun _ s'=>SP X pins D .next s') fun L C H5 s6 IX q nC c1 c2 c3 c4 hm=>?_) fun _ s' hq=>wpAny_pure (wpAny_pure hq))
 obtain ⟨m,hm⟩:=hm
 show wpAny _ X.A (assign (.Name y py) X.env (.ref L)) _ _ _
 refine wpAny_assign_Name (oW IX hN hy (.inl hl) (show RelV (.ref L) (Value.ref L) from rfl) (fun s7 I7 hch=>?_) (.inr hl))
 obtain ⟨a,hsb,ha⟩:=hch
 have hCa:C ≠ a:=by
  rcases ha with ha | ha
  ·rw [ha]; exact c1
  ·exact (c3 _ _ ha).symm
 refine ⟨m,hm.at' (fun o e=>(hsb.2 C hCa).trans e),fun h' hs'=>⟨_,H5,I7.turned (t':=s7.toks) (it:=C) (fun b o hb e=>hs'.extBut b o hb e) nC c1 (.inr c2) c3 c4,q⟩⟩
theorem nu {lo:Int} {n:Nat} {g:TG} {tt:TT} {te:TE} {R:Hp→Prop} {D:Addr} {σ0:St} {H0:Hp} (Pv:Nat→St→List V→Hp→Prop) (h0:Pv 0 σ0 [] H0)
  (hs:∀ i σ ys H,i < n→Pv i σ ys H→g (.int (lo + i)) σ H fun σ2 H2=>tt σ2 H2 fun b H3 =>
   if b=true then te σ2 H3 fun v H4=>H4 D=some (.lst ys)∧ys.length < sizeLine∧Pv (i + 1) σ2 (ys ++ [v]) (upd H4 D (.lst (ys ++ [v]))) else Pv (i + 1) σ2 ys H3)
  (hd:∀ σ ys H,Pv n σ ys H→R H) :
  ∃ W:Nat→Nat→St→List V→Hp→Prop,(∃ m,W 0 m σ0 [] H0)∧∀ i m σ ys H,W i m σ ys H →
   ((Bm lo n).stop i H∧R H)∨((Bm lo n).go i H∧∃ N:St→List V→Hp→Prop,(∀ σ' ys' H',N σ' ys' H'→∃ m',m' < m∧W (i + 1) m' σ' ys' H')∧∀ x H',(Bm lo n).uI i H x H'→g x σ H' fun σ2 H2=>tt σ2 H2 fun b H3 =>
    if b=true then te σ2 H3 fun v H4=>H4 D=some (.lst ys)∧ys.length < sizeLine∧N σ2 (ys ++ [v]) (upd H4 D (.lst (ys ++ [v]))) else N σ2 ys H3):=by
 refine ⟨fun i m σ ys H=>m=n - i∧i ≤ n∧Pv i σ ys H,⟨n,by simp,Nat.zero_le _,h0⟩,?_⟩
 rintro i m σ ys H ⟨rfl,hi,p⟩
 by_cases hlt:i < n
 ·refine .inr ⟨hlt,Pv (i + 1),fun σ' ys' H' p'=>⟨n - (i + 1),by omega,rfl,hlt,p'⟩,fun x H' y=>?_⟩
  obtain ⟨e,y⟩:=y
  subst e y
  exact hs i σ ys _ hlt p
 ·have e:i=n:=by omega
  subst e
  exact .inl ⟨Nat.le_refl _,hd σ ys H p⟩
theorem gj {K:PySem.W.Frag} {a:Addr} {xs:List V} {g:TG} {tt:TT} {te:TE} {R:Hp→Prop} {D:Addr} {σ0:St} {H0:Hp} (Pv:Nat→St→List V→Hp→Prop) (h0:Pv 0 σ0 [] H0) (hl:∀ i σ ys H,i ≤ xs.length→Pv i σ ys H→bh K H a xs)
  (hs:∀ i x σ ys H,xs[i]? = some x→Pv i σ ys H→g x σ H fun σ2 H2=>tt σ2 H2 fun b H3 =>
   if b=true then te σ2 H3 fun v H4=>H4 D=some (.lst ys)∧ys.length < sizeLine∧Pv (i + 1) σ2 (ys ++ [v]) (upd H4 D (.lst (ys ++ [v]))) else Pv (i + 1) σ2 ys H3)
  (hd:∀ σ ys H,Pv xs.length σ ys H→R H) :
  ∃ W:Nat→Nat→St→List V→Hp→Prop,(∃ m,W 0 m σ0 [] H0)∧∀ i m σ ys H,W i m σ ys H →
   ((Ed K a).stop i H∧R H)∨((Ed K a).go i H∧∃ N:St→List V→Hp→Prop,(∀ σ' ys' H',N σ' ys' H'→∃ m',m' < m∧W (i + 1) m' σ' ys' H')∧∀ x H',(Ed K a).uI i H x H'→g x σ H' fun σ2 H2=>tt σ2 H2 fun b H3 =>
    if b=true then te σ2 H3 fun v H4=>H4 D=some (.lst ys)∧ys.length < sizeLine∧N σ2 (ys ++ [v]) (upd H4 D (.lst (ys ++ [v]))) else N σ2 ys H3):=by
 refine ⟨fun i m σ ys H=>m=xs.length - i∧i ≤ xs.length∧Pv i σ ys H,⟨xs.length,by simp,Nat.zero_le _,h0⟩,?_⟩
 rintro i m σ ys H ⟨rfl,hi,p⟩
 have q:=hl i σ ys H hi p
 by_cases hlt:i < xs.length
 ·refine .inr ⟨⟨xs,xs[i],q,by simp [hlt]⟩,Pv (i + 1),fun σ' ys' H' p'=>⟨xs.length - (i + 1),by omega,rfl,hlt,p'⟩,fun x H' y=>?_⟩
  obtain ⟨e,y⟩:=y
  subst e
  exact hs i x σ ys _ (y xs q) p
 ·have e:i=xs.length:=by omega
  subst e
  exact .inl ⟨⟨xs,q,Nat.le_refl _⟩,hd σ ys H p⟩
end L2
namespace SF
open PySem
end SF
namespace SF
open PySem PySem.Calls PyProof.Rows
section
variable {prog:Program} {w:World} {A:Around} {E:Value→Shared→Prop} {s:Shared}
end
section
variable {prog:Program} {w:World} {A:Around} {E:Value→Shared→Prop} {s:Shared}
end
section
variable {prog:Program} {w:World} {A:Around} {E:Value→Shared→Prop} {s:Shared}
set_option maxHeartbeats 8000000 in
end
end SF
namespace L2
open PySem PySem.Spec PyProof.Rows
section
variable {X:Cx}
def J9 (a b:V):Prop:=(∃ p,a=.ref p∧b=.ref p)∨(∃ i j,a=.int i∧b=.int j)∨∃ i j,a=.str i∧b=.str j
def Rg (K:PySem.W.Frag):R2:=fun x y H Q=>∃ (p q:Addr) (xs ys:List V),x=.ref p∧y=.ref q∧bh K H p xs∧bh K H q ys∧(∀ (i:Nat) a b,xs[i]? = some a→ys[i]? = some b→J9 a b)∧Q (.bl (!decide (xs=ys))) H
theorem BO {A:Around} {s:Shared} {a b:V} {u v:Value} (h:J9 a b) (ra:RelV a u) (rb:RelV b v):SeqAt.EqAt A s u v (decide (a=b)):=by
 rcases h with ⟨p,rfl,rfl⟩ | ⟨i,j,rfl,rfl⟩ | ⟨i,j,rfl,rfl⟩
 ·cases ra
  cases rb
  rw [decide_eq_true rfl]
  exact SeqAt.EqAt.same _
 ·obtain ⟨t,rfl⟩:=ra
  obtain ⟨t',rfl⟩:=rb
  rw [qq]
  exact SeqAt.EqAt.int_int _ _ _ _
 ·obtain ⟨t,rfl⟩:=ra
  obtain ⟨t',rfl⟩:=rb
  rw [qr]
  exact SeqAt.EqAt.str_str _ _ _ _
theorem all_eq {xs ys:List V} (h:xs.length=ys.length):((List.range xs.length).all fun i=>decide (xs[i]? = ys[i]?))=decide (xs=ys):=by
 rw [Bool.eq_iff_iff,List.all_eq_true,decide_eq_true_iff]
 constructor
 ·intro q
  apply List.ext_getElem?
  intro i
  rcases Nat.lt_or_ge i xs.length with z | z
  ·exact of_decide_eq_true (q i (List.mem_range.mpr z))
  ·rw [List.getElem?_eq_none z,List.getElem?_eq_none (by omega)]
 ·rintro rfl i _
  simp
theorem yr (hu:X.A.units < cLine):iN X (compareOp .NotEq) (Rg X.K):=by
 intro pins s σ H x y v u Q I rx ry h
 obtain ⟨p,q,xs,ys,rfl,rfl,hp,hq,hc,k⟩:=h
 cases rx
 cases ry
 obtain ⟨its,hv,pl,_⟩:=I.list hp
 obtain ⟨its2,hv2,pl2,_⟩:=I.list hq
 have e1:=hv.length
 have e2:=hv2.length
 by_cases hl:xs.length=ys.length
 ·have key:SeqAt.RcNeAt X.A s (.ref p) (.ref q) (!(List.range its.toArray.size).all fun i=>decide (xs[i]? = ys[i]?)):=by
   refine SeqAt.RcNeAt.lists pl.isList pl2.isList (by simp; omega) hu fun j h1 h2=>?_
   have j1:j < xs.length:=by simp at h1; omega
   have j2:j < ys.length:=by simp at h2; omega
   have z1:xs[j]? = some xs[j]:=List.getElem?_eq_getElem j1
   have z2:ys[j]? = some ys[j]:=List.getElem?_eq_getElem j2
   obtain ⟨u1,w1,r1⟩:=hv.get z1
   obtain ⟨u2,w2,r2⟩:=hv2.get z2
   have i1:its.toArray[j]=u1:=by
    have:its[j]? = some its[j]:=List.getElem?_eq_getElem (by omega)
    rw [this] at w1
    simpa using w1
   have i2:its2.toArray[j]=u2:=by
    have:its2[j]? = some its2[j]:=List.getElem?_eq_getElem (by omega)
    rw [this] at w2
    simpa using w2
   rw [i1,i2,z1,z2]
   have e:decide (some xs[j]=some ys[j])=decide (xs[j]=ys[j]):=by simp
   rw [e]
   exact BO (hc j _ _ z1 z2) r1 r2
  rw [List.size_toArray,← e1,all_eq hl] at key
  exact key _ _ _ _ ⟨.bl (!decide (xs=ys)),H,I,rfl,k⟩
 ·have key:SeqAt.RcNeAt X.A s (.ref p) (.ref q) true:=SeqAt.RcNeAt.lists_lengths pl.isList pl2.isList (by simp; omega) hu
  rw [decide_eq_false (fun z=>hl (by rw [z]))] at k
  exact key _ _ _ _ ⟨.bl true,H,I,rfl,k⟩
end
section
variable {X:Cx}
end
end L2
namespace L2
open PySem PySem.W PySem.Spec PySem.Calls PyProof.Rows
section
variable {X:Cx} {pos pos':Pos} {o i value:Expr} {td ty tv:TE}
end
end L2
namespace L2
open PySem PySem.Spec PyProof.Rows
section
variable {X:Cx} {pins:List (Addr × Obj)} {σ:St} {H:Hp} {s:Shared} {h':Heap}
theorem Inv.j6 {t':Nat} {its:List Addr} {a:Addr} {o:HO} (I:Inv X pins σ H s) (k:∀ b u,b ∉ its→s.heap.get? b=some u→h'.get? b=some u) (hf:∀ b ∈ its,mw X pins H b)
  (hp:s.heap.objs.size ≤ a) (new:cE X.prog X.w (upd H a o) h' a o):Inv X pins σ (upd H a o) { s with heap:=h',toks:=t' }:=by
 have hn:H a=none:=I.hok.fresh hp
 have Eb:∀ b u,H b=some u→b ∉ its:=fun b u e z=>by rw [(hf b z).1] at e; cases e
 have nea:∀ b u,s.heap.get? b=some u→b ≠ a:=fun b u e=>Nat.ne_of_lt (Nat.lt_of_lt_of_le (Heap.lt_size e) hp)
 refine I.step (g':=s.gens) (d':=s.drawn) (ch:=its) (fun b hb=>?_) (fun b o _ _ hc e _=>k b o hc e) (fun b o _ _ hc e _=>⟨o.slots,k b o hc e⟩) (fun b u _ e n=>?_)
  (fun b o hc e=>⟨o,k b o hc e⟩) (fun b xs e=>?_) (fun b u v e=>?_) (fun b ps e=>⟨#[],?_⟩) (fun m hm=>?_) (fun b u e=>?_) I.bare
 ·obtain ⟨_,f1,f2,f3,f4,f5⟩:=hf b hb
  exact ⟨f3,f1,f4,f5⟩
 ·rw [aq (nea b u e)]; exact n
 ·rw [aq (aB e hn)]; exact e
 ·rw [aq (aB e hn)]; exact e
 ·rw [aq (aB e hn),e]; simp
 ·obtain ⟨o,es,ep,ho,r⟩:=hm
  exact ⟨o,es,ep,k _ o (fun z=>(hf _ z).2.1 rfl) ho,r⟩
 ·by_cases hb:b=a
  ·subst hb
   rw [ai] at e
   cases e
   exact new
  ·rw [aq hb] at e
   refine (I.hok b u e).stay (fun c v hc q=>k c v ?_ q) (fun c q=>by rw [aq (aB q hn)]; exact q) fun c xs q=>by rw [aq (aB q hn)]; exact q
   rcases hc with z | z
   ·rw [z]; exact Eb b u e
   ·exact Eb c _ z
theorem Inv.BP {t':Nat} {its:List Addr} (I:Inv X pins σ H s) (k:∀ b u,b ∉ its→s.heap.get? b=some u→h'.get? b=some u) (hf:∀ b ∈ its,mw X pins H b):Inv X pins σ H { s with heap:=h',toks:=t' }:=by
 have Eb:∀ b u,H b=some u→b ∉ its:=fun b u e z=>by rw [(hf b z).1] at e; cases e
 refine I.step (g':=s.gens) (d':=s.drawn) (ch:=its) (fun b hb=>?_) (fun b o _ _ hc e _=>k b o hc e) (fun b o _ _ hc e _=>⟨o.slots,k b o hc e⟩) (fun b u _ e n=>n)
  (fun b o hc e=>⟨o,k b o hc e⟩) (fun b xs e=>e) (fun b u v e=>e) (fun b ps e=>⟨#[],by rw [e]; simp⟩) (fun m hm=>?_) (fun b u e=>?_) I.bare
 ·obtain ⟨_,f1,f2,f3,f4,f5⟩:=hf b hb
  exact ⟨f3,f1,f4,f5⟩
 ·obtain ⟨o,es,ep,ho,r⟩:=hm
  exact ⟨o,es,ep,k _ o (fun z=>(hf _ z).2.1 rfl) ho,r⟩
 ·refine (I.hok b u e).stay (fun c v hc q=>k c v ?_ q) (fun _ q=>q) fun _ _ q=>q
  rcases hc with z | z
  ·rw [z]; exact Eb b u e
  ·exact Eb c _ z
end
def Ite (K:PySem.W.Frag) (a:Addr):It :=
 ⟨fun i H=>∃ xs x,bh K H a xs∧xs[i]? = some x,
   fun i H x H'=>∃ t y,H t=none∧x=.ref t∧H'=upd H t (.tup [.int i,y])∧∀ xs,bh K H a xs→xs[i]? = some y,
   fun i H=>∃ xs,bh K H a xs∧xs.length ≤ i⟩
theorem wG {P:Program} {w:World} {K:PySem.W.Frag} {elts:List Expr} {x1} {pos:Pos} (a e it:Addr) (hne:e ≠ it) :
  Turn P w K (.Tuple elts x1 pos) (Ite K a) [e,it] e (fun i h=>(∃ old,IsEnum h e it i old)∧h.IsListIter it a i) where
 mem:=by simp
 obj:=fun i h st b hb=>by
  obtain ⟨⟨old,he⟩,o,eo,c,d⟩:=st
  rcases List.mem_cons.mp hb with rfl | hb
  ·exact ⟨_,he,fun v z=>by
    have z':Data.fields _=Data.cell v:=z
    cases z'⟩
  ·rw [List.mem_singleton.mp hb]
   exact ⟨o,eo,fun v z=>by rw [d] at z; cases z⟩
 keep:=fun i h h' st k=>⟨st.1.elim fun old he=>⟨old,k e (by simp) _ he⟩,st.2.at fun o eo=>k it (by simp) o eo⟩
 item:=by
  intro X hP hw hK hc i pins s σ H E I hf st hg
  subst hP hw hK
  obtain ⟨xs,x,hq,hx⟩:=hg
  obtain ⟨⟨old,he⟩,hit⟩:=st
  obtain ⟨its,rv,p,hz⟩:=I.list hq
  obtain ⟨u,hu,ru⟩:=rv.get hx
  refine wpAny_pyNext_enum_item he hit p.isList (x:=u) (by simpa using hu) hne fun h1 Jk hit1 ht1 hz1 k1=>?_
  refine ⟨_,rfl,wpAny_letOwnedTupleGo_enum Jk fun h2 he2 hs2=>?_⟩
  have tK:s.heap.objs.size ≠ e:=Nat.ne_of_gt (Heap.lt_size he)
  have FQ:=(hs2.2 s.heap.objs.size tK).trans ht1
  have hk:∀ b o,b ∉ [e,it]→s.heap.get? b=some o→h2.get? b=some o:=fun b o hb e'=>by
   have hb':b ≠ e∧b ≠ it:=by simpa using hb
   exact (hs2.2 b hb'.1).trans (k1 b o hb'.1 hb'.2 e')
  have hfr:H s.heap.objs.size=none:=I.hok.fresh (Nat.le_refl _)
  refine ⟨.ref s.heap.objs.size,upd H s.heap.objs.size (.tup [.int i,x]),I.j6 (t':=s.toks + 1) hk hf (Nat.le_refl _) ?_,rfl,⟨_,x,hfr,rfl,rfl,fun ys hy=>by rw [I.mr hy hq]; exact hx⟩,⟨⟨u,?_⟩,?_⟩,fun b hb=>?_⟩
  ·exact ⟨by show 2 ≤ sizeLine; decide,[.int i s.toks,u],.cons ⟨_,rfl⟩ (.cons ru .nil),⟨_,FQ,rfl,_,rfl⟩⟩
  ·exact he2
  ·obtain ⟨o,e1,e2⟩:=hit1
   exact ⟨o,(hs2.2 it (Ne.symm hne)).trans e1,e2⟩
  ·have:b ≠ s.heap.objs.size:=by
    rcases List.mem_cons.mp hb with rfl | hb
    ·exact Ne.symm tK
    ·rw [List.mem_singleton.mp hb]
     obtain ⟨o,e1,_⟩:=hit
     exact Nat.ne_of_lt (Heap.lt_size e1)
   rw [aq this]
   exact (hf b hb).1
 done:=by
  intro X hP hw hK hc i pins s σ H E I hf st hg
  subst hP hw hK
  obtain ⟨xs,hq,hx⟩:=hg
  obtain ⟨⟨old,he⟩,hit⟩:=st
  obtain ⟨its,rv,p,hz⟩:=I.list hq
  obtain ⟨f0,f1,f2,f3,f4,f5⟩:=hf it (by simp)
  have hl:=rv.length
  exact wpAny_pyNext_enum_end (I.ok.hd hc) he hit p.isList (by simp; omega) fun h' eb=>⟨rfl,I.turned (t':=s.toks) (fun b o hb e=>eb b o hb e) f0 f1 f3 f4 f5⟩
 self:=fun _ _ _ _ _ st h=>st.1.elim fun _ he=>wpAny_pyIter_enum he h
section
variable {X:Cx}
def Ka (K:PySem.W.Frag) (ta:TA):TI:=fun σ H R=>ta σ H fun vs H1=>∃ a,vs=[.ref a]∧(∃ xs,bh K H1 a xs)∧R (Ite K a) H1
theorem BQ:bootBuiltins "enumerate" = some (.type "enumerate"):=by decide +kernel
theorem gH {a:Expr} {ta:TA} {p pos:Pos} {elts:List Expr} {x1} {tpos:Pos} (hg:Gl X "enumerate") (hm:X.mg "enumerate" = none) (ha:PA X [a] ta) (hs:starEach [a] X.env=[(false,eval a X.env)]:=by rfl) :
  PI X (.Tuple elts x1 tpos) (.Call (.Name "enumerate" p) [a] [] pos) (Ka X.K ta):=by
 intro pins s σ H R I h
 refine Call_ (jX I hg hm BQ (PyProof.Rows.callWith_type1 (cA (ha pos pins s σ H _ I h) fun us s1 ⟨vs,H1,I1,r1,q1⟩=>?_) hs rfl))
 obtain ⟨a,e,⟨xs,hq⟩,q⟩:=q1
 subst e
 obtain ⟨u,rfl,ru⟩:=vals1 r1
 cases ru
 obtain ⟨its,rv,p,hz⟩:=I1.list hq
 refine call_enumerate_list p.isList fun h' he hit hsz hk=>?_
 refine wpAny_pyIter_enum he ?_
 refine ⟨s1.heap.objs.size + 1,[s1.heap.objs.size + 1,s1.heap.objs.size],_,_,H1,rfl,I1.kept (t':=s1.toks) hk,wG a _ _ (Nat.succ_ne_self _),⟨⟨_,he⟩,hit⟩,fun b hb=>?_,q⟩
 have hb':s1.heap.objs.size ≤ b:=by
  rcases List.mem_cons.mp hb with rfl | hb
  ·exact Nat.le_succ _
  ·rw [List.mem_singleton.mp hb]; exact Nat.le_refl _
 exact I1.sO hb' (I1.hok.fresh hb')
theorem ia {K:PySem.W.Frag} {a:Addr} {xs:List V} {g:TG} {tb:TS} {D:Ends} {σ:St} {H:Hp} (Pv:Nat→St→Hp→Prop) (h0:Pv 0 σ H) (hl:∀ i σ H,i ≤ xs.length→Pv i σ H→bh K H a xs)
  (hs:∀ i x σ H t,xs[i]? = some x→H t=none→Pv i σ H→g (.ref t) σ (upd H t (.tup [.int i,x])) fun σ2 H2=>tb { D with nx:=Pv (i + 1),ct:=Pv (i + 1),bk:=D.nx } σ2 H2) (hd:∀ σ H,Pv xs.length σ H→D.nx σ H) :
  ∃ W:Nat→Nat→St→Hp→Prop,(∃ m,W 0 m σ H)∧∀ i m σ H,W i m σ H →
   ((Ite K a).stop i H∧D.nx σ H)∨((Ite K a).go i H∧∃ N:St→Hp→Prop,(∀ σ' H',N σ' H'→∃ m',m' < m∧W (i + 1) m' σ' H')∧∀ x H',(Ite K a).uI i H x H'→g x σ H' fun σ2 H2=>tb { D with nx:=N,ct:=N,bk:=D.nx } σ2 H2):=by
 refine ⟨fun i m σ H=>m=xs.length - i∧i ≤ xs.length∧Pv i σ H,⟨xs.length,by simp,Nat.zero_le _,h0⟩,?_⟩
 rintro i m σ H ⟨rfl,hi,p⟩
 have q:=hl i σ H hi p
 by_cases hlt:i < xs.length
 ·refine .inr ⟨⟨xs,xs[i],q,by simp [hlt]⟩,Pv (i + 1),fun σ' H' p'=>⟨xs.length - (i + 1),by omega,rfl,hlt,p'⟩,fun x H' y=>?_⟩
  obtain ⟨t,y,hn,e1,e2,hy⟩:=y
  subst e1 e2
  exact hs i y σ _ t (hy xs q) hn p
 ·have e:i=xs.length:=by omega
  subst e
  exact .inl ⟨⟨xs,q,Nat.le_refl _⟩,hd σ H p⟩
end
end L2
namespace L2
open PySem PySem.W PySem.Spec PySem.Calls PyProof.Rows
def NF (X:Cx) (a:Addr):Prop:=∀ o u,X.H₀ a ≠ some (.iL o u)
section
variable {X:Cx} {pins:List (Addr × Obj)} {σ:St} {H:Hp} {s:Shared} {a:Addr} {kvs:List (Key × V)}
theorem Inv.freeze (I:Inv X pins σ H s) (e:H a=some (.dK kvs)):NF X a∧∃ o,s.heap.get? a=some o∧Inv X pins σ (upd H a (.iL o (.dK kvs))) s:=by
 have x:=I.hok a _ e
 obtain ⟨z,y,vs,r,ob,es,ep,g,c⟩:=id x
 refine ⟨fun o u h=>?_,ob,g,?_⟩
 ·have:=I.base.jV a o u h
  rw [e] at this
  cases this
 ·exact I.write (x:=a) (e:=a) (h':=s.heap) (t':=s.toks) (by rw [e]; exact True.intro) (.inl rfl) (fun b u _ q=>q) ⟨ob,g⟩ ⟨g,z,y,vs,r,ob,es,ep,g,c⟩
theorem Inv.Rh {o:Obj} (I:Inv X pins σ H s) (e:H a=some (.iL o (.dK kvs))) (n:NF X a):Inv X pins σ (upd H a (.dK kvs)) s:=by
 have x:cE X.prog X.w H s.heap a (.iL o (.dK kvs)):=I.hok a _ e
 have ne:∀ b u,H b=some u→(∀ o' u',u ≠ .iL o' u')→b ≠ a:=fun b u h hn=>cH h e (hn _ _)
 refine ⟨I.ok,I.os,I.bare,⟨I.base.keep,I.base.slot,fun b ob q nb hx=>?_,I.base.there,fun b xs q=>?_,fun b ob u q=>?_,fun b ps q=>?_⟩,I.loc,I.cell,?_,fun y c hc=>?_,fun p hp=>?_,fun b u q=>?_,I.len⟩
 ·have h:=I.base.free b ob q nb hx
  rw [aq (fun z=>by rw [z,e] at h; cases h)]
  exact h
 ·have h:=I.base.tups b xs q
  rw [aq (ne b _ h (by intro _ _ z; cases z))]
  exact h
 ·have h:=I.base.jV b ob u q
  have hb:b ≠ a:=fun z=>n ob u (by rw [← z]; exact q)
  rw [aq hb]
  exact h
 ·obtain ⟨more,h⟩:=I.base.ml b ps q
  refine ⟨more,?_⟩
  rw [aq (ne b _ h (by intro _ _ z; cases z))]
  exact h
 ·rw [aq (fun z=>by have:=I.free; rw [z,e] at this; cases this)]
  exact I.free
 ·rw [aq (fun z=>by have:=I.gR y c hc; rw [z,e] at this; cases this)]
  exact I.gR y c hc
 ·obtain ⟨p1,p2,p3⟩:=I.pin p hp
  refine ⟨p1,?_,p3⟩
  rw [aq (fun z=>by rw [z,e] at p2; cases p2)]
  exact p2
 ·by_cases hb:b=a
  ·subst hb
   rw [ai] at q
   cases q
   exact x.2.stay (fun c v _ q=>q) (fun c q=>by rw [aq (ne c _ q (by intro _ _ z; cases z))]; exact q) fun c xs q=>by rw [aq (ne c _ q (by intro _ _ z; cases z))]; exact q
  ·rw [aq hb] at q
   exact (I.hok b u q).stay (fun c v _ q=>q) (fun c q=>by rw [aq (ne c _ q (by intro _ _ z; cases z))]; exact q) fun c xs q=>by rw [aq (ne c _ q (by intro _ _ z; cases z))]; exact q
end
def Kb (X:Cx) (t:TS):TS:=fun D σ H=>t { D with nx:=fun σ' H'=>∃ a o kvs,H' a=some (.iL o (.dK kvs))∧NF X a∧D.nx σ' (upd H' a (.dK kvs)) } σ H
theorem uW {X:Cx} {st:Stmt} {t:TS} (h:PS X st t):PS X st (Kb X t):=fun pins s σ H D I hw =>
 wpAny_mono (h pins s σ H _ I hw) (fun f s' q=>by
  cases f with
  | next =>
   obtain ⟨σ',H',I',a,o,kvs,ea,n,q⟩:=q
   exact ⟨σ',_,I'.Rh ea n,q⟩
  | brk=>exact q
  | cont=>exact q
  | ret u=>exact q) fun _ _ z=>z
theorem jr {α β:Type} {R:α→β→Prop} {xs:List α} {ys:List β} (r:Paired R xs ys):∀ {i:Nat} {x:α},xs[i]? = some x→∃ y,ys[i]? = some y∧R x y:=by
 induction r with
 | nil=>intro i x h; simp at h
 | cons h t ih =>
  intro i x e
  cases i with
  | zero =>
   have e':=Option.some.inj e
   subst e'
   exact ⟨_,rfl,h⟩
  | succ i=>exact ih (by simpa using e)
theorem yt {P:Program} {w:World} {k:Key} {u:Value} (h:(cn P w).is k u=true):RelV (kV k) u:=by
 rcases cG h with ⟨i,t,rfl,rfl⟩ | ⟨x,t,rfl,rfl⟩
 ·exact ⟨t,rfl⟩
 ·exact ⟨t,rfl⟩
theorem j7 {X:Cx} {pins:List (Addr × Obj)} {σ:St} {H:Hp} {s:Shared} {a:Addr} {o:Obj} {kvs:List (Key × V)} (I:Inv X pins σ H s) (e:H a=some (.iL o (.dK kvs))) :
  (a == sysModules)=false∧kvs.length ≤ sizeLine∧∃ vs es ep,o.data=.dict es ep∧KV kvs vs∧s.heap.DictAt (cn X.prog X.w) a vs ep:=by
 obtain ⟨g,z,y,vs,r,ob,es,ep,g',c1,c2,c3⟩:=(show cE X.prog X.w H s.heap a (.iL o (.dK kvs)) from I.hok a _ e)
 rw [g] at g'
 cases g'
 exact ⟨y,z,vs,es,ep,c2,r,o,es,g,c1,c2,c3⟩
def Ek (a:Addr) (o:Obj) (kvs:List (Key × V)):It :=
 ⟨fun i H=>H a=some (.iL o (.dK kvs))∧i < kvs.length,
   fun i H x H'=>H'=H∧∃ k y,kvs[i]? = some (k,y)∧x=kV k,
   fun i H=>H a=some (.iL o (.dK kvs))∧kvs.length ≤ i⟩
def Kc (a:Addr) (o:Obj) (kvs:List (Key × V)):It :=
 ⟨fun i H=>H a=some (.iL o (.dK kvs))∧i < kvs.length,
   fun i H x H'=>∃ t k y,H t=none∧x=.ref t∧kvs[i]? = some (k,y)∧H'=upd H t (.tup [kV k,y]),
   fun i H=>H a=some (.iL o (.dK kvs))∧kvs.length ≤ i⟩
theorem wH {P:Program} {w:World} {K:PySem.W.Frag} {tg:Expr} (a it:Addr) (o:Obj) (kvs:List (Key × V)) {es:Array DictEntry} {ep:Nat} (ho:o.data=.dict es ep) :
  Turn P w K tg (Ek a o kvs) [it] it (fun i h=>h.IsKeyIter it a i kvs.length ep) where
 mem:=by simp
 obj:=fun i h st b hb=>by
  obtain ⟨ob,eo,c,d⟩:=st
  rw [List.mem_singleton.mp hb]
  exact ⟨ob,eo,fun v z=>by rw [d] at z; cases z⟩
 keep:=fun i h h' st k=>st.at fun ob eo=>k it (by simp) ob eo
 item:=by
  intro X hP hw hK hc i pins s σ H E I hf st hg
  subst hP hw hK
  obtain ⟨ha,hi⟩:=hg
  obtain ⟨y,z,vs,es',ep',ho',r,dA⟩:=j7 I ha
  rw [ho] at ho'
  cases ho'
  have hl:=r.length
  have hk1:kvs[i]? = some kvs[i]:=List.getElem?_eq_getElem hi
  obtain ⟨kv,hkv,rk,ru⟩:=jr r hk1
  obtain ⟨ob,eo,c,d⟩:=id st
  rw [hl] at st
  refine wpAny_pyNext_dict_item st dA (k:=kv.1) (v:=kv.2) hkv fun key h' hkey hit' hs'=>?_
  refine ⟨key,rfl,?_⟩
  obtain ⟨ob',eo',c',d'⟩:=id hit'
  obtain ⟨f0,f1,f2,f3,f4,f5⟩:=hf it (by simp)
  refine uJ (n := "dict_keyiterator") eo' c' d' (by decide) ?_
  refine ⟨kV kv.1,H,I.turned (t':=s.toks) (fun b o hb e=>(hs'.2 b hb).trans e) f0 f1 f3 f4 f5,yt hkey,⟨rfl,kvs[i].1,kvs[i].2,hk1,by rw [rk]⟩,by rw [hl]; exact hit',fun b hb=>(hf b hb).1⟩
 done:=by
  intro X hP hw hK hc i pins s σ H E I hf st hg
  subst hP hw hK
  obtain ⟨ha,hi⟩:=hg
  obtain ⟨y,z,vs,es',ep',ho',r,dA⟩:=j7 I ha
  rw [ho] at ho'
  cases ho'
  have hl:=r.length
  rw [hl] at st
  obtain ⟨f0,f1,f2,f3,f4,f5⟩:=hf it (by simp)
  exact wpAny_pyNext_dict_end (I.ok.hd hc) st dA (List.getElem?_eq_none (by omega)) fun h' eb=>⟨rfl,I.turned (t':=s.toks) (fun b o hb e=>eb b o hb e) f0 f1 f3 f4 f5⟩
 self:=fun _ _ _ _ _ st h=>wpAny_pyIter_keyiter st h
theorem tL {P:Program} {w:World} {K:PySem.W.Frag} {elts:List Expr} {x1} {pos:Pos} (a it:Addr) (o:Obj) (kvs:List (Key × V)) {es:Array DictEntry} {ep:Nat} (ho:o.data=.dict es ep) :
  Turn P w K (.Tuple elts x1 pos) (Kc a o kvs) [it] it (fun i h=>∃ ok ov,IsItemIter h it a i kvs.length ep ok ov) where
 mem:=by simp
 obj:=fun i h st b hb=>by
  obtain ⟨ok,ov,he⟩:=st
  rw [List.mem_singleton.mp hb]
  exact ⟨_,he,fun v z=>by
   have z':Data.fields _=Data.cell v:=z
   cases z'⟩
 keep:=fun i h h' st k=>st.elim fun ok st=>st.elim fun ov he=>⟨ok,ov,k it (by simp) _ he⟩
 item:=by
  intro X hP hw hK hc i pins s σ H E I hf st hg
  subst hP hw hK
  obtain ⟨ha,hi⟩:=hg
  obtain ⟨y,z,vs,es',ep',ho',r,dA⟩:=j7 I ha
  rw [ho] at ho'
  cases ho'
  have hl:=r.length
  have hk1:kvs[i]? = some kvs[i]:=List.getElem?_eq_getElem hi
  obtain ⟨kv,hkv,rk,ru⟩:=jr r hk1
  obtain ⟨ok,ov,he⟩:=st
  rw [hl] at he
  refine wpAny_pyNext_items_item he dA (k:=kv.1) (v:=kv.2) hkv fun key h1 hkey Jk ht1 hz1 k1=>?_
  refine ⟨_,rfl,wpAny_letOwnedTupleGo_items Jk fun h2 he2 hs2=>?_⟩
  have tK:s.heap.objs.size ≠ it:=Nat.ne_of_gt (Heap.lt_size he)
  have FQ:=(hs2.2 s.heap.objs.size tK).trans ht1
  have hk:∀ b o,b ∉ [it]→s.heap.get? b=some o→h2.get? b=some o:=fun b o hb e'=>by
   have hb':b ≠ it:=by simpa using hb
   exact (hs2.2 b hb').trans (k1 b o hb' e')
  have hfr:H s.heap.objs.size=none:=I.hok.fresh (Nat.le_refl _)
  refine ⟨.ref s.heap.objs.size,upd H s.heap.objs.size (.tup [kV kvs[i].1,kvs[i].2]),I.j6 (t':=s.toks) hk hf (Nat.le_refl _) ?_,rfl,⟨_,kvs[i].1,kvs[i].2,hfr,rfl,hk1,rfl⟩,⟨_,_,by rw [hl]; exact he2⟩,fun b hb=>?_⟩
  ·exact ⟨by show 2 ≤ sizeLine; decide,[key,kv.2],.cons (by rw [rk]; exact yt hkey) (.cons ru .nil),⟨_,FQ,rfl,_,rfl⟩⟩
  ·have:b ≠ s.heap.objs.size:=by
    rw [List.mem_singleton.mp hb]
    exact Ne.symm tK
   rw [aq this]
   exact (hf b hb).1
 done:=by
  intro X hP hw hK hc i pins s σ H E I hf st hg
  subst hP hw hK
  obtain ⟨ha,hi⟩:=hg
  obtain ⟨y,z,vs,es',ep',ho',r,dA⟩:=j7 I ha
  rw [ho] at ho'
  cases ho'
  have hl:=r.length
  obtain ⟨ok,ov,he⟩:=st
  rw [hl] at he
  obtain ⟨f0,f1,f2,f3,f4,f5⟩:=hf it (by simp)
  exact wpAny_pyNext_items_end (I.ok.hd hc) he dA (List.getElem?_eq_none (by omega)) fun h' eb=>⟨rfl,I.turned (t':=s.toks) (fun b o hb e=>eb b o hb e) f0 f1 f3 f4 f5⟩
 self:=fun _ _ _ _ _ st h=>st.elim fun ok st=>st.elim fun ov he=>kcp_self he h
section
variable {X:Cx}
def Kd (X:Cx) (td:TE):TI:=fun σ H R=>td σ H fun x H1=>∃ a kvs,x=.ref a∧H1 a=some (.dK kvs)∧∀ o,NF X a→R (Ek a o kvs) (upd H1 a (.iL o (.dK kvs)))
theorem uX {tg e:Expr} {td:TE} (hd:PE X e td):PI X tg e (Kd X td):=by
 intro pins s σ H R I h
 refine cA (hd pins s σ H _ I h) fun u s1 ⟨x,H1,I1,rx,a,kvs,ex,ea,q⟩=>?_
 subst ex
 obtain rfl:u=Value.ref a:=rx
 obtain ⟨nf,o,ho,I2⟩:=I1.freeze ea
 obtain ⟨y,z,vs,es,ep,hod,r,dA⟩:=j7 I2 (ai (H:=H1) (a:=a))
 have hl:=r.length
 refine wpAny_pyIter_dict y dA ?_
 have hn:=I2.hok.fresh (Nat.le_refl s1.heap.objs.size)
 refine ⟨s1.heap.objs.size,[s1.heap.objs.size],_,_,_,rfl,I2.kept (t':=s1.toks) (fun b o e=>Heap.get?_push_of_some _ e),wH a _ o kvs hod,?_,fun b hb=>?_,q o nf⟩
 ·exact ⟨_,Heap.get?_push_size _ rfl,rfl,by rw [hl]; rfl⟩
 ·rw [List.mem_singleton.mp hb]
  exact I2.sO (Nat.le_refl _) hn
def FT (X:Cx) (td:TE):TI:=fun σ H R=>td σ H fun x H1=>∃ a kvs,x=.ref a∧H1 a=some (.dK kvs)∧∀ o,NF X a→R (Kc a o kvs) (upd H1 a (.iL o (.dK kvs)))
theorem yu {elts:List Expr} {x1} {tpos:Pos} {e:Expr} {apos pos:Pos} {td:TE} (hd:PE X e td) (hbase:attributeBase e "items" X.env (eval e X.env)=eval e X.env:=by rfl) (hline:(apos.endLine == pos.line)=true:=by rfl) :
  PI X (.Tuple elts x1 tpos) (.Call (.Attribute e "items" apos) [] [] pos) (FT X td):=by
 intro pins s σ H R I h
 refine wpAny_Call_method (T := "dict") (id := "dict.items") hbase rfl hline PySem.F.plainAttrs_dict PySem.F.slot_dict_items PySem.F.type_dict_items (cA (hd pins s σ H _ I h) fun u s1 ⟨x,H1,I1,rx,a,kvs,ex,ea,q⟩=>?_)
 subst ex
 obtain rfl:u=Value.ref a:=rx
 obtain ⟨z,y,vs,r,dd⟩:=rL I1.hok ea
 refine ⟨dd.typeIs,dd.mapOf.noDict,?_⟩
 show wpAny _ _ (callWith pos (.builtin "dict.items") [.ref a] [] []) _ _ s1
 refine method_meetsIn PySem.F.slot_dict_items PySem.F.entry_dict_items rfl (PySem.evalArgs_none ⟨rfl,dd.typeIs,PySem.F.args_dict_items_1 _,_,meets_dict_items (cn X.prog X.w) a y,⟨vs,dd⟩,?_⟩)
 obtain ⟨nf,o,ho,I2⟩:=I1.freeze ea
 have I3:=I2.kept (t':=s1.toks) (h':=s1.heap.push { cls:=.type "dict_items",data:=.fields #[.ref a] }) (fun b o e=>Heap.get?_push_of_some _ e)
 obtain ⟨y3,z3,vs3,es,ep,hod,r3,dA⟩:=j7 I3 (ai (H:=H1) (a:=a))
 have hl:=r3.length
 refine wpAny_pyIter_items (v:=s1.heap.objs.size) (d:=a) ⟨_,Heap.get?_push_size _ rfl,rfl,rfl⟩ dA ?_
 have hz:(s1.heap.push { cls:=.type "dict_items",data:=.fields #[.ref a] }).objs.size=s1.heap.objs.size + 1:=size_push' _ _
 refine ⟨_,[(s1.heap.push { cls:=.type "dict_items",data:=.fields #[.ref a] }).objs.size],_,_,_,rfl,I3.kept (t':=s1.toks) (fun b o e=>Heap.get?_push_of_some _ e),tL a _ o kvs hod,?_,fun b hb=>?_,q o nf⟩
 ·exact ⟨_,_,by rw [hl]; exact Heap.get?_push_size _ rfl⟩
 ·rw [List.mem_singleton.mp hb]
  exact I3.sO (Nat.le_refl _) (I3.hok.fresh (Nat.le_refl _))
theorem yv {a:Addr} {o:Obj} {kvs:List (Key × V)} {g:TG} {tb:TS} {D:Ends} {σ:St} {H:Hp} (Pv:Nat→St→Hp→Prop) (h0:Pv 0 σ H) (hl:∀ i σ H,i ≤ kvs.length→Pv i σ H→H a=some (.iL o (.dK kvs)))
  (hs:∀ i k y σ H,kvs[i]? = some (k,y)→Pv i σ H→g (kV k) σ H fun σ2 H2=>tb { D with nx:=Pv (i + 1),ct:=Pv (i + 1),bk:=D.nx } σ2 H2) (hd:∀ σ H,Pv kvs.length σ H→D.nx σ H) :
  ∃ W:Nat→Nat→St→Hp→Prop,(∃ m,W 0 m σ H)∧∀ i m σ H,W i m σ H →
   ((Ek a o kvs).stop i H∧D.nx σ H)∨((Ek a o kvs).go i H∧∃ N:St→Hp→Prop,(∀ σ' H',N σ' H'→∃ m',m' < m∧W (i + 1) m' σ' H')∧∀ x H',(Ek a o kvs).uI i H x H'→g x σ H' fun σ2 H2=>tb { D with nx:=N,ct:=N,bk:=D.nx } σ2 H2):=by
 refine ⟨fun i m σ H=>m=kvs.length - i∧i ≤ kvs.length∧Pv i σ H,⟨kvs.length,by simp,Nat.zero_le _,h0⟩,?_⟩
 rintro i m σ H ⟨rfl,hi,p⟩
 have q:=hl i σ H hi p
 by_cases hlt:i < kvs.length
 ·refine .inr ⟨⟨q,hlt⟩,Pv (i + 1),fun σ' H' p'=>⟨kvs.length - (i + 1),by omega,rfl,hlt,p'⟩,fun x H' y=>?_⟩
  obtain ⟨rfl,k,v,e,rfl⟩:=y
  exact hs i k v σ _ e p
 ·have e:i=kvs.length:=by omega
  subst e
  exact .inl ⟨⟨q,Nat.le_refl _⟩,hd σ H p⟩
theorem wI {a:Addr} {o:Obj} {kvs:List (Key × V)} {g:TG} {tb:TS} {D:Ends} {σ:St} {H:Hp} (Pv:Nat→St→Hp→Prop) (h0:Pv 0 σ H) (hl:∀ i σ H,i ≤ kvs.length→Pv i σ H→H a=some (.iL o (.dK kvs)))
  (hs:∀ i k y σ H t,kvs[i]? = some (k,y)→H t=none→Pv i σ H→g (.ref t) σ (upd H t (.tup [kV k,y])) fun σ2 H2=>tb { D with nx:=Pv (i + 1),ct:=Pv (i + 1),bk:=D.nx } σ2 H2) (hd:∀ σ H,Pv kvs.length σ H→D.nx σ H) :
  ∃ W:Nat→Nat→St→Hp→Prop,(∃ m,W 0 m σ H)∧∀ i m σ H,W i m σ H →
   ((Kc a o kvs).stop i H∧D.nx σ H)∨((Kc a o kvs).go i H∧∃ N:St→Hp→Prop,(∀ σ' H',N σ' H'→∃ m',m' < m∧W (i + 1) m' σ' H')∧∀ x H',(Kc a o kvs).uI i H x H'→g x σ H' fun σ2 H2=>tb { D with nx:=N,ct:=N,bk:=D.nx } σ2 H2):=by
 refine ⟨fun i m σ H=>m=kvs.length - i∧i ≤ kvs.length∧Pv i σ H,⟨kvs.length,by simp,Nat.zero_le _,h0⟩,?_⟩
 rintro i m σ H ⟨rfl,hi,p⟩
 have q:=hl i σ H hi p
 by_cases hlt:i < kvs.length
 ·refine .inr ⟨⟨q,hlt⟩,Pv (i + 1),fun σ' H' p'=>⟨kvs.length - (i + 1),by omega,rfl,hlt,p'⟩,fun x H' y=>?_⟩
  obtain ⟨t,k,v,ht,rfl,e,rfl⟩:=y
  exact hs i k v σ H t e ht p
 ·have e:i=kvs.length:=by omega
  subst e
  exact .inl ⟨⟨q,Nat.le_refl _⟩,hd σ H p⟩
end
def tM (x:V):Prop:=x=.non∨(∃ i,x=.int i)∨∃ t,x=.str t
theorem qE {A:Around} {s:Shared} {x:V} {u v:Value} (h:tM x) (ru:RelV x u) (rv:RelV x v):SeqAt.EqAt A s u v true:=by
 rcases h with rfl | ⟨i,rfl⟩ | ⟨t,rfl⟩
 ·have e1:u=Value.none:=ru
  have e2:v=Value.none:=rv
  subst e1 e2
  exact SeqAt.EqAt.same _
 ·obtain ⟨t1,rfl⟩:=ru
  obtain ⟨t2,rfl⟩:=rv
  have:=SeqAt.EqAt.int_int (A:=A) (s:=s) i t1 i t2
  rwa [beq_self_eq_true] at this
 ·obtain ⟨t1,rfl⟩:=ru
  obtain ⟨t2,rfl⟩:=rv
  have:=SeqAt.EqAt.str_str (A:=A) (s:=s) t t1 t t2
  rwa [beq_self_eq_true] at this
abbrev iD (kvs:List (Int × Int)):List (Key × V):=kvs.map fun p=>(Sum.inl p.1,V.int p.2)
def Ri (H:Hp) (x y:V):Prop:=∃ p q xs,x=.ref p∧y=.ref q∧H p=some (.tup xs)∧H q=some (.tup xs)∧∀ z ∈ xs,tM z
def BR (H:Hp) (x y:V):Prop:=(x=y∧tM x)∨Ri H x y∨(∃ p q xs,x=.ref p∧y=.ref q∧H p=some (.lst xs)∧H q=some (.lst xs)∧∀ z ∈ xs,tM z) ∨
 (∃ p q xs ys,x=.ref p∧y=.ref q∧H p=some (.lst xs)∧H q=some (.lst ys)∧xs.length=ys.length∧∀ (i:Nat) a b,xs[i]? = some a→ys[i]? = some b→Ri H a b) ∨
 ∃ p q ka kb,x=.ref p∧y=.ref q∧H p=some (.dK (iD ka))∧H q=some (.dK (iD kb))∧ka.length=kb.length∧∀ c ∈ ka,c ∈ kb
theorem all_true (n:Nat):((List.range n).all fun _=>true)=true:=by simp
def pG (kv:Key × Value):Int × Value:=match kv.1 with
 | .inl i=>(i,kv.2)
 | .inr _=>(0,kv.2)
theorem yw {P:Program} {w:World} (P':Program) (w':World) {es:List DictEntry} {vs:List (Key × Value)} (p:Pairs (cn P w) es vs):(∀ kv ∈ vs,∃ i,kv.1=Sum.inl i)→Pairs (intKind P' w') es (vs.map pG):=by
 induction p with
 | nil=>intro _; exact .nil
 | @cons e kv es vs h1 h2 t ih =>
  intro ha
  obtain ⟨i,hi⟩:=ha kv (by simp)
  rw [hi] at h1
  have e1:pG kv=(i,kv.2):=by unfold pG; rw [hi]
  rw [List.map_cons,e1]
  exact .cons h1 h2 (ih fun kv hk=>ha kv (by simp [hk]))
theorem wJ {P:Program} {w:World} {es:List DictEntry} {vs:List (Key × Value)} (p:Pairs (cn P w) es vs):∀ e ∈ es,∃ kv ∈ vs,(cn P w).is kv.1 e.key=true:=by
 induction p with
 | nil=>intro e h; simp at h
 | @cons e kv es vs h1 h2 t ih =>
  intro e' he
  rcases List.mem_cons.mp he with rfl | he
  ·exact ⟨kv,by simp,h1⟩
  ·obtain ⟨kv',a,b⟩:=ih e' he
   exact ⟨kv',by simp [a],b⟩
theorem int_dict {P:Program} {w:World} {h:Heap} {a:Addr} {vs:List (Key × Value)} {kvs:List (Int × Int)} (r:KV (iD kvs) vs) (d:h.DictOf (cn P w) a vs) (P':Program) (w':World) :
  ∃ us:List (Int × Value),h.DictOf (intKind P' w') a us∧us.map (·.1)=kvs.map (·.1)∧∀ (i:Nat) p,kvs[i]? = some p→∃ t,us[i]? = some (p.1,Value.int p.2 t):=by
 obtain ⟨o,es,ep,g,ex,dt,hk,hp,hn⟩:=d
 have hl:vs.length=kvs.length:=by rw [← r.length,List.length_map]
 have hv:∀ (i:Nat) p,kvs[i]? = some p→∃ t,vs[i]? = some (Sum.inl p.1,Value.int p.2 t):=fun i p hi=>by
  obtain ⟨y,hy,h1,h2⟩:=jr r (i:=i) (x:=(Sum.inl p.1,V.int p.2)) (by rw [List.getElem?_map,hi]; rfl)
  obtain ⟨t,e⟩:=(show ∃ t,y.2=Value.int p.2 t from h2)
  exact ⟨t,by rw [hy,← e]; congr 1; exact Prod.ext h1.symm rfl⟩
 have hu:∀ (i:Nat) p,kvs[i]? = some p→∃ t,(vs.map pG)[i]? = some (p.1,Value.int p.2 t):=fun i p hi=>by
  obtain ⟨t,e⟩:=hv i p hi
  exact ⟨t,by rw [List.getElem?_map,e]; rfl⟩
 have hkeys:(vs.map pG).map (·.1)=kvs.map (·.1):=by
  apply List.ext_getElem?
  intro i
  rcases Nat.lt_or_ge i kvs.length with hi | hi
  ·obtain ⟨t,e⟩:=hu i kvs[i] (List.getElem?_eq_getElem hi)
   rw [List.getElem?_map,e,List.getElem?_map,List.getElem?_eq_getElem hi]
   rfl
  ·rw [List.getElem?_eq_none (by rw [List.length_map,List.length_map]; omega),List.getElem?_eq_none (by rw [List.length_map]; omega)]
 have hall:∀ kv ∈ vs,∃ i,kv.1=Sum.inl i:=fun kv hm=>by
  obtain ⟨i,hi,e⟩:=List.getElem_of_mem hm
  obtain ⟨t,e2⟩:=hv i kvs[i] (List.getElem?_eq_getElem (by omega))
  rw [List.getElem?_eq_getElem hi,e] at e2
  exact ⟨_,congrArg Prod.fst (Option.some.inj e2)⟩
 refine ⟨vs.map pG,⟨o,es,ep,g,ex,dt,?_,?_,?_⟩,hkeys,hu⟩
 ·intro e he
  obtain ⟨k,k1,k2⟩:=hk e he
  obtain ⟨kv,hm,h1⟩:=wJ hp e (Array.mem_toList_iff.mpr he)
  obtain ⟨i,hi⟩:=hall kv hm
  have ek:k=kv.1:=(cn P w).inj _ _ _ k1 h1
  rw [ek,hi] at k1 k2
  exact ⟨i,k1,k2⟩
 ·exact yw P' w' hp hall
 ·rw [hkeys]
  have e:vs.map (·.1)=(kvs.map (·.1)).map (Sum.inl:Int→Key):=by
   apply List.ext_getElem?
   intro i
   rcases Nat.lt_or_ge i kvs.length with hi | hi
   ·obtain ⟨t,e⟩:=hv i kvs[i] (List.getElem?_eq_getElem hi)
    rw [List.getElem?_map,e,List.getElem?_map,List.getElem?_map,List.getElem?_eq_getElem hi]
    rfl
   ·rw [List.getElem?_eq_none (by rw [List.length_map]; omega),List.getElem?_eq_none (by rw [List.length_map,List.length_map]; omega)]
  rw [e] at hn
  exact List.Pairwise.of_map (Sum.inl:Int→Key) (fun a b h=>fun z=>h (by rw [z])) hn
theorem uY {A:Around} {s:Shared} {kb:List (Int × Int)} {ub:List (Int × Value)} (hn:(ub.map (·.1)).Nodup) (hb:∀ (i:Nat) p,kb[i]? = some p→∃ t,ub[i]? = some (p.1,Value.int p.2 t)) :
  ∀ (ka:List (Int × Int)) (ua:List (Int × Value)),ua.length=ka.length→(∀ (i:Nat) p,ka[i]? = some p→∃ t,ua[i]? = some (p.1,Value.int p.2 t))→(∀ c ∈ ka,c ∈ kb)→KeqHits A s ub ua true
 | [],[],_,_,_=>.nil
 | [],_ :: _,h,_,_=>by simp at h
 | _ :: _,[],h,_,_=>by simp at h
 | c :: ka,u :: ua,hl,ha,hm=>by
  obtain ⟨t,e⟩:=ha 0 c rfl
  have eu:u=(c.1,Value.int c.2 t):=Option.some.inj e
  subst eu
  obtain ⟨j,hj,ej⟩:=List.getElem_of_mem (hm c (by simp))
  obtain ⟨t2,e2⟩:=hb j c (by rw [List.getElem?_eq_getElem hj,ej])
  have hv:valueAt ub c.1=some (Value.int c.2 t2):=by
   unfold valueAt
   have hmem:(c.1,Value.int c.2 t2) ∈ ub:=List.mem_of_getElem? e2
   have hf:∀ (l:List (Int × Value)),(l.map (·.1)).Nodup→(c.1,Value.int c.2 t2) ∈ l→l.find? (fun kv=>decide (kv.1=c.1))=some (c.1,Value.int c.2 t2):=by
    intro l
    induction l with
    | nil=>intro _ h; simp at h
    | cons x l ih =>
     intro hnd hx
     rw [List.map_cons,List.nodup_cons] at hnd
     rcases List.mem_cons.mp hx with rfl | hx
     ·simp
     ·have ne:¬ x.1=c.1:=fun z=>hnd.1 (by rw [z]; exact List.mem_map.mpr ⟨_,hx,rfl⟩)
      rw [List.find?_cons_of_neg (by simpa using ne)]
      exact ih hnd.2 hx
   rw [hf ub hn hmem]
   rfl
  have h1:=SeqAt.EqAt.int_int (A:=A) (s:=s) c.2 t c.2 t2
  rw [beq_self_eq_true] at h1
  have r:=uY (A:=A) (s:=s) hn hb ka ua (by simpa using hl) (fun i p hi=>ha (i + 1) p (by simpa using hi)) (fun c hc=>hm c (by simp [hc]))
  have:=KeqHits.hit (k:=c.1) hv h1 r
  simpa using this
section
variable {X:Cx} {pins:List (Addr × Obj)} {σ:St} {H:Hp} {s:Shared} {A:Around}
theorem yx (hu:A.units < cLine) (I:Inv X pins σ H s) {x y:V} {u v:Value} (h:Ri H x y) (ru:RelV x u) (rv:RelV y v):SeqAt.EqAt A s u v true:=by
 obtain ⟨p,q,xs,rfl,rfl,hp,hq,hs⟩:=h
 cases ru
 cases rv
 by_cases e:p=q
 ·subst e; exact SeqAt.EqAt.same _
 ·obtain ⟨_,i1,r1,t1⟩:=(show cE X.prog X.w H s.heap p (.tup xs) from I.hok p _ hp)
  obtain ⟨_,i2,r2,t2⟩:=(show cE X.prog X.w H s.heap q (.tup xs) from I.hok q _ hq)
  have l1:=r1.length
  have l2:=r2.length
  have key:=SeqAt.RcAt.tuples (A:=A) (s:=s) (e:=fun _=>true) t1 t2 hu fun j h1 h2=>by
   have j1:j < xs.length:=by simp at h1; omega
   have z1:xs[j]? = some xs[j]:=List.getElem?_eq_getElem j1
   obtain ⟨u1,w1,q1⟩:=r1.get z1
   obtain ⟨u2,w2,q2⟩:=r2.get z1
   have e1:i1.toArray[j]=u1:=by
    have:i1[j]? = some i1[j]:=List.getElem?_eq_getElem (by omega)
    rw [this] at w1
    simpa using w1
   have e2:i2.toArray[j]=u2:=by
    have:i2[j]? = some i2[j]:=List.getElem?_eq_getElem (by omega)
    rw [this] at w2
    simpa using w2
   rw [e1,e2]
   exact qE (hs _ (List.getElem_mem j1)) q1 q2
  rw [all_true] at key
  have e3:(true && i1.toArray.size == i2.toArray.size)=true:=by simp; omega
  rw [e3] at key
  exact SeqAt.EqAt.of_refs e key
theorem ny (hu:A.units < cLine) (I:Inv X pins σ H s) {p q:Addr} {xs ys:List V} (hp:H p=some (.lst xs)) (hq:H q=some (.lst ys)) (hl:xs.length=ys.length)
  (he:∀ (i:Nat) a b u v,xs[i]? = some a→ys[i]? = some b→RelV a u→RelV b v→SeqAt.EqAt A.in1 s u v true):SeqAt.RcAt A s (.ref p) (.ref q) true:=by
 obtain ⟨i1,r1,t1,_⟩:=I.list (bh.of hp)
 obtain ⟨i2,r2,t2,_⟩:=I.list (bh.of hq)
 have l1:=r1.length
 have l2:=r2.length
 have key:=SeqAt.RcAt.lists (A:=A) (s:=s) (e:=fun _=>true) t1.isList t2.isList (by simp; omega) hu fun j h1 h2=>by
  have j1:j < xs.length:=by simp at h1; omega
  have j2:j < ys.length:=by simp at h2; omega
  have z1:xs[j]? = some xs[j]:=List.getElem?_eq_getElem j1
  have z2:ys[j]? = some ys[j]:=List.getElem?_eq_getElem j2
  obtain ⟨u1,w1,q1⟩:=r1.get z1
  obtain ⟨u2,w2,q2⟩:=r2.get z2
  have e1:i1.toArray[j]=u1:=by
   have:i1[j]? = some i1[j]:=List.getElem?_eq_getElem (by omega)
   rw [this] at w1
   simpa using w1
  have e2:i2.toArray[j]=u2:=by
   have:i2[j]? = some i2[j]:=List.getElem?_eq_getElem (by omega)
   rw [this] at w2
   simpa using w2
  rw [e1,e2]
  exact he j _ _ _ _ z1 z2 q1 q2
 rw [all_true] at key
 exact key
theorem yz (hu:A.units + 1 < cLine) (I:Inv X pins σ H s) {x y:V} {u v:Value} (h:BR H x y) (ru:RelV x u) (rv:RelV y v):SeqAt.EqAt A s u v true:=by
 have hu0:A.units < cLine:=by omega
 have hu1:A.in1.units < cLine:=hu
 rcases h with ⟨rfl,hs⟩ | h | ⟨p,q,xs,rfl,rfl,hp,hq,hs⟩ | ⟨p,q,xs,ys,rfl,rfl,hp,hq,hl,hs⟩ | ⟨p,q,ka,kb,rfl,rfl,hp,hq,hl,hs⟩
 ·exact qE hs ru rv
 ·exact yx hu0 I h ru rv
 ·cases ru
  cases rv
  by_cases e:p=q
  ·subst e; exact SeqAt.EqAt.same _
  ·refine SeqAt.EqAt.of_refs e (ny hu0 I hp hq rfl fun i a b u v ha hb r1 r2=>?_)
   rw [ha] at hb
   cases hb
   exact qE (hs a (List.mem_of_getElem? ha)) r1 r2
 ·cases ru
  cases rv
  by_cases e:p=q
  ·subst e; exact SeqAt.EqAt.same _
  ·exact SeqAt.EqAt.of_refs e (ny hu0 I hp hq hl fun i a b u v ha hb r1 r2=>yx hu1 I (hs i a b ha hb) r1 r2)
 ·cases ru
  cases rv
  by_cases e:p=q
  ·subst e; exact SeqAt.EqAt.same _
  ·refine SeqAt.EqAt.of_refs e fun P' w' E' Q' hQ=>?_
   obtain ⟨_,y1,vs1,r1,d1⟩:=rL I.hok hp
   obtain ⟨_,y2,vs2,r2,d2⟩:=rL I.hok hq
   obtain ⟨ua,da,na,va⟩:=int_dict r1 d1 P' w'
   obtain ⟨ub,db,nb,vb⟩:=int_dict r2 d2 P' w'
   have hnb:(ub.map (·.1)).Nodup:=by
    obtain ⟨_,_,_,_,_,_,_,_,hn⟩:=db
    exact hn
   have la:ua.length=ka.length:=by have:=congrArg List.length na; simpa using this
   have lb:ub.length=kb.length:=by have:=congrArg List.length nb; simpa using this
   refine keq_eq y1 y2 da db hu0 (r:=true) (fun _=>uY hnb vb ka ua la va hs) ?_
   have e3:(ua.length == ub.length && true)=true:=by simp; omega
   rw [e3]
   exact hQ
end
section
variable {prog:Program} {w:World} {K:Type} [DecidableEq K] {knd:KeyKind prog w K} {A:Around} {R:Result→Shared→Prop}
end
end L2
namespace L2
open PySem PySem.Spec PyProof.Rows
def FU (X:Cx) (k:Nat) (te:TE) (t:TA):TE:=fun σ H Q=>te σ H fun x H1=>∃ (f:Addr) (fd:FuncData) (ps:List Str) (sp:Sp),x=.ref f∧aL X.prog X.w X.K X.mg X.base cg k f fd ps sp∧Binds X.K fd ps []∧PySem.W.keepIn X.K (.ref f)=true ∧
 t σ H1 fun vs H2=>sp (vs ++ []) H2 Q E0
section
variable {X:Cx} {k:Nat} {e a:Expr} {es:List Expr} {pos:Pos} {te:TE} {t:TA}
theorem yA (he:PE X e te) (hr:dr k X.A) (ha:PA X (a :: es) t)
  (ht:eval (.Call e (a :: es) [] pos) X.env=(do callWith pos (← eval e X.env) [] (backTo pos (starEach (a :: es) X.env)) (backToKw pos (keywordEach [] X.env))):=by rfl)
  (hst:starEach (a :: es) X.env=(false,eval a X.env) :: starEach es X.env:=by rfl) (hpl:(backTo pos (starEach es X.env)).any (·.1)=false:=by rfl) :
  PE X (.Call e (a :: es) [] pos) (FU X k te t):=by
 intro pins s σ H Q I h
 rw [ht]
 refine wpAny_bind (cA (he pins s σ H _ I h) fun u s1 ⟨x,H1,I1,rx,f,fd,ps,sp,ex,F,hb,hk,q⟩=>?_)
 subst ex
 obtain rfl:u=Value.ref f:=rx
 refine PySem.W.callWith_K (h₀:=X.base) I1.ok.mod.Jg hk (cA (ha pos pins s1 σ H1 _ I1 q) fun us s2 ⟨vs,H2,I2,r,q2⟩=>⟨I2.mn,?_⟩) hst hpl
 exact tj F hr hb .nil aZ I2 r q2
end
def FV (K:PySem.W.Frag) (P:Params) (a:Addr) (x:Str) (r:Option V):Prop :=
 ∃ (es:Array DictEntry) (n:Nat),K.lookup a=some ⟨.type "dict",none,.dict es n,#[]⟩∧PySem.W.KeysLit P es.toList∧(a == sysModules)=false∧∃ q,PySem.W.nsIn K a x=some q∧fM r q
def Ke (K:PySem.W.Frag) (P:Params) (td ty:TE):TE:=fun σ H Q=>td σ H fun x H1=>ty σ H1 fun y H2=>∃ a k v,x=.ref a∧y=.str k∧FV K P a k (some v)∧Q v H2
section
variable {X:Cx} {o i:Expr} {pos:Pos} {td ty:TE}
theorem qF (ho:PE X o td) (hi:PE X i ty) (hs:FJ i):PE X (.Subscript o i pos) (Ke X.K X.w.params td ty):=by
 intro pins s σ H Q I h
 refine uQ PySem.F.slot_dict_getitem.lookup hs (cA (ho pins s σ H _ I h) fun u s1 ⟨x,H1,I1,rx,q1⟩=>cA (hi pins s1 σ H1 _ I1 q1) fun iv s2 ⟨y,H2,I2,ry,a,k,v,ex,ey,g,q2⟩=>?_)
 subst ex ey
 obtain rfl:u=Value.ref a:=rx
 obtain ⟨t,rfl⟩:=ry
 obtain ⟨es,n,hl,hk,hm,q,hq,rq⟩:=g
 obtain ⟨w',hw,qx⟩:=fM.some_of (v:=v) (o:=q) rq
 subst hw
 have mo:=PySem.W.mapOf_K (prog:=X.prog) (w:=X.w) I2.mn hl hk
 exact ⟨mo.typeIs,wpAny_getItem_of (strKind_is X.prog X.w k t) mo (PySem.W.find_K hl hq) ⟨v,H2,I2.tok _,qx,q2⟩⟩
end
section
variable {X:Cx} {o e f:Expr} {apos cpos:Pos} {td ty tx:TE}
end
theorem pI {K:PySem.W.Frag} {a:Addr} {xs:List V} {g:TG} {tt:TT} {te:TE} {R:Hp→Prop} {D:Addr} {σ0:St} {H0:Hp} (Pv:Nat→St→List V→Hp→Prop) (h0:Pv 0 σ0 [] H0) (hl:∀ i σ ys H,i ≤ xs.length→Pv i σ ys H→bh K H a xs)
  (hs:∀ i x σ ys H t,xs[i]? = some x→H t=none→Pv i σ ys H→g (.ref t) σ (upd H t (.tup [.int i,x])) fun σ2 H2=>tt σ2 H2 fun b H3 =>
   if b=true then te σ2 H3 fun v H4=>H4 D=some (.lst ys)∧ys.length < sizeLine∧Pv (i + 1) σ2 (ys ++ [v]) (upd H4 D (.lst (ys ++ [v]))) else Pv (i + 1) σ2 ys H3)
  (hd:∀ σ ys H,Pv xs.length σ ys H→R H) :
  ∃ W:Nat→Nat→St→List V→Hp→Prop,(∃ m,W 0 m σ0 [] H0)∧∀ i m σ ys H,W i m σ ys H →
   ((Ite K a).stop i H∧R H)∨((Ite K a).go i H∧∃ N:St→List V→Hp→Prop,(∀ σ' ys' H',N σ' ys' H'→∃ m',m' < m∧W (i + 1) m' σ' ys' H')∧∀ x H',(Ite K a).uI i H x H'→g x σ H' fun σ2 H2=>tt σ2 H2 fun b H3 =>
    if b=true then te σ2 H3 fun v H4=>H4 D=some (.lst ys)∧ys.length < sizeLine∧N σ2 (ys ++ [v]) (upd H4 D (.lst (ys ++ [v]))) else N σ2 ys H3):=by
 refine ⟨fun i m σ ys H=>m=xs.length - i∧i ≤ xs.length∧Pv i σ ys H,⟨xs.length,by simp,Nat.zero_le _,h0⟩,?_⟩
 rintro i m σ ys H ⟨rfl,hi,p⟩
 have q:=hl i σ ys H hi p
 by_cases hlt:i < xs.length
 ·refine .inr ⟨⟨xs,xs[i],q,by simp [hlt]⟩,Pv (i + 1),fun σ' ys' H' p'=>⟨xs.length - (i + 1),by omega,rfl,hlt,p'⟩,fun x H' y=>?_⟩
  obtain ⟨t,y,hn,e1,e2,hy⟩:=y
  subst e1 e2
  exact hs i y σ ys _ t (hy xs q) hn p
 ·have e:i=xs.length:=by omega
  subst e
  exact .inl ⟨⟨xs,q,Nat.le_refl _⟩,hd σ ys H p⟩
def Kf (t u:TS):TS:=fun D σ H=>∃ J:St→Hp→Prop,t { D with nx:=J } σ H∧∀ σ' H',J σ' H'→u D σ' H'
theorem uZ {X:Cx} {st:Stmt} {rest:List Stmt} {t u:TS} (h1:PS X st t) (h2:oX X rest u):oX X (st :: rest) (Kf t u):=by
 intro pins s σ H D I h
 obtain ⟨J,h,hJ⟩:=h
 refine wpAny_execs_cons (cA (h1 pins s σ H { D with nx:=J } I h) fun f s1 q=>?_)
 cases f with
 | next =>
  obtain ⟨σ',H',I',q⟩:=q
  exact h2 pins s1 σ' H' D I' (hJ _ _ q)
 | ret v=>exact q
 | brk=>exact q
 | cont=>exact q
def Rj (t:TE):TE:=fun σ H Q=>∃ J:VK,t σ H J∧∀ v H',J v H'→Q v H'
theorem FW {X:Cx} {e:Expr} {t:TE} (h:PE X e t):PE X e (Rj t):=by
 intro pins s σ H Q I q
 obtain ⟨J,q,hJ⟩:=q
 exact cA (h pins s σ H J I q) fun v s1 ⟨x,H1,I1,r,q1⟩=>⟨x,H1,I1,r,hJ _ _ q1⟩
section
variable {X:Cx}
end
section
variable {σ:St}
end
structure Jl (X:Cx) (st:Stmt) (t:TS):Prop where
 ps:PS X st t
structure qG (X:Cx) (b:List Stmt) (t:TS):Prop where
 ps:oX X b t
section
variable {X:Cx}
theorem aK {st:Stmt} {t:TS} (h:PS X st t):Jl X st t:=⟨h⟩
theorem di {c:Expr} {a b:List Stmt} {tc:TT} {t u:TS} {pos:Pos} (hc:PT X c tc) (ha:qG X a t) (hb:qG X b u):Jl X (.If c a b pos) (JN tc t u):=⟨cV hc ha.ps hb.ps⟩
theorem cw {t:TS} (h:oX X [] t):qG X [] t:=⟨h⟩
theorem aw {st:Stmt} {b:List Stmt} {t u:TS} (h:Jl X st t) (k:qG X b u):qG X (st :: b) (JL t u):=⟨aD h.ps k.ps⟩
theorem yB {st:Stmt} {b:List Stmt} {t u:TS} (h:Jl X st t) (k:qG X b u):qG X (st :: b) (Kf t u):=⟨uZ h.ps k.ps⟩
theorem aU {st:Stmt} {t:TS} (h:Jl X st t):qG X [st] t:=⟨au h.ps⟩
theorem dM {b:List Stmt} {t:TS} {R:TS→Prop} (h:qG X b t) (hr:R t):∃ t,oX X b t∧R t:=⟨t,h.ps,hr⟩
end
section
variable {X:Cx}
end
section
variable {X:Cx}
end
section
variable {X:Cx}
end
inductive Da where
 | non | bl (b:Bool) | int (i:Int) | str (s:Str) | tup (l:List Da) | lst (l:List Da)
mutual
def Da.beq:Da→Da→Bool
 | .non,.non=>true
 | .bl a,.bl b=>a == b
 | .int a,.int b=>decide (a=b)
 | .str a,.str b=>decide (a=b)
 | .tup a,.tup b=>Da.tN a b
 | .lst a,.lst b=>Da.tN a b
 | _,_=>false
def Da.tN:List Da→List Da→Bool
 | [],[]=>true
 | a :: r,b :: t=>Da.beq a b && Da.tN r t
 | _,_=>false
end
mutual
theorem Da.beq_iff:∀ a b:Da,Da.beq a b=true↔a=b
 | .non,b=>by cases b <;> simp [Da.beq]
 | .bl x,b=>by cases b <;> simp [Da.beq]
 | .int x,b=>by cases b <;> simp [Da.beq]
 | .str x,b=>by cases b <;> simp [Da.beq]
 | .tup x,b=>by
  cases b <;> simp [Da.beq]
  exact Da.nF _ _
 | .lst x,b=>by
  cases b <;> simp [Da.beq]
  exact Da.nF _ _
theorem Da.nF:∀ a b:List Da,Da.tN a b=true↔a=b
 | [],b=>by cases b <;> simp [Da.tN]
 | x :: r,[]=>by simp [Da.tN]
 | x :: r,y :: t=>by
  simp [Da.tN]
  rw [Da.beq_iff x y,Da.nF r t]
end
instance:DecidableEq Da:=fun a b=>decidable_of_iff _ (Da.beq_iff a b)
inductive dU (K:PySem.W.Frag) (H:Hp):V→Da→Prop
 | non:dU K H .non .non
 | bl (b:Bool):dU K H (.bl b) (.bl b)
 | int (i:Int):dU K H (.int i) (.int i)
 | str (x:Str):dU K H (.str x) (.str x)
 | tup {p:Addr} {xs:List V} {ds:List Da}:bq K H p xs→xs.length=ds.length→(∀ (i:Nat) x d,xs[i]? = some x→ds[i]? = some d→dU K H x d)→dU K H (.ref p) (.tup ds)
 | lst {p:Addr} {xs:List V} {ds:List Da}:bh K H p xs→xs.length=ds.length→(∀ (i:Nat) x d,xs[i]? = some x→ds[i]? = some d→dU K H x d)→dU K H (.ref p) (.lst ds)
inductive Da.Nb:Nat→Da→Prop
 | non {n}:Da.Nb n .non
 | int {n i}:Da.Nb n (.int i)
 | str {n i}:Da.Nb n (.str i)
 | tup {n l}:(∀ d ∈ l,Da.Nb n d)→Da.Nb (n + 1) (.tup l)
 | lst {n l}:(∀ d ∈ l,Da.Nb n d)→Da.Nb (n + 1) (.lst l)
theorem nG:∀ (a b:List Da),a.length=b.length→((List.range a.length).all fun i=>decide (a[i]? = b[i]?))=decide (a=b):=fun a b h=>by
 by_cases e:a=b
 ·subst e
  simp
 ·rw [decide_eq_false e]
  rw [Bool.eq_false_iff]
  intro z
  apply e
  apply List.ext_getElem?
  intro i
  by_cases hi:i < a.length
  ·have:=(List.all_eq_true.mp z) i (List.mem_range.mpr hi)
   exact of_decide_eq_true this
  ·rw [List.getElem?_eq_none (by omega),List.getElem?_eq_none (by omega)]
section
variable {X:Cx} {pins:List (Addr × Obj)} {σ:St} {H:Hp} {s:Shared}
theorem tO {its:List Value} {xs:List V} (r:Vals xs its) {j:Nat} (h:j < its.toArray.size):∃ x,xs[j]? = some x∧RelV x its.toArray[j]:=by
 have l:=r.length
 have j1:j < xs.length:=by simp at h; omega
 have z1:xs[j]? = some xs[j]:=List.getElem?_eq_getElem j1
 obtain ⟨u1,w1,q1⟩:=r.get z1
 have e1:its.toArray[j]=u1:=by
  have:its[j]? = some its[j]:=List.getElem?_eq_getElem (by omega)
  rw [this] at w1
  simpa using w1
 exact ⟨_,z1,by rw [e1]; exact q1⟩
theorem jI {p:Addr} {i1 i2:Array Value} (t1:s.heap.IsTuple p i1) (t2:s.heap.IsList p i2):False:=by
 obtain ⟨o,e,c1,n,d⟩:=t1
 obtain ⟨o',e',c2,n',d'⟩:=t2
 rw [e] at e'; cases e'
 rw [c1] at c2
 exact absurd c2 (by decide)
theorem qH (I:Inv X pins σ H s) {x:V} {a b:Da} (ha:dU X.K H x a) (hb:dU X.K H x b):a=b:=by
 induction ha generalizing b with
 | non=>cases hb; rfl
 | bl _=>cases hb; rfl
 | int _=>cases hb; rfl
 | str _=>cases hb; rfl
 | @tup p xs ds hp hl hd ih =>
  cases hb with
  | @tup q ys es hq hl2 hd2 =>
   have Jm:xs=ys:=I.iM hp hq
   subst Jm
   refine congrArg Da.tup ?_
   apply List.ext_getElem (by omega)
   intro j h1 h2
   have g0:xs[j]? = some xs[j]:=List.getElem?_eq_getElem (by omega)
   have g1:ds[j]? = some ds[j]:=List.getElem?_eq_getElem h1
   have g2:es[j]? = some es[j]:=List.getElem?_eq_getElem h2
   exact ih j _ _ g0 g1 (hd2 j _ _ g0 g2)
  | @lst q ys es hq hl2 hd2 =>
   obtain ⟨i1,r1,t1,_⟩:=I.tuple hp
   obtain ⟨i2,r2,t2,_⟩:=I.list hq
   exact (jI t1 t2.isList).elim
 | @lst p xs ds hp hl hd ih =>
  cases hb with
  | @lst q ys es hq hl2 hd2 =>
   have Jm:xs=ys:=I.mr hp hq
   subst Jm
   refine congrArg Da.lst ?_
   apply List.ext_getElem (by omega)
   intro j h1 h2
   have g0:xs[j]? = some xs[j]:=List.getElem?_eq_getElem (by omega)
   have g1:ds[j]? = some ds[j]:=List.getElem?_eq_getElem h1
   have g2:es[j]? = some es[j]:=List.getElem?_eq_getElem h2
   exact ih j _ _ g0 g1 (hd2 j _ _ g0 g2)
  | @tup q ys es hq hl2 hd2 =>
   obtain ⟨i1,r1,t1,_⟩:=I.tuple hq
   obtain ⟨i2,r2,t2,_⟩:=I.list hp
   exact (jI t1 t2.isList).elim
theorem lS {A:Around} {m:Nat} {xs ys:List V} {ds es:List Da} {i1 i2:List Value} (r1:Vals xs i1) (r2:Vals ys i2) (hl:xs.length=ds.length) (hl2:ys.length=es.length)
  (ih:∀ (j:Nat) x d y e u v,xs[j]? = some x→ds[j]? = some d→ys[j]? = some y→es[j]? = some e→RelV x u→RelV y v→SeqAt.EqAt A s u v (decide (d=e)))
  (j:Nat) (h1:j < i1.toArray.size) (h2:j < i2.toArray.size):SeqAt.EqAt A s i1.toArray[j] i2.toArray[j] (decide (ds[j]? = es[j]?)):=by
 obtain ⟨x1,z1,q1⟩:=tO r1 h1
 obtain ⟨x2,z2,q2⟩:=tO r2 h2
 have k1:=(List.getElem?_eq_some_iff.mp z1).1
 have k2:=(List.getElem?_eq_some_iff.mp z2).1
 have g1:ds[j]? = some (ds[j]'(by omega)):=List.getElem?_eq_getElem (by omega)
 have g2:es[j]? = some (es[j]'(by omega)):=List.getElem?_eq_getElem (by omega)
 have r:=ih j x1 _ x2 _ _ _ z1 g1 z2 g2 q1 q2
 have e:decide (ds[j]? = es[j]?)=decide (ds[j]'(by omega)=es[j]'(by omega)):=by rw [g1,g2]; simp
 rw [e]
 exact r
theorem El {xs ys:List V} {ds es:List Da} {i1 i2:List Value} (r1:Vals xs i1) (r2:Vals ys i2) (hl:xs.length=ds.length) (hl2:ys.length=es.length) :
  ((List.range (min i1.toArray.size i2.toArray.size)).all (fun j=>decide (ds[j]? = es[j]?)) && i1.toArray.size == i2.toArray.size)=decide (ds=es):=by
 have l1:=r1.length
 have l2:=r2.length
 by_cases z:ds.length=es.length
 ·have y:=nG ds es z
  have s1:i1.toArray.size=ds.length:=by simp; omega
  have s2:i2.toArray.size=ds.length:=by simp; omega
  rw [s1,s2,Nat.min_self,y]
  simp
 ·rw [decide_eq_false (fun y=>z (by rw [y]))]
  have:(i1.toArray.size == i2.toArray.size)=false:=by simp; omega
  rw [this,Bool.and_false]
theorem Em {xs ys:List V} {ds es:List Da} {i1 i2:List Value} (r1:Vals xs i1) (r2:Vals ys i2) (hl:xs.length=ds.length) (hl2:ys.length=es.length) (z:ds.length=es.length) :
  ((List.range i1.toArray.size).all (fun j=>decide (ds[j]? = es[j]?)))=decide (ds=es):=by
 have l1:=r1.length
 have s1:i1.toArray.size=ds.length:=by simp; omega
 rw [s1,nG ds es z]
theorem u0 (ds es:List Da):decide (Da.tup ds=Da.tup es)=decide (ds=es):=decide_eq_decide.mpr ⟨Da.tup.inj,congrArg _⟩
theorem u3 (ds es:List Da):decide (Da.lst ds=Da.lst es)=decide (ds=es):=decide_eq_decide.mpr ⟨Da.lst.inj,congrArg _⟩
theorem u5 {A:Around} {n:Nat} (hu:A.units + n < cLine) (I:Inv X pins σ H s) {x y:V} {a b:Da} (ha:dU X.K H x a) (hb:dU X.K H y b) (na:a.Nb n) (nb:b.Nb n) {u v:Value} (ru:RelV x u) (rv:RelV y v):SeqAt.EqAt A s u v (decide (a=b)):=by
 induction ha generalizing A n y b u v with
 | non =>
  obtain rfl:u=Value.none:=ru
  cases hb with
  | non=>obtain rfl:v=Value.none:=rv; exact SeqAt.EqAt.same _
  | bl _=>cases nb
  | int j=>obtain ⟨t,rfl⟩:=rv; exact SeqAt.EqAt.none_int _ _
  | str j=>obtain ⟨t,rfl⟩:=rv; exact SeqAt.EqAt.none_str _ _
  | tup hq=>cases rv; obtain ⟨its,r1,p1,_⟩:=I.tuple hq; exact SeqAt.EqAt.none_tuple p1 (by omega)
  | lst hq=>cases rv; obtain ⟨its,r1,p1,_⟩:=I.list hq; exact SeqAt.EqAt.none_list p1.isList (by omega)
 | bl _=>cases na
 | int i =>
  obtain ⟨t0,rfl⟩:=ru
  cases hb with
  | non=>obtain rfl:v=Value.none:=rv; exact SeqAt.EqAt.int_none _ _
  | bl _=>cases nb
  | int j =>
   obtain ⟨t,rfl⟩:=rv
   have:=SeqAt.EqAt.int_int (A:=A) (s:=s) i t0 j t
   have e:(i == j)=decide (Da.int i=Da.int j):=by
    by_cases z:i=j
    ·subst z; simp
    ·rw [decide_eq_false (fun y=>z (Da.int.inj y))]; simp [z]
   rwa [e] at this
  | str j=>obtain ⟨t,rfl⟩:=rv; exact SeqAt.EqAt.int_str _ _ _ _
  | tup hq=>cases rv; obtain ⟨its,r1,p1,_⟩:=I.tuple hq; exact SeqAt.EqAt.int_tuple _ _ p1 (by omega)
  | lst hq=>cases rv; obtain ⟨its,r1,p1,_⟩:=I.list hq; exact SeqAt.EqAt.int_list _ _ p1.isList (by omega)
 | str i =>
  obtain ⟨t0,rfl⟩:=ru
  cases hb with
  | non=>obtain rfl:v=Value.none:=rv; exact SeqAt.EqAt.str_none _ _
  | bl _=>cases nb
  | int j=>obtain ⟨t,rfl⟩:=rv; exact SeqAt.EqAt.str_int _ _ _ _
  | str j =>
   obtain ⟨t,rfl⟩:=rv
   have:=SeqAt.EqAt.str_str (A:=A) (s:=s) i t0 j t
   have e:(i == j)=decide (Da.str i=Da.str j):=by
    by_cases z:i=j
    ·subst z; simp
    ·rw [decide_eq_false (fun y=>z (Da.str.inj y))]; simp [z]
   rwa [e] at this
  | tup hq=>cases rv; obtain ⟨its,r1,p1,_⟩:=I.tuple hq; exact SeqAt.EqAt.str_tuple _ _ p1 (by omega)
  | lst hq=>cases rv; obtain ⟨its,r1,p1,_⟩:=I.list hq; exact SeqAt.EqAt.str_list _ _ p1.isList (by omega)
 | @tup p xs ds hp hl hd ih =>
  cases ru
  obtain ⟨i1,r1,t1,_⟩:=I.tuple hp
  cases hb with
  | non=>obtain rfl:v=Value.none:=rv; exact SeqAt.EqAt.tuple_none t1 (by omega)
  | bl _=>cases nb
  | int j=>obtain ⟨t,rfl⟩:=rv; exact SeqAt.EqAt.tuple_int _ _ t1 (by omega)
  | str j=>obtain ⟨t,rfl⟩:=rv; exact SeqAt.EqAt.tuple_str _ _ t1 (by omega)
  | @tup q ys es hq hl2 hd2 =>
   cases rv
   by_cases c:p=q
   ·subst c
    have:=qH I (dU.tup hp hl hd) (dU.tup hq hl2 hd2)
    rw [decide_eq_true this]
    exact SeqAt.EqAt.same _
   cases na with
   | @tup m l na =>
   cases nb with
   | @tup m l nb =>
   obtain ⟨i2,r2,t2,_⟩:=I.tuple hq
   have key:=SeqAt.RcAt.tuples (A:=A) (s:=s) (e:=fun j=>decide (ds[j]? = es[j]?)) t1 t2 (by omega) (lS (m:=m) r1 r2 hl hl2 fun j x d y e u v h1 h2 h3 h4 ru rv =>
    ih j x d h1 h2 (A:=A.in1) (n:=m) (by show A.units + 1 + m < cLine; omega) (hd2 j y e h3 h4) (na _ (List.mem_of_getElem? h2)) (nb _ (List.mem_of_getElem? h4)) ru rv)
   rw [El r1 r2 hl hl2] at key
   rw [u0]
   exact SeqAt.EqAt.of_refs c key
  | @lst q ys es hq hl2 hd2 =>
   cases rv
   obtain ⟨i2,r2,t2,_⟩:=I.list hq
   by_cases c:p=q
   ·subst c
    exact (jI t1 t2.isList).elim
   ·exact SeqAt.EqAt.of_refs c (SeqAt.RcAt.tuple_list t1 t2.isList (by omega))
 | @lst p xs ds hp hl hd ih =>
  cases ru
  obtain ⟨i1,r1,t1,_⟩:=I.list hp
  cases hb with
  | non=>obtain rfl:v=Value.none:=rv; exact SeqAt.EqAt.list_none t1.isList (by omega)
  | bl _=>cases nb
  | int j=>obtain ⟨t,rfl⟩:=rv; exact SeqAt.EqAt.list_int _ _ t1.isList (by omega)
  | str j=>obtain ⟨t,rfl⟩:=rv; exact SeqAt.EqAt.list_str _ _ t1.isList (by omega)
  | @lst q ys es hq hl2 hd2 =>
   cases rv
   by_cases c:p=q
   ·subst c
    have:=qH I (dU.lst hp hl hd) (dU.lst hq hl2 hd2)
    rw [decide_eq_true this]
    exact SeqAt.EqAt.same _
   cases na with
   | @lst m l na =>
   cases nb with
   | @lst m l nb =>
   obtain ⟨i2,r2,t2,_⟩:=I.list hq
   have l1:=r1.length
   have l2:=r2.length
   rw [u3]
   by_cases z:ds.length=es.length
   ·have key:=SeqAt.RcAt.lists (A:=A) (s:=s) (e:=fun j=>decide (ds[j]? = es[j]?)) t1.isList t2.isList (by simp; omega) (by omega) (lS (m:=m) r1 r2 hl hl2 fun j x d y e u v h1 h2 h3 h4 ru rv =>
     ih j x d h1 h2 (A:=A.in1) (n:=m) (by show A.units + 1 + m < cLine; omega) (hd2 j y e h3 h4) (na _ (List.mem_of_getElem? h2)) (nb _ (List.mem_of_getElem? h4)) ru rv)
    rw [Em r1 r2 hl hl2 z] at key
    exact SeqAt.EqAt.of_refs c key
   ·rw [decide_eq_false (fun y=>z (by rw [y]))]
    exact SeqAt.EqAt.of_refs c (SeqAt.RcAt.lists_lengths t1.isList t2.isList (by simp; omega) (by omega))
  | @tup q ys es hq hl2 hd2 =>
   cases rv
   obtain ⟨i2,r2,t2,_⟩:=I.tuple hq
   by_cases c:p=q
   ·subst c
    exact (jI t2 t1.isList).elim
   ·exact SeqAt.EqAt.of_refs c (SeqAt.RcAt.list_tuple t1.isList t2 (by omega))
end
def FX (K:PySem.W.Frag) (ne:Bool):R2:=fun x y H Q=>∃ (n:Nat) (p q:Addr) (a b:Da),x=.ref p∧y=.ref q∧dU K H x a∧dU K H y b∧a.Nb n∧b.Nb n∧n ≤ 6∧Q (.bl (ne ^^ decide (a=b))) H
section
variable {X:Cx}
theorem yC (hu:X.A.units + 6 < cLine):iN X (compareOp .NotEq) (FX X.K true):=by
 intro pins s σ H x y v u Q I rx ry h
 obtain ⟨n,p,q,a,b,rfl,rfl,ha,hb,na,nb,hn,k⟩:=h
 cases rx
 cases ry
 rw [Bool.true_xor] at k
 cases ha with
 | @tup p xs ds hp hl hd =>
  obtain ⟨i1,r1,t1,_⟩:=I.tuple hp
  cases hb with
  | @tup q ys es hq hl2 hd2 =>
   cases na with
   | @tup m l na =>
   cases nb with
   | @tup m l nb =>
   obtain ⟨i2,r2,t2,_⟩:=I.tuple hq
   have key:=SeqAt.RcNeAt.tuples (A:=X.A) (s:=s) (e:=fun j=>decide (ds[j]? = es[j]?)) t1 t2 (by omega) (lS (m:=m) r1 r2 hl hl2 fun j x d y e u v h1 h2 h3 h4 ru rv =>
    u5 (A:=X.A.in1) (n:=m) (by show X.A.units + 1 + m < cLine; omega) I (hd j x d h1 h2) (hd2 j y e h3 h4) (na _ (List.mem_of_getElem? h2)) (nb _ (List.mem_of_getElem? h4)) ru rv)
   rw [El r1 r2 hl hl2] at key
   rw [u0] at k
   exact key _ _ _ _ ⟨.bl _,H,I,rfl,k⟩
  | @lst q ys es hq hl2 hd2 =>
   obtain ⟨i2,r2,t2,_⟩:=I.list hq
   exact (SeqAt.RcNeAt.tuple_list (A:=X.A) t1 t2.isList (by omega)) _ _ _ _ ⟨.bl _,H,I,rfl,k⟩
 | @lst p xs ds hp hl hd =>
  obtain ⟨i1,r1,t1,_⟩:=I.list hp
  cases hb with
  | @lst q ys es hq hl2 hd2 =>
   cases na with
   | @lst m l na =>
   cases nb with
   | @lst m l nb =>
   obtain ⟨i2,r2,t2,_⟩:=I.list hq
   have l1:=r1.length
   have l2:=r2.length
   rw [u3] at k
   by_cases z:ds.length=es.length
   ·have key:=SeqAt.RcNeAt.lists (A:=X.A) (s:=s) (e:=fun j=>decide (ds[j]? = es[j]?)) t1.isList t2.isList (by simp; omega) (by omega) (lS (m:=m) r1 r2 hl hl2 fun j x d y e u v h1 h2 h3 h4 ru rv =>
     u5 (A:=X.A.in1) (n:=m) (by show X.A.units + 1 + m < cLine; omega) I (hd j x d h1 h2) (hd2 j y e h3 h4) (na _ (List.mem_of_getElem? h2)) (nb _ (List.mem_of_getElem? h4)) ru rv)
    rw [Em r1 r2 hl hl2 z] at key
    exact key _ _ _ _ ⟨.bl _,H,I,rfl,k⟩
   ·rw [decide_eq_false (fun y=>z (by rw [y]))] at k
    exact (SeqAt.RcNeAt.lists_lengths (A:=X.A) t1.isList t2.isList (by simp; omega) (by omega)) _ _ _ _ ⟨.bl _,H,I,rfl,k⟩
  | @tup q ys es hq hl2 hd2 =>
   obtain ⟨i2,r2,t2,_⟩:=I.tuple hq
   exact (SeqAt.RcNeAt.list_tuple (A:=X.A) t1.isList t2 (by omega)) _ _ _ _ ⟨.bl _,H,I,rfl,k⟩
end
section
variable {X:Cx}
end
end L2
namespace L2
open PySem PySem.W PySem.Spec PySem.Calls PyProof.Rows
def qI (S:List Addr) (i:Nat) (o:Obj):Obj:=if i ∈ S then { o with data:=.freed } else o
def less (h:Heap) (S:List Addr):Heap:={ h with objs:=h.objs.mapIdx (qI S) }
theorem jJ {h:Heap} {S:List Addr} {b:Addr} (hb:b ∈ S):(less h S).get? b=none:=by
 unfold Heap.get? less
 simp only [Array.getElem?_mapIdx]
 cases e:h.objs[b]? with
 | none=>rfl
 | some o =>
  simp only [Option.map_some,qI,if_pos hb]
theorem eU {h:Heap} {S:List Addr} {b:Addr} (hb:b ∉ S):(less h S).get? b=h.get? b:=by
 unfold Heap.get? less
 simp only [Array.getElem?_mapIdx]
 cases e:h.objs[b]? with
 | none=>rfl
 | some o =>
  simp only [Option.map_some,qI,if_neg hb]
theorem nI {h:Heap} {S:List Addr}:(less h S).StaysIn h:=fun b o e=>by
 by_cases hb:b ∈ S
 ·rw [jJ hb] at e; cases e
 ·rwa [eU hb] at e
theorem j8 {h base:Heap} {S:List Addr}:∀ {l:List Env},h.FunFrames base l→(∀ b ∈ frs l,b ∈ S)→h.FunFrames (less h S) l
 | [],_,_=>trivial
 | env :: r,⟨hk,⟨L,o,hf,hn,ho,hd⟩,hr⟩,hs=>by
  have e:frs (env :: r)=L :: frs r:=by unfold frs; rw [List.filterMap_cons,hf]
  rw [e] at hs
  exact ⟨hk,⟨L,o,hf,jJ (hs L (by simp)),ho,hd⟩,j8 hr fun b hb=>hs b (by simp [hb])⟩
theorem cE.some_ {P:Program} {w:World} {H:Hp} {h:Heap} {a:Addr} {o:HO} (x:cE P w H h a o):∃ u,h.get? a=some u:=by
 cases o with
 | lst xs=>obtain ⟨_,_,_,_,e⟩:=x; exact ⟨_,e⟩
 | tup xs=>obtain ⟨_,_,_,ob,e,_⟩:=x; exact ⟨_,e⟩
 | dK kvs=>obtain ⟨_,_,_,_,o,_,_,e,_⟩:=x; exact ⟨_,e⟩
 | dT kvs=>obtain ⟨_,_,_,_,o,_,_,e,_⟩:=x; exact ⟨_,e⟩
 | set S n=>obtain ⟨o,_,_,_,e,_⟩:=x; exact ⟨_,e⟩
 | ins C dx fs=>obtain ⟨_,_,_,e,_⟩:=x; exact ⟨_,e⟩
 | own y=>exact x
 | xd fs=>obtain ⟨_,⟨_,_,_,e,_⟩,_⟩:=x; exact ⟨_,e⟩
 | rng lo hi=>obtain ⟨_,_,_,e⟩:=x; exact ⟨_,e⟩
 | iL ob u=>obtain ⟨e,_⟩:=x; exact ⟨_,e⟩
 | Ea ps=>exact ⟨_,(show h.get? a=some _ from x)⟩
 | met f y=>exact ⟨_,(show h.get? a=some _ from x)⟩
 | ext φ=>exact x.2.1
structure FY (K:PySem.W.Frag) (C:Addr) (bmB:List Value) (newId:String):Prop where
 isIn:excIn K C bmB newId=true
theorem FY.obj {K:PySem.W.Frag} {C:Addr} {bmB:List Value} {newId:String} {h₀:Heap} (c:FY K C bmB newId) (X:K.In h₀):∃ bm N nm q bs hdct sn sub ab col dd k0 k1 k2 k3 k5 mN,
   h₀.get? C=some (excClassObj nm q C N bs bm hdct sn sub ab col dd k0 k1 k2 k3 k5 newId)∧h₀.Ns N mN∧mN (Str.ofString "__init__")=none∧OwnTail h₀ bmB bm:=by
 have q:=c.isIn
 unfold excIn at q
 split at q
 ·rename_i dd cd sl ho
  split at q
  ·rename_i C' bm k0 k1 k2 k3 n k5 hm hs
   simp only [Bool.and_eq_true,beq_iff_eq,Bool.not_eq_true'] at q
   obtain ⟨⟨⟨⟨⟨rfl,rfl⟩,hdel⟩,ht⟩,hok⟩,hni⟩:=q
   obtain ⟨nm,bs,mro,ns,qn,hd,sn,sub,ab,col,del⟩:=cd
   dsimp only at hm hdel hok hni
   subst hm hdel
   have hsl:sl=#[k0,k1,k2,k3,some (.builtin n),k5]:=by
    obtain ⟨l⟩:=sl
    simp only at hs
    rw [hs]
   subst hsl
   exact ⟨bm,ns,nm,qn,bs,hd,sn,sub,ab,col,dd,k0,k1,k2,k3,k5,_,X _ _ ho,.of_isNs (isNs_of_in X hok),nsMap_none_of_in X hok hni,tail_of_in X ht⟩
  ·cases q
 ·cases q
section
variable {P:Program} {w:World} {K:PySem.W.Frag} {mg:Str→Option Value} {base:Heap} {N:List Str} {qual:Str} {scope:Scope} {f:Addr} {cd:Value} {A:Around} {outer:List Env} {s₀:Shared} {H₀:Hp} {E:XK}
end
theorem dj.okX {P:Program} {w:World} {K:PySem.W.Frag} {mg:Str→Option Value} {base:Heap} {CX:uL} {x qual:Str} {st:Stmt} {f:Addr} {fd:FuncData} {N ps:List Str} {k:Nat} {sp:Sp} (F:dj K x qual st f fd) (S:aI N ps (aj st)) (len:∀ vs H Q E,sp vs H Q E→vs.length=ps.length)
  (hbody:∀ (cdv:Value) (A:Around) (outer:List Env) (s:Shared) (H:Hp) (vs:List V) (Q:VK) (E:XK),dr k (A.deeper (envOfC qual (aj st) s.heap.objs.size f cdv))→sp vs H Q E →
   ∃ t,oX (ja CX P w K mg base N qual (aj st) f cdv A outer s H E) (aA st) t∧t { nx:=fun _ H'=>Q .non H',rt:=Q } (start N vs) H):aL P w K mg base CX (k + 1) f fd ps sp:=by
 obtain ⟨oc,od,kV,doc,pm,an,cdv,ct,osl,rfl,lk,hcd⟩:=F.ex
 exact Eh lk hcd S len fun A outer s H vs Q E hr hsp=>hbody cdv A outer s H vs Q E hr hsp
section
variable {X:Cx} {pins:List (Addr × Obj)} {σ:St}
theorem yD {B h:Heap} {l:List Env} {ea:Addr} {cls a0:Value} (fly:B.FlyingW l ea cls a0 h):∃ T,B.get? ea=none∧B.get? T=none∧(less h (frs l ++ [ea,T])).FlyingW l ea cls a0 h:=by
 obtain ⟨f1,f2,f3,oe,vs,T,oT,ts,g1,g2,g3,g4,g5,g6,g7,g8,g9⟩:=fly
 exact ⟨T,f2,g5,nI,jJ (by simp),j8 f3 (fun b hb=>by simp [hb]),oe,vs,T,oT,ts,g1,g2,g3,g4,jJ (by simp),g6,g7,g8,g9⟩
end
section
variable {X:Cx} {pins:List (Addr × Obj)} {σ:St} {H:Hp} {s:Shared}
end
section
variable {X:Cx} {k:Nat} {f C cR:Addr} {fd:FuncData} {ps:List Str} {sp:Sp} {oC:List V} {ds:List Value} {x m n:Str} {np pos apos p2 p3 p4:Pos} {o:Expr} {ta:TE} {ts:TS} {i:Nat} {b₀:Stmt} {suite:List Stmt} {L:Addr}
end
end L2
namespace L2
open PySem PySem.W PySem.Spec PySem.Calls PyProof.Rows PySem.Builtin PySem.Builtin.ObjectAttr PySem.Builtin.Getset_descriptor
section
variable {prog:Program} {w:World} {A:Around} {E:Value→Shared→Prop} {s:Shared} {K:PySem.W.Frag} {x C:Addr}
structure Kg (K:PySem.W.Frag) (C:Addr):Prop where
 ga:findIn K (.ref C) "__getattribute__" = some (some (.builtin "BaseException.__getattribute__"))
 gh:findIn K (.ref C) "__getattr__" = some none
 cl:findIn K (.ref C) "__class__" = some (some (.builtin "object.__class__"))
 gt:specialIn K (.builtin "object.__class__") "__get__" = some (some (.builtin "getset_descriptor.__get__"))
 tk:takesIn K (.builtin "object.__class__")=some true
 ob:mroIn K C (.type "object")=some true
 bx:mroIn K C (.type "BaseException")=some true
 ci:(clsIn K C).isSome=true
end
end L2
namespace L2
open PySem PySem.W PySem.Spec PySem.Calls PyProof.Rows
section
variable {X:Cx} {C:Addr} {Bn:String}
end
def Bp (h:Heap) (e:Addr) (od:Option Addr):Prop:=∃ o,h.get? e=some o∧o.dict=od
theorem nJ (o:Obj) (f:Array Value→Array Value):(Obj.mapFields f o).dict=o.dict:=by
 unfold Obj.mapFields
 split <;> rfl
section
variable {M:Model} {A:Around} {XE:Value→Shared→Prop} {s:Shared} {B:Heap} {env:Env} {outer l:List Env} {L e:Addr} {cls a0 fl:Value} {od:Option Addr} {Q:Unit→Shared→Prop}
theorem pJ {h:Heap} {e b:Addr} {oe o:Obj} {vs:Array Value} (he:h.get? e=some oe) (hd:oe.data=.fields vs) (hb:h.get? b=some o) (n:∀ vs,o.data ≠ .fields vs):b ≠ e:=fun z=>by
 subst z
 cases he.symm.trans hb
 exact n vs hd
theorem yE {oe:Obj} {vs:Array Value} {head:Value} {hn:Bool} (fr:A.frames=some (env :: outer)) (fu:s.heap.FunFrames B (env :: outer)) (hf:env.frame=some L) (he:s.heap.get? e=some oe) (st:B.StaysIn s.heap) (ne:B.get? e=none)
  (hd:oe.data=.fields vs) (sz:1 < vs.size) (h0:vs[0]? = some a0) (k:∀ h',Heap.NotedW B (env :: outer) e oe.cls a0 (rawInt L) s.heap h'→Bp h' e oe.dict→Q () { s with heap:=h' }) :
  wpAny M A (do
   let a ← frameOf env
   let pl ← entryPlaceOf L hn
   let b ← EntryCells.newEntry head a .none (rawInt L) .none pl
   setField (.ref e) 1 b) Q XE s:=by
 have nf:e ∉ frs (env :: outer):=fun z=>by
  obtain ⟨_,o,ho,n⟩:=fu.mem z
  cases he.symm.trans ho
  exact n vs hd
 refine wpAny_bind (wpAny_frameOf_fun fr fu hf fun g kg=>?_)
 have e1:g.get? e=some oe:=(kg.2.1 e nf).trans he
 have key:∀ (tb:Obj) (ts:Array Value),tb.data=.fields ts→ts[3]? = some (rawInt L)→wpAny M A (setField (.ref e) 1 (.ref g.objs.size)) Q XE { s with heap:=g.push tb }:=fun tb ts td t3=>by
  have e2:=Heap.get?_push_of_some tb e1
  have nT:g.objs.size ≠ e:=Nat.ne_of_gt (Heap.lt_size e1)
  have d3:=Obj.data_mapFields hd (·.setIfInBounds 1 (Value.ref g.objs.size))
  have e3:=Heap.get?_update_self (Obj.mapFields (·.setIfInBounds 1 (Value.ref g.objs.size))) e2 (Obj.isFreed_of_fields d3)
  have hT:(g.push tb).get? g.objs.size=some tb:=Heap.get?_push_size g (Obj.isFreed_of_fields td)
  have P5:=(Heap.get?_update_other (g.push tb) (Obj.mapFields (·.setIfInBounds 1 (Value.ref g.objs.size))) nT.symm).trans hT
  have keep:∀ b o,b ≠ e→g.get? b=some o→((g.push tb).update e (Obj.mapFields (·.setIfInBounds 1 (Value.ref g.objs.size)))).get? b=some o:=fun b o n hb=>(Heap.get?_update_other _ _ n.symm).trans (Heap.get?_push_of_some _ hb)
  have stg:B.StaysIn g:=fun b o hb=>(kg.2.1 b fun z=>by
   have:=(fu.mem z).1
   rw [hb] at this
   cases this).trans (st b o hb)
  refine wpAny_setField e2 hd sz (k _ ⟨fun b o hb=>keep b o (fun z=>by rw [z,ne] at hb; cases hb) (stg b o hb),fu.of_keeps fun b o hb n=>?_,?_,fun b o hb n=>?_⟩ ⟨_,e3,nJ _ _⟩)
  ·obtain ⟨sl,hs⟩:=kg.2.2 b o hb
   exact ⟨_,keep b _ (pJ he hd hb n) hs,rfl⟩
  ·exact ⟨_,_,g.objs.size,_,_,e3,⟨Obj.cls_mapFields _ _,by rw [Array.getElem?_setIfInBounds_ne (by decide)]; exact h0⟩,d3,by simp [sz],stg.fresh,nT,P5,td,t3⟩
  ·obtain ⟨sl,hs⟩:=kg.2.2 b o hb
   exact ⟨sl,keep b _ (pJ he hd hb n) hs⟩
 refine wpAny_bind (wpAny_entryPlaceOf fun pl hp=>?_)
 unfold EntryCells.newEntry newFields
 refine wpAny_bind (wpAny_newObj_type ?_ (hp.sizeOk5 _ _ _ _ _))
 exact key _ _ rfl (by first | (simp; done) | (rcases hp with rfl | ⟨_,_,_,_,_,_,_,rfl⟩ <;> simp))
theorem tP {oe:Obj} {vs:Array Value} (fr:A.frames=some (env :: outer)) (fu:s.heap.FunFrames B (env :: outer)) (hf:env.frame=some L) (he:s.heap.get? e=some oe) (st:B.StaysIn s.heap) (ne:B.get? e=none)
  (hd:oe.data=.fields vs) (h1:vs[1]? = some .none) (h0:vs[0]? = some a0) (k:∀ h',Heap.NotedW B (env :: outer) e oe.cls a0 (rawInt L) s.heap h'→Bp h' e oe.dict→Q () { s with heap:=h' }) :
  wpAny M A (noteFrame (.ref e) env) Q XE s:=by
 unfold noteFrame
 simp only [hf]
 refine wpAny_bind (wpAny_field he hd h1 ?_)
 rw [if_neg (by decide)]
 exact yE fr fu hf he st ne hd (Array.getElem?_eq_some_iff.mp h1).1 h0 k
theorem wK (fr:A.frames=some (env :: outer)) (hf:env.frame=some L) (fly:B.FlyingW (env :: outer) e cls a0 s.heap) (dc:Bp s.heap e od)
  (k:∀ h',Heap.NotedW B (env :: outer) e cls a0 (rawInt L) s.heap h'→Bp h' e od→Q () { s with heap:=h' }):wpAny M A (noteFrame (.ref e) env) Q XE s:=by
 obtain ⟨st,ne,fu,oe,vs,T,oT,ts,he,⟨hc,h0⟩,hd,h1,nT,Te,hT,dT,h3⟩:=fly
 subst hc
 obtain ⟨oe',he',hod⟩:=dc
 cases he.symm.trans he'
 subst hod
 unfold noteFrame
 simp only [hf]
 refine wpAny_bind (wpAny_field he hd h1 ?_)
 rw [if_pos (by simp)]
 refine wpAny_bind (wpAny_field hT dT h3 ?_)
 rw [if_neg (by simp [rawInt])]
 refine wpAny_bind (wpAny_setField hT dT (Array.getElem?_eq_some_iff.mp h3).1 ?_)
 have oth:∀ b,b ≠ T→(s.heap.update T (Obj.mapFields (·.setIfInBounds 3 Value.none))).get? b=s.heap.get? b:=fun b n=>Heap.get?_update_other _ _ n.symm
 refine yE fr (fu.of_keeps fun b o hb n=>⟨o,(oth b (pJ hT dT hb n)).trans hb,rfl⟩) hf ((oth e Te.symm).trans he) (fun b o hb=>(oth b fun z=>by
  rw [z,nT] at hb
  cases hb).trans (st b o hb)) ne hd (Array.getElem?_eq_some_iff.mp h1).1 h0 fun h' q q2=>k h' ⟨q.1,q.2.1,q.2.2.1,fun b o hb n=>q.2.2.2 b o ((oth b (pJ hT dT hb n)).trans hb) n⟩ q2
theorem u6 (st:B.StaysIn s.heap) (fu:s.heap.FunFrames B l) (tr:s.heap.TracedAtW B e cls a0 fl) (dc:Bp s.heap e od)
  (k:∀ h',B.StaysIn h'→h'.FunFrames B l→h'.TracedW B e cls a0→(∀ b o,s.heap.get? b=some o→(∀ vs,o.data ≠ .fields vs)→h'.get? b=some o)→Bp h' e od→Q () { s with heap:=h' }):wpAny M A (setFlight (.ref e) none) Q XE s:=by
 obtain ⟨oe,vs,T,oT,ts,he,hc,hd,h1,nT,Te,hT,dT,h3⟩:=tr
 obtain ⟨oe',he',hod⟩:=dc
 cases he.symm.trans he'
 have sz:3 < ts.size:=(Array.getElem?_eq_some_iff.mp h3).1
 have oth:∀ b,b ≠ T→(s.heap.update T (Obj.mapFields (·.setIfInBounds 3 ((none:Option Addr).elim Value.none fun f=>rawInt f)))).get? b=s.heap.get? b:=fun b n=>Heap.get?_update_other _ _ n.symm
 unfold setFlight
 refine wpAny_bind (wpAny_field he hd h1 ?_)
 rw [if_pos (by simp)]
 refine wpAny_setField hT dT sz (k _ (fun b o hb=>(oth b fun z=>by
  rw [z,nT] at hb
  cases hb).trans (st b o hb)) (fu.of_keeps fun b o hb n=>⟨o,(oth b (pJ hT dT hb n)).trans hb,rfl⟩) ?_ (fun b o hb n=>(oth b (pJ hT dT hb n)).trans hb) ⟨oe,(oth e Te.symm).trans he,hod⟩)
 exact ⟨oe,vs,T,_,_,(oth e Te.symm).trans he,hc,hd,h1,nT,Te,Heap.get?_update_self _ hT (Obj.isFreed_of_fields (Obj.data_mapFields dT _)),Obj.data_mapFields dT _,by simp [sz]⟩
theorem BU {oe:Obj} {vs:Array Value} (fr:A.frames=some (env :: outer)) (fu:s.heap.FunFrames B (env :: outer)) (hf:env.frame=some L) (he:s.heap.get? e=some oe) (st:B.StaysIn s.heap) (ne:B.get? e=none)
  (hd:oe.data=.fields vs) (h1:vs[1]? = some .none) (h0:vs[0]? = some a0) (k:∀ h',B.FlyingW outer e oe.cls a0 h'→s.heap.UpToSlots h'→Bp h' e oe.dict→Q () { s with heap:=h' }):wpAny M A (leaving env (.ref e)) Q XE s:=by
 unfold leaving
 refine wpAny_bind (tP fr fu hf he st ne hd h1 h0 fun h1 q dc=>?_)
 exact u6 (s:={ s with heap:=h1 }) q.1 q.2.1 q.2.2.1 dc fun h2 a b c d Kh=>k h2 ⟨a,ne,b.2.2,c⟩ (Heap.UpToSlots.trans q.2.2.2 fun b o hb n=>⟨o.slots,d b o hb n⟩) Kh
theorem wL (fr:A.frames=some (env :: outer)) (hf:env.frame=some L) (fly:B.FlyingW (env :: outer) e cls a0 s.heap) (dc:Bp s.heap e od)
  (k:∀ h',B.FlyingW outer e cls a0 h'→s.heap.UpToSlots h'→Bp h' e od→Q () { s with heap:=h' }):wpAny M A (leaving env (.ref e)) Q XE s:=by
 unfold leaving
 refine wpAny_bind (wK fr hf fly dc fun h1 q dc=>?_)
 exact u6 (s:={ s with heap:=h1 }) q.1 q.2.1 q.2.2.1 dc fun h2 a b c d Kh=>k h2 ⟨a,fly.2.1,b.2.2,c⟩ (Heap.UpToSlots.trans q.2.2.2 fun b o hb n=>⟨o.slots,d b o hb n⟩) Kh
end
abbrev nK:List Value:=[.type "ValueError",.type "Exception",.type "BaseException",.type "object"]
abbrev eO (C t:Addr) (od:Option Addr):Obj:={ cls:=.ref C,dict:=od,data:=.fields #[.ref t,.none,.none,.none,.bool false,.none] }
structure jc (K:PySem.W.Frag) (C R fI:Addr):Prop where
 lk:∃ dd nm bs ns qn sn sub ab col k0 k1 k2 k3 k5,K.lookup C=some ⟨.type "type",dd,.cls ⟨nm,bs,.ref C :: .ref R :: nK,ns,qn,true,sn,sub,ab,col,false⟩,#[k0,k1,k2,k3,some (.builtin "ValueError.__new__"),k5]⟩
 ini:findIn K (.ref C) "__init__" = some (some (.ref fI))
 fn:typeIn K (.ref fI)=some (.type "function")
 row:FY K R nK "ValueError.__new__"
 rtl:mroIn K R (.type "object")=some true
 sa:findIn K (.ref C) "__setattr__" = some (some (.builtin "object.__setattr__"))
 na:takerIn K C "at" = some none
 nat:findIn K (.ref C) "at" = some none
 hd:hasDictIn K C=true
 rd:Kg K C
 sg:specialIn K (.ref R) "__getattribute__" = some (some (.builtin "type.__getattribute__"))
 rr:readsIn K R (.type "type")=true
 fi:findCls K (.ref R) (.type "type") "__init__" = some (.val (.builtin "ValueError.__init__"))
section
variable {K:PySem.W.Frag} {C R fI:Addr} {h:Heap}
theorem jc.obj (c:jc K C R fI) (X:K.In h):∃ N nm q bs sn sub ab col dd k0 k1 k2 k3 k5,h.get? C=some (excClassObj nm q C N bs (.ref R :: nK) true sn sub ab col dd k0 k1 k2 k3 k5 "ValueError.__new__"):=by
 obtain ⟨dd,nm,bs,ns,qn,sn,sub,ab,col,k0,k1,k2,k3,k5,e⟩:=c.lk
 exact ⟨ns,nm,qn,bs,sn,sub,ab,col,dd,k0,k1,k2,k3,k5,X _ _ e⟩
theorem jc.tail (c:jc K C R fI) (X:K.In h):OwnTail h nK (.ref R :: nK):=by
 obtain ⟨bm,N,nm,q,bs,hdct,sn,sub,ab,col,dd,k0,k1,k2,k3,k5,mN,hR,hN,hni,_⟩:=c.row.obj X
 exact .own hR hN hni .base
variable {prog:Program} {w:World} {A:Around} {XE:Value→Shared→Prop} {s:Shared}
theorem oM (c:jc K C R fI) (X:K.In s.heap) {rest:List Value} {Q:Fin→Shared→Prop} (hz:rest.length ≤ sizeLine)
  (k:wpAny (model prog w) A (call (.ref fI) (.ref (s.heap.objs.size + 1) :: rest)) (fun r s'=>r=.none∧Q (.done (.ret (.ref (s.heap.objs.size + 1)))) s') XE { s with heap:=(s.heap.push { cls:=.type "tuple",data:=.seq rest.toArray }).push (eO C s.heap.objs.size none) }) :
  wpAny (model prog w) A (Builtin.«type.__call__» ⟨.ref C :: rest,[]⟩) Q XE s:=by
 obtain ⟨N,nm,q,bs,sn,sub,ab,col,dd,k0,k1,k2,k3,k5,hC⟩:=c.obj X
 have T:=c.tail X
 have F:=PySem.F.excBase_ValueError
 obtain ⟨h,g,d,t,os⟩:=s
 dsimp only at hC T X k ⊢
 repeat (first | with_reducible refine wpAny_loadPart_at hC ?_ | with_reducible refine wpAny_madeBy_exc hC ?_ | wp_step)
 refine codeAny_call_builtin_code (Code.quiet_builtin _ F.quiet) (wpAny_check_new_subT F T hC ?_)
 refine codeAny_exc_new_subT F T hC ?_ hz
 show wpAny _ _ _ _ _ _
 have kp:∀ b o,h.get? b=some o→((h.push { cls:=.type "tuple",data:=.seq rest.toArray }).push (eO C h.objs.size none)).get? b=some o:=fun b o e=>Heap.get?_push_of_some _ (Heap.get?_push_of_some _ e)
 have X1:=X.keeps kp
 have hC1:=kp _ _ hC
 have he:((h.push { cls:=.type "tuple",data:=.seq rest.toArray }).push (eO C h.objs.size none)).get? (h.objs.size + 1)=some (eO C h.objs.size none):=by heap_get
 have hcC:(Value.ref C :: .ref R :: nK).contains (.ref C)=true:=by simp
 unfold isInstance
 repeat (first | with_reducible refine wpAny_loadPart_at he ?_ | (with_reducible refine wpAny_isSubtype_exc hC1 ?_; rw [hcC]) | wp_step)
 show wpAny _ _ (typeLookup (.ref C) _) _ _ _
 refine (looks_findIn X1 c.ini).here ?_
 refine wpAny_holding (wpAny_bind ?_)
 unfold bindSpecial
 refine wpAny_bind ((looks_typeIn X1 c.fn).here ?_)
 rw [if_pos (by decide)]
 refine wpAny_pure (wpAny_bind (wpAny_mono k (fun r s' hr=>?_) fun _ _ x=>x))
 obtain ⟨rfl,hQ⟩:=hr
 wp_walk
 exact hQ
theorem yF (c:jc K C R fI) (X:K.In s.heap) {rest:List Value} {Q:Value→Shared→Prop} (hz:rest.length ≤ sizeLine)
  (k:wpAny (model prog w) (A.under (.builtin "type.__call__" ⟨.ref C :: rest,[]⟩)) (call (.ref fI) (.ref (s.heap.objs.size + 1) :: rest)) (fun r s'=>r=.none∧Q (.ref (s.heap.objs.size + 1)) s') XE { s with heap:=(s.heap.push { cls:=.type "tuple",data:=.seq rest.toArray }).push (eO C s.heap.objs.size none) }) :
  wpAny (model prog w) A (call (.ref C) rest) Q XE s:=by
 obtain ⟨N,nm,q,bs,sn,sub,ab,col,dd,k0,k1,k2,k3,k5,hC⟩:=c.obj X
 have f1:=tc_lookup
 have f2:=tc_bind (.ref C)
 have hT:s.TypeIs (.ref C) "type" := ⟨_,hC,rfl⟩
 refine wpAny_call (codeAny_of_tree ?_)
 show wpAny _ _ (callAny (.ref C) _) _ _ _
 have k2:=fun Q' k'=>oM (prog:=prog) (w:=w) (A:=A.under (.builtin "type.__call__" ⟨.ref C :: rest,[]⟩)) (XE:=XE) c X (rest:=rest) (Q:=Q') hz k'
 obtain ⟨h,g,d,t,os⟩:=s
 dsimp only at hC hT X k k2 ⊢
 repeat (any_goals (first | assumption | with_reducible refine wpAny_loadPart_at hC ?_ | wp_step))
 refine ⟨rfl,?_⟩
 exact codeAny_call_builtin_at (Code.quiet_builtin _ (by decide +kernel)) entry_typeCall (wpAny_check_type_call_sub hC (k2 _ k))
theorem yG (c:jc K C R fI) (X:K.In s.heap) {e t:Addr} {m:Value} {Q:Value→Shared→Prop} (he:s.heap.get? e=some (eO C t none))
  (k:∀ h',(∀ b o,b ≠ e→s.heap.get? b=some o→h'.get? b=some o)→h'.get? e=some (eO C s.heap.objs.size none)→Q .none { s with heap:=h' }) :
  wpAny (model prog w) A (call (.builtin "ValueError.__init__") [.ref e,m]) Q XE s:=by
 obtain ⟨N,nm,q,bs,sn,sub,ab,col,dd,k0,k1,k2,k3,k5,hC⟩:=c.obj X
 have T:=c.tail X
 have F:=PySem.F.excBase_ValueError
 obtain ⟨h,g,d,tk,os⟩:=s
 dsimp only at hC T X k he ⊢
 refine wpAny_call (codeAny_call_builtin F.init.plain F.initEntry (wpAny_check_init_subT F T hC he rfl ?_))
 have he2:=Heap.get?_push_of_some { cls:=.type "tuple",data:=.seq #[m] } he
 repeat (first | with_reducible refine wpAny_setField he2 rfl (by decide) ?_ | wp_step)
 refine k _ (fun b o n hb=>?_) ?_
 ·rw [Heap.get?_update_other _ _ (Ne.symm n)]
  exact Heap.get?_push_of_some _ hb
 ·rw [Heap.get?_update_self _ he2 rfl]
  rfl
theorem FZ (c:jc K C R fI) (X:K.In s.heap) {e t:Addr} {v:Value} {Q:Unit→Shared→Prop} (he:s.heap.get? e=some (eO C t none))
  (k:∀ h' tk',(∀ b o,b ≠ e→s.heap.get? b=some o→h'.get? b=some o)→h'.get? e=some (eO C t (some s.heap.objs.size))→h'.Ns1 s.heap.objs.size (fun y=>if y = "at" then some v else none)→Q () { s with heap:=h',toks:=tk' }) :
  wpAny (model prog w) A (setAttr (.ref e) "at" v) Q XE s:=by
 obtain ⟨N,nm,q,bs,sn,sub,ab,col,dd,k0,k1,k2,k3,k5,hC⟩:=c.obj X
 have SF:=PySem.F.store_ValueError
 have J:InstAt s.heap e (eO C t none) C none:=⟨he,rfl,rfl,True.intro⟩
 refine set_plain X J c.sa ?_
 have hm:Looks (model prog w) s.heap (mroOf (.ref C)) (.ref C :: .ref R :: nK):=(Looks.ld hC).andThen .now
 have sub':Looks (model prog w) s.heap (isInstance (.ref e) (.type "object")) true:=J.type.andThen (looks_mroIn X c.rd.ob)
 refine codeAny_call_builtin SF.slot.plain SF.entry (@check_slot (model prog w) _ _ { s with toks:=s.toks + 1 } "object.__setattr__" "object" "__setattr__" (.ref e) [.str "at" s.toks,v] [] _ SF.kind SF.split sub' (SF.args (.ref e) (.str "at" s.toks) v) ?_)
 rw [osa_eq,refuse_eq]
 refine wpAny_bind (wpAny_bind (Looks.here (s:={ s with toks:=s.toks + 1 }) J.type (wpAny_bind (Looks.here (s:={ s with toks:=s.toks + 1 }) hm ?_))))
 rw [refuseLoop_ref,refuseLoop_ref,SF.passes]
 refine wpAny_pure (wpAny_bind (Looks.here (s:={ s with toks:=s.toks + 1 }) J.type (wpAny_bind (Looks.here (s:={ s with toks:=s.toks + 1 }) (looks_findIn X c.nat) ?_))))
 refine wpAny_bind (wpAny_pure ?_)
 have hc:clsIn K C=some ⟨nm,bs,.ref C :: .ref R :: nK,N,q,true,sn,sub,ab,col,false⟩:=by
  obtain ⟨Bo,nm',bs',ns',qn',sn',sub',ab',col',k0',k1',k2',k3',k5',e'⟩:=c.lk
  have:=X _ _ e'
  rw [hC] at this
  cases this
  unfold clsIn
  rw [e']
 refine wpAny_bind (wpAny_pure (wpAny_bind (wpAny_bind (wpAny_loadPart he (wpAny_bind (Looks.here (s:={ s with toks:=s.toks + 1 }) (looks_clsIn X hc) ?_))))))
 rw [if_neg (by simp)]
 show wpAny _ _ (if (!true || !typeHasDict (Value.ref C))=true then pure none else _) _ _ _
 rw [if_neg (by simp [typeHasDict])]
 have hs0:e ≠ s.heap.objs.size:=Nat.ne_of_lt (Heap.lt_size he)
 have Jk:=Heap.get?_push_of_some { cls:=.type "dict",data:=.dict #[] } he
 refine wpAny_bind (wpAny_alloc' ?_)
 refine wpAny_bind (wpAny_update' Jk ?_)
 refine wpAny_pure ?_
 have he2:((s.heap.push { cls:=.type "dict",data:=.dict #[] }).update e fun o=>{ cls:=o.cls,dict:=some s.heap.objs.size,data:=o.data,slots:=o.slots }).get? e=some (eO C t (some s.heap.objs.size)):=Heap.get?_update_self _ Jk rfl
 have hd2:((s.heap.push { cls:=.type "dict",data:=.dict #[] }).update e fun o=>{ cls:=o.cls,dict:=some s.heap.objs.size,data:=o.data,slots:=o.slots }).get? s.heap.objs.size=some { cls:=.type "dict",data:=.dict #[] } :=
  (Heap.get?_update_ne _ _ _ _ hs0.symm).trans (Heap.get?_push_at rfl rfl)
 have kp:∀ b o,b ≠ e→s.heap.get? b=some o→((s.heap.push { cls:=.type "dict",data:=.dict #[] }).update e fun o=>{ cls:=o.cls,dict:=some s.heap.objs.size,data:=o.data,slots:=o.slots }).get? b=some o:=fun b o n hb =>
  (Heap.get?_update_ne _ _ _ _ n).trans (Heap.get?_push_of_some _ hb)
 generalize ((s.heap.push { cls:=.type "dict",data:=.dict #[] }).update e fun o=>{ cls:=o.cls,dict:=some s.heap.objs.size,data:=o.data,slots:=o.slots })=h2 at he2 hd2 kp ⊢
 have nd:h2.Ns s.heap.objs.size (fun _=>none):=⟨_,#[],_,hd2,rfl,fun e he=>absurd he (by simp),fun _=>rfl⟩
 show wpAny _ _ (Builtin.ObjectAttr.storeInDict s.heap.objs.size (.str "at" s.toks) "at" v) _ _ _
 unfold Builtin.ObjectAttr.storeInDict Builtin.ObjectAttr.newKeyGuard
 refine wpAny_bind (wpAny_pure (wpAny_bind (wpAny_nsSet1 (Heap.Ns1.of_empty nd) fun h3 hn3 hs3=>?_)))
 obtain ⟨oD,esD,epD,hoD,hdD,hcD⟩:=hn3.count (Within.cons "at" v Within.nil)
 refine wpAny_bind (wpAny_lookBehind hoD (by rw [hdD]; exact pastItsLine_dict (Nat.le_trans hcD (by rw [List.length_cons,List.length_nil,sizeLine_eq]; omega))) ?_)
 refine wpAny_pure ?_
 exact k h3 _ (fun b o n hb=>(hs3.2 b (Nat.ne_of_lt (Heap.lt_size hb))).trans (kp b o n hb)) ((hs3.2 e hs0).trans he2) hn3
end
def tQ (e C:Addr):HO:=.ext fun h=>∃ t,h.get? e=some (eO C t none)
def tR (e C d:Addr):HO:=.ext fun h=>∃ t,h.get? e=some (eO C t (some d))
theorem u7 {P:Program} {w:World} {H:Hp} {h:Heap} {e C t:Addr} (x:h.get? e=some (eO C t none)):cE P w H h e (tQ e C) :=
 ⟨⟨t,x⟩,⟨_,x⟩,fun h1 h2 ⟨t',a⟩ k=>⟨t',k _ a⟩⟩
theorem BV {P:Program} {w:World} {H:Hp} {h:Heap} {e C t d:Addr} (x:h.get? e=some (eO C t (some d))):cE P w H h e (tR e C d) :=
 ⟨⟨t,x⟩,⟨_,x⟩,fun h1 h2 ⟨t',a⟩ k=>⟨t',k _ a⟩⟩
section
variable {X:Cx} {C R fI:Addr} {x:Str} {e v2:Expr} {es:List Expr} {t:TA} {te:TE} {np apos pos p1 p2 p3:Pos} {cc:Str} {j:Nat}
def Ki (te:TE):TE:=fun σ H Q=>te σ H fun v H1=>∃ i:Int,v=.int i∧i.natAbs < 10 ^ 12∧∀ u:Str,Q (.str u) H1
theorem BW (he:PE X e te) (hc:cc.length ≤ 1000):PE X (.JoinedStr [.Constant (.str cc) j p1,.FormattedValue e (-1) none p2] p3) (Ki te):=by
 intro pins s σ H Q I h
 refine JoinedStr_many (joinParts_cons (Constant_str ⟨?_,joinParts_cons (FormattedValue_plain (cA (he pins _ σ H _ (I.tok _) h) fun u s1 ⟨v,H1,I1,r1,i,ev,hi,q⟩=>?_))⟩))
 ·rw [strLen_append]
  have:(Str.empty).length=0:=rfl
  rw [sizeLine_eq]
  omega
 ·subst ev
  obtain ⟨tk,rfl⟩:=(show ∃ tk,u=Value.int i tk from r1)
  have hl:i.natAbs.log2 < 1920:=by
   by_cases z:i.natAbs=0
   ·rw [z]; decide
   ·refine (Nat.log2_lt z).mpr (Nat.lt_of_lt_of_le hi ?_)
    exact Nat.le_trans (show 10 ^ 12 ≤ 2 ^ 40 by decide) (Nat.pow_le_pow_right (by decide) (by decide))
  refine formatField_int_small hl ⟨?_,joinParts_nil ⟨.str _,H1,I1.tok _,⟨_,rfl⟩,q _⟩ ?_⟩
  all_goals
   have h10:=int_text_length_le10 (a:=i) (k:=12) (by decide) hi
   have h11:(Str.ofString (toString i)).length=(toString i).length:=PySem.ofString_length _
   have h12:(Str.empty).length=0:=rfl
   rw [strLen_append,strLen_append,sizeLine_eq,h11]
   omega
def Kj (C:Addr) (t:TA):TE:=fun σ H Q=>t σ H fun vs H1=>∃ e y,vs=[.ref e,y]∧H1 e=some (tQ e C)∧Q .non (upd H1 e (tQ e C))
theorem BX {pl:Sem Bool} (c:jc X.K C R fI) (hg:Gl X x) (hm:X.mg x=some (.ref R)) (ha:PA X (e :: es) t)
  (ht:eval (.Call (.Attribute (.Name x np) "__init__" apos) (e :: es) [] pos) X.env=(do
   let ov ← eval (.Name x np) X.env
   standAt apos.atName
   let (f,first) ← holding [ov] (getMethod ov "__init__" pl)
   callWith pos f first (backTo pos (starEach (e :: es) X.env)) (backToKw pos (keywordEach [] X.env))):=by rfl)
  (he:starEach (e :: es) X.env=(false,eval e X.env) :: starEach es X.env:=by rfl) (hpl:(backTo pos (starEach es X.env)).any (·.1)=false:=by rfl) (hdb:(x == ("__debug__" : Str))=false:=by decide) :
  PE X (.Call (.Attribute (.Name x np) "__init__" apos) (e :: es) [] pos) (Kj C t):=by
 intro pins s σ H Q I h
 refine methodCall_KW (pl:=pl) (jC I hg hm ?_ hdb) ht
 refine method_cls I.mn c.sg (cls_value I.mn c.rr c.fi rfl ?_)
 refine callWith_builtin1 (cA (ha pos pins _ σ H _ (I.tok _) h) fun us s1 ⟨vs,H1,I1,r1,e0,y,ev,hx,q⟩=>?_) he hpl
 subst ev
 cases r1 with
 | cons r1 r2 =>
  cases r2 with
  | cons r2 r3 =>
   cases r3
   obtain rfl:_=Value.ref e0:=r1
   obtain ⟨t0,ht0⟩:=(I1.hok e0 _ hx).1
   exact yG c I1.mn ht0 fun h' kp e2=>⟨.non,_,I1.write (x:=e0) (e:=e0) (t':=s1.toks) (by rw [hx]; exact True.intro) (.inl rfl) kp ⟨_,e2⟩ (u7 e2),rfl,q⟩
def Rl (C:Addr) (ta tv:TE):TS:=fun D σ H=>tv σ H fun y H1=>ta σ H1 fun z H2=>∃ e0,z=.ref e0∧H2 e0=some (tQ e0 C)∧∀ d,H2 d=none→d ≠ e0→D.nx σ (upd (upd H2 d (.xd [("at",y)])) e0 (tR e0 C d))
theorem BZ {y:V} {u:Value} (r:RelV y u) (f:Str):fM (([("at",y)]:List (Str × V)).lookup f) (if f = "at" then some u else none):=by
 by_cases h:f = "at"
 ·subst h
  rw [if_pos rfl,List.lookup_cons_self]
  exact r
 ·rw [if_neg h,List.lookup_cons,show (f == ("at" : Str))=false from beq_eq_false_iff_ne.mpr h]
  exact True.intro
theorem Gf {o value:Expr} {ta tv:TE} {pos':Pos} (c:jc X.K C R fI) (ha:PE X o ta) (hv:PE X value tv) (hs:swapsWith value (some (.Attribute o "at" pos')) pos.line X.env=pure false):PS X (.Assign [.Attribute o "at" pos'] value pos) (Rl C ta tv):=by
 intro pins s σ H D I h
 refine plainObj_wpAny_Assign_Attribute (cA (hv pins s σ H _ I h) fun u s1 ⟨y,H1,I1,ry,q⟩=>cA (ha pins s1 σ H1 _ I1 q) fun ov s2 ⟨z,H2,I2,rz,e0,ez,hx,q2⟩=>?_) hs
 subst ez
 obtain rfl:ov=Value.ref e0:=rz
 obtain ⟨t0,ht0⟩:=(I2.hok e0 _ hx).1
 refine FZ c I2.mn ht0 fun h' tk kp e2 ns=>?_
 have n0:s2.heap.objs.size ≠ e0:=Nat.ne_of_gt (Heap.lt_size ht0)
 obtain ⟨oD,esD,epD,hoD,rD⟩:=id ns
 have fr:oD.isFreed=false:=(Heap.get?_some_iff.mp hoD).2
 have g1:(s2.heap.push oD).get? s2.heap.objs.size=some oD:=Heap.get?_push_size s2.heap fr
 have I3:=I2.laid (a:=s2.heap.objs.size) (o:=.xd [("at",y)]) (h':=s2.heap.push oD) (t':=tk) (fun b u e=>Heap.get?_push_of_some _ e) (Nat.le_refl _) ⟨_,⟨oD,esD,epD,g1,rD⟩,BZ ry⟩
 have I4:=I3.write (x:=e0) (e:=e0) (o:=tR e0 C s2.heap.objs.size) (h':=h') (t':=tk) (by rw [aq n0.symm,hx]; exact True.intro) (.inl rfl) (fun b u n e=>?_) ⟨_,e2⟩ (BV e2)
 ·exact ⟨σ,_,I4,q2 _ I2.fresh n0⟩
 ·by_cases hb:b=s2.heap.objs.size
  ·subst hb
   rw [g1] at e
   cases e
   exact hoD
  ·refine kp b u n ?_
   rw [← e]
   exact (Heap.get?_push_ne _ _ _ hb).symm
end
def yH (C:Addr):Sp:=fun vs H Q _=>∃ (e:Addr) (i:Int),vs=[.ref e,.int i]∧H e=some (tQ e C)∧i.natAbs < 10 ^ 12∧∀ d,H d=none→d ≠ e→Q .non (upd (upd H d (.xd [("at",.int i)])) e (tR e C d))
theorem Kk {H:Hp} {e d:Addr} {a b c:HO} (n:d ≠ e):upd (upd (upd H e a) d b) e c=upd (upd H d b) e c:=by
 funext x
 unfold upd
 by_cases h:x=e
 ·simp [h]
 ·by_cases h2:x=d
  ·simp [h,h2]
  ·simp [h,h2]
def rm (H:Hp) (e:Addr):Hp:=fun c=>if c=e then none else H c
theorem u9 {H:Hp} {e c:Addr} (h:c ≠ e):rm H e c=H c:=by
 unfold rm
 rw [if_neg h]
theorem vd {H:Hp} {e:Addr}:rm H e e=none:=by
 unfold rm
 rw [if_pos rfl]
theorem B1 {H:Hp} {e d:Addr} {a b:HO} (n:d ≠ e) (he:H e=none):rm (upd (upd H d a) e b) e=upd H d a:=by
 funext x
 by_cases h:x=e
 ·subst h
  rw [vd,aq n.symm,he]
 ·rw [u9 h,aq h]
def tS (P:Program) (w:World):uL:=fun outer H s E e s'=>∃ (ea:Addr) (cls a0:Value) (od:Option Addr) (H':Hp) (B:Heap),e=.ref ea∧B.FlyingW outer ea cls a0 s'.heap∧Bp s'.heap ea od ∧
 (∀ b o,s.heap.get? b=some o→b ∉ frs outer→∃ o',B.get? b=some o')∧(∀ b o,H' b=some o→∃ o',B.get? b=some o') ∧
 s'.os=s.os∧AllBare s'.gens∧Un (frs outer) [] H H' s.heap s'.heap∧i9 P w H' s'.heap∧E cls od H'
section
variable {X:Cx} {C R f:Addr} {fd:FuncData} {k:Nat}
theorem B2 {pins:List (Addr × Obj)} {σ:St} {H:Hp} {s:Shared} {i:Int} {us:List Value} {Q:VK} {XE:Value→Shared→Prop} (c:jc X.K C R f) (F:aL X.prog X.w X.K X.mg X.base cg k f fd ["self", "at"] (yH C)) (hr:dr (k + 1) X.A) (hb:Binds X.K fd ["self", "at"] []) (I:Inv X pins σ H s) (r:Vals [.int i] us) (hi:i.natAbs < 10 ^ 12)
  (h:∀ e d,s.heap.objs.size ≤ e→H e=none→H d=none→d ≠ e→Q (.ref e) (upd (upd H d (.xd [("at",.int i)])) e (tR e C d))):wpAny (model X.prog X.w) X.A (call (.ref C) us) (EP X pins σ Q) XE s:=by
 have hz:us.length ≤ sizeLine:=by
  rw [← r.length,sizeLine_eq]
  show 1 ≤ 16777216
  decide
 have I1:=I.kept (t':=s.toks) (h':=s.heap.push { cls:=.type "tuple",data:=.seq us.toArray }) (fun b u e=>Heap.get?_push_of_some _ e)
 have he:((s.heap.push { cls:=.type "tuple",data:=.seq us.toArray }).push (eO C s.heap.objs.size none)).get? (s.heap.objs.size + 1)=some (eO C s.heap.objs.size none):=by heap_get
 have I2:=I1.laid (a:=s.heap.objs.size + 1) (o:=tQ (s.heap.objs.size + 1) C) (t':=s.toks) (h':=(s.heap.push { cls:=.type "tuple",data:=.seq us.toArray }).push (eO C s.heap.objs.size none)) (fun b u e=>Heap.get?_push_of_some _ e) (Nat.le_of_eq (Heap.size_push _ _)) (u7 he)
 have hn:H (s.heap.objs.size + 1)=none:=I.hok.fresh (Nat.le_succ _)
 have r2:Vals (V.ref (s.heap.objs.size + 1) :: [V.int i]) (Value.ref (s.heap.objs.size + 1) :: us):=.cons rfl r
 have hl:(Value.ref (s.heap.objs.size + 1) :: us ++ []).length=["self", "at"].length:=by
  have e:=r2.length
  rw [List.append_nil]
  exact e.symm
 have hq:yH C [V.ref (s.heap.objs.size + 1),V.int i] (upd H (s.heap.objs.size + 1) (tQ (s.heap.objs.size + 1) C)) (fun v H2=>v=.non∧Q (.ref (s.heap.objs.size + 1)) H2) E0:=by
  refine ⟨_,i,rfl,ai,hi,fun d hd ne=>⟨rfl,?_⟩⟩
  rw [Kk ne]
  rw [aq ne] at hd
  exact h _ d (Nat.le_succ _) hn hd ne
 refine yF c I.mn hz (wpAny_call (codeAny_mono (F.run _ X.stack _ _ ⟨Value.ref (s.heap.objs.size + 1) :: us,[]⟩ (Value.ref (s.heap.objs.size + 1) :: us) _ _ E0 (hr.make C us []) (I2.env0.make C us []) (by have:=hb _ (Value.ref (s.heap.objs.size + 1) :: us) I2.mn hl; rw [List.append_nil] at this; exact this) r2 hq) fun r s' hq'=>?_))
 cases r with
 | error e=>exact False.elim hq'
 | ok fl =>
  cases fl with
  | ret u =>
   obtain ⟨v,H',I3,rv,ev,q3⟩:=I2.after hq'
   subst ev
   exact ⟨rv,⟨V.ref (s.heap.objs.size + 1),H',I3,rfl,q3⟩⟩
  | next=>exact False.elim hq'
  | brk=>exact False.elim hq'
  | cont=>exact False.elim hq'
theorem tT {M:Model} {A:Around} {XE:Value→Shared→Prop} {K:PySem.W.Frag} {s:Shared} {env:Env} {z:Sem Value} {Q:Flow→Shared→Prop} (c:jc K C R f) (hh:A.handled=none)
  (h:wpAny M A z (fun v s1=>∃ e t od,v=.ref e∧K.In s1.heap∧s1.heap.get? e=some (eO C t od)∧XE (.ref e) s1) XE s):wpAny M A (raiseStmt env (some z) none) Q XE s:=by
 have hcB:(Value.ref C :: .ref R :: nK).contains (.type "BaseException")=true:=by simp
 unfold raiseStmt
 refine wpAny_bind (wpAny_mono h (fun v s1 h1=>?_) fun _ _ x=>x)
 obtain ⟨e,t,od,rfl,X,he,hE⟩:=h1
 obtain ⟨N,nm,q,bs,sn,sub,ab,col,dd,k0,k1,k2,k3,k5,hC⟩:=c.obj X
 obtain ⟨hp,g,d,tk,os⟩:=s1
 dsimp only at hC he X
 repeat (first | with_reducible refine wpAny_loadPart_at he ?_ | with_reducible refine wpAny_loadPart_at hC ?_ | (with_reducible refine wpAny_isSubtype_exc hC ?_; rw [hcB]) | wp_step)
 exact wpAny_raiseNew_none hh hE
end
def B3 (C:Addr) (t:TA) (E:XK):TS:=fun _ σ H=>t σ H fun vs H1=>∃ i:Int,vs=[.int i]∧i.natAbs < 10 ^ 12∧∀ d,H1 d=none→E (.ref C) (some d) (upd H1 d (.xd [("at",.int i)]))
section
variable {P:Program} {w:World} {K:PySem.W.Frag} {mg:Str→Option Value} {base:Heap} {N:List Str} {qual:Str} {scope:Scope} {f:Addr} {cd:Value} {A:Around} {outer:List Env} {s₀:Shared} {H₀:Hp} {E:XK}
theorem wM {C R fI:Addr} {fd:FuncData} {k:Nat} {x:Str} {np cpos pos:Pos} {a:Expr} {as:List Expr} {t:TA} (c:jc K C R fI) (kp:keepIn K (.ref C)=true) (F:aL P w K mg base cg k fI fd ["self", "at"] (yH C)) (hb:Binds K fd ["self", "at"] []) (hr:dr (k + 1) (A.deeper (envOfC qual scope s₀.heap.objs.size f cd))) (hm:mg x=some (.ref C))
  (hg:Gl (ja (tS P w) P w K mg base N qual scope f cd A outer s₀ H₀ E) x) (ha:PA (ja (tS P w) P w K mg base N qual scope f cd A outer s₀ H₀ E) (a :: as) t) (hd:(x == ("__debug__" : Str))=false:=by decide)
  (he:starEach (a :: as) (ja (tS P w) P w K mg base N qual scope f cd A outer s₀ H₀ E).env=(false,eval a (ja (tS P w) P w K mg base N qual scope f cd A outer s₀ H₀ E).env) :: starEach as (ja (tS P w) P w K mg base N qual scope f cd A outer s₀ H₀ E).env:=by rfl)
  (hpl:(backTo cpos (starEach as (ja (tS P w) P w K mg base N qual scope f cd A outer s₀ H₀ E).env)).any (·.1)=false:=by rfl) :
  PS (ja (tS P w) P w K mg base N qual scope f cd A outer s₀ H₀ E) (.Raise (some (.Call (.Name x np) (a :: as) [] cpos)) none pos) (B3 C t E):=by
 intro pins s σ H D I h
 have hr':dr (k + 1) (ja (tS P w) P w K mg base N qual scope f cd A outer s₀ H₀ E).A:=hr
 rw [arm_exec_Raise]
 refine wpAny_bind (wpAny_standAt (tT c (I.ok.hd rfl) (wpAny_bind (wpAny_mono (wpAny_Call_Name_kw (jC I hg hm (callWith_K (h₀:=base) I.ok.mod.Jg kp (cA (ha cpos pins s σ H _ I h) fun us s1 ⟨vs,H1,I1,r,i,ev,hi,q⟩=>⟨I1.mn,?_⟩) he hpl) hd)) (fun v s3 h3=>wpAny_bind (wpAny_standAt (wpAny_pure h3))) fun _ _ z=>z))))
 subst ev
 refine cA (B2 (Q:=fun v H2=>∃ e d,v=.ref e∧s1.heap.objs.size ≤ e∧H1 e=none∧H1 d=none∧d ≠ e∧H2=upd (upd H1 d (.xd [("at",.int i)])) e (tR e C d)) c F hr' hb I1 r hi fun e d h0 h1 h2 h3=>⟨e,d,rfl,h0,h1,h2,h3,rfl⟩) fun v s4 hv=>?_
 obtain ⟨vv,H4,I4,rv,e,d,rfl,ge,ne,nd,de,hH4⟩:=hv
 obtain rfl:v=Value.ref e:=rv
 have Rm:H4 e=some (tR e C d):=by rw [hH4,ai]
 have hrm:rm H4 e=upd H1 d (.xd [("at",.int i)]):=by rw [hH4]; exact B1 de ne
 obtain ⟨t0,ht0⟩:=(I4.hok e _ Rm).1
 refine ⟨e,t0,some d,rfl,I4.mn,ht0,?_⟩
 have bk:=I4.bk
 have stk:∀ {b o},s₀.heap.get? b=some o→b ∉ frs outer→b ∉ frs ((envOfC qual scope s₀.heap.objs.size f cd) :: outer):=fun {b o} hb nf hx=>by
  rcases List.mem_cons.mp (I4.mq b hx) with e | e
  ·have h1:=Heap.lt_size hb
   have h2:s₀.heap.objs.size ≤ (envOfC qual scope s₀.heap.objs.size f cd).locals:=I4.ok.above
   have e:b=(envOfC qual scope s₀.heap.objs.size f cd).locals:=e
   rw [e] at h1
   exact absurd h1 (Nat.not_lt.mpr h2)
  ·exact nf e
 have ub:Un (frs outer) [] H₀ H4 s₀.heap s4.heap:=I4.base
 have old:∀ {b o},s₀.heap.get? b=some o→b ≠ e:=fun {b o} hb z=>by
  have h1:=Heap.lt_size hb
  have h2:s₀.heap.objs.size ≤ s1.heap.objs.size:=I1.sz
  exact absurd h1 (Nat.not_lt.mpr (Nat.le_trans h2 (z ▸ ge)))
 have hk:∀ {b o},H4 b=some o→b ∉ frs ((envOfC qual scope s₀.heap.objs.size f cd) :: outer):=fun {b o} hb hx=>by
  have:=I4.lN b hx
  rw [hb] at this
  cases this
 have nin:∀ {b},b ∉ frs ((envOfC qual scope s₀.heap.objs.size f cd) :: outer)→b ≠ e→b ∉ frs ((envOfC qual scope s₀.heap.objs.size f cd) :: outer) ++ [e]:=fun {b} h1 h2 h3=>by
  rcases List.mem_append.mp h3 with h | h
  ·exact h1 h
  ·exact h2 (by simpa using h)
 refine BU (B:=less s4.heap (frs ((envOfC qual scope s₀.heap.objs.size f cd) :: outer) ++ [e])) (L:=(envOfC qual scope s₀.heap.objs.size f cd).locals) I4.ok.frames (j8 I4.stack fun b h=>List.mem_append_left _ h) rfl ht0 nI (jJ (by simp)) rfl rfl rfl fun h'' fly up dc=>?_
 have stay:∀ {b u},b ∉ frs ((envOfC qual scope s₀.heap.objs.size f cd) :: outer)→b ≠ e→s4.heap.get? b=some u→h''.get? b=some u:=fun {b u} hb hn hu=>fly.1 b u (by rw [eU (nin hb hn)]; exact hu)
 have Kl:∀ {b o},rm H4 e b=some o→b ≠ e∧H4 b=some o:=fun {b o} hb=>by
  by_cases z:b=e
  ·rw [z,vd] at hb; cases hb
  ·exact ⟨z,by rw [u9 z] at hb; exact hb⟩
 have rT:∀ {b o},H4 b=some o→(∀ φ,o ≠ .ext φ)→rm H4 e b=some o:=fun {b o} hb n=>by
  have z:b ≠ e:=fun z=>by
   rw [z,Rm] at hb
   cases hb
   exact n _ rfl
  rw [u9 z]
  exact hb
 have slots:∀ b o,s₀.heap.get? b=some o→H₀ b=none→b ∈ frs outer→∃ sl,h''.get? b=some { o with slots:=sl }:=fun b o e n hb=>by
  obtain ⟨sl,e1⟩:=ub.slot b o e n hb (by simp)
  obtain ⟨_,o2,e2,nf⟩:=I4.jB.mem hb
  rw [e1] at e2
  cases e2
  obtain ⟨sl',e3⟩:=up b _ e1 nf
  exact ⟨sl',e3⟩
 refine ⟨e,.ref C,.ref t0,some d,rm H4 e,_,rfl,fly,dc,fun b o hb nf=>?_,fun b o hb=>?_,I4.os,I4.bare,⟨fun b o e n nf nx=>stay (stk e nf) (old e) (ub.keep b o e n nf nx),fun b o e n hb _=>slots b o e n hb,fun b o e n hx=>?_,fun b o e nx=>?_,fun b xs e=>rT (ub.tups b xs e) (by intro _ z; cases z),fun b o u e=>rT (ub.jV b o u e) (by intro _ z; cases z),fun b ps e=>?_⟩,fun a o ha=>?_,by rw [hrm]; exact q d nd⟩
 ·obtain ⟨o',e'⟩:=ub.there b o hb (by simp)
  exact ⟨o',by rw [eU (nin (stk hb nf) (old hb))]; exact e'⟩
 ·obtain ⟨z,hb⟩:=Kl hb
  obtain ⟨o',e'⟩:=(I4.hok b o hb).some_
  exact ⟨o',by rw [eU (nin (hk hb) z)]; exact e'⟩
 ·rw [u9 (old e)]
  exact ub.free b o e n hx
 ·by_cases hb:b ∈ frs outer
  ·obtain ⟨_,o2,e2,nf⟩:=I4.jB.mem hb
   obtain ⟨sl',e3⟩:=up b _ e2 nf
   exact ⟨_,e3⟩
  ·obtain ⟨o',e'⟩:=ub.there b o e nx
   exact ⟨o',stay (stk e hb) (old e) e'⟩
 ·obtain ⟨more,z⟩:=ub.ml b ps e
  exact ⟨more,rT z (by intro _ z; cases z)⟩
 ·obtain ⟨z,ha⟩:=Kl ha
  refine (I4.hok a o ha).stay (fun b u hc q=>?_) (fun c q=>rT q (by intro _ z; cases z)) (fun c xs q=>rT q (by intro _ z; cases z))
  rcases hc with rfl | hc
  ·exact stay (hk ha) z q
  ·refine stay (hk hc) (fun z=>?_) q
   rw [z,Rm] at hc
   cases hc
end
section
variable {X:Cx} {pins:List (Addr × Obj)} {σ:St} {H:Hp} {s:Shared}
end
section
variable {X:Cx} {pins:List (Addr × Obj)} {σ:St}
end
section
variable {X:Cx} {k:Nat} {f cR:Addr} {fd:FuncData} {ps:List Str} {sp:Sp} {oC:List V} {ds:List Value} {x g n:Str} {np gp pos p2 p3 p4:Pos} {a:Expr} {as:List Expr} {t:TA} {ts:TS} {i:Nat} {b₀:Stmt} {suite:List Stmt} {L:Addr}
end
section
variable {X:Cx} {C R fI:Addr} {Bn:String}
end
section
variable {X:Cx}
end
section
variable {X:Cx} {k:Nat} {f cR:Addr} {fd:FuncData} {ps:List Str} {sp:Sp} {oC:List V} {ds:List Value} {x n:Str} {np p3 p4:Pos} {t:TA} {ts:TS} {i:Nat} {st b₀:Stmt} {suite:List Stmt} {L:Addr} {r:V→TS}
end
end L2
namespace L2
open PySem PySem.Spec PyProof.Rows
section
variable {X:Cx}
def Ro (K:PySem.W.Frag):List V→Hp→VK→Prop:=fun xs H Q=>∃ (p:Addr) (ns:List Int),xs=[.ref p]∧bh K H p (ns.map V.int)∧Q (.int ns.sum) H
theorem yI (hc:X.calm=true):jg X (.builtin "sum") (Ro X.K):=by
 intro pins s σ H xs us0 Q I r h
 obtain ⟨p,ns,rfl,hp,q⟩:=h
 obtain ⟨u,rfl,ru⟩:=vals1 r
 cases ru
 obtain ⟨its,hv,pl,_⟩:=I.list hp
 have hi:=intsAre_of hv
 obtain ⟨xs,hx⟩:=hi.allInts.items
 have hl':s.heap.IsList p (intItems xs):=hx ▸ pl.isList
 refine sum_intListG (I.ok.hd hc) hl' fun h' tk t' hk=>?_
 have e1:ns=xs.toList.map (·.1):=by
  rw [← nums_intItems,← hx]
  exact (show numsOf its.toArray.toList=ns from hi.numsOf).symm
 have e2:preSum (numAt xs) xs.size=ns.sum:=by
  rw [preSum_eq,List.take_of_length_le (by simp),e1]
 rw [e2]
 exact ⟨.int ns.sum,H,I.kept hk,⟨_,rfl⟩,q⟩
end
section
variable {X:Cx} {scope:Scope} {N':List Str} {fr:List (Option Nat)} {pins:List (Addr × Obj)} {σ:St} {H:Hp} {s:Shared} {fp:List Addr} {y0:Str}
end
section
variable {X:Cx}
end
section
variable {prog:Program} {w:World} {A:Around} {E:Value→Shared→Prop} {s:Shared}
theorem rV {it t:Addr} {i:Nat} {els:Array Value} {x:Value} {Q:Value→Shared→Prop} (ti:s.heap.IsTupleIter it t i) (tt:s.heap.IsTuple t els) (gx:els[i]? = some x)
  (k:∀ h',h'.IsTupleIter it t (i + 1)→Heap.SameBut it s.heap h'→Q x { s with heap:=h' }):wpAny (model prog w) A (Builtin.SmallTypes.nextOf (.ref it)) Q E s:=by
 obtain ⟨o,go,gc,gd⟩:=id ti
 obtain ⟨ol,Rp,_,nl,Rq⟩:=tt
 unfold Builtin.SmallTypes.nextOf
 refine wpAny_bind (wpAny_callSpecial?_slot (name:=Str.ofString "__next__") ti.typeIs F.slot_tuple_iterator_next (wpAny_call_entry F.slot_tuple_iterator_next ti.typeIs F.entry_tuple_iterator_next ?_ (F.args_tuple_iterator_next_1 _)))
 show wpAny _ _ (field (.ref it) 0 >>= _) _ _ s; refine wpAny_bind (wpAny_field go gd (x:=.ref t) rfl ?_)
 show wpAny _ _ (if (Value.ref t == Value.none)=true then _ else _) _ _ s; rw [if_neg (show ¬ ((Value.ref t == Value.none)=true) from Bool.false_ne_true)]
 show wpAny _ _ (field (.ref it) 1 >>= _) _ _ s; refine wpAny_bind (wpAny_field go gd (x:=.int i 0) rfl ?_)
 show wpAny _ _ (seqItems? (.ref t) >>= _) _ _ s; refine wpAny_bind (wpAny_seqItems Rp Rq ?_); simp only [Int.toNat_natCast,gx]
 refine wpAny_bind (wpAny_setField go gd (by simp) (wpAny_pure ⟨x,rfl,wpAny_pure (k _ ?_ (Heap.SameBut.update ..))⟩))
 exact ⟨_,Heap.get?_update_self _ go (Obj.isFreed_of_fields (Obj.data_mapFields gd _)),(Obj.cls_mapFields ..).trans gc,by rw [Obj.data_mapFields gd]; simp [rawInt]⟩
theorem B4 {it t:Addr} {i:Nat} {els:Array Value} {Q:Value→Shared→Prop} (hh:A.handled=none) (ti:s.heap.IsTupleIter it t i) (tt:s.heap.IsTuple t els) (gx:els[i]? = none)
  (k:∀ h' e,Heap.ExtBut it s.heap h'→(∃ o,h'.get? e=some o∧o.cls=.type "StopIteration")→E (.ref e) { s with heap:=h' }):wpAny (model prog w) A (Builtin.SmallTypes.nextOf (.ref it)) Q E s:=by
 obtain ⟨o,go,gc,gd⟩:=id ti
 obtain ⟨ol,Rp,_,nl,Rq⟩:=tt
 unfold Builtin.SmallTypes.nextOf
 refine wpAny_bind (wpAny_callSpecial?_slot (name:=Str.ofString "__next__") ti.typeIs F.slot_tuple_iterator_next (wpAny_call_entry F.slot_tuple_iterator_next ti.typeIs F.entry_tuple_iterator_next ?_ (F.args_tuple_iterator_next_1 _)))
 show wpAny _ _ (field (.ref it) 0 >>= _) _ _ s; refine wpAny_bind (wpAny_field go gd (x:=.ref t) rfl ?_)
 show wpAny _ _ (if (Value.ref t == Value.none)=true then _ else _) _ _ s; rw [if_neg (show ¬ ((Value.ref t == Value.none)=true) from Bool.false_ne_true)]
 show wpAny _ _ (field (.ref it) 1 >>= _) _ _ s; refine wpAny_bind (wpAny_field go gd (x:=.int i 0) rfl ?_)
 show wpAny _ _ (seqItems? (.ref t) >>= _) _ _ s; refine wpAny_bind (wpAny_seqItems Rp Rq ?_); simp only [Int.toNat_natCast,gx]
 refine wpAny_bind (wpAny_rule (wpAny_bind (wpAny_setField go gd (by simp) ?_)))
 show wpAny _ _ (newExc (.type "StopIteration") [] >>= _) _ _ _; refine wpAny_bind ?_; simp only [newExc,newTuple]; refine wpAny_bind (wpAny_newObj_type ?_ (by size_fits))
 refine wpAny_bind (m:=firstArgMember _ _) (wpAny_of_eq (a:=Value.none) (by first | rfl | (simp only [firstArgMember]; rfl)) ?_); refine wpAny_newObj_type ?_ (by size_fits)
 simp only [raiseNew]; refine wpAny_bind (wpAny_handled ?_); (first | rw [show A.in1.handled=none from hh] | rw [hh]); refine wpAny_bind (wpAny_pure (wpAny_throw ?_))
 exact k _ _ (((Heap.SameBut.update ..).extBut.push _).push _) ⟨_,Heap.get?_push_size _ rfl,rfl⟩
theorem wN {z TI TO i1 i2 l1 l2:Addr} {k:Nat} {xs ys:Array Value} {x y a b:Value} {Q:Option Value→Shared→Prop} (D:ZipApart z TI TO i1 i2 l1 l2)
  (gz:IsZip s.heap z TI TO .none) (gI:IsPair s.heap TI (.ref i1) (.ref i2)) (gO:IsPair s.heap TO a b)
  (t1:s.heap.IsTupleIter i1 l1 k) (t2:s.heap.IsTupleIter i2 l2 k) (m1:s.heap.IsTuple l1 xs) (m2:s.heap.IsTuple l2 ys) (gx:xs[k]? = some x) (gy:ys[k]? = some y)
  (q:∀ h',IsZip h' z TI TO (rawInt s.heap.objs.size)→IsPair h' TO x y→h'.IsTupleIter i1 l1 (k + 1)→h'.IsTupleIter i2 l2 (k + 1)→IsPair h' s.heap.objs.size x y→h'.objs.size=s.heap.objs.size + 1 →
   (∀ c o,c ≠ z→c ≠ TO→c ≠ i1→c ≠ i2→s.heap.get? c=some o→h'.get? c=some o)→Q (some (.ref s.heap.objs.size)) { s with heap:=h' }):wpAny (model prog w) A (pyNext (.ref z)) Q E s:=by
 have hT:s.TypeIs (.ref z) "zip" := ⟨_,gz,rfl⟩
 unfold pyNext
 refine wpAny_bind (wpAny_attempt (wpAny_callSpecial?_slot (name:=Str.ofString "__next__") hT F.slot_zip_next (wpAny_call_entry F.slot_zip_next hT F.entry_zip_next ?_ (F.args_zip_next_1 _))))
 show wpAny _ _ (field (.ref z) 2 >>= _) _ _ _; refine wpAny_bind (wpAny_field gz rfl (x:=.bool false) rfl ?_)
 show wpAny _ _ (field (.ref z) 3 >>= _) _ _ _; refine wpAny_bind (wpAny_field gz rfl (x:=.ref TI) rfl ?_); refine wpAny_bind (wpAny_seqItems gI rfl ?_)
 show wpAny _ _ (Builtin.SmallTypes.ownedTupleIsFree (.ref z) >>= _) _ _ _; refine wpAny_bind ?_; unfold Builtin.SmallTypes.ownedTupleIsFree
 refine wpAny_bind (wpAny_field gz rfl (x:=.none) rfl (wpAny_pure ?_)); simp only [if_true]; refine wpAny_bind (wpAny_rule ?_); refine wpAny_bind (wpAny_field gz rfl (x:=.ref TO) rfl ?_)
 refine wpAny_bind (wpAny_setField_rec gz (by simp) fun g1 z1 e1=>?_); replace z1:IsZip g1 z TI TO .ellipsis:=z1; refine wpAny_bind ?_
 simp only [List.zipIdx_cons,List.zipIdx_nil,List.forIn_cons,List.forIn_nil]; refine wpAny_bind (wpAny_bind (wpAny_onRaise ?_))
 show wpAny _ _ (Builtin.SmallTypes.nextOf (.ref i1) >>= _) _ _ _; refine wpAny_bind (rV (t1.extBut e1.extBut D.i1z) (m1.extBut e1.extBut D.l1z) gx fun g2 t1' e2=>wpAny_pure ?_)
 have o2:IsPair g2 TO a b:=e2.extBut _ _ D.TOi1 (e1.extBut _ _ D.TOz gO)
 refine wpAny_bind (wpAny_seqItems o2 rfl ?_); refine wpAny_bind (wpAny_updateSeq_pair o2 fun g3 o3 e3=>?_); replace o3:IsPair g3 TO x b:=o3; refine wpAny_bind (wpAny_letGo (wpAny_pure ?_)); refine wpAny_bind (wpAny_bind (wpAny_onRaise ?_))
 show wpAny _ _ (Builtin.SmallTypes.nextOf (.ref i2) >>= _) _ _ _; refine wpAny_bind (rV (((t2.extBut e1.extBut D.i2z).extBut e2.extBut D.i12.symm).extBut e3.extBut D.TOi2.symm) (((m2.extBut e1.extBut D.l2z).extBut e2.extBut D.l2i1).extBut e3.extBut D.l2TO) gy fun g4 t2' e4=>wpAny_pure ?_)
 have o4:IsPair g4 TO x b:=e4.extBut _ _ D.TOi2 o3
 refine wpAny_bind (wpAny_seqItems o4 rfl ?_); refine wpAny_bind (wpAny_updateSeq_pair o4 fun g5 o5 e5=>?_); replace o5:IsPair g5 TO x y:=o5; refine wpAny_bind (wpAny_letGo (wpAny_pure (wpAny_pure ?_)))
 refine wpAny_bind (wpAny_seqItems o5 rfl ?_); refine wpAny_bind (wpAny_newTuple ?_)
 have sz:g5.objs.size=s.heap.objs.size:=by rw [e5.1,e4.1,e3.1,e2.1,e1.1]
 have z5:IsZip g5 z TI TO .ellipsis:=e5.extBut _ _ D.TOz.symm (e4.extBut _ _ D.i2z.symm (e3.extBut _ _ D.TOz.symm (e2.extBut _ _ D.i1z.symm z1)))
 have kp:∀ c o,c ≠ z→c ≠ TO→c ≠ i1→c ≠ i2→s.heap.get? c=some o→g5.get? c=some o:=fun c o c1 c2 c3 c4 e=>e5.extBut _ _ c2 (e4.extBut _ _ c4 (e3.extBut _ _ c2 (e2.extBut _ _ c3 (e1.extBut _ _ c1 e))))
 have u1:g5.IsTupleIter i1 l1 (k + 1):=((t1'.extBut e3.extBut D.TOi1.symm).extBut e4.extBut D.i12).extBut e5.extBut D.TOi1.symm
 have u2:g5.IsTupleIter i2 l2 (k + 1):=t2'.extBut e5.extBut D.TOi2.symm
 have zl:z < g5.objs.size:=Heap.lt_size z5
 show wpAny _ _ (Builtin.SmallTypes.ownedTupleHandOut (.ref z) (.ref g5.objs.size) >>= _) _ _ _; refine wpAny_bind ?_; unfold Builtin.SmallTypes.ownedTupleHandOut
 have z6:IsZip (g5.push { cls:=.type "tuple",data:=.seq #[x,y] }) z TI TO .ellipsis:=Heap.get?_push_of_some _ z5
 refine wpAny_bind (wpAny_setField_rec z6 (by simp) fun g7 z7 e7=>?_); replace z7:IsZip g7 z TI TO (rawInt g5.objs.size):=z7
 refine wpAny_setField_rec z7 (by simp) fun g8 z8 e8=>?_; replace z8:IsZip g8 z TI TO (rawInt g5.objs.size):=z8
 have up:∀ c o,c ≠ z→g5.get? c=some o→g8.get? c=some o:=fun c o c1 e=>e8.extBut _ _ c1 (e7.extBut _ _ c1 (Heap.get?_push_of_some _ e))
 have n8:IsPair g8 g5.objs.size x y:=e8.extBut _ _ (Nat.ne_of_gt zl) (e7.extBut _ _ (Nat.ne_of_gt zl) (Heap.get?_push_size _ rfl))
 have s8:g8.objs.size=g5.objs.size + 1:=by rw [e8.1,e7.1,Heap.size_push]
 rw [sz] at z8 n8 s8
 refine wpAny_pure ⟨.ref g5.objs.size,rfl,wpAny_pure ?_⟩
 rw [sz]
 exact q g8 z8 (up _ _ D.TOz o5) (u1.at fun o e=>up _ o D.i1z e) (u2.at fun o e=>up _ o D.i2z e) n8 s8 fun c o c1 c2 c3 c4 e=>up c o c1 (kp c o c1 c2 c3 c4 e)
theorem yJ {z TI TO i1 i2 l1 l2:Addr} {k:Nat} {xs:Array Value} {Q:Option Value→Shared→Prop} (hh:A.handled=none) (D:ZipApart z TI TO i1 i2 l1 l2)
  (gz:IsZip s.heap z TI TO .none) (gI:IsPair s.heap TI (.ref i1) (.ref i2)) (t1:s.heap.IsTupleIter i1 l1 k) (m1:s.heap.IsTuple l1 xs) (gx:xs[k]? = none)
  (q:∀ h',(∀ c o,c ≠ z→c ≠ TO→c ≠ i1→c ≠ i2→s.heap.get? c=some o→h'.get? c=some o)→Q none { s with heap:=h' }):wpAny (model prog w) A (pyNext (.ref z)) Q E s:=by
 have hT:s.TypeIs (.ref z) "zip" := ⟨_,gz,rfl⟩
 unfold pyNext
 refine wpAny_bind (wpAny_attempt (wpAny_callSpecial?_slot (name:=Str.ofString "__next__") hT F.slot_zip_next (wpAny_call_entry F.slot_zip_next hT F.entry_zip_next ?_ (F.args_zip_next_1 _))))
 show wpAny _ _ (field (.ref z) 2 >>= _) _ _ _; refine wpAny_bind (wpAny_field gz rfl (x:=.bool false) rfl ?_)
 show wpAny _ _ (field (.ref z) 3 >>= _) _ _ _; refine wpAny_bind (wpAny_field gz rfl (x:=.ref TI) rfl ?_); refine wpAny_bind (wpAny_seqItems gI rfl ?_)
 show wpAny _ _ (Builtin.SmallTypes.ownedTupleIsFree (.ref z) >>= _) _ _ _; refine wpAny_bind ?_; unfold Builtin.SmallTypes.ownedTupleIsFree
 refine wpAny_bind (wpAny_field gz rfl (x:=.none) rfl (wpAny_pure ?_)); simp only [if_true]; refine wpAny_bind (wpAny_rule ?_); refine wpAny_bind (wpAny_field gz rfl (x:=.ref TO) rfl ?_)
 refine wpAny_bind (wpAny_setField_rec gz (by simp) fun g1 z1 e1=>?_); replace z1:IsZip g1 z TI TO .ellipsis:=z1; refine wpAny_bind ?_
 simp only [List.zipIdx_cons,List.zipIdx_nil,List.forIn_cons,List.forIn_nil]; refine wpAny_bind (wpAny_bind (wpAny_onRaise ?_))
 show wpAny _ _ (Builtin.SmallTypes.nextOf (.ref i1) >>= _) _ _ _; refine wpAny_bind (B4 hh (t1.extBut e1.extBut D.i1z) (m1.extBut e1.extBut D.l1z) gx fun g2 e e2 he=>?_)
 obtain ⟨oe,hoe,hce⟩:=he
 have z2:IsZip g2 z TI TO .ellipsis:=e2 _ _ D.i1z.symm z1
 have ne:e ≠ z:=fun x=>by subst x; rw [z2] at hoe; cases hoe; simp at hce
 refine wpAny_setField_rec z2 (by simp) fun g3 _ e3=>?_
 refine wpAny_bind (wpAny_isInstance (T := "StopIteration") (b:=true) ⟨oe,e3.extBut _ _ ne hoe,hce⟩ isSubtype_stop ?_)
 exact wpAny_pure (q g3 fun c o c1 _ c3 _ x=>e3.extBut _ _ c1 (e2 _ _ c3 (e1.extBut _ _ c1 x)))
end
abbrev P6 (h:Heap) (a:Addr):Heap:=h.push { cls:=.type "tuple_iterator",data:=.fields #[.ref a,.int 0 0] }
abbrev P7 (h:Heap) (a b:Addr):Heap:=(P6 h a).push { cls:=.type "tuple_iterator",data:=.fields #[.ref b,.int 0 0] }
abbrev P8 (h:Heap) (a b:Addr):Heap:=(P7 h a b).push { cls:=.type "tuple",data:=.seq #[.ref h.objs.size,.ref (P6 h a).objs.size] }
abbrev P9 (h:Heap) (a b:Addr):Heap:=(P8 h a b).push { cls:=.type "tuple",data:=.seq #[.none,.none] }
abbrev Jo (h:Heap) (a b:Addr):Heap:=(P9 h a b).push { cls:=.type "zip",data:=.fields #[.none,.bool false,.bool false,.ref (P7 h a b).objs.size,.ref (P8 h a b).objs.size] }
theorem mzT (a b:Addr) (xs ys:Array Value):Meets (Builtin.«zip.__new__» ⟨[.type "zip",.ref a,.ref b],[]⟩) (fun _ R s=>s.heap.IsTuple a xs∧s.heap.IsTuple b ys∧R (.ok (.ret (.ref (P9 s.heap a b).objs.size))) { s with heap:=Jo s.heap a b }) :=
 .of_wp fun prog w A R s h=>by
  obtain ⟨hp,g,d,tk,os⟩:=s; obtain ⟨m1,m2,h⟩:=h
  have hsub:=sub_zip
  have n1:Heap.IsTuple (Shared.heap ⟨hp,g,d,tk,os⟩) a xs:=m1
  have n2:Heap.IsTuple (Shared.heap ⟨hp.push { cls:=.type "tuple_iterator",data:=.fields #[.ref a,.int 0 0] },g,d,tk,os⟩) b ys:=Heap.IsTuple.push m2 _
  wp_walk using wpAny_pyIter_tuple n1,wpAny_pyIter_tuple n2
  exact ⟨_,rfl,h⟩
section
variable {prog:Program} {w:World} {A:Around} {E:Value→Shared→Prop} {s:Shared}
theorem wO {a b:Addr} {xs ys:Array Value} {Q:Value→Shared→Prop} (m1:s.heap.IsTuple a xs) (m2:s.heap.IsTuple b ys)
  (h:∀ h',IsZip h' (s.heap.objs.size + 4) (s.heap.objs.size + 2) (s.heap.objs.size + 3) .none→IsPair h' (s.heap.objs.size + 2) (.ref s.heap.objs.size) (.ref (s.heap.objs.size + 1)) →
   IsPair h' (s.heap.objs.size + 3) .none .none→h'.IsTupleIter s.heap.objs.size a 0→h'.IsTupleIter (s.heap.objs.size + 1) b 0→(∀ c o,s.heap.get? c=some o→h'.get? c=some o)→Q (.ref (s.heap.objs.size + 4)) { s with heap:=h' }) :
  wpAny (model prog w) A (call (.type "zip") [.ref a,.ref b]) Q E s:=by
 refine callType_new F.called_zip (by decide) (F.typeCall_zip_2 _ _) (F.newCall_zip_2 _ _) (fun obj=>F.args_object_init_3 obj _ _) F.entry_zip_new (mzT a b xs ys) ⟨m1,m2,?_⟩
 have z1:(P6 s.heap a).objs.size=s.heap.objs.size + 1:=Heap.size_push ..
 have z2:(P7 s.heap a b).objs.size=s.heap.objs.size + 2:=by rw [Heap.size_push,z1]
 have z3:(P8 s.heap a b).objs.size=s.heap.objs.size + 3:=by rw [Heap.size_push,z2]
 have z4:(P9 s.heap a b).objs.size=s.heap.objs.size + 4:=by rw [Heap.size_push,z3]
 have g5:(Jo s.heap a b).get? (P9 s.heap a b).objs.size=some _:=Heap.get?_push_size _ rfl
 have g4:(Jo s.heap a b).get? (P8 s.heap a b).objs.size=some _:=Heap.get?_push_of_some _ (Heap.get?_push_size _ rfl)
 have g3:(Jo s.heap a b).get? (P7 s.heap a b).objs.size=some _:=Heap.get?_push_of_some _ (Heap.get?_push_of_some _ (Heap.get?_push_size _ rfl))
 have g2:(Jo s.heap a b).get? (P6 s.heap a).objs.size=some _:=Heap.get?_push_of_some _ (Heap.get?_push_of_some _ (Heap.get?_push_of_some _ (Heap.get?_push_size _ rfl)))
 have g1:(Jo s.heap a b).get? s.heap.objs.size=some _:=Heap.get?_push_of_some _ (Heap.get?_push_of_some _ (Heap.get?_push_of_some _ (Heap.get?_push_of_some _ (Heap.get?_push_size _ rfl))))
 show _∧_
 rw [z2,z3,z4] at g5
 rw [z1,z2] at g3
 rw [z3] at g4
 rw [z1] at g2
 rw [z4]
 refine ⟨⟨_,g5,rfl⟩,h _ g5 g3 g4 ⟨_,g1,rfl,rfl⟩ ⟨_,g2,rfl,rfl⟩ fun c o x=>?_⟩
 exact Heap.get?_push_of_some _ (Heap.get?_push_of_some _ (Heap.get?_push_of_some _ (Heap.get?_push_of_some _ (Heap.get?_push_of_some _ x))))
end
def Km (K:PySem.W.Frag) (a b:Addr):It :=
 ⟨fun i H=>∃ xs x ys y,bq K H a xs∧xs[i]? = some x∧bq K H b ys∧ys[i]? = some y,
   fun i H v H'=>∃ t x y,H t=none∧v=.ref t∧H'=upd H t (.tup [x,y])∧(∀ xs,bq K H a xs→xs[i]? = some x)∧∀ ys,bq K H b ys→ys[i]? = some y,
   fun i H=>∃ xs,bq K H a xs∧xs.length ≤ i⟩
theorem yK {P:Program} {w:World} {K:PySem.W.Frag} {elts:List Expr} {x1} {pos:Pos} (a b z TI TO i1 i2:Addr) (D:ZipApart z TI TO i1 i2 a b) :
  Turn P w K (.Tuple elts x1 pos) (Km K a b) [z,TI,TO,i1,i2] z (fun i h=>IsZip h z TI TO .none∧IsPair h TI (.ref i1) (.ref i2)∧(∃ u v,IsPair h TO u v)∧h.IsTupleIter i1 a i∧h.IsTupleIter i2 b i) where
 mem:=by simp
 obj:=fun i h st c hc=>by
  obtain ⟨s1,s2,⟨u,v,s3⟩,⟨o4,s4,_,d4⟩,⟨o5,s5,_,d5⟩⟩:=st
  have hc':c=z∨c=TI∨c=TO∨c=i1∨c=i2:=by simpa using hc
  rcases hc' with rfl | rfl | rfl | rfl | rfl
  ·exact ⟨_,s1,fun v q=>by have q':Data.fields _=Data.cell v:=q; cases q'⟩
  ·exact ⟨_,s2,fun v q=>by have q':Data.seq _ _=Data.cell v:=q; cases q'⟩
  ·exact ⟨_,s3,fun v q=>by have q':Data.seq _ _=Data.cell v:=q; cases q'⟩
  ·exact ⟨o4,s4,fun v q=>by rw [d4] at q; cases q⟩
  ·exact ⟨o5,s5,fun v q=>by rw [d5] at q; cases q⟩
 keep:=fun i h h' st k=>⟨k z (by simp) _ st.1,k TI (by simp) _ st.2.1,st.2.2.1.elim fun u q=>q.elim fun v q=>⟨u,v,k TO (by simp) _ q⟩,st.2.2.2.1.at fun o e=>k i1 (by simp) o e,st.2.2.2.2.at fun o e=>k i2 (by simp) o e⟩
 item:=by
  intro X hP hw hK hc i pins s σ H E I hf st hg
  subst hP hw hK
  obtain ⟨xs,x,ys,y,hq,hx,hq2,hy⟩:=hg
  obtain ⟨s1,s2,⟨u,v,s3⟩,s4,s5⟩:=st
  obtain ⟨its,rv,p,hz⟩:=I.tuple hq
  obtain ⟨its2,rv2,p2,hz2⟩:=I.tuple hq2
  obtain ⟨ux,hux,rux⟩:=rv.get hx
  obtain ⟨uy,huy,ruy⟩:=rv2.get hy
  refine wN D s1 s2 s3 s4 s5 (show s.heap.IsTuple a its.toArray from p) (show s.heap.IsTuple b its2.toArray from p2) (x:=ux) (y:=uy) (by simpa using hux) (by simpa using huy) fun h1 a1 a2 a3 a4 a5 a6 k1=>?_
  refine ⟨_,rfl,wpAny_letOwnedTupleGo_zip a1 fun h2 b1 b2=>?_⟩
  have nz:s.heap.objs.size ≠ z:=Nat.ne_of_gt (Heap.lt_size s1)
  have FQ:=(b2.2 s.heap.objs.size nz).trans a5
  have hk:∀ c o,c ∉ [z,TO,i1,i2]→s.heap.get? c=some o→h2.get? c=some o:=fun c o hb e'=>by
   have hb':c ≠ z∧c ≠ TO∧c ≠ i1∧c ≠ i2:=by simpa using hb
   exact (b2.2 c hb'.1).trans (k1 c o hb'.1 hb'.2.1 hb'.2.2.1 hb'.2.2.2 e')
  have hfr:H s.heap.objs.size=none:=I.hok.fresh (Nat.le_refl _)
  refine ⟨.ref s.heap.objs.size,upd H s.heap.objs.size (.tup [x,y]),I.j6 (t':=s.toks) hk (fun c hc=>hf c (by simp at hc ⊢; rcases hc with q | q | q | q <;> simp [q])) (Nat.le_refl _) ?_,rfl,
   ⟨_,x,y,hfr,rfl,rfl,fun zs hy'=>by rw [I.iM hy' hq]; exact hx,fun zs hy'=>by rw [I.iM hy' hq2]; exact hy⟩,⟨b1,?_,⟨ux,uy,?_⟩,a3.at fun o e=>(b2.2 i1 D.i1z).trans e,a4.at fun o e=>(b2.2 i2 D.i2z).trans e⟩,fun c hc=>?_⟩
  ·exact ⟨by show 2 ≤ sizeLine; decide,[ux,uy],.cons rux (.cons ruy .nil),⟨_,FQ,rfl,_,rfl⟩⟩
  ·exact hk TI _ (by simp [D.TIz,D.TITO,D.TIi1,D.TIi2]) s2
  ·exact (b2.2 TO D.TOz).trans a2
  ·have:c ≠ s.heap.objs.size:=by
    have hc':c=z∨c=TI∨c=TO∨c=i1∨c=i2:=by simpa using hc
    rcases hc' with rfl | rfl | rfl | rfl | rfl
    ·exact Ne.symm nz
    ·exact Nat.ne_of_lt (Heap.lt_size s2)
    ·exact Nat.ne_of_lt (Heap.lt_size s3)
    ·obtain ⟨o,e1,_⟩:=s4; exact Nat.ne_of_lt (Heap.lt_size e1)
    ·obtain ⟨o,e1,_⟩:=s5; exact Nat.ne_of_lt (Heap.lt_size e1)
   rw [aq this]
   exact (hf c hc).1
 done:=by
  intro X hP hw hK hc i pins s σ H E I hf st hg
  subst hP hw hK
  obtain ⟨xs,hq,hx⟩:=hg
  obtain ⟨s1,s2,s3,s4,s5⟩:=st
  obtain ⟨its,rv,p,hz⟩:=I.tuple hq
  have hl:=rv.length
  exact yJ (I.ok.hd hc) D s1 s2 s4 (show s.heap.IsTuple a its.toArray from p) (by simp; omega) fun h' eb=>⟨rfl,I.BP (t':=s.toks) (its:=[z,TO,i1,i2]) (fun c o hb e=>by
   have hb':c ≠ z∧c ≠ TO∧c ≠ i1∧c ≠ i2:=by simpa using hb
   exact eb c o hb'.1 hb'.2.1 hb'.2.2.1 hb'.2.2.2 e) (fun c hc=>hf c (by simp at hc ⊢; rcases hc with q | q | q | q <;> simp [q]))⟩
 self:=fun _ _ _ _ _ st h=>wpAny_pyIter_zip st.1 h
section
variable {X:Cx}
def Rr (K:PySem.W.Frag) (ta:TA):TI:=fun σ H R=>ta σ H fun vs H1=>∃ a b,vs=[.ref a,.ref b]∧(∃ xs,bq K H1 a xs)∧(∃ ys,bq K H1 b ys)∧R (Km K a b) H1
theorem Gg:bootBuiltins "zip" = some (.type "zip"):=by decide +kernel
theorem Gh {a b:Expr} {ta:TA} {p pos:Pos} {elts:List Expr} {x1} {tpos:Pos} (hg:Gl X "zip") (hm:X.mg "zip" = none) (ha:PA X [a,b] ta)
  (hs:starEach [a,b] X.env=[(false,eval a X.env),(false,eval b X.env)]:=by rfl) (hs2:starEach [b] X.env=[(false,eval b X.env)]:=by rfl):PI X (.Tuple elts x1 tpos) (.Call (.Name "zip" p) [a,b] [] pos) (Rr X.K ta):=by
 intro pins s σ H R I h
 refine Call_ (jX I hg hm Gg (PyProof.Rows.callWith_type1 (cA (ha pos pins s σ H _ I h) fun us s1 ⟨vs,H1,I1,r1,q1⟩=>?_) (by rw [hs,hs2]) (by rw [hs2]; rfl)))
 obtain ⟨a,b,e,⟨xs,hq⟩,⟨ys,hq2⟩,q⟩:=q1
 subst e
 obtain ⟨u,v,rfl,ru,rv⟩:=vals2 r1
 cases ru
 cases rv
 obtain ⟨its,rv,p,hz⟩:=I1.tuple hq
 obtain ⟨its2,rv2,p2,hz2⟩:=I1.tuple hq2
 have la:a < s1.heap.objs.size:=by obtain ⟨o,e,_⟩:=p; exact Heap.lt_size e
 have lb:b < s1.heap.objs.size:=by obtain ⟨o,e,_⟩:=p2; exact Heap.lt_size e
 refine wO (show s1.heap.IsTuple a its.toArray from p) (show s1.heap.IsTuple b its2.toArray from p2) fun h' g1 g2 g3 g4 g5 hk=>?_
 refine wpAny_pyIter_zip g1 ?_
 have D:ZipApart (s1.heap.objs.size + 4) (s1.heap.objs.size + 2) (s1.heap.objs.size + 3) s1.heap.objs.size (s1.heap.objs.size + 1) a b:=PySem.W.ktu_apart _ _ _ la lb
 refine ⟨s1.heap.objs.size + 4,[s1.heap.objs.size + 4,s1.heap.objs.size + 2,s1.heap.objs.size + 3,s1.heap.objs.size,s1.heap.objs.size + 1],_,_,H1,rfl,I1.kept (t':=s1.toks) hk,yK a b _ _ _ _ _ D,⟨g1,g2,⟨_,_,g3⟩,g4,g5⟩,fun c hc=>?_,q⟩
 have hc':s1.heap.objs.size ≤ c:=by
  have hc':c=s1.heap.objs.size + 4∨c=s1.heap.objs.size + 2∨c=s1.heap.objs.size + 3∨c=s1.heap.objs.size∨c=s1.heap.objs.size + 1:=by simpa using hc
  rcases hc' with q | q | q | q | q <;> rw [q]
  ·exact Nat.le_add_right _ _
  ·exact Nat.le_add_right _ _
  ·exact Nat.le_add_right _ _
  ·exact Nat.le_refl _
  ·exact Nat.le_add_right _ _
 exact I1.sO hc' (I1.hok.fresh hc')
end
theorem yL {K:PySem.W.Frag} {a:Addr} {xs:List V} {g:TG} {tt:TT} {te:TE} {R:Hp→Prop} {D:Addr} {σ0:St} {H0:Hp} (Pv:Nat→St→List V→Hp→Prop) (h0:Pv 0 σ0 [] H0) (hl:∀ i σ ys H,i ≤ xs.length→Pv i σ ys H→bq K H a xs)
  (hs:∀ i x σ ys H,xs[i]? = some x→Pv i σ ys H→g x σ H fun σ2 H2=>tt σ2 H2 fun b H3 =>
   if b=true then te σ2 H3 fun v H4=>H4 D=some (.lst ys)∧ys.length < sizeLine∧Pv (i + 1) σ2 (ys ++ [v]) (upd H4 D (.lst (ys ++ [v]))) else Pv (i + 1) σ2 ys H3)
  (hd:∀ σ ys H,Pv xs.length σ ys H→R H) :
  ∃ W:Nat→Nat→St→List V→Hp→Prop,(∃ m,W 0 m σ0 [] H0)∧∀ i m σ ys H,W i m σ ys H →
   ((JR K a).stop i H∧R H)∨((JR K a).go i H∧∃ N:St→List V→Hp→Prop,(∀ σ' ys' H',N σ' ys' H'→∃ m',m' < m∧W (i + 1) m' σ' ys' H')∧∀ x H',(JR K a).uI i H x H'→g x σ H' fun σ2 H2=>tt σ2 H2 fun b H3 =>
    if b=true then te σ2 H3 fun v H4=>H4 D=some (.lst ys)∧ys.length < sizeLine∧N σ2 (ys ++ [v]) (upd H4 D (.lst (ys ++ [v]))) else N σ2 ys H3):=by
 refine ⟨fun i m σ ys H=>m=xs.length - i∧i ≤ xs.length∧Pv i σ ys H,⟨xs.length,by simp,Nat.zero_le _,h0⟩,?_⟩
 rintro i m σ ys H ⟨rfl,hi,p⟩
 have q:=hl i σ ys H hi p
 by_cases hlt:i < xs.length
 ·refine .inr ⟨⟨xs,xs[i],q,by simp [hlt]⟩,Pv (i + 1),fun σ' ys' H' p'=>⟨xs.length - (i + 1),by omega,rfl,hlt,p'⟩,fun x H' y=>?_⟩
  obtain ⟨e,y⟩:=y
  subst e
  exact hs i x σ ys _ (y xs q) p
 ·have e:i=xs.length:=by omega
  subst e
  exact .inl ⟨⟨xs,q,Nat.le_refl _⟩,hd σ ys H p⟩
theorem yM {K:PySem.W.Frag} {a b:Addr} {xs zs:List V} {g:TG} {tt:TT} {te:TE} {R:Hp→Prop} {D:Addr} {σ0:St} {H0:Hp} (hlen:xs.length=zs.length) (Pv:Nat→St→List V→Hp→Prop) (h0:Pv 0 σ0 [] H0)
  (hl:∀ i σ ys H,i ≤ xs.length→Pv i σ ys H→bq K H a xs∧bq K H b zs)
  (hs:∀ i x z σ ys H t,xs[i]? = some x→zs[i]? = some z→H t=none→Pv i σ ys H→g (.ref t) σ (upd H t (.tup [x,z])) fun σ2 H2=>tt σ2 H2 fun c H3 =>
   if c=true then te σ2 H3 fun v H4=>H4 D=some (.lst ys)∧ys.length < sizeLine∧Pv (i + 1) σ2 (ys ++ [v]) (upd H4 D (.lst (ys ++ [v]))) else Pv (i + 1) σ2 ys H3)
  (hd:∀ σ ys H,Pv xs.length σ ys H→R H) :
  ∃ W:Nat→Nat→St→List V→Hp→Prop,(∃ m,W 0 m σ0 [] H0)∧∀ i m σ ys H,W i m σ ys H →
   ((Km K a b).stop i H∧R H)∨((Km K a b).go i H∧∃ N:St→List V→Hp→Prop,(∀ σ' ys' H',N σ' ys' H'→∃ m',m' < m∧W (i + 1) m' σ' ys' H')∧∀ x H',(Km K a b).uI i H x H'→g x σ H' fun σ2 H2=>tt σ2 H2 fun c H3 =>
    if c=true then te σ2 H3 fun v H4=>H4 D=some (.lst ys)∧ys.length < sizeLine∧N σ2 (ys ++ [v]) (upd H4 D (.lst (ys ++ [v]))) else N σ2 ys H3):=by
 refine ⟨fun i m σ ys H=>m=xs.length - i∧i ≤ xs.length∧Pv i σ ys H,⟨xs.length,by simp,Nat.zero_le _,h0⟩,?_⟩
 rintro i m σ ys H ⟨rfl,hi,p⟩
 obtain ⟨q,q2⟩:=hl i σ ys H hi p
 by_cases hlt:i < xs.length
 ·refine .inr ⟨⟨xs,xs[i],zs,zs[i]'(by omega),q,List.getElem?_eq_getElem hlt,q2,List.getElem?_eq_getElem _⟩,Pv (i + 1),fun σ' ys' H' p'=>⟨xs.length - (i + 1),by omega,rfl,hlt,p'⟩,fun v H' y=>?_⟩
  obtain ⟨t,x,z,hn,e1,e2,y1,y2⟩:=y
  subst e1 e2
  exact hs i x z σ ys _ t (y1 xs q) (y2 zs q2) hn p
 ·have e:i=xs.length:=by omega
  subst e
  exact .inl ⟨⟨xs,q,Nat.le_refl _⟩,hd σ ys H p⟩
def qJ (f:Int→Int) (j v:Int):Int→Int:=fun i=>if i=j then v else f i
structure Rep (d:List (Key × V)) (f:Int→Int):Prop where
 isI:∃ kvs:List (Int × Int),d=iD kvs∧(kvs.map (·.1)).Nodup
 val:∀ j,(cF d (Sum.inl j)).getD (.int 0)=.int (f j)
theorem Rep.nil:Rep [] (fun _=>0):=⟨⟨[],rfl,List.nodup_nil⟩,fun _=>rfl⟩
theorem qK {kvs:List (Int × Int)} {j:Int}:∀ {x:V},cF (iD kvs) (Sum.inl j)=some x→∃ v,x=.int v∧(j,v) ∈ kvs:=by
 induction kvs with
 | nil=>intro x h; cases h
 | cons p r ih =>
  intro x h
  by_cases e:p.1=j
  ·have:(Sum.inl p.1:Key)=Sum.inl j:=by rw [e]
   rw [show iD (p :: r)=(Sum.inl p.1,V.int p.2) :: iD r from rfl,cM this] at h
   have h:=Option.some.inj h
   exact ⟨p.2,h.symm,by rw [← e]; simp⟩
  ·have:¬ (Sum.inl p.1:Key)=Sum.inl j:=fun z=>e (Sum.inl.inj z)
   rw [show iD (p :: r)=(Sum.inl p.1,V.int p.2) :: iD r from rfl,cN this] at h
   obtain ⟨v,a,b⟩:=ih h
   exact ⟨v,a,by simp [b]⟩
theorem nO {j v:Int}:∀ {kvs:List (Int × Int)},(kvs.map (·.1)).Nodup→(j,v) ∈ kvs→cF (iD kvs) (Sum.inl j)=some (.int v)
 | [],_,h=>by simp at h
 | p :: r,hn,h=>by
  rw [List.map_cons,List.nodup_cons] at hn
  rcases List.mem_cons.mp h with e | h
  ·rw [show iD (p :: r)=(Sum.inl p.1,V.int p.2) :: iD r from rfl,cM (by rw [← e])]
   rw [← e]
  ·have ne:¬ (Sum.inl p.1:Key)=Sum.inl j:=fun z=>hn.1 (by rw [Sum.inl.inj z]; exact List.mem_map.mpr ⟨_,h,rfl⟩)
   rw [show iD (p :: r)=(Sum.inl p.1,V.int p.2) :: iD r from rfl,cN ne]
   exact nO hn.2 h
theorem Gj {kvs:List (Int × Int)} {j v:Int} (hn:(kvs.map (·.1)).Nodup):∃ kvs',putK (iD kvs) (Sum.inl j) (.int v)=iD kvs'∧(kvs'.map (·.1)).Nodup∧kvs'.length ≤ kvs.length + 1∧(v ≠ 0→(∀ p ∈ kvs,p.2 ≠ 0)→∀ p ∈ kvs',p.2 ≠ 0):=by
 by_cases h:cF (iD kvs) (Sum.inl j:Key)=none
 ·refine ⟨kvs ++ [(j,v)],?_,?_,by simp,fun hv hz p hp=>?_⟩
  ·rw [mI _ h]
   simp [iD]
  ·rw [List.map_append,List.nodup_append]
   refine ⟨hn,by simp,fun a ha b hb e=>?_⟩
   have hb:b=j:=by simpa using hb
   subst hb
   have:=yo h
   apply this
   obtain ⟨p,hp,rfl⟩:=List.mem_map.mp ha
   exact List.mem_map.mpr ⟨(Sum.inl p.1,.int p.2),List.mem_map.mpr ⟨p,hp,rfl⟩,by rw [e]⟩
  ·rcases List.mem_append.mp hp with hp | hp
   ·exact hz p hp
   ·rw [List.mem_singleton.mp hp]
    exact hv
 ·refine ⟨kvs.map fun p=>if p.1=j then (p.1,v) else p,?_,?_,by simp,fun hv hz p hp=>?_⟩
  ·unfold putK
   rw [eT,if_pos (by cases e:cF (iD kvs) (Sum.inl j:Key) with | none=>exact absurd e h | some _=>rfl)]
   unfold iD
   rw [List.map_map,List.map_map]
   refine List.map_congr_left fun p _=>?_
   show (if (Sum.inl p.1:Key)=Sum.inl j then ((Sum.inl p.1:Key),V.int v) else (Sum.inl p.1,V.int p.2))=(Sum.inl (if p.1=j then (p.1,v) else p).1,V.int (if p.1=j then (p.1,v) else p).2)
   by_cases e:p.1=j
   ·rw [if_pos (by rw [e]),if_pos e]
   ·rw [if_neg (fun z=>e (Sum.inl.inj z)),if_neg e]
  ·rw [List.map_map]
   have:((fun p:Int × Int=>p.1) ∘ fun p=>if p.1=j then (p.1,v) else p)=fun p=>p.1:=by
    funext p
    show (if p.1=j then (p.1,v) else p).1=p.1
    split <;> rfl
   rw [this]
   exact hn
  ·obtain ⟨q,hq,rfl⟩:=List.mem_map.mp hp
   by_cases e:q.1=j
   ·rw [if_pos e]; exact hv
   ·rw [if_neg e]; exact hz q hq
theorem Rep.put {d:List (Key × V)} {f:Int→Int} (r:Rep d f) (j v:Int):Rep (putK d (Sum.inl j) (.int v)) (qJ f j v):=by
 obtain ⟨⟨kvs,rfl,hn⟩,hv⟩:=r
 obtain ⟨kvs',e,hn',_⟩:=Gj (j:=j) (v:=v) hn
 refine ⟨⟨kvs',e,hn'⟩,fun i=>?_⟩
 rw [rK]
 unfold qJ
 by_cases h:i=j
 ·rw [if_pos (by rw [h]),if_pos h]
  rfl
 ·rw [if_neg (fun z=>h (Sum.inl.inj z)),if_neg h]
  exact hv i
structure NZ (d:List (Key × V)) (f:Int→Int):Prop where
 rep:Rep d f
 nz:∀ k v,(k,v) ∈ d→v ≠ .int 0
theorem tU:∀ (a b:List Int),a.Nodup→(∀ x ∈ a,x ∈ b)→a.length ≤ b.length
 | [],_,_,_=>Nat.zero_le _
 | x :: a,b,hn,h=>by
  rw [List.nodup_cons] at hn
  have hx:=h x (by simp)
  have:=tU a (b.erase x) hn.2 fun y hy=>(List.mem_erase_of_ne (show y ≠ x from fun e=>hn.1 (by rw [← e]; exact hy))).mpr (h y (by simp [hy]))
  rw [List.length_erase_of_mem hx] at this
  have:0 < b.length:=List.length_pos_of_mem hx
  simp only [List.length_cons]
  omega
theorem NZ.sub {d e:List (Key × V)} {f:Int→Int} (a:NZ d f) (b:NZ e f):∃ ka kb,d=iD ka∧e=iD kb∧ka.length=kb.length∧∀ c ∈ ka,c ∈ kb:=by
 obtain ⟨⟨⟨ka,rfl,na⟩,va⟩,za⟩:=a
 obtain ⟨⟨⟨kb,rfl,nb⟩,vb⟩,zb⟩:=b
 have sub:∀ {ka kb:List (Int × Int)},(ka.map (·.1)).Nodup→(kb.map (·.1)).Nodup→(∀ j,(cF (iD ka) (Sum.inl j)).getD (.int 0)=.int (f j))→(∀ j,(cF (iD kb) (Sum.inl j)).getD (.int 0)=.int (f j))→(∀ k v,(k,v) ∈ iD ka→v ≠ .int 0)→∀ c ∈ ka,c ∈ kb:=by
  intro ka kb na nb va vb za c hc
  have h1:=nO na (show (c.1,c.2) ∈ ka from hc)
  have h2:=va c.1
  rw [h1] at h2
  have h3:c.2=f c.1:=V.int.inj h2
  have h4:c.2 ≠ 0:=fun z=>za (Sum.inl c.1) (.int c.2) (List.mem_map.mpr ⟨c,hc,rfl⟩) (by rw [z])
  have h5:=vb c.1
  cases e:cF (iD kb) (Sum.inl c.1:Key) with
  | none =>
   rw [e] at h5
   exact absurd (V.int.inj h5) (fun z=>h4 (by rw [h3,← z]))
  | some x =>
   rw [e] at h5
   obtain ⟨v,rfl,hm⟩:=qK e
   have h6:v=f c.1:=V.int.inj h5
   rw [h6,← h3] at hm
   exact hm
 refine ⟨ka,kb,rfl,rfl,?_,sub na nb va vb za⟩
 have l1:=tU (ka.map (·.1)) (kb.map (·.1)) na fun x hx=>by
  obtain ⟨c,hc,rfl⟩:=List.mem_map.mp hx
  exact List.mem_map.mpr ⟨c,sub na nb va vb za c hc,rfl⟩
 have l2:=tU (kb.map (·.1)) (ka.map (·.1)) nb fun x hx=>by
  obtain ⟨c,hc,rfl⟩:=List.mem_map.mp hx
  exact List.mem_map.mpr ⟨c,sub nb na vb va zb c hc,rfl⟩
 rw [List.length_map,List.length_map] at l1 l2
 omega
end L2
namespace L2
open PySem PySem.W PySem.Spec PySem.Calls PyProof.Rows
section
variable {X:Cx} {pins:List (Addr × Obj)} {σ:St} {H:Hp} {s:Shared}
end
theorem qL {X:Cx}:jg X (.type "dict") (fun xs H Q=>∃ (p:Addr) (kvs:List (Key × V)),xs=[.ref p]∧H p=some (.dK kvs)∧∀ l,H l=none→Q (.ref l) (upd H l (.dK kvs))):=by
 intro pins s σ H xs us0 Q I r h
 obtain ⟨p,kvs,rfl,hp,q⟩:=h
 obtain ⟨u,rfl,ru⟩:=vals1 r
 cases ru
 exact yl I (.of hp) fun l s' hl I'=>⟨.ref l,_,I',rfl,q l hl⟩
def EqP (H:Hp) (x y:V):Prop:=∃ p q xs ys,x=.ref p∧y=.ref q∧H p=some (.tup xs)∧H q=some (.tup ys)∧xs.length=ys.length∧∀ (i:Nat) a b,xs[i]? = some a→ys[i]? = some b→BR H a b
def Kn (H:Hp) (x y:V):Prop:=BR H x y∨∃ p q xs ys,x=.ref p∧y=.ref q∧H p=some (.lst xs)∧H q=some (.lst ys)∧xs.length=ys.length∧∀ (i:Nat) a b,xs[i]? = some a→ys[i]? = some b→EqP H a b
section
variable {X:Cx} {pins:List (Addr × Obj)} {σ:St} {H:Hp} {s:Shared} {A:Around}
theorem vf (hu:A.units < cLine) (I:Inv X pins σ H s) {p q:Addr} {xs ys:List V} (hp:H p=some (.tup xs)) (hq:H q=some (.tup ys)) (hl:xs.length=ys.length)
  (he:∀ (i:Nat) a b u v,xs[i]? = some a→ys[i]? = some b→RelV a u→RelV b v→SeqAt.EqAt A.in1 s u v true):SeqAt.RcAt A s (.ref p) (.ref q) true:=by
 obtain ⟨_,i1,r1,t1⟩:=(show cE X.prog X.w H s.heap p (.tup xs) from I.hok p _ hp)
 obtain ⟨_,i2,r2,t2⟩:=(show cE X.prog X.w H s.heap q (.tup ys) from I.hok q _ hq)
 have l1:=r1.length
 have l2:=r2.length
 have key:=SeqAt.RcAt.tuples (A:=A) (s:=s) (e:=fun _=>true) t1 t2 hu fun j h1 h2=>by
  have j1:j < xs.length:=by simp at h1; omega
  have j2:j < ys.length:=by simp at h2; omega
  have z1:xs[j]? = some xs[j]:=List.getElem?_eq_getElem j1
  have z2:ys[j]? = some ys[j]:=List.getElem?_eq_getElem j2
  obtain ⟨u1,w1,q1⟩:=r1.get z1
  obtain ⟨u2,w2,q2⟩:=r2.get z2
  have e1:i1.toArray[j]=u1:=by
   have:i1[j]? = some i1[j]:=List.getElem?_eq_getElem (by omega)
   rw [this] at w1
   simpa using w1
  have e2:i2.toArray[j]=u2:=by
   have:i2[j]? = some i2[j]:=List.getElem?_eq_getElem (by omega)
   rw [this] at w2
   simpa using w2
  rw [e1,e2]
  exact he j _ _ _ _ z1 z2 q1 q2
 rw [all_true] at key
 have e3:(true && i1.toArray.size == i2.toArray.size)=true:=by simp; omega
 rw [e3] at key
 exact key
theorem Gk (hu:A.units + 2 < cLine) (I:Inv X pins σ H s) {x y:V} {u v:Value} (h:EqP H x y) (ru:RelV x u) (rv:RelV y v):SeqAt.EqAt A s u v true:=by
 obtain ⟨p,q,xs,ys,rfl,rfl,hp,hq,hl,he⟩:=h
 cases ru
 cases rv
 by_cases e:p=q
 ·subst e; exact SeqAt.EqAt.same _
 ·exact SeqAt.EqAt.of_refs e (vf (by omega) I hp hq hl fun i a b u v ha hb r1 r2=>yz (A:=A.in1) (by show A.units + 1 + 1 < cLine; omega) I (he i a b ha hb) r1 r2)
theorem Gm (hu:A.units + 3 < cLine) (I:Inv X pins σ H s) {x y:V} {u v:Value} (h:Kn H x y) (ru:RelV x u) (rv:RelV y v):SeqAt.EqAt A s u v true:=by
 rcases h with h | ⟨p,q,xs,ys,rfl,rfl,hp,hq,hl,he⟩
 ·exact yz (by omega) I h ru rv
 ·cases ru
  cases rv
  by_cases e:p=q
  ·subst e; exact SeqAt.EqAt.same _
  ·exact SeqAt.EqAt.of_refs e (ny (by omega) I hp hq hl fun i a b u v ha hb r1 r2=>Gk (A:=A.in1) (by show A.units + 1 + 2 < cLine; omega) I (he i a b ha hb) r1 r2)
def Rt:R2:=fun x y H Q=>∃ (p q:Addr) (xs ys:List V),x=.ref p∧y=.ref q∧H p=some (.tup xs)∧H q=some (.tup ys)∧xs.length=ys.length∧(∀ (i:Nat) a b,xs[i]? = some a→ys[i]? = some b→Kn H a b)∧Q (.bl true) H
theorem Gn {X:Cx} (hu:X.A.units + 4 < cLine):iN X (compareOp .Eq) Rt:=by
 intro pins s σ H x y v u Q I rx ry h
 obtain ⟨p,q,xs,ys,rfl,rfl,hp,hq,hl,he,k⟩:=h
 cases rx
 cases ry
 have key:=vf (A:=X.A) (by omega) I hp hq hl fun i a b u v ha hb r1 r2=>Gm (A:=X.A.in1) (by show X.A.units + 1 + 3 < cLine; omega) I (he i a b ha hb) r1 r2
 exact key _ _ _ _ ⟨.bl true,H,I,rfl,k⟩
end
end L2
namespace PySem.SeqAt
open AutoSeq1 (wpAny_loadPart')
open MeetsSeq MeetsSeq2 MeetsSeq3 SeqRoads2
theorem lL {M:Model} {A:Around} {E:Value→Shared→Prop} {s:Shared} {β:Type} (f:Nat→β→Sem (ForInStep β)) (I:List Nat→β→Shared→Prop) (Q:β→Shared→Prop)
  (turn:∀ x rest b s,I (x :: rest) b s→wpAny M A (f x b) (fun r s'=>match r with | .yield b'=>I rest b' s' | .done b'=>Q b' s') E s)
  (fin:∀ b s,I [] b s→Q b s) (k:Nat) (b:β) (h:I (List.range' 0 k) b s):wpAny M A (forIn [:k] b f) Q E s:=by
 rw [Std.Legacy.Range.forIn_eq_forIn_range']
 refine wpAny_forIn_list f I Q turn fin _ b ?_
 have:([:k]:Std.Legacy.Range).size=k:=by simp [Std.Legacy.Range.size]
 rw [this]
 exact h
theorem oN (l:Addr) (items:Array Value) (n:Nat) (dd:Option Addr) (sl:Array (Option Value)) (x:Value) (e:Nat→Bool) (j:Nat) (hj:j < items.size) (hit:e j=true) (hno:∀ m,m < j→e m=false) :
  Meets (Builtin.«tuple.index» ⟨[.ref l,x],[]⟩)
   (fun A R s=>s.heap.get? l=some { cls:=.type "tuple",dict:=dd,data:=.seq items n,slots:=sl }∧(∀ i (hi:i < items.size),EqAt A.in1 s items[i] x (e i))∧R (.ok (.ret (.int j s.toks))) { s with toks:=s.toks + 1 }) :=
 .of_wp fun prog w A R s h=>by
  obtain ⟨hp,g,d,tk,os⟩:=s; obtain ⟨hl,he,h⟩:=h
  wp_walk using wpAny_loadPart' hl,lL _ (fun rest b s'=>b.1=none∧s'=⟨hp,g,d,tk,os⟩∧∃ i,i ≤ j∧rest=List.range' i (items.size - i)) _
  case turn =>
   rintro y rest b s' ⟨hb,rfl,i,hij,hrest⟩
   have hi:items.size - i=(items.size - (i + 1)) + 1:=by omega
   rw [hi,List.range'_succ] at hrest
   obtain ⟨rfl,rfl⟩:=List.cons.inj hrest
   have hy:y < items.size:=by omega
   have hg:items[y]? = some items[y]:=by simp [hy]
   rw [hg]
   refine wpAny_bind (he y hy prog w _ _ ?_)
   by_cases z:y=j
   ·subst z
    rw [hit]
    wp_walk
    exact ⟨_,rfl,h⟩
   ·rw [hno y (by omega)]
    wp_walk
    exact ⟨rfl,rfl,y + 1,by omega,rfl⟩
  case fin =>
   rintro ⟨b1,b2⟩ s' ⟨hb,rfl,i,hij,hrest⟩
   have:(List.range' i (items.size - i)).length=0:=by rw [← hrest]; rfl
   rw [List.length_range'] at this
   omega
  case h =>
   exact ⟨rfl,rfl,0,Nat.zero_le _,by simp⟩
end PySem.SeqAt
namespace L2
open PySem PySem.Spec PyProof.Rows
def Ko (K:PySem.W.Frag):V→List V→Hp→VK→Prop:=fun x vs H Q=>∃ (p:Addr) (xs:List V) (ds:List Da) (y:V) (b:Da) (n j:Nat),x=.ref p∧vs=[y]∧bq K H p xs∧xs.length=ds.length∧(∀ (i:Nat) x d,xs[i]? = some x→ds[i]? = some d→dU K H x d)∧dU K H y b∧(∀ d ∈ ds,d.Nb n)∧b.Nb n∧n ≤ 5∧ds[j]? = some b∧(∀ m,m < j→ds[m]? ≠ some b)∧Q (.int (j:Nat)) H
section
variable {X:Cx}
theorem B5 (hu:X.A.units + 8 < cLine):P0 X "tuple.index" (Ko X.K):=by
 intro pins s σ H x vs v us Q I rx rv h
 obtain ⟨p,xs,ds,y,b,n,j,rfl,rfl,hp,hl,hd,hy,hnd,hnb,hn,hj,hno,q⟩:=h
 cases rx
 obtain ⟨u,rfl,ru⟩:=rv.one
 obtain ⟨its,r,pl,hz⟩:=I.tuple hp
 obtain ⟨o,ho,hc,m,hdat⟩:=pl
 obtain ⟨oc,od,odt,osl⟩:=o
 have hc:oc=_:=hc
 have hdat:odt=_:=hdat
 subst hc hdat
 have hlen:=r.length
 have hjl:=(List.getElem?_eq_some_iff.mp hj).1
 have hji:j < its.toArray.size:=by simp; omega
 refine call_meets F.slot_tuple_index ⟨_,ho,rfl⟩ F.entry_tuple_index (F.args_tuple_index_2 _ _)
  (SeqAt.oN p its.toArray m od osl u (fun i=>decide (ds[i]? = some b)) j hji (decide_eq_true hj) fun k hk=>decide_eq_false (hno k hk)) ⟨ho,fun i hi=>?_,⟨.int (j:Nat),H,I.tok _,⟨_,rfl⟩,q⟩⟩
 obtain ⟨x,z1,q1⟩:=tO r hi
 have k1:=(List.getElem?_eq_some_iff.mp z1).1
 have g1:ds[i]? = some (ds[i]'(by omega)):=List.getElem?_eq_getElem (by omega)
 have e:decide (ds[i]? = some b)=decide (ds[i]'(by omega)=b):=by rw [g1]; simp
 rw [e]
 exact u5 (n:=n) (by show X.A.units + 1 + n < cLine; omega) I (hd i x _ z1 g1) hy (hnd _ (List.mem_of_getElem? g1)) hnb q1 ru
end
end L2
namespace L2
open PySem PySem.W PySem.Spec PySem.Calls PyProof.Rows
theorem Gp {P:Program} {w:World} {K:PySem.W.Frag} {mg:Str→Option Value} {base:Heap} {N:List Str} {qual:Str} {scope:Scope} {f:Addr} {cd:Value} {A:Around} {outer:List Env} {s₀:Shared} {H₀:Hp} {E:XK} :
  Passes (tS P w) (ja (tS P w) P w K mg base N qual scope f cd A outer s₀ H₀ E) E:=by
 intro pins σ H s e s' I cx
 obtain ⟨ea,cls,a0,od,H',B,rfl,fly,dc,hB,hH,os,bare,un,hok,hE⟩:=cx
 obtain ⟨T,be,bT,Ru⟩:=yD fly
 have apart:∀ {b o},B.get? b=some o→b ∉ frs ((envOfC qual scope s₀.heap.objs.size f cd) :: outer)→b ∉ frs ((envOfC qual scope s₀.heap.objs.size f cd) :: outer) ++ [ea,T]:=fun {b o} hb nf hx=>by
  rcases List.mem_append.mp hx with h | h
  ·exact nf h
  ·rcases (show b=ea∨b=T by simpa using h) with rfl | rfl
   ·rw [be] at hb; cases hb
   ·rw [bT] at hb; cases hb
 have fr':∀ b ∈ frs ((envOfC qual scope s₀.heap.objs.size f cd) :: outer),H' b=none:=fun b hb=>by
  obtain ⟨_,o,ho,_⟩:=I.stack.mem hb
  exact un.free b o ho (I.lN b hb) (by simp)
 have kH:∀ {b o},H' b=some o→b ∉ frs ((envOfC qual scope s₀.heap.objs.size f cd) :: outer) ++ [ea,T]:=fun {b o} hb=>by
  obtain ⟨o',h1⟩:=hH b o hb
  exact apart h1 fun z=>by rw [fr' b z] at hb; cases hb
 have stk:∀ {b o},s₀.heap.get? b=some o→b ∉ frs outer→b ∉ frs ((envOfC qual scope s₀.heap.objs.size f cd) :: outer):=fun {b o} hb nf hx=>by
  rcases List.mem_cons.mp (I.mq b hx) with e | e
  ·have h1:=Heap.lt_size hb
   have h2:s₀.heap.objs.size ≤ (envOfC qual scope s₀.heap.objs.size f cd).locals:=I.ok.above
   have e:b=(envOfC qual scope s₀.heap.objs.size f cd).locals:=e
   rw [e] at h1
   exact absurd h1 (Nat.not_lt.mpr h2)
  ·exact nf e
 refine wL (B:=less s'.heap (frs ((envOfC qual scope s₀.heap.objs.size f cd) :: outer) ++ [ea,T])) (L:=(envOfC qual scope s₀.heap.objs.size f cd).locals) I.ok.frames rfl Ru dc fun h5 Kp up Rv=>?_
 have stay:∀ {b u},b ∉ frs ((envOfC qual scope s₀.heap.objs.size f cd) :: outer) ++ [ea,T]→s'.heap.get? b=some u→h5.get? b=some u:=fun {b u} hb hu=>Kp.1 b u (by rw [eU hb]; exact hu)
 have up1:∀ b o,s'.heap.get? b=some o→b ∈ frs ((envOfC qual scope s₀.heap.objs.size f cd) :: outer)→∃ sl,h5.get? b=some { o with slots:=sl }:=fun b o ho hb=>by
  obtain ⟨_,o2,e2,nf⟩:=fly.2.2.1.mem hb
  rw [ho] at e2
  cases e2
  exact up b o ho nf
 have un5:Un (frs ((envOfC qual scope s₀.heap.objs.size f cd) :: outer)) [] H H' s.heap h5:=by
  refine ⟨fun b o e n nf nx=>?_,fun b o e n hb nx=>?_,un.free,fun b o e nx=>?_,un.tups,un.jV,un.ml⟩
  ·obtain ⟨o',hb⟩:=hB b o e nf
   exact stay (apart hb nf) (un.keep b o e n nf nx)
  ·obtain ⟨sl,e1⟩:=un.slot b o e n hb nx
   obtain ⟨sl',e2⟩:=up1 b _ e1 hb
   exact ⟨sl',e2⟩
  ·obtain ⟨o',e1⟩:=un.there b o e nx
   by_cases hb:b ∈ frs ((envOfC qual scope s₀.heap.objs.size f cd) :: outer)
   ·obtain ⟨sl',e2⟩:=up1 b _ e1 hb
    exact ⟨_,e2⟩
   ·obtain ⟨o2,h2⟩:=hB b o e hb
    exact ⟨o',stay (apart h2 hb) e1⟩
 have Kq:i9 P w H' h5:=fun a o e=>(hok a o e).stay (fun b u hc q=>by
  rcases hc with rfl | hc
  ·exact stay (kH e) q
  ·exact stay (kH hc) q) (fun _ q=>q) fun _ _ q=>q
 have I5:=I.call' (s':={ s' with heap:=h5 }) (ch:=[]) os un5 Kq bare (fun b z=>absurd z (by simp))
 refine ⟨ea,cls,a0,od,H',_,rfl,Kp,Rv,fun b o hb nf=>?_,fun b o hb=>?_,I5.os,I5.bare,I5.base,Kq,hE⟩
 ·have ns:=stk hb nf
  obtain ⟨o1,e1⟩:=I.base.there b o hb (by show b ∉ []; simp)
  obtain ⟨o2,e2⟩:=hB b o1 e1 ns
  obtain ⟨o3,e3⟩:=un.there b o1 e1 (by simp)
  exact ⟨o3,by rw [eU (apart e2 ns)]; exact e3⟩
 ·obtain ⟨u,hu⟩:=(hok b o hb).some_
  exact ⟨u,by rw [eU (kH hb)]; exact hu⟩
end L2
namespace L2
open PySem PySem.Spec PyProof.Rows
theorem wQ {a:Addr} {o:Obj} {kvs:List (Key × V)} {g:TG} {tt:TT} {te:TE} {R:Hp→Prop} {D:Addr} {σ0:St} {H0:Hp} (Pv:Nat→St→List V→Hp→Prop) (h0:Pv 0 σ0 [] H0) (hl:∀ i σ ys H,i ≤ kvs.length→Pv i σ ys H→H a=some (.iL o (.dK kvs)))
  (hs:∀ i k y σ ys H,kvs[i]? = some (k,y)→Pv i σ ys H→g (kV k) σ H fun σ2 H2=>tt σ2 H2 fun b H3 =>
   if b=true then te σ2 H3 fun v H4=>H4 D=some (.lst ys)∧ys.length < sizeLine∧Pv (i + 1) σ2 (ys ++ [v]) (upd H4 D (.lst (ys ++ [v]))) else Pv (i + 1) σ2 ys H3)
  (hd:∀ σ ys H,Pv kvs.length σ ys H→R H) :
  ∃ W:Nat→Nat→St→List V→Hp→Prop,(∃ m,W 0 m σ0 [] H0)∧∀ i m σ ys H,W i m σ ys H →
   ((Ek a o kvs).stop i H∧R H)∨((Ek a o kvs).go i H∧∃ N:St→List V→Hp→Prop,(∀ σ' ys' H',N σ' ys' H'→∃ m',m' < m∧W (i + 1) m' σ' ys' H')∧∀ x H',(Ek a o kvs).uI i H x H'→g x σ H' fun σ2 H2=>tt σ2 H2 fun b H3 =>
    if b=true then te σ2 H3 fun v H4=>H4 D=some (.lst ys)∧ys.length < sizeLine∧N σ2 (ys ++ [v]) (upd H4 D (.lst (ys ++ [v]))) else N σ2 ys H3):=by
 refine ⟨fun i m σ ys H=>m=kvs.length - i∧i ≤ kvs.length∧Pv i σ ys H,⟨kvs.length,by simp,Nat.zero_le _,h0⟩,?_⟩
 rintro i m σ ys H ⟨rfl,hi,p⟩
 have q:=hl i σ ys H hi p
 by_cases hlt:i < kvs.length
 ·refine .inr ⟨⟨q,hlt⟩,Pv (i + 1),fun σ' ys' H' p'=>⟨kvs.length - (i + 1),by omega,rfl,hlt,p'⟩,fun x H' y=>?_⟩
  obtain ⟨rfl,k,v,e,rfl⟩:=y
  exact hs i k v σ ys _ e p
 ·have e:i=kvs.length:=by omega
  subst e
  exact .inl ⟨⟨q,Nat.le_refl _⟩,hd σ ys H p⟩
inductive HD (H:Hp):V→Da→Prop
 | non:HD H .non .non
 | bl (b:Bool):HD H (.bl b) (.bl b)
 | int (i:Int):HD H (.int i) (.int i)
 | str (s:Str):HD H (.str s) (.str s)
 | tup {p:Addr} {xs:List V} {ds:List Da} (h:H p=some (.tup xs)) (l:xs.length=ds.length) (e:∀ (i:Nat) x d,xs[i]? = some x→ds[i]? = some d→HD H x d):HD H (.ref p) (.tup ds)
 | lst {p:Addr} {xs:List V} {ds:List Da} (h:H p=some (.lst xs)) (l:xs.length=ds.length) (e:∀ (i:Nat) x d,xs[i]? = some x→ds[i]? = some d→HD H x d):HD H (.ref p) (.lst ds)
theorem HD.da {H:Hp} {v:V} {d:Da} (K:PySem.W.Frag) (h:HD H v d):dU K H v d:=by
 induction h with
 | non=>exact .non
 | bl b=>exact .bl b
 | int i=>exact .int i
 | str x=>exact .str x
 | tup h l e ih=>exact .tup (bq.of h) l ih
 | lst h l e ih=>exact .lst (bh.of h) l ih
inductive Bq (H:Hp):List V→List Da→Prop
 | nil:Bq H [] []
 | cons {x:V} {d:Da} {xs:List V} {ds:List Da} (h:HD H x d) (r:Bq H xs ds):Bq H (x :: xs) (d :: ds)
theorem Bq.len {H:Hp} {xs:List V} {ds:List Da} (h:Bq H xs ds):xs.length=ds.length:=by
 induction h with
 | nil=>rfl
 | cons h r ih=>rw [List.length_cons,List.length_cons,ih]
theorem Bq.get {H:Hp} {xs:List V} {ds:List Da} (h:Bq H xs ds):∀ (i:Nat) x d,xs[i]? = some x→ds[i]? = some d→HD H x d:=by
 induction h with
 | nil=>intro i x d h; simp at h
 | cons h r ih =>
  intro i x d h1 h2
  cases i with
  | zero=>cases h1; cases h2; exact h
  | succ i=>exact ih i x d (by simpa using h1) (by simpa using h2)
section
variable {σ:St} {H:Hp}
end
end L2
namespace L2
open PySem PySem.W PySem.Spec PySem.Calls PyProof.Rows
section
variable {X:Cx} {pins:List (Addr × Obj)} {σ:St} {H:Hp} {s:Shared} {A:Around}
end
end L2
namespace L2
open PySem PySem.Spec PyProof.Rows
open Builtin Builtin.Str
section
variable {X:Cx}
end
section
variable {X:Cx}
end
end L2
namespace L2
open PySem PySem.W PySem.Spec PySem.Calls PyProof.Rows
open Builtin Builtin.Str
section
variable {X:Cx} {pins:List (Addr × Obj)} {σ:St} {H:Hp} {s:Shared}
open Classical in
noncomputable def jj (K:PySem.W.Frag) (H:Hp) (d:Da) (w:Value):Bool:=decide (∃ a,w=.ref a∧dU K H (.ref a) d)
theorem vg {K:PySem.W.Frag} {d:Da} {w:Value} (h:∃ a,w=.ref a∧dU K H (.ref a) d):jj K H d w=true:=by
 unfold jj
 exact @decide_eq_true _ (Classical.propDecidable _) h
theorem vh {K:PySem.W.Frag} {d:Da} {w:Value} (h:¬ ∃ a,w=.ref a∧dU K H (.ref a) d):jj K H d w=false:=by
 unfold jj
 exact @decide_eq_false _ (Classical.propDecidable _) h
theorem yN (I:Inv X pins σ H s) {d:Da}:∀ {xs:List V} {us:List Value} {ds:List Da},Vals xs us→Bq H xs ds→(∀ x ∈ xs,∃ a,x=.ref a)→us.any (jj X.K H d)=decide (d ∈ ds)
 | _,_,_,.nil,.nil,_=>rfl
 | _,_,_,.cons (l₂:=us) (b:=u) r t,.cons (d:=e) (ds:=ds) h g,hr=>by
  obtain ⟨a,rfl⟩:=hr _ List.mem_cons_self
  have hu:u=Value.ref a:=r
  subst hu
  have ih:=yN I (d:=d) t g fun x hx=>hr x (by simp [hx])
  rw [List.any_cons,ih]
  have e1:jj X.K H d (.ref a)=decide (d=e):=by
   by_cases c:d=e
   ·subst c
    rw [decide_eq_true rfl]
    exact vg ⟨a,rfl,h.da X.K⟩
   ·rw [decide_eq_false c]
    refine vh ?_
    rintro ⟨b,eb,hb⟩
    cases eb
    exact c (qH I hb (h.da X.K))
  rw [e1]
  by_cases c:d=e
  ·simp [c]
  ·simp [c]
end
end L2
namespace L2
open PySem PySem.W PySem.Spec PySem.Calls PyProof.Rows
open Builtin Builtin.Str
def B6 (K:PySem.W.Frag):R2:=fun x y H Q=>∃ (q p:Addr) (xs:List V) (d:Da) (ds:List Da) (n:Nat),x=.ref q∧y=.ref p∧H p=some (.lst xs)∧HD H x d∧Bq H xs ds∧(∀ x ∈ xs,∃ a,x=.ref a)∧d.Nb n∧(∀ e ∈ ds,e.Nb n)∧n ≤ 5∧Q (.bl (!decide (d ∈ ds))) H
theorem wR {X:Cx} (hu:X.A.units + 6 < cLine):iN X (compareOp .NotIn) (B6 X.K):=by
 intro pins s σ H x y v u Q I rx ry h
 obtain ⟨q,p,xs,d,ds,n,rfl,rfl,hp,hd,hs,hr,nd,nds,hn,k⟩:=h
 cases ry
 obtain ⟨its,r,pl,hz⟩:=I.list (bh.of hp)
 have key:=yN I (d:=d) r hs hr
 refine SeqAt.notIn_listAt (jj X.K H d) pl.isList (fun w hw=>?_) ⟨.bl _,H,I,rfl,?_⟩
 ·have hw:w ∈ its:=by simpa using hw
  obtain ⟨j,hj,ej⟩:=List.getElem_of_mem hw
  have hl:=r.length
  have hx:xs[j]? = some xs[j]:=List.getElem?_eq_getElem (by omega)
  have hdl:=hs.len
  have he:ds[j]? = some ds[j]:=List.getElem?_eq_getElem (by omega)
  obtain ⟨w',hw',qx⟩:=r.get hx
  have ew:w'=w:=by
   rw [List.getElem?_eq_getElem hj,ej] at hw'
   exact (Option.some.inj hw').symm
  subst ew
  obtain ⟨a,ea⟩:=hr xs[j] (List.getElem_mem _)
  have h1:=hs.get j _ _ hx he
  have h2:=u5 (A:=X.A.in1) (n:=n) (by show X.A.units + 1 + n < cLine; omega) I (h1.da X.K) (hd.da X.K) (nds _ (List.getElem_mem _)) nd qx rx
  have e1:jj X.K H d w'=decide (ds[j]=d):=by
   have qx:=qx
   rw [ea] at qx h1
   have ew:w'=Value.ref a:=qx
   subst ew
   by_cases c:ds[j]=d
   ·rw [decide_eq_true c]
    exact vg ⟨a,rfl,c ▸ h1.da X.K⟩
   ·rw [decide_eq_false c]
    refine vh ?_
    rintro ⟨b,eb,hb⟩
    cases eb
    exact c (qH I (h1.da X.K) hb)
  rw [e1]
  exact h2
 ·rw [show its.toArray.any (jj X.K H d)=its.any (jj X.K H d) by simp,key]
  exact k
end L2
namespace PySem.W.Fast
def tw11345736096089095863:Nat:=0
def tw18096801976303927937:Nat:=0
def tw3399329267409721761:Nat:=0
def tw18204101824274317222:Nat:=0
def tw16369319266021986036:Nat:=0
def tw18180006494458564189:Nat:=0
def tw2792670591580531243:Nat:=0
def tw567586283887631611:Nat:=0
def tw1233776520933528322:Nat:=0
def tw14959389470055476021:Nat:=0
def tw17862974943666313586:Nat:=0
def tw14921347819130091179:Nat:=0
def tw16358581483402734604:Nat:=0
def tw1162125110152832692:Nat:=0
def tw10135787186267853444:Nat:=0
def tw10855986371466437784:Nat:=0
def tw9366879262595399956:Nat:=0
def tw18185011170648789514:Nat:=0
def tw12887087574760864611:Nat:=0
def tw17862581661848954734:Nat:=0
def tw11258701041288616134:Nat:=0
def tw14361110596132326712:Nat:=0
def tw9896668910261021581:Nat:=0
def tw14871025629788261415:Nat:=0
def tw17859735858704161084:Nat:=0
def tw7820609736345843486:Nat:=0
def tw11360921458407225255:Nat:=0
def tw9210714326657716921:Nat:=0
def tw12913970679579815839:Nat:=0
def tw2966674412017905269:Nat:=0
def tw16980594259506013254:Nat:=0
def tw9513478729325371084:Nat:=0
def tw16831296815189820181:Nat:=0
def tw10212745299341304872:Nat:=0
def tw7467141594940114452:Nat:=0
def tw15836997309504489056:Nat:=0
def tw5335629912953399283:Nat:=0
def tw12023081288450364422:Nat:=0
def tw18215902203042676916:Nat:=0
def tw8984317155760444327:Nat:=0
def tw14379744707012761833:Nat:=0
def tw11864106531585267121:Nat:=0
def tw3669099136627756751:Nat:=0
def tw9653291879691335655:Nat:=0
def tw6741395938702839242:Nat:=0
def tw291185566435303446:Nat:=0
def tw7715447604768228451:Nat:=0
def tw4871518277103085495:Nat:=0
def tw303434071223696610:Nat:=0
def tw9427114362052989271:Nat:=0
end PySem.W.Fast
namespace My
open PySem L2
theorem _root_.L2.dr.u {n:Nat} {A:Around} (hr:dr n A) (k:Nat) (h:k ≤ 64:=by decide):A.units + k < cLine:=Nat.lt_of_le_of_lt (Nat.add_le_add_left h _) hr.units
abbrev KI (K:PySem.W.Frag) (f:Addr):Prop:=PySem.W.keepIn K (.ref f)=true
theorem wU:0 ≤ sizeLine:=by decide
theorem fc:1 ≤ sizeLine:=by decide
theorem cB:2 ≤ sizeLine:=by decide
theorem gk:3 ≤ sizeLine:=by decide
theorem rW:4 ≤ sizeLine:=by decide
theorem yO:5 ≤ sizeLine:=by decide
theorem Gq:6 ≤ sizeLine:=by decide
theorem Rx:7 ≤ sizeLine:=by decide
theorem Ry:8 ≤ sizeLine:=by decide
theorem Kr:13 ≤ sizeLine:=by decide
theorem Ks:20 ≤ sizeLine:=by decide
theorem Kt:25 ≤ sizeLine:=by decide
theorem yP:(0:Int) < 2:=by decide
theorem B7:(0:Int) < 3:=by decide
theorem yQ:(0:Int) < 4:=by decide
theorem Rz:(0:Int) < 5:=by decide
theorem B8:(0:Int) < 8:=by decide
theorem Ku:(0:Int) < 9:=by decide
theorem Kv:(0:Int) < 19:=by decide
theorem Kw:(0:Int) < 20:=by decide
theorem Kx:(0:Int) < 34:=by decide
theorem Ky:(0:Int) < 40:=by decide
theorem nQ:(0:Int) < 1000001:=by decide
theorem oO:(0:Int) < 2147483629:=by decide
theorem jk:(0:Int) < 2147483647:=by decide
open List (all_eq_true all_map any_cons append_assoc append_nil cons_ne_nil filter_append filter_cons_of_neg filter_cons_of_pos find?_eq_none length_append length_cons length_dropLast length_filter_le length_map length_range length_replicate length_set length_singleton length_take map_append map_cons map_map map_set map_take mem_append mem_append_left mem_cons mem_cons_self mem_filter mem_filterMap mem_map mem_range mem_singleton nodup_append nodup_cons not_mem_nil range_succ replicate take_add_one take_length take_of_length_le take_succ zip_cons_cons)
open PySem.W (Frag KeysLit OpenLaw WalkO clsIn codeIn excIn exmOne findIn fnOf hasDictIn isFn kIn_of keepIn kitOne mg_none_of mg_of mroIn nsIn specialIn typeIn)
open Option (map_eq_some_iff)
open Nat (le_of_ble_eq_true le_refl le_succ le_trans zero_le)
def top (i:Nat):Stmt:=PySem.Challenge.pw_widenrows_k96_whole_no_good_layout_has_f.main.body.getD i (.Pass ⟨0,0,0,0⟩)
abbrev gm:Stmt:=top 6
abbrev iQ:Stmt:=top 9
abbrev j9:Stmt:=top 10
abbrev gn:Stmt:=top 11
abbrev eV:Stmt:=top 12
abbrev pK:Stmt:=top 18
abbrev iR:Stmt:=top 19
abbrev jt:Stmt:=top 20
abbrev iS:Stmt:=top 21
abbrev ke:Stmt:=top 22
abbrev iT:Stmt:=top 23
abbrev iU:Stmt:=top 24
abbrev kf:Stmt:=top 25
abbrev gq:Stmt:=top 26
abbrev ju:Stmt:=top 27
abbrev jv:Stmt:=top 28
abbrev iV:Stmt:=top 60
abbrev kh:Stmt:=top 61
abbrev gJ:Stmt:=top 62
abbrev gK:Stmt:=top 63
abbrev ib:Stmt:=top 64
abbrev pL:Stmt:=top 66
abbrev iW:Stmt:=top 67
abbrev wV:Stmt:=top 68
abbrev pM:Stmt:=top 69
abbrev pN:Stmt:=top 70
abbrev nU:Stmt:=top 71
abbrev tV:Stmt:=top 72
abbrev kl:Stmt:=top 73
abbrev eW:Stmt:=top 76
abbrev pO:Stmt:=top 77
abbrev eY:Stmt:=top 78
abbrev pQ:Stmt:=top 79
abbrev dZ:Stmt:=top 80
abbrev qM:Stmt:=top 81
theorem gL:bootBuiltins "list" = some (.type "list"):=by decide +kernel
theorem rX:bootBuiltins "tuple" = some (.type "tuple"):=by decide +kernel
theorem cT:bootBuiltins "len" = some (.builtin "len"):=by decide +kernel
theorem at0 {α:Type} (a:α) (r:List α):kZ (a :: r) 0=some a:=cL (j:=0) rfl
theorem at1 {α:Type} (a b:α) (r:List α):kZ (a :: b :: r) 1=some b:=cL (j:=1) rfl
theorem at2 {α:Type} (a b c:α) (r:List α):kZ (a :: b :: c :: r) 2=some c:=cL (j:=2) rfl
theorem strEq {a b:Str} (h:decide (V.str a=V.str b)=true):a=b:=V.str.inj (of_decide_eq_true h)
theorem pR {a b:Str} (h:¬ decide (V.str a=V.str b)=true):¬ a=b:=fun e=>h (by rw [e]; exact decide_eq_true rfl)
theorem cO (w:Str):∀ ss:List Str,inV (.str w) (ss.map V.str)=decide (w ∈ ss)
 | []=>rfl
 | x :: r=>by
  have ih:=cO w r
  unfold inV at ih ⊢
  rw [map_cons,any_cons,ih]
  show ((x == w) || _)=_
  by_cases h:x=w
  ·subst h
   simp
  ·have h':¬ w=x:=fun e=>h e.symm
   simp [h,h']
theorem ae {H:Hp} {l:Addr} {o:HO} (h:H l=none):Same H (upd H l o):=fun b u e=>by
 rw [aq (aB e h)]
 exact e
theorem yR:bootBuiltins "int" = some (.type "int"):=by decide +kernel
theorem yS:bootBuiltins "max" = some (.builtin "max"):=by decide +kernel
theorem yT:bootBuiltins "min" = some (.builtin "min"):=by decide +kernel
theorem yU {H:Hp} {l a:Addr} {o u:HO} (n:H l=none) (h:H a=some u):upd H l o a=some u:=by
 rw [aq (aB h n)]
 exact h
theorem aR {H H1:Hp} {l:Addr} {o:HO} (e:Same H H1) (h:H l=none):Same H (upd H1 l o):=fun b u z=>by
 rw [aq (aB z h)]
 exact e b u z
def d8:List Str:=["stop", "back", "halt", "set", "more", "copy", "add", "less", "load", "keep", "tell", "see", "put", "take", "jump", "zero", "below", "call", "mark", "table"]
def w2:List Str:=["copy", "add", "less", "load", "keep"]
def w1:List Str:=["set", "more", "tell", "see", "put", "take", "zero", "below", "table"]
def lT (u:Str) (items:List V):Prop:=(u ∈ w2→∃ b c:Int,items=[.int b,.int c])∧(u ∈ w1→∃ (b:Int) (r:List V),items=.int b :: r)
theorem lT.one {u:Str} {b:Int} {r:List V} (h:¬ u ∈ w2):lT u (.int b :: r):=⟨fun z=>absurd z h,fun _=>⟨b,r,rfl⟩⟩
def dw:List Str:=["stop", "back", "halt", "jump"]
def eI:List Str:=["jump", "call", "mark"]
def zb:List Str:=["zero", "below"]
def Parts (H:Hp) (w:Str) (items:List V) (ts:List Int):Prop :=
 if w = "table" then ∃ (b:V) (q:Addr),items=[b,.ref q]∧H q=some (.tup (ts.map V.int))
 else if w ∈ eI then ∃ (t:Int) (f:V),items=[.int t,f]∧ts=[t]
 else if w ∈ zb then ∃ (b:V) (t:Int) (f:V),items=[b,.int t,f]∧ts=[t] else ts=[]
def Kz (H:Hp) (r:Addr) (w:Str) (ts:List Int):Prop:=∃ items,H r=some (.tup (.str w :: items))∧Parts H w items ts
def kinds:List (Str × List Str):=[("stop",[]),("back",[]),("halt",["number"]),("set",["box", "value"]),("more",["box", "value"]),("copy",["box", "box"]),("add",["box", "box"]),("less",["box", "box"]),("load",["box", "box"]),("keep",["box", "box"]),
 ("tell",["box"]),("see",["box", "number"]),("put",["box", "aside"]),("take",["box", "aside"]),("jump",["target", "far"]),("zero",["box", "target", "far"]),("below",["box", "target", "far"]),("call",["target", "far"]),("mark",["target", "far"]),("table",["box", "targets"])]
theorem Gr:bootBuiltins "sum" = some (.builtin "sum"):=by decide +kernel
def five:List Str:=["jump", "call", "mark", "zero", "below"]
def six:List Str:=["set", "more", "put", "take", "see", "halt"]
def yV:List Str:=["number", "value", "aside"]
def heads:List (Str × Int):=[("stop",0),("back",0),("halt",0),("set",0),("more",0),("copy",0),("add",0),("less",0),("load",0),("keep",0),("tell",0),("see",0),("put",0),("take",0),("jump",0),("zero",0),("below",0),("call",0),("mark",0),("table",0),("jump",1),("zero",1),("below",1),("call",1),("mark",1)]
structure Txt (K:Frag) (pr:Params) (mg:Str→Option Value):Prop where
 prt:∃ p,mg "PARTS" = some (.ref p)∧∀ x ∈ kinds,∃ q,FV K pr p x.1 (some (.ref q))∧∀ H,bq K H q (x.2.map V.str)
 two:∃ p,mg "TWO_UNITS" = some (.ref p)∧∀ H,bq K H p (six.map V.str)
 ls:∃ t,mg "LEAST_SHORT" = some (.int (-64) t)
 gs:∃ t,mg "GREATEST_SHORT" = some (.int 63 t)
 cst:∃ t,mg "CODE_STEP" = some (.int 1024 t)
 bst:∃ t,mg "BOX_STEP" = some (.int 128 t)
 sad:∃ t,mg "SHORT_ADDED" = some (.int 64 t)
 nks:∃ p,mg "NUMBER_KINDS" = some (.ref p)∧∀ H,bq K H p (yV.map V.str)
 hds:∃ p,mg "HEADS" = some (.ref p)∧(∃ o,K.lookup p=some o∧o.cls=.type "tuple" ∧ o.dict=none)∧∀ H,∃ qs:List Addr,bq K H p (qs.map V.ref)∧qs.length=heads.length∧∀ (i:Nat) q h,qs[i]? = some q→heads[i]? = some h→bq K H q [.str h.1,.int h.2]
 mro:∃ t,mg "MOST_ROWS_OVER" = some (.int 64 t)
 len:mg "len" = none
 list:mg "list" = none
 tuple:mg "tuple" = none
 int:mg "int" = none
 enum:mg "enumerate" = none
 range:mg "range" = none
 min:mg "min" = none
 max:mg "max" = none
 sum:mg "sum" = none
 zip:mg "zip" = none
 dict:mg "dict" = none
def dn (u:Str):List Str:=((kinds.find? fun x=>x.1 == u).map (·.2)).getD []
def RA (u:Str):Nat:=(dn u).length
theorem vi (w:Int):∀ ss:List Int,inV (.int w) (ss.map V.int)=decide (w ∈ ss)
 | []=>rfl
 | x :: r=>by
  have ih:=vi w r
  unfold inV at ih ⊢
  rw [map_cons,any_cons,ih]
  show ((x == w) || _)=_
  by_cases h:x=w
  ·subst h
   simp
  ·have h':¬ w=x:=fun e=>h e.symm
   simp [h,h']
theorem wW (ms:List Int):(ms.map V.int).all jG=true:=by
 rw [all_eq_true]
 intro x hx
 obtain ⟨i,_,rfl⟩:=mem_map.mp hx
 rfl
theorem dD {n:Nat} (h:n ≤ 1000000):n ≤ sizeLine:=le_trans h (by decide)
theorem bj {n:Nat} (h:n ≤ 1000000):n < sizeLine:=Nat.lt_of_le_of_lt h (by decide)
structure FR where
 u:Str
 is:List Int
 ts:List Int
def FR.Ok (d:FR):Prop:=d.u ∈ d8∧(d.u = "table" → ∃ b,d.is=[b])∧(d.u ∈ eI→∃ t f,d.is=[t,f]∧d.ts=[t])∧(d.u ∈ zb→∃ b t f,d.is=[b,t,f]∧d.ts=[t]) ∧
 (¬ d.u = "table" → ¬ d.u ∈ eI→¬ d.u ∈ zb→d.ts=[]∧d.is.length=RA d.u)∧(d.u ∈ w2→∃ b c,d.is=[b,c])∧(d.u ∈ w1→∃ b r,d.is=b :: r)
def RB (H:Hp) (q:Addr) (d:FR):Prop:=(d.u = "table" ∧ ∃ b p,d.is=[b]∧H q=some (.tup [.str d.u,.int b,.ref p])∧H p=some (.tup (d.ts.map V.int)))∨(¬ d.u = "table" ∧ H q=some (.tup (.str d.u :: d.is.map V.int)))
def cj (H:Hp) (q:Addr) (d:FR):Prop:=d.Ok∧RB H q d
theorem cj.same {H H':Hp} {q:Addr} {d:FR} (s:Same H H') (h:cj H q d):cj H' q d:=by
 obtain ⟨o,h⟩:=h
 refine ⟨o,?_⟩
 rcases h with ⟨a,b,p,e,h1,h2⟩ | ⟨a,h1⟩
 ·exact .inl ⟨a,b,p,e,s _ _ h1,s _ _ h2⟩
 ·exact .inr ⟨a,s _ _ h1⟩
theorem cj.parts {H:Hp} {q:Addr} {d:FR} (h:cj H q d):∃ items,H q=some (.tup (.str d.u :: items))∧lT d.u items∧Parts H d.u items d.ts∧∀ (i:Nat) (b:Int),(d.u ∈ w1∨d.u ∈ w2)→i < 2→(d.u ∈ w1→i=0)→(items[i]? = some (.int b)↔d.is[i]? = some b):=by
 obtain ⟨⟨hu,h1,h2,h3,h4,h5,h6⟩,h⟩:=h
 rcases h with ⟨a,b,p,e,g1,g2⟩ | ⟨a,g1⟩
 ·refine ⟨_,g1,lT.one (by rw [a]; decide),?_,fun i b' _ hi hw=>?_⟩
  ·unfold Parts
   rw [if_pos a]
   exact ⟨_,p,rfl,g2⟩
  ·have:i=0:=hw (by rw [a]; decide)
   subst this
   rw [e]
   simp
 ·refine ⟨_,g1,⟨fun z=>?_,fun z=>?_⟩,?_,fun i b' _ hi hw=>?_⟩
  ·obtain ⟨b,c,e⟩:=h5 z
   exact ⟨b,c,by rw [e]; rfl⟩
  ·obtain ⟨b,r,e⟩:=h6 z
   exact ⟨b,r.map V.int,by rw [e]; rfl⟩
  ·unfold Parts
   rw [if_neg a]
   split
   ·rename_i z
    obtain ⟨t,f,e1,e2⟩:=h2 z
    exact ⟨t,.int f,by rw [e1]; rfl,e2⟩
   ·rename_i z1
    split
    ·rename_i z
     obtain ⟨b,t,f,e1,e2⟩:=h3 z
     exact ⟨.int b,t,.int f,by rw [e1]; rfl,e2⟩
    ·rename_i z2
     exact (h4 a z1 z2).1
  ·rw [List.getElem?_map,map_eq_some_iff]
   exact ⟨fun ⟨y,e1,e2⟩=>by cases e2; exact e1,fun e=>⟨b',e,rfl⟩⟩
def cW (H:Hp) (lr:Addr) (ds:List FR):Prop:=∃ qs:List Addr,H lr=some (.lst (qs.map V.ref))∧qs.length=ds.length∧∀ (i:Nat) q d,qs[i]? = some q→ds[i]? = some d→cj H q d
theorem cW.same {H H':Hp} {lr:Addr} {ds:List FR} (s:Same H H') (h:cW H lr ds):cW H' lr ds:=by
 obtain ⟨qs,a,b,c⟩:=h
 exact ⟨qs,s _ _ a,b,fun i q d h1 h2=>(c i q d h1 h2).same s⟩
theorem cW.get {H:Hp} {lr:Addr} {ds:List FR} {r:Nat} {d:FR} (h:cW H lr ds) (hd:ds[r]? = some d):∃ (qs:List Addr) (q:Addr),H lr=some (.lst (qs.map V.ref))∧kZ (qs.map V.ref) (r:Int)=some (.ref q)∧(qs.map V.ref)[r]? = some (.ref q)∧cj H q d:=by
 obtain ⟨qs,a,b,c⟩:=h
 have hr:=(List.getElem?_eq_some_iff.mp hd).1
 have hq:qs[r]? = some (qs[r]'(by omega)):=List.getElem?_eq_getElem _
 have hq':(qs.map V.ref)[r]? = some (.ref (qs[r]'(by omega))):=by rw [List.getElem?_map,hq]; rfl
 exact ⟨qs,_,a,cL hq',hq',c r _ d hq hd⟩
def isStar:Expr→Bool
 | .Starred _ _=>true
 | _=>false
theorem B9 {e:Expr} {es:List Expr} {env:Env} (h:isStar e=false):starEach (e :: es) env=(false,eval e env) :: starEach es env:=starEach.eq_3 _ _ _ (fun e1 p h1=>by rw [h1] at h; cases h)
inductive En (X:Cx):List Expr→List TE→Prop where
 | nil:En X [] []
 | cons {e:Expr} {te:TE} {es:List Expr} {ts:List TE} (h:PE X e te) (r:En X es ts) (hs:isStar e=false:=by rfl):En X (e :: es) (te :: ts)
def yW:List TE→TA
 | []=>Fx
 | te :: ts=>Eg te (yW ts)
theorem En.pa {X:Cx} {es:List Expr} {ts:List TE} (h:En X es ts):PA X es (yW ts):=by
 induction h with
 | nil=>exact ao
 | cons h r hs ih=>exact ah h ih (B9 hs)
theorem vj {X:Cx} {es:List Expr} {ts:List TE} {pos:Pos} (h:En X es ts):PE X (.List es pos) (Fy (yW ts)):=ck h.pa
theorem iX {X:Cx} {es:List Expr} {ts:List TE} {pos:Pos} {x1} (h:En X es ts):PE X (.Tuple es x1 pos) (JX (yW ts)):=bt h.pa
@[irreducible] def Qa (X:Cx) (e:Expr) (t:TE):Prop:=PE X e t
@[irreducible] def Qb (X:Cx) (e:Stmt) (t:TS):Prop:=PS X e t
theorem Ca {X:Cx} {es:List Expr} {ts:List TE} {pos:Pos} (h:En X es ts):Qa X (.List es pos) (Fy (yW ts)):=by
 unfold Qa
 exact ck h.pa
theorem Cd {X:Cx} {pos:Pos} {i:Nat} {x:Str} {e:Expr} {te:TE} {pos':Pos} (hN:X.N.Nodup) (hi:X.N[i]? = some x) (hx:Loc X.env.scope x) (he:Qa X e te) (hs:swapsWith e (some (.Name x pos')) pos.line X.env=pure false:=by rfl) (hf:X.fn x=true∨X.env.scope.names.lookup x=some .local:=by first | exact .inl rfl | exact .inr rfl | assumption) :
  Qb X (.Assign [.Name x pos'] e pos) (Bv te (oY i)):=by
 unfold Qa at he
 unfold Qb
 exact aW hN hi hx he hs hf
theorem yX {X:Cx} {st:Stmt} {t:TS} (h:Qb X st t):Jl X st t:=by
 unfold Qb at h
 exact aK h
theorem oQ {c A B:Prop} [Decidable c] (h:c) (a:A):if c then A else B:=by rw [if_pos h]; exact a
theorem jd {c A B:Prop} [Decidable c] (h:¬ c) (b:B):if c then A else B:=by rw [if_neg h]; exact b
def fQ (d:FR):Int:=d.is.getLastD 0
def tW (d:FR):Int:=if d.u = "table" then 2 + d.ts.length else if d.u ∈ five then 1 + fQ d else if d.u ∈ six then 2 else 1
theorem cX {H:Hp} {q:Addr} {d:FR} (h:cj H q d) (hu:d.u ∈ five):¬ d.u = "table" ∧ H q=some (.tup (.str d.u :: d.is.map V.int))∧kZ (V.str d.u :: d.is.map V.int) (-1)=some (.int (fQ d))∧∃ t,d.ts=[t]∧kZ (V.str d.u :: d.is.map V.int) (-2)=some (.int t):=by
 have nt:¬ d.u = "table" := fun z=>absurd hu (by rw [z]; decide)
 have hc:=(by decide +kernel:∀ u ∈ five,u ∈ eI∨u ∈ zb) _ hu
 rcases h.2 with ⟨z,_⟩ | ⟨_,e⟩
 ·exact absurd z nt
 ·refine ⟨nt,e,?_⟩
  unfold fQ
  rcases hc with z | z
  ·obtain ⟨t,f,e1,e2⟩:=h.1.2.2.1 z
   rw [e1]
   exact ⟨rfl,t,e2,rfl⟩
  ·obtain ⟨b,t,f,e1,e2⟩:=h.1.2.2.2.1 z
   rw [e1]
   exact ⟨rfl,t,e2,rfl⟩
theorem wX:∀ x ∈ kinds,(decide (("far" : Str) ∈ x.2))=decide (x.1 ∈ five):=by decide +kernel
theorem wY:∀ u ∈ d8,∃ ks,(u,ks) ∈ kinds:=fun u hu=>by
 have:u ∈ kinds.map (·.1):=(by decide +kernel:∀ u ∈ d8,u ∈ kinds.map (·.1)) u hu
 obtain ⟨x,hx,rfl⟩:=mem_map.mp this
 exact ⟨x.2,hx⟩
section
variable {P:Program} {w:World} {K:Frag} {mg:Str→Option Value} {base:Heap}
def km:Sp:=fun vs H Q _=>∃ (r:Addr) (w:Str) (ts:List Int),vs=[.ref r]∧Kz H r w ts∧∀ (l:Addr) (H':Hp),Same H H'→H l=none→H' l=some (.lst (ts.map V.int))→Q (.ref l) H'
theorem pS:aI ["row", "word"] ["row"] (aj gm):=⟨rfl,rfl,rfl,by decide +kernel,rfl,by decide +kernel,by decide +kernel⟩
theorem tY {f:Addr} {fd:FuncData} (F:dj K "targets_of" "targets_of" gm f fd) (T:Txt K w.params mg):aL P w K mg base cg 1 f fd ["row"] km:=by
 refine F.ok pS (fun vs H Q E h=>?_) (fun cdv A outer s H vs Q E hr h=>?_)
 ·obtain ⟨r,w,ts,rfl,_⟩:=h
  rfl
 ·obtain ⟨r,w',ts,rfl,⟨items,hR,hP⟩,k⟩:=h
  refine ⟨_,aD (aW (i:=1) pS.nd rfl (Or.inl rfl) (aJ aO (pv 0) ak (fun _ _=>rfl)))
   (aD (cV (aS d7 (pv 1) az (bz _)) (au (aN (cK dh (by rfl) T.list gL (ah (aJ aO (pv 0) ak (fun _ _=>rfl)) ao)))) aX)
   (aD (cV (aS cz (pv 1) (bt (ah az (ah az (ah az ao)))) rfl) (au (aN (ck (ah (aJ aO (pv 0) ak (fun _ _=>rfl)) ao)))) aX)
   (aD (cV (aS cz (pv 1) (bt (ah az (ah az ao))) rfl) (au (aN (ck (ah (aJ aO (pv 0) ak (fun _ _=>rfl)) ao)))) aX)
   (au (aN (ck ao)))))),?_⟩
  refine ⟨_,rfl,r,_,0,.str w',rfl,rfl,bq.of hR,at0 _ _,_,rfl,rfl,_,rfl,?_⟩
  refine cC (fun h1=>?_) (fun h1=>?_)
  ·have h1:=strEq h1
   unfold Parts at hP
   rw [if_pos h1] at hP
   obtain ⟨b,q,rfl,hq⟩:=hP
   refine ⟨_,rfl,r,_,2,.ref q,rfl,rfl,bq.of hR,at2 _ _ _ _,q,_,rfl,.inr (bq.of hq),fun l hl=>?_⟩
   exact k l _ (ae hl) hl ai
  ·have h1:=pR h1
   unfold Parts at hP
   rw [if_neg h1] at hP
   refine ⟨_,rfl,gk,fun t ht=>⟨t,eI.map V.str,rfl,.inr (bq.of ai),rfl,rfl,_,rfl,?_⟩⟩
   have s1:=ae (o:=.tup (eI.map V.str)) ht
   have hR1:=s1 _ _ hR
   rw [show inV (.str w') (eI.map V.str)=decide (w' ∈ eI) from cO _ _]
   refine cC (fun h2=>?_) (fun h2=>?_)
   ·have h2:=of_decide_eq_true h2
    rw [if_pos h2] at hP
    obtain ⟨t',f',rfl,rfl⟩:=hP
    refine ⟨_,rfl,r,_,1,.int t',rfl,rfl,bq.of hR1,at1 _ _ _,fc,fun l hl=>?_⟩
    exact k l _ (s1.trans (ae hl)) (s1.free hl) ai
   ·have h2:¬ w' ∈ eI:=fun e=>h2 (decide_eq_true e)
    rw [if_neg h2] at hP
    refine ⟨_,rfl,cB,fun t2 FQ=>⟨t2,zb.map V.str,rfl,.inr (bq.of ai),rfl,rfl,_,rfl,?_⟩⟩
    have s2:=s1.trans (ae (o:=.tup (zb.map V.str)) FQ)
    have vk:=s2 _ _ hR
    rw [show inV (.str w') (zb.map V.str)=decide (w' ∈ zb) from cO _ _]
    refine cC (fun h3=>?_) (fun h3=>?_)
    ·have h3:=of_decide_eq_true h3
     rw [if_pos h3] at hP
     obtain ⟨b,t',f',rfl,rfl⟩:=hP
     refine ⟨_,rfl,r,_,2,.int t',rfl,rfl,bq.of vk,at2 _ _ _ _,fc,fun l hl=>?_⟩
     exact k l _ (s2.trans (ae hl)) (s2.free hl) ai
    ·have h3:¬ w' ∈ zb:=fun e=>h3 (decide_eq_true e)
     rw [if_neg h3] at hP
     subst hP
     refine ⟨wU,fun l hl=>?_⟩
     exact k l _ (s2.trans (ae hl)) (s2.free hl) ai
def pT:Sp:=fun vs H Q _=>∃ u:Str,vs=[.str u]∧u ∈ d8∧Q (.bl (decide (u ∈ five))) H
theorem KA:aI ["word"] ["word"] (aj iQ):=⟨rfl,rfl,rfl,by decide +kernel,rfl,by decide +kernel,by decide +kernel⟩
theorem Gu {f:Addr} {fd:FuncData} (F:dj K "has_far" "has_far" iQ f fd) (T:Txt K w.params mg):aL P w K mg base cg 1 f fd ["word"] pT:=by
 refine F.ok KA (fun vs H Q E h=>?_) (fun cdv A outer s H vs Q E hr h=>?_)
 ·obtain ⟨u,rfl,_⟩:=h
  rfl
 ·obtain ⟨u,rfl,hu,k⟩:=h
  obtain ⟨ks,hks⟩:=wY u hu
  obtain ⟨p,hp,hk⟩:=T.prt
  obtain ⟨q,hq,hS⟩:=hk _ hks
  refine ⟨_,(au (aN (jE cz az (qF (dB (v:=.ref p) (by rfl) hp rfl) (pv 0) (fun _ _=>rfl)) rfl))),?_⟩
  refine ⟨_,rfl,p,u,_,rfl,rfl,hq,q,ks.map V.str,rfl,.inr (hS _),rfl,(by rw [all_map]; exact all_eq_true.mpr fun _ _=>rfl),?_⟩
  show Q (.bl (inV (.str "far") (ks.map V.str))) H
  rw [cO,wX _ hks]
  exact k
def yZ:Sp:=fun vs H Q _=>∃ (q:Addr) (d:FR),vs=[.ref q]∧cj H q d∧Q (.int (tW d)) H
theorem y9:aI ["row", "word"] ["row"] (aj pK):=⟨rfl,rfl,rfl,by decide +kernel,rfl,by decide +kernel,by decide +kernel⟩
theorem Ce {f fH:Addr} {fd rY:FuncData} (F:dj K "size_of" "size_of" pK f fd) (T:Txt K w.params mg) (GH:aL P w K mg base cg 1 fH rY ["word"] pT) (kH:KI K fH) (bH:Binds K rY ["word"] []) (mH:mg "has_far" = some (.ref fH)):aL P w K mg base cg 2 f fd ["row"] yZ:=by
 refine F.ok y9 (fun vs H Q E h=>?_) (fun cdv A outer s H vs Q E hr h=>?_)
 ·obtain ⟨q,d,rfl,_⟩:=h
  rfl
 ·obtain ⟨q,d,rfl,hR,k⟩:=h
  obtain ⟨p,hp,hq⟩:=T.two
  obtain ⟨items,i1,_,i3,_⟩:=hR.parts
  unfold tW at k
  refine ⟨_,(aD (aW (i:=1) y9.nd rfl (Or.inl rfl) (aJ aO (pv 0) ak (fun _ _=>rfl)))
   (aD (cV (aS d7 (pv 1) az (bz _)) (au (aN (aG cm ak (bu aY (by rfl) T.len cT (ah (aJ aO (pv 0) ak (fun _ _=>rfl)) ao))))) aX)
   (aD (cV (eR (aM GH hr (by rfl) mH kH bH .nil aZ (ah (pv 1) ao))) (au (aN (aG cm ak (aJ aO (pv 0) (dX dg ak) (fun _ _=>rfl))))) aX)
   (au (aN (eF (aS cz (pv 1) (dB (v:=.ref p) (by rfl) hp rfl) rfl) ak ak)))))),?_⟩
  refine ⟨_,rfl,q,_,0,.str d.u,rfl,rfl,bq.of i1,at0 _ _,_,rfl,rfl,_,rfl,?_⟩
  refine cC (fun e=>?_) (fun e=>?_)
  ·have e:=strEq e
   rw [if_pos e] at k
   unfold Parts at i3
   rw [if_pos e] at i3
   obtain ⟨b,p3,rfl,h3⟩:=i3
   refine ⟨_,rfl,q,_,2,_,rfl,rfl,bq.of i1,at2 _ _ _ _,p3,_,rfl,.inr (bq.of h3),_,_,rfl,rfl,?_⟩
   rw [length_map]
   exact k
  ·have e:=pR e
   rw [if_neg e] at k
   refine ⟨_,rfl,d.u,rfl,hR.1.1,_,rfl,?_⟩
   refine cC (fun e2=>?_) (fun e2=>?_)
   ·have e2:=of_decide_eq_true e2
    rw [if_pos e2] at k
    obtain ⟨_,g1,g2,_⟩:=cX hR e2
    exact ⟨_,rfl,_,rfl,q,_,_,_,rfl,rfl,bq.of g1,g2,_,_,rfl,rfl,k⟩
   ·have e2:¬ d.u ∈ five:=fun z=>e2 (decide_eq_true z)
    rw [if_neg e2] at k
    refine ⟨_,rfl,p,six.map V.str,rfl,.inr (hq _),rfl,rfl,_,rfl,?_⟩
    rw [show inV (.str d.u) (six.map V.str)=decide (d.u ∈ six) from cO _ _]
    refine cC (fun e3=>?_) (fun e3=>?_)
    ·rw [if_pos (of_decide_eq_true e3)] at k
     exact k
    ·rw [if_neg (fun z=>e3 (decide_eq_true z))] at k
     exact k
def aV (d:FR):Bool:=decide (d.u ∈ five) && decide (fQ d=0)
def zc:Sp:=fun vs H Q _=>∃ (q:Addr) (d:FR),vs=[.ref q]∧cj H q d∧Q (.bl (aV d)) H
theorem KC:aI ["row"] ["row"] (aj iS):=⟨rfl,rfl,rfl,by decide +kernel,rfl,by decide +kernel,by decide +kernel⟩
theorem Gv {f fH:Addr} {fd rY:FuncData} (F:dj K "is_short_jump" "is_short_jump" iS f fd) (T:Txt K w.params mg) (GH:aL P w K mg base cg 1 fH rY ["word"] pT) (kH:KI K fH) (bH:Binds K rY ["word"] []) (mH:mg "has_far" = some (.ref fH)):aL P w K mg base cg 2 f fd ["row"] zc:=by
 refine F.ok KC (fun vs H Q E h=>?_) (fun cdv A outer s H vs Q E hr h=>?_)
 ·obtain ⟨q,d,rfl,_⟩:=h
  rfl
 ·obtain ⟨q,d,rfl,hR,k⟩:=h
  obtain ⟨items,i1,_,i3,_⟩:=hR.parts
  unfold aV at k
  refine ⟨_,(au (aN (xT (aM GH hr (by rfl) mH kH bH .nil aZ (ah (aJ aO (pv 0) ak (fun _ _=>rfl)) ao)) (xS (jE d7 (aJ aO (pv 0) (dX dg ak) (fun _ _=>rfl)) ak (bz _)))))),?_⟩
  refine ⟨_,rfl,q,_,0,.str d.u,rfl,rfl,bq.of i1,at0 _ _,d.u,rfl,hR.1.1,_,rfl,?_⟩
  refine cC (fun e=>?_) (fun e=>?_)
  ·have e:=of_decide_eq_true e
   obtain ⟨_,g1,g2,_⟩:=cX hR e
   refine ⟨_,rfl,_,rfl,q,_,_,_,rfl,rfl,bq.of g1,g2,rfl,?_⟩
   rw [decide_eq_true e,Bool.true_and] at k
   have:decide (V.int (fQ d)=V.int 0)=decide (fQ d=0):=decide_eq_decide.mpr ⟨V.int.inj,fun z=>by rw [z]⟩
   rw [this]
   exact k
  ·have e:decide (d.u ∈ five)=false:=Bool.eq_false_iff.mpr e
   rw [e,Bool.false_and] at k
   exact k
def bf (x:Int):Bool:=decide (-64 ≤ x∧x ≤ 63)
def qN:Sp:=fun vs H Q _=>∃ x:Int,vs=[.int x]∧Q (.bl (bf x)) H
theorem Cg:aI ["distance"] ["distance"] (aj ke):=⟨rfl,rfl,rfl,by decide +kernel,rfl,by decide +kernel,by decide +kernel⟩
theorem zg {f:Addr} {fd:FuncData} (F:dj K "is_borne" "is_borne" ke f fd) (T:Txt K w.params mg):aL P w K mg base cg 1 f fd ["distance"] qN:=by
 refine F.ok Cg (fun vs H Q E h=>?_) (fun cdv A outer s H vs Q E hr h=>?_)
 ·obtain ⟨x,rfl,_⟩:=h
  rfl
 ·obtain ⟨x,rfl,k⟩:=h
  obtain ⟨t1,h1⟩:=T.ls
  obtain ⟨t2,h2⟩:=T.gs
  refine ⟨_,(au (aN (rC o8 o8 (dB (v:=.int (-64)) (by rfl) h1 ⟨_,rfl⟩) (pv 0) (dB (v:=.int 63) (by rfl) h2 ⟨_,rfl⟩)))),?_⟩
  refine ⟨_,rfl,?_⟩
  unfold bf at k
  refine ⟨_,_,rfl,rfl,_,rfl,?_⟩
  refine cC (fun e=>⟨_,_,rfl,rfl,?_⟩) (fun e=>?_)
  ·have:decide (-64 ≤ x∧x ≤ 63)=decide (x ≤ 63):=decide_eq_decide.mpr ⟨fun z=>z.2,fun z=>⟨of_decide_eq_true e,z⟩⟩
   rw [this] at k
   exact k
  ·rw [decide_eq_false (fun z=>e (decide_eq_true z.1))] at k
   exact k
end
def beg (ds:List FR) (j:Nat):Int:=((ds.take j).map tW).sum
def gu (ds:List FR) (n:Nat):List Int:=(List.range (n + 1)).map (beg ds)
theorem gA {ds:List FR} {j:Nat} {d:FR} (h:ds[j]? = some d):beg ds (j + 1)=beg ds j + tW d:=by
 unfold beg
 rw [take_add_one,h,map_append,List.sum_append]
 simp
theorem pU (ds:List FR) (n:Nat):gu ds (n + 1)=gu ds n ++ [beg ds (n + 1)]:=by
 unfold gu
 rw [range_succ,map_append]
 rfl
theorem jK (ds:List FR) (n:Nat):(gu ds n).length=n + 1:=by unfold gu; rw [length_map,length_range]
theorem lU {ds:List FR} {n j:Nat} (h:j ≤ n):(gu ds n)[j]? = some (beg ds j):=by
 unfold gu
 rw [List.getElem?_map,List.getElem?_range (by omega)]
 rfl
theorem zh {α:Type} {xs:List α} {y:α} (h:xs[xs.length - 1]? = some y):kZ xs (-1)=some y:=by
 have h1:=(List.getElem?_eq_some_iff.mp h).1
 have h0:xs.length ≠ 0:=fun z=>by rw [z] at h1; exact absurd h1 (Nat.not_lt_zero _)
 unfold kZ xM
 rw [if_neg (by decide),if_pos (by omega),show ((-1:Int) + (xs.length:Int)).toNat=xs.length - 1 by omega]
 exact h
section
variable {P:Program} {w:World} {K:Frag} {mg:Str→Option Value} {base:Heap}
def nV:Sp:=fun vs H Q _=>∃ (lr:Addr) (ds:List FR),vs=[.ref lr]∧cW H lr ds∧ds.length ≤ 100000∧∀ (l:Addr) (H':Hp),Same H H'→H l=none→H' l=some (.lst ((gu ds ds.length).map V.int))→Q (.ref l) H'
theorem zi:aI ["rows", "begins", "row"] ["rows"] (aj iR):=⟨rfl,rfl,rfl,by decide +kernel,rfl,by decide +kernel,by decide +kernel⟩
theorem wZ {f fS:Addr} {fd rZ:FuncData} (F:dj K "begins_of" "begins_of" iR f fd) (T:Txt K w.params mg) (GS:aL P w K mg base cg 2 fS rZ ["row"] yZ) (kS:KI K fS) (bS:Binds K rZ ["row"] []) (mS:mg "size_of" = some (.ref fS)):aL P w K mg base cg 3 f fd ["rows"] nV:=by
 refine F.ok zi (fun vs H Q E h=>?_) (fun cdv A outer s H vs Q E hr h=>?_)
 ·obtain ⟨lr,ds,rfl,_⟩:=h
  rfl
 ·obtain ⟨lr,ds,rfl,hR,hn,k⟩:=h
  obtain ⟨qs,r1,r2,r3⟩:=hR
  refine ⟨_,(aD (aW (i:=1) zi.nd rfl (Or.inl rfl) (ck (ah ak ao)))
   (aD (df PassesOwn.never rfl (eC (pv 0)) (cu (i:=2) zi.nd rfl (Or.inl rfl)) (au (bQ (dR PySem.F.plainAttrs_list PySem.F.slot_list_append PySem.F.type_list_append bZ (pv 1) (ah (aG cm (aJ aT (pv 1) (dX dg ak) (fun _ _=>rfl)) (aM GS hr (by rfl) mS kS bS .nil aZ (ah (pv 2) ao))) ao)))))
   (au (aN (pv 1))))),?_⟩
  refine ⟨by decide,fun l nl=>?_⟩
  refine ⟨_,rfl,lr,rfl,⟨_,bh.of (ae nl _ _ r1)⟩,hU (K:=K) (a:=lr) (xs:=qs.map V.ref) (fun i σ G=>i ≤ ds.length∧∃ v:Option V,σ=[some (.ref lr),some (.ref l),v]∧Same H G∧G l=some (.lst ((gu ds i).map V.int))) ?_ ?_ ?_ ?_⟩
  ·exact ⟨zero_le _,none,rfl,ae nl,ai⟩
  ·rintro i σ G _ ⟨_,v,rfl,s1,_⟩
   exact bh.of (s1 _ _ r1)
  ·rintro i x σ G hx ⟨hi,v,rfl,s1,hl⟩
   rw [List.getElem?_map] at hx
   obtain ⟨q,hq,rfl⟩:=map_eq_some_iff.mp hx
   have hil:i < ds.length:=by have:=(List.getElem?_eq_some_iff.mp hq).1; omega
   have hd:ds[i]? = some ds[i]:=List.getElem?_eq_getElem hil
   generalize ds[i]=d at hd
   refine ⟨_,rfl,.inl ⟨rfl,_,bh.of hl⟩,_,rfl,_,rfl,l,_,-1,.int (beg ds i),rfl,rfl,bh.of hl,zh (by rw [length_map,jK,List.getElem?_map]; show Option.map _ ((gu ds i)[i]?)=_; rw [lU (le_refl _)]; rfl),_,rfl,q,d,rfl,(r3 i q d hq hd).same s1,_,_,rfl,rfl,l,_,_,rfl,rfl,hl,bj (by rw [length_map,jK]; omega),?_⟩
   refine ⟨hil,_,rfl,aR s1 nl,?_⟩
   rw [ai,pU,gA hd,map_append]
   rfl
  ·rintro σ G ⟨_,v,rfl,s1,hl⟩
   rw [length_map,r2] at hl
   exact ⟨_,rfl,k l _ s1 nl hl⟩
def dE (ds:List FR) (r:Nat) (t:Int):Int:=beg ds t.toNat - beg ds (r + 1)
def qO:Sp:=fun vs H Q _=>∃ (lr lb:Addr) (ds:List FR) (r:Nat) (d:FR),vs=[.ref lr,.ref lb,.int (r:Int)]∧cW H lr ds∧H lb=some (.lst ((gu ds ds.length).map V.int))∧ds[r]? = some d∧(∀ t ∈ d.ts,0 ≤ t∧t < ds.length)∧d.ts.length ≤ 16∧∀ (l:Addr) (H':Hp),Same H H'→H l=none→H' l=some (.lst ((d.ts.map (dE ds r)).map V.int))→Q (.ref l) H'
theorem KD:aI ["rows", "begins", "r"] ["rows", "begins", "r"] (aj jt):=⟨rfl,rfl,rfl,by decide +kernel,rfl,by decide +kernel,by decide +kernel⟩
def Ci:Scope:={ kind:=.function,names:=[(".0",.local),("target",.local),("begins",.free),("r",.free)],isGenerator:=false,isCoroutine:=false,more:=[] }
theorem vm:dI (aj jt) Ci ["rows", "begins", "r"] ["target", "begins", "r"] [none,some 1,some 2]:=⟨rfl,by decide +kernel,by decide +kernel,by decide +kernel,by decide +kernel,by decide +kernel⟩
theorem zj {f fT:Addr} {fd zk:FuncData} (F:dj K "distances_of" "distances_of" jt f fd) (T:Txt K w.params mg) (GT:aL P w K mg base cg 1 fT zk ["row"] km) (kT:KI K fT) (bT:Binds K zk ["row"] []) (mT:mg "targets_of" = some (.ref fT)):aL P w K mg base cg 2 f fd ["rows", "begins", "r"] qO:=by
 refine F.ok KD (fun vs H Q E h=>?_) (fun cdv A outer s H vs Q E hr h=>?_)
 ·obtain ⟨lr,lb,ds,r,d,rfl,_⟩:=h
  rfl
 ·obtain ⟨lr,lb,ds,r,d,rfl,hR,hb,hd,ht,RD,k⟩:=h
  obtain ⟨qs,q,g1,g2,g2',g3⟩:=hR.get hd
  obtain ⟨items,i1,_,i3,_⟩:=g3.parts
  have hrl:=(List.getElem?_eq_some_iff.mp hd).1
  refine ⟨_,(au (aN (eE (N':=["target", "begins", "r"]) (fr:=[none,some 1,some 2]) vm rfl (eC (aM GT hr (by rfl) mT kT bT .nil aZ (ah (aJ aT (pv 0) (pv 2) (fun _ _=>rfl)) ao))) (fun C s0 H0 fp=>(cu (i:=0) vm.nd rfl (Or.inl rfl))) (fun C s0 H0 fp=>iO) (fun C s0 H0 fp=>(aG gG (aJ (r:=rG K) aT (pv 1) (pv 0) (fun _ _=>rfl)) (aJ (r:=rG K) aT (pv 1) (aG cm (pv 2) ak) (fun _ _=>rfl))))))),?_⟩
  refine ⟨_,rfl,_,rfl,lr,_,_,_,rfl,rfl,bh.of g1,g2,q,d.u,d.ts,rfl,⟨items,i1,i3⟩,fun l H1 s1 nl hl=>?_⟩
  refine ⟨l,rfl,⟨_,bh.of hl⟩,fun D nD=>gj (K:=K) (a:=l) (xs:=d.ts.map V.int) (fun j σ ys G=>∃ v:Option V,σ=[v,some (.ref lb),some (.int (r:Int))]∧ys=((d.ts.take j).map (dE ds r)).map V.int∧Same H1 G∧G D=some (.lst ys)) ?_ ?_ ?_ ?_⟩
  ·exact ⟨none,rfl,rfl,ae nD,ai⟩
  ·rintro j σ ys G _ ⟨v,rfl,rfl,s2,_⟩
   exact bh.of (s2 _ _ hl)
  ·rintro j x σ ys G hx ⟨v,rfl,rfl,s2,hD⟩
   rw [List.getElem?_map] at hx
   obtain ⟨t,htj,rfl⟩:=map_eq_some_iff.mp hx
   have hjl:=(List.getElem?_eq_some_iff.mp htj).1
   obtain ⟨t0,t1⟩:=ht t (List.mem_of_getElem? htj)
   obtain ⟨tn,rfl⟩:=Int.eq_ofNat_of_zero_le t0
   have hb2:=s2 _ _ (s1 _ _ hb)
   have rd:∀ n:Nat,n ≤ ds.length→kZ ((gu ds ds.length).map V.int) (n:Int)=some (.int (beg ds n)):=fun n hn=>cL (by rw [List.getElem?_map,lU hn]; rfl)
   refine ⟨_,rfl,_,rfl,lb,_,_,_,rfl,rfl,bh.of hb2,rd tn (by omega),_,rfl,_,rfl,_,_,rfl,rfl,lb,_,_,_,rfl,rfl,bh.of hb2,rd (r + 1) (by omega),_,_,rfl,rfl,hD,bj (by rw [length_map,length_map,length_take]; omega),_,rfl,?_,aR s2 nD,ai⟩
   rw [take_add_one,htj,map_append,map_append]
   rfl
  ·rintro σ ys G ⟨v,rfl,rfl,s2,hD⟩
   rw [length_map,take_length] at hD
   exact k D _ (s1.trans s2) (s1.free nD) hD
end
theorem gM {X:Cx} {K:Frag} (hK:X.K=K) {i j:Nat} {x y:Str} {px py pt:Pos} {k:Nat} (hc:X.calm=true) (hN:X.N.Nodup) (hi:X.N[i]? = some x) (hx:Loc X.env.scope x) (hj:X.N[j]? = some y) (hy:Loc X.env.scope y)
  (hf:X.fn x=true∨X.env.scope.names.lookup x=some .local:=by first | exact .inl rfl | exact .inr rfl) (hf2:X.fn y=true∨X.env.scope.names.lookup y=some .local:=by first | exact .inl rfl | exact .inr rfl) :
  PG X (.Tuple [.Name x px,.Name y py] k pt) (JQ K 2 (xU (oY i) (xU (oY j) JP))):=hK ▸ Fo (n:=2) hc (rj (cu hN hi hx hf) (rj (cu hN hj hy hf2) Bu))
def dst (ds:List FR) (r:Nat) (d:FR):Int:=dE ds r (d.ts.headD 0)
def jw (ds:List FR) (r:Nat):Option (Nat × Int):=match ds[r]? with
 | some d=>if aV d=true then some (r,dst ds r d) else none
 | none=>none
def lh (ds:List FR) (n:Nat):List (Nat × Int):=(List.range n).filterMap (jw ds)
def eK (kv:List (Nat × Int)):List (Key × V):=kv.map fun x=>((Sum.inl (x.1:Int):Key),V.int x.2)
theorem jL (ds:List FR) (n:Nat):lh ds (n + 1)=lh ds n ++ (jw ds n).toList:=by
 unfold lh
 rw [range_succ,List.filterMap_append]
 congr 1
theorem tZ {ds:List FR} {n:Nat} {x:Nat × Int} (h:x ∈ lh ds n):x.1 < n:=by
 unfold lh at h
 obtain ⟨r,h1,h2⟩:=mem_filterMap.mp h
 unfold jw at h2
 split at h2
 ·split at h2
  ·cases h2
   exact mem_range.mp h1
  ·cases h2
 ·cases h2
theorem vn (ds:List FR) (n:Nat):(lh ds n).length ≤ n:=by
 unfold lh
 exact le_trans (List.length_filterMap_le _ _) (by rw [length_range]; exact le_refl _)
theorem zm {kv:List (Nat × Int)} {r:Nat} {x:Int} (h:∀ y ∈ kv,y.1 ≠ r):putK (eK kv) (Sum.inl (r:Int)) (.int x)=eK (kv ++ [(r,x)]):=by
 unfold putK
 rw [if_neg]
 ·unfold eK
  rw [map_append]
  rfl
 ·intro z
  obtain ⟨y,hy,e⟩:=List.any_eq_true.mp z
  unfold eK at hy
  obtain ⟨y0,hy0,rfl⟩:=mem_map.mp hy
  have:=of_decide_eq_true e
  have:=Sum.inl.inj this
  exact h y0 hy0 (by omega)
theorem sd {kv:List (Nat × Int)} (hn:(kv.map (·.1)).Nodup) {r:Nat} {x:Int} (h:(r,x) ∈ kv):cF (eK kv) (Sum.inl (r:Int))=some (.int x):=by
 unfold cF eK
 rw [List.find?_map]
 have:kv.find? ((fun kv:Key × V=>decide (kv.1=Sum.inl (r:Int))) ∘ fun x=>((Sum.inl (x.1:Int):Key),V.int x.2))=some (r,x):=by
  induction kv with
  | nil=>cases h
  | cons a t ih =>
   rw [List.find?_cons]
   rw [map_cons,nodup_cons] at hn
   by_cases e:a.1=r
   ·have:a=(r,x):=by
     rcases mem_cons.mp h with z | z
     ·exact z.symm
     ·exact absurd (mem_map.mpr ⟨(r,x),z,rfl⟩) (by rw [← e] ; exact hn.1)
    subst this
    simp
   ·have hne:((fun kv:Key × V=>decide (kv.1=Sum.inl (r:Int))) ∘ fun x=>((Sum.inl (x.1:Int):Key),V.int x.2)) a=false:=by
     refine decide_eq_false fun z=>e ?_
     have:=Sum.inl.inj z
     omega
    rw [hne]
    exact ih hn.2 ((mem_cons.mp h).resolve_left fun z=>e (by rw [← z]))
 rw [this]
 rfl
theorem iY (ds:List FR):∀ n,((lh ds n).map (·.1)).Nodup
 | 0=>List.nodup_nil
 | n + 1=>by
  rw [jL,map_append,nodup_append]
  refine ⟨iY ds n,?_,fun a ha b hb e=>?_⟩
  ·cases jw ds n <;> simp
  ·obtain ⟨x,hx,rfl⟩:=mem_map.mp ha
   obtain ⟨y,hy,rfl⟩:=mem_map.mp hb
   have h1:=tZ hx
   have h2:y ∈ lh ds (n + 1):=by rw [jL]; exact List.mem_append_right _ hy
   have h3:y.1=n:=by
    rw [Option.mem_toList] at hy
    unfold jw at hy
    split at hy
    ·split at hy
     ·cases hy; rfl
     ·cases hy
    ·cases hy
   omega
def Qc (ds:List FR):Prop:=∀ d ∈ ds,d.ts.length ≤ 16∧∀ t ∈ d.ts,0 ≤ t∧t < ds.length
section
variable {P:Program} {w:World} {K:Frag} {mg:Str→Option Value} {base:Heap}
def nW:Sp:=fun vs H Q _=>∃ (lr:Addr) (ds:List FR),vs=[.ref lr]∧cW H lr ds∧Qc ds∧ds.length ≤ 100000∧∀ (p:Addr) (H':Hp),Same H H'→H p=none→H' p=some (.dK (eK (lh ds ds.length)))→Q (.ref p) H'
theorem vo:aI ["rows", "begins", "distances", "r", "row"] ["rows"] (aj iT):=⟨rfl,rfl,rfl,by decide +kernel,rfl,by decide +kernel,by decide +kernel⟩
theorem w4 {f fB fJ fD:Addr} {fd zq Eo KG:FuncData} (F:dj K "short_distances" "short_distances" iT f fd) (T:Txt K w.params mg) (GB:aL P w K mg base cg 3 fB zq ["rows"] nV) (kB:KI K fB) (bB:Binds K zq ["rows"] []) (mB:mg "begins_of" = some (.ref fB)) (GJ:aL P w K mg base cg 2 fJ Eo ["row"] zc) (kJ:KI K fJ) (bJ:Binds K Eo ["row"] []) (mJ:mg "is_short_jump" = some (.ref fJ)) (GD:aL P w K mg base cg 2 fD KG ["rows", "begins", "r"] qO) (kD:KI K fD) (bD:Binds K KG ["rows", "begins", "r"] []) (mD:mg "distances_of" = some (.ref fD)):aL P w K mg base cg 4 f fd ["rows"] nW:=by
 refine F.ok vo (fun vs H Q E h=>?_) (fun cdv A outer s H vs Q E hr h=>?_)
 ·obtain ⟨lr,ds,rfl,_⟩:=h
  rfl
 ·obtain ⟨lr,ds,rfl,hR,hT,hn,k⟩:=h
  have KH:=hr.mono (show 3 ≤ _ by decide)
  have Qd:=hr.mono (show 2 ≤ _ by decide)
  have hu:=hr.u 1
  refine ⟨_,(aD (aW (i:=1) vo.nd rfl (Or.inl rfl) (aM GB KH (by rfl) mB kB bB .nil aZ (ah (pv 0) ao)))
   (aD (aW (i:=2) vo.nd rfl (Or.inl rfl) hZ)
   (aD (df PassesOwn.never rfl (gH rfl T.enum (ah (pv 0) ao)) (gM (K:=K) (i:=3) (j:=4) rfl rfl vo.nd rfl (Or.inl rfl) rfl (Or.inl rfl)) (au (cV (eR (aM GJ Qd (by rfl) mJ kJ bJ .nil aZ (ah (pv 4) ao))) (au (fq hu (pv 2) (pv 3) (aJ aT (aM GD Qd (by rfl) mD kD bD .nil aZ (ah (pv 0) (ah (pv 1) (ah (pv 3) ao)))) ak (fun _ _=>rfl)) rfl)) aX)))
   (au (aN (pv 2)))))),?_⟩
  refine ⟨_,rfl,lr,ds,rfl,hR,hn,fun lb H1 s1 nlb hb=>?_⟩
  refine fun p np=>?_
  have s2:=s1.trans (ae (o:=.dK []) np)
  have hb2:=ae (o:=.dK []) np _ _ hb
  have hp2:upd H1 p (.dK []) p=some (.dK (eK (lh ds 0))):=ai
  have hp0:H p=none:=s1.free np
  have nbp:lb ≠ p:=fun z=>by rw [z,np] at hb; cases hb
  generalize upd H1 p (.dK [])=H2 at s2 hb2 hp2 ⊢
  obtain ⟨qs,r1,r2,r3⟩:=id hR
  refine ⟨_,rfl,lr,rfl,⟨_,bh.of (s2 _ _ r1)⟩,ia (xs:=qs.map V.ref) (fun i σ G=>i ≤ ds.length∧∃ v3 v4:Option V,σ=[some (.ref lr),some (.ref lb),some (.ref p),v3,v4]∧Same H G∧G lb=some (.lst ((gu ds ds.length).map V.int))∧G p=some (.dK (eK (lh ds i)))) ?_ ?_ ?_ ?_⟩
  ·exact ⟨zero_le _,none,none,rfl,s2,hb2,hp2⟩
  ·rintro i σ G _ ⟨_,v3,v4,rfl,s3,_⟩
   exact bh.of (s3 _ _ r1)
  ·rintro i x σ G tt hx kn ⟨_,v3,v4,rfl,s3,hb3,hp3⟩
   rw [List.getElem?_map] at hx
   obtain ⟨q,hq,rfl⟩:=map_eq_some_iff.mp hx
   have hil:i < ds.length:=by have:=(List.getElem?_eq_some_iff.mp hq).1; omega
   have hd:ds[i]? = some ds[i]:=List.getElem?_eq_getElem hil
   generalize ds[i]=d at hd
   have s4:=s3.trans (ae (o:=.tup [V.int i,V.ref q]) kn)
   have hb4:=ae (o:=.tup [V.int i,V.ref q]) kn _ _ hb3
   have Jp:=ae (o:=.tup [V.int i,V.ref q]) kn _ _ hp3
   have htt:upd G tt (.tup [V.int i,V.ref q]) tt=_:=ai
   generalize upd G tt (.tup [V.int i,V.ref q])=G1 at s4 hb4 Jp htt ⊢
   refine ⟨tt,_,rfl,bq.of htt,rfl,_,_,rfl,_,_,rfl,rfl,?_⟩
   refine ⟨_,rfl,q,d,rfl,(r3 i q d hq hd).same s4,_,rfl,?_⟩
   refine cC (fun e=>?_) (fun e=>?_)
   ·have Jq:d.u ∈ five:=by
     unfold aV at e
     rw [Bool.and_eq_true] at e
     exact of_decide_eq_true e.1
    obtain ⟨_,_,_,t,t9,_⟩:=cX (r3 i q d hq hd) Jq
    obtain ⟨RD,Qe⟩:=hT d (List.mem_of_getElem? hd)
    refine ⟨_,rfl,_,rfl,_,rfl,lr,lb,ds,i,d,rfl,hR.same s4,hb4,hd,Qe,RD,fun l G2 s5 nl hl=>?_⟩
    refine ⟨l,_,0,.int (dst ds i d),rfl,rfl,bh.of hl,by unfold dst; rw [t9]; rfl,_,rfl,_,rfl,p,_,rfl,.inl ⟨_,Sum.inl (i:Int),s5 _ _ Jp,rfl,?_,rfl⟩,?_⟩
    ·unfold eK
     rw [length_map]
     exact bj (le_trans (vn ds i) (by omega))
    ·refine ⟨hil,_,_,rfl,aR (s4.trans s5) hp0,by rw [aq nbp]; exact s5 _ _ hb4,?_⟩
     rw [ai,zm (fun y hy z=>absurd (tZ hy) (by omega)),jL]
     unfold jw
     rw [hd]
     simp only [e,if_true]
     rfl
   ·refine ⟨hil,_,_,rfl,s4,hb4,?_⟩
    rw [Jp,jL]
    unfold jw
    rw [hd]
    show some (HO.dK (eK (lh ds i)))=some (HO.dK (eK (lh ds i ++ (if aV d=true then some (i,dst ds i d) else none).toList)))
    rw [if_neg e,Option.toList_none,append_nil]
  ·rintro σ G ⟨_,v3,v4,rfl,s3,_,hp3⟩
   rw [length_map,r2] at hp3
   exact ⟨_,rfl,k p _ s3 hp0 hp3⟩
end
def gN (ds:List FR):Option Nat:=((lh ds ds.length).find? fun x=>!bf x.2).map (·.1)
section
variable {P:Program} {w:World} {K:Frag} {mg:Str→Option Value} {base:Heap}
def sh (vp:Addr):Sp:=fun vs H Q E=>∃ (lr:Addr) (ds:List FR),vs=[.ref lr]∧cW H lr ds∧Qc ds∧ds.length ≤ 100000 ∧
 (gN ds=none→∀ H',Same H H'→Q .non H')∧∀ r,gN ds=some r→∀ H' d,Same H H'→H' d=some (.xd [("at",.int (r:Int))])→E (.ref vp) (some d) H'
theorem zr:aI ["rows", "distances", "r"] ["rows"] (aj iU):=⟨rfl,rfl,rfl,by decide +kernel,rfl,by decide +kernel,by decide +kernel⟩
theorem zt {f fS fB vp R fI:Addr} {fd rZ zq KJ:FuncData} (F:dj K "check_layout" "check_layout" iU f fd) (T:Txt K w.params mg) (GS:aL P w K mg base cg 4 fS rZ ["rows"] nW) (kS:KI K fS) (bS:Binds K rZ ["rows"] []) (mS:mg "short_distances" = some (.ref fS)) (GB:aL P w K mg base cg 1 fB zq ["distance"] qN) (kB:KI K fB) (bB:Binds K zq ["distance"] []) (mB:mg "is_borne" = some (.ref fB))
  (cx:jc K vp R fI) (kC:KI K vp) (GI:aL P w K mg base cg 1 fI KJ ["self", "at"] (yH vp)) (bI:Binds K KJ ["self", "at"] []) (RE:mg "NoLayout" = some (.ref vp)):aL P w K mg base (tS P w) 5 f fd ["rows"] (sh vp):=by
 refine F.okX zr (fun vs H Q E h=>?_) (fun cdv A outer s H vs Q E hr h=>?_)
 ·obtain ⟨lr,ds,rfl,_⟩:=h
  rfl
 ·obtain ⟨lr,ds,rfl,hR,hT,hn,k,hE⟩:=h
  have hr2:=hr.mono (show 2 ≤ 4 by decide)
  have KH:=hr.mono (show 1 ≤ 4 by decide)
  have hu:=hr.u 1
  refine ⟨_,(aD (aW (i:=1) zr.nd rfl (Or.inl rfl) (aM GS hr (by rfl) mS kS bS .nil aZ (ah (pv 0) ao)))
   (au (df PassesOwn.leaving rfl (uX (pv 1)) (cu (i:=2) zr.nd rfl (Or.inl rfl)) (au (cV (qp (eR (aM GB KH (by rfl) mB kB bB .nil aZ (ah (lR hu (pv 1) (pv 2) (fun _ _=>rfl)) ao)))) (au (wM cx kC GI bI hr2 RE (by rfl) (ah (pv 2) ao))) aX))))),?_⟩
  refine ⟨_,rfl,lr,ds,rfl,hR,hT,hn,fun p H1 s1 np hp=>?_⟩
  refine ⟨_,rfl,p,_,rfl,hp,fun o nf=>?_⟩
  refine yv (a:=p) (o:=o) (kvs:=eK (lh ds ds.length)) (fun i σ G=>(∃ v:Option V,σ=[some (.ref lr),some (.ref p),v])∧Same H G∧G p=some (.iL o (.dK (eK (lh ds ds.length))))∧∀ (j:Nat) x,j < i→(lh ds ds.length)[j]? = some x→bf x.2=true) ?_ ?_ ?_ ?_
  ·exact ⟨⟨none,rfl⟩,aR s1 np,ai,fun j x hj=>absurd hj (Nat.not_lt_zero _)⟩
  ·rintro i σ G _ ⟨_,_,h,_⟩
   exact h
  ·rintro i ky y σ G hx ⟨⟨v,rfl⟩,s2,hp2,hb⟩
   unfold eK at hx
   rw [List.getElem?_map] at hx
   obtain ⟨⟨r,x⟩,hx0,e⟩:=map_eq_some_iff.mp hx
   cases e
   have hrx:r < ds.length:=tZ (List.mem_of_getElem? hx0)
   have rd:=sd (iY ds ds.length) (List.mem_of_getElem? hx0)
   refine ⟨_,rfl,_,rfl,p,.int x,rfl,.inl ⟨_,Sum.inl (r:Int),.inr ⟨_,hp2⟩,rfl,rd.symm⟩,x,rfl,_,rfl,?_⟩
   refine cC (fun e=>?_) (fun e=>?_)
   ·refine ⟨_,rfl,_,rfl,by omega,fun dd nd=>hE r ?_ _ dd (s2.trans (ae nd)) ai⟩
    unfold gN
    have:(lh ds ds.length).find? (fun x=>!bf x.2)=some (r,x):=by
     rw [List.find?_eq_some_iff_getElem]
     obtain ⟨hi,ei⟩:=List.getElem?_eq_some_iff.mp hx0
     refine ⟨e,i,hi,ei,fun j hj=>?_⟩
     have:=hb j _ hj (List.getElem?_eq_getElem (by omega))
     rw [this]
     rfl
    rw [this]
    rfl
   ·refine ⟨⟨_,rfl⟩,s2,hp2,fun j y hj hy=>?_⟩
    rcases Nat.lt_or_eq_of_le (Nat.le_of_lt_succ hj) with z | z
    ·exact hb j y z hy
    ·rw [z,hx0] at hy
     cases hy
     simpa using e
  ·rintro σ G ⟨⟨v,rfl⟩,s2,hp2,hb⟩
   refine k ?_ _ s2
   unfold gN
   rw [Option.map_eq_none_iff,find?_eq_none]
   intro x hx
   obtain ⟨j,hj,e⟩:=List.getElem_of_mem hx
   have:=hb j x (by unfold eK; rw [length_map]; exact hj) (by rw [List.getElem?_eq_getElem hj,e])
   rw [this]
   decide
end
theorem cy {X:Cx}:iN X (binaryOp .FloorDiv) (rI (fun _ j=>0 < j∧j < 18446744073709551616) fun i j=>.int (i / j)):=Ji fun i j _ _ _ _ _ hc q=>by
 have h1:(0:Int) < j:=hc.1
 have h2:j < 18446744073709551616:=hc.2
 refine PyProof.Rows.floordiv_int (by omega) (by rw [Int.fdiv_eq_ediv_of_nonneg i (by omega)]; exact q) (.inl (PyProof.noPylong_of_log2 ?_))
 have h3:j.natAbs.log2 < 64:=(Nat.log2_lt (by omega)).mpr (by omega)
 omega
theorem zu (xs:List V) (n:Nat):jb xs none (some (n:Int))=xs.take n:=by
 unfold jb
 have h1:HT.dN xs.length 0 none=0:=rfl
 have h2:HT.dN xs.length xs.length (some (n:Int))=min n xs.length:=HT.qv ..
 rw [h1,h2,List.drop_zero,Nat.sub_zero]
 rcases Nat.le_total n xs.length with h | h
 ·rw [Nat.min_eq_left h]
 ·rw [Nat.min_eq_right h,take_length,take_of_length_le h]
section
variable {P:Program} {w:World} {K:Frag} {mg:Str→Option Value} {base:Heap}
def zv:Sp:=fun vs H Q _=>∃ (a:Addr) (ns:List Int) (k:Int),vs=[.ref a,.int k]∧bh K H a (ns.map V.int)∧0 ≤ k∧∀ c:Int,Q (.int c) H
theorem Gx:aI ["_law_script", "_law_k"] ["_law_script", "_law_k"] (aj pL):=⟨rfl,rfl,rfl,by decide +kernel,rfl,by decide +kernel,by decide +kernel⟩
theorem Cj {f:Addr} {fd:FuncData} (F:dj K "_law_cell_at" "_law_cell_at" pL f fd) (T:Txt K w.params mg):aL P w K mg base cg 1 f fd ["_law_script", "_law_k"] (zv (K:=K)):=by
 refine F.ok Gx (fun vs H Q E h=>?_) (fun cdv A outer s H vs Q E hr h=>?_)
 ·obtain ⟨a,ns,k,rfl,_⟩:=h
  rfl
 ·obtain ⟨a,ns,k,rfl,hS,hk,q⟩:=h
  refine ⟨_,aD (cV (aS oZ (pv 1) (bu aY (by rfl) T.len cT (ah (pv 0) ao)) (bz _)) (au (aN (aJ aT (pv 0) (pv 1) (fun _ _=>rfl)))) aX)
   (au (aN ak)),?_⟩
  refine ⟨_,rfl,_,rfl,a,_,rfl,.inl hS,_,_,rfl,rfl,_,rfl,?_⟩
  refine cC (fun h1=>?_) (fun h1=>?_)
  ·have h1:=of_decide_eq_true h1
   rw [length_map] at h1
   obtain ⟨j,rfl⟩:=Int.eq_ofNat_of_zero_le hk
   have hj:j < ns.length:=by omega
   refine ⟨_,rfl,_,rfl,a,_,_,.int ns[j],rfl,rfl,hS,cL (j:=j) ?_,q _⟩
   rw [List.getElem?_map,List.getElem?_eq_getElem hj]
   rfl
  ·exact q 0
def si:Sp:=fun vs H Q _=>∃ (c:Int) (n:Nat),vs=[.int c,.int (n:Int)]∧n ≤ 10000∧∀ (l:Addr) (ms:List Int) (H':Hp),Same H H'→H l=none→H' l=some (.lst (ms.map V.int))→ms.length=n→(∀ x ∈ ms,0 ≤ x)→Q (.ref l) H'
theorem lq:aI ["_law_cell", "_law_many", "_law_found", "_law_number", "_law_k"] ["_law_cell", "_law_many"] (aj iW):=⟨rfl,rfl,rfl,by decide +kernel,rfl,by decide +kernel,by decide +kernel⟩
theorem w6 {f:Addr} {fd:FuncData} (F:dj K "_law_stream" "_law_stream" iW f fd) (T:Txt K w.params mg):aL P w K mg base cg 1 f fd ["_law_cell", "_law_many"] si:=by
 refine F.ok lq (fun vs H Q E h=>?_) (fun cdv A outer s H vs Q E hr h=>?_)
 ·obtain ⟨c,n,rfl,_⟩:=h
  rfl
 ·obtain ⟨c,n,rfl,hn,k⟩:=h
  refine dM (aw (aK (aW (i:=2) lq.nd rfl (Or.inl rfl) (ck ao)))
   (aw (aK (aW (i:=3) lq.nd rfl (Or.inl rfl) (aG cy (pv 0) ak)))
   (yB (aK (rn PassesOwn.never (jY (aS d7 (aG bV (pv 0) ak) ak (bz _)) (jY (aS rB (pv 3) ak (bz _)) (lO (aS oZ (bu aY (by rfl) T.len cT (ah (pv 2) ao)) (pv 1) (bz _))))).pt (aD (bQ (dR PySem.F.plainAttrs_list PySem.F.slot_list_append PySem.F.type_list_append bZ (pv 2) (ah (aG bV (pv 3) (aG sS ak ak)) ao)))
   (au (aW (i:=3) lq.nd rfl (Or.inl rfl) (aG cy (pv 3) (aG sS ak ak)))))))
   (aw (aK (aW (i:=3) lq.nd rfl (Or.inl rfl) (aG bV (aG jZ (aG cm (aG cy (pv 0) ak) ak) ak) ak)))
   (aw (aK (df PassesOwn.never rfl (dQ rfl T.range (ah (pv 1) ao)) (cu (i:=4) lq.nd rfl (Or.inl rfl)) (aD (aW (i:=3) lq.nd rfl (Or.inl rfl) (aG bV (aG jZ (pv 3) (aG cm (aG cm (aG cy (pv 3) ak) ak) (pv 4))) ak))
   (aD (bQ (dR PySem.F.plainAttrs_list PySem.F.slot_list_append PySem.F.type_list_append bZ (pv 2) (ah (aG bV (aG jZ (pv 3) (aG cm (aG cy (pv 3) ak) ak)) ak) ao)))
   (au (aW (i:=3) lq.nd rfl (Or.inl rfl) (aG cm (pv 3) ak)))))))
   (aU (aK (aN (eG BG (pv 2) fh (fj (pv 1))))))))))) ?_
  refine ⟨le_of_ble_eq_true rfl,fun l nl=>?_⟩
  have s0:=ae (o:=.lst []) nl
  have h0:upd H l (.lst []) l=some (.lst (([]:List Int).map V.int)):=ai
  generalize upd H l (.lst [])=G0 at s0 h0 ⊢
  refine ⟨_,rfl,_,_,rfl,rfl,⟨by show (0:Int) < 2; decide,by show (2:Int) < _; decide⟩,?_⟩
  have cp:Bw 10 9:=⟨by decide,by decide,by decide⟩
  refine ⟨fun σ G=>∃ (x:Int) (ms:List Int),σ=[some (.int c),some (.int (n:Int)),some (.ref l),some (.int x),none]∧Same H G∧G l=some (.lst (ms.map V.int))∧(∀ y ∈ ms,0 ≤ y)∧ms.length ≤ n,?_,?_⟩
  ·refine ⟨fun mm σ G=>∃ (x:Int) (ms:List Int),σ=[some (.int c),some (.int (n:Int)),some (.ref l),some (.int x),none]∧Same H G∧G l=some (.lst (ms.map V.int))∧(∀ y ∈ ms,0 ≤ y)∧ms.length ≤ n∧mm=n - ms.length,⟨_,_,[],rfl,s0,h0,fun y hy=>(not_mem_nil hy).elim,zero_le _,rfl⟩,?_⟩
   rintro mm σ G ⟨x,ms,rfl,s1,h1,hp,hl,rfl⟩
   refine ⟨_,rfl,_,_,rfl,rfl,yP,rfl,_,rfl,?_⟩
   refine cC (fun _=>?_) (fun _=>jd (by decide) ⟨x,ms,rfl,s1,h1,hp,hl⟩)
   refine ⟨_,rfl,_,_,rfl,rfl,_,rfl,?_⟩
   refine cC (fun _=>?_) (fun _=>jd (by decide) ⟨x,ms,rfl,s1,h1,hp,hl⟩)
   refine ⟨_,rfl,l,_,rfl,.inl (bh.of h1),_,rfl,_,_,rfl,rfl,_,rfl,?_⟩
   refine cC (fun e=>?_) (fun _=>⟨x,ms,rfl,s1,h1,hp,hl⟩)
   have e:=of_decide_eq_true e
   rw [length_map] at e
   have hlt:ms.length < n:=by omega
   refine ⟨fun σ' G'=>∃ (x':Int) (Ep:List Int),σ'=[some (.int c),some (.int (n:Int)),some (.ref l),some (.int x'),none]∧Same H G'∧G' l=some (.lst (Ep.map V.int))∧(∀ y ∈ Ep,0 ≤ y)∧Ep.length=ms.length + 1,?_,?_⟩
   ·rintro σ' G' ⟨x',Ep,rfl,a1,a2,a3,a4⟩
    exact ⟨n - Ep.length,by omega,x',Ep,rfl,a1,a2,a3,by omega,rfl⟩
   refine ⟨_,rfl,.inl ⟨rfl,_,bh.of h1⟩,_,rfl,_,_,rfl,rfl,cp,_,_,rfl,rfl,(by show (0:Int) < 10 ^ (9:Int).toNat; decide),l,_,_,rfl,rfl,h1,bj (by rw [length_map]; omega),?_⟩
   refine ⟨_,rfl,_,_,rfl,rfl,cp,_,_,rfl,rfl,⟨by show (0:Int) < 10 ^ (9:Int).toNat; decide,by show (10:Int) ^ (9:Int).toNat < 18446744073709551616; decide⟩,?_⟩
   refine ⟨_,ms ++ [x % 10 ^ (9:Int).toNat],rfl,aR s1 nl,by rw [ai,map_append]; rfl,fun y hy=>?_,by rw [length_append]; rfl⟩
   rcases mem_append.mp hy with z | z
   ·exact hp y z
   ·rw [mem_singleton.mp z]
    exact Int.emod_nonneg _ (by decide)
  rintro σ G ⟨x,ms,rfl,s1,h1,hp,hl⟩
  refine ⟨_,rfl,_,_,rfl,rfl,⟨by show (0:Int) < 2; decide,by show (2:Int) < _; decide⟩,_,_,rfl,rfl,_,_,rfl,rfl,.inr ⟨by decide,by decide⟩,_,_,rfl,rfl,jk,?_⟩
  have hx0:0 ≤ (c / 2 + 7919) * 48271 % 2147483647∧(c / 2 + 7919) * 48271 % 2147483647 < 2147483647:=⟨Int.emod_nonneg _ (by decide),Int.emod_lt_of_pos _ (by decide)⟩
  refine ⟨_,rfl,_,rfl,by omega,by omega,?_⟩
  refine d9 (lo:=0) (n:=((n:Nat):Int).toNat) (fun i σ G=>∃ (x:Int) (v:Option V) (ms:List Int),σ=[some (.int c),some (.int (n:Int)),some (.ref l),some (.int x),v]∧0 ≤ x∧x ≤ 2147483647∧Same H G∧G l=some (.lst (ms.map V.int))∧(∀ y ∈ ms,0 ≤ y)∧i ≤ ms.length∧ms.length ≤ n + i) ?_ ?_ ?_
  ·exact ⟨_,none,ms,rfl,hx0.1,Int.le_of_lt hx0.2,s1,h1,hp,zero_le _,by omega⟩
  ·rintro i σ G hi ⟨x,v,ms,rfl,b1,b2,s1,h1,hp,g1,g2⟩
   have e0:(0:Int) + (i:Int)=(i:Int):=by omega
   rw [e0]
   have hin:i < n:=by rw [Int.toNat_natCast] at hi; exact hi
   refine ⟨_,rfl,_,rfl,_,_,rfl,rfl,⟨by show (0:Int) < 1009; decide,by show (1009:Int) < _; decide⟩,_,_,rfl,rfl,_,rfl,_,_,rfl,rfl,_,_,rfl,rfl,.inl ⟨by omega,by omega⟩,_,_,rfl,rfl,jk,?_⟩
   have hy0:0 ≤ x * (x / 1009 + 69621 + (i:Int)) % 2147483647∧x * (x / 1009 + 69621 + (i:Int)) % 2147483647 < 2147483647:=⟨Int.emod_nonneg _ (by decide),Int.emod_lt_of_pos _ (by decide)⟩
   have hy1:x * (x / 1009 + 69621 + (i:Int)) % 2147483647 ≤ 2147483646:=by omega
   refine ⟨_,rfl,.inl ⟨rfl,_,bh.of h1⟩,_,rfl,_,rfl,_,_,rfl,rfl,⟨by show (0:Int) < 127; decide,by show (127:Int) < _; decide⟩,_,_,rfl,rfl,_,_,rfl,rfl,.inl ⟨by show -(2 ^ 64) < (x * (x / 1009 + 69621 + (i:Int)) % 2147483647); omega,by show (x * (x / 1009 + 69621 + (i:Int)) % 2147483647) < 2 ^ 64; omega⟩,_,_,rfl,rfl,oO,l,_,_,rfl,rfl,h1,bj (by rw [length_map]; omega),?_⟩
   have hz0:0 ≤ (x * (x / 1009 + 69621 + (i:Int)) % 2147483647) * ((x * (x / 1009 + 69621 + (i:Int)) % 2147483647) / 127 + 40009) % 2147483629:=Int.emod_nonneg _ (by decide)
   refine ⟨_,rfl,_,_,rfl,rfl,?_⟩
   refine ⟨(x * (x / 1009 + 69621 + (i:Int)) % 2147483647) + 1,_,ms ++ [(x * (x / 1009 + 69621 + (i:Int)) % 2147483647) * ((x * (x / 1009 + 69621 + (i:Int)) % 2147483647) / 127 + 40009) % 2147483629],rfl,by omega,by omega,aR s1 nl,by rw [ai,map_append]; rfl,fun y hy=>?_,by rw [length_append,length_singleton]; omega,by rw [length_append,length_singleton]; omega⟩
   rcases mem_append.mp hy with z | z
   ·exact hp y z
   ·rw [mem_singleton.mp z]
    exact hz0
  ·rintro σ G ⟨x,v,ms,rfl,b1,b2,s1,h1,hp,g1,g2⟩
   rw [Int.toNat_natCast] at g1
   refine ⟨_,rfl,_,rfl,(n:Int),rfl,l,_,rfl,bh.of h1,fun lc nc=>?_⟩
   have ec:jb (ms.map V.int) none (some (n:Int))=(ms.take n).map V.int:=by rw [zu,map_take]
   rw [ec]
   exact k lc (ms.take n) _ (s1.trans (ae nc)) (s1.free nc) ai (by rw [length_take]; omega) fun y hy=>hp y (List.mem_of_mem_take hy)
end
def uc (u:Str):Prop:=u ∈ d8∧¬ u = "table" ∧ ¬ u ∈ eI∧¬ u ∈ zb
instance {u:Str}:Decidable (uc u):=by unfold uc; infer_instance
def ic (n:Nat) (u:Str):Prop:=uc u∧RA u=n
instance {n:Nat} {u:Str}:Decidable (ic n u):=by unfold ic; infer_instance
theorem jM {H:Hp} {q:Addr} {u:Str} {b c:Int} (hu:ic 2 u) (h:H q=some (.tup [.str u,.int b,.int c])):cj H q ⟨u,[b,c],[]⟩ :=
 ⟨⟨hu.1.1,fun z=>absurd z hu.1.2.1,fun z=>absurd z hu.1.2.2.1,fun z=>absurd z hu.1.2.2.2,fun _ _ _=>⟨rfl,hu.2.symm⟩,fun _=>⟨b,c,rfl⟩,fun _=>⟨b,[c],rfl⟩⟩,.inr ⟨hu.1.2.1,h⟩⟩
theorem jN {H:Hp} {q:Addr} {u:Str} {b:Int} (hu:ic 1 u∧¬ u ∈ w2) (h:H q=some (.tup [.str u,.int b])):cj H q ⟨u,[b],[]⟩ :=
 ⟨⟨hu.1.1.1,fun z=>absurd z hu.1.1.2.1,fun z=>absurd z hu.1.1.2.2.1,fun z=>absurd z hu.1.1.2.2.2,fun _ _ _=>⟨rfl,hu.1.2.symm⟩,fun z=>absurd z hu.2,fun _=>⟨b,[],rfl⟩⟩,.inr ⟨hu.1.1.2.1,h⟩⟩
theorem nX {H:Hp} {q:Addr} {u:Str} (hu:ic 0 u∧¬ u ∈ w2∧¬ u ∈ w1) (h:H q=some (.tup [.str u])):cj H q ⟨u,[],[]⟩ :=
 ⟨⟨hu.1.1.1,fun z=>absurd z hu.1.1.2.1,fun z=>absurd z hu.1.1.2.2.1,fun z=>absurd z hu.1.1.2.2.2,fun _ _ _=>⟨rfl,hu.1.2.symm⟩,fun z=>absurd z hu.2.1,fun z=>absurd z hu.2.2⟩,.inr ⟨hu.1.1.2.1,h⟩⟩
theorem jO {H:Hp} {q:Addr} {u:Str} {t f:Int} (hu:u ∈ eI) (h:H q=some (.tup [.str u,.int t,.int f])):cj H q ⟨u,[t,f],[t]⟩:=by
 have hw:=(by decide:∀ u ∈ eI,u ∈ d8∧¬ u = "table" ∧ ¬ u ∈ zb∧¬ u ∈ w2∧¬ u ∈ w1) u hu
 exact ⟨⟨hw.1,fun z=>absurd z hw.2.1,fun _=>⟨t,f,rfl,rfl⟩,fun z=>absurd z hw.2.2.1,fun _ z=>absurd hu z,fun z=>absurd z hw.2.2.2.1,fun z=>absurd z hw.2.2.2.2⟩,.inr ⟨hw.2.1,h⟩⟩
theorem nY {H:Hp} {q:Addr} {u:Str} {b t f:Int} (hu:u ∈ zb) (h:H q=some (.tup [.str u,.int b,.int t,.int f])):cj H q ⟨u,[b,t,f],[t]⟩:=by
 have hw:=(by decide:∀ u ∈ zb,u ∈ d8∧¬ u = "table" ∧ ¬ u ∈ eI∧¬ u ∈ w2) u hu
 exact ⟨⟨hw.1,fun z=>absurd z hw.2.1,fun z=>absurd z hw.2.2.1,fun _=>⟨b,t,f,rfl,rfl⟩,fun _ _ z=>absurd hu z,fun z=>absurd z hw.2.2.2,fun _=>⟨b,_,rfl⟩⟩,.inr ⟨hw.2.1,h⟩⟩
theorem pV {H:Hp} {q p:Addr} {b:Int} {ts:List Int} (h:H q=some (.tup [.str "table",.int b,.ref p])) (hp:H p=some (.tup (ts.map V.int))):cj H q ⟨"table",[b],ts⟩ :=
 ⟨⟨(by decide:("table" : Str) ∈ d8),fun _=>⟨b,rfl⟩,fun z=>absurd z (by decide:¬ ("table" : Str) ∈ eI),fun z=>absurd z (by decide:¬ ("table" : Str) ∈ zb),fun z=>absurd rfl z,fun z=>absurd z (by decide:¬ ("table" : Str) ∈ w2),fun _=>⟨b,[],rfl⟩⟩,.inl ⟨rfl,b,p,rfl,h,hp⟩⟩
def sj (d:FR):Prop:=d.u ∈ five→fQ d=0∨fQ d=1
def Gy (k:Str):Int × Int:=if k = "box" then (0,7) else if k = "value" then (-1000000000,1000000000) else if k = "target" then (0,1000000000) else if k = "far" then (0,1) else (0,1000000)
def vq (k:Str) (v:Int):Prop:=(Gy k).1 ≤ v∧v ≤ (Gy k).2
def gP (d:FR):Prop:=∀ x ∈ (dn d.u).zip d.is,vq x.1 x.2
theorem nZ {u:Str} {ts:List Int}:gP ⟨u,[],ts⟩:=fun x hx=>by
 have hx:x ∈ (dn u).zip ([]:List Int):=hx
 simp at hx
theorem jx {u k1:Str} {r:List Str} {b:Int} {ts:List Int} (h:dn u=k1 :: r) (hb:vq k1 b):gP ⟨u,[b],ts⟩:=fun x hx=>by
 have hx:x ∈ (dn u).zip [b]:=hx
 rw [h] at hx
 rw [show x=(k1,b) by simpa using hx]
 exact hb
theorem ie {u k1 k2:Str} {b c:Int} {ts:List Int} (h:dn u=[k1,k2]) (hb:vq k1 b) (hc:vq k2 c):gP ⟨u,[b,c],ts⟩:=fun x hx=>by
 have hx:x ∈ (dn u).zip [b,c]:=hx
 rw [h] at hx
 rcases (show x=(k1,b)∨x=(k2,c) by simpa using hx) with rfl | rfl
 ·exact hb
 ·exact hc
theorem ud {u k1 k2 k3:Str} {b c e:Int} {ts:List Int} (h:dn u=[k1,k2,k3]) (hb:vq k1 b) (hc:vq k2 c) (he:vq k3 e):gP ⟨u,[b,c,e],ts⟩:=fun x hx=>by
 have hx:x ∈ (dn u).zip [b,c,e]:=hx
 rw [h] at hx
 rcases (show x=(k1,b)∨x=(k2,c)∨x=(k3,e) by simpa using hx) with rfl | rfl | rfl
 ·exact hb
 ·exact hc
 ·exact he
def GoodR (d:FR) (n:Int):Prop:=d.ts.length ≤ 16∧(∀ t ∈ d.ts,0 ≤ t∧t < n)∧sj d∧gP d
theorem kj:∀ u ∈ eI,dn u=(["target", "far"]:List Str):=by decide +kernel
theorem kz:∀ u ∈ zb,dn u=(["box", "target", "far"]:List Str):=by decide +kernel
theorem GoodR.plain {u:Str} {is:List Int} {n:Int} (h:¬ u ∈ five) (hp:gP ⟨u,is,[]⟩):GoodR ⟨u,is,[]⟩ n:=⟨zero_le _,fun t ht=>(not_mem_nil ht).elim,fun z=>absurd z h,hp⟩
theorem w8 (ws:List Str) (d:Int) (h0:0 ≤ d) (h1:d < ws.length):∃ u,u ∈ ws∧kZ (ws.map V.str) d=some (.str u):=by
 obtain ⟨j,rfl⟩:=Int.eq_ofNat_of_zero_le h0
 have hl:j < ws.length:=by omega
 refine ⟨ws[j],List.getElem_mem hl,cL (j:=j) ?_⟩
 rw [List.getElem?_map,List.getElem?_eq_getElem hl]
 rfl
theorem gB (ws:List Int) (d:Int) (h0:0 ≤ d) (h1:d < ws.length):∃ u,u ∈ ws∧kZ (ws.map V.int) d=some (.int u):=by
 obtain ⟨j,rfl⟩:=Int.eq_ofNat_of_zero_le h0
 have hl:j < ws.length:=by omega
 refine ⟨ws[j],List.getElem_mem hl,cL (j:=j) ?_⟩
 rw [List.getElem?_map,List.getElem?_eq_getElem hl]
 rfl
theorem fe (x:Int) {n:Int} (h:0 < n):0 ≤ x % n∧x % n < n:=⟨Int.emod_nonneg _ (by omega),Int.emod_lt_of_pos _ h⟩
theorem Gz (a b:V):jq [] [((Sum.inr "tell" : Key),a),(Sum.inr "halt",b)]=([((Sum.inr "tell" : Key),a),(Sum.inr "halt",b)]:List (Key × V)):=rfl
theorem xc (a b:V):cF [((Sum.inr "tell" : Key),a),(Sum.inr "halt",b)] (Sum.inr "tell")=some a:=rfl
theorem xg (a b:V):cF [((Sum.inr "tell" : Key),a),(Sum.inr "halt",b)] (Sum.inr "halt")=some b:=rfl
theorem xh (a b:V):cF [((Sum.inr "tell" : Key),a),(Sum.inr "halt",b)] (Sum.inr "stop")=none:=rfl
theorem xj (a b:V):cF [((Sum.inr "tell" : Key),a),(Sum.inr "halt",b)] (Sum.inr "back")=none:=rfl
def w20:List Str:=(["set", "more", "copy", "add", "less", "load", "keep", "tell", "see", "put", "take", "jump", "zero"]:List Str) ++ (["below", "call", "mark", "table", "stop", "back", "halt"]:List Str)
section
variable {P:Program} {w:World} {K:Frag} {mg:Str→Option Value} {base:Heap}
def Er:Sp:=fun vs H Q _=>∃ (x n c:Int),vs=[.int x,.int n,.int c]∧0 < n∧n < 1000000∧0 ≤ c∧c ≤ 16∧∀ (p:Addr) (ts:List Int) (H':Hp),Same H H'→H' p=some (.tup (ts.map V.int))→ts.length ≤ 16→(∀ t ∈ ts,0 ≤ t∧t < n)→Q (.ref p) H'
theorem vt:aI ["_law_x", "_law_many", "_law_count", "_law_found", "_law_k"] ["_law_x", "_law_many", "_law_count"] (aj pM):=⟨rfl,rfl,rfl,by decide +kernel,rfl,by decide +kernel,by decide +kernel⟩
theorem GK {f:Addr} {fd:FuncData} (F:dj K "_law_targets" "_law_targets" pM f fd) (T:Txt K w.params mg):aL P w K mg base cg 1 f fd ["_law_x", "_law_many", "_law_count"] Er:=by
 refine F.ok vt (fun vs H Q E h=>?_) (fun cdv A outer s H vs Q E hr h=>?_)
 ·obtain ⟨x,n,c,rfl,_⟩:=h
  rfl
 ·obtain ⟨x,n,c,rfl,hn,hn2,hc,hc2,k⟩:=h
  refine dM (aw (aK (aW (i:=3) vt.nd rfl (Or.inl rfl) (ck ao)))
   (aw (aK (df PassesOwn.never rfl (dQ rfl T.range (ah (pv 2) ao)) (cu (i:=4) vt.nd rfl (Or.inl rfl)) (aD (bQ (dR PySem.F.plainAttrs_list PySem.F.slot_list_append PySem.F.type_list_append bZ (pv 3) (ah (aG bV (pv 0) (pv 1)) ao)))
   (au (aW (i:=0) vt.nd rfl (Or.inl rfl) (aG cy (pv 0) (pv 1)))))))
   (aU (aK (aN (cK jh (by rfl) T.tuple rX (ah (pv 3) ao))))))) ?_
  refine ⟨le_of_ble_eq_true rfl,fun l nl=>?_⟩
  have s0:=ae (o:=.lst []) nl
  have h0:upd H l (.lst []) l=some (.lst (([]:List Int).map V.int)):=ai
  generalize upd H l (.lst [])=G0 at s0 h0 ⊢
  refine ⟨_,rfl,_,rfl,by omega,by omega,?_⟩
  refine d9 (lo:=0) (n:=c.toNat) (fun i σ G=>∃ (x:Int) (v:Option V) (ts:List Int),σ=[some (.int x),some (.int n),some (.int c),some (.ref l),v]∧Same H G∧G l=some (.lst (ts.map V.int))∧(∀ t ∈ ts,0 ≤ t∧t < n)∧ts.length=i) ?_ ?_ ?_
  ·exact ⟨x,none,[],rfl,s0,h0,fun t ht=>(not_mem_nil ht).elim,rfl⟩
  ·rintro i σ G hi ⟨x,v,ts,rfl,s1,h1,hp,hl⟩
   refine ⟨_,rfl,.inl ⟨rfl,_,bh.of h1⟩,_,rfl,_,rfl,_,_,rfl,rfl,hn,l,_,_,rfl,rfl,h1,bj (by rw [length_map]; omega),?_⟩
   refine ⟨_,rfl,_,rfl,_,_,rfl,rfl,⟨hn,by omega⟩,?_⟩
   refine ⟨_,_,ts ++ [x % n],rfl,aR s1 nl,by rw [ai,map_append]; rfl,fun t ht=>?_,by rw [length_append,hl]; rfl⟩
   rcases mem_append.mp ht with z | z
   ·exact hp t z
   ·rw [mem_singleton.mp z]
    exact fe x hn
  ·rintro σ G ⟨x,v,ts,rfl,s1,h1,hp,hl⟩
   refine ⟨_,rfl,l,_,rfl,.inl ⟨bh.of h1,fun t nt=>?_⟩⟩
   exact k t ts _ (s1.trans (ae nt)) ai (by omega) hp
def Es:Sp:=fun vs H Q _=>∃ (x n:Int),vs=[.int x,.int n]∧0 < n∧n < 1000000∧∀ (p:Addr) (d:FR) (H':Hp),Same H H'→cj H' p d→GoodR d n→Q (.ref p) H'
theorem pW:aI ["_law_x", "_law_many", "_law_words", "_law_word", "_law_box", "_law_target"] ["_law_x", "_law_many"] (aj wV):=⟨rfl,rfl,rfl,by decide +kernel,rfl,by decide +kernel,by decide +kernel⟩
theorem GQ {f fT:Addr} {fd zk:FuncData} (F:dj K "_law_row" "_law_row" wV f fd) (T:Txt K w.params mg) (GT:aL P w K mg base cg 1 fT zk ["_law_x", "_law_many", "_law_count"] Er) (kT:KI K fT) (bT:Binds K zk ["_law_x", "_law_many", "_law_count"] []) (mT:mg "_law_targets" = some (.ref fT)):aL P w K mg base cg 2 f fd ["_law_x", "_law_many"] Es:=by
 refine F.ok pW (fun vs H Q E h=>?_) (fun cdv A outer s H vs Q E hr h=>?_)
 ·obtain ⟨x,n,rfl,_⟩:=h
  rfl
 ·obtain ⟨x,n,rfl,hn,hn2,k⟩:=h
  have hu:=hr.u 1
  refine dM (aw (yX (Cd (i:=2) pW.nd rfl (Or.inl rfl) (Ca (.cons az (.cons az (.cons az (.cons az (.cons az (.cons az (.cons az (.cons az (.cons az (.cons az (.cons az (.cons az (.cons az .nil))))))))))))))))
   (aw (aK (aW (i:=3) pW.nd rfl (Or.inl rfl) (aJ aT (aG j4 (pv 2) (vj (.cons az (.cons az (.cons az (.cons az (.cons az (.cons az (.cons az .nil))))))))) (aG bV (pv 0) ak) (fun _ _=>rfl))))
   (aw (aK (aW (i:=4) pW.nd rfl (Or.inl rfl) (aG bV (aG cy (pv 0) ak) ak)))
   (aw (aK (aW (i:=0) pW.nd rfl (Or.inl rfl) (aG cy (pv 0) ak)))
   (aw (aK (aW (i:=5) pW.nd rfl (Or.inl rfl) (aG bV (pv 0) (pv 1))))
   (aw (di (aS cz (pv 3) (bt (ah az (ah az ao))) rfl) (aU (aK (aN (bt (ah (pv 3) (ah (pv 4) (ah (aG jZ (aG gG (aG bV (pv 0) ak) ak) (aJ aT (ck (ah ak (ah ak (ah (aG sS ak ak) ao)))) (aG bV (aG cy (pv 0) ak) ak) (fun _ _=>rfl))) ao))))))) (cw aX))
   (aw (di (aS cz (pv 3) (bt (ah az (ah az (ah az (ah az (ah az ao)))))) rfl) (aU (aK (aN (bt (ah (pv 3) (ah (pv 4) (ah (aG bV (pv 0) ak) ao))))))) (cw aX))
   (aw (di (aS cz (pv 3) (bt (ah az (ah az (ah az ao)))) rfl) (aU (aK (aN (bt (ah (pv 3) (ah (pv 4) (ah (aJ aT (ck (ah (aG bV (pv 0) ak) (ah (aG bV (pv 0) ak) ao))) (aG bV (aG cy (pv 0) ak) ak) (fun _ _=>rfl)) ao))))))) (cw aX))
   (aw (di (aS cz (pv 3) (bt (ah az (ah az (ah az ao)))) rfl) (aU (aK (aN (bt (ah (pv 3) (ah (pv 5) (ah (aG bV (aG cy (pv 0) (pv 1)) ak) ao))))))) (cw aX))
   (aw (di (aS cz (pv 3) (bt (ah az (ah az ao))) rfl) (aU (aK (aN (bt (ah (pv 3) (ah (pv 4) (ah (pv 5) (ah (aG bV (aG cy (pv 0) (pv 1)) ak) ao)))))))) (cw aX))
   (aw (di (aS d7 (pv 3) az (bz _)) (aU (aK (aN (bt (ah (pv 3) (ah (pv 4) (ah (aM GT hr (by rfl) mT kT bT .nil aZ (ah (aG cy (pv 0) ak) (ah (pv 1) (ah (aG cm ak (aG bV (pv 0) ak)) ao)))) ao))))))) (cw aX))
   (aU (aK (aN (ng hu (uS (mV az (bt (ah (pv 3) (ah (pv 4) ao))) (mV az (bt (ah (pv 3) (ah (aG bV (pv 0) ak) ao))) uR)) rfl rfl (cons_ne_nil _ _) (le_of_ble_eq_true rfl)) (pv 3) (bt (ah (pv 3) ao)) ⟨rfl,rfl,rfl,rfl⟩))))))))))))))) ?_
  refine ⟨Kr,fun lw nw=>?_⟩
  have s1:=ae (o:=.lst [V.str "set",V.str "more",V.str "copy",V.str "add",V.str "less",V.str "load",V.str "keep",V.str "tell",V.str "see",V.str "put",V.str "take",V.str "jump",V.str "zero"]) nw
  have h1:upd H lw (.lst [V.str "set",V.str "more",V.str "copy",V.str "add",V.str "less",V.str "load",V.str "keep",V.str "tell",V.str "see",V.str "put",V.str "take",V.str "jump",V.str "zero"]) lw=some (.lst ((["set", "more", "copy", "add", "less", "load", "keep", "tell", "see", "put", "take", "jump", "zero"]:List Str).map V.str)):=ai
  generalize upd H lw (.lst [V.str "set",V.str "more",V.str "copy",V.str "add",V.str "less",V.str "load",V.str "keep",V.str "tell",V.str "see",V.str "put",V.str "take",V.str "jump",V.str "zero"])=G1 at s1 h1 ⊢
  refine ⟨_,rfl,Rx,fun l7 n7=>?_⟩
  have s2:=s1.trans (ae (o:=.lst [V.str "below",V.str "call",V.str "mark",V.str "table",V.str "stop",V.str "back",V.str "halt"]) n7)
  have h12:=ae (o:=.lst [V.str "below",V.str "call",V.str "mark",V.str "table",V.str "stop",V.str "back",V.str "halt"]) n7 _ _ h1
  have h2:upd G1 l7 (.lst [V.str "below",V.str "call",V.str "mark",V.str "table",V.str "stop",V.str "back",V.str "halt"]) l7=some (.lst ((["below", "call", "mark", "table", "stop", "back", "halt"]:List Str).map V.str)):=ai
  generalize upd G1 l7 (.lst [V.str "below",V.str "call",V.str "mark",V.str "table",V.str "stop",V.str "back",V.str "halt"])=G2 at s2 h12 h2 ⊢
  refine ⟨lw,l7,_,_,rfl,rfl,h12,h2,Ks,fun lx nx=>?_⟩
  have s3:=s2.trans (ae (o:=.lst ((["set", "more", "copy", "add", "less", "load", "keep", "tell", "see", "put", "take", "jump", "zero"]:List Str).map V.str ++ (["below", "call", "mark", "table", "stop", "back", "halt"]:List Str).map V.str)) nx)
  have h3:upd G2 lx (.lst ((["set", "more", "copy", "add", "less", "load", "keep", "tell", "see", "put", "take", "jump", "zero"]:List Str).map V.str ++ (["below", "call", "mark", "table", "stop", "back", "halt"]:List Str).map V.str)) lx=some (.lst (w20.map V.str)):=by rw [ai]; unfold w20; rw [map_append]
  generalize upd G2 lx (.lst ((["set", "more", "copy", "add", "less", "load", "keep", "tell", "see", "put", "take", "jump", "zero"]:List Str).map V.str ++ (["below", "call", "mark", "table", "stop", "back", "halt"]:List Str).map V.str))=G3 at s3 h3 ⊢
  obtain ⟨u,KL,hat⟩:=w8 w20 (x % 20) (fe x (by decide)).1 (fe x (by decide)).2
  refine ⟨_,rfl,_,_,rfl,rfl,Kw,lx,_,_,_,rfl,rfl,bh.of h3,hat,?_⟩
  have hall:u ∈ d8:=(by decide +kernel:∀ u ∈ w20,u ∈ d8) u KL
  refine ⟨_,rfl,_,_,rfl,rfl,⟨by show (0:Int) < 20; decide,by show (20:Int) < _; decide⟩,_,_,rfl,rfl,B8,?_⟩
  refine ⟨_,rfl,_,_,rfl,rfl,⟨by show (0:Int) < 160; decide,by show (160:Int) < _; decide⟩,?_⟩
  refine ⟨_,rfl,_,rfl,_,_,rfl,rfl,hn,?_⟩
  have ht:=fe (x / 160) hn
  have hp1:Bw 10 8:=⟨by decide,by decide,by decide⟩
  have m8:=fe (x / 20) (show (0:Int) < 8 by decide)
  have m88:=fe (x / 160) (show (0:Int) < 8 by decide)
  have hbx:vq "box" (x / 20 % 8):=⟨m8.1,show x / 20 % 8 ≤ 7 by omega⟩
  refine ⟨_,rfl,cB,fun t3 xN=>⟨t3,(["set", "more"]:List Str).map V.str,rfl,.inr (bq.of ai),rfl,rfl,_,rfl,?_⟩⟩
  have s4:=s3.trans (ae (o:=.tup [V.str "set",V.str "more"]) xN)
  rw [show inV (.str u) ((["set", "more"]:List Str).map V.str)=decide (u ∈ (["set", "more"]:List Str)) from cO _ _]
  generalize upd G3 t3 (.tup [V.str "set",V.str "more"])=G4 at s4 ⊢
  refine cC (fun e3=>?_) (fun e3=>?_)
  ·have hw:=(by decide +kernel:∀ u ∈ (["set", "more"]:List Str),ic 2 u∧¬ u ∈ five) u (of_decide_eq_true e3)
   obtain ⟨v,RF,hv⟩:=gB [1,1,10 ^ (8:Int).toNat] ((x / 160) / 19 % 3) (fe _ (by decide)).1 (fe _ (by decide)).2
   have h19:=fe (x / 160) (show (0:Int) < 19 by decide)
   refine ⟨_,rfl,_,rfl,_,rfl,_,_,rfl,rfl,Kv,_,_,rfl,rfl,_,_,rfl,rfl,hp1,gk,fun l3 n3=>⟨_,rfl,_,_,rfl,rfl,⟨by show (0:Int) < 19; decide,by show (19:Int) < _; decide⟩,_,_,rfl,rfl,B7,l3,_,_,.int v,rfl,rfl,bh.of (show _=some (.lst (([1,1,10 ^ (8:Int).toNat]:List Int).map V.int)) from ai),hv,_,_,rfl,rfl,.inl ⟨by show -(2 ^ 64) < (x / 160) % 19 - 9; omega,by show (x / 160) % 19 - 9 < 2 ^ 64; omega⟩,gk,fun q nq=>?_⟩⟩
   have RG:vq "value" ((x / 160 % 19 - 9) * v):=by
    rcases (show v=1∨v=100000000 by simpa using RF) with rfl | rfl
    ·exact ⟨show -1000000000 ≤ _ by omega,show _ ≤ 1000000000 by omega⟩
    ·exact ⟨show -1000000000 ≤ _ by omega,show _ ≤ 1000000000 by omega⟩
   exact k q ⟨u,[_,_],[]⟩ _ ((s4.trans (ae n3)).trans (ae nq)) (jM hw.1 ai) (GoodR.plain hw.2 (ie ((by decide +kernel:∀ u ∈ (["set", "more"]:List Str),dn u=(["box", "value"]:List Str)) u (of_decide_eq_true e3)) hbx RG))
  refine ⟨_,rfl,yO,fun t4 nt4=>⟨t4,(["copy", "add", "less", "load", "keep"]:List Str).map V.str,rfl,.inr (bq.of ai),rfl,rfl,_,rfl,?_⟩⟩
  have s5:=s4.trans (ae (o:=.tup [V.str "copy",V.str "add",V.str "less",V.str "load",V.str "keep"]) nt4)
  rw [show inV (.str u) ((["copy", "add", "less", "load", "keep"]:List Str).map V.str)=decide (u ∈ (["copy", "add", "less", "load", "keep"]:List Str)) from cO _ _]
  generalize upd G4 t4 (.tup [V.str "copy",V.str "add",V.str "less",V.str "load",V.str "keep"])=G5 at s5 ⊢
  refine cC (fun e4=>?_) (fun e4=>?_)
  ·have hw:=(by decide +kernel:∀ u ∈ (["copy", "add", "less", "load", "keep"]:List Str),ic 2 u∧¬ u ∈ five) u (of_decide_eq_true e4)
   refine ⟨_,rfl,_,rfl,_,rfl,_,_,rfl,rfl,B8,gk,fun q nq=>?_⟩
   exact k q ⟨u,[_,_],[]⟩ _ (s5.trans (ae nq)) (jM hw.1 ai) (GoodR.plain hw.2 (ie ((by decide +kernel:∀ u ∈ (["copy", "add", "less", "load", "keep"]:List Str),dn u=(["box", "box"]:List Str)) u (of_decide_eq_true e4)) hbx ⟨m88.1,show x / 160 % 8 ≤ 7 by omega⟩))
  refine ⟨_,rfl,gk,fun t5 Ck=>⟨t5,(["see", "put", "take"]:List Str).map V.str,rfl,.inr (bq.of ai),rfl,rfl,_,rfl,?_⟩⟩
  have s6:=s5.trans (ae (o:=.tup [V.str "see",V.str "put",V.str "take"]) Ck)
  rw [show inV (.str u) ((["see", "put", "take"]:List Str).map V.str)=decide (u ∈ (["see", "put", "take"]:List Str)) from cO _ _]
  generalize upd G5 t5 (.tup [V.str "see",V.str "put",V.str "take"])=G6 at s6 ⊢
  refine cC (fun e5=>?_) (fun e5=>?_)
  ·have hw:=(by decide +kernel:∀ u ∈ (["see", "put", "take"]:List Str),ic 2 u∧¬ u ∈ five) u (of_decide_eq_true e5)
   obtain ⟨v,RF,hv⟩:=gB [(x / 160) % 4,(x / 160) % 1000001] ((x / 160) / 4 % 2) (fe _ (by decide)).1 (fe _ (by decide)).2
   refine ⟨_,rfl,_,rfl,_,rfl,_,_,rfl,rfl,yQ,_,rfl,_,_,rfl,rfl,nQ,cB,fun l3 n3=>⟨_,rfl,_,_,rfl,rfl,⟨by show (0:Int) < 4; decide,by show (4:Int) < _; decide⟩,_,_,rfl,rfl,yP,l3,_,_,.int v,rfl,rfl,bh.of (show _=some (.lst (([(x / 160) % 4,(x / 160) % 1000001]:List Int).map V.int)) from ai),hv,gk,fun q nq=>?_⟩⟩
   obtain ⟨k2,ek,hk2⟩:=(by decide +kernel:∀ u ∈ (["see", "put", "take"]:List Str),∃ k ∈ (["number", "aside"]:List Str),dn u=(["box",k]:List Str)) u (of_decide_eq_true e5)
   have RG:vq k2 v:=by
    have hv2:0 ≤ v∧v ≤ 1000000:=by
     have a1:=fe (x / 160) (show (0:Int) < 4 by decide)
     have a2:=fe (x / 160) (show (0:Int) < 1000001 by decide)
     rcases (show v=x / 160 % 4∨v=x / 160 % 1000001 by simpa using RF) with rfl | rfl
     ·omega
     ·omega
    rcases (show k2 = "number" ∨ k2 = "aside" by simpa using ek) with rfl | rfl
    ·exact hv2
    ·exact hv2
   exact k q ⟨u,[_,_],[]⟩ _ ((s6.trans (ae n3)).trans (ae nq)) (jM hw.1 ai) (GoodR.plain hw.2 (ie hk2 hbx RG))
  have h2:(x / 160) / n % 2=0∨(x / 160) / n % 2=1:=by omega
  refine ⟨_,rfl,gk,fun t6 nt6=>⟨t6,(["jump", "call", "mark"]:List Str).map V.str,rfl,.inr (bq.of ai),rfl,rfl,_,rfl,?_⟩⟩
  have s7:=s6.trans (ae (o:=.tup [V.str "jump",V.str "call",V.str "mark"]) nt6)
  rw [show inV (.str u) ((["jump", "call", "mark"]:List Str).map V.str)=decide (u ∈ (["jump", "call", "mark"]:List Str)) from cO _ _]
  generalize upd G6 t6 (.tup [V.str "jump",V.str "call",V.str "mark"])=G7 at s7 ⊢
  refine cC (fun e6=>?_) (fun e6=>?_)
  ·refine ⟨_,rfl,_,rfl,_,rfl,_,rfl,_,_,rfl,rfl,⟨hn,by omega⟩,_,_,rfl,rfl,yP,gk,fun q nq=>?_⟩
   exact k q ⟨u,[_,_],[_]⟩ _ (s7.trans (ae nq)) (jO (of_decide_eq_true e6) ai) ⟨(by show 1 ≤ 16; decide),(fun t ht'=>by rw [mem_singleton.mp ht']; exact ht),fun _=>h2,ie (kj u (of_decide_eq_true e6)) ⟨ht.1,show _ ≤ 1000000000 by omega⟩ ⟨show 0 ≤ _ by omega,show _ ≤ 1 by omega⟩⟩
  refine ⟨_,rfl,cB,fun t7 nt7=>⟨t7,(["zero", "below"]:List Str).map V.str,rfl,.inr (bq.of ai),rfl,rfl,_,rfl,?_⟩⟩
  have s8:=s7.trans (ae (o:=.tup [V.str "zero",V.str "below"]) nt7)
  rw [show inV (.str u) ((["zero", "below"]:List Str).map V.str)=decide (u ∈ (["zero", "below"]:List Str)) from cO _ _]
  generalize upd G7 t7 (.tup [V.str "zero",V.str "below"])=G8 at s8 ⊢
  refine cC (fun e7=>?_) (fun e7=>?_)
  ·refine ⟨_,rfl,_,rfl,_,rfl,_,rfl,_,rfl,_,_,rfl,rfl,⟨hn,by omega⟩,_,_,rfl,rfl,yP,rW,fun q nq=>?_⟩
   exact k q ⟨u,[_,_,_],[_]⟩ _ (s8.trans (ae nq)) (nY (of_decide_eq_true e7) ai) ⟨(by show 1 ≤ 16; decide),(fun t ht'=>by rw [mem_singleton.mp ht']; exact ht),fun _=>h2,ud (kz u (of_decide_eq_true e7)) hbx ⟨ht.1,show _ ≤ 1000000000 by omega⟩ ⟨show 0 ≤ _ by omega,show _ ≤ 1 by omega⟩⟩
  refine ⟨_,rfl,rfl,_,rfl,?_⟩
  refine cC (fun e8=>?_) (fun e8=>?_)
  ·have e8:=strEq e8
   have h4:=fe (x / 160) (show (0:Int) < 4 by decide)
   refine ⟨_,rfl,_,rfl,_,rfl,_,_,rfl,rfl,⟨by show (0:Int) < 4; decide,by show (4:Int) < _; decide⟩,_,rfl,_,rfl,_,_,rfl,rfl,yQ,_,_,rfl,rfl,_,n,_,rfl,hn,hn2,(by show (0:Int) ≤ 1 + (x / 160) % 4; omega),(by show 1 + (x / 160) % 4 ≤ 16; omega),fun p ts G9 s9 hp hl hts=>⟨gk,fun q nq=>?_⟩⟩
   subst e8
   exact k q ⟨"table",[_],ts⟩ _ ((s8.trans s9).trans (ae nq)) (pV ai (ae nq _ _ hp)) ⟨hl,hts,fun z=>absurd z (by show ¬ ("table" : Str) ∈ five; decide),jx (k1 := "box") (r:=["targets"]) rfl hbx⟩
  ·have e8:=pR e8
   refine fun p0 np0=>?_
   have s9:=s8.trans (ae (o:=.dK []) np0)
   have hp9:upd G8 p0 (.dK []) p0=_:=ai
   generalize upd G8 p0 (.dK [])=G9 at s9 hp9 ⊢
   refine ⟨_,rfl,_,rfl,cB,fun t1 sm=>?_⟩
   have a1:=s9.trans (ae (o:=.tup [V.str u,V.int (x / 20 % 8)]) sm)
   have b1:=ae (o:=.tup [V.str u,V.int (x / 20 % 8)]) sm _ _ hp9
   have c1:upd G9 t1 (.tup [V.str u,V.int (x / 20 % 8)]) t1=_:=ai
   generalize upd G9 t1 (.tup [V.str u,V.int (x / 20 % 8)])=X1 at a1 b1 c1 ⊢
   refine ⟨_,rfl,_,rfl,_,_,rfl,rfl,nQ,cB,fun t2 oF=>?_⟩
   have a2:=a1.trans (ae (o:=.tup [V.str u,V.int (x / 160 % 1000001)]) oF)
   have b2:=ae (o:=.tup [V.str u,V.int (x / 160 % 1000001)]) oF _ _ b1
   have c12:=ae (o:=.tup [V.str u,V.int (x / 160 % 1000001)]) oF _ _ c1
   have c2:upd X1 t2 (.tup [V.str u,V.int (x / 160 % 1000001)]) t2=_:=ai
   refine ⟨b2,[(Sum.inr "tell",.ref t1),(Sum.inr "halt",.ref t2)],rfl,(by show 2 ≤ 15; decide),?_⟩
   refine ⟨p0,rfl,.inl ⟨_,.inl ai⟩,_,rfl,_,rfl,fc,fun t3 xN=>?_⟩
   rw [Gz] at xN ⊢
   have hp8:G8 p0=none:=np0
   have a3:Same H (upd (upd X1 t2 (.tup [V.str u,V.int (x / 160 % 1000001)])) p0 (.dK [(Sum.inr "tell",.ref t1),(Sum.inr "halt",.ref t2)])):=aR a2 (s8.free np0)
   refine ⟨_,gW.k (k:=Sum.inr u) (ae xN _ _ ai),?_⟩
   have RH:t1 ≠ p0:=fun z=>by rw [z] at c1; rw [b1] at c1; cases c1
   have tK:t2 ≠ p0:=fun z=>by rw [z] at oF; rw [b1] at oF; cases oF
   have r1:upd (upd X1 t2 (.tup [V.str u,V.int (x / 160 % 1000001)])) p0 (.dK [(Sum.inr "tell",.ref t1),(Sum.inr "halt",.ref t2)]) t1=some (.tup [V.str u,V.int (x / 20 % 8)]):=by rw [aq RH]; exact c12
   have r2:upd (upd X1 t2 (.tup [V.str u,V.int (x / 160 % 1000001)])) p0 (.dK [(Sum.inr "tell",.ref t1),(Sum.inr "halt",.ref t2)]) t2=some (.tup [V.str u,V.int (x / 160 % 1000001)]):=by rw [aq tK]; exact c2
   have a4:=a3.trans (ae (o:=.tup [V.str u]) xN)
   have hcase:=(by decide +kernel:∀ u ∈ w20,¬ u ∈ (["set", "more"]:List Str)→¬ u ∈ (["copy", "add", "less", "load", "keep"]:List Str)→¬ u ∈ (["see", "put", "take"]:List Str)→¬ u ∈ (["jump", "call", "mark"]:List Str)→¬ u ∈ (["zero", "below"]:List Str)→¬ u = "table" → u = "tell" ∨ u = "halt" ∨ u = "stop" ∨ u = "back") u KL (fun z=>e3 (decide_eq_true z)) (fun z=>e4 (decide_eq_true z)) (fun z=>e5 (decide_eq_true z)) (fun z=>e6 (decide_eq_true z)) (fun z=>e7 (decide_eq_true z)) e8
   rcases hcase with rfl | rfl | rfl | rfl
   ·rw [xc]
    exact k t1 ⟨"tell",[_],[]⟩ _ a4 (jN (by decide) (ae xN _ _ r1)) (GoodR.plain (by decide) (jx (k1 := "box") (r:=[]) rfl hbx))
   ·rw [xg]
    exact k t2 ⟨"halt",[_],[]⟩ _ a4 (jN (by decide) (ae xN _ _ r2)) (GoodR.plain (by decide) (jx (k1 := "number") (r:=[]) rfl ⟨(fe (x / 160) (show (0:Int) < 1000001 by decide)).1,show x / 160 % 1000001 ≤ 1000000 by omega⟩))
   ·rw [xh]
    exact k t3 ⟨"stop",[],[]⟩ _ a4 (nX (by decide) ai) (GoodR.plain (by decide) nZ)
   ·rw [xj]
    exact k t3 ⟨"back",[],[]⟩ _ a4 (nX (by decide) ai) (GoodR.plain (by decide) nZ)
end
def GV (K:Frag):List V→Hp→VK→Prop:=fun xs H Q=>∃ p ys,xs=[.ref p]∧((bh K H p ys∧∀ l,H l=none→Q (.ref l) (upd H l (.tup ys)))∨(bq K H p ys∧Q (.ref p) H))
section
variable {P:Program} {w:World} {K:Frag} {mg:Str→Option Value} {base:Heap}
def zx:Sp:=fun vs H Q _=>∃ (p:Addr) (x n:Int) (d:FR),vs=[.ref p,.int x]∧cj H p d∧GoodR d n∧0 < n∧∀ (p:Addr) (d:FR) (H':Hp),Same H H'→cj H' p d→GoodR d n→d.u ∈ dw→Q (.ref p) H'
theorem GZ:aI ["_law_row_here", "_law_x"] ["_law_row_here", "_law_x"] (aj pN):=⟨rfl,rfl,rfl,by decide +kernel,rfl,by decide +kernel,by decide +kernel⟩
theorem Cm {f:Addr} {fd:FuncData} (F:dj K "_law_last" "_law_last" pN f fd) (T:Txt K w.params mg):aL P w K mg base cg 1 f fd ["_law_row_here", "_law_x"] zx:=by
 refine F.ok GZ (fun vs H Q E h=>?_) (fun cdv A outer s H vs Q E hr h=>?_)
 ·obtain ⟨p,x,n,d,rfl,_⟩:=h
  rfl
 ·obtain ⟨p,x,n,d,rfl,hR,hg,hn,k⟩:=h
  obtain ⟨items,i1,_,_,_⟩:=hR.parts
  refine dM (aw (di (aS cz (aJ aO (pv 0) ak (fun _ _=>rfl)) (bt (ah az (ah az (ah az (ah az ao))))) rfl) (aU (aK (aN (pv 0)))) (cw aX))
   (aU (aK (aN (aJ aT (ck (ah (bt (ah az ao)) (ah (bt (ah az ao)) (ah (bt (ah az (ah (aG bV (pv 1) ak) ao))) (ah (bt (ah az (ah ak (ah (aG bV (aG cy (pv 1) ak) ak) ao)))) ao))))) (aG bV (aG cy (pv 1) ak) ak) (fun _ _=>rfl)))))) ?_
  refine ⟨_,rfl,p,_,0,_,rfl,rfl,bq.of i1,at0 _ _,rW,fun t nt=>⟨t,(["stop", "back", "halt", "jump"]:List Str).map V.str,rfl,.inr (bq.of ai),rfl,rfl,_,rfl,?_⟩⟩
  have s0:=ae (o:=.tup [V.str "stop",V.str "back",V.str "halt",V.str "jump"]) nt
  rw [show inV (.str d.u) ((["stop", "back", "halt", "jump"]:List Str).map V.str)=decide (d.u ∈ (["stop", "back", "halt", "jump"]:List Str)) from cO _ _]
  generalize upd H t (.tup [V.str "stop",V.str "back",V.str "halt",V.str "jump"])=G0 at s0 ⊢
  refine cC (fun e=>?_) (fun e=>?_)
  ·exact ⟨_,rfl,k p d _ s0 (hR.same s0) hg (of_decide_eq_true e)⟩
  ·have h2:x / 9 % 2=0∨x / 9 % 2=1:=by omega
   refine ⟨fc,fun t0 RI=>?_⟩
   have s1:=s0.trans (ae (o:=.tup [V.str "stop"]) RI)
   have h01:upd G0 t0 (.tup [V.str "stop"]) t0=_:=ai
   generalize upd G0 t0 (.tup [V.str "stop"])=G1 at s1 h01 ⊢
   refine ⟨fc,fun t1 sm=>?_⟩
   have s2:=s1.trans (ae (o:=.tup [V.str "back"]) sm)
   have h12:upd G1 t1 (.tup [V.str "back"]) t1=_:=ai
   have h02:=ae (o:=.tup [V.str "back"]) sm _ _ h01
   generalize upd G1 t1 (.tup [V.str "back"])=G2 at s2 h02 h12 ⊢
   refine ⟨_,rfl,_,_,rfl,rfl,Ku,cB,fun t2 oF=>?_⟩
   have s3:=s2.trans (ae (o:=.tup [V.str "halt",V.int (x % 9)]) oF)
   have h23:upd G2 t2 (.tup [V.str "halt",V.int (x % 9)]) t2=_:=ai
   have h03:=ae (o:=.tup [V.str "halt",V.int (x % 9)]) oF _ _ h02
   have h13:=ae (o:=.tup [V.str "halt",V.int (x % 9)]) oF _ _ h12
   generalize upd G2 t2 (.tup [V.str "halt",V.int (x % 9)])=G3 at s3 h03 h13 h23 ⊢
   refine ⟨_,rfl,_,_,rfl,rfl,⟨by show (0:Int) < 9; decide,by show (9:Int) < _; decide⟩,_,_,rfl,rfl,yP,gk,fun t3 xN=>?_⟩
   have s4:=s3.trans (ae (o:=.tup [V.str "jump",V.int 0,V.int (x / 9 % 2)]) xN)
   have h34:upd G3 t3 (.tup [V.str "jump",V.int 0,V.int (x / 9 % 2)]) t3=_:=ai
   have h04:=ae (o:=.tup [V.str "jump",V.int 0,V.int (x / 9 % 2)]) xN _ _ h03
   have h14:=ae (o:=.tup [V.str "jump",V.int 0,V.int (x / 9 % 2)]) xN _ _ h13
   have h24:=ae (o:=.tup [V.str "jump",V.int 0,V.int (x / 9 % 2)]) xN _ _ h23
   generalize upd G3 t3 (.tup [V.str "jump",V.int 0,V.int (x / 9 % 2)])=G4 at s4 h04 h14 h24 h34 ⊢
   refine ⟨rW,fun l nl=>?_⟩
   have s5:=s4.trans (ae (o:=.lst [.ref t0,.ref t1,.ref t2,.ref t3]) nl)
   have h6:upd G4 l (.lst [.ref t0,.ref t1,.ref t2,.ref t3]) l=_:=ai
   have h05:=ae (o:=.lst [.ref t0,.ref t1,.ref t2,.ref t3]) nl _ _ h04
   have h15:=ae (o:=.lst [.ref t0,.ref t1,.ref t2,.ref t3]) nl _ _ h14
   have h25:=ae (o:=.lst [.ref t0,.ref t1,.ref t2,.ref t3]) nl _ _ h24
   have h35:=ae (o:=.lst [.ref t0,.ref t1,.ref t2,.ref t3]) nl _ _ h34
   generalize upd G4 l (.lst [.ref t0,.ref t1,.ref t2,.ref t3])=G5 at s5 h6 h05 h15 h25 h35 ⊢
   refine ⟨_,rfl,_,_,rfl,rfl,⟨by show (0:Int) < 20; decide,by show (20:Int) < _; decide⟩,_,_,rfl,rfl,yQ,?_⟩
   have hc:x / 20 % 4=0∨x / 20 % 4=1∨x / 20 % 4=2∨x / 20 % 4=3:=by omega
   rcases hc with hc | hc | hc | hc
   ·exact ⟨l,_,0,_,rfl,congrArg V.int hc,bh.of h6,rfl,k t0 ⟨"stop",[],[]⟩ _ s5 (nX (by decide) h05) (GoodR.plain (by decide) nZ) (by decide:("stop" : Str) ∈ dw)⟩
   ·exact ⟨l,_,1,_,rfl,congrArg V.int hc,bh.of h6,rfl,k t1 ⟨"back",[],[]⟩ _ s5 (nX (by decide) h15) (GoodR.plain (by decide) nZ) (by decide:("back" : Str) ∈ dw)⟩
   ·exact ⟨l,_,2,_,rfl,congrArg V.int hc,bh.of h6,rfl,k t2 ⟨"halt",[_],[]⟩ _ s5 (jN (by decide) h25) (GoodR.plain (by decide) (jx (k1 := "number") (r:=[]) rfl ⟨show 0 ≤ x % 9 by omega,show x % 9 ≤ 1000000 by omega⟩)) (by decide:("halt" : Str) ∈ dw)⟩
   ·exact ⟨l,_,3,_,rfl,congrArg V.int hc,bh.of h6,rfl,k t3 ⟨"jump",[_,_],[_]⟩ _ s5 (jO (by decide) h35) ⟨(by show 1 ≤ 16; decide),(fun t ht=>by rw [mem_singleton.mp ht]; exact ⟨Int.le_refl _,hn⟩),fun _=>h2,ie (k1 := "target") (k2 := "far") rfl ⟨Int.le_refl _,show (0:Int) ≤ 1000000000 by decide⟩ ⟨show 0 ≤ x / 9 % 2 by omega,show x / 9 % 2 ≤ 1 by omega⟩⟩ (by decide:("jump" : Str) ∈ dw)⟩
def zy:Sp:=fun vs H Q _=>∃ (p lf:Addr) (d:FR) (fs:List Int) (m:Int),vs=[.ref p,.ref lf]∧cj H p d∧GoodR d fs.length∧H lf=some (.lst (fs.map V.int))∧(∀ x ∈ fs,0 ≤ x∧x < m)∧m ≤ 1000000∧∀ (p:Addr) (d':FR) (H':Hp),Same H H'→cj H' p d'→GoodR d' m→d'.u=d.u→Q (.ref p) H'
theorem KN:aI ["_law_row_here", "_law_first"] ["_law_row_here", "_law_first"] (aj tV):=⟨rfl,rfl,rfl,by decide +kernel,rfl,by decide +kernel,by decide +kernel⟩
def Cp:Scope:={ kind:=.function,names:=[(".0",.local),("_law_target",.local),("_law_first",.free)],isGenerator:=false,isCoroutine:=false,more:=[] }
theorem vw:dI (aj tV) Cp ["_law_row_here", "_law_first"] ["_law_target", "_law_first"] [none,some 1]:=⟨rfl,by decide +kernel,by decide +kernel,by decide +kernel,by decide +kernel,by decide +kernel⟩
theorem Ha {f:Addr} {fd:FuncData} (F:dj K "_law_led" "_law_led" tV f fd) (T:Txt K w.params mg):aL P w K mg base cg 1 f fd ["_law_row_here", "_law_first"] zy:=by
 refine F.ok KN (fun vs H Q E h=>?_) (fun cdv A outer s H vs Q E hr h=>?_)
 ·obtain ⟨p,lf,d,fs,m,rfl,_⟩:=h
  rfl
 ·obtain ⟨p,lf,d,fs,m,rfl,hR,hg,hf,hfm,hm6,k⟩:=h
  obtain ⟨items,i1,_,i3,_⟩:=hR.parts
  have rd:∀ t:Int,0 ≤ t→t < fs.length→∃ y,kZ (fs.map V.int) t=some (.int y)∧0 ≤ y∧y < m:=fun t h0 h1=>by
   obtain ⟨y,hy,e⟩:=gB fs t h0 h1
   exact ⟨y,e,hfm y hy⟩
  refine dM (aw (di (aS cz (aJ aO (pv 0) ak (fun _ _=>rfl)) (iX (.cons az (.cons az (.cons az (.cons az (.cons az .nil)))))) rfl) (aU (aK (aN (aG lQ (eG jo (pv 0) fh (fj (dX dg ak))) (bt (ah (aJ aT (pv 1) (aJ aO (pv 0) (dX dg ak) (fun _ _=>rfl)) (fun _ _=>rfl)) (ah (aJ aO (pv 0) (dX dg ak) (fun _ _=>rfl)) ao))))))) (cw aX))
   (aw (di (aS d7 (aJ aO (pv 0) ak (fun _ _=>rfl)) az (bz _)) (aU (aK (aN (aG lQ (eG jo (pv 0) fh (fj ak)) (bt (ah (cK (r:=GV K) jh (by rfl) T.tuple rX (ah (eE (N':=["_law_target", "_law_first"]) (fr:=[none,some 1]) vw rfl (Fq (aJ aO (pv 0) ak (fun _ _=>rfl))) (fun C s0 H0 fp=>(cu (i:=0) vw.nd rfl (Or.inl rfl))) (fun C s0 H0 fp=>iO) (fun C s0 H0 fp=>(aJ (r:=rG K) aT (pv 1) (pv 0) (fun _ _=>rfl)))) ao)) ao)))))) (cw aX))
   (aU (aK (aN (pv 0)))))) ?_
  refine ⟨_,rfl,p,_,0,_,rfl,rfl,bq.of i1,at0 _ _,yO,fun t nt=>⟨t,five.map V.str,rfl,.inr (bq.of ai),rfl,rfl,_,rfl,?_⟩⟩
  have s0:=ae (o:=.tup [V.str "jump",V.str "call",V.str "mark",V.str "zero",V.str "below"]) nt
  rw [show inV (.str d.u) (five.map V.str)=decide (d.u ∈ five) from cO _ _]
  generalize upd H t (.tup [V.str "jump",V.str "call",V.str "mark",V.str "zero",V.str "below"])=G0 at s0 ⊢
  refine cC (fun e=>?_) (fun e=>?_)
  ·have e:=of_decide_eq_true e
   obtain ⟨nt',g1,_⟩:=cX hR e
   rcases (by decide +kernel:∀ u ∈ five,u ∈ eI∨u ∈ zb) _ e with z | z
   ·obtain ⟨tt,ff,e1,e2⟩:=hR.1.2.2.1 z
    have ep:H p=some (.tup [V.str d.u,V.int tt,V.int ff]):=by rw [g1,e1]; rfl
    have hff:ff=0∨ff=1:=by
     have:=hg.2.2.1 e
     unfold fQ at this
     rw [e1] at this
     exact this
    obtain ⟨h0,h1⟩:=hg.2.1 tt (by rw [e2]; simp)
    obtain ⟨y,hy,Hb⟩:=rd tt h0 h1
    refine ⟨_,rfl,2,rfl,-2,rfl,p,_,rfl,bq.of (s0 _ _ ep),(fun z=>absurd z.2 (by show ¬ (1:Nat)=3; decide)),fun a na=>?_⟩
    have s1:=s0.trans (ae (o:=.tup [V.str d.u]) na)
    have ha:upd G0 a (.tup [V.str d.u]) a=_:=ai
    refine ⟨_,rfl,_,rfl,_,rfl,p,_,-2,.int tt,rfl,rfl,bq.of (s1 _ _ ep),rfl,lf,_,tt,.int y,rfl,rfl,bh.of (s1 _ _ hf),hy,_,rfl,_,rfl,p,_,-1,.int ff,rfl,rfl,bq.of (s1 _ _ ep),rfl,cB,fun b nb=>?_⟩
    have s2:=s1.trans (ae (o:=.tup [V.int y,V.int ff]) nb)
    refine ⟨a,b,[V.str d.u],_,rfl,rfl,bq.of (ae nb _ _ ha),bq.of ai,cons_ne_nil _ _,gk,fun z=>absurd z (cons_ne_nil _ _),fun _ p' nq=>?_⟩
    exact k p' ⟨d.u,[y,ff],[y]⟩ _ (s2.trans (ae nq)) (jO z ai) ⟨(by show 1 ≤ 16; decide),(fun t ht=>by rw [mem_singleton.mp ht]; exact Hb),fun _=>hff,ie (kj _ z) ⟨Hb.1,show y ≤ 1000000000 by omega⟩ ⟨show 0 ≤ ff by omega,show ff ≤ 1 by omega⟩⟩ rfl
   ·obtain ⟨bb,tt,ff,e1,e2⟩:=hR.1.2.2.2.1 z
    have ep:H p=some (.tup [V.str d.u,V.int bb,V.int tt,V.int ff]):=by rw [g1,e1]; rfl
    have hff:ff=0∨ff=1:=by
     have:=hg.2.2.1 e
     unfold fQ at this
     rw [e1] at this
     exact this
    obtain ⟨h0,h1⟩:=hg.2.1 tt (by rw [e2]; simp)
    obtain ⟨y,hy,Hb⟩:=rd tt h0 h1
    refine ⟨_,rfl,2,rfl,-2,rfl,p,_,rfl,bq.of (s0 _ _ ep),(fun z=>absurd z.2 (by show ¬ (2:Nat)=4; decide)),fun a na=>?_⟩
    have s1:=s0.trans (ae (o:=.tup [V.str d.u,V.int bb]) na)
    have ha:upd G0 a (.tup [V.str d.u,V.int bb]) a=_:=ai
    refine ⟨_,rfl,_,rfl,_,rfl,p,_,-2,.int tt,rfl,rfl,bq.of (s1 _ _ ep),rfl,lf,_,tt,.int y,rfl,rfl,bh.of (s1 _ _ hf),hy,_,rfl,_,rfl,p,_,-1,.int ff,rfl,rfl,bq.of (s1 _ _ ep),rfl,cB,fun b nb=>?_⟩
    have s2:=s1.trans (ae (o:=.tup [V.int y,V.int ff]) nb)
    refine ⟨a,b,[V.str d.u,V.int bb],_,rfl,rfl,bq.of (ae nb _ _ ha),bq.of ai,cons_ne_nil _ _,rW,fun z=>absurd z (cons_ne_nil _ _),fun _ p' nq=>?_⟩
    exact k p' ⟨d.u,[bb,y,ff],[y]⟩ _ (s2.trans (ae nq)) (nY z ai) ⟨(by show 1 ≤ 16; decide),(fun t ht=>by rw [mem_singleton.mp ht]; exact Hb),fun _=>hff,ud (kz _ z) (hg.2.2.2 ("box",bb) (by rw [kz _ z,e1]; simp)) ⟨Hb.1,show y ≤ 1000000000 by omega⟩ ⟨show 0 ≤ ff by omega,show ff ≤ 1 by omega⟩⟩ rfl
  ·have e:¬ d.u ∈ five:=fun z=>e (decide_eq_true z)
   refine ⟨_,rfl,p,_,0,_,rfl,rfl,bq.of (s0 _ _ i1),at0 _ _,rfl,_,rfl,?_⟩
   refine cC (fun e2=>?_) (fun e2=>?_)
   ·have e2:=strEq e2
    obtain ⟨bb,p3,e3,ep,hp3⟩:∃ b p3,d.is=[b]∧H p=some (.tup [.str d.u,.int b,.ref p3])∧H p3=some (.tup (d.ts.map V.int)):=by
     rcases hR.2 with ⟨_,b0,p0,e1,e2',e3⟩ | ⟨z,_⟩
     ·exact ⟨b0,p0,e1,e2',e3⟩
     ·exact absurd e2 z
    refine ⟨_,rfl,2,rfl,p,_,rfl,bq.of (s0 _ _ ep),(fun z=>absurd z.2 (by show ¬ (2:Nat)=3; decide)),fun a na=>?_⟩
    have s1:=s0.trans (ae (o:=.tup [V.str d.u,V.int bb]) na)
    have ha:upd G0 a (.tup [V.str d.u,V.int bb]) a=_:=ai
    have ec:jb [V.str d.u,V.int bb,V.ref p3] none (some 2)=[V.str d.u,V.int bb]:=rfl
    rw [ec]
    generalize upd G0 a (.tup [V.str d.u,V.int bb])=G1 at s1 ha ⊢
    refine ⟨_,rfl,p,_,2,_,rfl,rfl,bq.of (s1 _ _ ep),at2 _ _ _ _,p3,rfl,⟨_,bq.of (s1 _ _ hp3)⟩,fun D nD=>yL (K:=K) (a:=p3) (xs:=d.ts.map V.int) (fun j σ ys G=>∃ (v:Option V) (us:List Int),σ=[v,some (.ref lf)]∧ys=us.map V.int∧us.length=j∧(∀ y ∈ us,0 ≤ y∧y < m)∧Same G1 G∧G D=some (.lst ys)) ?_ ?_ ?_ ?_⟩
    ·exact ⟨none,[],rfl,rfl,rfl,fun y hy=>(not_mem_nil hy).elim,ae nD,ai⟩
    ·rintro j σ ys G _ ⟨v,us,rfl,rfl,_,_,s2,_⟩
     exact bq.of (s2 _ _ (s1 _ _ hp3))
    ·rintro j x σ ys G hx ⟨v,us,rfl,rfl,hl,hu,s2,hD⟩
     rw [List.getElem?_map] at hx
     obtain ⟨tt,htj,rfl⟩:=map_eq_some_iff.mp hx
     have hjl:=(List.getElem?_eq_some_iff.mp htj).1
     obtain ⟨h0,h1⟩:=hg.2.1 tt (List.mem_of_getElem? htj)
     obtain ⟨y,hy,Hb⟩:=rd tt h0 h1
     have RD:=hg.1
     refine ⟨_,rfl,_,rfl,lf,_,tt,.int y,rfl,rfl,bh.of (s2 _ _ (s1 _ _ hf)),hy,hD,bj (by rw [length_map]; omega),_,us ++ [y],rfl,by rw [map_append]; rfl,by rw [length_append,hl]; rfl,fun z hz=>?_,aR s2 nD,ai⟩
     rcases mem_append.mp hz with z' | z'
     ·exact hu z z'
     ·rw [mem_singleton.mp z']; exact Hb
    ·rintro σ ys G ⟨v,us,rfl,rfl,hl,hu,s2,hD⟩
     rw [length_map] at hl
     refine ⟨D,_,rfl,.inl ⟨bh.of hD,fun t2 oF=>?_⟩⟩
     have s3:=s2.trans (ae (o:=.tup (us.map V.int)) oF)
     have h3:upd G t2 (.tup (us.map V.int)) t2=_:=ai
     generalize upd G t2 (.tup (us.map V.int))=G3 at s3 h3 ⊢
     refine ⟨fc,fun b nb=>?_⟩
     have s4:=s3.trans (ae (o:=.tup [V.ref t2]) nb)
     have h4:=ae (o:=.tup [V.ref t2]) nb _ _ h3
     refine ⟨a,b,[V.str d.u,V.int bb],_,rfl,rfl,bq.of (s4 _ _ ha),bq.of ai,cons_ne_nil _ _,gk,fun z=>absurd z (cons_ne_nil _ _),fun _ p' nq=>?_⟩
     have hg16:=hg.1
     have hrow:=pV (H:=upd (upd G3 b (.tup [V.ref t2])) p' (.tup ([V.str d.u,V.int bb] ++ [V.ref t2]))) (q:=p') (p:=t2) (b:=bb) (ts:=us) (by rw [ai,e2]; rfl) (ae nq _ _ h4)
     exact k p' ⟨"table",[bb],us⟩ _ ((s1.trans s4).trans (ae nq)) hrow ⟨by show us.length ≤ 16; omega,hu,(fun z=>absurd z (by show ¬ ("table" : Str) ∈ five; decide)),jx (k1 := "box") (r:=["targets"]) rfl (hg.2.2.2 ("box",bb) (by rw [e2,e3,show dn "table" = (["box", "targets"]:List Str) from rfl]; simp))⟩ e2.symm
   ·have e2:=pR e2
    have hts:d.ts=[]:=And.left <| hR.1.2.2.2.2.1 e2 (fun z=>e ((by decide:∀ u ∈ eI,u ∈ five) _ z)) (fun z=>e ((by decide:∀ u ∈ zb,u ∈ five) _ z))
    exact ⟨_,rfl,k p d _ s0 (hR.same s0) ⟨hg.1,fun t ht=>(by rw [hts] at ht; cases ht),(fun z=>absurd z e),hg.2.2.2⟩ rfl⟩
end
theorem cj.put {H:Hp} {q l:Addr} {d:FR} {xs:List V} {o:HO} (h:cj H q d) (hl:H l=some (.lst xs)):cj (upd H l o) q d:=by
 have ne:∀ (a:Addr) (ys:List V),H a=some (.tup ys)→a ≠ l:=fun a ys e z=>by rw [z,hl] at e; cases e
 refine ⟨h.1,?_⟩
 rcases h.2 with ⟨a,b,p,e,h1,h2⟩ | ⟨a,h1⟩
 ·exact .inl ⟨a,b,p,e,by rw [aq (ne _ _ h1)]; exact h1,by rw [aq (ne _ _ h2)]; exact h2⟩
 ·exact .inr ⟨a,by rw [aq (ne _ _ h1)]; exact h1⟩
def cZ (G:Hp) (qs:List Addr) (n:Int):Prop:=∀ q ∈ qs,∃ d,cj G q d∧GoodR d n
theorem cZ.same {G G':Hp} {qs:List Addr} {n:Int} (h:cZ G qs n) (s:Same G G'):cZ G' qs n:=fun q hq=>by
 obtain ⟨d,a,b⟩:=h q hq
 exact ⟨d,a.same s,b⟩
theorem cZ.put {G:Hp} {qs:List Addr} {n:Int} {l:Addr} {xs:List V} {o:HO} (h:cZ G qs n) (hl:G l=some (.lst xs)):cZ (upd G l o) qs n:=fun q hq=>by
 obtain ⟨d,a,b⟩:=h q hq
 exact ⟨d,a.put hl,b⟩
theorem cZ.app {G:Hp} {qs rs:List Addr} {n:Int} (h:cZ G qs n) (h':cZ G rs n):cZ G (qs ++ rs) n:=fun q hq=>(mem_append.mp hq).elim (h q) (h' q)
theorem cZ.one {G:Hp} {q:Addr} {d:FR} {n:Int} (h:cj G q d) (g:GoodR d n) (c:Nat):cZ G (replicate c q) n:=fun x hx=>by
 rw [List.eq_of_mem_replicate hx]
 exact ⟨d,h,g⟩
def Et (G:Hp) (qs:List Addr):Prop:=∃ (q:Addr) (d:FR),qs.getLast? = some q∧cj G q d∧d.u ∈ dw
theorem cj.vx {H:Hp} {q:Addr} {d e:FR} (h:cj H q d) (g:cj H q e):d.u=e.u:=by
 obtain ⟨_,a,_⟩:=h.parts
 obtain ⟨_,b,_⟩:=g.parts
 rw [a] at b
 exact congrArg (fun o:Option HO=>match o with | some (.tup (.str u :: _))=>u | _ => "") b
theorem lV (c:Nat) (a:Addr):(replicate c [V.ref a]).flatten=(replicate c a).map V.ref:=by
 induction c with
 | zero=>rfl
 | succ c ih=>rw [List.replicate_succ,List.flatten_cons,ih,List.replicate_succ]; rfl
section
variable {P:Program} {w:World} {K:Frag} {mg:Str→Option Value} {base:Heap}
def zA:Sp:=fun vs H Q _=>∃ (lx:Addr) (ms:List Int) (n:Nat),vs=[.ref lx,.int (n:Int)]∧H lx=some (.lst (ms.map V.int))∧2 * n ≤ ms.length∧1 ≤ n∧n ≤ 10∧∀ (l:Addr) (ds:List FR) (H':Hp),Same H H'→H l=none→cW H' l ds→(∀ d ∈ ds,GoodR d ds.length)→(∀ d,ds.getLast? = some d→d.u ∈ dw)→1 ≤ ds.length→ds.length ≤ 500→Q (.ref l) H'
theorem lz:aI ["_law_xs", "_law_many", "_law_first", "_law_rows", "_law_k", "_law_row_here", "_law_y"] ["_law_xs", "_law_many"] (aj nU):=⟨rfl,rfl,rfl,by decide +kernel,rfl,by decide +kernel,by decide +kernel⟩
def Cq:Scope:={ kind:=.function,names:=[(".0",.local),("_law_row_here",.local),("_law_led",.globalImplicit),("_law_first",.free)],isGenerator:=false,isCoroutine:=false,more:=[] }
theorem vy:dI (aj nU) Cq ["_law_xs", "_law_many", "_law_first", "_law_rows", "_law_k", "_law_row_here", "_law_y"] ["_law_row_here", "_law_first"] [none,some 2]:=⟨rfl,by decide +kernel,by decide +kernel,by decide +kernel,by decide +kernel,by decide +kernel⟩
theorem Cr {f fR fL fE:Addr} {fd Eu Ew vz:FuncData} (F:dj K "_law_program" "_law_program" nU f fd) (T:Txt K w.params mg) (GR:aL P w K mg base cg 2 fR Eu ["_law_x", "_law_many"] Es) (kR:KI K fR) (bR:Binds K Eu ["_law_x", "_law_many"] []) (mR:mg "_law_row" = some (.ref fR)) (GL:aL P w K mg base cg 1 fL Ew ["_law_row_here", "_law_x"] zx) (kL:KI K fL) (bL:Binds K Ew ["_law_row_here", "_law_x"] []) (mL:mg "_law_last" = some (.ref fL)) (GE:aL P w K mg base cg 1 fE vz ["_law_row_here", "_law_first"] zy) (kE:KI K fE) (bE:Binds K vz ["_law_row_here", "_law_first"] []) (mE:mg "_law_led" = some (.ref fE)):aL P w K mg base cg 3 f fd ["_law_xs", "_law_many"] zA:=by
 refine F.ok lz (fun vs H Q E h=>?_) (fun cdv A outer s H vs Q E hr h=>?_)
 ·obtain ⟨lx,ms,n,rfl,_⟩:=h
  rfl
 ·obtain ⟨lx,ms,n,rfl,hx,hms,hn1,hn,k⟩:=h
  have hr1:=hr.mono (show 1 ≤ 2 by decide)
  have hn0:(0:Int) < (n:Int):=by omega
  have rd:∀ j:Nat,j < ms.length→∃ x,kZ (ms.map V.int) (j:Int)=some (.int x):=fun j hj=>by
   obtain ⟨x,_,e⟩:=gB ms (j:Int) (by omega) (by omega)
   exact ⟨x,e⟩
  refine dM (aw (aK (aW (i:=2) lz.nd rfl (Or.inr rfl) (ck ao)))
   (aw (aK (aW (i:=3) lz.nd rfl (Or.inl rfl) (ck ao)))
   (aw (aK (df PassesOwn.never rfl (dQ rfl T.range (ah (pv 1) ao)) (cu (i:=4) lz.nd rfl (Or.inl rfl)) (aD (aW (i:=5) lz.nd rfl (Or.inl rfl) (aM GR hr (by rfl) mR kR bR .nil aZ (ah (aJ aT (pv 0) (pv 4) (fun _ _=>rfl)) (ah (pv 1) ao))))
   (uZ (cV (aS d7 (pv 4) (aG gG (pv 1) ak) (bz _)) (au (aW (i:=5) lz.nd rfl (Or.inl rfl) (aM GL hr1 (by rfl) mL kL bL .nil aZ (ah (pv 5) (ah (aJ aT (pv 0) (pv 4) (fun _ _=>rfl)) ao))))) aX)
   (aD (bQ (dR PySem.F.plainAttrs_list PySem.F.slot_list_append PySem.F.type_list_append bZ (pv 2) (ah (bu aY (by rfl) T.len cT (ah (pv 3) ao)) ao)))
   (aD (bQ (dR PySem.F.plainAttrs_list PySem.F.slot_list_append PySem.F.type_list_append bZ (pv 3) (ah (pv 5) ao)))
   (au (cV (aS oZ (pv 4) (aG gG (pv 1) ak) (bz _)) (aD (aW (i:=6) lz.nd rfl (Or.inl rfl) (aJ aT (pv 0) (aG cm (pv 1) (pv 4)) (fun _ _=>rfl)))
   (au (aW (i:=3) lz.nd rfl (Or.inl rfl) (aG j4 (aG j4 (pv 3) (aG qA (ck (ah (bt (ah az (ah ak (ah (pv 4) ao)))) ao)) (aJ aT (ck (ah ak (ah ak (ah (aG bV (pv 6) ak) (ah (aG bV (pv 6) ak) ao))))) (aG bV (aG cy (pv 6) ak) ak) (fun _ _=>rfl)))) (aG qA (ck (ah (bt (ah az (ah ak ao))) ao)) (aG bV (aG cy (pv 6) ak) ak)))))) aX))))))))
   (aU (aK (aN (eE (N':=["_law_row_here", "_law_first"]) (fr:=[none,some 2]) vy rfl (eC (pv 3)) (fun C s0 H0 fp=>(cu (i:=0) vy.nd rfl (Or.inl rfl))) (fun C s0 H0 fp=>iO) (fun C s0 H0 fp=>(aM GE hr1 (by rfl) mE kE bE .nil aZ (ah (pv 0) (ah (pv 1) ao))))))))))) ?_
  refine ⟨le_of_ble_eq_true rfl,fun lf zB=>?_⟩
  have s0:=ae (o:=.lst []) zB
  have h0:upd H lf (.lst []) lf=some (.lst (([]:List Int).map V.int)):=ai
  generalize upd H lf (.lst [])=G0 at s0 h0 ⊢
  refine ⟨le_of_ble_eq_true rfl,fun xl zC=>?_⟩
  have s1:=s0.trans (ae (o:=.lst []) zC)
  have h01:=ae (o:=.lst []) zC _ _ h0
  have h1:upd G0 xl (.lst []) xl=some (.lst (([]:List Addr).map V.ref)):=ai
  have hne0:xl ≠ lf:=fun z=>by rw [z,h0] at zC; cases zC
  have Hd:H xl=none:=s0.free zC
  generalize upd G0 xl (.lst [])=G1 at s1 h01 h1 ⊢
  refine ⟨_,rfl,_,rfl,by omega,by omega,?_⟩
  refine d9 (lo:=0) (n:=((n:Nat):Int).toNat) (fun i σ G=>∃ (la:Addr) (qs:List Addr) (fs:List Int) (v4 v5 v6:Option V),σ=[some (.ref lx),some (.int (n:Int)),some (.ref lf),some (.ref la),v4,v5,v6]∧Same H G∧H la=none∧la ≠ lf∧G lf=some (.lst (fs.map V.int))∧G la=some (.lst (qs.map V.ref))∧fs.length=i∧(∀ x ∈ fs,0 ≤ x∧x < qs.length)∧cZ G qs n∧qs.length ≤ 50 * i∧i ≤ qs.length∧(i=n→Et G qs)) ?_ ?_ ?_
  ·exact ⟨xl,[],[],none,none,none,rfl,s1,Hd,hne0,h01,h1,rfl,fun x hx=>(not_mem_nil hx).elim,fun q hq=>(not_mem_nil hq).elim,zero_le _,zero_le _,fun z=>absurd z (by omega)⟩
  ·rintro i σ G hi ⟨la,qs,fs,v4,v5,v6,rfl,s2,uf,hne,cI,hla,hfl,hfs,hG,hql,hqi,Cu⟩
   have e0:(0:Int) + (i:Int)=(i:Int):=by omega
   rw [e0]
   have hin:i < n:=by rw [Int.toNat_natCast] at hi; exact hi
   obtain ⟨xk,hxk⟩:=rd i (by omega)
   refine ⟨_,rfl,_,rfl,lx,_,_,_,rfl,rfl,bh.of (s2 _ _ hx),hxk,_,rfl,xk,(n:Int),rfl,hn0,by omega,fun p d G2 t1 hp hg=>?_⟩
   refine ⟨fun σ G3=>∃ (p:Addr) (d:FR),σ=[some (.ref lx),some (.int (n:Int)),some (.ref lf),some (.ref la),some (.int (i:Int)),some (.ref p),v6]∧Same G G3∧cj G3 p d∧GoodR d n∧(i + 1=n→d.u ∈ dw),?_,?_⟩
   ·refine ⟨_,rfl,_,rfl,_,_,rfl,rfl,rfl,_,rfl,?_⟩
    refine cC (fun _=>?_) (fun en=>⟨p,d,rfl,t1,hp,hg,fun z=>(en (decide_eq_true (by rw [show (i:Int)=(n:Int) - 1 by omega]))).elim⟩)
    refine ⟨_,rfl,_,rfl,_,rfl,lx,_,_,_,rfl,rfl,bh.of (t1 _ _ (s2 _ _ hx)),hxk,p,xk,(n:Int),d,rfl,hp,hg,hn0,fun p' d' G3 t2 hp' hg' hno=>⟨p',d',rfl,t1.trans t2,hp',hg',fun _=>hno⟩⟩
   rintro σ G3 ⟨p,d,rfl,t2,hp,hg,hno⟩
   have s3:=s2.trans t2
   replace hG:=hG.same t2
   replace cI:=t2 _ _ cI
   replace hla:=t2 _ _ hla
   clear t1 t2
   refine ⟨_,rfl,.inl ⟨rfl,_,bh.of cI⟩,_,rfl,la,_,rfl,.inl (bh.of hla),lf,_,_,rfl,rfl,cI,bj (by rw [length_map]; omega),?_⟩
   have eL:fs.map V.int ++ [V.int ((qs.map V.ref).length:Nat)]=(fs ++ [(qs.length:Int)]).map V.int:=by rw [map_append,length_map]; rfl
   rw [eL]
   replace s3:Same H (upd G3 lf (.lst ((fs ++ [(qs.length:Int)]).map V.int))):=aR s3 zB
   replace hp:cj (upd G3 lf (.lst ((fs ++ [(qs.length:Int)]).map V.int))) p d:=hp.put cI
   replace hG:cZ (upd G3 lf (.lst ((fs ++ [(qs.length:Int)]).map V.int))) qs n:=hG.put cI
   replace hla:upd G3 lf (.lst ((fs ++ [(qs.length:Int)]).map V.int)) la=some (.lst (qs.map V.ref)):=by rw [aq hne]; exact hla
   replace cI:upd G3 lf (.lst ((fs ++ [(qs.length:Int)]).map V.int)) lf=_:=ai
   generalize upd G3 lf (.lst ((fs ++ [(qs.length:Int)]).map V.int))=G4 at s3 hp hG hla cI ⊢
   refine ⟨_,rfl,.inl ⟨rfl,_,bh.of hla⟩,_,rfl,la,_,_,rfl,rfl,hla,bj (by rw [length_map]; omega),?_⟩
   have eQ:qs.map V.ref ++ [V.ref p]=(qs ++ [p]).map V.ref:=by rw [map_append]; rfl
   rw [eQ]
   have Ex:cZ G4 (qs ++ [p]) n:=hG.app fun x hx'=>by rw [mem_singleton.mp hx']; exact ⟨d,hp,hg⟩
   clear hG
   have hG:cZ (upd G4 la (.lst ((qs ++ [p]).map V.ref))) (qs ++ [p]) n:=Ex.put hla
   have Ey:cj (upd G4 la (.lst ((qs ++ [p]).map V.ref))) p d:=hp.put hla
   replace s3:Same H (upd G4 la (.lst ((qs ++ [p]).map V.ref))):=aR s3 uf
   replace cI:upd G4 la (.lst ((qs ++ [p]).map V.ref)) lf=some (.lst ((fs ++ [(qs.length:Int)]).map V.int)):=by rw [aq (Ne.symm hne)]; exact cI
   replace hla:upd G4 la (.lst ((qs ++ [p]).map V.ref)) la=_:=ai
   generalize upd G4 la (.lst ((qs ++ [p]).map V.ref))=G5 at s3 hG hla cI Ey ⊢
   have ug:∀ x ∈ fs ++ [(qs.length:Int)],0 ≤ x∧x < ((qs ++ [p]).length:Nat):=fun x hx'=>by
    rw [length_append,length_singleton]
    rcases mem_append.mp hx' with z | z
    ·have:=hfs x z
     omega
    ·rw [mem_singleton.mp z]
     omega
   have RJ:(qs ++ [p]).length=qs.length + 1:=by simp
   have hfl':(fs ++ [(qs.length:Int)]).length=i + 1:=by simp [hfl]
   clear Ex hp
   refine ⟨_,rfl,_,rfl,_,_,rfl,rfl,_,_,rfl,rfl,_,rfl,?_⟩
   refine cC (fun e=>?_) (fun e=>?_)
   ·have e:=of_decide_eq_true e
    obtain ⟨y,hy⟩:=rd (n + i) (by omega)
    have hy':kZ (ms.map V.int) ((n:Int) + (i:Int))=some (.int y):=by rw [← hy]; congr 1
    refine ⟨_,rfl,_,rfl,_,rfl,_,_,rfl,rfl,lx,_,_,_,rfl,rfl,bh.of (s3 _ _ hx),hy',?_⟩
    obtain ⟨c,hc,RK⟩:=gB [0,0,y % 4,y % 40] (y / 40 % 4) (fe _ (by decide)).1 (fe _ (by decide)).2
    have hc39:0 ≤ c∧c ≤ 39:=by
     simp at hc
     omega
    have he2:=fe (y / 160) (show (0:Int) < 3 by decide)
    refine ⟨_,rfl,_,rfl,gk,fun t1 sm=>?_⟩
    have s4:=s3.trans (ae (o:=.tup [V.str "set",V.int 1,V.int (i:Int)]) sm)
    have Jr:upd G5 t1 (.tup [V.str "set",V.int 1,V.int (i:Int)]) t1=_:=ai
    have cI:=ae (o:=.tup [V.str "set",V.int 1,V.int (i:Int)]) sm _ _ cI
    have hla:=ae (o:=.tup [V.str "set",V.int 1,V.int (i:Int)]) sm _ _ hla
    replace hG:=hG.same (ae (o:=.tup [V.str "set",V.int 1,V.int (i:Int)]) sm)
    generalize upd G5 t1 (.tup [V.str "set",V.int 1,V.int (i:Int)])=G6 at s4 Jr cI hla hG ⊢
    have r1:cj G6 t1 ⟨"set",[1,(i:Int)],[]⟩:=jM (by decide) Jr
    refine ⟨fc,fun l1 xm=>?_⟩
    replace r1:=r1.same (ae (o:=.lst [V.ref t1]) xm)
    have s5:=s4.trans (ae (o:=.lst [V.ref t1]) xm)
    have Cv:upd G6 l1 (.lst [V.ref t1]) l1=_:=ai
    have cI:=ae (o:=.lst [V.ref t1]) xm _ _ cI
    have hla:=ae (o:=.lst [V.ref t1]) xm _ _ hla
    replace hG:=hG.same (ae (o:=.lst [V.ref t1]) xm)
    generalize upd G6 l1 (.lst [V.ref t1])=G7 at s5 Cv r1 cI hla hG ⊢
    refine ⟨_,rfl,_,_,rfl,rfl,yQ,_,rfl,_,_,rfl,rfl,Ky,rW,fun l2 Ez=>?_⟩
    replace r1:=r1.same (ae (o:=.lst [V.int 0,V.int 0,V.int (y % 4),V.int (y % 40)]) Ez)
    have s6:=s5.trans (ae (o:=.lst [V.int 0,V.int 0,V.int (y % 4),V.int (y % 40)]) Ez)
    have zl2:upd G7 l2 (.lst [V.int 0,V.int 0,V.int (y % 4),V.int (y % 40)]) l2=_:=ai
    have cI:=ae (o:=.lst [V.int 0,V.int 0,V.int (y % 4),V.int (y % 40)]) Ez _ _ cI
    have hla:=ae (o:=.lst [V.int 0,V.int 0,V.int (y % 4),V.int (y % 40)]) Ez _ _ hla
    have Cv:=ae (o:=.lst [V.int 0,V.int 0,V.int (y % 4),V.int (y % 40)]) Ez _ _ Cv
    replace hG:=hG.same (ae (o:=.lst [V.int 0,V.int 0,V.int (y % 4),V.int (y % 40)]) Ez)
    generalize upd G7 l2 (.lst [V.int 0,V.int 0,V.int (y % 4),V.int (y % 40)])=G8 at s6 zl2 r1 cI hla Cv hG ⊢
    refine ⟨_,rfl,_,_,rfl,rfl,⟨by show (0:Int) < 40; decide,by show (40:Int) < _; decide⟩,_,_,rfl,rfl,yQ,l2,_,_,.int c,rfl,rfl,bh.of (show G8 l2=some (.lst (([0,0,y % 4,y % 40]:List Int).map V.int)) from zl2),RK,l1,c,_,rfl,rfl,Cv,by omega,by omega,(by show 1 * c.toNat ≤ sizeLine; rw [Nat.one_mul]; exact dD (by omega)),fun l3 zD=>?_⟩
    rw [lV]
    replace r1:=r1.same (ae (o:=.lst ((replicate c.toNat t1).map V.ref)) zD)
    have s7:=s6.trans (ae (o:=.lst ((replicate c.toNat t1).map V.ref)) zD)
    have Js:upd G8 l3 (.lst ((replicate c.toNat t1).map V.ref)) l3=_:=ai
    have cI:=ae (o:=.lst ((replicate c.toNat t1).map V.ref)) zD _ _ cI
    have hla:=ae (o:=.lst ((replicate c.toNat t1).map V.ref)) zD _ _ hla
    replace hG:=hG.same (ae (o:=.lst ((replicate c.toNat t1).map V.ref)) zD)
    generalize upd G8 l3 (.lst ((replicate c.toNat t1).map V.ref))=G9 at s7 Js r1 cI hla hG ⊢
    refine ⟨la,l3,_,_,rfl,rfl,hla,Js,dD (by rw [length_map,length_map,length_replicate]; omega),fun l4 He=>?_⟩
    have e4:(qs ++ [p]).map V.ref ++ (replicate c.toNat t1).map V.ref=(qs ++ [p] ++ replicate c.toNat t1).map V.ref:=by simp only [map_append,append_assoc]
    rw [e4]
    replace hG:=hG.app (cZ.one r1 (GoodR.plain (by decide) (ie (k1 := "box") (k2 := "value") rfl ⟨show (0:Int) ≤ 1 by decide,show (1:Int) ≤ 7 by decide⟩ ⟨show -1000000000 ≤ (i:Int) by omega,show (i:Int) ≤ 1000000000 by omega⟩)) c.toNat)
    clear r1
    have s8:=s7.trans (ae (o:=.lst ((qs ++ [p] ++ replicate c.toNat t1).map V.ref)) He)
    have n9:upd G9 l4 (.lst ((qs ++ [p] ++ replicate c.toNat t1).map V.ref)) l4=_:=ai
    have cI:=ae (o:=.lst ((qs ++ [p] ++ replicate c.toNat t1).map V.ref)) He _ _ cI
    replace hG:=hG.same (ae (o:=.lst ((qs ++ [p] ++ replicate c.toNat t1).map V.ref)) He)
    generalize upd G9 l4 (.lst ((qs ++ [p] ++ replicate c.toNat t1).map V.ref))=Ga at s8 n9 cI hG ⊢
    refine ⟨cB,fun t2 oF=>?_⟩
    have s9:=s8.trans (ae (o:=.tup [V.str "tell",V.int 2]) oF)
    have KO:upd Ga t2 (.tup [V.str "tell",V.int 2]) t2=_:=ai
    have cI:=ae (o:=.tup [V.str "tell",V.int 2]) oF _ _ cI
    have n9:=ae (o:=.tup [V.str "tell",V.int 2]) oF _ _ n9
    replace hG:=hG.same (ae (o:=.tup [V.str "tell",V.int 2]) oF)
    generalize upd Ga t2 (.tup [V.str "tell",V.int 2])=Gb at s9 KO cI n9 hG ⊢
    have r2:cj Gb t2 ⟨"tell",[2],[]⟩:=jN (by decide) KO
    refine ⟨fc,fun l5 zE=>?_⟩
    replace r2:=r2.same (ae (o:=.lst [V.ref t2]) zE)
    have sa:=s9.trans (ae (o:=.lst [V.ref t2]) zE)
    have KP:upd Gb l5 (.lst [V.ref t2]) l5=_:=ai
    have cI:=ae (o:=.lst [V.ref t2]) zE _ _ cI
    have n9:=ae (o:=.lst [V.ref t2]) zE _ _ n9
    replace hG:=hG.same (ae (o:=.lst [V.ref t2]) zE)
    generalize upd Gb l5 (.lst [V.ref t2])=Gc at sa KP r2 cI n9 hG ⊢
    refine ⟨_,rfl,_,_,rfl,rfl,⟨by show (0:Int) < 160; decide,by show (160:Int) < _; decide⟩,_,_,rfl,rfl,B7,l5,_,_,rfl,rfl,KP,(by show -(2 ^ 63) ≤ y / 160 % 3; omega),(by show y / 160 % 3 < 2 ^ 63; omega),(by show 1 * (y / 160 % 3).toNat ≤ sizeLine; rw [Nat.one_mul]; exact dD (by omega)),fun l6 zF=>?_⟩
    rw [lV]
    replace r2:=r2.same (ae (o:=.lst ((replicate (y / 160 % 3).toNat t2).map V.ref)) zF)
    have sb:=sa.trans (ae (o:=.lst ((replicate (y / 160 % 3).toNat t2).map V.ref)) zF)
    have KQ:upd Gc l6 (.lst ((replicate (y / 160 % 3).toNat t2).map V.ref)) l6=_:=ai
    have cI:=ae (o:=.lst ((replicate (y / 160 % 3).toNat t2).map V.ref)) zF _ _ cI
    have n9:=ae (o:=.lst ((replicate (y / 160 % 3).toNat t2).map V.ref)) zF _ _ n9
    replace hG:=hG.same (ae (o:=.lst ((replicate (y / 160 % 3).toNat t2).map V.ref)) zF)
    generalize upd Gc l6 (.lst ((replicate (y / 160 % 3).toNat t2).map V.ref))=Gd at sb KQ r2 cI n9 hG ⊢
    refine ⟨l4,l6,_,_,rfl,rfl,n9,KQ,dD (by rw [length_map,length_map,length_replicate,length_append,length_replicate]; omega),fun l7 xr=>?_⟩
    have e7:(qs ++ [p] ++ replicate c.toNat t1).map V.ref ++ (replicate (y / 160 % 3).toNat t2).map V.ref=(qs ++ [p] ++ replicate c.toNat t1 ++ replicate (y / 160 % 3).toNat t2).map V.ref:=by simp only [map_append,append_assoc]
    rw [e7]
    replace hG:=hG.app (cZ.one r2 (GoodR.plain (by decide) (jx (k1 := "box") (r:=[]) rfl ⟨show (0:Int) ≤ 2 by decide,show (2:Int) ≤ 7 by decide⟩)) (y / 160 % 3).toNat)
    clear r2
    have n7:H l7=none:=sb.free xr
    have RL:l7 ≠ lf:=fun z=>by rw [z,cI] at xr; cases xr
    have sc:=sb.trans (ae (o:=.lst ((qs ++ [p] ++ replicate c.toNat t1 ++ replicate (y / 160 % 3).toNat t2).map V.ref)) xr)
    have KR:upd Gd l7 (.lst ((qs ++ [p] ++ replicate c.toNat t1 ++ replicate (y / 160 % 3).toNat t2).map V.ref)) l7=_:=ai
    have cI:=ae (o:=.lst ((qs ++ [p] ++ replicate c.toNat t1 ++ replicate (y / 160 % 3).toNat t2).map V.ref)) xr _ _ cI
    replace hG:=hG.same (ae (o:=.lst ((qs ++ [p] ++ replicate c.toNat t1 ++ replicate (y / 160 % 3).toNat t2).map V.ref)) xr)
    generalize upd Gd l7 (.lst ((qs ++ [p] ++ replicate c.toNat t1 ++ replicate (y / 160 % 3).toNat t2).map V.ref))=Ge at sc KR cI hG ⊢
    refine ⟨l7,_,fs ++ [(qs.length:Int)],_,_,_,rfl,sc,n7,RL,cI,KR,hfl',fun x hx'=>?_,hG,?_,?_,fun z=>absurd z (by omega)⟩
    ·have:=ug x hx'
     rw [length_append,length_append,length_replicate,length_replicate]
     omega
    ·rw [length_append,length_append,length_replicate,length_replicate]
     omega
    ·rw [length_append,length_append,length_replicate,length_replicate]
     omega
   ·exact ⟨la,_,_,_,_,_,rfl,s3,uf,hne,cI,hla,hfl',ug,hG,by omega,by omega,fun z=>⟨p,d,by simp,Ey,hno z⟩⟩
  ·rintro σ G ⟨la,qs,fs,v4,v5,v6,rfl,s2,uf,hne,cI,hla,hfl,hfs,hG,hql,hqi,Cu⟩
   rw [Int.toNat_natCast] at hfl hql hqi
   refine ⟨_,rfl,la,rfl,⟨_,bh.of hla⟩,fun D nD=>gj (K:=K) (a:=la) (xs:=qs.map V.ref) (fun j σ ys G2=>∃ (v:Option V) (es:List Addr) (dl:List FR),σ=[v,some (.ref lf)]∧ys=es.map V.ref∧es.length=j∧dl.length=j∧(∀ (i:Nat) q d,es[i]? = some q→dl[i]? = some d→cj G2 q d)∧(∀ d ∈ dl,GoodR d qs.length)∧(∀ (i:Nat) q d',qs[i]? = some q→dl[i]? = some d'→∃ d,cj G q d∧d'.u=d.u)∧Same G G2∧G2 D=some (.lst ys)) ?_ ?_ ?_ ?_⟩
   ·exact ⟨none,[],[],rfl,rfl,rfl,rfl,fun i q d h=>by simp at h,(fun d hd=>(not_mem_nil hd).elim),(fun i q d h g=>by simp at g),ae nD,ai⟩
   ·rintro j σ ys G2 _ ⟨v,es,dl,rfl,rfl,_,_,_,_,_,s3,_⟩
    exact bh.of (s3 _ _ hla)
   ·rintro j x σ ys G2 KS ⟨v,es,dl,rfl,rfl,hel,hdl,hrow,hgd,EA,s3,hD⟩
    rw [List.getElem?_map] at KS
    obtain ⟨q,hq,rfl⟩:=map_eq_some_iff.mp KS
    have hjl:=(List.getElem?_eq_some_iff.mp hq).1
    obtain ⟨d0,hd0,hg0⟩:=hG q (List.mem_of_getElem? hq)
    refine ⟨_,rfl,_,rfl,q,lf,d0,fs,(qs.length:Int),rfl,hd0.same s3,by rw [hfl]; exact hg0,s3 _ _ cI,hfs,by omega,fun p' d' G3 s4 hp' hg' RM=>⟨s4 _ _ hD,bj (by rw [length_map]; omega),_,es ++ [p'],dl ++ [d'],rfl,by rw [map_append]; rfl,by rw [length_append,hel]; rfl,by rw [length_append,hdl]; rfl,fun i q' dd g1 g2=>?_,fun dd hdd=>?_,fun i q' dd g1 g2=>?_,aR (s3.trans s4) nD,ai⟩⟩
    ·by_cases hi:i < es.length
     ·rw [List.getElem?_append_left hi] at g1
      rw [List.getElem?_append_left (by omega)] at g2
      exact ((hrow i q' dd g1 g2).same s4).put (s4 _ _ hD)
     ·rw [List.getElem?_append_right (by omega)] at g1
      rw [List.getElem?_append_right (by omega)] at g2
      rw [hel] at g1
      rw [hdl] at g2
      match h9:i - j,g1,g2 with
      | 0,g1,g2 =>
       cases g1
       cases g2
       exact hp'.put (s4 _ _ hD)
    ·rcases mem_append.mp hdd with z | z
     ·exact hgd dd z
     ·rw [mem_singleton.mp z]
      exact hg'
    ·by_cases hi:i < dl.length
     ·rw [List.getElem?_append_left hi] at g2
      exact EA i q' dd g1 g2
     ·rw [List.getElem?_append_right (by omega)] at g2
      match h9:i - dl.length,g2 with
      | 0,g2 =>
       cases g2
       have hi2:i=j:=by omega
       rw [hi2,hq] at g1
       cases g1
       exact ⟨d0,hd0,RM⟩
   ·rintro σ ys G2 ⟨v,es,dl,rfl,rfl,hel,hdl,hrow,hgd,EA,s3,hD⟩
    rw [length_map] at hel hdl
    exact k D dl _ (s2.trans s3) (s2.free nD) ⟨es,hD,by omega,hrow⟩ (fun dd hdd=>by rw [hdl]; exact hgd dd hdd) (fun dd hdd=>by
     obtain ⟨q,d,l1,l2,l3⟩:=Cu (by omega)
     rw [List.getLast?_eq_getElem?] at l1 hdd
     rw [hdl] at hdd
     obtain ⟨d2,l4,l5⟩:=EA _ q dd l1 hdd
     rw [l5,l4.vx l2]
     exact l3) (by omega) (by omega)
end
def Bx (b:Int):Prop:=0 ≤ b∧b < 8
abbrev xt:Stmt:=top 30
abbrev iZ:Stmt:=top 52
theorem cY:∀ (ns:List Str) (vs:List V) (i:Nat) (x:Str),ns.Nodup→ns[i]? = some x→(ns.zip vs).lookup x=vs[i]?
 | [],_,i,x,_,h=>by simp at h
 | n :: ns,[],i,x,_,h=>by simp
 | n :: ns,v :: vs,0,x,_,h=>by
  have e:n=x:=by simpa using h
  subst e
  rw [zip_cons_cons,List.lookup_cons_self]
  rfl
 | n :: ns,v :: vs,i + 1,x,hn,h=>by
  have hn':=nodup_cons.mp hn
  have hm:x ∈ ns:=List.mem_of_getElem? (by simpa using h)
  have ne:¬ x=n:=fun e=>hn'.1 (e ▸ hm)
  rw [zip_cons_cons,List.lookup_cons,show (x == n)=false from beq_eq_false_iff_ne.mpr ne]
  exact cY ns vs i x hn'.2 (by simpa using h)
theorem vA:∀ (ns:List Str) (vs:List V) (x:Str),¬ x ∈ ns→(ns.zip vs).lookup x=none
 | [],_,_,_=>by simp
 | _ :: _,[],_,_=>by simp
 | n :: ns,v :: vs,x,h=>by
  have ne:¬ x=n:=fun e=>h (by simp [e])
  rw [zip_cons_cons,List.lookup_cons,show (x == n)=false from beq_eq_false_iff_ne.mpr ne]
  exact vA ns vs x fun z=>h (by simp [z])
theorem lW (y:V):∀ (ns:List Str) (vs:List V) (i:Nat) (x:Str),ns.Nodup→ns[i]? = some x→i < vs.length→dC x y (ns.zip vs)=ns.zip (vs.set i y)
 | [],_,i,x,_,h,_=>by simp at h
 | n :: ns,[],i,x,_,h,l=>by simp at l
 | n :: ns,v :: vs,0,x,_,h,_=>by
  have e:n=x:=by simpa using h
  subst e
  show (if n=n then _ else _)=_
  rw [if_pos rfl]
  rfl
 | n :: ns,v :: vs,i + 1,x,hn,h,l=>by
  have hn':=nodup_cons.mp hn
  have hm:x ∈ ns:=List.mem_of_getElem? (by simpa using h)
  have ne:¬ n=x:=fun e=>hn'.1 (e ▸ hm)
  show (if n=x then _ else (n,v) :: dC x y (ns.zip vs))=_
  rw [if_neg ne,lW y ns vs i x hn'.2 (by simpa using h) (by simpa using l)]
  rfl
theorem d6 (y:V) (x:Str):∀ (ns:List Str) (vs:List V),¬ x ∈ ns→ns.length=vs.length→dC x y (ns.zip vs)=(ns ++ [x]).zip (vs ++ [y])
 | [],[],_,_=>rfl
 | [],_ :: _,_,h=>by simp at h
 | _ :: _,[],_,h=>by simp at h
 | n :: ns,v :: vs,h,l=>by
  have ne:¬ n=x:=fun e=>h (by simp [e])
  show (if n=x then _ else (n,v) :: dC x y (ns.zip vs))=_
  rw [if_neg ne,d6 y x ns vs (fun z=>h (by simp [z])) (by simpa using l)]
  rfl
def names:List Str:=["program", "in_boxes", "in_cells", "in_asides", "rung", "told_numbers", "seen_numbers", "pile", "marks_done", "here", "how_ended"]
theorem cP:names.Nodup:=by decide +kernel
structure MA where
 (dx p1 p2 p3 p4 p5 p6 p7 p8:Addr)
def vals (m:MA) (k:Int) (h w:V):List V:=[.ref m.p1,.ref m.p2,.ref m.p3,.ref m.p4,.ref m.p5,.ref m.p6,.ref m.p7,.ref m.p8,.int k,h,w]
abbrev dW (m:MA) (k:Int) (h w:V):List (Str × V):=names.zip (vals m k h w)
section
variable {m:MA} {k:Int} {h w v:V}
theorem Hf:(dW m k h w).lookup ("program" : Str)=some (V.ref m.p1):=cY names _ 0 _ cP rfl
theorem dy:(dW m k h w).lookup ("in_boxes" : Str)=some (V.ref m.p2):=cY names _ 1 _ cP rfl
theorem uh:(dW m k h w).lookup ("in_cells" : Str)=some (V.ref m.p3):=cY names _ 2 _ cP rfl
theorem zG:(dW m k h w).lookup ("in_asides" : Str)=some (V.ref m.p4):=cY names _ 3 _ cP rfl
theorem Hg:(dW m k h w).lookup ("rung" : Str)=some (V.ref m.p5):=cY names _ 4 _ cP rfl
theorem zH:(dW m k h w).lookup ("told_numbers" : Str)=some (V.ref m.p6):=cY names _ 5 _ cP rfl
theorem zI:(dW m k h w).lookup ("seen_numbers" : Str)=some (V.ref m.p7):=cY names _ 6 _ cP rfl
theorem qP:(dW m k h w).lookup ("pile" : Str)=some (V.ref m.p8):=cY names _ 7 _ cP rfl
theorem Cw:(dW m k h w).lookup ("marks_done" : Str)=some (V.int k):=cY names _ 8 _ cP rfl
theorem oa:(dW m k h w).lookup ("here" : Str)=some h:=cY names _ 9 _ cP rfl
theorem oR {x:Str} (hx:¬ x ∈ names):(dW m k h w).lookup x=none:=vA names _ x hx
theorem ig:dC "here" v (dW m k h w)=dW m k v w:=(lW v names (vals m k h w) 9 _ cP rfl (by show 9 < 11; decide)).trans rfl
theorem KU:dC "how_ended" v (dW m k h w)=dW m k h v:=(lW v names (vals m k h w) 10 _ cP rfl (by show 10 < 11; decide)).trans rfl
theorem Cy {j:Int}:dC "marks_done" (.int j) (dW m k h w)=dW m j h w:=(lW (.int j) names (vals m k h w) 8 _ cP rfl (by show 8 < 11; decide)).trans rfl
theorem jm:(dW m k h w).length < 1000:=by
 show 11 < 1000
 decide
end
def Own (m:MA) (x c:Addr):Prop:=c=x∨c=m.p2∨c=m.p3∨c=m.p4∨c=m.p5∨c=m.p6∨c=m.p7∨c=m.p8
def Fr (m:MA) (x:Addr) (H H':Hp):Prop:=∀ c o,¬ Own m x c→H c=some o→H' c=some o
theorem Fr.refl {m:MA} {x:Addr} {H:Hp}:Fr m x H H:=fun _ _ _ e=>e
theorem Fr.trans {m:MA} {x:Addr} {H H1 H2:Hp} (a:Fr m x H H1) (b:Fr m x H1 H2):Fr m x H H2:=fun c o n e=>b c o n (a c o n e)
theorem Fr.same {m:MA} {x:Addr} {H H1:Hp} (e:Same H H1):Fr m x H H1:=fun c o _ h=>e c o h
theorem Fr.upd {m:MA} {x p:Addr} {H:Hp} {o:HO} (h:Own m x p):Fr m x H (upd H p o):=fun c u n e=>by
 have ne:c ≠ p:=fun z=>n (by rw [z]; exact h)
 rw [aq ne]
 exact e
structure Zt where
 here:V
 how:Option (List V)
 bs:List Int
 cf:Int→Int
 af:Int→Int
 told:List Int
 seen:List (Int × Int)
 pile:List Int
 k:Int
def gS (H:Hp) (v:V):Option (List V)→Prop
 | none=>v=.non
 | some xs=>∃ p,v=.ref p∧H p=some (.tup xs)
def eJ (H:Hp) (ps:List Addr) (sn:List (Int × Int)):Prop:=ps.length=sn.length∧∀ (i:Nat) p c,ps[i]? = some p→sn[i]? = some c→H p=some (.tup [.int c.1,.int c.2])
def dz (H H':Hp):Prop:=∀ b xs,H b=some (.tup xs)→H' b=some (.tup xs)
theorem dz.of {H H':Hp} (e:Same H H'):dz H H':=fun b xs h=>e b _ h
theorem dz.upd {H:Hp} {p:Addr} {o o':HO} (h:H p=some o) (n:∀ xs,o ≠ .tup xs):dz H (upd H p o'):=fun b xs e=>by
 rw [aq (cH e h (fun z=>n xs z.symm))]
 exact e
theorem gS.tups {H H':Hp} {v:V} {w:Option (List V)} (e:dz H H') (h:gS H v w):gS H' v w:=by
 cases w with
 | none=>exact h
 | some xs =>
  obtain ⟨p,a,b⟩:=h
  exact ⟨p,a,e _ _ b⟩
theorem eJ.tups {H H':Hp} {ps:List Addr} {sn:List (Int × Int)} (e:dz H H') (h:eJ H ps sn):eJ H' ps sn:=⟨h.1,fun i p c a b=>e _ _ (h.2 i p c a b)⟩
structure Apart (m:MA):Prop where
 (n12:m.p1 ≠ m.p2) (n16:m.p1 ≠ m.p6) (n17:m.p1 ≠ m.p7) (n18:m.p1 ≠ m.p8) (n26:m.p2 ≠ m.p6) (n27:m.p2 ≠ m.p7) (n28:m.p2 ≠ m.p8) (Qf:m.p6 ≠ m.p7) (Qg:m.p6 ≠ m.p8) (Qh:m.p7 ≠ m.p8)
 (n34:m.p3 ≠ m.p4) (n35:m.p3 ≠ m.p5) (n45:m.p4 ≠ m.p5)
structure MG (C:Addr) (H:Hp) (x:Addr) (m:MA) (rows:List V) (ay:List (Key × V)) (B:Nat) (z:Zt):Prop where
 obj:∃ w,H x=some (.ins C m.dx (dW m z.k z.here w))∧gS H w z.how
 prog:H m.p1=some (.lst rows)
 box:H m.p2=some (.lst (z.bs.map V.int))
 b8:z.bs.length=8
 cell:∃ d,H m.p3=some (.dK d)∧Rep d z.cf∧d.length ≤ B
 ui:∃ d,H m.p4=some (.dK d)∧Rep d z.af∧d.length ≤ B
 rg:H m.p5=some (.dK ay)
 told:H m.p6=some (.lst (z.told.map V.int))
 seen:∃ ps,H m.p7=some (.lst (ps.map V.ref))∧eJ H ps z.seen
 lM:H m.p8=some (.lst (z.pile.map V.int))
 ap:Apart m
 lens:z.told.length ≤ B∧z.seen.length ≤ B∧z.pile.length ≤ B
 big:B ≤ 900
section
variable {C x:Addr} {H H':Hp} {m:MA} {rows:List V} {ay:List (Key × V)} {B:Nat} {z:Zt}
theorem MG.same (M:MG C H x m rows ay B z) (e:Same H H'):MG C H' x m rows ay B z:=by
 obtain ⟨w,o1,o2⟩:=M.obj
 obtain ⟨d,c1,c2⟩:=M.cell
 obtain ⟨d',a1,a2⟩:=M.ui
 obtain ⟨ps,s1,s2⟩:=M.seen
 exact ⟨⟨w,e _ _ o1,o2.tups (.of e)⟩,e _ _ M.prog,e _ _ M.box,M.b8,⟨d,e _ _ c1,c2⟩,⟨d',e _ _ a1,a2⟩,e _ _ M.rg,e _ _ M.told,⟨ps,e _ _ s1,s2.tups (.of e)⟩,e _ _ M.lM,M.ap,M.lens,M.big⟩
theorem MG.more (M:MG C H x m rows ay B z) {B':Nat} (h:B ≤ B') (hb:B' ≤ 900):MG C H x m rows ay B' z:=by
 obtain ⟨d,c1,c2,c3⟩:=M.cell
 obtain ⟨d',a1,a2,a3⟩:=M.ui
 obtain ⟨l1,l2,l3⟩:=M.lens
 exact ⟨M.obj,M.prog,M.box,M.b8,⟨d,c1,c2,by omega⟩,⟨d',a1,a2,by omega⟩,M.rg,M.told,M.seen,M.lM,M.ap,⟨by omega,by omega,by omega⟩,hb⟩
theorem MG.Hh (M:MG C H x m rows ay B z) {q:Addr} {xs:List V} (h:H q=some (.tup xs)):¬ Own m x q:=by
 obtain ⟨w,o1,o2⟩:=M.obj
 obtain ⟨d,c1,c2⟩:=M.cell
 obtain ⟨d',a1,a2⟩:=M.ui
 obtain ⟨ps,s1,s2⟩:=M.seen
 rintro (rfl | rfl | rfl | rfl | rfl | rfl | rfl | rfl)
 ·rw [o1] at h; cases h
 ·rw [M.box] at h; cases h
 ·rw [c1] at h; cases h
 ·rw [a1] at h; cases h
 ·rw [M.rg] at h; cases h
 ·rw [M.told] at h; cases h
 ·rw [s1] at h; cases h
 ·rw [M.lM] at h; cases h
theorem MG.tups (M:MG C H x m rows ay B z) (f:Fr m x H H') {q:Addr} {xs:List V} (h:H q=some (.tup xs)):H' q=some (.tup xs):=f q _ (M.Hh h) h
theorem MG.put (M:MG C H x m rows ay B z) {k':Int} {ft w':V} {Hi:Option (List V)} (hw:gS H w' Hi):MG C (upd H x (.ins C m.dx (dW m k' ft w'))) x m rows ay B { z with k:=k',here:=ft,how:=Hi }:=by
 obtain ⟨w,o1,o2⟩:=M.obj
 obtain ⟨d,c1,c2⟩:=M.cell
 obtain ⟨d',a1,a2⟩:=M.ui
 obtain ⟨ps,s1,s2⟩:=M.seen
 have e:∀ {c o},H c=some o→(∀ fs,o ≠ .ins C m.dx fs)→upd H x (.ins C m.dx (dW m k' ft w')) c=some o:=fun {c o} h n=>by
  rw [aq (cH h o1 (n _))]
  exact h
 have t:dz H (upd H x (.ins C m.dx (dW m k' ft w'))):=.upd o1 (by intro _ z; cases z)
 exact ⟨⟨w',ai,hw.tups t⟩,e M.prog (by intro _ z; cases z),e M.box (by intro _ z; cases z),M.b8,⟨d,e c1 (by intro _ z; cases z),c2⟩,⟨d',e a1 (by intro _ z; cases z),a2⟩,e M.rg (by intro _ z; cases z),e M.told (by intro _ z; cases z),⟨ps,e s1 (by intro _ z; cases z),s2.tups t⟩,e M.lM (by intro _ z; cases z),M.ap,M.lens,M.big⟩
theorem MG.x_ (M:MG C H x m rows ay B z) {p:Addr} {o:HO} (h:H p=some o) (n:∀ fs,o ≠ .ins C m.dx fs):x ≠ p:=by
 obtain ⟨w,o1,_⟩:=M.obj
 exact cH o1 h (fun z=>n _ z.symm)
theorem MG.og (M:MG C H x m rows ay B z) {bs':List Int} (h8:bs'.length=8):MG C (upd H m.p2 (.lst (bs'.map V.int))) x m rows ay B { z with bs:=bs' }:=by
 obtain ⟨w,o1,o2⟩:=M.obj
 obtain ⟨d,c1,c2⟩:=M.cell
 obtain ⟨d',a1,a2⟩:=M.ui
 obtain ⟨ps,s1,s2⟩:=M.seen
 have t:dz H (upd H m.p2 (.lst (bs'.map V.int))):=.upd M.box (by intro _ z; cases z)
 have e:∀ {c o},H c=some o→c ≠ m.p2→upd H m.p2 (.lst (bs'.map V.int)) c=some o:=fun {c o} h n=>by rw [aq n]; exact h
 exact ⟨⟨w,e o1 (M.x_ M.box (by intro _ z; cases z)),o2.tups t⟩,e M.prog M.ap.n12,ai,h8,⟨d,e c1 (cH c1 M.box (by intro z; cases z)),c2⟩,⟨d',e a1 (cH a1 M.box (by intro z; cases z)),a2⟩,e M.rg (cH M.rg M.box (by intro z; cases z)),e M.told M.ap.n26.symm,⟨ps,e s1 M.ap.n27.symm,s2.tups t⟩,e M.lM M.ap.n28.symm,M.ap,M.lens,M.big⟩
theorem MG.KW (M:MG C H x m rows ay B z) {t':List Int} (hl:t'.length ≤ B):MG C (upd H m.p6 (.lst (t'.map V.int))) x m rows ay B { z with told:=t' }:=by
 obtain ⟨w,o1,o2⟩:=M.obj
 obtain ⟨d,c1,c2⟩:=M.cell
 obtain ⟨d',a1,a2⟩:=M.ui
 obtain ⟨ps,s1,s2⟩:=M.seen
 have t:dz H (upd H m.p6 (.lst (t'.map V.int))):=.upd M.told (by intro _ z; cases z)
 have e:∀ {c o},H c=some o→c ≠ m.p6→upd H m.p6 (.lst (t'.map V.int)) c=some o:=fun {c o} h n=>by rw [aq n]; exact h
 exact ⟨⟨w,e o1 (M.x_ M.told (by intro _ z; cases z)),o2.tups t⟩,e M.prog M.ap.n16,e M.box M.ap.n26,M.b8,⟨d,e c1 (cH c1 M.told (by intro z; cases z)),c2⟩,⟨d',e a1 (cH a1 M.told (by intro z; cases z)),a2⟩,e M.rg (cH M.rg M.told (by intro z; cases z)),ai,⟨ps,e s1 M.ap.Qf.symm,s2.tups t⟩,e M.lM M.ap.Qg.symm,M.ap,⟨hl,M.lens.2⟩,M.big⟩
theorem MG.KY (M:MG C H x m rows ay B z) {ps:List Addr} {sn:List (Int × Int)} (hs:eJ H ps sn) (hl:sn.length ≤ B):MG C (upd H m.p7 (.lst (ps.map V.ref))) x m rows ay B { z with seen:=sn }:=by
 obtain ⟨w,o1,o2⟩:=M.obj
 obtain ⟨d,c1,c2⟩:=M.cell
 obtain ⟨d',a1,a2⟩:=M.ui
 obtain ⟨ps0,s1,s2⟩:=M.seen
 have t:dz H (upd H m.p7 (.lst (ps.map V.ref))):=.upd s1 (by intro _ z; cases z)
 have e:∀ {c o},H c=some o→c ≠ m.p7→upd H m.p7 (.lst (ps.map V.ref)) c=some o:=fun {c o} h n=>by rw [aq n]; exact h
 exact ⟨⟨w,e o1 (M.x_ s1 (by intro _ z; cases z)),o2.tups t⟩,e M.prog M.ap.n17,e M.box M.ap.n27,M.b8,⟨d,e c1 (cH c1 s1 (by intro z; cases z)),c2⟩,⟨d',e a1 (cH a1 s1 (by intro z; cases z)),a2⟩,e M.rg (cH M.rg s1 (by intro z; cases z)),e M.told M.ap.Qf,⟨ps,ai,hs.tups t⟩,e M.lM M.ap.Qh.symm,M.ap,⟨M.lens.1,hl,M.lens.2.2⟩,M.big⟩
theorem MG.EB (M:MG C H x m rows ay B z) {p':List Int} (hl:p'.length ≤ B):MG C (upd H m.p8 (.lst (p'.map V.int))) x m rows ay B { z with pile:=p' }:=by
 obtain ⟨w,o1,o2⟩:=M.obj
 obtain ⟨d,c1,c2⟩:=M.cell
 obtain ⟨d',a1,a2⟩:=M.ui
 obtain ⟨ps,s1,s2⟩:=M.seen
 have t:dz H (upd H m.p8 (.lst (p'.map V.int))):=.upd M.lM (by intro _ z; cases z)
 have e:∀ {c o},H c=some o→c ≠ m.p8→upd H m.p8 (.lst (p'.map V.int)) c=some o:=fun {c o} h n=>by rw [aq n]; exact h
 exact ⟨⟨w,e o1 (M.x_ M.lM (by intro _ z; cases z)),o2.tups t⟩,e M.prog M.ap.n18,e M.box M.ap.n28,M.b8,⟨d,e c1 (cH c1 M.lM (by intro z; cases z)),c2⟩,⟨d',e a1 (cH a1 M.lM (by intro z; cases z)),a2⟩,e M.rg (cH M.rg M.lM (by intro z; cases z)),e M.told M.ap.Qg,⟨ps,e s1 M.ap.Qh,s2.tups t⟩,ai,M.ap,⟨M.lens.1,M.lens.2.1,hl⟩,M.big⟩
theorem MG.cells (M:MG C H x m rows ay B z) {d0:List (Key × V)} {f:Int→Int} (r:Rep d0 f) (hl:d0.length ≤ B):MG C (upd H m.p3 (.dK d0)) x m rows ay B { z with cf:=f }:=by
 obtain ⟨w,o1,o2⟩:=M.obj
 obtain ⟨d,c1,c2⟩:=M.cell
 obtain ⟨d',a1,a2⟩:=M.ui
 obtain ⟨ps,s1,s2⟩:=M.seen
 have t:dz H (upd H m.p3 (.dK d0)):=.upd c1 (by intro _ z; cases z)
 have e:∀ {c o},H c=some o→c ≠ m.p3→upd H m.p3 (.dK d0) c=some o:=fun {c o} h n=>by rw [aq n]; exact h
 exact ⟨⟨w,e o1 (M.x_ c1 (by intro _ z; cases z)),o2.tups t⟩,e M.prog (cH M.prog c1 (by intro z; cases z)),e M.box (cH M.box c1 (by intro z; cases z)),M.b8,⟨d0,ai,r,hl⟩,⟨d',e a1 M.ap.n34.symm,a2⟩,e M.rg M.ap.n35.symm,e M.told (cH M.told c1 (by intro z; cases z)),⟨ps,e s1 (cH s1 c1 (by intro z; cases z)),s2.tups t⟩,e M.lM (cH M.lM c1 (by intro z; cases z)),M.ap,M.lens,M.big⟩
theorem MG.KZ (M:MG C H x m rows ay B z) {d0:List (Key × V)} {f:Int→Int} (r:Rep d0 f) (hl:d0.length ≤ B):MG C (upd H m.p4 (.dK d0)) x m rows ay B { z with af:=f }:=by
 obtain ⟨w,o1,o2⟩:=M.obj
 obtain ⟨d,c1,c2⟩:=M.cell
 obtain ⟨d',a1,a2⟩:=M.ui
 obtain ⟨ps,s1,s2⟩:=M.seen
 have t:dz H (upd H m.p4 (.dK d0)):=.upd a1 (by intro _ z; cases z)
 have e:∀ {c o},H c=some o→c ≠ m.p4→upd H m.p4 (.dK d0) c=some o:=fun {c o} h n=>by rw [aq n]; exact h
 exact ⟨⟨w,e o1 (M.x_ a1 (by intro _ z; cases z)),o2.tups t⟩,e M.prog (cH M.prog a1 (by intro z; cases z)),e M.box (cH M.box a1 (by intro z; cases z)),M.b8,⟨d,e c1 M.ap.n34,c2⟩,⟨d0,ai,r,hl⟩,e M.rg M.ap.n45.symm,e M.told (cH M.told a1 (by intro z; cases z)),⟨ps,e s1 (cH s1 a1 (by intro z; cases z)),s2.tups t⟩,e M.lM (cH M.lM a1 (by intro z; cases z)),M.ap,M.lens,M.big⟩
theorem MG.at (M:MG C H x m rows ay B z) {b:Int} (hb:Bx b):kZ (z.bs.map V.int) b=some (.int (z.bs.getD b.toNat 0)):=by
 obtain ⟨j,rfl⟩:=Int.eq_ofNat_of_zero_le hb.1
 have hj:j < z.bs.length:=by have:=hb.2; have:=M.b8; omega
 refine cL (j:=j) ?_
 rw [List.getElem?_map,List.getElem?_eq_getElem hj,Int.toNat_natCast,List.getD_eq_getElem?_getD,List.getElem?_eq_getElem hj]
 rfl
theorem MG.ix (M:MG C H x m rows ay B z) {b:Int} (hb:Bx b):xM (z.bs.map V.int).length b=some b.toNat:=by
 obtain ⟨j,rfl⟩:=Int.eq_ofNat_of_zero_le hb.1
 rw [length_map,M.b8]
 have:=hb.2
 unfold xM
 rw [if_pos (by omega),if_pos (by omega)]
end
structure je (K:Frag) (mg:Str→Option Value) (C:Addr):Prop where
 cl:Cls K C
 nP:dq K C "program"
 nB:dq K C "in_boxes"
 nC:dq K C "in_cells"
 nA:dq K C "in_asides"
 nR:dq K C "rung"
 nT:dq K C "told_numbers"
 nS:dq K C "seen_numbers"
 nL:dq K C "pile"
 nM:dq K C "marks_done"
 nH:dq K C "here"
 nE:dq K C "how_ended"
abbrev ik:Stmt:=top 31
abbrev il:Stmt:=top 32
abbrev ip:Stmt:=top 33
abbrev lA:Stmt:=top 34
abbrev iq:Stmt:=top 35
abbrev iu:Stmt:=top 36
abbrev lB:Stmt:=top 37
abbrev iw:Stmt:=top 38
abbrev iy:Stmt:=top 39
abbrev iz:Stmt:=top 40
abbrev iA:Stmt:=top 41
abbrev lC:Stmt:=top 42
abbrev lD:Stmt:=top 43
abbrev iB:Stmt:=top 44
abbrev iC:Stmt:=top 45
abbrev iE:Stmt:=top 46
abbrev fz:Stmt:=top 47
abbrev iF:Stmt:=top 48
abbrev iG:Stmt:=top 49
abbrev fA:Stmt:=top 50
section
variable {P:Program} {w:World} {K:Frag} {mg:Str→Option Value} {base:Heap}
abbrev Zt.bx (z:Zt) (b:Int):Int:=z.bs.getD b.toNat 0
def EC (C:Addr):Sp:=fun vs H Q _=>∃ (x q:Addr) (m:MA) (rows:List V) (ay:List (Key × V)) (B:Nat) (z:Zt) (h:Int) (u:Str) (b v:Int),vs=[.ref x,.ref q]∧MG C H x m rows ay B z∧B < 900∧z.here=.int h∧H q=some (.tup [.str u,.int b,.int v])∧Bx b∧∀ H',Fr m x H H'→MG C H' x m rows ay (B + 1) { z with bs:=z.bs.set b.toNat (v) }→Q .non H'
def zJ (C:Addr):Sp:=fun vs H Q _=>∃ (x q:Addr) (m:MA) (rows:List V) (ay:List (Key × V)) (B:Nat) (z:Zt) (h:Int) (u:Str) (b v:Int),vs=[.ref x,.ref q]∧MG C H x m rows ay B z∧B < 900∧z.here=.int h∧H q=some (.tup [.str u,.int b,.int v])∧Bx b∧∀ H',Fr m x H H'→MG C H' x m rows ay (B + 1) { z with bs:=z.bs.set b.toNat (z.bx b + v) }→Q .non H'
def zK (C:Addr):Sp:=fun vs H Q _=>∃ (x q:Addr) (m:MA) (rows:List V) (ay:List (Key × V)) (B:Nat) (z:Zt) (h:Int) (u:Str) (b v:Int),vs=[.ref x,.ref q]∧MG C H x m rows ay B z∧B < 900∧z.here=.int h∧H q=some (.tup [.str u,.int b,.int v])∧Bx b∧Bx v∧∀ H',Fr m x H H'→MG C H' x m rows ay (B + 1) { z with bs:=z.bs.set b.toNat (z.bx v) }→Q .non H'
def ED (C:Addr):Sp:=fun vs H Q _=>∃ (x q:Addr) (m:MA) (rows:List V) (ay:List (Key × V)) (B:Nat) (z:Zt) (h:Int) (u:Str) (b v:Int),vs=[.ref x,.ref q]∧MG C H x m rows ay B z∧B < 900∧z.here=.int h∧H q=some (.tup [.str u,.int b,.int v])∧Bx b∧Bx v∧∀ H',Fr m x H H'→MG C H' x m rows ay (B + 1) { z with bs:=z.bs.set b.toNat (z.bx b + z.bx v) }→Q .non H'
def zL (C:Addr):Sp:=fun vs H Q _=>∃ (x q:Addr) (m:MA) (rows:List V) (ay:List (Key × V)) (B:Nat) (z:Zt) (h:Int) (u:Str) (b v:Int),vs=[.ref x,.ref q]∧MG C H x m rows ay B z∧B < 900∧z.here=.int h∧H q=some (.tup [.str u,.int b,.int v])∧Bx b∧Bx v∧∀ H',Fr m x H H'→MG C H' x m rows ay (B + 1) { z with bs:=z.bs.set b.toNat (z.bx b - z.bx v) }→Q .non H'
def zM (C:Addr):Sp:=fun vs H Q _=>∃ (x q:Addr) (m:MA) (rows:List V) (ay:List (Key × V)) (B:Nat) (z:Zt) (h:Int) (u:Str) (b v:Int),vs=[.ref x,.ref q]∧MG C H x m rows ay B z∧B < 900∧z.here=.int h∧H q=some (.tup [.str u,.int b,.int v])∧Bx b∧Bx v∧∀ H',Fr m x H H'→MG C H' x m rows ay (B + 1) { z with bs:=z.bs.set b.toNat (z.cf (z.bx v)) }→Q .non H'
def zN (C:Addr):Sp:=fun vs H Q _=>∃ (x q:Addr) (m:MA) (rows:List V) (ay:List (Key × V)) (B:Nat) (z:Zt) (h:Int) (u:Str) (b v:Int),vs=[.ref x,.ref q]∧MG C H x m rows ay B z∧B < 900∧z.here=.int h∧H q=some (.tup [.str u,.int b,.int v])∧Bx b∧∀ H',Fr m x H H'→MG C H' x m rows ay (B + 1) { z with bs:=z.bs.set b.toNat (z.af v) }→Q .non H'
def zO (C:Addr):Sp:=fun vs H Q _=>∃ (x q:Addr) (m:MA) (rows:List V) (ay:List (Key × V)) (B:Nat) (z:Zt) (h:Int) (u:Str) (b v:Int),vs=[.ref x,.ref q]∧MG C H x m rows ay B z∧B < 900∧z.here=.int h∧H q=some (.tup [.str u,.int b,.int v])∧Bx b∧Bx v∧∀ H',Fr m x H H'→MG C H' x m rows ay (B + 1) { z with cf:=qJ z.cf (z.bx b) (z.bx v) }→Q .non H'
def EF (C:Addr):Sp:=fun vs H Q _=>∃ (x q:Addr) (m:MA) (rows:List V) (ay:List (Key × V)) (B:Nat) (z:Zt) (h:Int) (u:Str) (b v:Int),vs=[.ref x,.ref q]∧MG C H x m rows ay B z∧B < 900∧z.here=.int h∧H q=some (.tup [.str u,.int b,.int v])∧Bx b∧∀ H',Fr m x H H'→MG C H' x m rows ay (B + 1) { z with af:=qJ z.af v (z.bx b) }→Q .non H'
def zP (C:Addr):Sp:=fun vs H Q _=>∃ (x q:Addr) (m:MA) (rows:List V) (ay:List (Key × V)) (B:Nat) (z:Zt) (h:Int) (u:Str) (b:Int),vs=[.ref x,.ref q]∧MG C H x m rows ay B z∧B < 900∧z.here=.int h∧H q=some (.tup [.str u,.int b])∧Bx b∧∀ H',Fr m x H H'→MG C H' x m rows ay (B + 1) { z with told:=z.told ++ [z.bx b] }→Q .non H'
def EG (C:Addr):Sp:=fun vs H Q _=>∃ (x q:Addr) (m:MA) (rows:List V) (ay:List (Key × V)) (B:Nat) (z:Zt) (h:Int) (u:Str) (b v:Int),vs=[.ref x,.ref q]∧MG C H x m rows ay B z∧B < 900∧z.here=.int h∧H q=some (.tup [.str u,.int b,.int v])∧Bx b∧∀ H',Fr m x H H'→MG C H' x m rows ay (B + 1) { z with seen:=z.seen ++ [(v,z.bx b)] }→Q .non H'
def zQ (C:Addr):Sp:=fun vs H Q _=>∃ (x q:Addr) (m:MA) (rows:List V) (ay:List (Key × V)) (B:Nat) (z:Zt) (h:Int) (u:Str) (t f:Int),vs=[.ref x,.ref q]∧MG C H x m rows ay B z∧B < 900∧z.here=.int h∧H q=some (.tup [.str u,.int t,.int f])∧∀ H',Fr m x H H'→MG C H' x m rows ay (B + 1) { z with here:=.int t }→Q .non H'
def zR (C:Addr):Sp:=fun vs H Q _=>∃ (x q:Addr) (m:MA) (rows:List V) (ay:List (Key × V)) (B:Nat) (z:Zt) (h:Int) (u:Str) (b t f:Int),vs=[.ref x,.ref q]∧MG C H x m rows ay B z∧B < 900∧z.here=.int h∧H q=some (.tup [.str u,.int b,.int t,.int f])∧Bx b∧∀ H',Fr m x H H'→MG C H' x m rows ay (B + 1) { z with here:=.int (if z.bx b=0 then t else h) }→Q .non H'
def vB (C:Addr):Sp:=fun vs H Q _=>∃ (x q:Addr) (m:MA) (rows:List V) (ay:List (Key × V)) (B:Nat) (z:Zt) (h:Int) (u:Str) (b t f:Int),vs=[.ref x,.ref q]∧MG C H x m rows ay B z∧B < 900∧z.here=.int h∧H q=some (.tup [.str u,.int b,.int t,.int f])∧Bx b∧∀ H',Fr m x H H'→MG C H' x m rows ay (B + 1) { z with here:=.int (if z.bx b < 0 then t else h) }→Q .non H'
def vC (C:Addr):Sp:=fun vs H Q _=>∃ (x q:Addr) (m:MA) (rows:List V) (ay:List (Key × V)) (B:Nat) (z:Zt) (h:Int) (u:Str) (b:Int) (p:Addr) (ts:List Int),vs=[.ref x,.ref q]∧MG C H x m rows ay B z∧B < 900∧z.here=.int h∧H q=some (.tup [.str u,.int b,.ref p])∧Bx b∧H p=some (.tup (ts.map V.int))∧∀ H',Fr m x H H'→MG C H' x m rows ay (B + 1) { z with here:=.int (if 0 ≤ z.bx b∧z.bx b < ts.length then ts.getD (z.bx b).toNat 0 else h) }→Q .non H'
def uj (C:Addr):Sp:=fun vs H Q _=>∃ (x q:Addr) (m:MA) (rows:List V) (ay:List (Key × V)) (B:Nat) (z:Zt) (h:Int) (u:Str) (t f:Int),vs=[.ref x,.ref q]∧MG C H x m rows ay B z∧B < 900∧z.here=.int h∧H q=some (.tup [.str u,.int t,.int f])∧∀ H',Fr m x H H'→MG C H' x m rows ay (B + 1) { z with pile:=z.pile ++ [h],here:=.int t }→Q .non H'
def zS (C:Addr):Sp:=fun vs H Q _=>∃ (x q:Addr) (m:MA) (rows:List V) (ay:List (Key × V)) (B:Nat) (z:Zt) (h:Int) (u:Str) (items:List V),vs=[.ref x,.ref q]∧MG C H x m rows ay B z∧B < 900∧z.here=.int h∧H q=some (.tup (.str u :: items))∧∀ H',Fr m x H H'→MG C H' x m rows ay (B + 1) { z with here:=.non,how:=some [.str "stop"] }→Q .non H'
def zT (C:Addr):Sp:=fun vs H Q _=>∃ (x q:Addr) (m:MA) (rows:List V) (ay:List (Key × V)) (B:Nat) (z:Zt) (h:Int) (u:Str) (v:Int),vs=[.ref x,.ref q]∧MG C H x m rows ay B z∧B < 900∧z.here=.int h∧H q=some (.tup [.str u,.int v])∧∀ H',Fr m x H H'→MG C H' x m rows ay (B + 1) { z with here:=.non,how:=some [.str "halt",.int v] }→Q .non H'
def zU (C:Addr):Sp:=fun vs H Q _=>∃ (x q:Addr) (m:MA) (rows:List V) (ay:List (Key × V)) (B:Nat) (z:Zt) (h:Int) (u:Str) (t f:Int) (o:Option V),vs=[.ref x,.ref q]∧MG C H x m rows ay B z∧B < 900∧z.here=.int h∧H q=some (.tup [.str u,.int t,.int f])∧cF ay (Sum.inl z.k)=o∧(o.isSome=true→∀ H',Fr m x H H'→MG C H' x m rows ay (B + 1) { z with k:=z.k + 1,pile:=z.pile ++ [h],here:=.int t }→Q .non H')∧(o.isSome=false→∀ H',Fr m x H H'→MG C H' x m rows ay (B + 1) { z with k:=z.k + 1 }→Q .non H')
def zV (C:Addr):Sp:=fun vs H Q _=>∃ (x q:Addr) (m:MA) (rows:List V) (ay:List (Key × V)) (B:Nat) (z:Zt) (h:Int) (u:Str) (items:List V),vs=[.ref x,.ref q]∧MG C H x m rows ay B z∧B < 900∧z.here=.int h∧H q=some (.tup (.str u :: items))∧(z.pile=[]→∀ H',Fr m x H H'→MG C H' x m rows ay (B + 1) { z with here:=.non,how:=some [.str "home"] }→Q .non H')∧(∀ (r:List Int) (p:Int),z.pile=r ++ [p]→∀ H',Fr m x H H'→MG C H' x m rows ay (B + 1) { z with pile:=r,here:=.int p }→Q .non H')
def vD (C:Addr):Sp:=fun vs H Q _=>∃ (x p:Addr) (xs:List V) (m:MA) (rows:List V) (ay:List (Key × V)) (B:Nat) (z:Zt),vs=[.ref x,.ref p]∧H p=some (.tup xs)∧MG C H x m rows ay B z∧∀ H',Fr m x H H'→MG C H' x m rows ay B { z with here:=.non,how:=some xs }→Q .non H'
theorem K0:aI ["machine", "how"] ["machine", "how"] (aj xt):=⟨rfl,rfl,rfl,by decide +kernel,rfl,by decide +kernel,by decide +kernel⟩
theorem Hj {f C:Addr} {fd:FuncData} (F:dj K "end" "end" xt f fd) (T:je K mg C):aL P w K mg base cg 1 f fd ["machine", "how"] (vD C):=by
 refine F.ok K0 (fun vs H Q E h=>?_) (fun cdv A outer s H vs Q E hr h=>?_)
 ·obtain ⟨x,p,xs,m,rows,ay,B,z,rfl,_⟩:=h
  rfl
 ·obtain ⟨x,p,xs,m,rows,ay,B,z,rfl,hp,M,k⟩:=h
  obtain ⟨w0,ho,hw⟩:=M.obj
  refine ⟨_,aD (cS (pv 0) jW rfl) (au (cS (pv 0) (pv 1) rfl)),?_⟩
  refine ⟨_,rfl,x,C,m.dx,_,rfl,ho,T.cl,T.nH,jm,?_⟩
  rw [ig]
  have M2:=M.put (k':=z.k) (ft:=.non) hw
  refine ⟨_,rfl,_,rfl,x,C,m.dx,_,rfl,ai,T.cl,T.nE,jm,?_⟩
  rw [KU]
  have hp2:upd H x (.ins C m.dx (dW m z.k .non w0)) p=some (.tup xs):=by
   rw [aq (cH hp ho (by intro z; cases z))]
   exact hp
  exact k _ ((Fr.upd (.inl rfl)).trans (Fr.upd (.inl rfl))) (M2.put (k':=z.k) (ft:=.non) (w':=.ref p) (Hi:=some xs) ⟨p,rfl,hp2⟩)
theorem Hk:aI ["machine", "row"] ["machine", "row"] (aj lA):=⟨rfl,rfl,rfl,by decide +kernel,rfl,by decide +kernel,by decide +kernel⟩
theorem Hl {f C:Addr} {fd:FuncData} (F:dj K "do_set" "do_set" lA f fd) (T:je K mg C):aL P w K mg base cg 1 f fd ["machine", "row"] (EC C):=by
 refine F.ok Hk (fun vs H Q E h=>?_) (fun cdv A outer s H vs Q E hr h=>?_)
 ·obtain ⟨x,q,m,rows,ay,B,z,h,u,b,v,rfl,_⟩:=h
  rfl
 ·obtain ⟨x,q,m,rows,ay,B,z,h,u,b,v,rfl,M,hB,hh,hq,hb,k⟩:=h
  have hu:=dv hr
  obtain ⟨w0,ho,hw⟩:=M.obj
  have M1:=M.more (le_succ B) (by omega)
  refine ⟨_,au (gZ (aJ aO (pv 1) ak (fun _ _=>rfl)) (gY (bg (pv 0) rfl) (aJ aO (pv 1) ak (fun _ _=>rfl)) set_list)),?_⟩
  refine ⟨_,rfl,q,_,_,.int v,rfl,rfl,bq.of hq,at2 _ _ _ _,_,rfl,x,C,m.dx,_,_,rfl,ho,T.cl,T.nB,dy,_,rfl,q,_,_,.int b,rfl,rfl,bq.of hq,at1 _ _ _,m.p2,_,_,_,rfl,rfl,M.box,M.ix hb,?_⟩
  rw [← map_set]
  exact k _ (Fr.upd (.inr (.inl rfl))) (M1.og (by rw [length_set]; exact M.b8))
theorem Cz:aI ["machine", "row"] ["machine", "row"] (aj iq):=⟨rfl,rfl,rfl,by decide +kernel,rfl,by decide +kernel,by decide +kernel⟩
theorem CA {f C:Addr} {fd:FuncData} (F:dj K "do_more" "do_more" iq f fd) (T:je K mg C):aL P w K mg base cg 1 f fd ["machine", "row"] (zJ C):=by
 refine F.ok Cz (fun vs H Q E h=>?_) (fun cdv A outer s H vs Q E hr h=>?_)
 ·obtain ⟨x,q,m,rows,ay,B,z,h,u,b,v,rfl,_⟩:=h
  rfl
 ·obtain ⟨x,q,m,rows,ay,B,z,h,u,b,v,rfl,M,hB,hh,hq,hb,k⟩:=h
  have hu:=dv hr
  obtain ⟨w0,ho,hw⟩:=M.obj
  have M1:=M.more (le_succ B) (by omega)
  refine ⟨_,au (gZ (aG cm (aJ aT (bg (pv 0) rfl) (aJ aO (pv 1) ak (fun _ _=>rfl)) (fun _ _=>rfl)) (aJ aO (pv 1) ak (fun _ _=>rfl))) (gY (bg (pv 0) rfl) (aJ aO (pv 1) ak (fun _ _=>rfl)) set_list)),?_⟩
  refine ⟨_,rfl,x,C,m.dx,_,_,rfl,ho,T.cl,T.nB,dy,_,rfl,q,_,_,.int b,rfl,rfl,bq.of hq,at1 _ _ _,m.p2,_,_,_,rfl,rfl,bh.of M.box,M.at hb,_,rfl,q,_,_,.int v,rfl,rfl,bq.of hq,at2 _ _ _ _,_,_,rfl,rfl,_,rfl,x,C,m.dx,_,_,rfl,ho,T.cl,T.nB,dy,_,rfl,q,_,_,.int b,rfl,rfl,bq.of hq,at1 _ _ _,m.p2,_,_,_,rfl,rfl,M.box,M.ix hb,?_⟩
  rw [← map_set]
  exact k _ (Fr.upd (.inr (.inl rfl))) (M1.og (by rw [length_set]; exact M.b8))
theorem CB:aI ["machine", "row"] ["machine", "row"] (aj iu):=⟨rfl,rfl,rfl,by decide +kernel,rfl,by decide +kernel,by decide +kernel⟩
theorem CC {f C:Addr} {fd:FuncData} (F:dj K "do_copy" "do_copy" iu f fd) (T:je K mg C):aL P w K mg base cg 1 f fd ["machine", "row"] (zK C):=by
 refine F.ok CB (fun vs H Q E h=>?_) (fun cdv A outer s H vs Q E hr h=>?_)
 ·obtain ⟨x,q,m,rows,ay,B,z,h,u,b,v,rfl,_⟩:=h
  rfl
 ·obtain ⟨x,q,m,rows,ay,B,z,h,u,b,v,rfl,M,hB,hh,hq,hb,hv,k⟩:=h
  have hu:=dv hr
  obtain ⟨w0,ho,hw⟩:=M.obj
  have M1:=M.more (le_succ B) (by omega)
  refine ⟨_,au (gZ (aJ aT (bg (pv 0) rfl) (aJ aO (pv 1) ak (fun _ _=>rfl)) (fun _ _=>rfl)) (gY (bg (pv 0) rfl) (aJ aO (pv 1) ak (fun _ _=>rfl)) set_list)),?_⟩
  refine ⟨_,rfl,x,C,m.dx,_,_,rfl,ho,T.cl,T.nB,dy,_,rfl,q,_,_,.int v,rfl,rfl,bq.of hq,at2 _ _ _ _,m.p2,_,_,_,rfl,rfl,bh.of M.box,M.at hv,_,rfl,x,C,m.dx,_,_,rfl,ho,T.cl,T.nB,dy,_,rfl,q,_,_,.int b,rfl,rfl,bq.of hq,at1 _ _ _,m.p2,_,_,_,rfl,rfl,M.box,M.ix hb,?_⟩
  rw [← map_set]
  exact k _ (Fr.upd (.inr (.inl rfl))) (M1.og (by rw [length_set]; exact M.b8))
theorem Hm:aI ["machine", "row"] ["machine", "row"] (aj lB):=⟨rfl,rfl,rfl,by decide +kernel,rfl,by decide +kernel,by decide +kernel⟩
theorem Hn {f C:Addr} {fd:FuncData} (F:dj K "do_add" "do_add" lB f fd) (T:je K mg C):aL P w K mg base cg 1 f fd ["machine", "row"] (ED C):=by
 refine F.ok Hm (fun vs H Q E h=>?_) (fun cdv A outer s H vs Q E hr h=>?_)
 ·obtain ⟨x,q,m,rows,ay,B,z,h,u,b,v,rfl,_⟩:=h
  rfl
 ·obtain ⟨x,q,m,rows,ay,B,z,h,u,b,v,rfl,M,hB,hh,hq,hb,hv,k⟩:=h
  have hu:=dv hr
  obtain ⟨w0,ho,hw⟩:=M.obj
  have M1:=M.more (le_succ B) (by omega)
  refine ⟨_,au (gZ (aG cm (aJ aT (bg (pv 0) rfl) (aJ aO (pv 1) ak (fun _ _=>rfl)) (fun _ _=>rfl)) (aJ aT (bg (pv 0) rfl) (aJ aO (pv 1) ak (fun _ _=>rfl)) (fun _ _=>rfl))) (gY (bg (pv 0) rfl) (aJ aO (pv 1) ak (fun _ _=>rfl)) set_list)),?_⟩
  refine ⟨_,rfl,x,C,m.dx,_,_,rfl,ho,T.cl,T.nB,dy,_,rfl,q,_,_,.int b,rfl,rfl,bq.of hq,at1 _ _ _,m.p2,_,_,_,rfl,rfl,bh.of M.box,M.at hb,_,rfl,x,C,m.dx,_,_,rfl,ho,T.cl,T.nB,dy,_,rfl,q,_,_,.int v,rfl,rfl,bq.of hq,at2 _ _ _ _,m.p2,_,_,_,rfl,rfl,bh.of M.box,M.at hv,_,_,rfl,rfl,_,rfl,x,C,m.dx,_,_,rfl,ho,T.cl,T.nB,dy,_,rfl,q,_,_,.int b,rfl,rfl,bq.of hq,at1 _ _ _,m.p2,_,_,_,rfl,rfl,M.box,M.ix hb,?_⟩
  rw [← map_set]
  exact k _ (Fr.upd (.inr (.inl rfl))) (M1.og (by rw [length_set]; exact M.b8))
theorem CD:aI ["machine", "row"] ["machine", "row"] (aj iw):=⟨rfl,rfl,rfl,by decide +kernel,rfl,by decide +kernel,by decide +kernel⟩
theorem CF {f C:Addr} {fd:FuncData} (F:dj K "do_less" "do_less" iw f fd) (T:je K mg C):aL P w K mg base cg 1 f fd ["machine", "row"] (zL C):=by
 refine F.ok CD (fun vs H Q E h=>?_) (fun cdv A outer s H vs Q E hr h=>?_)
 ·obtain ⟨x,q,m,rows,ay,B,z,h,u,b,v,rfl,_⟩:=h
  rfl
 ·obtain ⟨x,q,m,rows,ay,B,z,h,u,b,v,rfl,M,hB,hh,hq,hb,hv,k⟩:=h
  have hu:=dv hr
  obtain ⟨w0,ho,hw⟩:=M.obj
  have M1:=M.more (le_succ B) (by omega)
  refine ⟨_,au (gZ (aG gG (aJ aT (bg (pv 0) rfl) (aJ aO (pv 1) ak (fun _ _=>rfl)) (fun _ _=>rfl)) (aJ aT (bg (pv 0) rfl) (aJ aO (pv 1) ak (fun _ _=>rfl)) (fun _ _=>rfl))) (gY (bg (pv 0) rfl) (aJ aO (pv 1) ak (fun _ _=>rfl)) set_list)),?_⟩
  refine ⟨_,rfl,x,C,m.dx,_,_,rfl,ho,T.cl,T.nB,dy,_,rfl,q,_,_,.int b,rfl,rfl,bq.of hq,at1 _ _ _,m.p2,_,_,_,rfl,rfl,bh.of M.box,M.at hb,_,rfl,x,C,m.dx,_,_,rfl,ho,T.cl,T.nB,dy,_,rfl,q,_,_,.int v,rfl,rfl,bq.of hq,at2 _ _ _ _,m.p2,_,_,_,rfl,rfl,bh.of M.box,M.at hv,_,_,rfl,rfl,_,rfl,x,C,m.dx,_,_,rfl,ho,T.cl,T.nB,dy,_,rfl,q,_,_,.int b,rfl,rfl,bq.of hq,at1 _ _ _,m.p2,_,_,_,rfl,rfl,M.box,M.ix hb,?_⟩
  rw [← map_set]
  exact k _ (Fr.upd (.inr (.inl rfl))) (M1.og (by rw [length_set]; exact M.b8))
theorem CG:aI ["machine", "row"] ["machine", "row"] (aj iy):=⟨rfl,rfl,rfl,by decide +kernel,rfl,by decide +kernel,by decide +kernel⟩
theorem CH {f C:Addr} {fd:FuncData} (F:dj K "do_load" "do_load" iy f fd) (T:je K mg C):aL P w K mg base cg 1 f fd ["machine", "row"] (zM C):=by
 refine F.ok CG (fun vs H Q E h=>?_) (fun cdv A outer s H vs Q E hr h=>?_)
 ·obtain ⟨x,q,m,rows,ay,B,z,h,u,b,v,rfl,_⟩:=h
  rfl
 ·obtain ⟨x,q,m,rows,ay,B,z,h,u,b,v,rfl,M,hB,hh,hq,hb,hv,k⟩:=h
  have hu:=dv hr
  obtain ⟨w0,ho,hw⟩:=M.obj
  have M1:=M.more (le_succ B) (by omega)
  refine ⟨_,au (gZ (ng hu (bg (pv 0) rfl) (aJ aT (bg (pv 0) rfl) (aJ aO (pv 1) ak (fun _ _=>rfl)) (fun _ _=>rfl)) ak ⟨rfl,rfl,rfl,rfl⟩) (gY (bg (pv 0) rfl) (aJ aO (pv 1) ak (fun _ _=>rfl)) set_list)),?_⟩
  obtain ⟨d,c1,c2,c3⟩:=M.cell
  refine ⟨_,rfl,x,C,m.dx,_,_,rfl,ho,T.cl,T.nC,uh,m.p3,rfl,.inl ⟨_,.of c1⟩,_,rfl,x,C,m.dx,_,_,rfl,ho,T.cl,T.nB,dy,_,rfl,q,_,_,.int v,rfl,rfl,bq.of hq,at2 _ _ _ _,m.p2,_,_,_,rfl,rfl,bh.of M.box,M.at hv,_,gW.k (k:=Sum.inl (z.bx v)) c1,?_⟩
  rw [c2.val]
  refine ⟨_,rfl,x,C,m.dx,_,_,rfl,ho,T.cl,T.nB,dy,_,rfl,q,_,_,.int b,rfl,rfl,bq.of hq,at1 _ _ _,m.p2,_,_,_,rfl,rfl,M.box,M.ix hb,?_⟩
  rw [← map_set]
  exact k _ (Fr.upd (.inr (.inl rfl))) (M1.og (by rw [length_set]; exact M.b8))
theorem CI:aI ["machine", "row"] ["machine", "row"] (aj iB):=⟨rfl,rfl,rfl,by decide +kernel,rfl,by decide +kernel,by decide +kernel⟩
theorem CJ {f C:Addr} {fd:FuncData} (F:dj K "do_take" "do_take" iB f fd) (T:je K mg C):aL P w K mg base cg 1 f fd ["machine", "row"] (zN C):=by
 refine F.ok CI (fun vs H Q E h=>?_) (fun cdv A outer s H vs Q E hr h=>?_)
 ·obtain ⟨x,q,m,rows,ay,B,z,h,u,b,v,rfl,_⟩:=h
  rfl
 ·obtain ⟨x,q,m,rows,ay,B,z,h,u,b,v,rfl,M,hB,hh,hq,hb,k⟩:=h
  have hu:=dv hr
  obtain ⟨w0,ho,hw⟩:=M.obj
  have M1:=M.more (le_succ B) (by omega)
  refine ⟨_,au (gZ (ng hu (bg (pv 0) rfl) (aJ aO (pv 1) ak (fun _ _=>rfl)) ak ⟨rfl,rfl,rfl,rfl⟩) (gY (bg (pv 0) rfl) (aJ aO (pv 1) ak (fun _ _=>rfl)) set_list)),?_⟩
  obtain ⟨d,c1,c2,c3⟩:=M.ui
  refine ⟨_,rfl,x,C,m.dx,_,_,rfl,ho,T.cl,T.nA,zG,m.p4,rfl,.inl ⟨_,.of c1⟩,_,rfl,q,_,_,.int v,rfl,rfl,bq.of hq,at2 _ _ _ _,_,gW.k (k:=Sum.inl (v)) c1,?_⟩
  rw [c2.val]
  refine ⟨_,rfl,x,C,m.dx,_,_,rfl,ho,T.cl,T.nB,dy,_,rfl,q,_,_,.int b,rfl,rfl,bq.of hq,at1 _ _ _,m.p2,_,_,_,rfl,rfl,M.box,M.ix hb,?_⟩
  rw [← map_set]
  exact k _ (Fr.upd (.inr (.inl rfl))) (M1.og (by rw [length_set]; exact M.b8))
theorem CK:aI ["machine", "row"] ["machine", "row"] (aj iz):=⟨rfl,rfl,rfl,by decide +kernel,rfl,by decide +kernel,by decide +kernel⟩
theorem CL {f C:Addr} {fd:FuncData} (F:dj K "do_keep" "do_keep" iz f fd) (T:je K mg C):aL P w K mg base cg 1 f fd ["machine", "row"] (zO C):=by
 refine F.ok CK (fun vs H Q E h=>?_) (fun cdv A outer s H vs Q E hr h=>?_)
 ·obtain ⟨x,q,m,rows,ay,B,z,h,u,b,v,rfl,_⟩:=h
  rfl
 ·obtain ⟨x,q,m,rows,ay,B,z,h,u,b,v,rfl,M,hB,hh,hq,hb,hv,k⟩:=h
  have hu:=dv hr
  obtain ⟨w0,ho,hw⟩:=M.obj
  have M1:=M.more (le_succ B) (by omega)
  refine ⟨_,au (fq hu (bg (pv 0) rfl) (aJ aT (bg (pv 0) rfl) (aJ aO (pv 1) ak (fun _ _=>rfl)) (fun _ _=>rfl)) (aJ aT (bg (pv 0) rfl) (aJ aO (pv 1) ak (fun _ _=>rfl)) (fun _ _=>rfl)) rfl),?_⟩
  obtain ⟨d,c1,c2,c3⟩:=M.cell
  have hb9:=M.big
  refine ⟨_,rfl,x,C,m.dx,_,_,rfl,ho,T.cl,T.nB,dy,_,rfl,q,_,_,.int v,rfl,rfl,bq.of hq,at2 _ _ _ _,m.p2,_,_,_,rfl,rfl,bh.of M.box,M.at hv,_,rfl,x,C,m.dx,_,_,rfl,ho,T.cl,T.nC,uh,_,rfl,x,C,m.dx,_,_,rfl,ho,T.cl,T.nB,dy,_,rfl,q,_,_,.int b,rfl,rfl,bq.of hq,at1 _ _ _,m.p2,_,_,_,rfl,rfl,bh.of M.box,M.at hb,m.p3,_,rfl,mQ.k (k:=Sum.inl (z.bx b)) c1 (eA (by omega)),?_⟩
  exact k _ (Fr.upd (.inr (.inr (.inl rfl)))) (M1.cells (c2.put _ _) (le_trans (du d _ _) (by omega)))
theorem Ho:aI ["machine", "row"] ["machine", "row"] (aj lD):=⟨rfl,rfl,rfl,by decide +kernel,rfl,by decide +kernel,by decide +kernel⟩
theorem Hq {f C:Addr} {fd:FuncData} (F:dj K "do_put" "do_put" lD f fd) (T:je K mg C):aL P w K mg base cg 1 f fd ["machine", "row"] (EF C):=by
 refine F.ok Ho (fun vs H Q E h=>?_) (fun cdv A outer s H vs Q E hr h=>?_)
 ·obtain ⟨x,q,m,rows,ay,B,z,h,u,b,v,rfl,_⟩:=h
  rfl
 ·obtain ⟨x,q,m,rows,ay,B,z,h,u,b,v,rfl,M,hB,hh,hq,hb,k⟩:=h
  have hu:=dv hr
  obtain ⟨w0,ho,hw⟩:=M.obj
  have M1:=M.more (le_succ B) (by omega)
  refine ⟨_,au (fq hu (bg (pv 0) rfl) (aJ aO (pv 1) ak (fun _ _=>rfl)) (aJ aT (bg (pv 0) rfl) (aJ aO (pv 1) ak (fun _ _=>rfl)) (fun _ _=>rfl)) rfl),?_⟩
  obtain ⟨d,c1,c2,c3⟩:=M.ui
  have hb9:=M.big
  refine ⟨_,rfl,x,C,m.dx,_,_,rfl,ho,T.cl,T.nB,dy,_,rfl,q,_,_,.int b,rfl,rfl,bq.of hq,at1 _ _ _,m.p2,_,_,_,rfl,rfl,bh.of M.box,M.at hb,_,rfl,x,C,m.dx,_,_,rfl,ho,T.cl,T.nA,zG,_,rfl,q,_,_,.int v,rfl,rfl,bq.of hq,at2 _ _ _ _,m.p4,_,rfl,mQ.k (k:=Sum.inl v) c1 (eA (by omega)),?_⟩
  exact k _ (Fr.upd (.inr (.inr (.inr (.inl rfl))))) (M1.KZ (c2.put _ _) (le_trans (du d _ _) (by omega)))
theorem CM:aI ["machine", "row"] ["machine", "row"] (aj iA):=⟨rfl,rfl,rfl,by decide +kernel,rfl,by decide +kernel,by decide +kernel⟩
theorem CN {f C:Addr} {fd:FuncData} (F:dj K "do_tell" "do_tell" iA f fd) (T:je K mg C):aL P w K mg base cg 1 f fd ["machine", "row"] (zP C):=by
 refine F.ok CM (fun vs H Q E h=>?_) (fun cdv A outer s H vs Q E hr h=>?_)
 ·obtain ⟨x,q,m,rows,ay,B,z,h,u,b,rfl,_⟩:=h
  rfl
 ·obtain ⟨x,q,m,rows,ay,B,z,h,u,b,rfl,M,hB,hh,hq,hb,k⟩:=h
  have hu:=dv hr
  obtain ⟨w0,ho,hw⟩:=M.obj
  have M1:=M.more (le_succ B) (by omega)
  refine ⟨_,au (bQ (dR PySem.F.plainAttrs_list PySem.F.slot_list_append PySem.F.type_list_append bZ (bg (pv 0) rfl) (ah (aJ aT (bg (pv 0) rfl) (aJ aO (pv 1) ak (fun _ _=>rfl)) (fun _ _=>rfl)) ao))),?_⟩
  have hb9:=M.big
  have hl:=M.lens
  refine ⟨_,rfl,x,C,m.dx,_,_,rfl,ho,T.cl,T.nT,zH,.inl ⟨rfl,_,bh.of M.told⟩,_,rfl,x,C,m.dx,_,_,rfl,ho,T.cl,T.nB,dy,_,rfl,q,_,_,.int b,rfl,rfl,bq.of hq,at1 _ _ _,m.p2,_,_,_,rfl,rfl,bh.of M.box,M.at hb,m.p6,_,_,rfl,rfl,M.told,(by rw [length_map]; exact eA (by omega)),?_⟩
  rw [show z.told.map V.int ++ [V.int (z.bx b)]=(z.told ++ [z.bx b]).map V.int by simp]
  exact k _ (Fr.upd (.inr (.inr (.inr (.inr (.inr (.inl rfl))))))) (M1.KW (by rw [length_append]; show z.told.length + 1 ≤ B + 1; omega))
theorem Hr:aI ["machine", "row"] ["machine", "row"] (aj lC):=⟨rfl,rfl,rfl,by decide +kernel,rfl,by decide +kernel,by decide +kernel⟩
theorem Hs {f C:Addr} {fd:FuncData} (F:dj K "do_see" "do_see" lC f fd) (T:je K mg C):aL P w K mg base cg 1 f fd ["machine", "row"] (EG C):=by
 refine F.ok Hr (fun vs H Q E h=>?_) (fun cdv A outer s H vs Q E hr h=>?_)
 ·obtain ⟨x,q,m,rows,ay,B,z,h,u,b,v,rfl,_⟩:=h
  rfl
 ·obtain ⟨x,q,m,rows,ay,B,z,h,u,b,v,rfl,M,hB,hh,hq,hb,k⟩:=h
  have hu:=dv hr
  obtain ⟨w0,ho,hw⟩:=M.obj
  have M1:=M.more (le_succ B) (by omega)
  refine ⟨_,au (bQ (dR PySem.F.plainAttrs_list PySem.F.slot_list_append PySem.F.type_list_append bZ (bg (pv 0) rfl) (ah (bt (ah (aJ aO (pv 1) ak (fun _ _=>rfl)) (ah (aJ aT (bg (pv 0) rfl) (aJ aO (pv 1) ak (fun _ _=>rfl)) (fun _ _=>rfl)) ao))) ao))),?_⟩
  have hb9:=M.big
  have hl:=M.lens
  obtain ⟨ps,s1,s2⟩:=M.seen
  have hpl:=s2.1
  refine ⟨_,rfl,x,C,m.dx,_,_,rfl,ho,T.cl,T.nS,zI,.inl ⟨rfl,_,bh.of s1⟩,_,rfl,q,_,_,.int v,rfl,rfl,bq.of hq,at2 _ _ _ _,_,rfl,x,C,m.dx,_,_,rfl,ho,T.cl,T.nB,dy,_,rfl,q,_,_,.int b,rfl,rfl,bq.of hq,at1 _ _ _,m.p2,_,_,_,rfl,rfl,bh.of M.box,M.at hb,cB,fun t nt=>?_⟩
  have e1:=ae (o:=.tup [.int v,.int (z.bx b)]) nt
  refine ⟨m.p7,_,_,rfl,rfl,e1 _ _ s1,(by rw [length_map]; exact eA (by omega)),?_⟩
  rw [show ps.map V.ref ++ [V.ref t]=(ps ++ [t]).map V.ref by simp]
  refine k _ ((Fr.same e1).trans (Fr.upd (.inr (.inr (.inr (.inr (.inr (.inr (.inl rfl))))))))) ((M1.same e1).KY ⟨by rw [length_append,length_append,hpl]; rfl,fun i p c hp hc=>?_⟩ (by rw [length_append]; show z.seen.length + 1 ≤ B + 1; omega))
  rcases Nat.lt_or_ge i ps.length with hi | hi
  ·rw [List.getElem?_append_left hi] at hp
   rw [List.getElem?_append_left (by omega)] at hc
   exact e1 _ _ (s2.2 i p c hp hc)
  ·rw [List.getElem?_append_right hi] at hp
   rw [List.getElem?_append_right (by omega)] at hc
   have h0:i - ps.length=0:=by
    have:=(List.getElem?_eq_some_iff.mp hp).1
    simp at this
    omega
   have h1:i - z.seen.length=0:=by omega
   rw [h0] at hp
   rw [h1] at hc
   have hp:=Option.some.inj hp
   have hc:=Option.some.inj hc
   subst hp hc
   exact ai
theorem CO:aI ["machine", "row"] ["machine", "row"] (aj iC):=⟨rfl,rfl,rfl,by decide +kernel,rfl,by decide +kernel,by decide +kernel⟩
theorem CP {f C:Addr} {fd:FuncData} (F:dj K "do_jump" "do_jump" iC f fd) (T:je K mg C):aL P w K mg base cg 1 f fd ["machine", "row"] (zQ C):=by
 refine F.ok CO (fun vs H Q E h=>?_) (fun cdv A outer s H vs Q E hr h=>?_)
 ·obtain ⟨x,q,m,rows,ay,B,z,h,u,t,f,rfl,_⟩:=h
  rfl
 ·obtain ⟨x,q,m,rows,ay,B,z,h,u,t,f,rfl,M,hB,hh,hq,k⟩:=h
  have hu:=dv hr
  obtain ⟨w0,ho,hw⟩:=M.obj
  have M1:=M.more (le_succ B) (by omega)
  refine ⟨_,au (cS (pv 0) (aJ aO (pv 1) ak (fun _ _=>rfl)) rfl),?_⟩
  refine ⟨_,rfl,q,_,_,.int t,rfl,rfl,bq.of hq,at1 _ _ _,_,rfl,x,C,m.dx,_,rfl,ho,T.cl,T.nH,jm,?_⟩
  rw [ig]
  exact k _ (Fr.upd (.inl rfl)) (M1.put (k':=z.k) (ft:=.int t) hw)
theorem CQ:aI ["machine", "row"] ["machine", "row"] (aj iE):=⟨rfl,rfl,rfl,by decide +kernel,rfl,by decide +kernel,by decide +kernel⟩
theorem CT {f C:Addr} {fd:FuncData} (F:dj K "do_zero" "do_zero" iE f fd) (T:je K mg C):aL P w K mg base cg 1 f fd ["machine", "row"] (zR C):=by
 refine F.ok CQ (fun vs H Q E h=>?_) (fun cdv A outer s H vs Q E hr h=>?_)
 ·obtain ⟨x,q,m,rows,ay,B,z,h,u,b,t,f,rfl,_⟩:=h
  rfl
 ·obtain ⟨x,q,m,rows,ay,B,z,h,u,b,t,f,rfl,M,hB,hh,hq,hb,k⟩:=h
  have hu:=dv hr
  obtain ⟨w0,ho,hw⟩:=M.obj
  have M1:=M.more (le_succ B) (by omega)
  refine ⟨_,au (cV (aS d7 (aJ aT (bg (pv 0) rfl) (aJ aO (pv 1) ak (fun _ _=>rfl)) (fun _ _=>rfl)) ak (bz _)) (au (cS (pv 0) (aJ aO (pv 1) ak (fun _ _=>rfl)) rfl)) aX),?_⟩
  refine ⟨_,rfl,x,C,m.dx,_,_,rfl,ho,T.cl,T.nB,dy,_,rfl,q,_,_,.int b,rfl,rfl,bq.of hq,at1 _ _ _,m.p2,_,_,_,rfl,rfl,bh.of M.box,M.at hb,rfl,_,rfl,?_⟩
  refine cC (fun e=>?_) (fun e=>?_)
  ·have e:=V.int.inj (of_decide_eq_true e)
   refine ⟨_,rfl,q,_,_,.int t,rfl,rfl,bq.of hq,at2 _ _ _ _,_,rfl,x,C,m.dx,_,rfl,ho,T.cl,T.nH,jm,?_⟩
   rw [ig]
   rw [if_pos e] at k
   exact k _ (Fr.upd (.inl rfl)) (M1.put (k':=z.k) (ft:=.int t) hw)
  ·rw [if_neg (fun c=>e (decide_eq_true (congrArg V.int c))),← hh] at k
   exact k _ Fr.refl M1
theorem zW:aI ["machine", "row"] ["machine", "row"] (aj fz):=⟨rfl,rfl,rfl,by decide +kernel,rfl,by decide +kernel,by decide +kernel⟩
theorem zX {f C:Addr} {fd:FuncData} (F:dj K "do_below" "do_below" fz f fd) (T:je K mg C):aL P w K mg base cg 1 f fd ["machine", "row"] (vB C):=by
 refine F.ok zW (fun vs H Q E h=>?_) (fun cdv A outer s H vs Q E hr h=>?_)
 ·obtain ⟨x,q,m,rows,ay,B,z,h,u,b,t,f,rfl,_⟩:=h
  rfl
 ·obtain ⟨x,q,m,rows,ay,B,z,h,u,b,t,f,rfl,M,hB,hh,hq,hb,k⟩:=h
  have hu:=dv hr
  obtain ⟨w0,ho,hw⟩:=M.obj
  have M1:=M.more (le_succ B) (by omega)
  refine ⟨_,au (cV (aS oZ (aJ aT (bg (pv 0) rfl) (aJ aO (pv 1) ak (fun _ _=>rfl)) (fun _ _=>rfl)) ak (bz _)) (au (cS (pv 0) (aJ aO (pv 1) ak (fun _ _=>rfl)) rfl)) aX),?_⟩
  refine ⟨_,rfl,x,C,m.dx,_,_,rfl,ho,T.cl,T.nB,dy,_,rfl,q,_,_,.int b,rfl,rfl,bq.of hq,at1 _ _ _,m.p2,_,_,_,rfl,rfl,bh.of M.box,M.at hb,_,_,rfl,rfl,_,rfl,?_⟩
  refine cC (fun e=>?_) (fun e=>?_)
  ·have e:=of_decide_eq_true e
   refine ⟨_,rfl,q,_,_,.int t,rfl,rfl,bq.of hq,at2 _ _ _ _,_,rfl,x,C,m.dx,_,rfl,ho,T.cl,T.nH,jm,?_⟩
   rw [ig]
   rw [if_pos e] at k
   exact k _ (Fr.upd (.inl rfl)) (M1.put (k':=z.k) (ft:=.int t) hw)
  ·rw [if_neg (fun c=>e (decide_eq_true c)),← hh] at k
   exact k _ Fr.refl M1
theorem CU:aI ["machine", "row"] ["machine", "row"] (aj ik):=⟨rfl,rfl,rfl,by decide +kernel,rfl,by decide +kernel,by decide +kernel⟩
theorem CV {f C:Addr} {fd:FuncData} (F:dj K "do_stop" "do_stop" ik f fd) (T:je K mg C)
  {fE:Addr} {vz:FuncData} (GE:aL P w K mg base cg 1 fE vz ["machine", "how"] (vD C)) (kE:KI K fE) (bE:Binds K vz ["machine", "how"] []) (mE:mg "end" = some (.ref fE)):aL P w K mg base cg 2 f fd ["machine", "row"] (zS C):=by
 refine F.ok CU (fun vs H Q E h=>?_) (fun cdv A outer s H vs Q E hr h=>?_)
 ·obtain ⟨x,q,m,rows,ay,B,z,h,u,items,rfl,_⟩:=h
  rfl
 ·obtain ⟨x,q,m,rows,ay,B,z,h,u,items,rfl,M,hB,hh,hq,k⟩:=h
  have hu:=dv hr
  obtain ⟨w0,ho,hw⟩:=M.obj
  have M1:=M.more (le_succ B) (by omega)
  refine ⟨_,au (bQ (aM GE hr rfl mE kE bE .nil aZ (ah (pv 0) (ah (bt (ah az ao)) ao)))),?_⟩
  refine ⟨_,rfl,fc,fun t nt=>?_⟩
  have s1:=ae (o:=.tup [.str "stop"]) nt
  exact ⟨x,t,_,m,rows,ay,B + 1,z,rfl,ai,M1.same s1,fun H' e=>k H' ((Fr.same s1).trans e)⟩
theorem CW:aI ["machine", "row"] ["machine", "row"] (aj il):=⟨rfl,rfl,rfl,by decide +kernel,rfl,by decide +kernel,by decide +kernel⟩
theorem CY {f C:Addr} {fd:FuncData} (F:dj K "do_halt" "do_halt" il f fd) (T:je K mg C)
  {fE:Addr} {vz:FuncData} (GE:aL P w K mg base cg 1 fE vz ["machine", "how"] (vD C)) (kE:KI K fE) (bE:Binds K vz ["machine", "how"] []) (mE:mg "end" = some (.ref fE)):aL P w K mg base cg 2 f fd ["machine", "row"] (zT C):=by
 refine F.ok CW (fun vs H Q E h=>?_) (fun cdv A outer s H vs Q E hr h=>?_)
 ·obtain ⟨x,q,m,rows,ay,B,z,h,u,v,rfl,_⟩:=h
  rfl
 ·obtain ⟨x,q,m,rows,ay,B,z,h,u,v,rfl,M,hB,hh,hq,k⟩:=h
  have hu:=dv hr
  obtain ⟨w0,ho,hw⟩:=M.obj
  have M1:=M.more (le_succ B) (by omega)
  refine ⟨_,au (bQ (aM GE hr rfl mE kE bE .nil aZ (ah (pv 0) (ah (bt (ah az (ah (aJ aO (pv 1) ak (fun _ _=>rfl)) ao))) ao)))),?_⟩
  refine ⟨_,rfl,_,rfl,q,_,_,.int v,rfl,rfl,bq.of hq,at1 _ _ _,cB,fun t nt=>?_⟩
  have s1:=ae (o:=.tup [.str "halt",.int v]) nt
  exact ⟨x,t,_,m,rows,ay,B + 1,z,rfl,ai,M1.same s1,fun H' e=>k H' ((Fr.same s1).trans e)⟩
theorem CZ:aI ["machine", "row"] ["machine", "row"] (aj ip):=⟨rfl,rfl,rfl,by decide +kernel,rfl,by decide +kernel,by decide +kernel⟩
theorem C0 {f C:Addr} {fd:FuncData} (F:dj K "do_back" "do_back" ip f fd) (T:je K mg C)
  {fE:Addr} {vz:FuncData} (GE:aL P w K mg base cg 1 fE vz ["machine", "how"] (vD C)) (kE:KI K fE) (bE:Binds K vz ["machine", "how"] []) (mE:mg "end" = some (.ref fE)) (ln:mg "len" = none):aL P w K mg base cg 2 f fd ["machine", "row"] (zV C):=by
 refine F.ok CZ (fun vs H Q E h=>?_) (fun cdv A outer s H vs Q E hr h=>?_)
 ·obtain ⟨x,q,m,rows,ay,B,z,h,u,items,rfl,_⟩:=h
  rfl
 ·obtain ⟨x,q,m,rows,ay,B,z,h,u,items,rfl,M,hB,hh,hq,k⟩:=h
  have hu:=dv hr
  obtain ⟨w0,ho,hw⟩:=M.obj
  have M1:=M.more (le_succ B) (by omega)
  refine ⟨_,au (cV (aS d7 (bu aY (by rfl) ln cT (ah (bg (pv 0) rfl) ao)) ak (bz _)) (au (bQ (aM GE hr (by rfl) mE kE bE .nil aZ (ah (pv 0) (ah (bt (ah az ao)) ao))))) (au (cS (pv 0) (yi PySem.F.plainAttrs_list PySem.F.slot_list_pop PySem.F.type_list_pop yk (bg (pv 0) rfl)) rfl))),?_⟩
  refine ⟨_,rfl,x,C,m.dx,_,_,rfl,ho,T.cl,T.nL,qP,m.p8,_,rfl,.inl (bh.of M.lM),rfl,_,rfl,?_⟩
  refine cC (fun e=>?_) (fun e=>?_)
  ·have e:=V.int.inj (of_decide_eq_true e)
   rw [length_map] at e
   have e2:z.pile=[]:=List.eq_nil_of_length_eq_zero (by omega)
   refine ⟨_,rfl,fc,fun t nt=>?_⟩
   have s1:=ae (o:=.tup [.str "home"]) nt
   exact ⟨x,t,_,m,rows,ay,B + 1,z,rfl,ai,M1.same s1,fun H' e=>k.1 e2 H' ((Fr.same s1).trans e)⟩
  ·have e2:z.pile ≠ []:=fun c=>e (by rw [c]; exact decide_eq_true rfl)
   obtain ⟨r,p,e3⟩:∃ r p,z.pile=r ++ [p]:=⟨z.pile.dropLast,z.pile.getLast e2,(List.dropLast_concat_getLast e2).symm⟩
   have hl:(z.pile.map V.int)[(z.pile.map V.int).length - 1]? = some (V.int p):=by
    rw [e3]
    simp
   have hd:(z.pile.map V.int).dropLast=r.map V.int:=by
    rw [e3]
    simp
   refine ⟨_,rfl,x,C,m.dx,_,_,rfl,ho,T.cl,T.nL,qP,.inl ⟨rfl,_,bh.of M.lM⟩,m.p8,_,V.int p,rfl,rfl,M.lM,hl,?_⟩
   rw [hd]
   have M2:=M1.EB (p':=r) (by have:=M.lens.2.2; have:z.pile.length=r.length + 1:=(by rw [e3]; simp); omega)
   obtain ⟨w2,ho2,hw2⟩:=M2.obj
   refine ⟨_,rfl,x,C,m.dx,_,rfl,ho2,T.cl,T.nH,jm,?_⟩
   rw [ig]
   exact k.2 r p e3 _ ((Fr.upd (.inr (.inr (.inr (.inr (.inr (.inr (.inr rfl)))))))).trans (Fr.upd (.inl rfl))) (M2.put (k':=z.k) (ft:=.int p) hw2)
theorem C1:aI ["machine", "row"] ["machine", "row"] (aj iF):=⟨rfl,rfl,rfl,by decide +kernel,rfl,by decide +kernel,by decide +kernel⟩
theorem vE {f C:Addr} {fd:FuncData} (F:dj K "do_call" "do_call" iF f fd) (T:je K mg C):aL P w K mg base cg 1 f fd ["machine", "row"] (uj C):=by
 refine F.ok C1 (fun vs H Q E h=>?_) (fun cdv A outer s H vs Q E hr h=>?_)
 ·obtain ⟨x,q,m,rows,ay,B,z,h,u,t,f,rfl,_⟩:=h
  rfl
 ·obtain ⟨x,q,m,rows,ay,B,z,h,u,t,f,rfl,M,hB,hh,hq,k⟩:=h
  have hu:=dv hr
  obtain ⟨w0,ho,hw⟩:=M.obj
  have M1:=M.more (le_succ B) (by omega)
  refine ⟨_,aD (bQ (dR PySem.F.plainAttrs_list PySem.F.slot_list_append PySem.F.type_list_append bZ (bg (pv 0) rfl) (ah (bg (pv 0) rfl) ao))) (au (cS (pv 0) (aJ aO (pv 1) ak (fun _ _=>rfl)) rfl)),?_⟩
  have hb9:=M.big
  have hl:=M.lens
  have hf:(dW m z.k z.here w0).lookup ("here" : Str)=some (V.int h):=by rw [oa,hh]
  refine ⟨_,rfl,x,C,m.dx,_,_,rfl,ho,T.cl,T.nL,qP,.inl ⟨rfl,_,bh.of M.lM⟩,_,rfl,x,C,m.dx,_,_,rfl,ho,T.cl,T.nH,hf,m.p8,_,_,rfl,rfl,M.lM,(by rw [length_map]; exact eA (by omega)),?_⟩
  rw [show z.pile.map V.int ++ [V.int h]=(z.pile ++ [h]).map V.int by simp]
  have M2:=M1.EB (p':=z.pile ++ [h]) (by rw [length_append]; show z.pile.length + 1 ≤ B + 1; omega)
  obtain ⟨w2,ho2,hw2⟩:=M2.obj
  have hq2:upd H m.p8 (.lst ((z.pile ++ [h]).map V.int)) q=some (.tup [.str u,.int t,.int f]):=by
   rw [aq (cH hq M.lM (by intro z; cases z))]
   exact hq
  refine ⟨_,rfl,q,_,_,.int t,rfl,rfl,bq.of hq2,at1 _ _ _,_,rfl,x,C,m.dx,_,rfl,ho2,T.cl,T.nH,jm,?_⟩
  rw [ig]
  exact k _ ((Fr.upd (.inr (.inr (.inr (.inr (.inr (.inr (.inr rfl)))))))).trans (Fr.upd (.inl rfl))) (M2.put (k':=z.k) (ft:=.int t) hw2)
theorem vF:aI ["machine", "row", "number"] ["machine", "row"] (aj iG):=⟨rfl,rfl,rfl,by decide +kernel,rfl,by decide +kernel,by decide +kernel⟩
theorem C2 {f C:Addr} {fd:FuncData} (F:dj K "do_mark" "do_mark" iG f fd) (T:je K mg C)
  {fC:Addr} {EH:FuncData} (GC:aL P w K mg base cg 1 fC EH ["machine", "row"] (uj C)) (kC:KI K fC) (bC:Binds K EH ["machine", "row"] []) (mC:mg "do_call" = some (.ref fC)):aL P w K mg base cg 2 f fd ["machine", "row"] (zU C):=by
 refine F.ok vF (fun vs H Q E h=>?_) (fun cdv A outer s H vs Q E hr h=>?_)
 ·obtain ⟨x,q,m,rows,ay,B,z,h,u,t,f,o,rfl,_⟩:=h
  rfl
 ·obtain ⟨x,q,m,rows,ay,B,z,h,u,t,f,o,rfl,M,hB,hh,hq,hv,k⟩:=h
  have hu:=dv hr
  obtain ⟨w0,ho,hw⟩:=M.obj
  have M1:=M.more (le_succ B) (by omega)
  refine ⟨_,aD (aW (i:=2) vF.nd rfl (Or.inl rfl) (bg (pv 0) rfl)) (aD (cS (pv 0) (aG cm (pv 2) ak) rfl) (au (cV (qo (tI hu (pv 2) (bg (pv 0) rfl))) (au (bQ (aM GC hr (by rfl) mC kC bC .nil aZ (ah (pv 0) (ah (pv 1) ao))))) aX))),?_⟩
  refine ⟨_,rfl,x,C,m.dx,_,_,rfl,ho,T.cl,T.nM,Cw,?_⟩
  refine ⟨_,rfl,_,_,rfl,rfl,_,rfl,x,C,m.dx,_,rfl,ho,T.cl,T.nM,jm,?_⟩
  rw [Cy]
  have M2:=M.put (k':=z.k + 1) (ft:=z.here) hw
  refine ⟨_,rfl,_,rfl,x,C,m.dx,_,_,rfl,ai,T.cl,T.nR,Hg,m.p5,_,rfl,gW.k (k:=Sum.inl z.k) M2.rg,_,rfl,?_⟩
  rw [hv]
  refine cC (fun e=>?_) (fun e=>?_)
  ·have hq2:upd H x (.ins C m.dx (dW m (z.k + 1) z.here w0)) q=some (.tup [.str u,.int t,.int f]):=by
    rw [aq (cH hq ho (by intro z; cases z))]
    exact hq
   exact ⟨_,rfl,_,rfl,x,q,m,rows,ay,B,_,h,u,t,f,rfl,M2,hB,hh,hq2,fun H' e1 e2=>k.1 e H' ((Fr.upd (.inl rfl)).trans e1) e2⟩
  ·exact k.2 (by simpa using e) _ (Fr.upd (.inl rfl)) (M2.more (le_succ B) (by omega))
theorem sr:aI ["machine", "row", "k"] ["machine", "row"] (aj fA):=⟨rfl,rfl,rfl,by decide +kernel,rfl,by decide +kernel,by decide +kernel⟩
theorem zY {f C:Addr} {fd:FuncData} (F:dj K "do_table" "do_table" fA f fd) (T:je K mg C) (ln:mg "len" = none):aL P w K mg base cg 1 f fd ["machine", "row"] (vC C):=by
 refine F.ok sr (fun vs H Q E h=>?_) (fun cdv A outer s H vs Q E hr h=>?_)
 ·obtain ⟨x,q,m,rows,ay,B,z,h,u,b,p,ts,rfl,_⟩:=h
  rfl
 ·obtain ⟨x,q,m,rows,ay,B,z,h,u,b,p,ts,rfl,M,hB,hh,hq,hb,hp,k⟩:=h
  have hu:=dv hr
  obtain ⟨w0,ho,hw⟩:=M.obj
  have M1:=M.more (le_succ B) (by omega)
  refine ⟨_,aD (aW (i:=2) sr.nd rfl (Or.inl rfl) (aJ aT (bg (pv 0) rfl) (aJ aO (pv 1) ak (fun _ _=>rfl)) (fun _ _=>rfl))) (au (cV (rE o8 oZ ak (pv 2) (bu aY (by rfl) ln cT (ah (aJ aO (pv 1) ak (fun _ _=>rfl)) ao))) (au (cS (pv 0) (aJ aO (aJ aO (pv 1) ak (fun _ _=>rfl)) (pv 2) (fun _ _=>rfl)) rfl)) aX)),?_⟩
  refine ⟨_,rfl,x,C,m.dx,_,_,rfl,ho,T.cl,T.nB,dy,_,rfl,q,_,_,.int b,rfl,rfl,bq.of hq,at1 _ _ _,m.p2,_,_,_,rfl,rfl,bh.of M.box,M.at hb,?_⟩
  unfold Zt.bx at k
  generalize z.bs.getD b.toNat 0=c at k
  refine ⟨_,rfl,_,_,rfl,rfl,_,rfl,?_⟩
  refine cC (fun e1=>?_) (fun e1=>?_)
  ·have e1:=of_decide_eq_true e1
   refine ⟨_,rfl,q,_,_,.ref p,rfl,rfl,bq.of hq,at2 _ _ _ _,p,_,rfl,.inr (bq.of hp),_,_,rfl,rfl,_,rfl,?_⟩
   refine cC (fun e2=>?_) (fun e2=>?_)
   ·have e2:=of_decide_eq_true e2
    rw [length_map] at e2
    obtain ⟨j,rfl⟩:=Int.eq_ofNat_of_zero_le e1
    have hj:j < ts.length:=by omega
    have hat:kZ (ts.map V.int) (j:Int)=some (.int (ts.getD j 0)):=by
     refine cL (j:=j) ?_
     rw [List.getElem?_map,List.getElem?_eq_getElem hj,List.getD_eq_getElem?_getD,List.getElem?_eq_getElem hj]
     rfl
    refine ⟨_,rfl,q,_,_,.ref p,rfl,rfl,bq.of hq,at2 _ _ _ _,_,rfl,p,_,_,_,rfl,rfl,bq.of hp,hat,_,rfl,x,C,m.dx,_,rfl,ho,T.cl,T.nH,jm,?_⟩
    rw [ig]
    rw [if_pos ⟨e1,e2⟩,Int.toNat_natCast] at k
    exact k _ (Fr.upd (.inl rfl)) (M1.put (k':=z.k) (ft:=.int (ts.getD j 0)) hw)
   ·rw [if_neg (fun c=>e2 (decide_eq_true (by rw [length_map]; exact c.2))),← hh] at k
    exact k _ Fr.refl M1
  ·rw [if_neg (fun c=>e1 (decide_eq_true c.1)),← hh] at k
   exact ⟨_,rfl,oK (k _ Fr.refl M1)⟩
end
abbrev pX:Stmt:=inClass (top 53) 0
abbrev pY:Stmt:=inClass (top 53) 1
abbrev pZ:Stmt:=inClass (top 53) 10
theorem C3:bootBuiltins "dict" = some (.type "dict"):=by decide +kernel
def bp (a:Addr) (H H':Hp):Prop:=∀ c o,c ≠ a→H c=some o→H' c=some o
theorem bp.refl {a:Addr} {H:Hp}:bp a H H:=fun _ _ _ e=>e
theorem bp.trans {a:Addr} {H H' H'':Hp} (e:bp a H H') (e':bp a H' H''):bp a H H'':=fun c o n h=>e' c o n (e c o n h)
theorem bp.put {a:Addr} {H:Hp} {o:HO}:bp a H (upd H a o):=fun c u n h=>by rw [aq n]; exact h
theorem bp.same {a:Addr} {H H':Hp} (e:Same H H'):bp a H H':=fun c o _ h=>e c o h
theorem bp.free {l:Addr} {H H1:Hp} {q:Addr} (x:bp l H H1) (h:q ≠ l) (n:H1 q=none):H q=none:=by
 cases e:H q with
 | none=>rfl
 | some o=>rw [x q o h e] at n; exact absurd n (by simp)
section
variable {P:Program} {w:World} {K:Frag} {mg:Str→Option Value} {base:Heap}
def z0 (bs:List Int) (cf:Int→Int):Zt:=⟨.int 0,none,bs,cf,fun _=>0,[],[],[],0⟩
def zZ (C:Addr):Sp:=fun vs H Q _=>∃ (x dx a1 a2 a3 a4:Addr) (rows:List V) (bs bells:List Int) (d0:List (Key × V)) (cf:Int→Int),vs=[.ref x,.ref a1,.ref a2,.ref a3,.ref a4]∧H x=some (.ins C dx [])∧H a1=some (.lst rows)∧H a2=some (.lst (bs.map V.int))∧bs.length=8 ∧
 H a3=some (.dK d0)∧Rep d0 cf∧d0.length ≤ 50∧H a4=some (.lst (bells.map V.int))∧bells.length ≤ 100∧∀ (m:MA) (ay:List (Key × V)) (H':Hp),(∀ j:Int,(cF ay (Sum.inl j)).isSome=decide (j ∈ bells))→MG C H' x m rows ay 50 (z0 bs cf)→bp x H H'→(∀ c,Own m x c∨c=m.p1→c ≠ x→H c=none)→Q .non H'
theorem z9:aI ["self", "rows", "boxes", "cells", "bells", "bell"] ["self", "rows", "boxes", "cells", "bells"] (aj pX):=⟨rfl,rfl,rfl,by decide +kernel,rfl,by decide +kernel,by decide +kernel⟩
theorem C4 {f C:Addr} {fd:FuncData} (F:dj K "__init__" "Machine.__init__" pX f fd) (TT:Txt K w.params mg) (T:je K mg C):aL P w K mg base cg 1 f fd ["self", "rows", "boxes", "cells", "bells"] (zZ C):=by
 refine F.ok z9 (fun vs H Q E h=>?_) (fun cdv A outer s H vs Q E hr h=>?_)
 ·obtain ⟨x,dx,a1,a2,a3,a4,rows,bs,bells,d0,cf,rfl,_⟩:=h
  rfl
 ·obtain ⟨x,dx,a1,a2,a3,a4,rows,bs,bells,d0,cf,rfl,hx,h1,h2,b8,h3,hrep,hdl,h4,bl,z⟩:=h
  have hu:=dv hr
  refine ⟨_,aD (cS (pv 0) (cK dh (by rfl) TT.list gL (ah (pv 1) ao)) rfl)
   (aD (cS (pv 0) (cK dh (by rfl) TT.list gL (ah (pv 2) ao)) rfl)
   (aD (cS (pv 0) (cK qL (by rfl) TT.dict C3 (ah (pv 3) ao)) rfl)
   (aD (cS (pv 0) hZ rfl) (aD (cS (pv 0) hZ rfl)
   (aD (df PassesOwn.never rfl (eC (pv 4)) (cu (i:=5) z9.nd rfl (Or.inl rfl)) (au (fq hu (bg (pv 0) rfl) (pv 5) jf rfl)))
   (aD (cS (pv 0) (ck ao) rfl) (aD (cS (pv 0) (ck ao) rfl) (aD (cS (pv 0) (ck ao) rfl)
   (aD (cS (pv 0) ak rfl) (aD (cS (pv 0) ak rfl) (au (cS (pv 0) jW rfl)))))))))))),?_⟩
  have xa:∀ {a o},H a=some o→(∀ fs,o ≠ .ins C dx fs)→a ≠ x:=fun {a o} e n=>cH e hx (n _)
  have x1:=xa h1 (by intro _ z; cases z)
  have x2:=xa h2 (by intro _ z; cases z)
  have x3:=xa h3 (by intro _ z; cases z)
  have x4:=xa h4 (by intro _ z; cases z)
  have S0:bp x H H:=bp.refl
  have O0:=hx
  refine ⟨_,rfl,a1,_,rfl,.inl (bh.of h1),fun p1 n1=>?_⟩
  have y1:p1 ≠ x:=(aB O0 n1).symm
  have f1:H p1=none:=S0.free y1 n1
  refine ⟨_,rfl,x,C,dx,([]:List (Str × V)),rfl,ae n1 _ _ O0,T.cl,T.nP,(by show 0 < 1000; decide),?_⟩
  rw [show dC ("program" : Str) (V.ref p1) ([]:List (Str × V))=(List.zip ["program"] [V.ref p1]:List (Str × V)) from rfl]
  obtain ⟨G1,E1⟩:∃ G,G=upd (upd H p1 (.lst rows)) x (.ins C dx (List.zip ["program"] [V.ref p1]:List (Str × V))):=⟨_,rfl⟩
  have R1:bp x H G1:=by rw [E1]; exact (bp.same (ae n1)).trans bp.put
  have K1:G1 p1=some (.lst rows):=by rw [E1,aq y1]; exact ai
  have O1:G1 x=some (.ins C dx (List.zip ["program"] [V.ref p1]:List (Str × V))):=by rw [E1]; exact ai
  have S1:bp x H G1:=S0.trans R1
  rw [← E1]
  clear E1
  refine ⟨_,rfl,a2,_,rfl,.inl (bh.of (S1 _ _ x2 h2)),fun p2 n2=>?_⟩
  have y2:p2 ≠ x:=(aB O1 n2).symm
  have f2:H p2=none:=S1.free y2 n2
  refine ⟨_,rfl,x,C,dx,(List.zip ["program"] [V.ref p1]:List (Str × V)),rfl,ae n2 _ _ O1,T.cl,T.nB,(by show 1 < 1000; decide),?_⟩
  rw [show dC ("in_boxes" : Str) (V.ref p2) (List.zip ["program"] [V.ref p1]:List (Str × V))=(List.zip ["program", "in_boxes"] [V.ref p1,V.ref p2]:List (Str × V)) from d6 _ _ _ _ (by decide +kernel) rfl]
  obtain ⟨G2,E2⟩:∃ G,G=upd (upd G1 p2 (.lst (bs.map V.int))) x (.ins C dx (List.zip ["program", "in_boxes"] [V.ref p1,V.ref p2]:List (Str × V))):=⟨_,rfl⟩
  have R2:bp x G1 G2:=by rw [E2]; exact (bp.same (ae n2)).trans bp.put
  have K2:G2 p2=some (.lst (bs.map V.int)):=by rw [E2,aq y2]; exact ai
  have O2:G2 x=some (.ins C dx (List.zip ["program", "in_boxes"] [V.ref p1,V.ref p2]:List (Str × V))):=by rw [E2]; exact ai
  have S2:bp x H G2:=S1.trans R2
  rw [← E2]
  clear E2
  refine ⟨_,rfl,a3,_,rfl,S2 _ _ x3 h3,fun p3 n3=>?_⟩
  have y3:p3 ≠ x:=(aB O2 n3).symm
  have f3:H p3=none:=S2.free y3 n3
  refine ⟨_,rfl,x,C,dx,(List.zip ["program", "in_boxes"] [V.ref p1,V.ref p2]:List (Str × V)),rfl,ae n3 _ _ O2,T.cl,T.nC,(by show 2 < 1000; decide),?_⟩
  rw [show dC ("in_cells" : Str) (V.ref p3) (List.zip ["program", "in_boxes"] [V.ref p1,V.ref p2]:List (Str × V))=(List.zip ["program", "in_boxes", "in_cells"] [V.ref p1,V.ref p2,V.ref p3]:List (Str × V)) from d6 _ _ _ _ (by decide +kernel) rfl]
  obtain ⟨G3,E3⟩:∃ G,G=upd (upd G2 p3 (.dK d0)) x (.ins C dx (List.zip ["program", "in_boxes", "in_cells"] [V.ref p1,V.ref p2,V.ref p3]:List (Str × V))):=⟨_,rfl⟩
  have R3:bp x G2 G3:=by rw [E3]; exact (bp.same (ae n3)).trans bp.put
  have K3:G3 p3=some (.dK d0):=by rw [E3,aq y3]; exact ai
  have O3:G3 x=some (.ins C dx (List.zip ["program", "in_boxes", "in_cells"] [V.ref p1,V.ref p2,V.ref p3]:List (Str × V))):=by rw [E3]; exact ai
  have S3:bp x H G3:=S2.trans R3
  rw [← E3]
  clear E3
  intro p4 n4
  have y4:p4 ≠ x:=(aB O3 n4).symm
  have f4:H p4=none:=S3.free y4 n4
  refine ⟨_,rfl,x,C,dx,(List.zip ["program", "in_boxes", "in_cells"] [V.ref p1,V.ref p2,V.ref p3]:List (Str × V)),rfl,ae n4 _ _ O3,T.cl,T.nA,(by show 3 < 1000; decide),?_⟩
  rw [show dC ("in_asides" : Str) (V.ref p4) (List.zip ["program", "in_boxes", "in_cells"] [V.ref p1,V.ref p2,V.ref p3]:List (Str × V))=(List.zip ["program", "in_boxes", "in_cells", "in_asides"] [V.ref p1,V.ref p2,V.ref p3,V.ref p4]:List (Str × V)) from d6 _ _ _ _ (by decide +kernel) rfl]
  obtain ⟨G4,E4⟩:∃ G,G=upd (upd G3 p4 (.dK [])) x (.ins C dx (List.zip ["program", "in_boxes", "in_cells", "in_asides"] [V.ref p1,V.ref p2,V.ref p3,V.ref p4]:List (Str × V))):=⟨_,rfl⟩
  have R4:bp x G3 G4:=by rw [E4]; exact (bp.same (ae n4)).trans bp.put
  have K4:G4 p4=some (.dK []):=by rw [E4,aq y4]; exact ai
  have O4:G4 x=some (.ins C dx (List.zip ["program", "in_boxes", "in_cells", "in_asides"] [V.ref p1,V.ref p2,V.ref p3,V.ref p4]:List (Str × V))):=by rw [E4]; exact ai
  have S4:bp x H G4:=S3.trans R4
  rw [← E4]
  clear E4
  intro p5 n5
  have y5:p5 ≠ x:=(aB O4 n5).symm
  have f5:H p5=none:=S4.free y5 n5
  refine ⟨_,rfl,x,C,dx,(List.zip ["program", "in_boxes", "in_cells", "in_asides"] [V.ref p1,V.ref p2,V.ref p3,V.ref p4]:List (Str × V)),rfl,ae n5 _ _ O4,T.cl,T.nR,(by show 4 < 1000; decide),?_⟩
  rw [show dC ("rung" : Str) (V.ref p5) (List.zip ["program", "in_boxes", "in_cells", "in_asides"] [V.ref p1,V.ref p2,V.ref p3,V.ref p4]:List (Str × V))=(List.zip ["program", "in_boxes", "in_cells", "in_asides", "rung"] [V.ref p1,V.ref p2,V.ref p3,V.ref p4,V.ref p5]:List (Str × V)) from d6 _ _ _ _ (by decide +kernel) rfl]
  obtain ⟨G5,E5⟩:∃ G,G=upd (upd G4 p5 (.dK [])) x (.ins C dx (List.zip ["program", "in_boxes", "in_cells", "in_asides", "rung"] [V.ref p1,V.ref p2,V.ref p3,V.ref p4,V.ref p5]:List (Str × V))):=⟨_,rfl⟩
  have R5:bp x G4 G5:=by rw [E5]; exact (bp.same (ae n5)).trans bp.put
  have K5:G5 p5=some (.dK []):=by rw [E5,aq y5]; exact ai
  have O5:G5 x=some (.ins C dx (List.zip ["program", "in_boxes", "in_cells", "in_asides", "rung"] [V.ref p1,V.ref p2,V.ref p3,V.ref p4,V.ref p5]:List (Str × V))):=by rw [E5]; exact ai
  have S5:bp x H G5:=S4.trans R5
  rw [← E5]
  clear E5
  refine ⟨_,rfl,a4,rfl,⟨_,bh.of (S5 _ _ x4 h4)⟩,hU (xs:=bells.map V.int) (fun i σ Hc=>∃ (v:Option V) (ay:List (Key × V)),σ=[some (.ref x),some (.ref a1),some (.ref a2),some (.ref a3),some (.ref a4),v]∧(∀ c o,c ≠ p5→G5 c=some o→Hc c=some o)∧Hc p5=some (.dK ay)∧ay.length ≤ i∧∀ j:Int,(cF ay (Sum.inl j)).isSome=decide (j ∈ bells.take i)) ?_ ?_ ?_ ?_⟩
  ·exact ⟨none,[],rfl,fun _ _ _ e=>e,K5,le_refl _,fun j=>by simp [cF]⟩
  ·rintro i σ Hc _ ⟨v,ay,rfl,e5,_⟩
   have q5:a4 ≠ p5:=aB h4 f5
   exact bh.of (e5 _ _ q5 (S5 _ _ x4 h4))
  ·rintro i y σ Hc hy ⟨v,ay,rfl,e5,k5,rl,rv⟩
   rw [List.getElem?_map] at hy
   obtain ⟨b,hb,rfl⟩:=map_eq_some_iff.mp hy
   have hil:=(List.getElem?_eq_some_iff.mp hb).1
   refine ⟨_,rfl,x,C,dx,_,_,rfl,e5 _ _ y5.symm O5,T.cl,T.nR,(cY ["program", "in_boxes", "in_cells", "in_asides", "rung"] _ 4 _ (by decide +kernel) rfl),_,rfl,p5,_,rfl,mQ.k (k:=Sum.inl b) k5 (eA (by omega)),?_⟩
   refine ⟨_,_,rfl,fun c o n e=>?_,ai,?_,fun j=>?_⟩
   ·rw [aq n]
    exact e5 c o n e
   ·have:=du ay (Sum.inl b:Key) (V.bl true)
    omega
   ·rw [rK,take_succ,hb]
    by_cases hj:j=b
    ·subst hj
     rw [if_pos rfl]
     simp
    ·rw [if_neg (by intro e; exact hj (Sum.inl.inj e)),rv j]
     simp [hj]
  ·rintro σ Qi ⟨v,ay,rfl,e5,k5,rl,rv⟩
   rw [length_map,take_length] at rv
   have O5':=e5 _ _ y5.symm O5
   have S5':bp x H Qi:=fun c o n e=>by
    have hc:c ≠ p5:=aB e f5
    exact e5 c o hc (S5 c o n e)
   refine ⟨wU,fun p6 n6=>?_⟩
   have y6:p6 ≠ x:=(aB O5' n6).symm
   have f6:H p6=none:=S5'.free y6 n6
   refine ⟨_,rfl,x,C,dx,(List.zip ["program", "in_boxes", "in_cells", "in_asides", "rung"] [V.ref p1,V.ref p2,V.ref p3,V.ref p4,V.ref p5]:List (Str × V)),rfl,ae n6 _ _ O5',T.cl,T.nT,(by show 5 < 1000; decide),?_⟩
   rw [show dC ("told_numbers" : Str) (V.ref p6) (List.zip ["program", "in_boxes", "in_cells", "in_asides", "rung"] [V.ref p1,V.ref p2,V.ref p3,V.ref p4,V.ref p5]:List (Str × V))=(List.zip ["program", "in_boxes", "in_cells", "in_asides", "rung", "told_numbers"] [V.ref p1,V.ref p2,V.ref p3,V.ref p4,V.ref p5,V.ref p6]:List (Str × V)) from d6 _ _ _ _ (by decide +kernel) rfl]
   obtain ⟨G6,E6⟩:∃ G,G=upd (upd Qi p6 (.lst [])) x (.ins C dx (List.zip ["program", "in_boxes", "in_cells", "in_asides", "rung", "told_numbers"] [V.ref p1,V.ref p2,V.ref p3,V.ref p4,V.ref p5,V.ref p6]:List (Str × V))):=⟨_,rfl⟩
   have R6:bp x Qi G6:=by rw [E6]; exact (bp.same (ae n6)).trans bp.put
   have K6:G6 p6=some (.lst []):=by rw [E6,aq y6]; exact ai
   have O6:G6 x=some (.ins C dx (List.zip ["program", "in_boxes", "in_cells", "in_asides", "rung", "told_numbers"] [V.ref p1,V.ref p2,V.ref p3,V.ref p4,V.ref p5,V.ref p6]:List (Str × V))):=by rw [E6]; exact ai
   have S6:bp x H G6:=S5'.trans R6
   rw [← E6]
   clear E6
   refine ⟨wU,fun p7 n7=>?_⟩
   have y7:p7 ≠ x:=(aB O6 n7).symm
   have f7:H p7=none:=S6.free y7 n7
   refine ⟨_,rfl,x,C,dx,(List.zip ["program", "in_boxes", "in_cells", "in_asides", "rung", "told_numbers"] [V.ref p1,V.ref p2,V.ref p3,V.ref p4,V.ref p5,V.ref p6]:List (Str × V)),rfl,ae n7 _ _ O6,T.cl,T.nS,(by show 6 < 1000; decide),?_⟩
   rw [show dC ("seen_numbers" : Str) (V.ref p7) (List.zip ["program", "in_boxes", "in_cells", "in_asides", "rung", "told_numbers"] [V.ref p1,V.ref p2,V.ref p3,V.ref p4,V.ref p5,V.ref p6]:List (Str × V))=(List.zip ["program", "in_boxes", "in_cells", "in_asides", "rung", "told_numbers", "seen_numbers"] [V.ref p1,V.ref p2,V.ref p3,V.ref p4,V.ref p5,V.ref p6,V.ref p7]:List (Str × V)) from d6 _ _ _ _ (by decide +kernel) rfl]
   obtain ⟨G7,E7⟩:∃ G,G=upd (upd G6 p7 (.lst [])) x (.ins C dx (List.zip ["program", "in_boxes", "in_cells", "in_asides", "rung", "told_numbers", "seen_numbers"] [V.ref p1,V.ref p2,V.ref p3,V.ref p4,V.ref p5,V.ref p6,V.ref p7]:List (Str × V))):=⟨_,rfl⟩
   have R7:bp x G6 G7:=by rw [E7]; exact (bp.same (ae n7)).trans bp.put
   have K7:G7 p7=some (.lst []):=by rw [E7,aq y7]; exact ai
   have O7:G7 x=some (.ins C dx (List.zip ["program", "in_boxes", "in_cells", "in_asides", "rung", "told_numbers", "seen_numbers"] [V.ref p1,V.ref p2,V.ref p3,V.ref p4,V.ref p5,V.ref p6,V.ref p7]:List (Str × V))):=by rw [E7]; exact ai
   have S7:bp x H G7:=S6.trans R7
   rw [← E7]
   clear E7
   refine ⟨wU,fun p8 n8=>?_⟩
   have y8:p8 ≠ x:=(aB O7 n8).symm
   have f8:H p8=none:=S7.free y8 n8
   refine ⟨_,rfl,x,C,dx,(List.zip ["program", "in_boxes", "in_cells", "in_asides", "rung", "told_numbers", "seen_numbers"] [V.ref p1,V.ref p2,V.ref p3,V.ref p4,V.ref p5,V.ref p6,V.ref p7]:List (Str × V)),rfl,ae n8 _ _ O7,T.cl,T.nL,(by show 7 < 1000; decide),?_⟩
   rw [show dC ("pile" : Str) (V.ref p8) (List.zip ["program", "in_boxes", "in_cells", "in_asides", "rung", "told_numbers", "seen_numbers"] [V.ref p1,V.ref p2,V.ref p3,V.ref p4,V.ref p5,V.ref p6,V.ref p7]:List (Str × V))=(List.zip ["program", "in_boxes", "in_cells", "in_asides", "rung", "told_numbers", "seen_numbers", "pile"] [V.ref p1,V.ref p2,V.ref p3,V.ref p4,V.ref p5,V.ref p6,V.ref p7,V.ref p8]:List (Str × V)) from d6 _ _ _ _ (by decide +kernel) rfl]
   obtain ⟨G8,E8⟩:∃ G,G=upd (upd G7 p8 (.lst [])) x (.ins C dx (List.zip ["program", "in_boxes", "in_cells", "in_asides", "rung", "told_numbers", "seen_numbers", "pile"] [V.ref p1,V.ref p2,V.ref p3,V.ref p4,V.ref p5,V.ref p6,V.ref p7,V.ref p8]:List (Str × V))):=⟨_,rfl⟩
   have R8:bp x G7 G8:=by rw [E8]; exact (bp.same (ae n8)).trans bp.put
   have K8:G8 p8=some (.lst []):=by rw [E8,aq y8]; exact ai
   have O8:G8 x=some (.ins C dx (List.zip ["program", "in_boxes", "in_cells", "in_asides", "rung", "told_numbers", "seen_numbers", "pile"] [V.ref p1,V.ref p2,V.ref p3,V.ref p4,V.ref p5,V.ref p6,V.ref p7,V.ref p8]:List (Str × V))):=by rw [E8]; exact ai
   have S8:bp x H G8:=S7.trans R8
   rw [← E8]
   clear E8
   refine ⟨_,rfl,x,C,dx,(List.zip ["program", "in_boxes", "in_cells", "in_asides", "rung", "told_numbers", "seen_numbers", "pile"] [V.ref p1,V.ref p2,V.ref p3,V.ref p4,V.ref p5,V.ref p6,V.ref p7,V.ref p8]:List (Str × V)),rfl,O8,T.cl,T.nM,(by show 8 < 1000; decide),?_⟩
   rw [show dC ("marks_done" : Str) (V.int 0) (List.zip ["program", "in_boxes", "in_cells", "in_asides", "rung", "told_numbers", "seen_numbers", "pile"] [V.ref p1,V.ref p2,V.ref p3,V.ref p4,V.ref p5,V.ref p6,V.ref p7,V.ref p8]:List (Str × V))=(List.zip ["program", "in_boxes", "in_cells", "in_asides", "rung", "told_numbers", "seen_numbers", "pile", "marks_done"] [V.ref p1,V.ref p2,V.ref p3,V.ref p4,V.ref p5,V.ref p6,V.ref p7,V.ref p8,V.int 0]:List (Str × V)) from d6 _ _ _ _ (by decide +kernel) rfl]
   obtain ⟨G9,E9⟩:∃ G,G=upd G8 x (.ins C dx (List.zip ["program", "in_boxes", "in_cells", "in_asides", "rung", "told_numbers", "seen_numbers", "pile", "marks_done"] [V.ref p1,V.ref p2,V.ref p3,V.ref p4,V.ref p5,V.ref p6,V.ref p7,V.ref p8,V.int 0]:List (Str × V))):=⟨_,rfl⟩
   have R9:bp x G8 G9:=by rw [E9]; exact bp.put
   have O9:G9 x=some (.ins C dx (List.zip ["program", "in_boxes", "in_cells", "in_asides", "rung", "told_numbers", "seen_numbers", "pile", "marks_done"] [V.ref p1,V.ref p2,V.ref p3,V.ref p4,V.ref p5,V.ref p6,V.ref p7,V.ref p8,V.int 0]:List (Str × V))):=by rw [E9]; exact ai
   have S9:bp x H G9:=S8.trans R9
   rw [← E9]
   clear E9
   refine ⟨_,rfl,x,C,dx,(List.zip ["program", "in_boxes", "in_cells", "in_asides", "rung", "told_numbers", "seen_numbers", "pile", "marks_done"] [V.ref p1,V.ref p2,V.ref p3,V.ref p4,V.ref p5,V.ref p6,V.ref p7,V.ref p8,V.int 0]:List (Str × V)),rfl,O9,T.cl,T.nH,(by show 9 < 1000; decide),?_⟩
   rw [show dC ("here" : Str) (V.int 0) (List.zip ["program", "in_boxes", "in_cells", "in_asides", "rung", "told_numbers", "seen_numbers", "pile", "marks_done"] [V.ref p1,V.ref p2,V.ref p3,V.ref p4,V.ref p5,V.ref p6,V.ref p7,V.ref p8,V.int 0]:List (Str × V))=(List.zip ["program", "in_boxes", "in_cells", "in_asides", "rung", "told_numbers", "seen_numbers", "pile", "marks_done", "here"] [V.ref p1,V.ref p2,V.ref p3,V.ref p4,V.ref p5,V.ref p6,V.ref p7,V.ref p8,V.int 0,V.int 0]:List (Str × V)) from d6 _ _ _ _ (by decide +kernel) rfl]
   obtain ⟨K9,E10⟩:∃ G,G=upd G9 x (.ins C dx (List.zip ["program", "in_boxes", "in_cells", "in_asides", "rung", "told_numbers", "seen_numbers", "pile", "marks_done", "here"] [V.ref p1,V.ref p2,V.ref p3,V.ref p4,V.ref p5,V.ref p6,V.ref p7,V.ref p8,V.int 0,V.int 0]:List (Str × V))):=⟨_,rfl⟩
   have La:bp x G9 K9:=by rw [E10]; exact bp.put
   have O10:K9 x=some (.ins C dx (List.zip ["program", "in_boxes", "in_cells", "in_asides", "rung", "told_numbers", "seen_numbers", "pile", "marks_done", "here"] [V.ref p1,V.ref p2,V.ref p3,V.ref p4,V.ref p5,V.ref p6,V.ref p7,V.ref p8,V.int 0,V.int 0]:List (Str × V))):=by rw [E10]; exact ai
   have S10:bp x H K9:=S9.trans La
   rw [← E10]
   clear E10
   refine ⟨_,rfl,x,C,dx,(List.zip ["program", "in_boxes", "in_cells", "in_asides", "rung", "told_numbers", "seen_numbers", "pile", "marks_done", "here"] [V.ref p1,V.ref p2,V.ref p3,V.ref p4,V.ref p5,V.ref p6,V.ref p7,V.ref p8,V.int 0,V.int 0]:List (Str × V)),rfl,O10,T.cl,T.nE,(by show 10 < 1000; decide),?_⟩
   rw [show dC ("how_ended" : Str) (V.non) (List.zip ["program", "in_boxes", "in_cells", "in_asides", "rung", "told_numbers", "seen_numbers", "pile", "marks_done", "here"] [V.ref p1,V.ref p2,V.ref p3,V.ref p4,V.ref p5,V.ref p6,V.ref p7,V.ref p8,V.int 0,V.int 0]:List (Str × V))=(List.zip ["program", "in_boxes", "in_cells", "in_asides", "rung", "told_numbers", "seen_numbers", "pile", "marks_done", "here", "how_ended"] [V.ref p1,V.ref p2,V.ref p3,V.ref p4,V.ref p5,V.ref p6,V.ref p7,V.ref p8,V.int 0,V.int 0,V.non]:List (Str × V)) from d6 _ _ _ _ (by decide +kernel) rfl]
   obtain ⟨Lb,E11⟩:∃ G,G=upd K9 x (.ins C dx (List.zip ["program", "in_boxes", "in_cells", "in_asides", "rung", "told_numbers", "seen_numbers", "pile", "marks_done", "here", "how_ended"] [V.ref p1,V.ref p2,V.ref p3,V.ref p4,V.ref p5,V.ref p6,V.ref p7,V.ref p8,V.int 0,V.int 0,V.non]:List (Str × V))):=⟨_,rfl⟩
   have Lc:bp x K9 Lb:=by rw [E11]; exact bp.put
   have O11:Lb x=some (.ins C dx (List.zip ["program", "in_boxes", "in_cells", "in_asides", "rung", "told_numbers", "seen_numbers", "pile", "marks_done", "here", "how_ended"] [V.ref p1,V.ref p2,V.ref p3,V.ref p4,V.ref p5,V.ref p6,V.ref p7,V.ref p8,V.int 0,V.int 0,V.non]:List (Str × V))):=by rw [E11]; exact ai
   have S11:bp x H Lb:=S10.trans Lc
   rw [← E11]
   clear E11
   have Ld:bp x Qi Lb:=R6.trans (R7.trans (R8.trans (R9.trans (La.trans Lc))))
   have n15:p1 ≠ p5:=aB (R4 _ _ y1 (R3 _ _ y1 (R2 _ _ y1 K1))) n5
   have n25:p2 ≠ p5:=aB (R4 _ _ y2 (R3 _ _ y2 K2)) n5
   have n35:p3 ≠ p5:=aB (R4 _ _ y3 K3) n5
   have n45:p4 ≠ p5:=aB K4 n5
   have g1:=e5 _ _ n15 (R5 _ _ y1 (R4 _ _ y1 (R3 _ _ y1 (R2 _ _ y1 K1))))
   have g2:=e5 _ _ n25 (R5 _ _ y2 (R4 _ _ y2 (R3 _ _ y2 K2)))
   have g3:=e5 _ _ n35 (R5 _ _ y3 (R4 _ _ y3 K3))
   have g4:=e5 _ _ n45 (R5 _ _ y4 K4)
   have R67:=R6.trans R7
   have n12:p1 ≠ p2:=aB K1 n2
   have n34:p3 ≠ p4:=aB K3 n4
   have n16:p1 ≠ p6:=aB g1 n6
   have n26:p2 ≠ p6:=aB g2 n6
   have n17:p1 ≠ p7:=aB (R6 _ _ y1 g1) n7
   have n27:p2 ≠ p7:=aB (R6 _ _ y2 g2) n7
   have Qf:p6 ≠ p7:=aB K6 n7
   have n18:p1 ≠ p8:=aB (R67 _ _ y1 g1) n8
   have n28:p2 ≠ p8:=aB (R67 _ _ y2 g2) n8
   have Qg:p6 ≠ p8:=aB (R7 _ _ y6 K6) n8
   have Qh:p7 ≠ p8:=aB K7 n8
   refine z ⟨dx,p1,p2,p3,p4,p5,p6,p7,p8⟩ ay Lb rv ⟨⟨_,O11,rfl⟩,Ld _ _ y1 g1,Ld _ _ y2 g2,b8,⟨d0,Ld _ _ y3 g3,hrep,hdl⟩,⟨[],Ld _ _ y4 g4,Rep.nil,by simp⟩,Ld _ _ y5 k5,(R7.trans (R8.trans (R9.trans (La.trans Lc)))) _ _ y6 K6,⟨[],(R8.trans (R9.trans (La.trans Lc))) _ _ y7 K7,rfl,fun i p c e=>by simp at e⟩,(R9.trans (La.trans Lc)) _ _ y8 K8,⟨n12,n16,n17,n18,n26,n27,n28,Qf,Qg,Qh,n34,n35,n45⟩,⟨by simp [z0],by simp [z0],by simp [z0]⟩,by omega⟩ S11 ?_
   rintro c ((rfl | rfl | rfl | rfl | rfl | rfl | rfl | rfl) | rfl) hc
   ·exact absurd rfl hc
   ·exact f2
   ·exact f3
   ·exact f4
   ·exact f5
   ·exact f6
   ·exact f7
   ·exact f8
   ·exact f1
end
inductive Rw where
 | stop | back | halt (v:Int) | two (u:Str) (b v:Int) | tell (b:Int) | eI (u:Str) (t f:Int) | zb (u:Str) (b t f:Int) | table (b:Int) (ts:List Int)
def ten:List Str:=["set", "more", "copy", "add", "less", "load", "keep", "see", "put", "take"]
def lF (H:Hp) (q:Addr) (n:Int):Rw→Prop
 | .stop=>H q=some (.tup [.str "stop"])
 | .back=>H q=some (.tup [.str "back"])
 | .halt v=>H q=some (.tup [.str "halt",.int v])
 | .two u b v=>H q=some (.tup [.str u,.int b,.int v])∧u ∈ ten∧Bx b∧(u ∈ w2→Bx v)
 | .tell b=>H q=some (.tup [.str "tell",.int b])∧Bx b
 | .eI u t f=>H q=some (.tup [.str u,.int t,.int f])∧u ∈ My.eI∧0 ≤ t∧t < n
 | .zb u b t f=>H q=some (.tup [.str u,.int b,.int t,.int f])∧u ∈ My.zb∧Bx b∧0 ≤ t∧t < n
 | .table b ts=>∃ p,H q=some (.tup [.str "table",.int b,.ref p])∧H p=some (.tup (ts.map V.int))∧Bx b∧∀ t ∈ ts,0 ≤ t∧t < n
theorem lF.tups {H H':Hp} {q:Addr} {n:Int} {r:Rw} (e:dz H H') (h:lF H q n r):lF H' q n r:=by
 cases r with
 | stop=>exact e _ _ h
 | back=>exact e _ _ h
 | halt v=>exact e _ _ h
 | two u b v=>exact ⟨e _ _ h.1,h.2⟩
 | tell b=>exact ⟨e _ _ h.1,h.2⟩
 | eI u t f=>exact ⟨e _ _ h.1,h.2⟩
 | zb u b t f=>exact ⟨e _ _ h.1,h.2⟩
 | table b ts =>
  obtain ⟨p,h1,h2,h3⟩:=h
  exact ⟨p,e _ _ h1,e _ _ h2,h3⟩
def Rw.word:Rw→Str
 | .stop => "stop" | .back => "back" | .halt _ => "halt" | .two u _ _=>u | .tell _ => "tell" | .eI u _ _=>u | .zb u _ _ _=>u | .table _ _ => "table"
def Rw.goes (r:Rw):Prop:=¬ r.word ∈ dw
def num (u:Str) (b v:Int) (z:Zt):Int :=
 if u = "set" then v else if u = "more" then z.bx b + v else if u = "copy" then z.bx v else if u = "add" then z.bx b + z.bx v else if u = "less" then z.bx b - z.bx v
 else if u = "load" then z.cf (z.bx v) else z.af v
def bw (ring:Int→Bool) (r:Rw) (h:Int) (z:Zt):Zt :=
 match r with
 | .stop=>{ z with here:=.non,how:=some [.str "stop"] }
 | .halt v=>{ z with here:=.non,how:=some [.str "halt",.int v] }
 | .back=>match z.pile.getLast? with
  | none=>{ z with here:=.non,how:=some [.str "home"] }
  | some p=>{ z with here:=.int p,pile:=z.pile.dropLast }
 | .two u b v =>
  if u = "keep" then { z with here:=.int (h + 1),cf:=qJ z.cf (z.bx b) (z.bx v) }
  else if u = "put" then { z with here:=.int (h + 1),af:=qJ z.af v (z.bx b) }
  else if u = "see" then { z with here:=.int (h + 1),seen:=z.seen ++ [(v,z.bx b)] }
  else { z with here:=.int (h + 1),bs:=z.bs.set b.toNat (num u b v z) }
 | .tell b=>{ z with here:=.int (h + 1),told:=z.told ++ [z.bx b] }
 | .eI u t _ =>
  if u = "jump" then { z with here:=.int t }
  else if u = "call" then { z with here:=.int t,pile:=z.pile ++ [h + 1] }
  else if ring z.k=true then { z with here:=.int t,pile:=z.pile ++ [h + 1],k:=z.k + 1 } else { z with here:=.int (h + 1),k:=z.k + 1 }
 | .zb u b t _=>{ z with here:=.int (if (u = "zero" ∧ z.bx b=0)∨(u = "below" ∧ z.bx b < 0) then t else h + 1) }
 | .table b ts=>{ z with here:=.int (if 0 ≤ z.bx b∧z.bx b < ts.length then ts.getD (z.bx b).toNat 0 else h + 1) }
theorem lX {z:Zt} {h:Int} {ring:Int→Bool} {r:List Int} {p:Int} (e:z.pile=r ++ [p]):bw ring .back h z={ z with here:=.int p,pile:=r }:=by
 unfold bw
 have e1:z.pile.getLast? = some p:=by rw [e]; simp
 have e2:z.pile.dropLast=r:=by rw [e]; simp
 simp only [e1,e2]
theorem i0 {z:Zt} {h:Int} {ring:Int→Bool} (e:z.pile=[]):bw ring .back h z={ z with here:=.non,how:=some [.str "home"] }:=by
 unfold bw
 have e1:z.pile.getLast? = none:=by rw [e]; rfl
 simp only [e1]
def ko (n:Nat) (z:Zt):Prop:=(z.here=.non∨∃ r:Nat,z.here=.int r∧r < n)∧∀ p ∈ z.pile,0 ≤ p∧p < n
theorem ko.step {n:Nat} {z:Zt} {ring:Int→Bool} {r:Rw} {h:Nat} {H:Hp} {q:Addr} (S:ko n z) (hh:h < n) (hr:lF H q n r) (hg:h + 1=n→r.word ∈ dw):ko n (bw ring r h z):=by
 have next:r.goes→∃ r':Nat,((h:Int) + 1)=r'∧r' < n:=fun g=>⟨h + 1,by omega,by
  rcases Nat.lt_or_ge (h + 1) n with l | l
  ·exact l
  ·exact absurd (hg (by omega)) g⟩
 have tgt:∀ t:Int,0 ≤ t→t < n→∃ r':Nat,t=r'∧r' < n:=fun t a b=>⟨t.toNat,by omega,by omega⟩
 cases r with
 | stop=>exact ⟨.inl rfl,S.2⟩
 | halt v=>exact ⟨.inl rfl,S.2⟩
 | back =>
  rcases List.eq_nil_or_concat z.pile with e | ⟨r,p,e⟩
  ·rw [i0 e]
   exact ⟨.inl rfl,S.2⟩
  ·have e:z.pile=r ++ [p]:=by simpa using e
   rw [lX e]
   have hp:=S.2 p (by rw [e]; simp)
   obtain ⟨r',e1,e2⟩:=tgt p hp.1 hp.2
   exact ⟨.inr ⟨r',by show V.int p=_; rw [e1],e2⟩,fun p' hp'=>S.2 p' (by rw [e]; exact mem_append_left _ hp')⟩
 | two u b v =>
  obtain ⟨r',e1,e2⟩:=next ((by decide +kernel:∀ u ∈ ten,¬ u ∈ dw) u hr.2.1)
  have e1:V.int ((h:Int) + 1)=.int r':=by rw [e1]
  simp only [bw]
  split
  ·exact ⟨.inr ⟨r',e1,e2⟩,S.2⟩
  split
  ·exact ⟨.inr ⟨r',e1,e2⟩,S.2⟩
  split
  ·exact ⟨.inr ⟨r',e1,e2⟩,S.2⟩
  ·exact ⟨.inr ⟨r',e1,e2⟩,S.2⟩
 | tell b =>
  obtain ⟨r',e1,e2⟩:=next (show ¬ ("tell" : Str) ∈ dw by decide +kernel)
  exact ⟨.inr ⟨r',by show V.int ((h:Int) + 1)=_; rw [e1],e2⟩,S.2⟩
 | eI u t f =>
  obtain ⟨t',e1,e2⟩:=tgt t hr.2.2.1 hr.2.2.2
  have e1:V.int t=.int t':=by rw [e1]
  simp only [bw]
  by_cases hj:u = "jump"
  ·simp only [if_pos hj]
   exact ⟨.inr ⟨t',e1,e2⟩,S.2⟩
  obtain ⟨r',e3,e4⟩:=next (by
   show ¬ u ∈ dw
   rcases (show u = "jump" ∨ u = "call" ∨ u = "mark" by simpa [My.eI] using hr.2.1) with rfl | rfl | rfl
   ·exact absurd rfl hj
   ·decide +kernel
   ·decide +kernel)
  have pl:∀ p ∈ z.pile ++ [(h:Int) + 1],0 ≤ p∧p < n:=fun p hp=>by
   rcases mem_append.mp hp with hp | hp
   ·exact S.2 p hp
   ·rw [mem_singleton.mp hp,e3]
    omega
  have e3:V.int ((h:Int) + 1)=.int r':=by rw [e3]
  simp only [if_neg hj]
  split
  ·exact ⟨.inr ⟨t',e1,e2⟩,pl⟩
  split
  ·exact ⟨.inr ⟨t',e1,e2⟩,pl⟩
  ·exact ⟨.inr ⟨r',e3,e4⟩,S.2⟩
 | zb u b t f =>
  obtain ⟨t',e1,e2⟩:=tgt t hr.2.2.2.1 hr.2.2.2.2
  obtain ⟨r',e3,e4⟩:=next ((by decide +kernel:∀ u ∈ My.zb,¬ u ∈ dw) u hr.2.1)
  refine ⟨.inr ?_,S.2⟩
  show ∃ r:Nat,V.int (if (u = "zero" ∧ z.bx b=0)∨(u = "below" ∧ z.bx b < 0) then t else (h:Int) + 1)=.int r∧r < n
  split
  ·exact ⟨t',by rw [e1],e2⟩
  ·exact ⟨r',by rw [e3],e4⟩
 | table b ts =>
  obtain ⟨r',e3,e4⟩:=next (show ¬ ("table" : Str) ∈ dw by decide +kernel)
  refine ⟨.inr ?_,S.2⟩
  show ∃ r:Nat,V.int (if 0 ≤ z.bx b∧z.bx b < ts.length then ts.getD (z.bx b).toNat 0 else (h:Int) + 1)=.int r∧r < n
  split
  ·rename_i c
   have hl:(z.bx b).toNat < ts.length:=by omega
   obtain ⟨p,_,_,_,ht⟩:=hr
   have hm:=ht (ts.getD (z.bx b).toNat 0) (by rw [List.getD_eq_getElem?_getD,List.getElem?_eq_getElem hl]; exact List.getElem_mem hl)
   obtain ⟨t',e1,e2⟩:=tgt _ hm.1 hm.2
   exact ⟨t',by rw [e1],e2⟩
  ·exact ⟨r',by rw [e3],e4⟩
theorem Le {m:MA} {k:Int} {h w:V}:(dW m k h w).lookup ("how_ended" : Str)=some w:=cY names _ 10 _ cP rfl
abbrev i5:Stmt:=inClass (top 53) 2
abbrev kr:Stmt:=inClass (top 53) 3
abbrev ku:Stmt:=inClass (top 53) 4
abbrev i6:Stmt:=inClass (top 53) 5
abbrev p9:Stmt:=inClass (top 53) 6
abbrev qa:Stmt:=inClass (top 53) 7
abbrev qb:Stmt:=inClass (top 53) 8
section
variable {P:Program} {w:World} {K:Frag} {mg:Str→Option Value} {base:Heap}
abbrev EI (C:Addr) (H:Hp) (x:Addr) (z:Zt) (B:Nat):Prop:=∃ m rows ay,MG C H x m rows ay B z
def Aa (C:Addr):Sp:=fun vs H Q _=>∃ (x:Addr) (z:Zt) (B:Nat),vs=[.ref x]∧EI C H x z B∧Q z.here H
theorem Ht:aI ["self"] ["self"] (aj pY):=⟨rfl,rfl,rfl,by decide +kernel,rfl,by decide +kernel,by decide +kernel⟩
theorem C5 {f C:Addr} {fd:FuncData} (F:dj K "row" "Machine.row" pY f fd) (TT:Txt K w.params mg) (T:je K mg C):aL P w K mg base cg 1 f fd ["self"] (Aa C):=by
 refine F.ok Ht (fun vs H Q E h=>?_) (fun cdv A outer s H vs Q E hr h=>?_)
 ·obtain ⟨x,z,B,rfl,_⟩:=h
  rfl
 ·obtain ⟨x,z,B,rfl,⟨m,rows,ay,M⟩,q⟩:=h
  obtain ⟨w0,ho,hw⟩:=M.obj
  refine ⟨_,au (aN (bg (pv 0) rfl)),?_⟩
  exact ⟨_,rfl,x,C,m.dx,_,_,rfl,ho,T.cl,T.nH,oa,q⟩
def su (C:Addr):Sp:=fun vs H Q _=>∃ (x:Addr) (z:Zt) (B:Nat),vs=[.ref x]∧EI C H x z B∧∀ v,gS H v z.how→Q v H
theorem Ab:aI ["self"] ["self"] (aj i5):=⟨rfl,rfl,rfl,by decide +kernel,rfl,by decide +kernel,by decide +kernel⟩
theorem xu {f C:Addr} {fd:FuncData} (F:dj K "ending" "Machine.ending" i5 f fd) (TT:Txt K w.params mg) (T:je K mg C):aL P w K mg base cg 1 f fd ["self"] (su C):=by
 refine F.ok Ab (fun vs H Q E h=>?_) (fun cdv A outer s H vs Q E hr h=>?_)
 ·obtain ⟨x,z,B,rfl,_⟩:=h
  rfl
 ·obtain ⟨x,z,B,rfl,⟨m,rows,ay,M⟩,q⟩:=h
  obtain ⟨w0,ho,hw⟩:=M.obj
  refine ⟨_,au (aN (bg (pv 0) rfl)),?_⟩
  exact ⟨_,rfl,x,C,m.dx,_,_,rfl,ho,T.cl,T.nE,Le,q _ hw⟩
def vG (C:Addr):Sp:=fun vs H Q _=>∃ (x:Addr) (z:Zt) (B:Nat),vs=[.ref x]∧EI C H x z B∧∀ l,H l=none→Q (.ref l) (upd H l (.lst (z.bs.map V.int)))
theorem C6:aI ["self"] ["self"] (aj kr):=⟨rfl,rfl,rfl,by decide +kernel,rfl,by decide +kernel,by decide +kernel⟩
theorem Ac {f C:Addr} {fd:FuncData} (F:dj K "boxes" "Machine.boxes" kr f fd) (TT:Txt K w.params mg) (T:je K mg C):aL P w K mg base cg 1 f fd ["self"] (vG C):=by
 refine F.ok C6 (fun vs H Q E h=>?_) (fun cdv A outer s H vs Q E hr h=>?_)
 ·obtain ⟨x,z,B,rfl,_⟩:=h
  rfl
 ·obtain ⟨x,z,B,rfl,⟨m,rows,ay,M⟩,q⟩:=h
  obtain ⟨w0,ho,hw⟩:=M.obj
  refine ⟨_,au (aN (cK dh (by rfl) TT.list gL (ah (bg (pv 0) rfl) ao))),?_⟩
  exact ⟨_,rfl,x,C,m.dx,_,_,rfl,ho,T.cl,T.nB,dy,m.p2,_,rfl,.inl (bh.of M.box),q⟩
def Ad (C:Addr):Sp:=fun vs H Q _=>∃ (x:Addr) (z:Zt) (B:Nat),vs=[.ref x]∧EI C H x z B∧∀ l,H l=none→Q (.ref l) (upd H l (.lst (z.told.map V.int)))
theorem Hu:aI ["self"] ["self"] (aj p9):=⟨rfl,rfl,rfl,by decide +kernel,rfl,by decide +kernel,by decide +kernel⟩
theorem C7 {f C:Addr} {fd:FuncData} (F:dj K "told" "Machine.told" p9 f fd) (TT:Txt K w.params mg) (T:je K mg C):aL P w K mg base cg 1 f fd ["self"] (Ad C):=by
 refine F.ok Hu (fun vs H Q E h=>?_) (fun cdv A outer s H vs Q E hr h=>?_)
 ·obtain ⟨x,z,B,rfl,_⟩:=h
  rfl
 ·obtain ⟨x,z,B,rfl,⟨m,rows,ay,M⟩,q⟩:=h
  obtain ⟨w0,ho,hw⟩:=M.obj
  refine ⟨_,au (aN (cK dh (by rfl) TT.list gL (ah (bg (pv 0) rfl) ao))),?_⟩
  exact ⟨_,rfl,x,C,m.dx,_,_,rfl,ho,T.cl,T.nT,zH,m.p6,_,rfl,.inl (bh.of M.told),q⟩
def Ae (C:Addr):Sp:=fun vs H Q _=>∃ (x:Addr) (z:Zt) (B:Nat),vs=[.ref x]∧EI C H x z B∧∀ l ps,eJ H ps z.seen→H l=none→Q (.ref l) (upd H l (.lst (ps.map V.ref)))
theorem Hv:aI ["self"] ["self"] (aj qa):=⟨rfl,rfl,rfl,by decide +kernel,rfl,by decide +kernel,by decide +kernel⟩
theorem C8 {f C:Addr} {fd:FuncData} (F:dj K "seen" "Machine.seen" qa f fd) (TT:Txt K w.params mg) (T:je K mg C):aL P w K mg base cg 1 f fd ["self"] (Ae C):=by
 refine F.ok Hv (fun vs H Q E h=>?_) (fun cdv A outer s H vs Q E hr h=>?_)
 ·obtain ⟨x,z,B,rfl,_⟩:=h
  rfl
 ·obtain ⟨x,z,B,rfl,⟨m,rows,ay,M⟩,q⟩:=h
  obtain ⟨w0,ho,hw⟩:=M.obj
  refine ⟨_,au (aN (cK dh (by rfl) TT.list gL (ah (bg (pv 0) rfl) ao))),?_⟩
  obtain ⟨ps,hs,hps⟩:=M.seen
  exact ⟨_,rfl,x,C,m.dx,_,_,rfl,ho,T.cl,T.nS,zI,m.p7,_,rfl,.inl (bh.of hs),fun l nl=>q l ps hps nl⟩
def Af (C:Addr):Sp:=fun vs H Q _=>∃ (x:Addr) (z:Zt) (B:Nat),vs=[.ref x]∧EI C H x z B∧Q (.int z.pile.length) H
theorem Hw:aI ["self"] ["self"] (aj qb):=⟨rfl,rfl,rfl,by decide +kernel,rfl,by decide +kernel,by decide +kernel⟩
theorem C9 {f C:Addr} {fd:FuncData} (F:dj K "deep" "Machine.deep" qb f fd) (TT:Txt K w.params mg) (T:je K mg C):aL P w K mg base cg 1 f fd ["self"] (Af C):=by
 refine F.ok Hw (fun vs H Q E h=>?_) (fun cdv A outer s H vs Q E hr h=>?_)
 ·obtain ⟨x,z,B,rfl,_⟩:=h
  rfl
 ·obtain ⟨x,z,B,rfl,⟨m,rows,ay,M⟩,q⟩:=h
  obtain ⟨w0,ho,hw⟩:=M.obj
  refine ⟨_,au (aN (bu aY (by rfl) TT.len cT (ah (bg (pv 0) rfl) ao))),?_⟩
  refine ⟨_,rfl,x,C,m.dx,_,_,rfl,ho,T.cl,T.nL,qP,m.p8,_,rfl,.inl (bh.of M.lM),?_⟩
  rw [length_map]
  exact q
def oh:Sp:=fun vs H Q _=>∃ (a:Addr) (d:List (Key × V)) (f:Int→Int),vs=[.ref a]∧H a=some (.dK d)∧Rep d f∧d.length ≤ 900∧∀ (l:Addr) (d':List (Key × V)) (H':Hp),Same H H'→H l=none→H' l=some (.dK d')→NZ d' f→d'.length ≤ d.length→Q (.ref l) H'
theorem oi:aI ["numbers", "others", "place", "number"] ["numbers"] (aj iZ):=⟨rfl,rfl,rfl,by decide +kernel,rfl,by decide +kernel,by decide +kernel⟩
structure Kept (kvs:List (Int × Int)) (i:Nat) (d:List (Key × V)):Prop where
 isI:∃ ks:List (Int × Int),d=iD ks∧(ks.map (·.1)).Nodup∧∀ p,p ∈ ks↔p ∈ kvs.take i∧p.2 ≠ 0
 len:d.length ≤ i
theorem xv {f:Addr} {fd:FuncData} (F:dj K "without_noughts" "without_noughts" iZ f fd) (TT:Txt K w.params mg):aL P w K mg base cg 1 f fd ["numbers"] oh:=by
 refine F.ok oi (fun vs H Q E h=>?_) (fun cdv A outer s H vs Q E hr h=>?_)
 ·obtain ⟨a,d,f,rfl,_⟩:=h
  rfl
 ·obtain ⟨a,d,f,rfl,ha,hrep,hl,k⟩:=h
  have hu:=dv hr
  refine ⟨_,aD (aW (i:=1) oi.nd rfl (Or.inl rfl) hZ)
   (aD (uW (df PassesOwn.never rfl (yu (pv 0)) (gM (K:=K) (i:=2) (j:=3) rfl rfl oi.nd rfl (Or.inl rfl) rfl (Or.inl rfl))
    (au (cV (aS xY (pv 3) ak (bz _)) (au (fq hu (pv 1) (pv 2) (pv 3) rfl)) aX))))
   (au (aN (pv 1)))),?_⟩
  intro l nl
  obtain ⟨⟨kvs,rfl,hnd⟩,hval⟩:=id hrep
  have la:a ≠ l:=aB ha nl
  refine ⟨_,rfl,a,_,rfl,ae nl _ _ ha,fun o nf=>?_⟩
  refine wI (fun i σ H'=>∃ (v1 v2:Option V) (d:List (Key × V)),σ=[some (.ref a),some (.ref l),v1,v2]∧H' a=some (.iL o (.dK (iD kvs)))∧H' l=some (.dK d)∧Kept kvs i d∧∀ c u,c ≠ a→H c=some u→H' c=some u) ?_ ?_ ?_ ?_
  ·refine ⟨none,none,[],rfl,ai,by rw [aq la.symm]; exact ai,⟨⟨[],rfl,by simp,fun p=>by simp⟩,by simp⟩,fun c u n e=>?_⟩
   rw [aq n]
   exact ae nl _ _ e
  ·rintro i σ H' _ ⟨v1,v2,d,rfl,e,_⟩
   exact e
  ·rintro i kk y σ H' t he nt ⟨v1,v2,d,rfl,e1,e2,e3,e4⟩
   have he':(iD kvs)[i]? = some (kk,y):=he
   unfold iD at he'
   rw [List.getElem?_map] at he'
   obtain ⟨p,hp,hpe⟩:=map_eq_some_iff.mp he'
   have hk:kk=Sum.inl p.1:=(congrArg Prod.fst hpe).symm
   have hy:y=V.int p.2:=(congrArg Prod.snd hpe).symm
   subst hk hy
   have hil:=(List.getElem?_eq_some_iff.mp hp).1
   have s0:=ae (o:=.tup [kV (Sum.inl p.1),.int p.2]) nt
   have lt:l ≠ t:=aB e2 nt
   have ta:a ≠ t:=aB e1 nt
   have tk:kvs.take (i + 1)=kvs.take i ++ [p]:=by rw [take_succ,hp]; rfl
   refine ⟨t,_,rfl,bq.of ai,rfl,_,_,rfl,_,_,rfl,rfl,?_⟩
   refine ⟨_,rfl,rfl,_,rfl,?_⟩
   obtain ⟨⟨ks,rfl,k1,k2⟩,k3⟩:=e3
   have dl:(iD kvs).length=kvs.length:=by unfold iD; rw [length_map]
   refine cC (fun c=>?_) (fun c=>?_)
   ·have c:p.2 ≠ 0:=fun z=>by rw [z] at c; exact absurd c (by decide)
    refine ⟨_,rfl,_,rfl,_,rfl,l,_,rfl,mQ.k (k:=Sum.inl p.1) (s0 _ _ e2) (eA (by omega)),?_⟩
    refine ⟨_,_,_,rfl,?_,ai,⟨?_,?_⟩,fun c u n e=>?_⟩
    ·rw [aq la]
     exact s0 _ _ e1
    ·have hnew:cF (iD ks) (Sum.inl p.1:Key)=none:=by
      cases e:cF (iD ks) (Sum.inl p.1:Key) with
      | none=>rfl
      | some x =>
       exfalso
       obtain ⟨v,_,hm⟩:=qK e
       have hm2:=((k2 _).mp hm).1
       have nd2:((kvs.take (i + 1)).map (·.1)).Nodup:=by
        rw [map_take]
        exact hnd.sublist (List.take_sublist _ _)
       rw [tk,map_append,nodup_append] at nd2
       exact nd2.2.2 p.1 (mem_map.mpr ⟨_,hm2,rfl⟩) p.1 (by simp) rfl
     refine ⟨ks ++ [p],?_,?_,fun p'=>?_⟩
     ·rw [mI _ hnew]
      simp [iD]
     ·rw [map_append,nodup_append]
      refine ⟨k1,by simp,fun x hx y hy Jm=>?_⟩
      obtain ⟨p',hp',rfl⟩:=mem_map.mp hx
      have hy:y=p.1:=by simpa using hy
      rw [hy] at Jm
      have:=nO (v:=p'.2) k1 (show (p.1,p'.2) ∈ ks by rw [← Jm]; exact hp')
      rw [hnew] at this
      cases this
     ·rw [mem_append,mem_singleton,k2,tk,mem_append,mem_singleton]
      constructor
      ·rintro (⟨a,b⟩ | rfl)
       ·exact ⟨.inl a,b⟩
       ·exact ⟨.inr rfl,c⟩
      ·rintro ⟨a | rfl,b⟩
       ·exact .inl ⟨a,b⟩
       ·exact .inr rfl
    ·have:=du (iD ks) (Sum.inl p.1:Key) (V.int p.2)
     omega
    ·have cl:c ≠ l:=aB e nl
     rw [aq cl]
     exact s0 _ _ (e4 c u n e)
   ·have c:p.2=0:=by
     rcases Int.decEq p.2 0 with z | z
     ·exact absurd (by simp [z]) c
     ·exact z
    refine ⟨_,_,_,rfl,s0 _ _ e1,s0 _ _ e2,⟨⟨ks,rfl,k1,fun p'=>?_⟩,by omega⟩,fun c u n e=>s0 _ _ (e4 c u n e)⟩
    rw [k2,tk,mem_append,mem_singleton]
    constructor
    ·rintro ⟨a,b⟩
     exact ⟨.inl a,b⟩
    ·rintro ⟨a | rfl,b⟩
     ·exact ⟨a,b⟩
     ·exact absurd c b
  ·rintro σ H' ⟨v1,v2,d,rfl,e1,e2,⟨⟨ks,rfl,k1,k2⟩,k3⟩,e4⟩
   refine ⟨a,o,iD kvs,e1,nf,_,rfl,?_⟩
   have dl:(iD kvs).length=kvs.length:=by unfold iD; rw [length_map]
   rw [dl] at k2 k3
   refine k l (iD ks) _ (fun c u e=>?_) nl (by rw [aq la.symm]; exact e2) ⟨⟨⟨ks,rfl,k1⟩,fun j=>?_⟩,fun kk v hm=>?_⟩ (by omega)
   ·by_cases ca:c=a
    ·subst ca
     rw [ha] at e
     rw [ai]
     exact e
    ·rw [aq ca]
     exact e4 c u ca e
   ·rw [← hval j]
    cases e:cF (iD ks) (Sum.inl j:Key) with
    | some x =>
     obtain ⟨v,rfl,hm⟩:=qK e
     have hm2:=((k2 _).mp hm).1
     rw [take_length] at hm2
     rw [nO hnd hm2]
    | none =>
     cases e2:cF (iD kvs) (Sum.inl j:Key) with
     | none=>rfl
     | some x =>
      obtain ⟨v,rfl,hm⟩:=qK e2
      by_cases hv:v=0
      ·subst hv
       rfl
      ·have:=nO k1 ((k2 (j,v)).mpr ⟨by rw [take_length]; exact hm,hv⟩)
       rw [e] at this
       cases this
   ·unfold iD at hm
    obtain ⟨p,hp,e⟩:=mem_map.mp hm
    have:v=V.int p.2:=(congrArg Prod.snd e).symm
    rw [this]
    intro z
    exact ((k2 p).mp hp).2 (V.int.inj z)
def vH (C:Addr):Sp:=fun vs H Q _=>∃ (x:Addr) (z:Zt) (B:Nat),vs=[.ref x]∧EI C H x z B∧∀ (l:Addr) (d':List (Key × V)) (H':Hp),Same H H'→H l=none→H' l=some (.dK d')→NZ d' z.cf→d'.length ≤ B→Q (.ref l) H'
theorem Dc:aI ["self"] ["self"] (aj ku):=⟨rfl,rfl,rfl,by decide +kernel,rfl,by decide +kernel,by decide +kernel⟩
theorem Ag {f C fN:Addr} {fd Lf:FuncData} (F:dj K "cells" "Machine.cells" ku f fd) (TT:Txt K w.params mg) (T:je K mg C) (GN:aL P w K mg base cg 1 fN Lf ["numbers"] oh) (kN:KI K fN) (bN:Binds K Lf ["numbers"] []) (mN:mg "without_noughts" = some (.ref fN)):aL P w K mg base cg 2 f fd ["self"] (vH C):=by
 refine F.ok Dc (fun vs H Q E h=>?_) (fun cdv A outer s H vs Q E hr h=>?_)
 ·obtain ⟨x,z,B,rfl,_⟩:=h
  rfl
 ·obtain ⟨x,z,B,rfl,⟨m,rows,ay,M⟩,q⟩:=h
  obtain ⟨w0,ho,hw⟩:=M.obj
  obtain ⟨d,hd,hrep,hdl⟩:=M.cell
  have hB:=M.big
  refine ⟨_,au (aN (aM GN hr (by rfl) mN kN bN .nil aZ (ah (bg (pv 0) rfl) ao))),?_⟩
  exact ⟨_,rfl,x,C,m.dx,_,_,rfl,ho,T.cl,T.nC,uh,m.p3,d,z.cf,rfl,hd,hrep,by omega,fun l d' H' s' nl hl hz hle=>q l d' H' s' nl hl hz (by omega)⟩
def sv (C:Addr):Sp:=fun vs H Q _=>∃ (x:Addr) (z:Zt) (B:Nat),vs=[.ref x]∧EI C H x z B∧∀ (l:Addr) (d':List (Key × V)) (H':Hp),Same H H'→H l=none→H' l=some (.dK d')→NZ d' z.af→d'.length ≤ B→Q (.ref l) H'
theorem Ah:aI ["self"] ["self"] (aj i6):=⟨rfl,rfl,rfl,by decide +kernel,rfl,by decide +kernel,by decide +kernel⟩
theorem xA {f C fN:Addr} {fd Lf:FuncData} (F:dj K "asides" "Machine.asides" i6 f fd) (TT:Txt K w.params mg) (T:je K mg C) (GN:aL P w K mg base cg 1 fN Lf ["numbers"] oh) (kN:KI K fN) (bN:Binds K Lf ["numbers"] []) (mN:mg "without_noughts" = some (.ref fN)):aL P w K mg base cg 2 f fd ["self"] (sv C):=by
 refine F.ok Ah (fun vs H Q E h=>?_) (fun cdv A outer s H vs Q E hr h=>?_)
 ·obtain ⟨x,z,B,rfl,_⟩:=h
  rfl
 ·obtain ⟨x,z,B,rfl,⟨m,rows,ay,M⟩,q⟩:=h
  obtain ⟨w0,ho,hw⟩:=M.obj
  obtain ⟨d,hd,hrep,hdl⟩:=M.ui
  have hB:=M.big
  refine ⟨_,au (aN (aM GN hr (by rfl) mN kN bN .nil aZ (ah (bg (pv 0) rfl) ao))),?_⟩
  exact ⟨_,rfl,x,C,m.dx,_,_,rfl,ho,T.cl,T.nA,zG,m.p4,d,z.af,rfl,hd,hrep,by omega,fun l d' H' s' nl hl hz hle=>q l d' H' s' nl hl hz (by omega)⟩
end
section
variable {P:Program} {w:World} {K:Frag} {mg:Str→Option Value} {base:Heap}
theorem Hx {ring:Int→Bool} {b v h:Int} {z:Zt}:bw ring (.two "set" b v) h z={ z with here:=.int (h + 1),bs:=z.bs.set b.toNat (v) }:=by
 simp only [bw,num,if_neg (show ¬ ("set" : Str) = "keep" by decide +kernel),if_neg (show ¬ ("set" : Str) = "put" by decide +kernel),if_neg (show ¬ ("set" : Str) = "see" by decide +kernel),if_pos rfl,if_true]
theorem Dd {ring:Int→Bool} {b v h:Int} {z:Zt}:bw ring (.two "more" b v) h z={ z with here:=.int (h + 1),bs:=z.bs.set b.toNat (z.bx b + v) }:=by
 simp only [bw,num,if_neg (show ¬ ("more" : Str) = "keep" by decide +kernel),if_neg (show ¬ ("more" : Str) = "put" by decide +kernel),if_neg (show ¬ ("more" : Str) = "see" by decide +kernel),if_neg (show ¬ ("more" : Str) = "set" by decide +kernel),if_pos rfl,if_true]
theorem De {ring:Int→Bool} {b v h:Int} {z:Zt}:bw ring (.two "copy" b v) h z={ z with here:=.int (h + 1),bs:=z.bs.set b.toNat (z.bx v) }:=by
 simp only [bw,num,if_neg (show ¬ ("copy" : Str) = "keep" by decide +kernel),if_neg (show ¬ ("copy" : Str) = "put" by decide +kernel),if_neg (show ¬ ("copy" : Str) = "see" by decide +kernel),if_neg (show ¬ ("copy" : Str) = "set" by decide +kernel),if_neg (show ¬ ("copy" : Str) = "more" by decide +kernel),if_pos rfl,if_true]
theorem Hy {ring:Int→Bool} {b v h:Int} {z:Zt}:bw ring (.two "add" b v) h z={ z with here:=.int (h + 1),bs:=z.bs.set b.toNat (z.bx b + z.bx v) }:=by
 simp only [bw,num,if_neg (show ¬ ("add" : Str) = "keep" by decide +kernel),if_neg (show ¬ ("add" : Str) = "put" by decide +kernel),if_neg (show ¬ ("add" : Str) = "see" by decide +kernel),if_neg (show ¬ ("add" : Str) = "set" by decide +kernel),if_neg (show ¬ ("add" : Str) = "more" by decide +kernel),if_neg (show ¬ ("add" : Str) = "copy" by decide +kernel),if_pos rfl,if_true]
theorem Df {ring:Int→Bool} {b v h:Int} {z:Zt}:bw ring (.two "less" b v) h z={ z with here:=.int (h + 1),bs:=z.bs.set b.toNat (z.bx b - z.bx v) }:=by
 simp only [bw,num,if_neg (show ¬ ("less" : Str) = "keep" by decide +kernel),if_neg (show ¬ ("less" : Str) = "put" by decide +kernel),if_neg (show ¬ ("less" : Str) = "see" by decide +kernel),if_neg (show ¬ ("less" : Str) = "set" by decide +kernel),if_neg (show ¬ ("less" : Str) = "more" by decide +kernel),if_neg (show ¬ ("less" : Str) = "copy" by decide +kernel),if_neg (show ¬ ("less" : Str) = "add" by decide +kernel),if_pos rfl,if_true]
theorem Dg {ring:Int→Bool} {b v h:Int} {z:Zt}:bw ring (.two "load" b v) h z={ z with here:=.int (h + 1),bs:=z.bs.set b.toNat (z.cf (z.bx v)) }:=by
 simp only [bw,num,if_neg (show ¬ ("load" : Str) = "keep" by decide +kernel),if_neg (show ¬ ("load" : Str) = "put" by decide +kernel),if_neg (show ¬ ("load" : Str) = "see" by decide +kernel),if_neg (show ¬ ("load" : Str) = "set" by decide +kernel),if_neg (show ¬ ("load" : Str) = "more" by decide +kernel),if_neg (show ¬ ("load" : Str) = "copy" by decide +kernel),if_neg (show ¬ ("load" : Str) = "add" by decide +kernel),if_neg (show ¬ ("load" : Str) = "less" by decide +kernel),if_pos rfl,if_true]
theorem Dh {ring:Int→Bool} {b v h:Int} {z:Zt}:bw ring (.two "keep" b v) h z={ z with here:=.int (h + 1),cf:=qJ z.cf (z.bx b) (z.bx v) }:=by
 simp only [bw,num,if_pos rfl,if_true]
theorem Hz {ring:Int→Bool} {b v h:Int} {z:Zt}:bw ring (.two "see" b v) h z={ z with here:=.int (h + 1),seen:=z.seen ++ [(v,z.bx b)] }:=by
 simp only [bw,num,if_neg (show ¬ ("see" : Str) = "keep" by decide +kernel),if_neg (show ¬ ("see" : Str) = "put" by decide +kernel),if_pos rfl,if_true]
theorem HA {ring:Int→Bool} {b v h:Int} {z:Zt}:bw ring (.two "put" b v) h z={ z with here:=.int (h + 1),af:=qJ z.af v (z.bx b) }:=by
 simp only [bw,num,if_neg (show ¬ ("put" : Str) = "keep" by decide +kernel),if_pos rfl,if_true]
theorem Di {ring:Int→Bool} {b v h:Int} {z:Zt}:bw ring (.two "take" b v) h z={ z with here:=.int (h + 1),bs:=z.bs.set b.toNat (z.af v) }:=by
 simp only [bw,num,if_neg (show ¬ ("take" : Str) = "keep" by decide +kernel),if_neg (show ¬ ("take" : Str) = "put" by decide +kernel),if_neg (show ¬ ("take" : Str) = "see" by decide +kernel),if_neg (show ¬ ("take" : Str) = "set" by decide +kernel),if_neg (show ¬ ("take" : Str) = "more" by decide +kernel),if_neg (show ¬ ("take" : Str) = "copy" by decide +kernel),if_neg (show ¬ ("take" : Str) = "add" by decide +kernel),if_neg (show ¬ ("take" : Str) = "less" by decide +kernel),if_neg (show ¬ ("take" : Str) = "load" by decide +kernel)]
theorem Dj {ring:Int→Bool} {t f h:Int} {z:Zt}:bw ring (.eI "jump" t f) h z={ z with here:=.int t }:=by
 simp only [bw,if_pos rfl,if_true]
theorem Dk {ring:Int→Bool} {t f h:Int} {z:Zt}:bw ring (.eI "call" t f) h z={ z with here:=.int t,pile:=z.pile ++ [h + 1] }:=by
 simp only [bw,if_neg (show ¬ ("call" : Str) = "jump" by decide +kernel),if_pos rfl,if_true]
theorem Ai {ring:Int→Bool} {t f h:Int} {z:Zt} (c:ring z.k=true):bw ring (.eI "mark" t f) h z={ z with here:=.int t,pile:=z.pile ++ [h + 1],k:=z.k + 1 }:=by
 simp only [bw,if_neg (show ¬ ("mark" : Str) = "jump" by decide +kernel),if_neg (show ¬ ("mark" : Str) = "call" by decide +kernel),if_pos c]
theorem Aj {ring:Int→Bool} {t f h:Int} {z:Zt} (c:ring z.k=false):bw ring (.eI "mark" t f) h z={ z with here:=.int (h + 1),k:=z.k + 1 }:=by
 simp only [bw,if_neg (show ¬ ("mark" : Str) = "jump" by decide +kernel),if_neg (show ¬ ("mark" : Str) = "call" by decide +kernel),if_neg (show ¬ ring z.k=true by rw [c]; decide)]
theorem Dl {ring:Int→Bool} {b t f h:Int} {z:Zt}:bw ring (.zb "zero" b t f) h z={ z with here:=.int (if z.bx b=0 then t else h + 1) }:=by
 show ({ z with here:=.int (if (("zero" : Str) = "zero" ∧ z.bx b=0)∨(("zero" : Str) = "below" ∧ z.bx b < 0) then t else h + 1) }:Zt)=_
 by_cases c:z.bx b=0
 ·rw [if_pos (.inl ⟨rfl,c⟩),if_pos c]
 ·rw [if_neg (fun y=>y.elim (fun y=>c y.2) (fun y=>absurd y.1 (by decide +kernel))),if_neg c]
theorem Ak {ring:Int→Bool} {b t f h:Int} {z:Zt}:bw ring (.zb "below" b t f) h z={ z with here:=.int (if z.bx b < 0 then t else h + 1) }:=by
 show ({ z with here:=.int (if (("below" : Str) = "zero" ∧ z.bx b=0)∨(("below" : Str) = "below" ∧ z.bx b < 0) then t else h + 1) }:Zt)=_
 by_cases c:z.bx b < 0
 ·rw [if_pos (.inr ⟨rfl,c⟩),if_pos c]
 ·rw [if_neg (fun y=>y.elim (fun y=>absurd y.1 (by decide +kernel)) (fun y=>c y.2)),if_neg c]
def oS (P:Program) (w:World) (K:Frag) (mg:Str→Option Value) (base:Heap) (pD:Addr) (u:Str) (sp:Sp):Prop:=∃ (f:Addr) (fd:FuncData),FV K w.params pD u (some (.ref f))∧aL P w K mg base cg 2 f fd ["machine", "row"] sp∧Binds K fd ["machine", "row"] []∧KI K f
structure EJ (P:Program) (w:World) (K:Frag) (mg:Str→Option Value) (base:Heap) (C pD:Addr):Prop where
 ik:oS P w K mg base pD "stop" (zS C)
 il:oS P w K mg base pD "halt" (zT C)
 ip:oS P w K mg base pD "back" (zV C)
 lA:oS P w K mg base pD "set" (EC C)
 iq:oS P w K mg base pD "more" (zJ C)
 iu:oS P w K mg base pD "copy" (zK C)
 lB:oS P w K mg base pD "add" (ED C)
 iw:oS P w K mg base pD "less" (zL C)
 iy:oS P w K mg base pD "load" (zM C)
 iz:oS P w K mg base pD "keep" (zO C)
 iA:oS P w K mg base pD "tell" (zP C)
 lC:oS P w K mg base pD "see" (EG C)
 lD:oS P w K mg base pD "put" (EF C)
 iB:oS P w K mg base pD "take" (zN C)
 iC:oS P w K mg base pD "jump" (zQ C)
 iE:oS P w K mg base pD "zero" (zR C)
 fz:oS P w K mg base pD "below" (vB C)
 iF:oS P w K mg base pD "call" (uj C)
 iG:oS P w K mg base pD "mark" (zU C)
 fA:oS P w K mg base pD "table" (vC C)
abbrev cU (ay:List (Key × V)):Int→Bool:=fun j=>(cF ay (Sum.inl j)).isSome
def Al (C:Addr):Sp:=fun vs H Q _=>∃ (x q:Addr) (m:MA) (rows:List V) (ay:List (Key × V)) (B:Nat) (z:Zt) (r:Nat) (n:Int) (rw:Rw),vs=[.ref x]∧MG C H x m rows ay B z∧B < 900∧z.here=.int r∧rows[r]? = some (.ref q)∧lF H q n rw ∧
 ∀ H',Fr m x H H'→MG C H' x m rows ay (B + 1) (bw (cU ay) rw r z)→Q .non H'
theorem Am:aI ["self", "row"] ["self"] (aj pZ):=⟨rfl,rfl,rfl,by decide +kernel,rfl,by decide +kernel,by decide +kernel⟩
theorem lF.word {H:Hp} {q:Addr} {n:Int} {rw:Rw} (h:lF H q n rw):∃ items,H q=some (.tup (.str rw.word :: items)):=by
 cases rw with
 | stop=>exact ⟨_,h⟩
 | back=>exact ⟨_,h⟩
 | halt v=>exact ⟨_,h⟩
 | two u b v=>exact ⟨_,h.1⟩
 | tell b=>exact ⟨_,h.1⟩
 | eI u t f=>exact ⟨_,h.1⟩
 | zb u b t f=>exact ⟨_,h.1⟩
 | table b ts =>
  obtain ⟨p,h,_⟩:=h
  exact ⟨_,h⟩
theorem Dm {f C pD:Addr} {fd:FuncData} (F:dj K "step" "Machine.step" pZ f fd) (T:je K mg C) (mD:mg "DEEDS" = some (.ref pD)) (D:EJ P w K mg base C pD):aL P w K mg base cg 3 f fd ["self"] (Al C):=by
 refine F.ok Am (fun vs H Q E h=>?_) (fun cdv A outer s H vs Q E hr h=>?_)
 ·obtain ⟨x,q,m,rows,ay,B,z,r,n,rw,rfl,_⟩:=h
  rfl
 ·obtain ⟨x,q,m,rows,ay,B,z,r,n,rw,rfl,M,hB,hh,hrow,hR,zz⟩:=h
  obtain ⟨w0,ho,hw⟩:=M.obj
  obtain ⟨items,hq⟩:=hR.word
  refine ⟨_,aD (cV (aS sT (bg (pv 0) rfl) jW (bz _)) wk aX)
   (aD (aW (i:=1) Am.nd rfl (Or.inl rfl) (aJ aT (bg (pv 0) rfl) (bg (pv 0) rfl) (fun _ _=>rfl)))
   (aD (cS (pv 0) (aG cm (bg (pv 0) rfl) ak) rfl)
   (au (bQ (yA (k:=2) (qF (dB (v:=.ref pD) (by rfl) mD rfl) (aJ aO (pv 1) ak (fun _ _=>rfl)) (fun _ _=>rfl)) hr (ah (pv 0) (ah (pv 1) ao))))))),?_⟩
  rw [hh] at ho
  refine ⟨_,rfl,x,C,m.dx,_,_,rfl,ho,T.cl,T.nH,oa,rfl,_,rfl,?_⟩
  refine oK ?_
  refine ⟨_,rfl,x,C,m.dx,_,_,rfl,ho,T.cl,T.nP,Hf,_,rfl,x,C,m.dx,_,_,rfl,ho,T.cl,T.nH,oa,m.p1,_,_,.ref q,rfl,rfl,bh.of M.prog,cL (j:=r) hrow,?_⟩
  refine ⟨_,rfl,x,C,m.dx,_,_,rfl,ho,T.cl,T.nH,oa,_,_,rfl,rfl,_,rfl,x,C,m.dx,_,rfl,ho,T.cl,T.nH,jm,?_⟩
  rw [ig]
  have M2:=M.put (k':=z.k) (ft:=.int ((r:Int) + 1)) hw
  have fr:Fr m x H (upd H x (.ins C m.dx (dW m z.k (.int ((r:Int) + 1)) w0))):=Fr.upd (.inl rfl)
  have tt:dz H (upd H x (.ins C m.dx (dW m z.k (.int ((r:Int) + 1)) w0))):=.upd ho (by intro _ z; cases z)
  have vk:=hR.tups tt
  have hq2:=tt _ _ hq
  refine ⟨_,rfl,q,_,0,.str rw.word,rfl,rfl,bq.of hq2,at0 _ _,pD,rw.word,?_⟩
  suffices hs:∃ sp:Sp,oS P w K mg base pD rw.word sp∧sp ([.ref x,.ref q] ++ []) (upd H x (.ins C m.dx (dW m z.k (.int ((r:Int) + 1)) w0))) (fun _ H1=>Q .non H1) E0 by
   obtain ⟨sp,⟨f,fd,a1,a2,a3,a4⟩,hs⟩:=hs
   exact ⟨.ref f,rfl,rfl,a1,f,fd,_,_,rfl,a2,a3,a4,_,rfl,_,rfl,hs⟩
  have fin:∀ z',z'=bw (cU ay) rw r z→∀ H',Fr m x (upd H x (.ins C m.dx (dW m z.k (.int ((r:Int) + 1)) w0))) H'→MG C H' x m rows ay (B + 1) z'→Q .non H':=fun z' e H' e1 e2=>zz H' (fr.trans e1) (e ▸ e2)
  cases rw with
  | stop=>exact ⟨_,D.ik,x,q,m,rows,ay,B,_,_,_,_,rfl,M2,hB,rfl,vk,fin _ rfl⟩
  | halt v=>exact ⟨_,D.il,x,q,m,rows,ay,B,_,_,_,v,rfl,M2,hB,rfl,vk,fin _ rfl⟩
  | back=>exact ⟨_,D.ip,x,q,m,rows,ay,B,_,_,_,_,rfl,M2,hB,rfl,vk,fun ep=>fin _ (i0 (z:=z) (h:=r) (ring:=cU ay) ep).symm,fun r' p ep=>fin _ (lX (z:=z) (h:=r) (ring:=cU ay) ep).symm⟩
  | tell b=>exact ⟨_,D.iA,x,q,m,rows,ay,B,_,_,_,b,rfl,M2,hB,rfl,vk.1,vk.2,fin _ rfl⟩
  | table b ts =>
   obtain ⟨p,h1,h2,h3,h4⟩:=vk
   exact ⟨_,D.fA,x,q,m,rows,ay,B,_,_,_,b,p,ts,rfl,M2,hB,rfl,h1,h3,h2,fin _ rfl⟩
  | two u b v =>
   obtain ⟨h1,h2,h3,h4⟩:=vk
   rcases (show u = "set" ∨ u = "more" ∨ u = "copy" ∨ u = "add" ∨ u = "less" ∨ u = "load" ∨ u = "keep" ∨ u = "see" ∨ u = "put" ∨ u = "take" by simpa [ten] using h2) with rfl | rfl | rfl | rfl | rfl | rfl | rfl | rfl | rfl | rfl
   ·exact ⟨_,D.lA,x,q,m,rows,ay,B,_,_,_,b,v,rfl,M2,hB,rfl,h1,h3,fin _ (Hx (z:=z) (ring:=cU ay)).symm⟩
   ·exact ⟨_,D.iq,x,q,m,rows,ay,B,_,_,_,b,v,rfl,M2,hB,rfl,h1,h3,fin _ (Dd (z:=z) (ring:=cU ay)).symm⟩
   ·exact ⟨_,D.iu,x,q,m,rows,ay,B,_,_,_,b,v,rfl,M2,hB,rfl,h1,h3,h4 (by decide +kernel),fin _ (De (z:=z) (ring:=cU ay)).symm⟩
   ·exact ⟨_,D.lB,x,q,m,rows,ay,B,_,_,_,b,v,rfl,M2,hB,rfl,h1,h3,h4 (by decide +kernel),fin _ (Hy (z:=z) (ring:=cU ay)).symm⟩
   ·exact ⟨_,D.iw,x,q,m,rows,ay,B,_,_,_,b,v,rfl,M2,hB,rfl,h1,h3,h4 (by decide +kernel),fin _ (Df (z:=z) (ring:=cU ay)).symm⟩
   ·exact ⟨_,D.iy,x,q,m,rows,ay,B,_,_,_,b,v,rfl,M2,hB,rfl,h1,h3,h4 (by decide +kernel),fin _ (Dg (z:=z) (ring:=cU ay)).symm⟩
   ·exact ⟨_,D.iz,x,q,m,rows,ay,B,_,_,_,b,v,rfl,M2,hB,rfl,h1,h3,h4 (by decide +kernel),fin _ (Dh (z:=z) (ring:=cU ay)).symm⟩
   ·exact ⟨_,D.lC,x,q,m,rows,ay,B,_,_,_,b,v,rfl,M2,hB,rfl,h1,h3,fin _ (Hz (z:=z) (ring:=cU ay)).symm⟩
   ·exact ⟨_,D.lD,x,q,m,rows,ay,B,_,_,_,b,v,rfl,M2,hB,rfl,h1,h3,fin _ (HA (z:=z) (ring:=cU ay)).symm⟩
   ·exact ⟨_,D.iB,x,q,m,rows,ay,B,_,_,_,b,v,rfl,M2,hB,rfl,h1,h3,fin _ (Di (z:=z) (ring:=cU ay)).symm⟩
  | eI u t f' =>
   obtain ⟨h1,h2,h3,h4⟩:=vk
   rcases (show u = "jump" ∨ u = "call" ∨ u = "mark" by simpa [My.eI] using h2) with rfl | rfl | rfl
   ·exact ⟨_,D.iC,x,q,m,rows,ay,B,_,_,_,t,f',rfl,M2,hB,rfl,h1,fin _ (Dj (z:=z) (ring:=cU ay)).symm⟩
   ·exact ⟨_,D.iF,x,q,m,rows,ay,B,_,_,_,t,f',rfl,M2,hB,rfl,h1,fin _ (Dk (z:=z) (ring:=cU ay)).symm⟩
   ·exact ⟨_,D.iG,x,q,m,rows,ay,B,_,_,_,t,f',_,rfl,M2,hB,rfl,h1,rfl,fun c=>fin _ (Ai (z:=z) (ring:=cU ay) c).symm,fun c=>fin _ (Aj (z:=z) (ring:=cU ay) c).symm⟩
  | zb u b t f' =>
   obtain ⟨h1,h2,h3,h4⟩:=vk
   rcases (show u = "zero" ∨ u = "below" by simpa [My.zb] using h2) with rfl | rfl
   ·exact ⟨_,D.iE,x,q,m,rows,ay,B,_,_,_,b,t,f',rfl,M2,hB,rfl,h1,h3,fin _ (Dl (z:=z) (ring:=cU ay)).symm⟩
   ·exact ⟨_,D.fz,x,q,m,rows,ay,B,_,_,_,b,t,f',rfl,M2,hB,rfl,h1,h3,fin _ (Ak (z:=z) (ring:=cU ay)).symm⟩
end
section
variable {P:Program} {w:World} {K:Frag} {mg:Str→Option Value} {base:Heap}
def qQ:Sp:=fun vs H Q _=>∃ (p:Addr) (d:FR),vs=[.ref p]∧cj H p d∧∀ H',Same H H'→Q (.int (tW d)) H'
theorem Lg:aI ["_law_row_here"] ["_law_row_here"] (aj kl):=⟨rfl,rfl,rfl,by decide +kernel,rfl,by decide +kernel,by decide +kernel⟩
theorem Ao {f:Addr} {fd:FuncData} (F:dj K "_law_size" "_law_size" kl f fd) (T:Txt K w.params mg):aL P w K mg base cg 1 f fd ["_law_row_here"] qQ:=by
 refine F.ok Lg (fun vs H Q E h=>?_) (fun cdv A outer s H vs Q E hr h=>?_)
 ·obtain ⟨p,d,rfl,_⟩:=h
  rfl
 ·obtain ⟨p,d,rfl,hR,k⟩:=h
  obtain ⟨items,i1,_,i3,_⟩:=hR.parts
  unfold tW at k
  refine dM (aw (di (aS cz (aJ aO (pv 0) ak (fun _ _=>rfl)) (iX (.cons az (.cons az (.cons az (.cons az (.cons az .nil)))))) rfl) (aU (aK (aN (aG cm ak (aJ aO (pv 0) (dX dg ak) (fun _ _=>rfl)))))) (cw aX))
   (aw (di (aS d7 (aJ aO (pv 0) ak (fun _ _=>rfl)) az (bz _)) (aU (aK (aN (aG cm ak (bu aY (by rfl) T.len cT (ah (aJ aO (pv 0) ak (fun _ _=>rfl)) ao)))))) (cw aX))
   (aU (aK (aN (aG cm ak (cK pj (by rfl) T.int yR (ah (jE cz (aJ aO (pv 0) ak (fun _ _=>rfl)) (iX (.cons az (.cons az (.cons az (.cons az (.cons az (.cons az .nil))))))) rfl) ao)))))))) ?_
  refine ⟨_,rfl,p,_,0,_,rfl,rfl,bq.of i1,at0 _ _,yO,fun t0 RI=>⟨t0,five.map V.str,rfl,.inr (bq.of ai),rfl,rfl,_,rfl,?_⟩⟩
  have s0:=(ae (o:=.tup [V.str "jump",V.str "call",V.str "mark",V.str "zero",V.str "below"]) RI)
  rw [show inV (.str d.u) (five.map V.str)=decide (d.u ∈ five) from cO _ _]
  generalize upd H t0 (.tup [V.str "jump",V.str "call",V.str "mark",V.str "zero",V.str "below"])=G0 at s0 ⊢
  refine cC (fun e=>?_) (fun e=>?_)
  ·have e:=of_decide_eq_true e
   obtain ⟨nt,g1,g2,_⟩:=cX hR e
   rw [if_neg nt,if_pos e] at k
   exact ⟨_,rfl,_,rfl,p,_,_,_,rfl,rfl,bq.of (s0 _ _ g1),g2,_,_,rfl,rfl,k _ s0⟩
  ·have e:¬ d.u ∈ five:=fun z=>e (decide_eq_true z)
   refine ⟨_,rfl,p,_,0,_,rfl,rfl,bq.of (s0 _ _ i1),at0 _ _,rfl,_,rfl,?_⟩
   refine cC (fun e2=>?_) (fun e2=>?_)
   ·have e2:=strEq e2
    rw [if_pos e2] at k
    unfold Parts at i3
    rw [if_pos e2] at i3
    obtain ⟨b,p3,rfl,h3⟩:=i3
    refine ⟨_,rfl,p,_,2,_,rfl,rfl,bq.of (s0 _ _ i1),at2 _ _ _ _,p3,_,rfl,.inr (bq.of (s0 _ _ h3)),_,_,rfl,rfl,?_⟩
    rw [length_map]
    exact k _ s0
   ·have e2:=pR e2
    rw [if_neg e2,if_neg e] at k
    have i1:=s0 _ _ i1
    refine ⟨_,rfl,p,_,0,_,rfl,rfl,bq.of i1,at0 _ _,Gq,fun t1 sm=>⟨t1,six.map V.str,rfl,.inr (bq.of ai),rfl,rfl,.inr ⟨_,rfl,_,_,rfl,rfl,?_⟩⟩⟩
    have s1:=s0.trans (ae (o:=.tup [V.str "set",V.str "more",V.str "put",V.str "take",V.str "see",V.str "halt"]) sm)
    rw [show inV (.str d.u) (six.map V.str)=decide (d.u ∈ six) from cO _ _]
    have kk:=k _ s1
    by_cases h6:d.u ∈ six
    ·rw [if_pos h6] at kk
     rw [decide_eq_true h6]
     exact kk
    ·rw [if_neg h6] at kk
     rw [decide_eq_false h6]
     exact kk
def fV (ds:List FR) (r:Nat) (d:FR):Bool:=!aV d || bf (dst ds r d)
end
def eB (ds:List FR):Prop:=∀ d ∈ ds,GoodR d ds.length
theorem eB.tg {ds:List FR} (h:eB ds):Qc ds:=fun d hd=>⟨(h d hd).1,(h d hd).2.1⟩
def dk (d:FR):FR:=if d.u ∈ five then ⟨d.u,d.is.dropLast ++ [1],d.ts⟩ else d
def bA (ds:List FR) (L:List Nat):List FR:=ds.mapIdx fun r d=>if r ∈ L then dk d else d
def cv (ds:List FR) (r:Nat):Prop:=∃ d,ds[r]? = some d∧aV d=true
def cnt (L:List Nat) (j:Nat):Nat:=((List.range j).filter (· ∈ L)).length
theorem vI (d:FR):(dk d).ts=d.ts:=by unfold dk; split <;> rfl
theorem kx (d:FR):(dk d).u=d.u:=by unfold dk; split <;> rfl
theorem bM (ds:List FR) (L:List Nat):(bA ds L).length=ds.length:=by unfold bA; rw [List.length_mapIdx]
theorem dF {ds:List FR} {L:List Nat} {r:Nat} {d:FR} (h:ds[r]? = some d):(bA ds L)[r]? = some (if r ∈ L then dk d else d):=by
 unfold bA
 rw [List.getElem?_mapIdx,h]
 rfl
theorem dP {d:FR} (h:aV d=true):d.u ∈ five∧fQ d=0:=by
 unfold aV at h
 rw [Bool.and_eq_true] at h
 exact ⟨of_decide_eq_true h.1,of_decide_eq_true h.2⟩
theorem jP {d:FR} (h:d.u ∈ five):¬ d.u = "table" := fun z=>absurd h (by rw [z]; decide)
theorem iH {d:FR} (h:d.u ∈ five):fQ (dk d)=1:=by
 unfold dk fQ
 rw [if_pos h]
 simp
theorem Dn {d:FR} (h:aV d=true):tW (dk d)=tW d + 1:=by
 obtain ⟨h1,h2⟩:=dP h
 unfold tW
 rw [kx,if_neg (jP h1),if_neg (jP h1),if_pos h1,if_pos h1,iH h1,h2]
 omega
theorem HB {d:FR} (h:sj d):1 ≤ tW d:=by
 unfold tW
 split
 ·omega
 ·split
  ·rename_i h1 h2
   rcases h h2 with z | z <;> omega
  ·split <;> omega
theorem gC (L:List Nat) (j:Nat):cnt L (j + 1)=cnt L j + if j ∈ L then 1 else 0:=by
 unfold cnt
 rw [range_succ,filter_append,length_append]
 by_cases h:j ∈ L
 ·rw [if_pos h,filter_cons_of_pos (by simpa using h)]
  rfl
 ·rw [if_neg h,filter_cons_of_neg (by simpa using h)]
  rfl
theorem om {ds:List FR} {L:List Nat} (hL:∀ x ∈ L,cv ds x):∀ j,j ≤ ds.length→beg (bA ds L) j=beg ds j + cnt L j
 | 0,_=>by simp [beg,cnt]
 | j + 1,h=>by
  have ih:=om hL j (by omega)
  have hd:ds[j]? = some ds[j]:=List.getElem?_eq_getElem (by omega)
  rw [gA hd,gA (dF hd),ih,gC]
  by_cases hj:j ∈ L
  ·rw [if_pos hj,if_pos hj]
   obtain ⟨d,e1,e2⟩:=hL j hj
   rw [hd] at e1
   cases e1
   rw [Dn e2]
   omega
  ·rw [if_neg hj,if_neg hj]
   omega
theorem iI {L:List Nat} {a b:Nat} (h:a ≤ b):cnt L a ≤ cnt L b:=by
 induction b with
 | zero=>rw [Nat.le_zero.mp h]; exact le_refl _
 | succ b ih =>
  rcases Nat.lt_or_eq_of_le h with z | z
  ·rw [gC]
   have:=ih (by omega)
   omega
  ·rw [z]; exact le_refl _
theorem oo {L L':List Nat} (h:∀ x ∈ L',x ∈ L) {a:Nat}:∀ k,cnt L' (a + k) - cnt L' a ≤ cnt L (a + k) - cnt L a
 | 0=>by simp
 | k + 1=>by
  have ih:=oo h (a:=a) k
  have h1:=iI (L:=L') (show a ≤ a + k by omega)
  have h2:=iI (L:=L) (show a ≤ a + k by omega)
  rw [show a + (k + 1)=(a + k) + 1 by omega,gC,gC]
  by_cases h3:a + k ∈ L'
  ·rw [if_pos h3,if_pos (h _ h3)]
   omega
  ·rw [if_neg h3]
   split <;> omega
theorem oq {ds:List FR} (hG:eB ds) {a:Nat}:∀ k,a + k ≤ ds.length→beg ds a + k ≤ beg ds (a + k)
 | 0,_=>by simp
 | k + 1,h=>by
  have ih:=oq hG (a:=a) k (by omega)
  have hd:ds[a + k]? = some ds[a + k]:=List.getElem?_eq_getElem (by omega)
  have:=HB (hG ds[a + k] (List.getElem_mem _)).2.2.1
  rw [show a + (k + 1)=(a + k) + 1 by omega,gA hd]
  omega
theorem eZ {ds:List FR} {L:List Nat} (hL:∀ x ∈ L,cv ds x) {r t:Nat} (hr:r < ds.length) (ht:t < ds.length):dE (bA ds L) r (t:Int)=dE ds r (t:Int) + cnt L t - cnt L (r + 1):=by
 unfold dE
 rw [Int.toNat_natCast,om hL t (by omega),om hL (r + 1) (by omega)]
 omega
theorem xB {x:Int}:bf x=false↔x < -64∨63 < x:=by
 unfold bf
 rw [decide_eq_false_iff_not]
 omega
theorem sx {ds:List FR} (hG:eB ds) {L L':List Nat} (hL:∀ x ∈ L,cv ds x) (hsub:∀ x ∈ L',x ∈ L) {r t:Nat} (hr:r < ds.length) (ht:t < ds.length) (h:bf (dE (bA ds L') r (t:Int))=false):bf (dE (bA ds L) r (t:Int))=false:=by
 have hL':∀ x ∈ L',cv ds x:=fun x hx=>hL x (hsub x hx)
 rw [xB] at h ⊢
 rw [eZ hL' hr ht] at h
 rw [eZ hL hr ht]
 unfold dE at h ⊢
 rw [Int.toNat_natCast] at h ⊢
 by_cases hrt:r + 1 ≤ t
 ·obtain ⟨k,rfl⟩:∃ k,t=r + 1 + k:=⟨t - (r + 1),by omega⟩
  have h1:=oo hsub (a:=r + 1) k
  have h2:=oq hG (a:=r + 1) k (by omega)
  have h3:=iI (L:=L') (show r + 1 ≤ r + 1 + k by omega)
  have h4:=iI (L:=L) (show r + 1 ≤ r + 1 + k by omega)
  omega
 ·obtain ⟨k,hk⟩:∃ k,r + 1=t + k:=⟨r + 1 - t,by omega⟩
  rw [hk] at h ⊢
  have h1:=oo hsub (a:=t) k
  have h2:=oq hG (a:=t) k (by omega)
  have h3:=iI (L:=L') (show t ≤ t + k by omega)
  have h4:=iI (L:=L) (show t ≤ t + k by omega)
  omega
inductive qR (ds:List FR):Nat→Prop
 | mk {r:Nat} {d:FR} (L:List Nat) (hL:∀ x ∈ L,qR ds x) (hd:ds[r]? = some d) (hs:aV d=true) (hb:bf (dst (bA ds L) r d)=false):qR ds r
theorem qR.short {ds:List FR} {r:Nat} (h:qR ds r):cv ds r:=by
 cases h with
 | mk L hL hd hs hb=>exact ⟨_,hd,hs⟩
theorem HC {ds:List FR} (hG:eB ds) {L:List Nat} (hL:∀ x ∈ L,qR ds x) (hgood:∀ (r:Nat) d,ds[r]? = some d→aV d=true→¬ r ∈ L→bf (dst (bA ds L) r d)=true):∀ x,qR ds x→x ∈ L:=by
 intro x hx
 induction hx with
 | @mk r d L' hL' hd hs hb ih =>
  refine Decidable.byContradiction fun hn=>?_
  have h1:=hgood r d hd hs hn
  have hr:=(List.getElem?_eq_some_iff.mp hd).1
  have hg:=hG d (List.mem_of_getElem? hd)
  have hu:=(dP hs).1
  have ht:∃ t:Nat,d.ts.headD 0=(t:Int)∧t < ds.length:=by
   cases hts:d.ts with
   | nil=>exact ⟨0,rfl,by omega⟩
   | cons t0 tl =>
    obtain ⟨a,b⟩:=hg.2.1 t0 (by rw [hts]; simp)
    obtain ⟨tn,rfl⟩:=Int.eq_ofNat_of_zero_le a
    exact ⟨tn,rfl,by omega⟩
  obtain ⟨t,et,htl⟩:=ht
  unfold dst at hb h1
  rw [et] at hb h1
  have:=sx hG (fun x hx=>(hL x hx).short) ih hr htl hb
  rw [this] at h1
  cases h1
theorem jy {ds:List FR} {L L':List Nat} (h:∀ x,x ∈ L↔x ∈ L'):bA ds L=bA ds L':=by
 unfold bA
 congr 1
 funext r d
 by_cases hr:r ∈ L
 ·rw [if_pos hr,if_pos ((h r).mp hr)]
 ·rw [if_neg hr,if_neg (fun z=>hr ((h r).mpr z))]
def gT (r t g:Nat):Bool:=decide (min t (r + 1) ≤ g∧g < max t (r + 1))
def cQ (x:Int):Int:=if 0 < x then x + 1 else x - 1
section
variable {P:Program} {w:World} {K:Frag} {mg:Str→Option Value} {base:Heap}
def Lh:Sp:=fun vs H Q _=>∃ (lr:Addr) (ds:List FR) (r g t:Nat) (d:FR),vs=[.ref lr,.int (r:Int),.int (g:Int)]∧cW H lr ds∧ds[r]? = some d∧d.ts=[(t:Int)]∧∀ H',Same H H'→Q (.bl (gT r t g)) H'
theorem Li:aI ["rows", "r", "other", "target"] ["rows", "r", "other"] (aj kf):=⟨rfl,rfl,rfl,by decide +kernel,rfl,by decide +kernel,by decide +kernel⟩
theorem Lj {f fT:Addr} {fd zk:FuncData} (F:dj K "jumps_over" "jumps_over" kf f fd) (T:Txt K w.params mg) (GT:aL P w K mg base cg 1 fT zk ["row"] km) (kT:KI K fT) (bT:Binds K zk ["row"] []) (mT:mg "targets_of" = some (.ref fT)):aL P w K mg base cg 2 f fd ["rows", "r", "other"] Lh:=by
 refine F.ok Li (fun vs H Q E h=>?_) (fun cdv A outer s H vs Q E hr h=>?_)
 ·obtain ⟨lr,ds,r,g,t,d,rfl,_⟩:=h
  rfl
 ·obtain ⟨lr,ds,r,g,t,d,rfl,hR,hd,hts,k⟩:=h
  obtain ⟨qs,q,g1,g2,g2',g3⟩:=hR.get hd
  obtain ⟨items,i1,_,i3,_⟩:=g3.parts
  refine ⟨_,(aD (aW (i:=3) Li.nd rfl (Or.inl rfl) (aJ aT (aM GT hr (by rfl) mT kT bT .nil aZ (ah (aJ aT (pv 0) (pv 1) (fun _ _=>rfl)) ao)) ak (fun _ _=>rfl)))
   (au (aN (rC o8 oZ (bu (pe rfl) (by rfl) T.min yT (ah (pv 3) (ah (aG cm (pv 1) ak) ao))) (pv 2) (bu (o9 rfl) (by rfl) T.max yS (ah (pv 3) (ah (aG cm (pv 1) ak) ao))))))),?_⟩
  refine ⟨_,rfl,_,rfl,lr,_,_,_,rfl,rfl,bh.of g1,g2,q,d.u,d.ts,rfl,⟨items,i1,i3⟩,fun l H1 s1 nl hl=>?_⟩
  rw [hts] at hl
  refine ⟨l,_,0,.int (t:Int),rfl,rfl,bh.of hl,rfl,?_⟩
  have kk:=k H1 s1
  unfold gT at kk
  have emin:(if (r:Int) + 1 < (t:Int) then (r:Int) + 1 else (t:Int))=((min t (r + 1):Nat):Int):=by split <;> omega
  have emax:(if (r:Int) + 1 > (t:Int) then (r:Int) + 1 else (t:Int))=((max t (r + 1):Nat):Int):=by split <;> omega
  refine ⟨_,rfl,_,rfl,_,_,rfl,rfl,_,_,rfl,?_⟩
  refine ⟨_,rfl,_,_,rfl,rfl,_,rfl,?_⟩
  refine cC (fun e=>?_) (fun e=>?_)
  ·have e:=of_decide_eq_true e
   rw [emin] at e
   refine ⟨_,rfl,_,rfl,_,_,rfl,rfl,_,_,rfl,_,_,rfl,rfl,?_⟩
   rw [emax]
   have:decide (min t (r + 1) ≤ g∧g < max t (r + 1))=decide ((g:Int) < ((max t (r + 1):Nat):Int)):=decide_eq_decide.mpr ⟨fun z=>by omega,fun z=>⟨by omega,by omega⟩⟩
   rw [this] at kk
   exact kk
  ·have e:¬ (((min t (r + 1):Nat):Int) ≤ (g:Int)):=fun z=>e (decide_eq_true (by rw [emin]; exact z))
   rw [decide_eq_false (fun z=>e (by omega))] at kk
   exact kk
def Lk:Sp:=fun vs H Q _=>∃ x:Int,vs=[.int x]∧Q (.int (cQ x)) H
theorem RN:aI ["distance"] ["distance"] (aj gq):=⟨rfl,rfl,rfl,by decide +kernel,rfl,by decide +kernel,by decide +kernel⟩
theorem Ln {f:Addr} {fd:FuncData} (F:dj K "one_further" "one_further" gq f fd) (T:Txt K w.params mg):aL P w K mg base cg 1 f fd ["distance"] Lk:=by
 refine F.ok RN (fun vs H Q E h=>?_) (fun cdv A outer s H vs Q E hr h=>?_)
 ·obtain ⟨x,rfl,_⟩:=h
  rfl
 ·obtain ⟨x,rfl,k⟩:=h
  refine ⟨_,(au (aN (eF (aS rB (pv 0) ak (bz _)) (aG cm (pv 0) ak) (aG gG (pv 0) ak)))),?_⟩
  unfold cQ at k
  refine ⟨_,rfl,_,_,rfl,rfl,_,rfl,?_⟩
  refine cC (fun e=>?_) (fun e=>?_)
  ·rw [if_pos (of_decide_eq_true e)] at k
   exact ⟨_,rfl,_,_,rfl,rfl,k⟩
  ·rw [if_neg (fun z=>e (decide_eq_true z))] at k
   exact ⟨_,rfl,_,_,rfl,rfl,k⟩
def Lp:Sp:=fun vs H Q _=>∃ (p:Addr) (d:FR),vs=[.ref p,.int 1]∧cj H p d∧∀ (p':Addr) (H':Hp),Same H H'→cj H' p' (dk d)→Q (.ref p') H'
theorem RO:aI ["row", "far"] ["row", "far"] (aj gn):=⟨rfl,rfl,rfl,by decide +kernel,rfl,by decide +kernel,by decide +kernel⟩
theorem Lq {f fH:Addr} {fd rY:FuncData} (F:dj K "with_far" "with_far" gn f fd) (T:Txt K w.params mg) (GH:aL P w K mg base cg 1 fH rY ["word"] pT) (kH:KI K fH) (bH:Binds K rY ["word"] []) (mH:mg "has_far" = some (.ref fH)):aL P w K mg base cg 2 f fd ["row", "far"] Lp:=by
 refine F.ok RO (fun vs H Q E h=>?_) (fun cdv A outer s H vs Q E hr h=>?_)
 ·obtain ⟨p,d,rfl,_⟩:=h
  rfl
 ·obtain ⟨p,d,rfl,hR,k⟩:=h
  obtain ⟨items,i1,_,i3,_⟩:=hR.parts
  have hok:=hR.1
  refine ⟨_,(au (aN (eF (eR (aM GH hr (by rfl) mH kH bH .nil aZ (ah (aJ aO (pv 0) ak (fun _ _=>rfl)) ao))) (aG lQ (eG jo (pv 0) fh (fj (dX dg ak))) (bt (ah (pv 1) ao))) (pv 0)))),?_⟩
  refine ⟨_,rfl,p,_,0,.str d.u,rfl,rfl,bq.of i1,at0 _ _,d.u,rfl,hR.1.1,_,rfl,?_⟩
  refine cC (fun e=>?_) (fun e=>?_)
  ·have e:=of_decide_eq_true e
   obtain ⟨nt,y1,_⟩:=cX hR e
   have eS:dk d=⟨d.u,d.is.dropLast ++ [1],d.ts⟩:=by unfold dk; rw [if_pos e]
   rw [eS] at k
   rcases (by decide +kernel:∀ u ∈ five,u ∈ eI∨u ∈ zb) _ e with z | z
   ·obtain ⟨tt,ff,e1,e2⟩:=hok.2.2.1 z
    have ep:H p=some (.tup [V.str d.u,V.int tt,V.int ff]):=by rw [y1,e1]; rfl
    rw [e1,e2] at k
    refine ⟨_,rfl,1,rfl,-1,rfl,p,_,rfl,bq.of ep,(fun z=>absurd z.2 (by show ¬ (2:Nat)=3; decide)),fun ta Dp=>?_⟩
    refine ⟨_,rfl,fc,fun tb vJ=>?_⟩
    refine ⟨ta,tb,[V.str d.u,V.int tt],_,rfl,rfl,bq.of (ae vJ _ _ ai),bq.of ai,cons_ne_nil _ _,gk,fun z=>absurd z (cons_ne_nil _ _),fun _ tc HE=>?_⟩
    exact k tc _ (((ae Dp).trans (ae vJ)).trans (ae HE)) (jO z ai)
   ·obtain ⟨bb,tt,ff,e1,e2⟩:=hok.2.2.2.1 z
    have ep:H p=some (.tup [V.str d.u,V.int bb,V.int tt,V.int ff]):=by rw [y1,e1]; rfl
    rw [e1,e2] at k
    refine ⟨_,rfl,1,rfl,-1,rfl,p,_,rfl,bq.of ep,(fun z=>absurd z.2 (by show ¬ (3:Nat)=4; decide)),fun ta Dp=>?_⟩
    refine ⟨_,rfl,fc,fun tb vJ=>?_⟩
    refine ⟨ta,tb,[V.str d.u,V.int bb,V.int tt],_,rfl,rfl,bq.of (ae vJ _ _ ai),bq.of ai,cons_ne_nil _ _,rW,fun z=>absurd z (cons_ne_nil _ _),fun _ tc HE=>?_⟩
    exact k tc _ (((ae Dp).trans (ae vJ)).trans (ae HE)) (nY z ai)
  ·have e:¬ d.u ∈ five:=fun z=>e (decide_eq_true z)
   refine ⟨_,rfl,k p _ (.refl _) ?_⟩
   unfold dk
   rw [if_neg e]
   exact hR
end
theorem cnt_cons {g:Nat} {P:List Nat} (h:¬ g ∈ P):∀ j,cnt (g :: P) j=cnt P j + if g < j then 1 else 0
 | 0=>by simp [cnt]
 | j + 1=>by
  rw [gC,gC,cnt_cons h j]
  have q1:(if j ∈ g :: P then 1 else 0:Nat)=(if j=g then 1 else 0) + (if j ∈ P then 1 else 0):=by
   by_cases e:j=g
   ·rw [if_pos (show j ∈ g :: P by rw [e]; exact mem_cons_self),if_pos e,if_neg (by rw [e]; exact h)]
   ·rw [if_neg e,Nat.zero_add]
    by_cases h1:j ∈ P
    ·rw [if_pos (List.mem_cons_of_mem _ h1),if_pos h1]
    ·rw [if_neg (fun z=>(mem_cons.mp z).elim e h1),if_neg h1]
  have q2:(if g < j + 1 then 1 else 0:Nat)=(if g < j then 1 else 0) + (if j=g then 1 else 0):=by
   by_cases e:j=g
   ·rw [if_pos (by omega),if_neg (by omega),if_pos e]
   ·by_cases h2:g < j
    ·rw [if_pos (by omega),if_pos h2,if_neg e]
    ·rw [if_neg (by omega),if_neg h2,if_neg e]
  rw [q1,q2]
  omega
section
variable {ds:List FR} {P:List Nat} {g r t:Nat}
theorem between (hG:eB ds) (hP:∀ x ∈ P,cv ds x) (hr:r < ds.length) (ht:t < ds.length) :
  (r + 1 ≤ t→(t:Int) - ((r:Int) + 1) ≤ dE (bA ds P) r (t:Int))∧(t ≤ r→dE (bA ds P) r (t:Int) ≤ (t:Int) - ((r:Int) + 1)):=by
 rw [eZ hP hr ht]
 unfold dE
 rw [Int.toNat_natCast]
 refine ⟨fun h=>?_,fun h=>?_⟩
 ·obtain ⟨k,rfl⟩:∃ k,t=r + 1 + k:=⟨t - (r + 1),by omega⟩
  have h2:=oq hG (a:=r + 1) k (by omega)
  have h4:=iI (L:=P) (show r + 1 ≤ r + 1 + k by omega)
  omega
 ·obtain ⟨k,hk⟩:∃ k,r + 1=t + k:=⟨r + 1 - t,by omega⟩
  rw [hk]
  have h2:=oq hG (a:=t) k (by omega)
  have h4:=iI (L:=P) (show t ≤ t + k by omega)
  omega
theorem ot:gT r t g=true↔(r + 1 ≤ g∧g < t)∨(t ≤ g∧g ≤ r):=by
 unfold gT
 rw [decide_eq_true_iff]
 omega
theorem xC (hG:eB ds) (hP:∀ x ∈ P,cv ds x) (hg:cv ds g) (hn:¬ g ∈ P) (hr:r < ds.length) (ht:t < ds.length) (h:gT r t g=true):dE (bA ds (g :: P)) r (t:Int)=cQ (dE (bA ds P) r (t:Int)):=by
 have hP':∀ x ∈ g :: P,cv ds x:=fun x hx=>(mem_cons.mp hx).elim (fun z=>by rw [z]; exact hg) (hP x)
 obtain ⟨b1,b2⟩:=between hG hP hr ht
 have e1:=eZ hP hr ht
 rw [eZ hP' hr ht,cnt_cons hn,cnt_cons hn]
 unfold cQ
 rcases ot.mp h with ⟨h1,h2⟩ | ⟨h1,h2⟩
 ·rw [if_pos h2,if_neg (by omega),if_pos (by have:=b1 (by omega); omega)]
  omega
 ·rw [if_neg (by omega),if_pos (by omega),if_neg (by have:=b2 (by omega); omega)]
  omega
theorem sy (hP:∀ x ∈ P,cv ds x) (hg:cv ds g) (hn:¬ g ∈ P) (hr:r < ds.length) (ht:t < ds.length) (h:gT r t g=false):dE (bA ds (g :: P)) r (t:Int)=dE (bA ds P) r (t:Int):=by
 have hP':∀ x ∈ g :: P,cv ds x:=fun x hx=>(mem_cons.mp hx).elim (fun z=>by rw [z]; exact hg) (hP x)
 rw [eZ hP' hr ht,eZ hP hr ht,cnt_cons hn,cnt_cons hn]
 have h:¬ ((r + 1 ≤ g∧g < t)∨(t ≤ g∧g ≤ r)):=fun z=>by rw [ot.mpr z] at h; cases h
 by_cases h1:g < t
 ·rw [if_pos h1,if_pos (by omega)]; omega
 ·rw [if_neg h1,if_neg (by omega)]; omega
theorem near (hG:eB ds) (hP:∀ x ∈ P,cv ds x) (hr:r < ds.length) (ht:t < ds.length) (hb:bf (dE (bA ds P) r (t:Int))=true) (h:gT r t g=true):g ≤ r + 64∧r ≤ g + 64:=by
 obtain ⟨b1,b2⟩:=between hG hP hr ht
 unfold bf at hb
 have hb:=of_decide_eq_true hb
 rcases ot.mp h with ⟨h1,h2⟩ | ⟨h1,h2⟩
 ·have:=b1 (by omega); omega
 ·have:=b2 (by omega); omega
end
def cr (ds:List FR):List Nat:=(lh ds ds.length).map (·.1)
def jn (ks:List Nat) (D:Nat→Int):List (Key × V):=eK (ks.map fun r=>(r,D r))
theorem gD {ds:List FR} {r:Nat}:r ∈ cr ds↔cv ds r:=by
 unfold cr lh cv
 constructor
 ·intro h
  obtain ⟨x,hx,rfl⟩:=mem_map.mp h
  obtain ⟨r,h1,h2⟩:=mem_filterMap.mp hx
  unfold jw at h2
  cases hd:ds[r]? with
  | none=>rw [hd] at h2; cases h2
  | some d =>
   rw [hd] at h2
   have h2:(if aV d=true then some (r,dst ds r d) else none)=some x:=h2
   by_cases hs:aV d=true
   ·rw [if_pos hs] at h2
    cases h2
    exact ⟨d,hd,hs⟩
   ·rw [if_neg hs] at h2
    cases h2
 ·rintro ⟨d,hd,hs⟩
  refine mem_map.mpr ⟨(r,dst ds r d),mem_filterMap.mpr ⟨r,mem_range.mpr (List.getElem?_eq_some_iff.mp hd).1,?_⟩,rfl⟩
  unfold jw
  rw [hd]
  exact if_pos hs
theorem lY {ks:List Nat} (hn:ks.Nodup) (D:Nat→Int) (r:Nat):cF (jn ks D) (Sum.inl (r:Int))=if r ∈ ks then some (.int (D r)) else none:=by
 by_cases h:r ∈ ks
 ·rw [if_pos h]
  exact sd (by rw [map_map]; show (ks.map fun r=>r).Nodup; rw [List.map_id']; exact hn) (mem_map.mpr ⟨r,h,rfl⟩)
 ·rw [if_neg h]
  unfold cF jn eK
  rw [Option.map_eq_none_iff,find?_eq_none]
  intro x hx z
  obtain ⟨y,hy,rfl⟩:=mem_map.mp hx
  obtain ⟨r',hr',rfl⟩:=mem_map.mp hy
  have:=Sum.inl.inj (of_decide_eq_true z)
  exact h (by rw [show r=r' by omega]; exact hr')
theorem Dq {ks:List Nat} (D:Nat→Int) {r:Nat} (h:r ∈ ks) (x:Int):putK (jn ks D) (Sum.inl (r:Int)) (.int x)=jn ks (fun j=>if j=r then x else D j):=by
 unfold putK
 rw [if_pos (List.any_eq_true.mpr ⟨((Sum.inl (r:Int):Key),V.int (D r)),by unfold jn eK; rw [map_map]; exact mem_map.mpr ⟨r,h,rfl⟩,decide_eq_true rfl⟩)]
 unfold jn eK
 rw [map_map,map_map,map_map]
 refine List.map_congr_left fun j _=>?_
 show (if ((Sum.inl (j:Int):Key))=Sum.inl (r:Int) then ((Sum.inl (j:Int):Key),V.int x) else (Sum.inl (j:Int),V.int (D j)))=(Sum.inl (j:Int),V.int (if j=r then x else D j))
 by_cases e:j=r
 ·rw [if_pos (by rw [e]),if_pos e]
 ·rw [if_neg (fun z=>e (by have:=Sum.inl.inj z; omega)),if_neg e]
theorem vK {α:Type} {xs:List α} {j i:Nat} {y x:α} (h:(xs.set j y)[i]? = some x):(i=j∧x=y)∨(i ≠ j∧xs[i]? = some x):=by
 by_cases e:i=j
 ·subst e
  have hi:=(List.getElem?_eq_some_iff.mp h).1
  rw [length_set] at hi
  rw [List.getElem?_set_self hi] at h
  exact .inl ⟨rfl,(Option.some.inj h).symm⟩
 ·rw [List.getElem?_set_ne (fun z=>e z.symm)] at h
  exact .inr ⟨e,h⟩
theorem place {H:Hp} {lo tc:Addr} {qs:List Addr} {ds:List FR} {j:Nat} {d':FR} (hl:H lo=some (.lst (qs.map V.ref))) (r2:qs.length=ds.length) (r3:∀ (i:Nat) q d,qs[i]? = some q→ds[i]? = some d→cj H q d) (hrow:cj H tc d') (hg:GoodR d' ds.length) (hG:eB ds) :
  cW (upd H lo (.lst ((qs.map V.ref).set j (.ref tc)))) lo (ds.set j d')∧eB (ds.set j d'):=by
 refine ⟨⟨qs.set j tc,by rw [ai,map_set],by rw [length_set,length_set,r2],fun i q dd g1 g2=>?_⟩,fun dd hdd=>?_⟩
 ·rcases vK g1 with ⟨e,rfl⟩ | ⟨e,g1⟩ <;> rcases vK g2 with ⟨e',rfl⟩ | ⟨e',g2⟩
  ·exact hrow.put hl
  ·exact absurd e e'
  ·exact absurd e' e
  ·exact (r3 i q dd g1 g2).put hl
 ·rw [length_set]
  rcases List.mem_or_eq_of_mem_set hdd with z | rfl
  ·exact hG dd z
  ·exact hg
theorem Ap (k:Str):vq k 1:=by
 unfold vq Gy
 repeat' split
 all_goals exact ⟨by decide,by decide⟩
theorem qc:∀ {is:List Int} {ks:List Str},(∀ x ∈ ks.zip is,vq x.1 x.2)→∀ x ∈ ks.zip (is.dropLast ++ [1]),vq x.1 x.2
 | _,[],_,x,hx=>by simp at hx
 | [],k :: ks,_,x,hx=>by
  rw [show x=(k,1) by simpa using hx]
  exact Ap k
 | [a],k :: ks,_,x,hx=>by
  rw [show x=(k,1) by simpa using hx]
  exact Ap k
 | a :: b :: r,k :: ks,h,x,hx=>by
  have hx:x=(k,a)∨x ∈ ks.zip ((b :: r).dropLast ++ [1]):=by
   rw [List.dropLast_cons_of_ne_nil (by simp),List.cons_append,zip_cons_cons] at hx
   exact mem_cons.mp hx
  rcases hx with rfl | hx
  ·exact h (k,a) (by simp)
  ·exact qc (fun y hy=>h y (by rw [zip_cons_cons]; exact List.mem_cons_of_mem _ hy)) x hx
theorem qd {d:FR} {n:Int} (h:GoodR d n):GoodR (dk d) n:=by
 refine ⟨by rw [vI]; exact h.1,by rw [vI]; exact h.2.1,fun z=>?_,?_⟩
 ·rw [kx] at z
  exact .inr (iH z)
 ·unfold dk
  split
  ·exact qc h.2.2.2
  ·exact h.2.2.2
theorem kA {ds:List FR} (h:eB ds) (L:List Nat):eB (bA ds L):=fun d hd=>by
 rw [bM]
 obtain ⟨r,hr⟩:=List.getElem?_of_mem hd
 have hl:=(List.getElem?_eq_some_iff.mp hr).1
 rw [bM] at hl
 have h0:ds[r]? = some ds[r]:=List.getElem?_eq_getElem hl
 rw [dF h0] at hr
 have hg:=h ds[r] (List.getElem_mem hl)
 split at hr
 ·cases hr
  exact qd hg
 ·cases hr
  exact hg
theorem Aq {ds:List FR} {L:List Nat} {r:Nat} {d:FR} (hd:ds[r]? = some d):(bA ds L).set r (dk d)=bA ds (r :: L):=by
 refine List.ext_getElem? fun j=>?_
 by_cases e:j=r
 ·subst e
  have hl:=(List.getElem?_eq_some_iff.mp hd).1
  rw [List.getElem?_set_self (by rw [bM]; exact hl),dF hd,if_pos (by simp)]
 ·rw [List.getElem?_set_ne (fun z=>e z.symm)]
  cases h:ds[j]? with
  | none =>
   have:ds.length ≤ j:=List.getElem?_eq_none_iff.mp h
   rw [List.getElem?_eq_none (by rw [bM]; exact this),List.getElem?_eq_none (by rw [bM]; exact this)]
  | some d' =>
   rw [dF h,dF h]
   have:(j ∈ r :: L)↔j ∈ L:=by simp [e]
   by_cases hj:j ∈ L
   ·rw [if_pos hj,if_pos (this.mpr hj)]
   ·rw [if_neg hj,if_neg (fun z=>hj (this.mp z))]
theorem uk (d:FR):aV (dk d)=false:=by
 unfold aV
 rw [kx]
 by_cases h:d.u ∈ five
 ·rw [iH h]
  simp
 ·rw [decide_eq_false h]
  rfl
theorem jQ:∀ {L:List Nat} {n:Nat},L.Nodup→(∀ x ∈ L,x < n)→L.length ≤ n:=fun {L n} h1 h2=>by
 exact le_trans (h1.length_le_of_subset (l₂:=List.range n) fun x hx=>mem_range.mpr (h2 x hx)) (by rw [length_range]; exact le_refl _)
def lG:List Str:=["jump", "zero", "below", "call", "mark"]
theorem qe (u:Str):decide (u ∈ lG)=decide (u ∈ five):=by
 refine decide_eq_decide.mpr ?_
 simp only [lG,five,mem_cons,not_mem_nil,or_false]
 constructor <;> rintro (h | h | h | h | h) <;> simp [h]
def gU (ds:List FR):Bool:=(List.range ds.length).all fun r=>match ds[r]? with
 | some d=>fV ds r d
 | none=>true
theorem i7 {ds:List FR}:gU ds=true↔∀ (r:Nat) d,ds[r]? = some d→aV d=true→bf (dst ds r d)=true:=by
 unfold gU
 rw [all_eq_true]
 constructor
 ·intro h r d hd hs
  have this:fV ds r d=true:=by
   have:=h r (mem_range.mpr (List.getElem?_eq_some_iff.mp hd).1)
   rw [hd] at this
   exact this
  unfold fV at this
  rw [hs] at this
  simpa using this
 ·intro h r hr
  cases e:ds[r]? with
  | none=>rfl
  | some d =>
   show fV ds r d=true
   unfold fV
   cases hs:aV d with
   | false=>rfl
   | true=>rw [h r d e hs]; rfl
theorem HF {ds:List FR} {r:Nat} {d:FR} (hd:ds[r]? = some d) (hs:aV d=true) (hb:bf (dst ds r d)=false):gU ds=false:=by
 rw [Bool.eq_false_iff]
 intro z
 have:=i7.mp z r d hd hs
 rw [hb] at this
 cases this
section
variable {P:Program} {w:World} {K:Frag} {mg:Str→Option Value} {base:Heap}
def Lr:Sp:=fun vs H Q _=>∃ (lr:Addr) (ds:List FR),vs=[.ref lr]∧cW H lr ds∧eB ds∧ds.length ≤ 1000∧∀ H',Same H H'→Q (.bl (gU ds)) H'
theorem Dr:aI ["_law_rows", "_law_begins", "_law_row_here", "_law_k"] ["_law_rows"] (aj pO):=⟨rfl,rfl,rfl,by decide +kernel,rfl,by decide +kernel,by decide +kernel⟩
theorem Lv {f fS:Addr} {fd rZ:FuncData} (F:dj K "_law_good" "_law_good" pO f fd) (T:Txt K w.params mg) (GS:aL P w K mg base cg 1 fS rZ ["_law_row_here"] qQ) (kS:KI K fS) (bS:Binds K rZ ["_law_row_here"] []) (mS:mg "_law_size" = some (.ref fS)):aL P w K mg base cg 2 f fd ["_law_rows"] Lr:=by
 refine F.ok Dr (fun vs H Q E h=>?_) (fun cdv A outer s H vs Q E hr h=>?_)
 ·obtain ⟨lr,ds,rfl,_⟩:=h
  rfl
 ·obtain ⟨lr,ds,rfl,hR,hA,hn,k⟩:=h
  obtain ⟨qs,r1,r2,r3⟩:=hR
  refine dM (aw (aK (aW (i:=1) Dr.nd rfl (Or.inl rfl) (ck (ah ak ao))))
   (aw (aK (df PassesOwn.never rfl (eC (pv 0)) (cu (i:=2) Dr.nd rfl (Or.inl rfl)) (au (bQ (dR PySem.F.plainAttrs_list PySem.F.slot_list_append PySem.F.type_list_append bZ (pv 1) (ah (aG cm (aJ aT (pv 1) (dX dg ak) (fun _ _=>rfl)) (aM GS hr (by rfl) mS kS bS .nil aZ (ah (pv 2) ao))) ao))))))
   (aw (aK (df PassesOwn.never rfl (gH rfl T.enum (ah (pv 0) ao)) (gM (K:=K) (i:=3) (j:=2) rfl rfl Dr.nd rfl (Or.inl rfl) rfl (Or.inl rfl)) (au (cV (jY (aS cz (aJ aO (pv 2) ak (fun _ _=>rfl)) (iX (.cons az (.cons az (.cons az (.cons az (.cons az .nil)))))) rfl) (lO (aS d7 (aJ aO (pv 2) (dX dg ak) (fun _ _=>rfl)) ak (bz _)))).pt (au (cV (qp (rE o8 o8 (dX dg ak) (aG gG (aJ aT (pv 1) (aJ aO (pv 2) (dX dg ak) (fun _ _=>rfl)) (fun _ _=>rfl)) (aJ aT (pv 1) (aG cm (pv 3) ak) (fun _ _=>rfl))) ak)) (au (aN jf)) aX)) aX))))
   (aU (aK (aN jf)))))) ?_
  refine ⟨by decide,fun l nl=>?_⟩
  refine ⟨_,rfl,lr,rfl,⟨_,bh.of (ae nl _ _ r1)⟩,hU (K:=K) (a:=lr) (xs:=qs.map V.ref) (fun i σ G=>i ≤ ds.length∧∃ v:Option V,σ=[some (.ref lr),some (.ref l),v,none]∧Same H G∧G l=some (.lst ((gu ds i).map V.int))) ?_ ?_ ?_ ?_⟩
  ·exact ⟨zero_le _,none,rfl,ae nl,ai⟩
  ·rintro i σ G _ ⟨_,v,rfl,s1,_⟩
   exact bh.of (s1 _ _ r1)
  ·rintro i x σ G hx ⟨hi,v,rfl,s1,hl⟩
   rw [List.getElem?_map] at hx
   obtain ⟨q,hq,rfl⟩:=map_eq_some_iff.mp hx
   have hil:i < ds.length:=by have:=(List.getElem?_eq_some_iff.mp hq).1; omega
   have hd:ds[i]? = some ds[i]:=List.getElem?_eq_getElem hil
   generalize ds[i]=d at hd
   refine ⟨_,rfl,.inl ⟨rfl,_,bh.of hl⟩,_,rfl,_,rfl,l,_,-1,.int (beg ds i),rfl,rfl,bh.of hl,zh (by rw [length_map,jK,List.getElem?_map]; show Option.map _ ((gu ds i)[i]?)=_; rw [lU (le_refl _)]; rfl),_,rfl,q,d,rfl,(r3 i q d hq hd).same s1,fun G2 s2=>⟨_,_,rfl,rfl,l,_,_,rfl,rfl,s2 _ _ hl,bj (by rw [length_map,jK]; omega),?_⟩⟩
   refine ⟨hil,_,rfl,aR (s1.trans s2) nl,?_⟩
   rw [ai,pU,gA hd,map_append]
   rfl
  rintro σ G ⟨_,v,rfl,s1,hl⟩
  rw [length_map,r2] at hl
  refine ⟨_,rfl,lr,rfl,⟨_,bh.of (s1 _ _ r1)⟩,ia (xs:=qs.map V.ref) (fun i σ G=>i ≤ ds.length∧∃ v3 v4:Option V,σ=[some (.ref lr),some (.ref l),v3,v4]∧Same H G∧G l=some (.lst ((gu ds ds.length).map V.int))∧∀ (r:Nat) d,r < i→ds[r]? = some d→aV d=true→bf (dst ds r d)=true) ?_ ?_ ?_ ?_⟩
  ·exact ⟨zero_le _,_,none,rfl,s1,hl,fun r d h=>by omega⟩
  ·rintro i σ G _ ⟨_,v3,v4,rfl,s3,_⟩
   exact bh.of (s3 _ _ r1)
  ·rintro i x σ G tt hx kn ⟨_,v3,v4,rfl,s3,hl3,hb3⟩
   rw [List.getElem?_map] at hx
   obtain ⟨q,hq,rfl⟩:=map_eq_some_iff.mp hx
   have hil:i < ds.length:=by have:=(List.getElem?_eq_some_iff.mp hq).1; omega
   have hd:ds[i]? = some ds[i]:=List.getElem?_eq_getElem hil
   generalize ds[i]=d at hd
   have s4:=s3.trans (ae (o:=.tup [V.int i,V.ref q]) kn)
   have EK:=ae (o:=.tup [V.int i,V.ref q]) kn _ _ hl3
   have htt:upd G tt (.tup [V.int i,V.ref q]) tt=_:=ai
   generalize upd G tt (.tup [V.int i,V.ref q])=G1 at s4 EK htt ⊢
   have hrow:=(r3 i q d hq hd).same s4
   obtain ⟨items,i1,_⟩:=hrow.parts
   refine ⟨tt,_,rfl,bq.of htt,rfl,_,_,rfl,_,_,rfl,rfl,?_⟩
   refine ⟨_,rfl,q,_,0,_,rfl,rfl,bq.of i1,at0 _ _,yO,fun t5 Ck=>⟨t5,lG.map V.str,rfl,.inr (bq.of ai),rfl,rfl,_,rfl,?_⟩⟩
   have s5:=s4.trans (ae (o:=.tup [V.str "jump",V.str "zero",V.str "below",V.str "call",V.str "mark"]) Ck)
   have sM:=ae (o:=.tup [V.str "jump",V.str "zero",V.str "below",V.str "call",V.str "mark"]) Ck _ _ EK
   have sC:=hrow.same (ae (o:=.tup [V.str "jump",V.str "zero",V.str "below",V.str "call",V.str "mark"]) Ck)
   rw [show inV (.str d.u) (lG.map V.str)=decide (d.u ∈ lG) from cO _ _,qe]
   generalize upd G1 t5 (.tup [V.str "jump",V.str "zero",V.str "below",V.str "call",V.str "mark"])=G2 at s5 sM sC ⊢
   clear hrow i1
   have done:aV d=false→∃ v3 v4:Option V,[some (.ref lr),some (.ref l),some (.ref q),some (.int (i:Int))]=[some (.ref lr),some (.ref l),v3,v4]∧Same H G2∧G2 l=some (.lst ((gu ds ds.length).map V.int))∧∀ (r:Nat) d,r < i + 1→ds[r]? = some d→aV d=true→bf (dst ds r d)=true:=fun hs=>⟨_,_,rfl,s5,sM,fun r d' hr' hd' hs'=>by
    rcases Nat.lt_succ_iff_lt_or_eq.mp hr' with z | rfl
    ·exact hb3 r d' z hd' hs'
    ·rw [hd] at hd'
     cases hd'
     rw [hs] at hs'
     cases hs'⟩
   by_cases hu:d.u ∈ five
   ·rw [decide_eq_true hu]
    refine yn ?_
    obtain ⟨_,g1,g2,t,g3,g4⟩:=cX sC hu
    refine ⟨_,rfl,_,rfl,q,_,-1,.int (fQ d),rfl,rfl,bq.of g1,g2,rfl,_,rfl,?_⟩
    refine cC (fun e=>?_) (fun e=>?_)
    ·have e:fQ d=0:=V.int.inj (of_decide_eq_true e)
     have hs:aV d=true:=by unfold aV; rw [decide_eq_true hu,decide_eq_true e]; rfl
     obtain ⟨h0,h1⟩:=(hA d (List.mem_of_getElem? hd)).2.1 t (by rw [g3]; simp)
     obtain ⟨tn,rfl⟩:=Int.eq_ofNat_of_zero_le h0
     have atb:∀ j:Nat,j ≤ ds.length→kZ ((gu ds ds.length).map V.int) (j:Int)=some (.int (beg ds j)):=fun j hj=>cL (by rw [List.getElem?_map,lU hj]; rfl)
     refine ⟨_,rfl,_,rfl,_,rfl,_,rfl,q,_,-2,.int (tn:Int),rfl,rfl,bq.of g1,g4,l,_,_,.int (beg ds tn),rfl,rfl,bh.of sM,atb tn (by omega),?_⟩
     refine ⟨_,rfl,_,rfl,_,_,rfl,rfl,l,_,_,.int (beg ds (i + 1)),rfl,rfl,bh.of sM,atb (i + 1) (by omega),_,_,rfl,rfl,?_⟩
     have HG:dst ds i d=beg ds tn - beg ds (i + 1):=by unfold dst dE; rw [g3]; rfl
     have bad:bf (dst ds i d)=false→Q (.bl false) G2:=fun hb=>by
      have:=k G2 s5
      rw [HF hd hs hb] at this
      exact this
     refine ⟨_,_,rfl,rfl,_,rfl,?_⟩
     by_cases h64:-64 ≤ beg ds tn - beg ds (i + 1)
     ·refine oQ (decide_eq_true h64) ?_
      refine ⟨_,_,rfl,rfl,_,rfl,?_⟩
      by_cases h63:beg ds tn - beg ds (i + 1) ≤ 63
      ·refine jd (by rw [show decide (beg ds tn - beg ds (i + 1) ≤ 63)=true from decide_eq_true h63]; simp) ?_
       refine ⟨hil,_,_,rfl,s5,sM,fun r d' hr' hd' hs'=>?_⟩
       rcases Nat.lt_succ_iff_lt_or_eq.mp hr' with z | rfl
       ·exact hb3 r d' z hd' hs'
       ·rw [hd] at hd'
        cases hd'
        unfold bf
        rw [HG]
        exact decide_eq_true ⟨h64,h63⟩
      ·refine oQ (by rw [show decide (beg ds tn - beg ds (i + 1) ≤ 63)=false from decide_eq_false h63]; rfl) ?_
       exact bad (by unfold bf; rw [HG]; exact decide_eq_false fun z=>h63 z.2)
     ·refine jd (fun z=>h64 (of_decide_eq_true z)) ?_
      refine ⟨_,rfl,oQ rfl ?_⟩
      exact bad (by unfold bf; rw [HG]; exact decide_eq_false fun z=>h64 z.1)
    ·exact ⟨hil,done (by unfold aV; rw [decide_eq_true hu,Bool.true_and]; exact decide_eq_false (fun z=>e (decide_eq_true (by rw [z]))))⟩
   ·rw [decide_eq_false hu]
    exact oK ⟨hil,done (by unfold aV; rw [decide_eq_false hu,Bool.false_and])⟩
  ·rintro σ G ⟨_,v3,v4,rfl,s3,_,hb⟩
   rw [length_map,r2] at hb
   have:=k G s3
   rw [i7.mpr (fun r d hd=>hb r d (List.getElem?_eq_some_iff.mp hd).1 hd)] at this
   exact this
end
def lI (l:List Nat):List V:=l.map fun x:Nat=>V.int (x:Int)
theorem ou (l:List Nat) (x:Nat):lI l ++ [V.int (x:Int)]=lI (l ++ [x]):=by unfold lI; rw [map_append]; rfl
theorem fK (l:List Nat):(lI l).length=l.length:=by unfold lI; rw [length_map]
def um (ds:List FR) (r:Nat):Bool:=match ds[r]? with
 | some d=>aV d
 | none=>false
theorem Ds {ds:List FR} {r:Nat} {d:FR} (h:ds[r]? = some d):um ds r=aV d:=by unfold um; rw [h]
theorem Ar {ds:List FR} {r:Nat}:um ds r=true↔cv ds r:=by
 unfold um cv
 cases e:ds[r]? with
 | none=>simp
 | some d=>simp
def jl (ds:List FR) (i:Nat):List Nat:=(List.range i).filter (um ds)
theorem qS {ds:List FR} {i:Nat} {d:FR} (h:ds[i]? = some d):jl ds (i + 1)=jl ds i ++ if aV d=true then [i] else []:=by
 unfold jl
 rw [range_succ,filter_append]
 congr 1
 rw [← Ds h]
 by_cases e:um ds i=true
 ·rw [if_pos e,filter_cons_of_pos e]; rfl
 ·rw [if_neg e,filter_cons_of_neg e]; rfl
theorem uo {ds:List FR} {i x:Nat}:x ∈ jl ds i↔x < i∧cv ds x:=by
 unfold jl
 rw [mem_filter,mem_range,Ar]
theorem Au (ds:List FR) (i:Nat):(jl ds i).length ≤ i:=by
 unfold jl
 have:=length_filter_le (um ds) (List.range i)
 rw [length_range] at this
 exact this
def eN (js:List Nat) (nb i:Nat):List Nat:=(List.range i).filterMap fun j=>if nb.testBit j=true then js[j]? else none
theorem dS {js:List Nat} {nb i k:Nat} (h:js[i]? = some k):eN js nb (i + 1)=eN js nb i ++ if nb.testBit i=true then [k] else []:=by
 unfold eN
 rw [range_succ,List.filterMap_append]
 congr 1
 by_cases e:nb.testBit i=true
 ·rw [if_pos e]; simp [e,h]
 ·rw [if_neg e]; simp [e]
theorem Av {js:List Nat} {nb i x:Nat} (h:x ∈ eN js nb i):x ∈ js:=by
 unfold eN at h
 obtain ⟨j,_,hj⟩:=mem_filterMap.mp h
 split at hj
 ·exact List.mem_of_getElem? hj
 ·cases hj
theorem ow {js:List Nat} {a nb nb':Nat} (h:∀ j,j < js.length→nb'.testBit j=nb.testBit j):∀ i,i ≤ js.length→eN (js ++ [a]) nb' i=eN js nb i
 | 0,_=>rfl
 | i + 1,hi=>by
  have e1:js[i]? = some (js[i]'(by omega)):=List.getElem?_eq_getElem _
  have e2:(js ++ [a])[i]? = some (js[i]'(by omega)):=by rw [List.getElem?_append_left (by omega)]; exact e1
  rw [dS e1,dS e2,ow h i (by omega),h i (by omega)]
theorem sD (p:Nat→Bool):∀ (n:Nat) (js:List Nat),js.length=n→∃ nb,nb < 2 ^ js.length∧eN js nb js.length=js.filter p
 | 0,js,h=>by
  rw [List.length_eq_zero_iff.mp h]
  exact ⟨0,by decide,rfl⟩
 | n + 1,js0,h=>by
  obtain ⟨js,a,rfl⟩:∃ js a,js0=js ++ [a]:=⟨_,_,(List.dropLast_concat_getLast (fun z=>by rw [z] at h; cases h)).symm⟩
  have hl:(js ++ [a]).length=js.length + 1:=by simp
  obtain ⟨nb,h1,h2⟩:=sD p n js (by omega)
  have ha:(js ++ [a])[js.length]? = some a:=by simp
  rw [hl]
  by_cases e:p a=true
  ·refine ⟨2 ^ js.length + nb,by rw [Nat.pow_succ]; omega,?_⟩
   rw [dS ha,ow (nb:=nb) (fun j hj=>Nat.testBit_two_pow_add_gt hj nb) _ (le_refl _),h2,filter_append,Nat.testBit_two_pow_add_eq,Nat.testBit_lt_two_pow h1]
   simp [e]
  ·refine ⟨nb,by rw [Nat.pow_succ]; omega,?_⟩
   rw [dS ha,ow (nb:=nb) (fun _ _=>rfl) _ (le_refl _),h2,filter_append,Nat.testBit_lt_two_pow h1]
   simp [e]
def iJ (ds:List FR) (js:List Nat) (i:Nat):List (List Nat):=((List.range i).filter fun nb=>gU (bA ds (eN js nb js.length))).map fun nb=>eN js nb js.length
theorem xD (ds:List FR) (js:List Nat) (i:Nat):iJ ds js (i + 1)=iJ ds js i ++ if gU (bA ds (eN js i js.length))=true then [eN js i js.length] else []:=by
 unfold iJ
 rw [range_succ,filter_append,map_append]
 congr 1
 by_cases e:gU (bA ds (eN js i js.length))=true
 ·simp [e]
 ·simp [e]
theorem Dt {ds:List FR} (hG:eB ds) {L:List Nat} (hL:∀ x ∈ L,cv ds x) (hgood:gU (bA ds L)=true):∀ x,qR ds x→x ∈ L:=by
 intro x hx
 induction hx with
 | @mk r d L' hL' hd hs hb ih =>
  refine Decidable.byContradiction fun hn=>?_
  have h1:=i7.mp hgood r d (by rw [dF hd,if_neg hn]) hs
  have hr:=(List.getElem?_eq_some_iff.mp hd).1
  have hg:=hG d (List.mem_of_getElem? hd)
  have ht:∃ t:Nat,d.ts.headD 0=(t:Int)∧t < ds.length:=by
   cases hts:d.ts with
   | nil=>exact ⟨0,rfl,by omega⟩
   | cons t0 tl =>
    obtain ⟨a,b⟩:=hg.2.1 t0 (by rw [hts]; simp)
    obtain ⟨tn,rfl⟩:=Int.eq_ofNat_of_zero_le a
    exact ⟨tn,rfl,by omega⟩
  obtain ⟨t,et,htl⟩:=ht
  unfold dst at hb h1
  rw [et] at hb h1
  have:=sx hG hL ih hr htl hb
  rw [this] at h1
  cases h1
theorem Aw {ds:List FR} {L:List Nat} (hL:∀ x,x ∈ L↔qR ds x):gU (bA ds L)=true:=by
 refine i7.mpr fun r d' hd' hs=>?_
 have hr:=(List.getElem?_eq_some_iff.mp hd').1
 rw [bM] at hr
 have hd:ds[r]? = some ds[r]:=List.getElem?_eq_getElem hr
 rw [dF hd] at hd'
 by_cases hm:r ∈ L
 ·rw [if_pos hm] at hd'
  cases hd'
  rw [uk] at hs
  cases hs
 ·rw [if_neg hm] at hd'
  cases hd'
  refine Decidable.byContradiction fun hn=>hm ((hL r).mpr (.mk L (fun x hx=>(hL x).mp hx) hd hs (by simpa using hn)))
def sE (ds:List FR) (L:List Nat):List Nat:=(jl ds ds.length).filter fun x=>decide (x ∈ L)
theorem sF {ds:List FR} {L:List Nat} (hL:∀ x,x ∈ L↔qR ds x) {x:Nat}:x ∈ sE ds L↔x ∈ L:=by
 unfold sE
 rw [mem_filter,uo]
 constructor
 ·intro h
  exact of_decide_eq_true h.2
 ·intro h
  obtain ⟨d,hd,hs⟩:=((hL x).mp h).short
  exact ⟨⟨(List.getElem?_eq_some_iff.mp hd).1,d,hd,hs⟩,decide_eq_true h⟩
theorem Ax (ds:List FR):bA ds []=ds:=by
 refine List.ext_getElem? fun r=>?_
 unfold bA
 rw [List.getElem?_mapIdx]
 cases ds[r]? <;> simp
theorem Du {ds:List FR} {L:List Nat} (hL:∀ x,x ∈ L↔qR ds x):sE ds L ∈ iJ ds (jl ds ds.length) (2 ^ (jl ds ds.length).length):=by
 obtain ⟨nb,h1,h2⟩:=sD (fun x=>decide (x ∈ L)) _ (jl ds ds.length) rfl
 unfold iJ
 refine mem_map.mpr ⟨nb,mem_filter.mpr ⟨mem_range.mpr h1,?_⟩,h2⟩
 show gU (bA ds (eN (jl ds ds.length) nb (jl ds ds.length).length))=true
 rw [h2]
 show gU (bA ds (sE ds L))=true
 rw [jy (L':=L) (fun x=>sF hL)]
 exact Aw hL
theorem Ay {ds:List FR} (hG:eB ds) {L:List Nat} (hL:∀ x,x ∈ L↔qR ds x) {n:Nat} {M:List Nat} (hM:M ∈ iJ ds (jl ds ds.length) n):∀ x ∈ sE ds L,x ∈ M:=fun x hx=>by
 unfold iJ at hM
 obtain ⟨nb,h1,rfl⟩:=mem_map.mp hM
 have hg:=(mem_filter.mp h1).2
 exact Dt hG (fun y hy=>(uo.mp (Av hy)).2) hg x ((hL x).mp ((sF hL).mp hx))
def gQ (d:FR):Rw :=
 if d.u = "stop" then .stop else if d.u = "back" then .back else if d.u = "halt" then .halt (d.is.getD 0 0) else if d.u = "tell" then .tell (d.is.getD 0 0) else if d.u = "table" then .table (d.is.getD 0 0) d.ts
 else if d.u ∈ eI then .eI d.u (d.is.getD 0 0) (d.is.getD 1 0) else if d.u ∈ zb then .zb d.u (d.is.getD 0 0) (d.is.getD 1 0) (d.is.getD 2 0) else .two d.u (d.is.getD 0 0) (d.is.getD 1 0)
theorem ox {d:FR} (h:d.u ∈ eI):gQ d=.eI d.u (d.is.getD 0 0) (d.is.getD 1 0):=by
 have a:=(by decide +kernel:∀ u ∈ eI,¬ u = "stop" ∧ ¬ u = "back" ∧ ¬ u = "halt" ∧ ¬ u = "tell" ∧ ¬ u = "table") _ h
 unfold gQ
 rw [if_neg a.1,if_neg a.2.1,if_neg a.2.2.1,if_neg a.2.2.2.1,if_neg a.2.2.2.2,if_pos h]
theorem qT {d:FR} (h:d.u ∈ zb):gQ d=.zb d.u (d.is.getD 0 0) (d.is.getD 1 0) (d.is.getD 2 0):=by
 have a:=(by decide +kernel:∀ u ∈ zb,¬ u = "stop" ∧ ¬ u = "back" ∧ ¬ u = "halt" ∧ ¬ u = "tell" ∧ ¬ u = "table" ∧ ¬ u ∈ eI) _ h
 unfold gQ
 rw [if_neg a.1,if_neg a.2.1,if_neg a.2.2.1,if_neg a.2.2.2.1,if_neg a.2.2.2.2.1,if_neg a.2.2.2.2.2,if_pos h]
theorem Az {d:FR} (h:d.u ∈ ten):gQ d=.two d.u (d.is.getD 0 0) (d.is.getD 1 0):=by
 have a:=(by decide +kernel:∀ u ∈ ten,¬ u = "stop" ∧ ¬ u = "back" ∧ ¬ u = "halt" ∧ ¬ u = "tell" ∧ ¬ u = "table" ∧ ¬ u ∈ eI∧¬ u ∈ zb) _ h
 unfold gQ
 rw [if_neg a.1,if_neg a.2.1,if_neg a.2.2.1,if_neg a.2.2.2.1,if_neg a.2.2.2.2.1,if_neg a.2.2.2.2.2.1,if_neg a.2.2.2.2.2.2]
theorem qU {d:FR} {b:Int} {r:List Int} {ks:List Str} (hp:gP d) (h:d.is=b :: r) (hk:dn d.u=("box" : Str) :: ks):Bx b:=by
 have:=hp ("box",b) (by rw [hk,h,zip_cons_cons]; exact mem_cons_self)
 have h1:(0:Int) ≤ b:=this.1
 have h2:b ≤ 7:=this.2
 exact ⟨h1,by omega⟩
theorem rw_is {H:Hp} {q:Addr} {d:FR} {n:Int} (h:cj H q d) (g:GoodR d n):lF H q n (gQ d)∧(gQ d).word=d.u:=by
 have ht:=g.2.1
 have hp:=g.2.2.2
 obtain ⟨⟨o1,o2,o3,o4,o5,o6,o7⟩,hA⟩:=h
 have HI:¬ d.u = "table" → H q=some (.tup (.str d.u :: d.is.map V.int)):=fun z=>by
  rcases hA with ⟨a,_⟩ | ⟨_,a⟩
  ·exact absurd a z
  ·exact a
 have cls:=(by decide +kernel:∀ u ∈ d8,u = "stop" ∨ u = "back" ∨ u = "halt" ∨ u = "tell" ∨ u = "table" ∨ u ∈ eI∨u ∈ zb∨u ∈ ten) _ o1
 rcases cls with hu | hu | hu | hu | hu | hu | hu | hu
 ·have l:=(o5 (by rw [hu]; decide) (by rw [hu]; decide) (by rw [hu]; decide)).2
  rw [hu] at l
  have e1:d.is=[]:=List.length_eq_zero_iff.mp (l.trans rfl)
  have hq:=HI (by rw [hu]; decide)
  rw [e1,hu] at hq
  unfold gQ
  rw [if_pos hu]
  exact ⟨hq,hu.symm⟩
 ·have l:=(o5 (by rw [hu]; decide) (by rw [hu]; decide) (by rw [hu]; decide)).2
  rw [hu] at l
  have e1:d.is=[]:=List.length_eq_zero_iff.mp (l.trans rfl)
  have hq:=HI (by rw [hu]; decide)
  rw [e1,hu] at hq
  unfold gQ
  rw [if_neg (by rw [hu]; decide),if_pos hu]
  exact ⟨hq,hu.symm⟩
 ·have l:=(o5 (by rw [hu]; decide) (by rw [hu]; decide) (by rw [hu]; decide)).2
  rw [hu] at l
  obtain ⟨v,e1⟩:=List.length_eq_one_iff.mp (l.trans rfl)
  have hq:=HI (by rw [hu]; decide)
  rw [e1,hu] at hq
  unfold gQ
  rw [if_neg (by rw [hu]; decide),if_neg (by rw [hu]; decide),if_pos hu,e1]
  exact ⟨hq,hu.symm⟩
 ·have l:=(o5 (by rw [hu]; decide) (by rw [hu]; decide) (by rw [hu]; decide)).2
  rw [hu] at l
  obtain ⟨v,e1⟩:=List.length_eq_one_iff.mp (l.trans rfl)
  have hq:=HI (by rw [hu]; decide)
  have hb:=qU (ks:=[]) hp e1 (by rw [hu]; rfl)
  rw [e1,hu] at hq
  unfold gQ
  rw [if_neg (by rw [hu]; decide),if_neg (by rw [hu]; decide),if_neg (by rw [hu]; decide),if_pos hu,e1]
  exact ⟨⟨hq,hb⟩,hu.symm⟩
 ·rcases hA with ⟨_,b,p,e1,h1,h2⟩ | ⟨a,_⟩
  ·have hb:=qU (ks:=["targets"]) hp e1 (by rw [hu]; rfl)
   unfold gQ
   rw [if_neg (by rw [hu]; decide),if_neg (by rw [hu]; decide),if_neg (by rw [hu]; decide),if_neg (by rw [hu]; decide),if_pos hu,e1]
   rw [hu] at h1
   exact ⟨⟨p,h1,h2,hb,ht⟩,hu.symm⟩
  ·exact absurd hu a
 ·obtain ⟨t,f,e1,e2⟩:=o3 hu
  have hq:=HI ((by decide +kernel:∀ u ∈ eI,¬ u = "table") _ hu)
  rw [e1] at hq
  rw [ox hu,e1]
  rw [e2] at ht
  exact ⟨⟨hq,hu,(ht t (by simp)).1,(ht t (by simp)).2⟩,rfl⟩
 ·obtain ⟨b,t,f,e1,e2⟩:=o4 hu
  have hq:=HI ((by decide +kernel:∀ u ∈ zb,¬ u = "table") _ hu)
  have hb:=qU hp e1 (kz _ hu)
  rw [e1] at hq
  rw [qT hu,e1]
  rw [e2] at ht
  exact ⟨⟨hq,hu,hb,(ht t (by simp)).1,(ht t (by simp)).2⟩,rfl⟩
 ·have a:=(by decide +kernel:∀ u ∈ ten,RA u=2∧¬ u = "table" ∧ ¬ u ∈ eI∧¬ u ∈ zb∧(∃ k ∈ (["box", "value", "number", "aside"]:List Str),dn u=(["box",k]:List Str)∧(u ∈ w2→k = "box"))) _ hu
  obtain ⟨k2,_,ek,ew⟩:=a.2.2.2.2
  obtain ⟨b,v,e1⟩:∃ b v,d.is=[b,v]:=by
   match hh:d.is,(o5 a.2.1 a.2.2.1 a.2.2.2.1).2.trans a.1 with
   | [b,v],_=>exact ⟨b,v,rfl⟩
  have hq:=HI a.2.1
  have hb:=qU hp e1 ek
  have hv:d.u ∈ w2→Bx v:=fun z=>by
   have hk:=ew z
   subst hk
   have:=hp ("box",v) (by rw [ek,e1]; simp)
   have h1:(0:Int) ≤ v:=this.1
   have h2:v ≤ 7:=this.2
   exact ⟨h1,by omega⟩
  rw [e1] at hq
  rw [Az hu,e1]
  exact ⟨⟨hq,hu,hb,hv⟩,rfl⟩
theorem AA {H:Hp} {q:Addr} {d:FR} {ring:Int→Bool} {h:Int} {z:Zt} (hR:cj H q d):bw ring (gQ (dk d)) h z=bw ring (gQ d) h z:=by
 by_cases hu:d.u ∈ five
 ·have eS:dk d=⟨d.u,d.is.dropLast ++ [1],d.ts⟩:=by unfold dk; rw [if_pos hu]
  rcases (by decide +kernel:∀ u ∈ five,u ∈ eI∨u ∈ zb) _ hu with z' | z'
  ·obtain ⟨t,f,e1,e2⟩:=hR.1.2.2.1 z'
   rw [eS,ox (d:=⟨d.u,d.is.dropLast ++ [1],d.ts⟩) z',ox z',e1]
   rfl
  ·obtain ⟨b,t,f,e1,e2⟩:=hR.1.2.2.2.1 z'
   rw [eS,qT (d:=⟨d.u,d.is.dropLast ++ [1],d.ts⟩) z',qT z',e1]
   rfl
 ·unfold dk
  rw [if_neg hu]
def gE (ring:Int→Bool) (ds:List FR) (z:Zt):Zt:=match z.here with
 | .int r=>match ds[r.toNat]? with
  | some d=>bw ring (gQ d) r z
  | none=>z
 | _=>z
theorem jR {ring:Int→Bool} {ds:List FR} {z:Zt} {r:Nat} {d:FR} (h:z.here=.int r) (hd:ds[r]? = some d):gE ring ds z=bw ring (gQ d) r z:=by
 unfold gE
 rw [h]
 show (match ds[((r:Nat):Int).toNat]? with | some d=>bw ring (gQ d) r z | none=>z)=_
 rw [Int.toNat_natCast,hd]
theorem jS {ring:Int→Bool} {ds:List FR} {z:Zt} (h:z.here=.non):gE ring ds z=z:=by
 unfold gE
 rw [h]
def jz (ring:Int→Bool) (ds:List FR) (z:Zt):Nat→Zt
 | 0=>z
 | i + 1=>gE ring ds (jz ring ds z i)
theorem uq {H:Hp} {lr:Addr} {ring:Int→Bool} {ds:List FR} {L:List Nat} {z:Zt} (hR:cW H lr ds) (S:z.here=.non∨∃ r:Nat,z.here=.int r∧r < ds.length):gE ring (bA ds L) z=gE ring ds z:=by
 rcases S with e | ⟨r,e,hr⟩
 ·rw [jS e,jS e]
 ·have hd:ds[r]? = some ds[r]:=List.getElem?_eq_getElem hr
  rw [jR e hd,jR e (dF hd)]
  split
  ·obtain ⟨qs,q,_,_,_,hq⟩:=hR.get hd
   exact AA hq
  ·rfl
def Rn (z:Zt):Prop:=(z.how=none∧∃ r:Int,z.here=.int r)∨(z.how ≠ none∧z.here=.non)
theorem Rn.step {ring:Int→Bool} {r:Rw} {h:Int} {z:Zt} (hz:z.how=none):Rn (bw ring r h z):=by
 cases r with
 | stop=>exact .inr ⟨by simp [bw],rfl⟩
 | halt v=>exact .inr ⟨by simp [bw],rfl⟩
 | back =>
  rcases List.eq_nil_or_concat z.pile with e | ⟨r,p,e⟩
  ·rw [i0 e]
   exact .inr ⟨by simp,rfl⟩
  ·have e:z.pile=r ++ [p]:=by simpa using e
   rw [lX e]
   exact .inl ⟨hz,_,rfl⟩
 | two u b v =>
  simp only [bw]
  repeat' split
  all_goals exact .inl ⟨hz,_,rfl⟩
 | tell b=>exact .inl ⟨hz,_,rfl⟩
 | eI u t f =>
  simp only [bw]
  repeat' split
  all_goals exact .inl ⟨hz,_,rfl⟩
 | zb u b t f=>exact .inl ⟨hz,_,rfl⟩
 | table b ts=>exact .inl ⟨hz,_,rfl⟩
def jT (G:Hp) (fs:List Addr) (Ls:List (List Nat)):Prop:=fs.length=Ls.length∧∀ (i:Nat) q M,fs[i]? = some q→Ls[i]? = some M→G q=some (.lst (lI M))
theorem jT.same {G G':Hp} {fs:List Addr} {Ls:List (List Nat)} (h:jT G fs Ls) (s:Same G G'):jT G' fs Ls:=⟨h.1,fun i q M a b=>s _ _ (h.2 i q M a b)⟩
theorem jT.snoc {G:Hp} {fs:List Addr} {Ls:List (List Nat)} {q:Addr} {M:List Nat} (h:jT G fs Ls) (hq:G q=some (.lst (lI M))):jT G (fs ++ [q]) (Ls ++ [M]):=by
 refine ⟨by simp [h.1],fun i x N a b=>?_⟩
 by_cases hi:i < fs.length
 ·rw [List.getElem?_append_left hi] at a
  rw [List.getElem?_append_left (by rw [← h.1]; exact hi)] at b
  exact h.2 i x N a b
 ·have h3:=(List.getElem?_eq_some_iff.mp a).1
  have e:i=fs.length:=by simp at h3; omega
  subst e
  rw [show (fs ++ [q])[fs.length]? = some q by simp] at a
  rw [show (Ls ++ [M])[fs.length]? = some M by rw [h.1]; simp] at b
  cases a
  cases b
  exact hq
theorem vL (nb j:Nat):decide (V.int (Builtin.bitAnd ((nb:Int) / 2 ^ ((j:Nat):Int).toNat) 1)=V.int 1)=nb.testBit j:=by
 rw [PyProof.Rows.bitAnd_m1,Int.toNat_natCast,Nat.testBit_eq_decide_div_mod_eq]
 have e:((nb:Int) / 2 ^ j) % 2=((nb / 2 ^ j % 2:Nat):Int):=by norm_cast
 rw [e]
 refine decide_eq_decide.mpr ⟨fun h=>?_,fun h=>by rw [h]; rfl⟩
 have:=V.int.inj h
 omega
section
variable {P:Program} {w:World} {K:Frag} {mg:Str→Option Value} {base:Heap}
def Lw:Sp:=fun vs H Q _=>∃ (lr:Addr) (ds:List FR),vs=[.ref lr]∧cW H lr ds∧eB ds∧ds.length ≤ 500∧(6 < (jl ds ds.length).length→∀ H',Same H H'→Q .non H') ∧
 ((jl ds ds.length).length ≤ 6→∀ (l:Addr) (fs:List Addr) (H':Hp),Same H H'→H' l=some (.lst (fs.map V.ref))→jT H' fs (iJ ds (jl ds ds.length) (2 ^ (jl ds ds.length).length))→Q (.ref l) H')
theorem ur:aI ["_law_rows", "_law_jumps", "_law_k", "_law_row_here", "_law_found", "_law_number", "_law_other", "_law_j"] ["_law_rows"] (aj eY):=⟨rfl,rfl,rfl,by decide +kernel,rfl,by decide +kernel,by decide +kernel⟩
def HJ:Scope:={ kind:=.function,names:=[(".0",.local),("_law_j",.local),("_law_k",.local),("_law_number",.free)],isGenerator:=false,isCoroutine:=false,more:=[] }
theorem AB:dI (aj eY) HJ ["_law_rows", "_law_jumps", "_law_k", "_law_row_here", "_law_found", "_law_number", "_law_other", "_law_j"] ["_law_j", "_law_k", "_law_number"] [none,none,some 5]:=⟨rfl,by decide +kernel,by decide +kernel,by decide +kernel,by decide +kernel,by decide +kernel⟩
theorem Lx {f fG:Addr} {fd fdG:FuncData} (F:dj K "_law_layouts" "_law_layouts" eY f fd) (T:Txt K w.params mg) (GG:aL P w K mg base cg 2 fG fdG ["_law_rows"] Lr) (kG:KI K fG) (bG:Binds K fdG ["_law_rows"] []) (mG:mg "_law_good" = some (.ref fG)):aL P w K mg base cg 3 f fd ["_law_rows"] Lw:=by
 refine F.ok ur (fun vs H Q E h=>?_) (fun cdv A outer s H vs Q E hr h=>?_)
 ·obtain ⟨lr,ds,rfl,_⟩:=h
  rfl
 ·obtain ⟨lr,ds,rfl,hR,hA,hn,k1,k2⟩:=h
  obtain ⟨qs,r1,r2,r3⟩:=id hR
  refine dM (aw (aK (aW (i:=1) ur.nd rfl (Or.inl rfl) (ck ao)))
   (aw (aK (df PassesOwn.never rfl (gH rfl T.enum (ah (pv 0) ao)) (gM (K:=K) (i:=2) (j:=3) rfl rfl ur.nd rfl (Or.inl rfl) rfl (Or.inl rfl)) (au (cV (jY (aS cz (aJ aO (pv 3) ak (fun _ _=>rfl)) (iX (.cons az (.cons az (.cons az (.cons az (.cons az .nil)))))) rfl) (lO (aS d7 (aJ aO (pv 3) (dX dg ak) (fun _ _=>rfl)) ak (bz _)))).pt (au (bQ (dR PySem.F.plainAttrs_list PySem.F.slot_list_append PySem.F.type_list_append bZ (pv 1) (ah (pv 2) ao)))) aX))))
   (aw (di (aS rB (bu aY (by rfl) T.len cT (ah (pv 1) ao)) ak (bz _)) (aU (aK (aN jW))) (cw aX))
   (aw (aK (aW (i:=4) ur.nd rfl (Or.inl rfl) (ck ao)))
   (aw (aK (df PassesOwn.never rfl (dQ rfl T.range (ah (aG Fw ak (bu aY (by rfl) T.len cT (ah (pv 1) ao))) ao)) (cu (i:=5) ur.nd rfl (Or.inr rfl)) (aD (aW (i:=6) ur.nd rfl (Or.inl rfl) (cK dh (by rfl) T.list gL (ah (pv 0) ao)))
   (aD (df PassesOwn.never rfl (gH rfl T.enum (ah (pv 1) ao)) (gM (K:=K) (i:=7) (j:=2) rfl rfl ur.nd rfl (Or.inl rfl) rfl (Or.inl rfl)) (au (cV (aS d7 (aG xW (aG xV (pv 5) (pv 7)) ak) ak (bz _)) (au (gZ (aG lQ (eG jo (aJ aT (pv 0) (pv 2) (fun _ _=>rfl)) fh (fj (dX dg ak))) (bt (ah ak ao))) (gY (pv 6) (pv 2) set_list))) aX)))
   (au (cV (eR (aM GG hr (by rfl) mG kG bG .nil aZ (ah (pv 6) ao))) (au (bQ (dR PySem.F.plainAttrs_list PySem.F.slot_list_append PySem.F.type_list_append bZ (pv 4) (ah (eE (N':=["_law_j", "_law_k", "_law_number"]) (fr:=[none,none,some 5]) AB rfl (gH rfl T.enum (ah (pv 1) ao)) (fun C s0 H0 fp=>(gM (K:=K) (i:=0) (j:=1) rfl rfl AB.nd rfl (Or.inl rfl) rfl (Or.inl rfl))) (fun C s0 H0 fp=>(iP (aS d7 (aG xW (aG xV (pv 2) (pv 0)) ak) ak (bz _)))) (fun C s0 H0 fp=>(pv 1))) ao)))) aX))))))
   (aU (aK (aN (pv 4))))))))) ?_
  refine ⟨le_of_ble_eq_true rfl,fun lj RP=>?_⟩
  refine ⟨_,rfl,lr,rfl,⟨_,bh.of (ae RP _ _ r1)⟩,ia (xs:=qs.map V.ref) (fun i σ G=>i ≤ ds.length∧∃ v2 v3:Option V,σ=[some (.ref lr),some (.ref lj),v2,v3,none,none,none,none]∧Same H G∧G lj=some (.lst (lI (jl ds i)))) ?_ ?_ ?_ ?_⟩
  ·exact ⟨zero_le _,none,none,rfl,ae RP,ai⟩
  ·rintro i σ G _ ⟨_,v2,v3,rfl,s3,_⟩
   exact bh.of (s3 _ _ r1)
  ·rintro i x σ G tt hx kn ⟨_,v2,v3,rfl,s3,hl3⟩
   rw [List.getElem?_map] at hx
   obtain ⟨q,hq,rfl⟩:=map_eq_some_iff.mp hx
   have hil:i < ds.length:=by have:=(List.getElem?_eq_some_iff.mp hq).1; omega
   have hd:ds[i]? = some ds[i]:=List.getElem?_eq_getElem hil
   generalize ds[i]=d at hd
   have s4:=s3.trans (ae (o:=.tup [V.int i,V.ref q]) kn)
   have EK:=ae (o:=.tup [V.int i,V.ref q]) kn _ _ hl3
   have htt:upd G tt (.tup [V.int i,V.ref q]) tt=_:=ai
   generalize upd G tt (.tup [V.int i,V.ref q])=G1 at s4 EK htt ⊢
   have hrow:=(r3 i q d hq hd).same s4
   obtain ⟨items,i1,_⟩:=hrow.parts
   refine ⟨tt,_,rfl,bq.of htt,rfl,_,_,rfl,_,_,rfl,rfl,?_⟩
   refine ⟨_,rfl,q,_,0,_,rfl,rfl,bq.of i1,at0 _ _,yO,fun t5 Ck=>⟨t5,lG.map V.str,rfl,.inr (bq.of ai),rfl,rfl,_,rfl,?_⟩⟩
   have s5:=s4.trans (ae (o:=.tup [V.str "jump",V.str "zero",V.str "below",V.str "call",V.str "mark"]) Ck)
   have sM:=ae (o:=.tup [V.str "jump",V.str "zero",V.str "below",V.str "call",V.str "mark"]) Ck _ _ EK
   have sC:=hrow.same (ae (o:=.tup [V.str "jump",V.str "zero",V.str "below",V.str "call",V.str "mark"]) Ck)
   rw [show inV (.str d.u) (lG.map V.str)=decide (d.u ∈ lG) from cO _ _,qe]
   generalize upd G1 t5 (.tup [V.str "jump",V.str "zero",V.str "below",V.str "call",V.str "mark"])=G2 at s5 sM sC ⊢
   clear hrow i1
   have done:aV d=false→jl ds (i + 1)=jl ds i:=fun hs=>by rw [qS hd,hs]; simp
   by_cases hu:d.u ∈ five
   ·rw [decide_eq_true hu]
    refine yn ?_
    obtain ⟨_,g1,g2,t,g3,g4⟩:=cX sC hu
    refine ⟨_,rfl,_,rfl,q,_,-1,.int (fQ d),rfl,rfl,bq.of g1,g2,rfl,_,rfl,?_⟩
    refine cC (fun e=>?_) (fun e=>?_)
    ·have e:fQ d=0:=V.int.inj (of_decide_eq_true e)
     have hs:aV d=true:=by unfold aV; rw [decide_eq_true hu,decide_eq_true e]; rfl
     refine ⟨_,rfl,.inl ⟨rfl,_,bh.of sM⟩,_,rfl,lj,_,_,rfl,rfl,sM,bj (by rw [fK]; have:=Au ds i; omega),?_⟩
     refine ⟨hil,_,_,rfl,aR s5 RP,?_⟩
     rw [ai,ou,qS hd,if_pos hs]
    ·refine ⟨hil,_,_,rfl,s5,?_⟩
     rw [done (by unfold aV; rw [decide_eq_true hu,Bool.true_and]; exact decide_eq_false (fun z=>e (decide_eq_true (by rw [z]))))]
     exact sM
   ·rw [decide_eq_false hu]
    refine oK ⟨hil,_,_,rfl,s5,?_⟩
    rw [done (by unfold aV; rw [decide_eq_false hu,Bool.false_and])]
    exact sM
  rintro σ G ⟨_,v2,v3,rfl,s1,hj⟩
  rw [length_map,r2] at hj
  obtain ⟨js,hjs⟩:∃ js,js=jl ds ds.length:=⟨_,rfl⟩
  rw [← hjs] at hj k1 k2
  have RQ:∀ x ∈ js,x < ds.length∧cv ds x:=fun x hx=>by rw [hjs] at hx; exact uo.mp hx
  refine ⟨_,rfl,lj,_,rfl,.inl (bh.of hj),_,_,rfl,rfl,_,rfl,?_⟩
  rw [fK]
  refine cC (fun e=>?_) (fun e=>?_)
  ·have e:(6:Int) < js.length:=of_decide_eq_true e
   exact k1 (by omega) G s1
  have e:¬ (6:Int) < js.length:=fun z=>e (decide_eq_true z)
  have h6:js.length ≤ 6:=by omega
  refine ⟨le_of_ble_eq_true rfl,fun lf zB=>?_⟩
  have s2:=s1.trans (ae (o:=.lst []) zB)
  have cI:upd G lf (.lst []) lf=some (.lst (([]:List Addr).map V.ref)):=ai
  have hj2:=ae (o:=.lst []) zB _ _ hj
  have RR:H lf=none:=s1.free zB
  have gjf:lj ≠ lf:=fun z=>by rw [z,zB] at hj; cases hj
  generalize upd G lf (.lst [])=G0 at s2 cI hj2 ⊢
  clear hj s1 zB
  have h64:(2:Nat) ^ js.length ≤ 64:=by
   have:=Nat.pow_le_pow_right (show 0 < 2 by decide) h6
   omega
  refine ⟨_,rfl,lj,_,rfl,.inl (bh.of hj2),_,_,rfl,rfl,⟨by omega,by rw [fK]; omega,by decide⟩,?_⟩
  have e2:(1:Int) * 2 ^ ((((lI js).length:Nat):Int)).toNat=((2 ^ js.length:Nat):Int):=by
   rw [fK,Int.toNat_natCast,Int.one_mul]
   norm_cast
  refine ⟨((2 ^ js.length:Nat):Int),congrArg (fun z=>[V.int z]) e2,Int.le_trans (by decide) (Int.natCast_nonneg _),Int.lt_of_le_of_lt (Int.ofNat_le.mpr h64) (by decide),?_⟩
  refine d9 (lo:=0) (n:=((2 ^ js.length:Nat):Int).toNat) (fun i σ G=>∃ (v2 v5 v6 v7:Option V) (fs:List Addr),σ=[some (.ref lr),some (.ref lj),v2,v3,some (.ref lf),v5,v6,v7]∧Same H G∧G lj=some (.lst (lI js))∧G lf=some (.lst (fs.map V.ref))∧jT G fs (iJ ds js i)∧∀ q ∈ fs,q ≠ lf) ?_ ?_ ?_
  ·exact ⟨v2,none,none,none,[],rfl,s2,hj2,cI,⟨rfl,fun i q M h=>by simp at h⟩,fun q hq=>(not_mem_nil hq).elim⟩
  ·rintro i σ G hi ⟨v2,v5,v6,v7,fs,rfl,s3,hj3,Jt,Ju,hfq⟩
   rw [Int.toNat_natCast] at hi
   have e0:(0:Int) + (i:Int)=(i:Int):=by omega
   rw [e0]
   refine ⟨_,rfl,lr,_,rfl,.inl (bh.of (s3 _ _ r1)),fun lo nlo=>?_⟩
   have hRo:cW (upd G lo (.lst (qs.map V.ref))) lo ds:=⟨qs,ai,r2,fun a q d x y=>((r3 a q d x y).same s3).same (ae nlo)⟩
   have s4:=s3.trans (ae (o:=.lst (qs.map V.ref)) nlo)
   have RS:=ae (o:=.lst (qs.map V.ref)) nlo _ _ hj3
   have hf4:=ae (o:=.lst (qs.map V.ref)) nlo _ _ Jt
   have hL4:=Ju.same (ae (o:=.lst (qs.map V.ref)) nlo)
   have RT:H lo=none:=s3.free nlo
   have gjo:lj ≠ lo:=fun z=>by rw [z,nlo] at hj3; cases hj3
   have gfo:lf ≠ lo:=fun z=>by rw [z,nlo] at Jt; cases Jt
   have gLo:∀ (a:Nat) q M,fs[a]? = some q→(iJ ds js i)[a]? = some M→q ≠ lo:=fun a q M x y z=>by have:=Ju.2 a q M x y; rw [z,nlo] at this; cases this
   generalize upd G lo (.lst (qs.map V.ref))=G4 at hRo s4 RS hf4 hL4 ⊢
   clear hj3 Jt Ju nlo
   refine ⟨_,rfl,lj,rfl,⟨_,bh.of RS⟩,ia (xs:=lI js) (fun j σ G=>j ≤ js.length∧∃ v2 v7:Option V,σ=[some (.ref lr),some (.ref lj),v2,v3,some (.ref lf),some (.int (i:Int)),some (.ref lo),v7]∧Same H G∧G lj=some (.lst (lI js))∧G lf=some (.lst (fs.map V.ref))∧jT G fs (iJ ds js i)∧cW G lo (bA ds (eN js i j))) ?_ ?_ ?_ ?_⟩
   ·refine ⟨zero_le _,v2,v7,rfl,s4,RS,hf4,hL4,?_⟩
    rw [show bA ds (eN js i 0)=ds from Ax ds]
    exact hRo
   ·rintro j σ G5 _ ⟨_,v2,v7,rfl,s5,Ly,_⟩
    exact bh.of Ly
   ·rintro j x σ G5 tt hx kn ⟨_,v2,v7,rfl,s5,Ly,RU,RV,Jv⟩
    unfold lI at hx
    rw [List.getElem?_map] at hx
    obtain ⟨kk,hk,rfl⟩:=map_eq_some_iff.mp hx
    have uv:=(List.getElem?_eq_some_iff.mp hk).1
    obtain ⟨hkl,d,hd,hs⟩:=RQ kk (List.mem_of_getElem? hk)
    have s6:=s5.trans (ae (o:=.tup [V.int j,V.int kk]) kn)
    have RW:=ae (o:=.tup [V.int j,V.int kk]) kn _ _ Ly
    have RX:=ae (o:=.tup [V.int j,V.int kk]) kn _ _ RU
    have Qj:=RV.same (ae (o:=.tup [V.int j,V.int kk]) kn)
    have Lz:=Jv.same (ae (o:=.tup [V.int j,V.int kk]) kn)
    have htt:upd G5 tt (.tup [V.int j,V.int kk]) tt=_:=ai
    generalize upd G5 tt (.tup [V.int j,V.int kk])=G6 at s6 RW RX Qj Lz htt ⊢
    refine ⟨tt,_,rfl,bq.of htt,rfl,_,_,rfl,_,_,rfl,rfl,?_⟩
    refine ⟨_,rfl,_,rfl,_,_,rfl,rfl,(by show (0:Int) ≤ (j:Int); omega),_,_,rfl,rfl,rfl,_,rfl,?_⟩
    rw [vL]
    refine cC (fun e=>?_) (fun e=>?_)
    ·obtain ⟨es,x1,x2,x3⟩:=Lz
     have Jw:=kA hA (eN js i j)
     have hgd:=qd (hA d (List.mem_of_getElem? hd))
     rw [bM] at x2
     have fin:∀ (tc:Addr) (G7:Hp),Same G6 G7→cj G7 tc (dk d)→Same H (upd G7 lo (.lst ((es.map V.ref).set kk (.ref tc))))∧upd G7 lo (.lst ((es.map V.ref).set kk (.ref tc))) lj=some (.lst (lI js))∧upd G7 lo (.lst ((es.map V.ref).set kk (.ref tc))) lf=some (.lst (fs.map V.ref))∧jT (upd G7 lo (.lst ((es.map V.ref).set kk (.ref tc)))) fs (iJ ds js i)∧cW (upd G7 lo (.lst ((es.map V.ref).set kk (.ref tc)))) lo (bA ds (eN js i (j + 1))):=fun tc G7 s7 hrow=>by
      refine ⟨aR (s6.trans s7) RT,by rw [aq gjo]; exact s7 _ _ RW,by rw [aq gfo]; exact s7 _ _ RX,⟨Qj.1,fun a q M u1 u2=>by rw [aq (gLo a q M u1 u2)]; exact s7 _ _ (Qj.2 a q M u1 u2)⟩,?_⟩
      have:=(place (ds:=bA ds (eN js i j)) (j:=kk) (s7 _ _ x1) (by rw [bM]; exact x2) (fun a q dd u1 u2=>(x3 a q dd u1 u2).same s7) hrow (by rw [bM]; exact hgd) Jw).1
      rw [Aq hd] at this
      rw [dS hk,if_pos e,jy (L':=kk :: eN js i j) (fun x=>by simp [or_comm])]
      exact this
     obtain ⟨hu,_⟩:=dP hs
     have hq:qs[kk]? = some (qs[kk]'(by omega)):=List.getElem?_eq_getElem _
     generalize qs[kk]'(by omega)=q at hq
     have hrow:=(r3 kk q d hq hd).same s6
     have LA:kZ (qs.map V.ref) (kk:Int)=some (.ref q):=cL (by rw [List.getElem?_map,hq]; rfl)
     have hix:xM (es.map V.ref).length ((kk:Nat):Int)=some kk:=by
      rw [length_map]
      unfold xM
      rw [if_pos (by omega),if_pos (by omega)]
      simp
     obtain ⟨nt,y1,_⟩:=cX hrow hu
     have eS:dk d=⟨d.u,d.is.dropLast ++ [1],d.ts⟩:=by unfold dk; rw [if_pos hu]
     rw [eS] at fin
     have hok:=hrow.1
     rcases (by decide +kernel:∀ u ∈ five,u ∈ eI∨u ∈ zb) _ hu with z | z
     ·obtain ⟨t0,ff,e1,e2'⟩:=hok.2.2.1 z
      have ep:G6 q=some (.tup [V.str d.u,V.int t0,V.int ff]):=by rw [y1,e1]; rfl
      rw [e1,e2'] at fin
      refine ⟨_,rfl,_,rfl,lr,_,_,.ref q,rfl,rfl,bh.of (s6 _ _ r1),LA,?_⟩
      refine ⟨1,rfl,-1,rfl,q,_,rfl,bq.of ep,(fun z=>absurd z.2 (by show ¬ (2:Nat)=3; decide)),fun ta Dp=>?_⟩
      refine ⟨fc,fun tb vJ=>?_⟩
      refine ⟨ta,tb,[V.str d.u,V.int t0],_,rfl,rfl,bq.of (ae vJ _ _ ai),bq.of ai,cons_ne_nil _ _,gk,fun z=>absurd z (cons_ne_nil _ _),fun _ tc HE=>?_⟩
      have sN:=((ae Dp).trans (ae vJ)).trans (ae (o:=.tup ([V.str d.u,V.int t0] ++ [V.int 1])) HE)
      refine ⟨_,rfl,_,rfl,lo,_,_,kk,rfl,rfl,sN _ _ x1,hix,?_⟩
      exact ⟨uv,_,_,rfl,fin tc _ sN (jO z ai)⟩
     ·obtain ⟨bb,t0,ff,e1,e2'⟩:=hok.2.2.2.1 z
      have ep:G6 q=some (.tup [V.str d.u,V.int bb,V.int t0,V.int ff]):=by rw [y1,e1]; rfl
      rw [e1,e2'] at fin
      refine ⟨_,rfl,_,rfl,lr,_,_,.ref q,rfl,rfl,bh.of (s6 _ _ r1),LA,?_⟩
      refine ⟨1,rfl,-1,rfl,q,_,rfl,bq.of ep,(fun z=>absurd z.2 (by show ¬ (3:Nat)=4; decide)),fun ta Dp=>?_⟩
      refine ⟨fc,fun tb vJ=>?_⟩
      refine ⟨ta,tb,[V.str d.u,V.int bb,V.int t0],_,rfl,rfl,bq.of (ae vJ _ _ ai),bq.of ai,cons_ne_nil _ _,rW,fun z=>absurd z (cons_ne_nil _ _),fun _ tc HE=>?_⟩
      have sN:=((ae Dp).trans (ae vJ)).trans (ae (o:=.tup ([V.str d.u,V.int bb,V.int t0] ++ [V.int 1])) HE)
      refine ⟨_,rfl,_,rfl,lo,_,_,kk,rfl,rfl,sN _ _ x1,hix,?_⟩
      exact ⟨uv,_,_,rfl,fin tc _ sN (nY z ai)⟩
    ·refine ⟨uv,_,_,rfl,s6,RW,RX,Qj,?_⟩
     rw [dS hk,if_neg e,append_nil]
     exact Lz
   ·rintro σ G5 ⟨_,v2,v7,rfl,s5,Ly,RU,RV,Jv⟩
    rw [fK] at Jv
    refine ⟨_,rfl,lo,_,rfl,Jv,kA hA _,by rw [bM]; omega,fun G7 s7=>⟨_,rfl,?_⟩⟩
    have s67:=s5.trans s7
    have Qk:=s7 _ _ Ly
    have Ql:=s7 _ _ RU
    have RY:=RV.same s7
    rw [xD]
    refine cC (fun e=>?_) (fun e=>?_)
    ·rw [if_pos e]
     refine ⟨_,rfl,.inl ⟨rfl,_,bh.of Ql⟩,_,rfl,lj,rfl,⟨_,bh.of Qk⟩,fun D nD=>pI (K:=K) (a:=lj) (xs:=lI js) (fun j σ ys G8=>j ≤ js.length∧∃ v1 v2:Option V,σ=[v1,v2,some (.int (i:Int))]∧ys=lI (eN js i j)∧Same G7 G8∧G8 D=some (.lst ys)) ?_ ?_ ?_ ?_⟩
     ·exact ⟨zero_le _,none,none,rfl,rfl,ae nD,ai⟩
     ·rintro j σ ys G8 _ ⟨_,v1,v2,rfl,rfl,s8,_⟩
      exact bh.of (s8 _ _ Qk)
     ·rintro j x σ ys G8 tt hx kn ⟨hjle,v1,v2,rfl,rfl,s8,hD⟩
      unfold lI at hx
      rw [List.getElem?_map] at hx
      obtain ⟨kk,hk,rfl⟩:=map_eq_some_iff.mp hx
      have uv:=(List.getElem?_eq_some_iff.mp hk).1
      have s9:=s8.trans (ae (o:=.tup [V.int j,V.int kk]) kn)
      have Jx:=ae (o:=.tup [V.int j,V.int kk]) kn _ _ hD
      have htt:upd G8 tt (.tup [V.int j,V.int kk]) tt=_:=ai
      generalize upd G8 tt (.tup [V.int j,V.int kk])=G9 at s9 Jx htt ⊢
      refine ⟨tt,_,rfl,bq.of htt,rfl,_,_,rfl,_,_,rfl,rfl,?_⟩
      refine ⟨_,rfl,_,rfl,_,_,rfl,rfl,(by show (0:Int) ≤ (j:Int); omega),_,_,rfl,rfl,rfl,_,rfl,?_⟩
      rw [vL]
      refine cC (fun e=>?_) (fun e=>?_)
      ·refine ⟨_,rfl,Jx,bj (by rw [fK]; unfold eN; have:=List.length_filterMap_le (fun j=>if i.testBit j=true then js[j]? else none) (List.range j); rw [length_range] at this; omega),uv,_,_,rfl,?_,aR s9 nD,ai⟩
       rw [ou,dS hk,if_pos e]
      ·exact ⟨uv,_,_,rfl,by rw [dS hk,if_neg e,append_nil],s9,Jx⟩
     ·rintro σ ys G8 ⟨_,v1,v2,rfl,rfl,s8,hD⟩
      rw [fK] at hD
      refine ⟨lf,_,_,rfl,rfl,s8 _ _ Ql,bj (by rw [length_map,RY.1]; unfold iJ; rw [length_map]; have:=length_filter_le (fun nb=>gU (bA ds (eN js nb js.length))) (List.range i); rw [length_range] at this; omega),?_⟩
      have gDf:D ≠ lf:=fun z=>by rw [z,Ql] at nD; cases nD
      have ef:fs.map V.ref ++ [V.ref D]=(fs ++ [D]).map V.ref:=by rw [map_append]; rfl
      rw [ef]
      have Cu:=(RY.same s8).snoc hD
      have LB:∀ q ∈ fs ++ [D],q ≠ lf:=fun q hq=>by
       rcases mem_append.mp hq with z | z
       ·exact hfq q z
       ·rw [mem_singleton.mp z]; exact gDf
      have ok1:jT (upd G8 lf (.lst ((fs ++ [D]).map V.ref))) (fs ++ [D]) (iJ ds js i ++ [eN js i js.length]):=⟨Cu.1,fun a q M u1 u2=>by
       rw [aq (LB q (List.mem_of_getElem? u1))]
       exact Cu.2 a q M u1 u2⟩
      exact ⟨_,_,_,_,fs ++ [D],rfl,aR (s67.trans s8) RR,by rw [aq gjf]; exact s8 _ _ Qk,ai,ok1,LB⟩
    ·rw [if_neg e,append_nil]
     exact ⟨_,_,_,_,fs,rfl,s67,Qk,Ql,RY,hfq⟩
  ·rintro σ G ⟨v2,v5,v6,v7,fs,rfl,s3,hj3,Jt,Ju,_⟩
   rw [Int.toNat_natCast] at Ju
   exact ⟨_,rfl,k2 h6 lf fs G s3 Jt Ju⟩
end
theorem HK:¬ ("row" : Str) ∈ names:=by decide +kernel
theorem qf:¬ ("ending" : Str) ∈ names:=by decide +kernel
theorem AF:¬ ("boxes" : Str) ∈ names:=by decide +kernel
theorem AG:¬ ("cells" : Str) ∈ names:=by decide +kernel
theorem xE:¬ ("asides" : Str) ∈ names:=by decide +kernel
theorem Dv:¬ ("told" : Str) ∈ names:=by decide +kernel
theorem Dx:¬ ("seen" : Str) ∈ names:=by decide +kernel
theorem Dy:¬ ("deep" : Str) ∈ names:=by decide +kernel
theorem Dz:¬ ("step" : Str) ∈ names:=by decide +kernel
def xO (z:Zt):Prop:=(z.here=.non∨∃ i,z.here=.int i)∧∀ xs,z.how=some xs→∀ y ∈ xs,tM y
theorem xF (l:List Int):∀ z ∈ l.map V.int,tM z:=fun z h=>by
 obtain ⟨i,_,rfl⟩:=mem_map.mp h
 exact .inr (.inl ⟨i,rfl⟩)
theorem eq_int {H:Hp} (i:Int):BR H (.int i) (.int i):=.inl ⟨rfl,.inr (.inl ⟨i,rfl⟩)⟩
theorem vM {H:Hp} {p q:Addr} {l:List Int} (h1:H p=some (.lst (l.map V.int))) (h2:H q=some (.lst (l.map V.int))):BR H (.ref p) (.ref q):=.inr (.inr (.inl ⟨p,q,_,rfl,rfl,h1,h2,xF l⟩))
theorem EL {H:Hp} {p q:Addr} {d e:List (Key × V)} {f:Int→Int} (h1:H p=some (.dK d)) (h2:H q=some (.dK e)) (z1:NZ d f) (z2:NZ e f):BR H (.ref p) (.ref q):=by
 obtain ⟨ka,kb,rfl,rfl,hl,hm⟩:=z1.sub z2
 exact .inr (.inr (.inr (.inr ⟨p,q,ka,kb,rfl,rfl,h1,h2,hl,hm⟩)))
theorem HL {H:Hp} {v w:V} {z:Zt} (hz:xO z) (h1:gS H v z.how) (h2:gS H w z.how):BR H v w:=by
 cases e:z.how with
 | none =>
  rw [e] at h1 h2
  cases h1
  cases h2
  exact .inl ⟨rfl,.inl rfl⟩
 | some xs =>
  rw [e] at h1 h2
  obtain ⟨p,rfl,hp⟩:=h1
  obtain ⟨q,rfl,hq⟩:=h2
  exact .inr (.inl ⟨p,q,xs,rfl,rfl,hp,hq,hz.2 xs e⟩)
theorem DA {H:Hp} {p q:Addr} {ps qs:List Addr} {sn:List (Int × Int)} (h1:H p=some (.lst (ps.map V.ref))) (h2:H q=some (.lst (qs.map V.ref))) (z1:eJ H ps sn) (z2:eJ H qs sn):BR H (.ref p) (.ref q):=by
 refine .inr (.inr (.inr (.inl ⟨p,q,_,_,rfl,rfl,h1,h2,by rw [length_map,length_map,z1.1,z2.1],fun i a b ha hb=>?_⟩)))
 rw [List.getElem?_map] at ha hb
 obtain ⟨t,ht,rfl⟩:=map_eq_some_iff.mp ha
 obtain ⟨u,hu,rfl⟩:=map_eq_some_iff.mp hb
 have hi:i < sn.length:=by rw [← z1.1]; exact (List.getElem?_eq_some_iff.mp ht).1
 have hc:=List.getElem?_eq_getElem hi
 refine ⟨t,u,_,rfl,rfl,z1.2 i t _ ht hc,z2.2 i u _ hu hc,fun y hy=>?_⟩
 rcases (show y=V.int sn[i].1∨y=V.int sn[i].2 by simpa using hy) with rfl | rfl
 ·exact .inr (.inl ⟨_,rfl⟩)
 ·exact .inr (.inl ⟨_,rfl⟩)
theorem eJ.same {H H':Hp} {ps:List Addr} {sn:List (Int × Int)} (h:eJ H ps sn) (s:Same H H'):eJ H' ps sn:=⟨h.1,fun i p c a b=>s _ _ (h.2 i p c a b)⟩
theorem gS.same {H H':Hp} {v:V} {o:Option (List V)} (h:gS H v o) (s:Same H H'):gS H' v o:=by
 cases o with
 | none=>exact h
 | some xs =>
  obtain ⟨p,e,hp⟩:=h
  exact ⟨p,e,s _ _ hp⟩
theorem xO.step {n:Nat} {z:Zt} {ring:Int→Bool} {r:Rw} {h:Int} (S:ko n (bw ring r h z)) (Z:xO z):xO (bw ring r h z):=by
 refine ⟨S.1.imp id (fun ⟨r,e,_⟩=>⟨r,e⟩),?_⟩
 have one:∀ (u:Str) (xs:List V),some [V.str u]=some xs→∀ y ∈ xs,tM y:=fun u xs e y hy=>by
  cases e
  rw [mem_singleton.mp hy]
  exact .inr (.inr ⟨u,rfl⟩)
 cases r with
 | stop=>exact one "stop"
 | halt v =>
  intro xs e y hy
  cases e
  rcases (show y=.str "halt" ∨ y=.int v by simpa using hy) with rfl | rfl
  ·exact .inr (.inr ⟨_,rfl⟩)
  ·exact .inr (.inl ⟨_,rfl⟩)
 | back =>
  rcases List.eq_nil_or_concat z.pile with e | ⟨r,p,e⟩
  ·rw [i0 e]
   exact one "home"
  ·have e:z.pile=r ++ [p]:=by simpa using e
   rw [lX e]
   exact Z.2
 | two u b v =>
  simp only [bw]
  split
  ·exact Z.2
  split
  ·exact Z.2
  split
  ·exact Z.2
  ·exact Z.2
 | tell b=>exact Z.2
 | eI u t f =>
  simp only [bw]
  split
  ·exact Z.2
  split
  ·exact Z.2
  split
  ·exact Z.2
  ·exact Z.2
 | zb u b t f=>exact Z.2
 | table b ts=>exact Z.2
def HM (m:MA) (x c:Addr):Prop:=Own m x c∨c=m.p1
theorem MG.keep {C y:Addr} {H H':Hp} {m:MA} {rows:List V} {ay:List (Key × V)} {B:Nat} {z:Zt} (M:MG C H y m rows ay B z) (e:∀ c o,HM m y c→H c=some o→H' c=some o) (t:dz H H'):MG C H' y m rows ay B z:=by
 obtain ⟨w,o1,o2⟩:=M.obj
 obtain ⟨d,c1,c2⟩:=M.cell
 obtain ⟨d',a1,a2⟩:=M.ui
 obtain ⟨ps,s1,s2⟩:=M.seen
 exact ⟨⟨w,e _ _ (.inl (.inl rfl)) o1,o2.tups t⟩,e _ _ (.inr rfl) M.prog,e _ _ (.inl (.inr (.inl rfl))) M.box,M.b8,⟨d,e _ _ (.inl (.inr (.inr (.inl rfl)))) c1,c2⟩,⟨d',e _ _ (.inl (.inr (.inr (.inr (.inl rfl))))) a1,a2⟩,e _ _ (.inl (.inr (.inr (.inr (.inr (.inl rfl)))))) M.rg,e _ _ (.inl (.inr (.inr (.inr (.inr (.inr (.inl rfl))))))) M.told,⟨ps,e _ _ (.inl (.inr (.inr (.inr (.inr (.inr (.inr (.inl rfl)))))))) s1,s2.tups t⟩,e _ _ (.inl (.inr (.inr (.inr (.inr (.inr (.inr (.inr rfl)))))))) M.lM,M.ap,M.lens,M.big⟩
theorem MG.ER {C x:Addr} {H:Hp} {m:MA} {rows:List V} {ay:List (Key × V)} {B:Nat} {z:Zt} (M:MG C H x m rows ay B z) (c:Addr) (h:HM m x c):∃ o,H c=some o:=by
 obtain ⟨w,o1,o2⟩:=M.obj
 obtain ⟨d,c1,c2⟩:=M.cell
 obtain ⟨d',a1,a2⟩:=M.ui
 obtain ⟨ps,s1,s2⟩:=M.seen
 rcases h with (rfl | rfl | rfl | rfl | rfl | rfl | rfl | rfl) | rfl
 ·exact ⟨_,o1⟩
 ·exact ⟨_,M.box⟩
 ·exact ⟨_,c1⟩
 ·exact ⟨_,a1⟩
 ·exact ⟨_,M.rg⟩
 ·exact ⟨_,M.told⟩
 ·exact ⟨_,s1⟩
 ·exact ⟨_,M.lM⟩
 ·exact ⟨_,M.prog⟩
theorem xO.start {bs:List Int} {cf:Int→Int}:xO (z0 bs cf):=⟨.inr ⟨0,rfl⟩,fun xs h=>by cases h⟩
theorem AH {R:V→V→Prop}:∀ {xs ys:List V},Paired R xs ys→xs.length=ys.length∧∀ (i:Nat) a b,xs[i]? = some a→ys[i]? = some b→R a b
 | _,_,.nil=>⟨rfl,fun i a b h=>by simp at h⟩
 | _,_,.cons (a:=x) (b:=y) (l₁:=xs) (l₂:=ys) h t=>by
  obtain ⟨l,g⟩:=AH t
  refine ⟨by simp [l],fun i a b ha hb=>?_⟩
  cases i with
  | zero =>
   have e1:x=a:=by simpa using ha
   have e2:y=b:=by simpa using hb
   exact e1 ▸ e2 ▸ h
  | succ i=>exact g i a b (by simpa using ha) (by simpa using hb)
def qV (N:Addr→Prop) (H:Hp) (ps:List Addr) (zs:List Zt):Prop:=ps.length=zs.length∧∀ (i:Nat) p z,ps[i]? = some p→zs[i]? = some z→∃ b,N b∧H p=some (.tup [z.here,.ref b,.int (z.pile.length:Nat)])∧H b=some (.lst (z.bs.map V.int))
def oy (H:Hp) (v:V) (zs:List Zt) (z:Zt):Prop:=∃ (p ls lt ln DB DC:Addr) (ps sn:List Addr) (dc da:List (Key × V)) (w:V),v=.ref p∧H p=some (.tup [.ref ls,.ref lt,.ref ln,.ref DB,.ref DC,w])∧H ls=some (.lst (ps.map V.ref))∧qV (fun _=>True) H ps zs∧H lt=some (.lst (z.told.map V.int))∧H ln=some (.lst (sn.map V.ref))∧eJ H sn z.seen∧H DB=some (.dK dc)∧NZ dc z.cf∧H DC=some (.dK da)∧NZ da z.af∧gS H w z.how
theorem oy.same {H H':Hp} {v:V} {zs:List Zt} {z:Zt} (s:Same H H') (h:oy H v zs z):oy H' v zs z:=by
 obtain ⟨p,ls,lt,ln,DB,DC,ps,sn,dc,da,w,e,h1,h2,h3,h4,h5,h6,h7,h8,h9,ha,hb⟩:=h
 exact ⟨p,ls,lt,ln,DB,DC,ps,sn,dc,da,w,e,s _ _ h1,s _ _ h2,⟨h3.1,fun i p z a b=>by obtain ⟨b',n,x,y⟩:=h3.2 i p z a b; exact ⟨b',n,s _ _ x,s _ _ y⟩⟩,s _ _ h4,s _ _ h5,h6.same s,s _ _ h7,h8,s _ _ h9,ha,hb.same s⟩
theorem oy.eq {H:Hp} {v w:V} {zs:List Zt} {z:Zt} (a:oy H v zs z) (b:oy H w zs z) (hz:xO z) (hzs:∀ y ∈ zs,xO y):∃ (p q:Addr) (xs ys:List V),v=.ref p∧w=.ref q∧H p=some (.tup xs)∧H q=some (.tup ys)∧xs.length=ys.length∧∀ (i:Nat) a b,xs[i]? = some a→ys[i]? = some b→Kn H a b:=by
 obtain ⟨p,ls,lt,ln,DB,DC,ps,sn,dc,da,w1,e,h1,h2,h3,h4,h5,h6,h7,h8,h9,ha,hb⟩:=a
 obtain ⟨q,ls',lt',ln',RZ,R0,ps',sn',dc',da',w2,e',g1,g2,g3,g4,g5,g6,g7,g8,g9,ga,gb⟩:=b
 have st:Kn H (.ref ls) (.ref ls'):=by
  refine .inr ⟨ls,ls',_,_,rfl,rfl,h2,g2,by rw [length_map,length_map,h3.1,g3.1],fun i a b x y=>?_⟩
  rw [List.getElem?_map] at x y
  obtain ⟨pa,hpa,rfl⟩:=map_eq_some_iff.mp x
  obtain ⟨pb,hpb,rfl⟩:=map_eq_some_iff.mp y
  have hi:i < zs.length:=by rw [← h3.1]; exact (List.getElem?_eq_some_iff.mp hpa).1
  have DE:=List.getElem?_eq_getElem hi
  obtain ⟨b1,_,u1,u2⟩:=h3.2 i pa _ hpa DE
  obtain ⟨b2,_,v1,v2⟩:=g3.2 i pb _ hpb DE
  have hk:=hzs zs[i] (List.getElem_mem hi)
  have pr:Paired (BR H) [zs[i].here,.ref b1,.int (zs[i].pile.length:Nat)] [zs[i].here,.ref b2,.int (zs[i].pile.length:Nat)]:=.cons (.inl ⟨rfl,hk.1.imp id .inl⟩) (.cons (vM u2 v2) (.cons (eq_int _) .nil))
  obtain ⟨l,g⟩:=AH pr
  exact ⟨pa,pb,_,_,rfl,rfl,u1,v1,l,g⟩
 have pr:Paired (Kn H) [.ref ls,.ref lt,.ref ln,.ref DB,.ref DC,w1] [.ref ls',.ref lt',.ref ln',.ref RZ,.ref R0,w2] :=
  .cons st (.cons (.inl (vM h4 g4)) (.cons (.inl (DA h5 g5 h6 g6)) (.cons (.inl (EL h7 g7 h8 g8)) (.cons (.inl (EL h9 g9 ha ga)) (.cons (.inl (HL hz hb gb)) .nil)))))
 obtain ⟨l,g⟩:=AH pr
 exact ⟨p,q,_,_,e,e',h1,g1,l,g⟩
def cJ:Int→Bool:=fun j=>decide (j ∈ ([0,2]:List Int))
def oG (c:Int):List Int:=[c % 3 - 1,0,1,2,3,-1,0,5]
def oU:Int→Int:=qJ (fun _=>0) 0 1
theorem vN {H:Hp} {lr:Addr} {ds:List FR} {ring:Int→Bool} {bs:List Int} {cf:Int→Int} (hR:cW H lr ds) (hA:eB ds) (hl:∀ d,ds.getLast? = some d→d.u ∈ dw) (h1:1 ≤ ds.length):∀ i,ko ds.length (jz ring ds (z0 bs cf) i)∧xO (jz ring ds (z0 bs cf) i)∧Rn (jz ring ds (z0 bs cf) i)
 | 0=>⟨⟨.inr ⟨0,rfl,by omega⟩,fun p hp=>absurd hp (by simp [jz,z0])⟩,xO.start,.inl ⟨rfl,0,rfl⟩⟩
 | i + 1=>by
  obtain ⟨S,Z,R⟩:=vN hR hA hl h1 (ring:=ring) (bs:=bs) (cf:=cf) i
  show ko ds.length (gE ring ds (jz ring ds (z0 bs cf) i))∧xO (gE ring ds (jz ring ds (z0 bs cf) i))∧Rn (gE ring ds (jz ring ds (z0 bs cf) i))
  generalize jz ring ds (z0 bs cf) i=z at S Z R
  rcases S.1 with e | ⟨r,e,hr⟩
  ·rw [jS e]
   exact ⟨S,Z,R⟩
  ·have hd:ds[r]? = some ds[r]:=List.getElem?_eq_getElem hr
   generalize ds[r]=d at hd
   obtain ⟨qs,q,_,_,_,hq⟩:=hR.get hd
   obtain ⟨hi,hw⟩:=rw_is hq (hA d (List.mem_of_getElem? hd))
   rw [jR e hd]
   have S':=S.step (ring:=ring) hr hi fun e=>by
    rw [hw]
    exact hl d (by rw [List.getLast?_eq_getElem?,show ds.length - 1=r by omega]; exact hd)
   refine ⟨S',xO.step S' Z,Rn.step ?_⟩
   rcases R with ⟨a,_⟩ | ⟨_,b⟩
   ·exact a
   ·rw [e] at b
    cases b
theorem sH {H:Hp} {lr:Addr} {ds:List FR} {ring:Int→Bool} {bs:List Int} {cf:Int→Int} {L:List Nat} (hR:cW H lr ds) (hA:eB ds) (hl:∀ d,ds.getLast? = some d→d.u ∈ dw) (h1:1 ≤ ds.length):∀ i,jz ring (bA ds L) (z0 bs cf) i=jz ring ds (z0 bs cf) i
 | 0=>rfl
 | i + 1=>by
  show gE ring (bA ds L) (jz ring (bA ds L) (z0 bs cf) i)=gE ring ds (jz ring ds (z0 bs cf) i)
  rw [sH hR hA hl h1 i]
  exact uq hR (vN hR hA hl h1 i).1.1
section
variable {P:Program} {w:World} {K:Frag} {mg:Str→Option Value} {base:Heap}
def LC:Sp:=fun vs H Q _=>∃ (lr:Addr) (c:Int) (ds:List FR),vs=[.ref lr,.int c]∧cW H lr ds∧eB ds∧(∀ d,ds.getLast? = some d→d.u ∈ dw)∧1 ≤ ds.length∧ds.length ≤ 500∧∀ (v:V) (H':Hp),Same H H'→oy H' v ((List.range 40).map (jz cJ ds (z0 (oG c) oU))) (jz cJ ds (z0 (oG c) oU) 40)→Q v H'
theorem DF:aI ["_law_rows", "_law_cell", "_law_machine", "_law_stood", "_law_turn"] ["_law_rows", "_law_cell"] (aj pQ):=⟨rfl,rfl,rfl,by decide +kernel,rfl,by decide +kernel,by decide +kernel⟩
theorem LD {f C fI f0 f1 f2 f3 f4 f5 f6 f7 fs:Addr} {fd KJ fd0 fd1 fd2 fd3 fd4 fd5 fd6 fd7 fds:FuncData} (F:dj K "_law_run" "_law_run" pQ f fd) (T:Txt K w.params mg)
  (TM:je K mg C) (mMc:mg "Machine" = some (.ref C)) (Mk:Mk K C fI) (GI:aL P w K mg base cg 1 fI KJ ["self", "rows", "boxes", "cells", "bells"] (zZ C)) (bI:Binds K KJ ["self", "rows", "boxes", "cells", "bells"] [])
  (M0:Meth K C "row" f0) (G0:aL P w K mg base cg 1 f0 fd0 ["self"] (Aa C)) (b0:Binds K fd0 ["self"] [])
  (M1:Meth K C "ending" f1) (G1:aL P w K mg base cg 1 f1 fd1 ["self"] (su C)) (b1:Binds K fd1 ["self"] [])
  (M2:Meth K C "boxes" f2) (G2:aL P w K mg base cg 1 f2 fd2 ["self"] (vG C)) (b2:Binds K fd2 ["self"] [])
  (M3:Meth K C "cells" f3) (G3:aL P w K mg base cg 2 f3 fd3 ["self"] (vH C)) (b3:Binds K fd3 ["self"] [])
  (M4:Meth K C "asides" f4) (G4:aL P w K mg base cg 2 f4 fd4 ["self"] (sv C)) (b4:Binds K fd4 ["self"] [])
  (M5:Meth K C "told" f5) (G5:aL P w K mg base cg 1 f5 fd5 ["self"] (Ad C)) (b5:Binds K fd5 ["self"] [])
  (M6:Meth K C "seen" f6) (G6:aL P w K mg base cg 1 f6 fd6 ["self"] (Ae C)) (b6:Binds K fd6 ["self"] [])
  (M7:Meth K C "deep" f7) (G7:aL P w K mg base cg 1 f7 fd7 ["self"] (Af C)) (b7:Binds K fd7 ["self"] [])
  (Ms:Meth K C "step" fs) (Gs:aL P w K mg base cg 3 fs fds ["self"] (Al C)) (bs_:Binds K fds ["self"] []):aL P w K mg base cg 4 f fd ["_law_rows", "_law_cell"] LC:=by
 refine F.ok DF (fun vs H Q E h=>?_) (fun cdv A outer s H vs Q E hr h=>?_)
 ·obtain ⟨lr,c,ds,rfl,_⟩:=h
  rfl
 ·obtain ⟨lr,c,ds,rfl,hR,hA,hl,h1,hn,k⟩:=h
  have hr2:=hr.mono (show 2 ≤ _ by decide)
  have hr1:=hr.mono (show 1 ≤ _ by decide)
  obtain ⟨qs,r1,r2,r3⟩:=id hR
  refine dM (aw (aK (aW (i:=2) DF.nd rfl (Or.inl rfl) (BA Mk GI hr2 rfl mMc bI .nil aZ (ah (pv 0) (ah (vj (.cons (aG gG (aG bV (pv 1) ak) ak) (.cons ak (.cons ak (.cons ak (.cons ak (.cons (dX dg ak) (.cons ak (.cons ak .nil))))))))) (ah (uS (mV ak ak uR) rfl rfl (cons_ne_nil _ _) (le_of_ble_eq_true rfl)) (ah (ck (ah ak (ah ak ao))) ao)))))))
   (aw (aK (aW (i:=3) DF.nd rfl (Or.inl rfl) (ck ao)))
   (aw (aK (df PassesOwn.never rfl (dQ rfl T.range (ah ak ao)) (cu (i:=4) DF.nd rfl (Or.inl rfl)) (aD (bQ (dR PySem.F.plainAttrs_list PySem.F.slot_list_append PySem.F.type_list_append bZ (pv 3) (ah (bt (ah (dJ (pv 2) TM.cl M0 G0 hr1 b0 .nil aZ) (ah (dJ (pv 2) TM.cl M2 G2 hr1 b2 .nil aZ) (ah (dJ (pv 2) TM.cl M7 G7 hr1 b7 .nil aZ) ao)))) ao)))
   (au (cV (aS sT (dJ (pv 2) TM.cl M1 G1 hr1 b1 .nil aZ) jW (bz _)) (au (bQ (dJ (pv 2) TM.cl Ms Gs hr bs_ .nil aZ))) aX)))))
   (aU (aK (aN (iX (.cons (pv 3) (.cons (dJ (pv 2) TM.cl M5 G5 hr1 b5 .nil aZ) (.cons (dJ (pv 2) TM.cl M6 G6 hr1 b6 .nil aZ) (.cons (dJ (pv 2) TM.cl M3 G3 hr2 b3 .nil aZ) (.cons (dJ (pv 2) TM.cl M4 G4 hr2 b4 .nil aZ) (.cons (dJ (pv 2) TM.cl M1 G1 hr1 b1 .nil aZ) .nil))))))))))))) ?_
  refine ⟨_,rfl,_,rfl,_,_,rfl,rfl,B7,_,_,rfl,rfl,1,rfl,Ry,fun lb nb=>?_⟩
  refine fun ld nd=>?_
  refine ⟨ai,[(Sum.inl 0,.int 1)],rfl,(by decide),?_⟩
  refine ⟨cB,fun le ne=>?_⟩
  obtain ⟨H3,s3,hb3,hd3,he3,eH⟩:∃ H3,Same H H3∧H3 lb=some (.lst ((oG c).map V.int))∧H3 ld=some (.dK [(Sum.inl 0,.int 1)])∧H3 le=some (.lst (([0,2]:List Int).map V.int))∧upd (upd (upd (upd H lb (.lst [(fun i j:Int=>V.int (i - j)) (c % 3) 1,V.int 0,V.int 1,V.int 2,V.int 3,(fun i:Int=>V.int (-i)) 1,V.int 0,V.int 5])) ld (.dK [])) ld (.dK (jq [] [(Sum.inl 0,V.int 1)]))) le (.lst [V.int 0,V.int 2])=H3:=by
   refine ⟨_,?_,?_,?_,ai,rfl⟩
   ·exact aR (aR (aR (ae nb) ((ae nb).free nd)) ((ae nb).free nd)) (by
     have Qm:ld ≠ le:=fun z=>by rw [← z,ai] at ne; cases ne
     rw [aq Qm.symm,aq Qm.symm] at ne
     exact (ae nb).free ne)
   ·have gdb:lb ≠ ld:=fun z=>by rw [← z,ai] at nd; cases nd
    have gbe:lb ≠ le:=fun z=>by rw [← z,aq gdb,aq gdb,ai] at ne; cases ne
    rw [aq gbe,aq gdb,aq gdb,ai]
    rfl
   ·have Qm:ld ≠ le:=fun z=>by rw [← z,ai] at ne; cases ne
    rw [aq Qm,ai]
    rfl
  rw [eH]
  clear eH nb nd ne
  refine fun x dx nx ndx nex=>?_
  have u1:∀ {c o},H3 c=some o→upd (upd H3 dx (.own x)) x (.ins C dx []) c=some o:=fun {c o} h=>by
   rw [aq (aB h nx),aq (aB h ndx)]
   exact h
  refine ⟨x,dx,lr,lb,ld,le,qs.map V.ref,oG c,[0,2],[(Sum.inl 0,.int 1)],oU,rfl,ai,u1 (s3 _ _ r1),u1 hb3,rfl,u1 hd3,(Rep.nil.put 0 1),by decide,u1 he3,by decide,fun m ay HX hrg M SX own=>⟨rfl,?_⟩⟩
  have tX:Same H3 HX:=fun c o h=>SX _ _ (aB h nx) (u1 h)
  have noX:∀ {c o},H3 c=some o→¬ Own m x c:=fun {c o} h g=>by
   have:=own c (.inl g) (aB h nx)
   rw [u1 h] at this
   cases this
  have tHX:=s3.trans tX
  have noH:∀ {c o},H c=some o→¬ Own m x c:=fun {c o} h=>noX (s3 _ _ h)
  have LG:cU ay=cJ:=funext fun j=>hrg j
  clear u1 own SX tX noX hb3 hd3 he3 s3
  refine ⟨le_of_ble_eq_true rfl,fun ls LH=>?_⟩
  have gls:¬ HM m x ls:=fun g=>by
   obtain ⟨o,ho⟩:=M.ER ls g
   rw [ho] at LH
   cases LH
  have ok:=vN (ring:=cJ) (bs:=oG c) (cf:=oU) hR hA hl h1
  refine ⟨_,rfl,by decide,by decide,?_⟩
  refine d9 (lo:=0) (n:=40) (fun i σ G=>∃ (v4:Option V) (ps:List Addr),σ=[some (.ref lr),some (.int c),some (.ref x),some (.ref ls),v4]∧Same H G∧MG C G x m (qs.map V.ref) ay (50 + i) (jz cJ ds (z0 (oG c) oU) i)∧G ls=some (.lst (ps.map V.ref))∧qV (fun b=>¬ Own m x b∧b ≠ ls) G ps ((List.range i).map (jz cJ ds (z0 (oG c) oU)))) ?_ ?_ ?_
  ·exact ⟨none,[],rfl,tHX.trans (ae LH),M.same (ae LH),ai,rfl,fun i p z h=>by simp at h⟩
  ·rintro i σ G hi ⟨v4,ps,rfl,sG,M,hls,hst⟩
   obtain ⟨St,Zk,Rk⟩:=ok i
   have LI:jz cJ ds (z0 (oG c) oU) (i + 1)=gE cJ ds (jz cJ ds (z0 (oG c) oU) i):=rfl
   rw [show (List.range (i + 1)).map (jz cJ ds (z0 (oG c) oU))=(List.range i).map (jz cJ ds (z0 (oG c) oU)) ++ [jz cJ ds (z0 (oG c) oU) i] by rw [range_succ,map_append]; rfl,LI]
   generalize jz cJ ds (z0 (oG c) oU) i=z at M St Zk Rk
   have hzs:((List.range i).map (jz cJ ds (z0 (oG c) oU))).length=i:=by rw [length_map,length_range]
   generalize (List.range i).map (jz cJ ds (z0 (oG c) oU))=zs at hst hzs
   obtain ⟨B,hB⟩:∃ B,B=50 + i:=⟨_,rfl⟩
   rw [← hB] at M
   obtain ⟨w0,ho,hw⟩:=M.obj
   refine ⟨_,rfl,.inl ⟨rfl,_,bh.of hls⟩,_,rfl,x,m.dx,_,rfl,ho,oR HK,x,z,B,rfl,⟨m,qs.map V.ref,ay,M⟩,_,rfl,x,m.dx,_,rfl,ho,oR AF,x,z,B,rfl,⟨m,qs.map V.ref,ay,M⟩,fun AI LJ=>?_⟩
   have s1:=ae (o:=.lst (z.bs.map V.int)) LJ
   have hb2:upd G AI (.lst (z.bs.map V.int)) AI=_:=ai
   have glb:¬ Own m x AI:=fun g=>by
    obtain ⟨o,h⟩:=M.ER AI (.inl g)
    rw [h] at LJ
    cases LJ
   have LK:AI ≠ ls:=fun z=>by rw [z,hls] at LJ; cases LJ
   generalize upd G AI (.lst (z.bs.map V.int))=G1 at s1 hb2 ⊢
   refine ⟨_,rfl,x,m.dx,_,rfl,s1 _ _ ho,oR Dy,x,z,B,rfl,⟨m,qs.map V.ref,ay,M.same s1⟩,gk,fun p np=>?_⟩
   have s2:=s1.trans (ae (o:=.tup [z.here,.ref AI,.int (z.pile.length:Nat)]) np)
   have hp2:upd G1 p (.tup [z.here,.ref AI,.int (z.pile.length:Nat)]) p=_:=ai
   have hb3:=ae (o:=.tup [z.here,.ref AI,.int (z.pile.length:Nat)]) np _ _ hb2
   generalize upd G1 p (.tup [z.here,.ref AI,.int (z.pile.length:Nat)])=G2 at s2 hp2 hb3 ⊢
   have hls2:=s2 _ _ hls
   refine ⟨ls,_,_,rfl,rfl,hls2,bj (by rw [length_map,hst.1,hzs]; omega),?_⟩
   have eP:ps.map V.ref ++ [V.ref p]=(ps ++ [p]).map V.ref:=by rw [map_append]; rfl
   rw [eP]
   have Sb:H ls=none:=tHX.free LH
   have sA:Same H (upd G2 ls (.lst ((ps ++ [p]).map V.ref))):=aR (sG.trans s2) Sb
   have tA:dz G2 (upd G2 ls (.lst ((ps ++ [p]).map V.ref))):=.upd hls2 (by intro _ z; cases z)
   have MA:MG C (upd G2 ls (.lst ((ps ++ [p]).map V.ref))) x m (qs.map V.ref) ay B z:=(M.same s2).keep (fun c o hc h=>by rw [aq (fun (e:c=ls)=>gls (by rw [← e]; exact hc))]; exact h) tA
   have Qn:qV (fun b=>¬ Own m x b∧b ≠ ls) (upd G2 ls (.lst ((ps ++ [p]).map V.ref))) (ps ++ [p]) (zs ++ [z]):=by
    refine ⟨by simp [hst.1],fun j p' z' a b=>?_⟩
    by_cases hj:j < ps.length
    ·rw [List.getElem?_append_left hj] at a
     rw [List.getElem?_append_left (by rw [← hst.1]; exact hj)] at b
     obtain ⟨bb,n,x1,x2⟩:=hst.2 j p' z' a b
     exact ⟨bb,n,tA _ _ (s2 _ _ x1),by rw [aq n.2]; exact s2 _ _ x2⟩
    ·have h3:=(List.getElem?_eq_some_iff.mp a).1
     have ej:j=ps.length:=by simp at h3; omega
     subst ej
     rw [show (ps ++ [p])[ps.length]? = some p by simp] at a
     rw [show (zs ++ [z])[ps.length]? = some z by rw [hst.1]; simp] at b
     cases a
     cases b
     exact ⟨AI,⟨glb,LK⟩,tA _ _ hp2,by rw [aq LK]; exact hb3⟩
   have HN:upd G2 ls (.lst ((ps ++ [p]).map V.ref)) ls=_:=ai
   generalize upd G2 ls (.lst ((ps ++ [p]).map V.ref))=GA at sA MA Qn HN ⊢
   clear hst hls sG s1 s2 hb2 hp2 hb3 hls2 tA M ho hw
   have M:=MA
   clear MA
   obtain ⟨w1,ho,hw⟩:=M.obj
   refine ⟨_,rfl,x,m.dx,_,rfl,ho,oR qf,x,z,B,rfl,⟨m,qs.map V.ref,ay,M⟩,fun v hv=>?_⟩
   rcases Rk with ⟨HP,r0,hr0⟩ | ⟨HP,Sd⟩
   ·rw [HP] at hv
    have hv:v=.non:=hv
    subst hv
    refine ⟨rfl,_,rfl,yn ?_⟩
    rcases St.1 with e | ⟨r,e,hr⟩
    ·rw [e] at hr0
     cases hr0
    have hd:ds[r]? = some ds[r]:=List.getElem?_eq_getElem hr
    generalize ds[r]=d at hd
    have hq:qs[r]? = some (qs[r]'(by omega)):=List.getElem?_eq_getElem _
    generalize qs[r]'(by omega)=q at hq
    obtain ⟨hRI,EA⟩:=rw_is ((r3 r q d hq hd).same sA) (hA d (List.mem_of_getElem? hd))
    have hrow:(qs.map V.ref)[r]? = some (.ref q):=by rw [List.getElem?_map,hq]; rfl
    refine ⟨_,rfl,x,m.dx,_,rfl,ho,oR Dz,x,q,m,_,ay,B,z,r,_,gQ d,rfl,M,by omega,e,hrow,hRI,fun GB fr MB=>?_⟩
    rw [LG,hB,Nat.add_assoc] at MB
    rw [jR e hd]
    exact ⟨_,ps ++ [p],rfl,fun c o h=>fr c o (noH h) (sA c o h),MB,fr _ _ (fun g=>gls (.inl g)) HN,Qn.1,fun j p' z' a b=>by
     obtain ⟨bb,n,x1,x2⟩:=Qn.2 j p' z' a b
     exact ⟨bb,n,M.tups fr x1,fr _ _ n.1 x2⟩⟩
   ·cases hh:z.how with
    | none=>exact absurd hh HP
    | some xs =>
     rw [hh] at hv
     obtain ⟨pv',rfl,_⟩:=hv
     refine ⟨rfl,_,rfl,oK ?_⟩
     rw [jS Sd]
     exact ⟨_,ps ++ [p],rfl,sA,M.more (by omega) (by omega),HN,Qn⟩
  ·rintro σ G ⟨v4,ps,rfl,sG,M,hls,hst⟩
   obtain ⟨St,Zk,Rk⟩:=ok 40
   generalize jz cJ ds (z0 (oG c) oU) 40=z at M St Zk Rk k
   generalize (List.range 40).map (jz cJ ds (z0 (oG c) oU))=zs at hst k
   obtain ⟨B,hB⟩:∃ B,B=50 + 40:=⟨_,rfl⟩
   rw [← hB] at M
   obtain ⟨w0,ho,hw⟩:=M.obj
   refine ⟨_,rfl,_,rfl,x,m.dx,_,rfl,ho,oR Dv,x,z,B,rfl,⟨m,qs.map V.ref,ay,M⟩,fun lt nlt=>?_⟩
   have s1:=ae (o:=.lst (z.told.map V.int)) nlt
   have g1:upd G lt (.lst (z.told.map V.int)) lt=_:=ai
   generalize upd G lt (.lst (z.told.map V.int))=G1 at s1 g1 ⊢
   refine ⟨_,rfl,x,m.dx,_,rfl,s1 _ _ ho,oR Dx,x,z,B,rfl,⟨m,qs.map V.ref,ay,M.same s1⟩,fun ln sn hsn nln=>?_⟩
   have s2:=ae (o:=.lst (sn.map V.ref)) nln
   have g2:upd G1 ln (.lst (sn.map V.ref)) ln=_:=ai
   generalize upd G1 ln (.lst (sn.map V.ref))=G2 at s2 g2 ⊢
   have t2:=s1.trans s2
   refine ⟨_,rfl,x,m.dx,_,rfl,t2 _ _ ho,oR AG,x,z,B,rfl,⟨m,qs.map V.ref,ay,M.same t2⟩,fun DB dc G3 s3 n3 g3 z3 k3=>?_⟩
   have t3:=t2.trans s3
   refine ⟨_,rfl,x,m.dx,_,rfl,t3 _ _ ho,oR xE,x,z,B,rfl,⟨m,qs.map V.ref,ay,M.same t3⟩,fun DC da G4 s4 n4 g4 z4 k4=>?_⟩
   have t4:=t3.trans s4
   refine ⟨_,rfl,x,m.dx,_,rfl,t4 _ _ ho,oR qf,x,z,B,rfl,⟨m,qs.map V.ref,ay,M.same t4⟩,fun v hv=>?_⟩
   refine ⟨Gq,fun p np=>?_⟩
   have s5:=ae (o:=.tup [.ref ls,.ref lt,.ref ln,.ref DB,.ref DC,v]) np
   have t5:=t4.trans s5
   refine k _ _ (sG.trans t5) ⟨p,ls,lt,ln,DB,DC,ps,sn,dc,da,v,rfl,ai,t5 _ _ hls,⟨hst.1,fun j p' z' a b=>?_⟩,(s2.trans (s3.trans (s4.trans s5))) _ _ g1,(s3.trans (s4.trans s5)) _ _ g2,hsn.same (s2.trans (s3.trans (s4.trans s5))),(s4.trans s5) _ _ g3,z3,s5 _ _ g4,z4,hv.same s5⟩
   obtain ⟨bb,n,x1,x2⟩:=hst.2 j p' z' a b
   exact ⟨bb,trivial,t5 _ _ x1,t5 _ _ x2⟩
end
def oz (d:FR):Int:=if d.u ∈ five then fQ d else 0
def xG (d:FR) (S:List Str):List Int:=(((dn d.u).zip d.is).filter fun x=>decide (x.1 ∈ S)).map (·.2)
def AJ (d:FR):Nat:=heads.idxOf (d.u,oz d)
def HQ (d:FR) (dist:List Int):Int:=if aV d=true then dist.headD 0 + 64 else if (xG d ["box"]).length=2 then (xG d ["box"])[1]?.getD 0 else 0
def fZ (d:FR) (dist:List Int):Int:=(AJ d:Int) * 1024 + (xG d ["box"]).headD 0 * 128 + HQ d dist
def jA (d:FR) (dist:List Int):List Int:=if d.u = "table" then (dist.length:Int) :: dist else if d.u ∈ five then (if fQ d=1 then dist else []) else xG d yV
def kI (ds:List FR) (r:Nat) (d:FR):List Int:=fZ d (d.ts.map (dE ds r)) :: jA d (d.ts.map (dE ds r))
def dm (ds:List FR) (n:Nat):List Int:=((List.range n).filterMap fun r=>ds[r]?.map (kI ds r)).flatten
theorem iK {ds:List FR} {n:Nat} {d:FR} (h:ds[n]? = some d):dm ds (n + 1)=dm ds n ++ kI ds n d:=by
 unfold dm
 rw [range_succ,List.filterMap_append,List.flatten_append]
 simp [h]
theorem LL:∀ u ∈ d8,(u,dn u) ∈ kinds:=by decide +kernel
theorem AK {d:FR} (hu:d.u ∈ d8) (hf:sj d):(d.u,oz d) ∈ heads:=by
 unfold oz
 by_cases h:d.u ∈ five
 ·rw [if_pos h]
  rcases hf h with z | z <;> rw [z]
  ·exact (by decide +kernel:∀ u ∈ five,(u,(0:Int)) ∈ heads) _ h
  ·exact (by decide +kernel:∀ u ∈ five,(u,(1:Int)) ∈ heads) _ h
 ·rw [if_neg h]
  exact (by decide +kernel:∀ u ∈ d8,(u,(0:Int)) ∈ heads) _ hu
theorem cj.full {H:Hp} {q:Addr} {d:FR} (h:cj H q d):∃ items,H q=some (.tup (.str d.u :: items))∧items.length=(dn d.u).length∧((¬ d.u = "table" ∧ items=d.is.map V.int∧d.is.length=(dn d.u).length)∨(d.u = "table" ∧ ∃ b p,d.is=[b]∧items=[.int b,.ref p])):=by
 obtain ⟨⟨hu,h1,h2,h3,h4,h5,h6⟩,h⟩:=h
 rcases h with ⟨a,b,p,e,g1,g2⟩ | ⟨a,g1⟩
 ·exact ⟨_,g1,by rw [a]; exact (by decide +kernel:2=(dn "table").length),.inr ⟨a,b,p,e,rfl⟩⟩
 ·have hl:d.is.length=(dn d.u).length:=by
   by_cases z1:d.u ∈ eI
   ·obtain ⟨t,f,e1,_⟩:=h2 z1
    rw [e1]
    exact ((by decide +kernel:∀ u ∈ eI,2=(dn u).length)) _ z1
   ·by_cases z2:d.u ∈ zb
    ·obtain ⟨b,t,f,e1,_⟩:=h3 z2
     rw [e1]
     exact ((by decide +kernel:∀ u ∈ zb,3=(dn u).length)) _ z2
    ·exact (h4 a z1 z2).2
  exact ⟨_,g1,by rw [length_map,hl],.inl ⟨a,rfl,hl⟩⟩
theorem AO (x:V) (xs:List V):jb (x :: xs) (some 1) none=xs:=by
 unfold jb
 have h1:HT.dN (x :: xs).length 0 (some 1)=1:=by
  have:HT.dN (x :: xs).length 0 (some ((1:Nat):Int))=min 1 (x :: xs).length:=HT.qv ..
  rw [show (1:Int)=((1:Nat):Int) from rfl,this,length_cons]
  omega
 have h2:HT.dN (x :: xs).length (x :: xs).length none=(x :: xs).length:=rfl
 rw [h1,h2,List.drop_one,List.tail_cons]
 exact take_of_length_le (by simp)
theorem qg {α:Type} (l:List α) (p:α→Bool) (i:Nat):((l.take (i + 1)).filter p)=(l.take i).filter p ++ (match l[i]? with | some x=>if p x=true then [x] else [] | none=>[]):=by
 rw [take_add_one,filter_append]
 congr 1
 cases l[i]? with
 | none=>rfl
 | some x=>simp [List.filter_cons]
section
variable {P:Program} {w:World} {K:Frag} {mg:Str→Option Value} {base:Heap}
def vO:Sp:=fun vs H Q _=>∃ (q:Addr) (d:FR),vs=[.ref q]∧cj H q d∧Q (.int (oz d)) H
theorem LM:aI ["row"] ["row"] (aj j9):=⟨rfl,rfl,rfl,by decide +kernel,rfl,by decide +kernel,by decide +kernel⟩
theorem AQ {f fH:Addr} {fd rY:FuncData} (F:dj K "far_of" "far_of" j9 f fd) (T:Txt K w.params mg) (GH:aL P w K mg base cg 1 fH rY ["word"] pT) (kH:KI K fH) (bH:Binds K rY ["word"] []) (mH:mg "has_far" = some (.ref fH)):aL P w K mg base cg 2 f fd ["row"] vO:=by
 refine F.ok LM (fun vs H Q E h=>?_) (fun cdv A outer s H vs Q E hr h=>?_)
 ·obtain ⟨q,d,rfl,_⟩:=h
  rfl
 ·obtain ⟨q,d,rfl,hR,k⟩:=h
  obtain ⟨items,i1,_⟩:=hR.full
  refine dM (aU (aK (aN (eF (eR (aM GH hr (by rfl) mH kH bH .nil aZ (ah (aJ aO (pv 0) ak (fun _ _=>rfl)) ao))) (aJ aO (pv 0) (dX dg ak) (fun _ _=>rfl)) ak)))) ?_
  refine ⟨_,rfl,q,_,0,_,rfl,rfl,bq.of i1,at0 _ _,d.u,rfl,hR.1.1,_,rfl,?_⟩
  unfold oz at k
  refine cC (fun e=>?_) (fun e=>?_)
  ·have e:=of_decide_eq_true e
   obtain ⟨_,y1,y2,_⟩:=cX hR e
   rw [if_pos e] at k
   exact ⟨_,rfl,_,rfl,q,_,-1,_,rfl,rfl,bq.of y1,y2,k⟩
  ·rw [if_neg (fun z=>e (decide_eq_true z))] at k
   exact k
def lZ:Sp:=fun vs H Q _=>∃ (q s:Addr) (d:FR) (S:List Str),vs=[.ref q,.ref s]∧cj H q d∧(∀ H',Same H H'→bq K H' s (S.map V.str))∧¬ ("targets" : Str) ∈ S∧∀ (l:Addr) (H':Hp),Same H H'→H l=none→H' l=some (.lst ((xG d S).map V.int))→Q (.ref l) H'
theorem LN:aI ["row", "kinds"] ["row", "kinds"] (aj eV):=⟨rfl,rfl,rfl,by decide +kernel,rfl,by decide +kernel,by decide +kernel⟩
def DG:Scope:={ kind:=.function,names:=[(".0",.local),("kind",.local),("part",.local),("kinds",.free)],isGenerator:=false,isCoroutine:=false,more:=[] }
theorem vP:dI (aj eV) DG ["row", "kinds"] ["kind", "part", "kinds"] [none,none,some 1]:=⟨rfl,by decide +kernel,by decide +kernel,by decide +kernel,by decide +kernel,by decide +kernel⟩
theorem AR {f:Addr} {fd:FuncData} (F:dj K "parts_of" "parts_of" eV f fd) (T:Txt K w.params mg):aL P w K mg base cg 1 f fd ["row", "kinds"] (lZ (K:=K)):=by
 refine F.ok LN (fun vs H Q E h=>?_) (fun cdv A outer s H vs Q E hr h=>?_)
 ·obtain ⟨q,s,d,S,rfl,_⟩:=h
  rfl
 ·obtain ⟨q,sk,d,S,rfl,hR,hS,hnt,k⟩:=h
  obtain ⟨items,i1,i2,i3⟩:=hR.full
  obtain ⟨p,hp,hk⟩:=T.prt
  obtain ⟨qk,hq,hqS⟩:=hk _ (LL _ hR.1.1)
  refine dM (aU (aK (aN (eE (N':=["kind", "part", "kinds"]) (fr:=[none,none,some 1]) vP rfl (Gh rfl T.zip (ah (qF (dB (v:=.ref p) (by rfl) hp rfl) (aJ aO (pv 0) ak (fun _ _=>rfl)) (fun _ _=>rfl)) (ah (eG jo (pv 0) (fj ak) fh) ao))) (fun C s0 H0 fp=>(gM (K:=K) (i:=0) (j:=1) rfl rfl vP.nd rfl (Or.inl rfl) rfl (Or.inl rfl))) (fun C s0 H0 fp=>(iP (aS (r:=P1 K false) cz (pv 0) (pv 2) rfl))) (fun C s0 H0 fp=>(pv 1)))))) ?_
  refine ⟨_,rfl,q,_,0,_,rfl,rfl,bq.of i1,at0 _ _,p,d.u,_,rfl,rfl,hq,?_⟩
  refine ⟨_,rfl,1,rfl,q,_,rfl,bq.of i1,(fun z=>absurd z.1 (by
   have:HT.dN (V.str d.u :: items).length 0 (some ((1:Nat):Int))=min 1 (V.str d.u :: items).length:=HT.qv ..
   rw [show (1:Int)=((1:Nat):Int) from rfl,this,length_cons]
   omega)),fun p1 np1=>?_⟩
  rw [AO]
  have s1:=ae (o:=.tup items) np1
  have hp1:upd H p1 (.tup items) p1=_:=ai
  generalize upd H p1 (.tup items)=G1 at s1 hp1 ⊢
  refine ⟨qk,p1,rfl,⟨_,hqS _⟩,⟨_,bq.of hp1⟩,fun D nD=>yM (K:=K) (a:=qk) (b:=p1) (xs:=(dn d.u).map V.str) (zs:=items) (by rw [length_map,i2])
   (fun i σ ys G=>∃ (v1 v2:Option V),σ=[v1,v2,some (.ref sk)]∧ys=(((((dn d.u).zip d.is).take i).filter fun x=>decide (x.1 ∈ S)).map (·.2)).map V.int∧Same G1 G∧G D=some (.lst ys)) ?_ ?_ ?_ ?_⟩
  ·exact ⟨none,none,rfl,rfl,ae nD,ai⟩
  ·rintro i σ ys G _ ⟨v1,v2,rfl,rfl,s2,_⟩
   exact ⟨hqS _,bq.of (s2 _ _ hp1)⟩
  ·rintro i y z σ ys G t hy hz nt ⟨v1,v2,rfl,rfl,s2,hD⟩
   rw [List.getElem?_map] at hy
   obtain ⟨kd,hkd,rfl⟩:=map_eq_some_iff.mp hy
   have s3:=ae (o:=.tup [.str kd,z]) nt
   have s13:=s1.trans (s2.trans s3)
   refine ⟨t,_,rfl,bq.of ai,rfl,_,_,rfl,_,_,rfl,rfl,?_⟩
   have hil:=(List.getElem?_eq_some_iff.mp hkd).1
   have hll:(((((dn d.u).zip d.is).take i).filter fun x=>decide (x.1 ∈ S)).map (·.2)).length < sizeLine:=by
    rw [length_map]
    refine Nat.lt_of_le_of_lt (length_filter_le _ _) ?_
    rw [length_take]
    have:(dn d.u).length ≤ 3:=(by decide +kernel:∀ u ∈ d8,(dn u).length ≤ 3) _ hR.1.1
    exact bj (by omega)
   refine ⟨_,rfl,_,rfl,sk,S.map V.str,rfl,.inr (hS _ s13),rfl,(by rw [all_map]; exact all_eq_true.mpr fun _ _=>rfl),_,rfl,?_⟩
   rw [show inV (.str kd) (S.map V.str)=decide (kd ∈ S) from cO _ _]
   refine cC (fun e=>?_) (fun e=>?_)
   ·have e:=of_decide_eq_true e
    have DE:∃ n,z=.int n∧((dn d.u).zip d.is)[i]? = some (kd,n):=by
     rcases i3 with ⟨_,e1,e2⟩ | ⟨e0,b,pp,e1,e2⟩
     ·rw [e1,List.getElem?_map] at hz
      obtain ⟨n,hn,rfl⟩:=map_eq_some_iff.mp hz
      exact ⟨n,rfl,by rw [List.getElem?_zip_eq_some]; exact ⟨hkd,hn⟩⟩
     ·rw [e2] at hz
      rw [e0] at hkd
      match i,hz,hkd with
      | 0,hz,hkd=>cases hz; exact ⟨b,rfl,by rw [List.getElem?_zip_eq_some,e0,e1]; exact ⟨hkd,rfl⟩⟩
      | 1,hz,hkd =>
       have:kd = "targets" := by
        have h9:(dn "table")[1]? = some ("targets" : Str):=by decide +kernel
        rw [h9] at hkd
        exact (Option.some.inj hkd).symm
       rw [this] at e
       exact absurd e hnt
      | (n + 2),hz,_=>simp at hz
    obtain ⟨n,rfl,DE⟩:=DE
    refine ⟨_,rfl,s3 _ _ hD,by rw [length_map]; exact hll,_,_,rfl,?_,aR (s2.trans s3) nD,ai⟩
    rw [qg,DE]
    simp [e]
   ·refine ⟨_,_,rfl,?_,s2.trans s3,s3 _ _ hD⟩
    rw [qg]
    cases DE:((dn d.u).zip d.is)[i]? with
    | none=>simp
    | some x =>
     obtain ⟨x1,x2⟩:=x
     rw [List.getElem?_zip_eq_some,hkd] at DE
     obtain ⟨hz1,_⟩:=DE
     have hz1:=Option.some.inj hz1
     subst hz1
     have e':¬ kd ∈ S:=fun z=>e (decide_eq_true z)
     simp [e']
  ·rintro σ ys G ⟨v1,v2,rfl,rfl,s2,hD⟩
   refine k D _ (s1.trans s2) (s1.free nD) ?_
   rw [hD]
   unfold xG
   rw [take_of_length_le (by rw [List.length_zip,length_map]; omega)]
def AT:Sp:=fun vs H Q _=>∃ (q:Addr) (d:FR),vs=[.ref q]∧cj H q d∧∀ p,H p=none→Q (.ref p) (upd H p (.tup [.str d.u,.int (oz d)]))
theorem LO:aI ["row"] ["row"] (aj iV):=⟨rfl,rfl,rfl,by decide +kernel,rfl,by decide +kernel,by decide +kernel⟩
theorem DH {f fF:Addr} {fd LP:FuncData} (F:dj K "head_of" "head_of" iV f fd) (T:Txt K w.params mg) (GF:aL P w K mg base cg 2 fF LP ["row"] vO) (kF:KI K fF) (bF:Binds K LP ["row"] []) (mF:mg "far_of" = some (.ref fF)):aL P w K mg base cg 3 f fd ["row"] AT:=by
 refine F.ok LO (fun vs H Q E h=>?_) (fun cdv A outer s H vs Q E hr h=>?_)
 ·obtain ⟨q,d,rfl,_⟩:=h
  rfl
 ·obtain ⟨q,d,rfl,hR,k⟩:=h
  obtain ⟨items,i1,_⟩:=hR.full
  refine dM (aU (aK (aN (bt (ah (aJ aO (pv 0) ak (fun _ _=>rfl)) (ah (aM GF hr (by rfl) mF kF bF .nil aZ (ah (pv 0) ao)) ao)))))) ?_
  exact ⟨_,rfl,q,_,0,_,rfl,rfl,bq.of i1,at0 _ _,_,rfl,q,d,rfl,hR,cB,fun p np=>k p np⟩
def EV:Sp:=fun vs H Q _=>∃ (q ld:Addr) (d:FR) (dist:List Int),vs=[.ref q,.ref ld]∧cj H q d∧H ld=some (.lst (dist.map V.int))∧(aV d=true→dist ≠ [])∧∀ H',Same H H'→Q (.int (HQ d dist)) H'
theorem EW:aI ["row", "distances", "boxes"] ["row", "distances"] (aj kh):=⟨rfl,rfl,rfl,by decide +kernel,rfl,by decide +kernel,by decide +kernel⟩
theorem HR {f fJ fP:Addr} {fd Eo AU:FuncData} (F:dj K "low_of" "low_of" kh f fd) (T:Txt K w.params mg) (GJ:aL P w K mg base cg 2 fJ Eo ["row"] zc) (kJ:KI K fJ) (bJ:Binds K Eo ["row"] []) (mJ:mg "is_short_jump" = some (.ref fJ)) (GP:aL P w K mg base cg 1 fP AU ["row", "kinds"] (lZ (K:=K))) (kP:KI K fP) (bP:Binds K AU ["row", "kinds"] []) (mP:mg "parts_of" = some (.ref fP)):aL P w K mg base cg 3 f fd ["row", "distances"] EV:=by
 refine F.ok EW (fun vs H Q E h=>?_) (fun cdv A outer s H vs Q E hr h=>?_)
 ·obtain ⟨q,ld,d,dist,rfl,_⟩:=h
  rfl
 ·obtain ⟨q,ld,d,dist,rfl,hR,hd,hne,k⟩:=h
  have Qd:=hr.mono (show 2 ≤ _ by decide)
  have Se:=hr.mono (show 1 ≤ _ by decide)
  obtain ⟨_,hsa⟩:=T.sad
  refine dM (aw (di (eR (aM GJ Qd (by rfl) mJ kJ bJ .nil aZ (ah (pv 0) ao))) (aU (aK (aN (aG cm (aJ aT (pv 1) ak (fun _ _=>rfl)) (dB (v:=.int 64) (by rfl) hsa ⟨_,rfl⟩))))) (cw aX))
   (aw (aK (aW (i:=2) EW.nd rfl (Or.inl rfl) (aM GP Se (by rfl) mP kP bP .nil aZ (ah (pv 0) (ah (bt (ah az ao)) ao)))))
   (aU (aK (aN (eF (aS d7 (bu aY (by rfl) T.len cT (ah (pv 2) ao)) ak (bz _)) (aJ aT (pv 2) ak (fun _ _=>rfl)) ak)))))) ?_
  unfold HQ at k
  refine ⟨_,rfl,q,d,rfl,hR,_,rfl,?_⟩
  refine cC (fun e=>?_) (fun e=>?_)
  ·rw [if_pos e] at k
   obtain ⟨x,r,hx⟩:=List.exists_cons_of_ne_nil (hne e)
   subst hx
   exact ⟨_,rfl,ld,_,0,.int x,rfl,rfl,bh.of hd,at0 _ _,_,_,rfl,rfl,k _ (.refl _)⟩
  ·rw [if_neg e] at k
   refine ⟨_,rfl,fc,fun t nt=>?_⟩
   have s1:=ae (o:=.tup [V.str "box"]) nt
   have ht:upd H t (.tup [V.str "box"]) t=_:=ai
   generalize upd H t (.tup [V.str "box"])=G1 at s1 ht ⊢
   refine ⟨q,t,d,["box"],rfl,hR.same s1,fun H' s'=>bq.of (s' _ _ ht),by decide,fun lb G2 s2 _ hlb=>?_⟩
   refine ⟨_,rfl,lb,_,rfl,.inl (bh.of hlb),rfl,_,rfl,?_⟩
   rw [length_map]
   by_cases h2:(xG d ["box"]).length=2
   ·rw [if_pos h2] at k
    refine oQ (by simp [h2]) ?_
    have:∃ x y,xG d ["box"]=[x,y]:=by
     match hpk:xG d ["box"],h2 with
     | [x,y],_=>exact ⟨x,y,rfl⟩
    obtain ⟨x,y,hxy⟩:=this
    rw [hxy] at hlb k
    exact ⟨_,rfl,lb,_,1,.int y,rfl,rfl,bh.of hlb,rfl,k _ (s1.trans s2)⟩
   ·rw [if_neg h2] at k
    refine jd (by simp; omega) ?_
    exact k _ (s1.trans s2)
def HS (h:Str × Int):Da:=.tup [.str h.1,.int h.2]
theorem DI {a b:Str × Int} (h:HS a=HS b):a=b:=by
 obtain ⟨a1,a2⟩:=a
 obtain ⟨b1,b2⟩:=b
 unfold HS at h
 injection h with h
 injection h with h1 h2
 injection h1 with h1
 injection h2 with h2 _
 injection h2 with h2
 exact Prod.ext h1 h2
theorem AV (K:Frag) {H:Hp} {p:Addr} {h:Str × Int} (e:bq K H p [.str h.1,.int h.2]):dU K H (.ref p) (HS h):=by
 refine .tup e rfl fun i y d g1 g2=>?_
 match i,g1,g2 with
 | 0,g1,g2=>cases g1; cases g2; exact .str _
 | 1,g1,g2=>cases g1; cases g2; exact .int _
theorem AW (h:Str × Int):(HS h).Nb 1:=.tup fun d hd=>by
 rcases mem_cons.mp hd with rfl | hd
 ·exact .str
 ·rw [mem_singleton.mp hd]
  exact .int
theorem HU {α:Type} [BEq α] [LawfulBEq α] {l:List α} {x:α} (h:x ∈ l):l[l.idxOf x]? = some x∧∀ m,m < l.idxOf x→l[m]? ≠ some x:=by
 have hl:l.idxOf x < l.length:=List.idxOf_lt_length_iff.mpr h
 refine ⟨by rw [List.getElem?_eq_getElem hl]; exact congrArg some (List.getElem_idxOf hl),fun m hm e=>?_⟩
 obtain ⟨h1,h2⟩:=List.getElem?_eq_some_iff.mp e
 have:=List.not_of_lt_findIdx (p:=(· == x)) (xs:=l) (i:=m) hm
 simp [h2] at this
def vQ:Sp:=fun vs H Q _=>∃ (q ld:Addr) (d:FR) (dist:List Int),vs=[.ref q,.ref ld]∧cj H q d∧sj d∧H ld=some (.lst (dist.map V.int))∧(aV d=true→dist ≠ [])∧∀ H',Same H H'→Q (.int (fZ d dist)) H'
theorem AX:aI ["row", "distances", "boxes", "a"] ["row", "distances"] (aj gJ):=⟨rfl,rfl,rfl,by decide +kernel,rfl,by decide +kernel,by decide +kernel⟩
theorem AY {f fP fH fL:Addr} {fd AU rY Ew:FuncData} (F:dj K "first_unit" "first_unit" gJ f fd) (T:Txt K w.params mg) (GP:aL P w K mg base cg 1 fP AU ["row", "kinds"] (lZ (K:=K))) (kP:KI K fP) (bP:Binds K AU ["row", "kinds"] []) (mP:mg "parts_of" = some (.ref fP)) (GH:aL P w K mg base cg 3 fH rY ["row"] AT) (kH:KI K fH) (bH:Binds K rY ["row"] []) (mH:mg "head_of" = some (.ref fH)) (GL:aL P w K mg base cg 3 fL Ew ["row", "distances"] EV) (kL:KI K fL) (bL:Binds K Ew ["row", "distances"] []) (mL:mg "low_of" = some (.ref fL)):aL P w K mg base cg 4 f fd ["row", "distances"] vQ:=by
 refine F.ok AX (fun vs H Q E h=>?_) (fun cdv A outer s H vs Q E hr h=>?_)
 ·obtain ⟨q,ld,d,dist,rfl,_⟩:=h
  rfl
 ·obtain ⟨q,ld,d,dist,rfl,hR,hF,hd,hne,k⟩:=h
  have Sf:dr 3 (A.deeper (PyProof.Rows.envOfC "first_unit" (aj gJ) s.heap.objs.size f cdv)):=hr
  have Se:=hr.mono (show 1 ≤ _ by decide)
  have LQ:=hr.u 8
  obtain ⟨_,hcs⟩:=T.cst
  obtain ⟨_,hbs⟩:=T.bst
  obtain ⟨ph,hph,hpo,hpq⟩:=T.hds
  refine dM (aw (aK (aW (i:=2) AX.nd rfl (Or.inl rfl) (aM GP Se (by rfl) mP kP bP .nil aZ (ah (pv 0) (ah (bt (ah az ao)) ao)))))
   (aw (aK (aW (i:=3) AX.nd rfl (Or.inl rfl) (FW (eF (aS rB (bu aY (by rfl) T.len cT (ah (pv 2) ao)) ak (bz _)) (aJ aT (pv 2) ak (fun _ _=>rfl)) ak))))
   (aU (aK (aN (aG cm (aG cm (aG jZ (dR PySem.F.plainAttrs_tuple PySem.F.slot_tuple_index PySem.F.type_tuple_index (B5 LQ) (dB (v:=.ref ph) (by rfl) hph rfl) (ah (aM GH Sf (by rfl) mH kH bH .nil aZ (ah (pv 0) ao)) ao)) (dB (v:=.int 1024) (by rfl) hcs ⟨_,rfl⟩)) (aG jZ (pv 3) (dB (v:=.int 128) (by rfl) hbs ⟨_,rfl⟩))) (aM GL hr (by rfl) mL kL bL .nil aZ (ah (pv 0) (ah (pv 1) ao))))))))) ?_
  refine ⟨_,rfl,fc,fun t nt=>?_⟩
  have s1:=ae (o:=.tup [V.str "box"]) nt
  have ht:upd H t (.tup [V.str "box"]) t=_:=ai
  generalize upd H t (.tup [V.str "box"])=G1 at s1 ht ⊢
  refine ⟨q,t,d,["box"],rfl,hR.same s1,fun H' s'=>bq.of (s' _ _ ht),by decide,fun lb G2 s2 _ hlb=>?_⟩
  have s12:=s1.trans s2
  refine ⟨fun v G=>v=.int ((xG d ["box"]).headD 0)∧G=G2,?_,?_⟩
  ·refine ⟨_,rfl,lb,_,rfl,.inl (bh.of hlb),_,_,rfl,rfl,_,rfl,?_⟩
   rw [length_map]
   cases hb:xG d ["box"] with
   | nil=>exact jd (by simp) ⟨rfl,rfl⟩
   | cons x r =>
    rw [hb] at hlb
    refine oQ (by simp) ?_
    exact ⟨_,rfl,lb,_,0,.int x,rfl,rfl,bh.of hlb,at0 _ _,rfl,rfl⟩
  rintro v G ⟨rfl,hG⟩
  subst hG
  refine ⟨.inr (.inl ⟨rfl,hpo⟩),_,rfl,q,d,rfl,hR.same s12,fun p np=>?_⟩
  have s3:=s12.trans (ae (o:=.tup [.str d.u,.int (oz d)]) np)
  have hp3:upd G p (.tup [.str d.u,.int (oz d)]) p=_:=ai
  generalize upd G p (.tup [.str d.u,.int (oz d)])=G3 at s3 hp3 ⊢
  obtain ⟨hs,h1,h2,h3⟩:=hpq G3
  have hin:=HU (AK hR.1.1 hF)
  refine ⟨ph,hs.map V.ref,heads.map HS,.ref p,HS (d.u,oz d),1,AJ d,rfl,rfl,h1,by rw [length_map,length_map,h2],fun i x y g1 g2=>?_,AV K (h:=(d.u,oz d)) (bq.of hp3),fun y hy=>?_,AW _,by decide,?_,fun m hm=>?_,?_⟩
  ·rw [List.getElem?_map] at g1 g2
   obtain ⟨q1,e1,rfl⟩:=map_eq_some_iff.mp g1
   obtain ⟨h,e2,rfl⟩:=map_eq_some_iff.mp g2
   exact AV K (h3 i q1 h e1 e2)
  ·obtain ⟨h,_,rfl⟩:=mem_map.mp hy
   exact AW h
  ·rw [List.getElem?_map]
   unfold AJ
   rw [hin.1]
   rfl
  ·intro z
   rw [List.getElem?_map] at z
   obtain ⟨h,e1,e2⟩:=map_eq_some_iff.mp z
   have:=DI e2
   subst this
   exact hin.2 m hm e1
  refine ⟨_,_,rfl,rfl,.inr ⟨by decide,by decide⟩,_,rfl,_,_,rfl,rfl,.inr ⟨by decide,by decide⟩,_,_,rfl,rfl,?_⟩
  exact ⟨_,rfl,_,rfl,q,ld,d,dist,rfl,hR.same s3,s3 _ _ hd,hne,fun G4 s4=>⟨_,_,rfl,rfl,k _ (s3.trans s4)⟩⟩
def vR:Sp:=fun vs H Q _=>∃ (q ld:Addr) (d:FR) (dist:List Int),vs=[.ref q,.ref ld]∧cj H q d∧H ld=some (.lst (dist.map V.int))∧dist.length ≤ 16∧∀ (l:Addr) (H':Hp),Same H H'→H' l=some (.lst ((jA d dist).map V.int))→Q (.ref l) H'
theorem LR:aI ["row", "distances"] ["row", "distances"] (aj gK):=⟨rfl,rfl,rfl,by decide +kernel,rfl,by decide +kernel,by decide +kernel⟩
theorem AZ {f fH fP:Addr} {fd rY AU:FuncData} (F:dj K "other_units" "other_units" gK f fd) (T:Txt K w.params mg) (GH:aL P w K mg base cg 1 fH rY ["word"] pT) (kH:KI K fH) (bH:Binds K rY ["word"] []) (mH:mg "has_far" = some (.ref fH)) (GP:aL P w K mg base cg 1 fP AU ["row", "kinds"] (lZ (K:=K))) (kP:KI K fP) (bP:Binds K AU ["row", "kinds"] []) (mP:mg "parts_of" = some (.ref fP)):aL P w K mg base cg 2 f fd ["row", "distances"] vR:=by
 refine F.ok LR (fun vs H Q E h=>?_) (fun cdv A outer s H vs Q E hr h=>?_)
 ·obtain ⟨q,ld,d,dist,rfl,_⟩:=h
  rfl
 ·obtain ⟨q,ld,d,dist,rfl,hR,hd,hl,k⟩:=h
  have Sf:dr 1 (A.deeper (PyProof.Rows.envOfC "other_units" (aj gK) s.heap.objs.size f cdv)):=hr
  obtain ⟨pn,hpn,hnk⟩:=T.nks
  obtain ⟨items,i1,_⟩:=hR.full
  refine dM (aw (di (aS d7 (aJ aO (pv 0) ak (fun _ _=>rfl)) az (bz _)) (aU (aK (aN (aG j4 (ck (ah (bu aY (by rfl) T.len cT (ah (pv 1) ao)) ao)) (pv 1))))) (cw aX))
   (aw (di (eR (aM GH Sf (by rfl) mH kH bH .nil aZ (ah (aJ aO (pv 0) ak (fun _ _=>rfl)) ao))) (aU (aK (aN (eF (aS d7 (aJ aO (pv 0) (dX dg ak) (fun _ _=>rfl)) ak (bz _)) (pv 1) (ck ao))))) (cw aX))
   (aU (aK (aN (aM GP hr (by rfl) mP kP bP .nil aZ (ah (pv 0) (ah (dB (v:=.ref pn) (by rfl) hpn rfl) ao)))))))) ?_
  unfold jA at k
  refine ⟨_,rfl,q,_,0,.str d.u,rfl,rfl,bq.of i1,at0 _ _,rfl,_,rfl,?_⟩
  refine cC (fun e=>?_) (fun e=>?_)
  ·have e:=strEq e
   rw [if_pos e] at k
   refine ⟨_,rfl,ld,_,rfl,.inl (bh.of hd),fc,fun l1 xm=>?_⟩
   rw [length_map]
   have s1:=ae (o:=.lst [V.int ((dist.length:Nat):Int)]) xm
   have h1:upd H l1 (.lst [V.int ((dist.length:Nat):Int)]) l1=_:=ai
   generalize upd H l1 (.lst [V.int ((dist.length:Nat):Int)])=G1 at s1 h1 ⊢
   refine ⟨_,rfl,l1,ld,_,_,rfl,rfl,h1,s1 _ _ hd,dD (by show 1 + _ ≤ 1000000; rw [length_map]; omega),fun l2 Ez=>?_⟩
   exact k l2 _ (s1.trans (ae Ez)) ai
  ·have e:=pR e
   rw [if_neg e] at k
   refine ⟨_,rfl,q,_,0,.str d.u,rfl,rfl,bq.of i1,at0 _ _,d.u,rfl,hR.1.1,_,rfl,?_⟩
   refine cC (fun e2=>?_) (fun e2=>?_)
   ·have e2:=of_decide_eq_true e2
    rw [if_pos e2] at k
    obtain ⟨_,g1,g2,_⟩:=cX hR e2
    refine ⟨_,rfl,_,rfl,q,_,_,_,rfl,rfl,bq.of g1,g2,rfl,_,rfl,?_⟩
    by_cases hf:fQ d=1
    ·rw [if_pos hf] at k
     refine oQ (by rw [hf]; decide) ?_
     exact ⟨_,rfl,k ld _ (.refl _) hd⟩
    ·rw [if_neg hf] at k
     refine jd (fun z=>hf (V.int.inj (of_decide_eq_true z))) ?_
     exact ⟨le_of_ble_eq_true rfl,fun l nl=>k l _ (ae nl) ai⟩
   ·have e2:¬ d.u ∈ five:=fun z=>e2 (decide_eq_true z)
    rw [if_neg e2] at k
    exact ⟨_,rfl,q,pn,d,yV,rfl,hR,fun H' _=>hnk H',by decide,fun l H' s' _ hl'=>k l H' s' hl'⟩
theorem xH {d:FR} {dist:List Int} (hu:d.u ∈ d8) (h:dist.length ≤ 16):(jA d dist).length ≤ 17:=by
 unfold jA
 split
 ·rw [length_cons]; omega
 ·split
  ·split
   ·omega
   ·exact zero_le _
  ·unfold xG
   rw [length_map]
   refine le_trans (length_filter_le _ _) ?_
   rw [List.length_zip]
   have:(dn d.u).length ≤ 3:=(by decide +kernel:∀ u ∈ d8,(dn u).length ≤ 3) _ hu
   omega
theorem A0 {n:Nat} (h:n ≤ 2000000):n < sizeLine:=by rw [sizeLine_eq]; omega
def vS (vp:Addr):Sp:=fun vs H Q E=>∃ (lr:Addr) (ds:List FR),vs=[.ref lr]∧cW H lr ds∧Qc ds∧(∀ d ∈ ds,sj d)∧ds.length ≤ 100000 ∧
 (gN ds=none→∀ (l:Addr) (H':Hp),Same H H'→H l=none→H' l=some (.lst ((dm ds ds.length).map V.int))→Q (.ref l) H')∧∀ r,gN ds=some r→∀ H' d,Same H H'→H' d=some (.xd [("at",.int (r:Int))])→E (.ref vp) (some d) H'
theorem sI:aI ["rows", "begins", "units", "r", "row", "distances"] ["rows"] (aj ib):=⟨rfl,rfl,rfl,by decide +kernel,rfl,by decide +kernel,by decide +kernel⟩
theorem A1 {f fC fB fD fF fO vp:Addr} {fd EH zq KG LP LS:FuncData} (F:dj K "units_of" "units_of" ib f fd) (T:Txt K w.params mg)
  (GC:aL P w K mg base (tS P w) 5 fC EH ["rows"] (sh vp)) (kC:KI K fC) (bC:Binds K EH ["rows"] []) (mC:mg "check_layout" = some (.ref fC)) (GB:aL P w K mg base cg 3 fB zq ["rows"] nV) (kB:KI K fB) (bB:Binds K zq ["rows"] []) (mB:mg "begins_of" = some (.ref fB)) (GD:aL P w K mg base cg 2 fD KG ["rows", "begins", "r"] qO) (kD:KI K fD) (bD:Binds K KG ["rows", "begins", "r"] []) (mD:mg "distances_of" = some (.ref fD)) (GF:aL P w K mg base cg 4 fF LP ["row", "distances"] vQ) (kF:KI K fF) (bF:Binds K LP ["row", "distances"] []) (mF:mg "first_unit" = some (.ref fF)) (GO:aL P w K mg base cg 2 fO LS ["row", "distances"] vR) (kO:KI K fO) (bO:Binds K LS ["row", "distances"] []) (mO:mg "other_units" = some (.ref fO)):aL P w K mg base (tS P w) 6 f fd ["rows"] (vS vp):=by
 refine F.okX sI (fun vs H Q E h=>?_) (fun cdv A outer s H vs Q E hr h=>?_)
 ·obtain ⟨lr,ds,rfl,_⟩:=h
  rfl
 ·obtain ⟨lr,ds,rfl,hR,hT,hFo,hn,k,hE⟩:=h
  have hrC:dr 5 (A.deeper (PyProof.Rows.envOfC "units_of" (aj ib) s.heap.objs.size f cdv)):=hr
  have KH:=hr.mono (show 3 ≤ _ by decide)
  have hrD:=hr.mono (show 2 ≤ _ by decide)
  have hrO:=hr.mono (show 2 ≤ _ by decide)
  replace hr:dr 4 (A.deeper (PyProof.Rows.envOfC "units_of" (aj ib) s.heap.objs.size f cdv)):=hr.mono (by decide)
  refine ⟨_,(aD (bQ (aM GC hrC (by rfl) mC kC bC .nil Gp (ah (pv 0) ao)))
   (aD (aW (i:=1) sI.nd rfl (Or.inl rfl) (aM GB KH (by rfl) mB kB bB .nil aZ (ah (pv 0) ao)))
   (aD (aW (i:=2) sI.nd rfl (Or.inl rfl) (ck ao))
   (aD (df PassesOwn.leaving rfl (gH rfl T.enum (ah (pv 0) ao)) (gM (K:=K) (i:=3) (j:=4) rfl rfl sI.nd rfl (Or.inl rfl) rfl (Or.inl rfl)) (aD (aW (i:=5) sI.nd rfl (Or.inl rfl) (aM GD hrD (by rfl) mD kD bD .nil aZ (ah (pv 0) (ah (pv 1) (ah (pv 3) ao)))))
   (aD (bQ (dR PySem.F.plainAttrs_list PySem.F.slot_list_append PySem.F.type_list_append bZ (pv 2) (ah (aM GF hr (by rfl) mF kF bF .nil aZ (ah (pv 4) (ah (pv 5) ao))) ao)))
   (au (bQ (dR PySem.F.plainAttrs_list PySem.F.slot_list_extend PySem.F.type_list_extend wy (pv 2) (ah (aM GO hrO (by rfl) mO kO bO .nil aZ (ah (pv 4) (ah (pv 5) ao))) ao)))))))
   (au (aN (pv 2))))))),?_⟩
  refine ⟨_,rfl,lr,ds,rfl,hR,hT,hn,(fun e G1 s1=>?_),fun r e G d sG hd=>hE r e G d sG hd⟩
  replace k:=k e
  refine ⟨_,rfl,lr,ds,rfl,hR.same s1,hn,fun lb G2 s2 nlb hlb=>?_⟩
  refine ⟨le_of_ble_eq_true rfl,fun lu Jy=>?_⟩
  have s12:=s1.trans s2
  have DJ:H lu=none:=s12.free Jy
  have s3:=s12.trans (ae (o:=.lst []) Jy)
  have LU:=ae (o:=.lst []) Jy _ _ hlb
  have LV:upd G2 lu (.lst []) lu=some (.lst ((dm ds 0).map V.int)):=ai
  have nbu:lb ≠ lu:=fun z=>by rw [← z,hlb] at Jy; cases Jy
  generalize upd G2 lu (.lst [])=G3 at s3 LU LV ⊢
  obtain ⟨qs,r1,r2,r3⟩:=id hR
  refine ⟨_,rfl,lr,rfl,⟨_,bh.of (s3 _ _ r1)⟩,ia (xs:=qs.map V.ref) (fun i σ G=>i ≤ ds.length∧∃ v3 v4 v5:Option V,σ=[some (.ref lr),some (.ref lb),some (.ref lu),v3,v4,v5]∧Same H G∧G lb=some (.lst ((gu ds ds.length).map V.int))∧G lu=some (.lst ((dm ds i).map V.int))∧(dm ds i).length ≤ 18 * i) ?_ ?_ ?_ ?_⟩
  ·exact ⟨zero_le _,none,none,none,rfl,s3,LU,LV,zero_le _⟩
  ·rintro i σ G _ ⟨_,v3,v4,v5,rfl,s4,_⟩
   exact bh.of (s4 _ _ r1)
  ·rintro i x σ G tt hx kn ⟨_,v3,v4,v5,rfl,s4,hb4,Jz,hul⟩
   rw [List.getElem?_map] at hx
   obtain ⟨q,hq,rfl⟩:=map_eq_some_iff.mp hx
   have hil:i < ds.length:=by have:=(List.getElem?_eq_some_iff.mp hq).1; omega
   have hd:ds[i]? = some ds[i]:=List.getElem?_eq_getElem hil
   generalize ds[i]=d at hd
   have hTd:=hT d (List.mem_of_getElem? hd)
   have s5:=s4.trans (ae (o:=.tup [V.int i,V.ref q]) kn)
   have Sg:=ae (o:=.tup [V.int i,V.ref q]) kn _ _ hb4
   have Jq:=ae (o:=.tup [V.int i,V.ref q]) kn _ _ Jz
   have htt:upd G tt (.tup [V.int i,V.ref q]) tt=_:=ai
   generalize upd G tt (.tup [V.int i,V.ref q])=G5 at s5 Sg Jq htt ⊢
   have hrow:=(r3 i q d hq hd)
   refine ⟨tt,_,rfl,bq.of htt,rfl,_,_,rfl,_,_,rfl,rfl,?_⟩
   refine ⟨_,rfl,_,rfl,_,rfl,lr,lb,ds,i,d,rfl,hR.same s5,Sg,hd,hTd.2,hTd.1,fun Qo G6 s6 nld hld=>?_⟩
   have s56:=s5.trans s6
   have hsh:aV d=true→d.ts.map (dE ds i) ≠ []:=fun z=>by
    have hu:d.u ∈ five:=by
     unfold aV at z
     rw [Bool.and_eq_true] at z
     exact of_decide_eq_true z.1
    obtain ⟨_,_,_,t,et,_⟩:=cX hrow hu
    rw [et]
    exact cons_ne_nil _ _
   refine ⟨_,rfl,.inl ⟨rfl,_,bh.of (s6 _ _ Jq)⟩,_,rfl,_,rfl,q,Qo,d,_,rfl,hrow.same s56,hFo d (List.mem_of_getElem? hd),hld,hsh,fun G7 s7=>?_⟩
   have s57:=s56.trans s7
   have hu7:=s7 _ _ (s6 _ _ Jq)
   refine ⟨lu,_,_,rfl,rfl,hu7,A0 (by rw [length_map]; omega),?_⟩
   have e1:(dm ds i).map V.int ++ [V.int (fZ d (d.ts.map (dE ds i)))]=(dm ds i ++ [fZ d (d.ts.map (dE ds i))]).map V.int:=by rw [map_append]; rfl
   rw [e1]
   have nlu7:H lu=none:=DJ
   have LW:upd G7 lu (.lst ((dm ds i ++ [fZ d (d.ts.map (dE ds i))]).map V.int)) Qo=some (.lst ((d.ts.map (dE ds i)).map V.int)):=by
    have ne:Qo ≠ lu:=fun z=>by rw [z,Jq] at nld; cases nld
    rw [aq ne]
    exact s7 _ _ hld
   have hb8:upd G7 lu (.lst ((dm ds i ++ [fZ d (d.ts.map (dE ds i))]).map V.int)) lb=some (.lst ((gu ds ds.length).map V.int)):=by
    rw [aq nbu]
    exact s7 _ _ (s6 _ _ Sg)
   have s8:Same H (upd G7 lu (.lst ((dm ds i ++ [fZ d (d.ts.map (dE ds i))]).map V.int))):=aR s57 DJ
   have LQ:upd G7 lu (.lst ((dm ds i ++ [fZ d (d.ts.map (dE ds i))]).map V.int)) lu=_:=ai
   generalize upd G7 lu (.lst ((dm ds i ++ [fZ d (d.ts.map (dE ds i))]).map V.int))=G8 at LW hb8 s8 LQ ⊢
   have hdl:(d.ts.map (dE ds i)).length ≤ 16:=by rw [length_map]; exact hTd.1
   refine ⟨_,rfl,.inl ⟨rfl,_,bh.of LQ⟩,_,rfl,_,rfl,q,Qo,d,_,rfl,hrow.same s8,LW,hdl,fun lo G9 s9 hlo=>?_⟩
   have hol:=xH (d:=d) hrow.1.1 hdl
   refine ⟨lu,lo,_,_,rfl,rfl,s9 _ _ LQ,hlo,Nat.le_of_lt (A0 (by rw [length_map,length_map,length_append,length_singleton]; omega)),?_⟩
   have e2:(dm ds i ++ [fZ d (d.ts.map (dE ds i))]).map V.int ++ (jA d (d.ts.map (dE ds i))).map V.int=(dm ds (i + 1)).map V.int:=by
    rw [iK hd,← map_append]
    unfold kI
    simp
   rw [e2]
   refine ⟨by omega,_,_,_,rfl,aR (s8.trans s9) DJ,by rw [aq nbu]; exact s9 _ _ hb8,ai,?_⟩
   rw [iK hd,length_append]
   unfold kI
   rw [length_cons]
   omega
  ·rintro σ G ⟨_,v3,v4,v5,rfl,s4,hb4,Jz,hul⟩
   rw [length_map,r2] at Jz
   exact ⟨_,rfl,k lu _ s4 DJ Jz⟩
end
def nD (ks:List Nat):List (Key × V):=ks.map (fun r:Nat=>((Sum.inl (r:Int):Key),V.bl true))
theorem uw (ks:List Nat) (r:Nat):cF (nD ks) (Sum.inl (r:Int))=if r ∈ ks then some (.bl true) else none:=by
 induction ks with
 | nil=>rfl
 | cons x t ih =>
  show cF ((Sum.inl (x:Int),V.bl true) :: nD t) _=_
  by_cases e:x=r
  ·subst e
   rw [cM rfl,if_pos (by simp)]
  ·have ne:¬ ((Sum.inl (x:Int):Key)=Sum.inl (r:Int)):=fun z=>e (by have:=Sum.inl.inj z; omega)
   rw [cN ne,ih]
   by_cases h:r ∈ t
   ·rw [if_pos h,if_pos (by simp [h])]
   ·rw [if_neg h,if_neg (by simp [h]; omega)]
theorem A2 {ks:List Nat} {r:Nat} (h:¬ r ∈ ks):putK (nD ks) (Sum.inl (r:Int)) (.bl true)=nD (ks ++ [r]):=by
 rw [mI _ (by rw [uw,if_neg h])]
 unfold nD
 rw [map_append]
 rfl
theorem A3 (ks:List Nat):(nD ks).length=ks.length:=by unfold nD; rw [length_map]
def D0 (ds:List FR) (r:Nat):Int:=match ds[r]? with
 | some d=>dst ds r d
 | none=>0
theorem A4 (ds:List FR):lh ds ds.length=(cr ds).map fun r=>(r,D0 ds r):=by
 unfold cr
 rw [map_map]
 have:∀ x ∈ lh ds ds.length,((fun r=>(r,D0 ds r)) ∘ fun x:Nat × Int=>x.1) x=x:=fun x hx=>by
  unfold lh at hx
  obtain ⟨r,_,h2⟩:=mem_filterMap.mp hx
  unfold jw at h2
  cases hd:ds[r]? with
  | none=>rw [hd] at h2; cases h2
  | some d =>
   rw [hd] at h2
   have h2:(if aV d=true then some (r,dst ds r d) else none)=some x:=h2
   by_cases hs:aV d=true
   ·rw [if_pos hs] at h2
    cases h2
    show (r,D0 ds r)=(r,dst ds r d)
    unfold D0
    rw [hd]
   ·rw [if_neg hs] at h2
    cases h2
 rw [List.map_congr_left this,List.map_id'']
 intro x
 rfl
theorem tgt {ds:List FR} (hG:eB ds) {r:Nat} {d:FR} {H:Hp} {q:Addr} (hd:ds[r]? = some d) (hs:aV d=true) (hrow:cj H q d):∃ t:Nat,d.ts=[(t:Int)]∧t < ds.length∧∀ es,dst es r d=dE es r (t:Int):=by
 obtain ⟨_,_,_,t,t9,_⟩:=cX hrow (dP hs).1
 obtain ⟨t0,t1⟩:=(hG d (List.mem_of_getElem? hd)).2.1 t (by rw [t9]; simp)
 obtain ⟨tn,rfl⟩:=Int.eq_ofNat_of_zero_le t0
 exact ⟨tn,t9,by omega,fun es=>by unfold dst; rw [t9]; rfl⟩
structure Gw (ds:List FR) (D:Nat→Int) (L W P:List Nat):Prop where
 far:∀ x ∈ L,qR ds x
 lw:∀ x,x ∈ L↔x ∈ P∨x ∈ W
 nd:(W ++ P).Nodup
 Br:L.Nodup
 ok:∀ (r:Nat) d,ds[r]? = some d→aV d=true→¬ r ∈ L→D r=dst (bA ds P) r d∧bf (D r)=true
structure Gi (ds:List FR) (D:Nat→Int) (L W P:List Nat) (g hi i:Nat):Prop where
 far:∀ x ∈ L,qR ds x
 lw:∀ x,x ∈ L↔x ∈ g :: P∨x ∈ W
 nd:(W ++ g :: P).Nodup
 Br:L.Nodup
 ok1:∀ (r:Nat) d,ds[r]? = some d→aV d=true→¬ r ∈ L→i ≤ r∧r < hi→D r=dst (bA ds P) r d∧bf (D r)=true
 ok2:∀ (r:Nat) d,ds[r]? = some d→aV d=true→¬ r ∈ L→¬ (i ≤ r∧r < hi)→D r=dst (bA ds (g :: P)) r d∧bf (D r)=true
theorem Gw.done {ds:List FR} {D:Nat→Int} {L P:List Nat} (hG:eB ds) (h:Gw ds D L [] P):∀ x,x ∈ L↔qR ds x:=by
 have e:∀ x,x ∈ L↔x ∈ P:=fun x=>(h.lw x).trans (by simp)
 refine fun x=>⟨h.far x,HC hG h.far (fun r d hd hs hn=>?_) x⟩
 obtain ⟨h1,h2⟩:=h.ok r d hd hs hn
 rw [jy e,← h1]
 exact h2
theorem Gi.out {ds:List FR} {D:Nat→Int} {L W P:List Nat} {g hi i:Nat} (h:Gi ds D L W P g hi i) (hi':hi ≤ i):Gw ds D L W (g :: P) :=
 ⟨h.far,h.lw,h.nd,h.Br,fun r d hd hs hn=>h.ok2 r d hd hs hn (by omega)⟩
section
variable {ds:List FR} {D:Nat→Int} {L W P:List Nat} {g hi i:Nat}
theorem Gi.A5 (h:Gi ds D L W P g hi i):¬ g ∈ P:=fun z=>by
 have:=(nodup_append.mp h.nd).2.1
 exact (nodup_cons.mp this).1 z
theorem Gi.qW (h:Gi ds D L W P g hi i):(∀ x ∈ P,cv ds x)∧cv ds g :=
 ⟨fun x hx=>(h.far x ((h.lw x).mpr (.inl (List.mem_cons_of_mem _ hx)))).short,(h.far g ((h.lw g).mpr (.inl mem_cons_self))).short⟩
theorem Gi.skip (h:Gi ds D L W P g hi i) (hs:∀ d,ds[i]? = some d→aV d=true→¬ i ∈ L→D i=dst (bA ds (g :: P)) i d∧bf (D i)=true):Gi ds D L W P g hi (i + 1) :=
 ⟨h.far,h.lw,h.nd,h.Br,fun r d hd h1 h2 h3=>h.ok1 r d hd h1 h2 (by omega),fun r d hd h1 h2 h3=>by
  by_cases e:r=i
  ·subst e
   exact hs d hd h1 h2
  ·exact h.ok2 r d hd h1 h2 (by omega)⟩
end
def DK (ds:List FR):Prop:=∀ (r:Nat) d,ds[r]? = some d→aV d=true→∃ t:Nat,d.ts=[(t:Int)]∧t < ds.length∧∀ es,dst es r d=dE es r (t:Int)
section
variable {ds:List FR} {D:Nat→Int} {L W P:List Nat} {g hi i:Nat}
theorem Gi.start (hG:eB ds) (hT:DK ds) (h:Gw ds D L (W ++ [g]) P) {lo:Nat} (hlo:lo=g - 64) (hhi:hi=min ds.length (g + 65)):Gi ds D L W P g hi lo:=by
 have hgP:¬ g ∈ P:=fun z=>by
  have:=(nodup_append.mp h.nd).2.2 g (by simp) g z
  exact this rfl
 have hP:∀ x ∈ P,cv ds x:=fun x hx=>(h.far x ((h.lw x).mpr (.inl hx))).short
 have hg:cv ds g:=(h.far g ((h.lw g).mpr (.inr (by simp)))).short
 refine ⟨h.far,fun x=>?_,?_,h.Br,fun r d hd hs hn _=>h.ok r d hd hs hn,fun r d hd hs hn hw=>?_⟩
 ·rw [h.lw x,mem_append,mem_singleton,mem_cons]
  constructor
  ·rintro (a | a | a)
   ·exact .inl (.inr a)
   ·exact .inr a
   ·exact .inl (.inl a)
  ·rintro ((a | a) | a)
   ·exact .inr (.inr a)
   ·exact .inl a
   ·exact .inr (.inl a)
 ·have:=h.nd
  rw [append_assoc] at this
  exact this
 ·obtain ⟨h1,h2⟩:=h.ok r d hd hs hn
  obtain ⟨t,_,ht,et⟩:=hT r d hd hs
  have hr:=(List.getElem?_eq_some_iff.mp hd).1
  have hno:gT r t g=false:=by
   cases ho:gT r t g with
   | false=>rfl
   | true =>
    rw [et] at h1
    have:=near hG hP hr ht (by rw [← h1]; exact h2) ho
    omega
  refine ⟨?_,h2⟩
  rw [h1,et,et,sy hP hg hgP hr ht hno]
theorem Gi.pass (hT:DK ds) (h:Gi ds D L W P g hi i) (hi':i < hi) (hno:∀ d (t:Nat),ds[i]? = some d→aV d=true→d.ts=[(t:Int)]→¬ i ∈ L→gT i t g=false):Gi ds D L W P g hi (i + 1) :=
 h.skip fun d hd hs hn=>by
  obtain ⟨h1,h2⟩:=h.ok1 i d hd hs hn (by omega)
  obtain ⟨t,t9,ht,et⟩:=hT i d hd hs
  have hr:=(List.getElem?_eq_some_iff.mp hd).1
  refine ⟨?_,h2⟩
  rw [h1,et,et,sy h.qW.1 h.qW.2 h.A5 hr ht (hno d t hd hs t9 hn)]
theorem Gi.over (hG:eB ds) (hT:DK ds) (h:Gi ds D L W P g hi i) (hi':i < hi) {d:FR} {t:Nat} (hd:ds[i]? = some d) (hs:aV d=true) (hn:¬ i ∈ L) (t9:d.ts=[(t:Int)]) (ho:gT i t g=true):cQ (D i)=dst (bA ds (g :: P)) i d:=by
 obtain ⟨h1,h2⟩:=h.ok1 i d hd hs hn (by omega)
 obtain ⟨t',LX,ht,et⟩:=hT i d hd hs
 have e:t'=t:=by
  rw [t9] at LX
  have:=List.cons.inj LX
  omega
 subst e
 have hr:=(List.getElem?_eq_some_iff.mp hd).1
 rw [h1,et,et,xC hG h.qW.1 h.qW.2 h.A5 hr ht ho]
theorem Gi.keep (h:Gi ds D L W P g hi i) {x:Int} {d:FR} (hd:ds[i]? = some d) (hx:x=dst (bA ds (g :: P)) i d) (hb:bf x=true):Gi ds (fun j=>if j=i then x else D j) L W P g hi (i + 1) :=
 ⟨h.far,h.lw,h.nd,h.Br,fun r d' hd' h1 h2 h3=>by
  show (if r=i then x else D r)=_∧bf (if r=i then x else D r)=true
  rw [if_neg (by omega)]
  exact h.ok1 r d' hd' h1 h2 (by omega),fun r d' hd' h1 h2 h3=>by
  show (if r=i then x else D r)=_∧bf (if r=i then x else D r)=true
  by_cases e:r=i
  ·subst e
   rw [hd] at hd'
   cases hd'
   rw [if_pos rfl]
   exact ⟨hx,hb⟩
  ·rw [if_neg e]
   exact h.ok2 r d' hd' h1 h2 (by omega)⟩
theorem Gi.add (h:Gi ds D L W P g hi i) {x:Int} {d:FR} (hd:ds[i]? = some d) (hs:aV d=true) (hn:¬ i ∈ L) (hx:x=dst (bA ds (g :: P)) i d) (hb:bf x=false):Gi ds (fun j=>if j=i then x else D j) (L ++ [i]) (W ++ [i]) P g hi (i + 1):=by
 have Sh:qR ds i:=.mk (g :: P) (fun y hy=>h.far y ((h.lw y).mpr (.inl hy))) hd hs (by rw [← hx]; exact hb)
 refine ⟨fun y hy=>?_,fun y=>?_,?_,?_,fun r d' hd' h1 h2 h3=>?_,fun r d' hd' h1 h2 h3=>?_⟩
 ·rcases mem_append.mp hy with z | z
  ·exact h.far y z
  ·rw [mem_singleton.mp z]; exact Sh
 ·rw [mem_append,mem_append,h.lw y,or_assoc]
 ·have h1:¬ i ∈ W ++ g :: P:=fun z=>hn ((h.lw i).mpr ((mem_append.mp z).elim .inr .inl))
  rw [append_assoc]
  have h2:=nodup_append.mp h.nd
  rw [nodup_append]
  refine ⟨h2.1,?_,fun a ha b hb' e=>?_⟩
  ·show (i :: (g :: P)).Nodup
   exact nodup_cons.mpr ⟨fun z=>h1 (List.mem_append_right _ z),h2.2.1⟩
  ·rcases mem_cons.mp (show b ∈ i :: (g :: P) from hb') with z | z
   ·rw [← z,← e] at h1
    exact h1 (mem_append_left _ ha)
   ·exact h2.2.2 a ha b z e
 ·rw [nodup_append]
  exact ⟨h.Br,by simp,fun a ha b hb' e=>hn (by rw [← mem_singleton.mp hb',← e]; exact ha)⟩
 ·have hr:r ≠ i:=by omega
  show (if r=i then x else D r)=_∧bf (if r=i then x else D r)=true
  rw [if_neg hr]
  exact h.ok1 r d' hd' h1 (fun z=>h2 (mem_append_left _ z)) (by omega)
 ·have hr:r ≠ i:=fun z=>h2 (by rw [z]; simp)
  show (if r=i then x else D r)=_∧bf (if r=i then x else D r)=true
  rw [if_neg hr]
  exact h.ok2 r d' hd' h1 (fun z=>h2 (mem_append_left _ z)) (by omega)
end
theorem Gw.start {ds:List FR}:Gw ds (D0 ds) ((cr ds).filter fun r=>!bf (D0 ds r)) ((cr ds).filter fun r=>!bf (D0 ds r)) []:=by
 have e0:bA ds []=ds:=by
  refine List.ext_getElem? fun r=>?_
  unfold bA
  rw [List.getElem?_mapIdx]
  cases ds[r]? <;> simp
 have hk:(cr ds).Nodup:=iY ds ds.length
 have hD:∀ (r:Nat) d,ds[r]? = some d→D0 ds r=dst ds r d:=fun r d hd=>by unfold D0; rw [hd]
 refine ⟨fun x hx=>?_,fun x=>by simp,by rw [append_nil]; exact hk.sublist List.filter_sublist,hk.sublist List.filter_sublist,fun r d hd hs hn=>?_⟩
 ·obtain ⟨h1,h2⟩:=mem_filter.mp hx
  obtain ⟨d,hd,hs⟩:=gD.mp h1
  rw [hD x d hd] at h2
  exact .mk [] (fun y hy=>(not_mem_nil hy).elim) hd hs (by rw [e0]; simpa using h2)
 ·rw [e0]
  refine ⟨hD r d hd,?_⟩
  cases hb:bf (D0 ds r) with
  | true=>rfl
  | false=>exact absurd (mem_filter.mpr ⟨gD.mpr ⟨d,hd,hs⟩,by rw [hb]; rfl⟩) hn
section
variable {P:Program} {w:World} {K:Frag} {mg:Str→Option Value} {base:Heap}
def vT:Sp:=fun vs H Q _=>∃ (lr:Addr) (ds:List FR),vs=[.ref lr]∧cW H lr ds∧eB ds∧ds.length ≤ 100000∧∀ (p:Addr) (L:List Nat) (H':Hp),Same H H'→H p=none→H' p=some (.dK (nD L))→(∀ x,x ∈ L↔qR ds x)→L.Nodup→Q (.ref p) H'
theorem uz:aI ["rows", "distances", "waiting", "longer", "r", "grown"] ["rows"] (aj ju):=⟨rfl,rfl,rfl,by decide +kernel,rfl,by decide +kernel,by decide +kernel⟩
def HV:Scope:={ kind:=.function,names:=[(".0",.local),("r",.local),("is_borne",.globalImplicit),("distances",.free)],isGenerator:=false,isCoroutine:=false,more:=[] }
theorem A6:dI (aj ju) HV ["rows", "distances", "waiting", "longer", "r", "grown"] ["r", "distances"] [none,some 1]:=⟨rfl,by decide +kernel,by decide +kernel,by decide +kernel,by decide +kernel,by decide +kernel⟩
theorem A7 {f fS fB fJ fO:Addr} {fd rZ zq Eo LS:FuncData} (F:dj K "jumps_to_lengthen" "jumps_to_lengthen" ju f fd) (T:Txt K w.params mg) (GS:aL P w K mg base cg 4 fS rZ ["rows"] nW) (kS:KI K fS) (bS:Binds K rZ ["rows"] []) (mS:mg "short_distances" = some (.ref fS)) (GB:aL P w K mg base cg 1 fB zq ["distance"] qN) (kB:KI K fB) (bB:Binds K zq ["distance"] []) (mB:mg "is_borne" = some (.ref fB)) (GJ:aL P w K mg base cg 2 fJ Eo ["rows", "r", "other"] Lh) (kJ:KI K fJ) (bJ:Binds K Eo ["rows", "r", "other"] []) (mJ:mg "jumps_over" = some (.ref fJ)) (GO:aL P w K mg base cg 1 fO LS ["distance"] Lk) (kO:KI K fO) (bO:Binds K LS ["distance"] []) (mO:mg "one_further" = some (.ref fO)):aL P w K mg base cg 5 f fd ["rows"] vT:=by
 refine F.ok uz (fun vs H Q E h=>?_) (fun cdv A outer s H vs Q E hr h=>?_)
 ·obtain ⟨lr,ds,rfl,_⟩:=h
  rfl
 ·obtain ⟨lr,ds,rfl,hR,hG,hn,k⟩:=h
  have hr1:=hr.mono (show 1 ≤ _ by decide)
  have hr2:=hr.mono (show 2 ≤ _ by decide)
  have hu:=hr.u 1
  obtain ⟨Si,hMO⟩:=T.mro
  obtain ⟨qs,r1,r2,r3⟩:=id hR
  have hT:DK ds:=fun r d hd hs=>by
   have hq:qs[r]? = some (qs[r]'(by have:=(List.getElem?_eq_some_iff.mp hd).1; omega)):=List.getElem?_eq_getElem _
   exact tgt hG hd hs (r3 r _ d hq hd)
  have hks:(cr ds).Nodup:=iY ds ds.length
  have hkl:(cr ds).length ≤ ds.length:=by unfold cr; rw [length_map]; exact vn _ _
  have hklt:∀ x ∈ cr ds,x < ds.length:=fun x hx=>by
   obtain ⟨d,hd,_⟩:=gD.mp hx
   exact (List.getElem?_eq_some_iff.mp hd).1
  refine dM (aw (aK (aW (i:=1) uz.nd rfl (Or.inr rfl) (aM GS hr (by rfl) mS kS bS .nil aZ (ah (pv 0) ao))))
   (aw (aK (uW (uV (i:=2) (N':=["r", "distances"]) (fr:=[none,some 1]) uz.nd rfl rfl A6 rfl (uX (pv 1)) (fun C s0 H0 fp=>(cu (i:=0) A6.nd rfl (Or.inl rfl))) (fun C s0 H0 fp=>(iP (qp (eR (aM GB hr1 (by rfl) mB kB bB .nil aZ (ah (lR hu (pv 1) (pv 0) (fun _ _=>rfl)) ao)))))) (fun C s0 H0 fp=>(pv 0)))))
   (aw (aK (aW (i:=3) uz.nd rfl (Or.inl rfl) hZ))
   (aw (aK (df PassesOwn.never rfl (eC (pv 2)) (cu (i:=4) uz.nd rfl (Or.inl rfl)) (au (fq hu (pv 3) (pv 4) jf rfl))))
   (aw (aK (rn PassesOwn.never (aS rB (bu aY (by rfl) T.len cT (ah (pv 2) ao)) ak (bz _)) (aD (aW (i:=5) uz.nd rfl (Or.inl rfl) (yi PySem.F.plainAttrs_list PySem.F.slot_list_pop PySem.F.type_list_pop yk (pv 2)))
   (au (df PassesOwn.never rfl (wo rfl T.range (ah (bu (o9 rfl) (by rfl) T.max yS (ah ak (ah (aG gG (pv 5) (dB (v:=.int 64) (by rfl) hMO ⟨_,rfl⟩)) ao))) (ah (bu (pe rfl) (by rfl) T.min yT (ah (bu aY (by rfl) T.len cT (ah (pv 0) ao)) (ah (aG cm (aG cm (pv 5) (dB (v:=.int 64) (by rfl) hMO ⟨_,rfl⟩)) ak) ao))) ao))) (cu (i:=4) uz.nd rfl (Or.inl rfl)) (au (cV (jY (qo (tI hu (pv 4) (pv 1))) (jY (qo (wB hu (pv 4) (pv 3))) (lO (eR (aM GJ hr2 (by rfl) mJ kJ bJ .nil aZ (ah (pv 0) (ah (pv 4) (ah (pv 5) ao)))))))).pt (aD (fq hu (pv 1) (pv 4) (aM GO hr1 (by rfl) mO kO bO .nil aZ (ah (lR hu (pv 1) (pv 4) (fun _ _=>rfl)) ao)) rfl)
   (au (cV (qp (eR (aM GB hr1 (by rfl) mB kB bB .nil aZ (ah (lR hu (pv 1) (pv 4) (fun _ _=>rfl)) ao)))) (aD (fq hu (pv 3) (pv 4) jf rfl)
   (au (bQ (dR PySem.F.plainAttrs_list PySem.F.slot_list_append PySem.F.type_list_append bZ (pv 2) (ah (pv 4) ao))))) aX))) aX)))))))
   (aU (aK (aN (pv 3))))))))) ?_
  refine ⟨_,rfl,lr,ds,rfl,hR,hG.tg,hn,fun pd G1 s1 JA hpd=>?_⟩
  have ek:eK (lh ds ds.length)=jn (cr ds) (D0 ds):=by unfold jn; rw [← A4]
  rw [ek] at hpd
  have kat:∀ (j:Nat) ky y,(jn (cr ds) (D0 ds))[j]? = some (ky,y)→∃ r,(cr ds)[j]? = some r∧ky=Sum.inl (r:Int)∧y=.int (D0 ds r):=fun j ky y h=>by
   unfold jn eK at h
   rw [map_map,List.getElem?_map] at h
   obtain ⟨r,hr',e⟩:=map_eq_some_iff.mp h
   cases e
   exact ⟨r,hr',rfl,rfl⟩
  refine ⟨_,rfl,pd,_,rfl,hpd,fun o nf Dw LY=>?_⟩
  refine wQ (a:=pd) (o:=o) (kvs:=jn (cr ds) (D0 ds)) (fun j σ ys G=>∃ v:Option V,σ=[v,some (.ref pd)]∧ys=(((cr ds).take j).filter fun r=>!bf (D0 ds r)).map (fun r:Nat=>V.int (r:Int))∧Same H G∧G pd=some (.iL o (.dK (jn (cr ds) (D0 ds))))∧G Dw=some (.lst ys)) ?_ ?_ ?_ ?_
  ·refine ⟨none,rfl,rfl,?_,?_,ai⟩
   ·exact aR (aR s1 JA) ((aR (o:=.iL o (.dK (jn (cr ds) (D0 ds)))) s1 JA).free LY)
   ·rw [aq (fun z=>by rw [← z,ai] at LY; cases LY),ai]
  ·rintro j σ ys G _ ⟨v,rfl,rfl,_,h,_⟩
   exact h
  ·rintro j ky y σ ys G hx ⟨v,rfl,rfl,s2,hp2,hD⟩
   obtain ⟨r,hkr,rfl,rfl⟩:=kat j ky y hx
   have tk:(cr ds).take (j + 1)=(cr ds).take j ++ [r]:=by rw [take_add_one,hkr]; rfl
   refine ⟨_,rfl,_,rfl,pd,.int (D0 ds r),rfl,.inl ⟨_,Sum.inl (r:Int),.inr ⟨_,hp2⟩,rfl,?_⟩,D0 ds r,rfl,_,rfl,?_⟩
   ·rw [lY hks,if_pos (List.mem_of_getElem? hkr)]
   refine cC (fun e=>?_) (fun e=>?_)
   ·refine ⟨_,rfl,hD,bj ?_,_,rfl,?_,aR s2 ?_,?_,ai⟩
    ·rw [length_map]
     exact le_trans (length_filter_le _ _) (by rw [length_take]; omega)
    ·rw [tk,filter_append,map_append,filter_cons_of_pos (p:=fun r=>!bf (D0 ds r)) e]
     rfl
    ·exact (aR (o:=.iL o (.dK (jn (cr ds) (D0 ds)))) s1 JA).free LY
    ·rw [aq (fun z=>by rw [z,hD] at hp2; cases hp2)]
     exact hp2
   ·refine ⟨_,rfl,?_,s2,hp2,hD⟩
    rw [tk,filter_append,filter_cons_of_neg (p:=fun r=>!bf (D0 ds r)) e]
    simp
  ·rintro σ ys G ⟨v,rfl,rfl,s2,hp2,hD⟩
   have hlk:(jn (cr ds) (D0 ds)).length=(cr ds).length:=by unfold jn eK; rw [length_map,length_map]
   rw [hlk,take_length] at hD
   refine ⟨pd,o,_,hp2,nf,?_⟩
   have s3:Same H (upd G pd (.dK (jn (cr ds) (D0 ds)))):=aR s2 JA
   have hp3:upd G pd (.dK (jn (cr ds) (D0 ds))) pd=_:=ai
   have DL:Dw ≠ pd:=fun z=>by rw [z,hp2] at hD; cases hD
   have vU:upd G pd (.dK (jn (cr ds) (D0 ds))) Dw=some (.lst (((cr ds).filter fun r=>!bf (D0 ds r)).map fun r:Nat=>V.int (r:Int))):=by rw [aq DL]; exact hD
   have nDH:H Dw=none:=(aR (o:=.iL o (.dK (jn (cr ds) (D0 ds)))) s1 JA).free LY
   have LZ:=Gw.start (ds:=ds)
   generalize ((cr ds).filter fun r=>!bf (D0 ds r))=ws at vU LZ
   generalize upd G pd (.dK (jn (cr ds) (D0 ds)))=Ga at s3 hp3 vU ⊢
   refine fun pl DM=>?_
   have HW:H pl=none:=s3.free DM
   have HY:pl ≠ pd:=fun z=>by rw [z,hp3] at DM; cases DM
   have DN:pl ≠ Dw:=fun z=>by rw [z,vU] at DM; cases DM
   have s4:=s3.trans (ae (o:=.dK []) DM)
   have Jp:=ae (o:=.dK []) DM _ _ hp3
   have EX:=ae (o:=.dK []) DM _ _ vU
   have EK:upd Ga pl (.dK []) pl=some (.dK (nD ([]:List Nat))):=ai
   generalize upd Ga pl (.dK [])=Gb at s4 Jp EX EK ⊢
   have hwl:ws.length ≤ ds.length:=jQ LZ.Br fun x hx=>by
    obtain ⟨d,h1,_⟩:=(LZ.far x hx).short
    exact (List.getElem?_eq_some_iff.mp h1).1
   refine ⟨_,rfl,Dw,rfl,⟨_,bh.of EX⟩,hU (K:=K) (a:=Dw) (xs:=ws.map fun r:Nat=>V.int (r:Int)) (fun i σ G=>∃ v:Option V,σ=[some (.ref lr),some (.ref pd),some (.ref Dw),some (.ref pl),v,none]∧Same H G∧G pd=some (.dK (jn (cr ds) (D0 ds)))∧G Dw=some (.lst (ws.map fun r:Nat=>V.int (r:Int)))∧G pl=some (.dK (nD (ws.take i)))) ?_ ?_ ?_ ?_⟩
   ·exact ⟨none,rfl,s4,Jp,EX,EK⟩
   ·rintro i σ G' _ ⟨v,rfl,_,_,h,_⟩
    exact bh.of h
   ·rintro i x σ G' hx ⟨v,rfl,s5,Ey,JB,sM⟩
    rw [List.getElem?_map] at hx
    obtain ⟨r,hr',rfl⟩:=map_eq_some_iff.mp hx
    have hil:=(List.getElem?_eq_some_iff.mp hr').1
    have hni:¬ r ∈ ws.take i:=fun z=>by
     have hnd:=LZ.Br
     rw [← List.take_append_drop i ws] at hnd
     exact (nodup_append.mp hnd).2.2 r z r (List.mem_of_getElem? (i:=0) (by rw [List.getElem?_drop]; exact hr')) rfl
    refine ⟨_,rfl,_,rfl,pl,_,rfl,mQ.k (k:=Sum.inl (r:Int)) sM (by rw [A3,length_take]; exact bj (by omega)),?_⟩
    rw [A2 hni]
    have tk:ws.take (i + 1)=ws.take i ++ [r]:=by rw [take_add_one,hr']; rfl
    refine ⟨_,rfl,aR s5 HW,by rw [aq (Ne.symm HY)]; exact Ey,by rw [aq (Ne.symm DN)]; exact JB,by rw [ai,tk]⟩
   ·rintro σ G' ⟨v,rfl,s5,Ey,JB,sM⟩
    rw [length_map,take_length] at sM
    refine ⟨fun mm σ G=>∃ (D:Nat→Int) (L W P:List Nat) (v4 v5:Option V),σ=[some (.ref lr),some (.ref pd),some (.ref Dw),some (.ref pl),v4,v5]∧Same H G∧G pd=some (.dK (jn (cr ds) D))∧G Dw=some (.lst (W.map fun r:Nat=>V.int (r:Int)))∧G pl=some (.dK (nD L))∧Gw ds D L W P∧mm=ds.length - P.length,⟨_,D0 ds,ws,ws,[],_,_,rfl,s5,Ey,JB,sM,LZ,rfl⟩,?_⟩
    rintro mm σ G2 ⟨D,L,W,P,v4,v5,rfl,s6,hp6,Sl,hl6,gw,rfl⟩
    refine ⟨_,rfl,Dw,_,rfl,.inl (bh.of Sl),_,_,rfl,rfl,_,rfl,?_⟩
    refine cC (fun e=>?_) (fun e=>?_)
    ·have e:=of_decide_eq_true e
     rw [length_map] at e
     obtain ⟨W0,g,rfl⟩:∃ ys x,W=ys ++ [x]:=⟨_,_,(List.dropLast_concat_getLast (fun z=>by rw [z] at e; simp at e)).symm⟩
     have hPl:(g :: P).length ≤ ds.length:=jQ (by have:=(nodup_append.mp (by have:=gw.nd; rw [append_assoc] at this; exact this)).2.1; exact this) fun x hx=>by
      obtain ⟨d,h1,_⟩:=(gw.far x ((gw.lw x).mpr ((mem_cons.mp hx).elim (fun z=>by rw [z]; exact .inr (by simp)) .inl))).short
      exact (List.getElem?_eq_some_iff.mp h1).1
     rw [length_cons] at hPl
     have hgl:g < ds.length:=by
      obtain ⟨d,h1,_⟩:=(gw.far g ((gw.lw g).mpr (.inr (by simp)))).short
      exact (List.getElem?_eq_some_iff.mp h1).1
     refine ⟨fun σ' G'=>∃ (D:Nat→Int) (L W:List Nat) (v4 v5:Option V),σ'=[some (.ref lr),some (.ref pd),some (.ref Dw),some (.ref pl),v4,v5]∧Same H G'∧G' pd=some (.dK (jn (cr ds) D))∧G' Dw=some (.lst (W.map fun r:Nat=>V.int (r:Int)))∧G' pl=some (.dK (nD L))∧Gw ds D L W (g :: P),?_,?_⟩
     ·rintro σ' G' ⟨D,L,W,v4,v5,rfl,a1,a2,a3,a4,a5⟩
      exact ⟨ds.length - (g :: P).length,by rw [length_cons]; omega,D,L,W,g :: P,v4,v5,rfl,a1,a2,a3,a4,a5,rfl⟩
     refine ⟨_,rfl,.inl ⟨rfl,_,bh.of Sl⟩,Dw,_,.int (g:Int),rfl,rfl,Sl,by simp,?_⟩
     have edl:((W0 ++ [g]).map fun r:Nat=>V.int (r:Int)).dropLast=W0.map fun r:Nat=>V.int (r:Int):=by simp
     rw [edl]
     have s7:Same H (upd G2 Dw (.lst (W0.map fun r:Nat=>V.int (r:Int)))):=aR s6 nDH
     have hp7:upd G2 Dw (.lst (W0.map fun r:Nat=>V.int (r:Int))) pd=some (.dK (jn (cr ds) D)):=by rw [aq (Ne.symm DL)]; exact hp6
     have hl7:upd G2 Dw (.lst (W0.map fun r:Nat=>V.int (r:Int))) pl=some (.dK (nD L)):=by rw [aq DN]; exact hl6
     have hD7:upd G2 Dw (.lst (W0.map fun r:Nat=>V.int (r:Int))) Dw=_:=ai
     generalize upd G2 Dw (.lst (W0.map fun r:Nat=>V.int (r:Int)))=G7 at s7 hp7 hl7 hD7 ⊢
     have emax:(if (g:Int) - 64 > 0 then (g:Int) - 64 else 0)=((g - 64:Nat):Int):=by split <;> omega
     have emin:(if (g:Int) + 64 + 1 < ((qs.map V.ref).length:Nat) then (g:Int) + 64 + 1 else ((qs.map V.ref).length:Nat))=((min ds.length (g + 65):Nat):Int):=by rw [length_map,r2]; split <;> omega
     refine ⟨_,rfl,_,_,rfl,rfl,_,_,rfl,_,rfl,lr,_,rfl,.inl (bh.of (s7 _ _ r1)),_,rfl,_,_,rfl,rfl,_,_,rfl,rfl,_,_,rfl,((g - 64:Nat):Int),((min ds.length (g + 65):Nat):Int),by rw [emax,emin],by omega,?_⟩
     refine d9 (lo:=((g - 64:Nat):Int)) (n:=(((min ds.length (g + 65):Nat):Int) - ((g - 64:Nat):Int)).toNat) (fun i σ G'=>∃ (D:Nat→Int) (L W:List Nat) (v4:Option V),σ=[some (.ref lr),some (.ref pd),some (.ref Dw),some (.ref pl),v4,some (.int (g:Int))]∧Same H G'∧G' pd=some (.dK (jn (cr ds) D))∧G' Dw=some (.lst (W.map fun r:Nat=>V.int (r:Int)))∧G' pl=some (.dK (nD L))∧Gi ds D L W P g (min ds.length (g + 65)) (g - 64 + i)) ?_ ?_ ?_
     ·exact ⟨D,L,W0,_,rfl,s7,hp7,hD7,hl7,Gi.start hG hT gw rfl rfl⟩
     ·rintro i σ G8 hi ⟨D,L,W,v4,rfl,s8,hp8,L0,JC,gi⟩
      have er:((g - 64:Nat):Int) + (i:Int)=((g - 64 + i:Nat):Int):=by omega
      rw [er]
      have hiw:g - 64 + i < min ds.length (g + 65):=by omega
      generalize hr0:g - 64 + i=r at gi hiw
      have hLl:L.length ≤ ds.length:=jQ gi.Br fun x hx=>by
       obtain ⟨d,h1,_⟩:=(gi.far x hx).short
       exact (List.getElem?_eq_some_iff.mp h1).1
      have hWl:W.length ≤ ds.length:=jQ (nodup_append.mp gi.nd).1 fun x hx=>by
       obtain ⟨d,h1,_⟩:=(gi.far x ((gi.lw x).mpr (.inr hx))).short
       exact (List.getElem?_eq_some_iff.mp h1).1
      have hd:ds[r]? = some (ds[r]'(by omega)):=List.getElem?_eq_getElem _
      generalize ds[r]'(by omega)=d at hd
      refine ⟨_,rfl,_,rfl,pd,_,rfl,gW.k (k:=Sum.inl (r:Int)) hp8,_,rfl,?_⟩
      rw [lY hks]
      have Qp:g - 64 + (i + 1)=r + 1:=by omega
      have skip:(∀ d',ds[r]? = some d'→aV d'=true→¬ r ∈ L→D r=dst (bA ds (g :: P)) r d'∧bf (D r)=true)→Gi ds D L W P g (min ds.length (g + 65)) (g - 64 + (i + 1)):=fun h=>by rw [Qp]; exact gi.skip h
      by_cases hk':r ∈ cr ds
      ·rw [if_pos hk']
       obtain ⟨d',hd',hs⟩:=gD.mp hk'
       rw [hd] at hd'
       cases hd'
       refine oQ rfl ?_
       refine ⟨_,rfl,_,rfl,pl,_,rfl,gW.k (k:=Sum.inl (r:Int)) JC,_,rfl,?_⟩
       rw [uw]
       by_cases hL:r ∈ L
       ·rw [if_pos hL]
        exact jd (by decide) (jd (by decide) ⟨D,L,W,_,rfl,s8,hp8,L0,JC,skip fun _ _ _ z=>absurd hL z⟩)
       ·rw [if_neg hL]
        refine oQ rfl ?_
        obtain ⟨tn,t9,htl,et⟩:=hT r d hd hs
        refine ⟨_,rfl,_,rfl,_,rfl,lr,ds,r,g,tn,d,rfl,hR.same s8,hd,t9,fun G9 s9=>⟨_,rfl,?_⟩⟩
        have hp9:=s9 _ _ hp8
        have Jx:=s9 _ _ L0
        have hl9:=s9 _ _ JC
        have sA:=s8.trans s9
        refine cC (fun eo=>?_) (fun eo=>?_)
        ·have hx:=gi.over hG hT hiw hd hs hL t9 eo
         refine ⟨_,rfl,_,rfl,pd,.int (D r),rfl,.inl ⟨_,Sum.inl (r:Int),.inl hp9,rfl,by rw [lY hks,if_pos hk']⟩,D r,rfl,_,rfl,_,rfl,pd,_,rfl,mQ.k (k:=Sum.inl (r:Int)) hp9 (by unfold jn eK; rw [length_map,length_map]; exact bj (by omega)),?_⟩
         rw [Dq D hk']
         have sB:Same H (upd G9 pd (.dK (jn (cr ds) fun j=>if j=r then cQ (D r) else D j))):=aR sA JA
         have Qq:upd G9 pd (.dK (jn (cr ds) fun j=>if j=r then cQ (D r) else D j)) pd=_:=ai
         have Sn:upd G9 pd (.dK (jn (cr ds) fun j=>if j=r then cQ (D r) else D j)) Dw=some (.lst (W.map fun r:Nat=>V.int (r:Int))):=by rw [aq DL]; exact Jx
         have Sq:upd G9 pd (.dK (jn (cr ds) fun j=>if j=r then cQ (D r) else D j)) pl=some (.dK (nD L)):=by rw [aq HY]; exact hl9
         generalize upd G9 pd (.dK (jn (cr ds) fun j=>if j=r then cQ (D r) else D j))=GB at sB Qq Sn Sq ⊢
         refine ⟨_,rfl,_,rfl,pd,.int (cQ (D r)),rfl,.inl ⟨_,Sum.inl (r:Int),.inl Qq,rfl,by rw [lY hks,if_pos hk',if_pos rfl]⟩,cQ (D r),rfl,_,rfl,?_⟩
         refine cC (fun eb=>?_) (fun eb=>?_)
         ·have eb:bf (cQ (D r))=false:=by simpa using eb
          refine ⟨_,rfl,_,rfl,pl,_,rfl,mQ.k (k:=Sum.inl (r:Int)) Sq (by rw [A3]; exact bj (by omega)),?_⟩
          rw [A2 hL]
          have hDC:upd GB pl (.dK (nD (L ++ [r]))) Dw=some (.lst (W.map fun r:Nat=>V.int (r:Int))):=by rw [aq (Ne.symm DN)]; exact Sn
          refine ⟨_,rfl,.inl ⟨rfl,_,bh.of hDC⟩,_,rfl,Dw,_,_,rfl,rfl,hDC,bj (by rw [length_map]; omega),?_⟩
          refine ⟨_,L ++ [r],W ++ [r],_,rfl,aR (aR sB HW) nDH,by rw [aq (Ne.symm DL),aq (Ne.symm HY)]; exact Qq,by rw [ai,map_append]; rfl,by rw [aq DN,ai],by rw [Qp]; exact gi.add hd hs hL hx eb⟩
         ·have eb:bf (cQ (D r))=true:=by simpa using eb
          exact ⟨_,L,W,_,rfl,sB,Qq,Sn,Sq,by rw [Qp]; exact gi.keep hd hx eb⟩
        ·have eo:gT r tn g=false:=Bool.eq_false_iff.mpr eo
         refine ⟨D,L,W,_,rfl,sA,hp9,Jx,hl9,?_⟩
         rw [Qp]
         exact gi.pass hT hiw fun d2 t2 h2 _ h4 _=>by
          rw [hd] at h2
          cases h2
          rw [t9] at h4
          have:=List.cons.inj h4
          have e9:t2=tn:=by omega
          rw [e9]
          exact eo
      ·rw [if_neg hk']
       exact jd (by decide) (jd (by decide) ⟨D,L,W,_,rfl,s8,hp8,L0,JC,skip fun d' h1 h2 _=>absurd (gD.mpr ⟨d',h1,h2⟩) hk'⟩)
     ·rintro σ G8 ⟨D,L,W,v4,rfl,s8,hp8,L0,JC,gi⟩
      exact ⟨D,L,W,_,_,rfl,s8,hp8,L0,JC,gi.out (by omega)⟩
    ·have hW:W=[]:=by
      cases W with
      | nil=>rfl
      | cons a b=>exact absurd (decide_eq_true (by rw [length_map,length_cons]; omega)) e
     subst hW
     exact ⟨_,rfl,k pl L _ s6 HW hl6 (gw.done hG) gw.Br⟩
end
section
variable {P:Program} {w:World} {K:Frag} {mg:Str→Option Value} {base:Heap}
def vV:Sp:=fun vs H Q _=>∃ (lr:Addr) (ds:List FR),vs=[.ref lr]∧cW H lr ds∧eB ds∧ds.length ≤ 100000∧∀ (l:Addr) (L:List Nat) (H':Hp),Same H H'→H l=none→cW H' l (bA ds L)→(∀ x,x ∈ L↔qR ds x)→Q (.ref l) H'
theorem EY:aI ["rows", "longer"] ["rows"] (aj jv):=⟨rfl,rfl,rfl,by decide +kernel,rfl,by decide +kernel,by decide +kernel⟩
def DO:Scope:={ kind:=.function,names:=[(".0",.local),("r",.local),("row",.local),("with_far",.globalImplicit),("longer",.free)],isGenerator:=false,isCoroutine:=false,more:=[] }
theorem vW:dI (aj jv) DO ["rows", "longer"] ["r", "row", "longer"] [none,none,some 1]:=⟨rfl,by decide +kernel,by decide +kernel,by decide +kernel,by decide +kernel,by decide +kernel⟩
theorem A8 {f fT fW:Addr} {fd zk fdW:FuncData} (F:dj K "least_layout" "least_layout" jv f fd) (T:Txt K w.params mg) (GT:aL P w K mg base cg 5 fT zk ["rows"] vT) (kT:KI K fT) (bT:Binds K zk ["rows"] []) (mT:mg "jumps_to_lengthen" = some (.ref fT)) (GW:aL P w K mg base cg 2 fW fdW ["row", "far"] Lp) (kW:KI K fW) (bW:Binds K fdW ["row", "far"] []) (mW:mg "with_far" = some (.ref fW)):aL P w K mg base cg 6 f fd ["rows"] vV:=by
 refine F.ok EY (fun vs H Q E h=>?_) (fun cdv A outer s H vs Q E hr h=>?_)
 ·obtain ⟨lr,ds,rfl,_⟩:=h
  rfl
 ·obtain ⟨lr,ds,rfl,hR,hG,hn,k⟩:=h
  have hr2:=hr.mono (show 2 ≤ _ by decide)
  have hu:=hr.u 1
  refine dM (aw (aK (aW (i:=1) EY.nd rfl (Or.inr rfl) (aM GT hr (by rfl) mT kT bT .nil aZ (ah (pv 0) ao))))
   (aU (aK (aN (eE (N':=["r", "row", "longer"]) (fr:=[none,none,some 1]) vW rfl (gH rfl T.enum (ah (pv 0) ao)) (fun C s0 H0 fp=>(gM (K:=K) (i:=0) (j:=1) rfl rfl vW.nd rfl (Or.inl rfl) rfl (Or.inl rfl))) (fun C s0 H0 fp=>iO) (fun C s0 H0 fp=>(eF (qo (tI hu (pv 0) (pv 2))) (aM GW hr2 (by rfl) mW kW bW .nil aZ (ah (pv 1) (ah ak ao))) (pv 1)))))))) ?_
  refine ⟨_,rfl,lr,ds,rfl,hR,hG,hn,fun pl L G1 s1 DM hpl hL _=>?_⟩
  obtain ⟨qs,r1,r2,r3⟩:=hR.same s1
  refine ⟨_,rfl,lr,rfl,⟨_,bh.of r1⟩,?_⟩
  refine fun D nD=>pI (K:=K) (a:=lr) (xs:=qs.map V.ref) (fun i σ ys G=>∃ (v1 v2:Option V) (es:List Addr),σ=[v1,v2,some (.ref pl)]∧ys=es.map V.ref∧es.length=i∧(∀ (j:Nat) q d,es[j]? = some q→ds[j]? = some d→cj G q (if j ∈ L then dk d else d))∧Same G1 G∧G D=some (.lst ys)) ?_ ?_ ?_ ?_
  ·exact ⟨none,none,[],rfl,rfl,rfl,fun j q d h=>by simp at h,ae nD,ai⟩
  ·rintro i σ ys G _ ⟨v1,v2,es,rfl,rfl,_,_,s2,_⟩
   exact bh.of (s2 _ _ r1)
  ·rintro i x σ ys G tt hx kn ⟨v1,v2,es,rfl,rfl,hel,hrow,s2,hD⟩
   rw [List.getElem?_map] at hx
   obtain ⟨q,hq,rfl⟩:=map_eq_some_iff.mp hx
   have hil:=(List.getElem?_eq_some_iff.mp hq).1
   have hd:ds[i]? = some (ds[i]'(by omega)):=List.getElem?_eq_getElem _
   generalize ds[i]'(by omega)=d at hd
   have s3:=s2.trans (ae (o:=.tup [V.int i,V.ref q]) kn)
   have vU:=ae (o:=.tup [V.int i,V.ref q]) kn _ _ hD
   have Sr:∀ (j:Nat) q d,es[j]? = some q→ds[j]? = some d→cj (upd G tt (.tup [V.int i,V.ref q])) q (if j ∈ L then dk d else d):=fun j q d g1 g2=>(hrow j q d g1 g2).same (ae kn)
   have htt:upd G tt (.tup [V.int i,V.ref q]) tt=_:=ai
   have EZ:∀ (j:Nat) q' d,es[j]? = some q'→ds[j]? = some d→cj (upd G tt (.tup [V.int i,V.ref q])) q' (if j ∈ L then dk d else d):=fun j q' d g1 g2=>(hrow j q' d g1 g2).same (ae kn)
   clear Sr
   generalize upd G tt (.tup [V.int i,V.ref q])=G3 at s3 vU htt EZ ⊢
   have hfin:∀ (p':Addr) (G4:Hp),Same G3 G4→cj G4 p' (if i ∈ L then dk d else d)→∃ (v1 v2:Option V) (es':List Addr),([some (V.int (i:Int)),some (V.ref q),some (V.ref pl)]:St)=[v1,v2,some (.ref pl)]∧es.map V.ref ++ [V.ref p']=es'.map V.ref∧es'.length=i + 1∧(∀ (j:Nat) q d,es'[j]? = some q→ds[j]? = some d→cj (upd G4 D (.lst (es.map V.ref ++ [V.ref p']))) q (if j ∈ L then dk d else d))∧Same G1 (upd G4 D (.lst (es.map V.ref ++ [V.ref p'])))∧upd G4 D (.lst (es.map V.ref ++ [V.ref p'])) D=some (.lst (es.map V.ref ++ [V.ref p'])):=fun p' G4 s4 hp'=>by
    refine ⟨_,_,es ++ [p'],rfl,by rw [map_append]; rfl,by rw [length_append,hel]; rfl,fun j q' d' g1 g2=>?_,aR (s3.trans s4) nD,ai⟩
    by_cases hj:j < es.length
    ·rw [List.getElem?_append_left hj] at g1
     exact ((EZ j q' d' g1 g2).same s4).put (s4 _ _ vU)
    ·have h9:=(List.getElem?_eq_some_iff.mp g1).1
     rw [length_append,length_singleton] at h9
     have ej:j=es.length:=by omega
     subst ej
     rw [show (es ++ [p'])[es.length]? = some p' by simp] at g1
     cases g1
     rw [hel] at g2 ⊢
     rw [hd] at g2
     cases g2
     exact hp'.put (s4 _ _ vU)
   refine ⟨tt,_,rfl,bq.of htt,rfl,_,_,rfl,_,_,rfl,rfl,?_⟩
   refine ⟨_,rfl,_,rfl,pl,_,rfl,gW.k (k:=Sum.inl (i:Int)) (s3 _ _ hpl),_,rfl,?_⟩
   rw [uw]
   by_cases hiL:i ∈ L
   ·rw [if_pos hiL]
    rw [if_pos hiL] at hfin
    refine oQ rfl ?_
    exact ⟨_,rfl,q,d,rfl,(r3 i q d hq hd).same s3,fun p' G4 s4 hp'=>⟨s4 _ _ vU,bj (by rw [length_map]; omega),hfin p' G4 s4 hp'⟩⟩
   ·rw [if_neg hiL]
    rw [if_neg hiL] at hfin
    refine jd (by decide) ?_
    exact ⟨_,rfl,vU,bj (by rw [length_map]; omega),hfin q G3 (.refl _) ((r3 i q d hq hd).same s3)⟩
  ·rintro σ ys G ⟨v1,v2,es,rfl,rfl,hel,hrow,s2,hD⟩
   rw [length_map,r2] at hel
   refine k D L _ (s1.trans s2) (s1.free nD) ⟨es,hD,by rw [bM]; exact hel,fun j q d g1 g2=>?_⟩ hL
   have hjl:=(List.getElem?_eq_some_iff.mp g1).1
   have hd:ds[j]? = some (ds[j]'(by omega)):=List.getElem?_eq_getElem _
   have:=hrow j q _ g1 hd
   rw [dF hd] at g2
   cases g2
   exact this
end
theorem mh (K:Frag) (H:Hp) (ms:List Int):∀ (i:Nat) x d,(ms.map V.int)[i]? = some x→(ms.map Da.int)[i]? = some d→dU K H x d:=fun i x d h1 h2=>by
 rw [List.getElem?_map] at h1 h2
 obtain ⟨j,hj,rfl⟩:=map_eq_some_iff.mp h1
 rw [hj] at h2
 cases h2
 exact .int _
def sJ (d:FR):Da:=if d.u = "table" then .tup [.str d.u,.int (d.is.headD 0),.tup (d.ts.map Da.int)] else .tup (.str d.u :: d.is.map Da.int)
theorem vX (K:Frag) {H:Hp} {q:Addr} {d:FR} (h:cj H q d):dU K H (.ref q) (sJ d):=by
 unfold sJ
 rcases h.2 with ⟨a,b,p,e,h1,h2⟩ | ⟨a,h1⟩
 ·rw [if_pos a,e]
  refine .tup (bq.of h1) rfl fun i x d' g1 g2=>?_
  match i,g1,g2 with
  | 0,g1,g2=>cases g1; cases g2; exact .str _
  | 1,g1,g2=>cases g1; cases g2; exact .int _
  | 2,g1,g2=>cases g1; cases g2; exact .tup (bq.of h2) (by simp) (mh K H _)
 ·rw [if_neg a]
  refine .tup (bq.of h1) (by simp) fun i x d' g1 g2=>?_
  cases i with
  | zero=>simp at g1 g2; subst g1; subst g2; exact .str _
  | succ i=>exact mh K H d.is i x d' (by simpa using g1) (by simpa using g2)
theorem A9 (ms:List Int):(Da.tup (ms.map Da.int)).Nb 1:=.tup fun d hd=>by
 obtain ⟨j,_,rfl⟩:=mem_map.mp hd
 exact .int
theorem Ba (d:FR):(sJ d).Nb 2:=by
 unfold sJ
 split
 ·refine .tup fun x hx=>?_
  rcases mem_cons.mp hx with rfl | hx
  ·exact .str
  rcases mem_cons.mp hx with rfl | hx
  ·exact .int
  rw [mem_singleton.mp hx]
  exact A9 _
 ·refine .tup fun x hx=>?_
  rcases mem_cons.mp hx with rfl | hx
  ·exact .str
  obtain ⟨j,_,rfl⟩:=mem_map.mp hx
  exact .int
def xI (ds:List FR) (r:Nat):Bool:=match ds[r]? with
 | some d=>!fV ds r d
 | none=>false
theorem vY (ds:List FR) (r:Nat):xI ds r=(jw ds r).any fun x=>!bf x.2:=by
 unfold xI jw
 cases ds[r]? with
 | none=>rfl
 | some d =>
  show (!fV ds r d)=_
  unfold fV
  cases h:aV d <;> simp [h]
theorem qX (ds:List FR):gN ds=(List.range ds.length).find? (xI ds):=by
 unfold gN lh
 rw [List.find?_filterMap]
 have e:(fun a=>(jw ds a).any fun x=>!bf x.2)=xI ds:=funext fun r=>(vY ds r).symm
 rw [e]
 cases h:(List.range ds.length).find? (xI ds) with
 | none=>rfl
 | some r =>
  have hb:=List.find?_some h
  rw [vY] at hb
  show ((jw ds r).map (·.1))=some r
  unfold jw at hb ⊢
  cases h2:ds[r]? with
  | none=>rw [h2] at hb; cases hb
  | some d =>
   rw [h2] at hb
   show Option.map _ (if aV d=true then some (r,dst ds r d) else none)=some r
   by_cases h3:aV d=true
   ·rw [if_pos h3]; rfl
   ·have hb:(if aV d=true then some (r,dst ds r d) else none).any (fun x=>!bf x.2)=true:=hb
    rw [if_neg h3] at hb
    cases hb
theorem L1 {X:Cx}:Passes (tS X.prog X.w) X E0:=fun _ _ _ _ _ _ _ ⟨_,_,_,_,_,_,_,_,_,_,_,_,_,_,_,h⟩=>h.elim
theorem uD {ds:List FR} {L:List Nat} (hL:∀ x,x ∈ L↔qR ds x) (r:Nat) (d':FR) (hd':(bA ds L)[r]? = some d') (hs:aV d'=true):bf (dst (bA ds L) r d')=true:=by
 have hl:=(List.getElem?_eq_some_iff.mp hd').1
 rw [bM] at hl
 have hd:ds[r]? = some ds[r]:=List.getElem?_eq_getElem hl
 generalize ds[r]=d at hd
 rw [dF hd] at hd'
 by_cases hr:r ∈ L
 ·rw [if_pos hr] at hd'
  cases hd'
  obtain ⟨d0,e1,e2⟩:=((hL r).mp hr).short
  rw [hd] at e1
  cases e1
  have h1:=iH (dP e2).1
  rw [(dP hs).2] at h1
  cases h1
 ·rw [if_neg hr] at hd'
  cases hd'
  cases hb:bf (dst (bA ds L) r d') with
  | true=>rfl
  | false=>exact absurd ((hL r).mpr (.mk L (fun x hx=>(hL x).mp hx) hd hs hb)) hr
theorem uE {ds:List FR} {L:List Nat} (hL:∀ x,x ∈ L↔qR ds x):gN (bA ds L)=none:=by
 rw [qX,find?_eq_none]
 intro r _
 unfold xI
 cases hd:(bA ds L)[r]? with
 | none=>simp
 | some d =>
  have:fV (bA ds L) r d=true:=by
   unfold fV
   cases hs:aV d with
   | false=>rfl
   | true=>rw [uD hL r d hd hs]; rfl
  simp [this]
theorem L3 {p:Str→Bool}:∀ {ks:List Str} {is:List Int},is.length=ks.length→((ks.zip is).filter fun x=>p x.1).length=(ks.filter p).length
 | [],[],_=>rfl
 | [],_ :: _,h=>by simp at h
 | _ :: _,[],h=>by simp at h
 | k :: ks,i :: is,h=>by
  have ih:=L3 (p:=p) (ks:=ks) (is:=is) (by simpa using h)
  rw [zip_cons_cons]
  by_cases e:p k=true
  ·rw [filter_cons_of_pos (by simpa using e),filter_cons_of_pos e,length_cons,length_cons,ih]
  ·rw [filter_cons_of_neg (by simpa using e),filter_cons_of_neg e,ih]
theorem uF {ds:List FR} {r:Nat} {d:FR} {n:Int} (hok:d.Ok) (hg:GoodR d n):(((kI ds r d).length:Nat):Int)=tW d:=by
 unfold tW kI jA
 rw [length_cons]
 by_cases ht:d.u = "table"
 ·rw [if_pos ht,if_pos ht,length_cons,length_map]
  omega
 ·rw [if_neg ht,if_neg ht]
  by_cases h5:d.u ∈ five
  ·rw [if_pos h5,if_pos h5]
   obtain ⟨t,t9⟩:∃ t,d.ts=[t]:=by
    rcases (by decide +kernel:∀ u ∈ five,u ∈ eI∨u ∈ zb) _ h5 with z | z
    ·obtain ⟨tt,ff,e1,e2⟩:=hok.2.2.1 z
     exact ⟨tt,e2⟩
    ·obtain ⟨bb,tt,ff,e1,e2⟩:=hok.2.2.2.1 z
     exact ⟨tt,e2⟩
   rcases hg.2.2.1 h5 with zf | zf
   ·rw [if_neg (by omega),zf]; rfl
   ·rw [if_pos zf,zf,t9]; rfl
  ·rw [if_neg h5,if_neg h5]
   have nj:¬ d.u ∈ eI:=fun z=>h5 ((by decide +kernel:∀ u ∈ eI,u ∈ five) _ z)
   have nz:¬ d.u ∈ zb:=fun z=>h5 ((by decide +kernel:∀ u ∈ zb,u ∈ five) _ z)
   obtain ⟨_,har⟩:=hok.2.2.2.2.1 ht nj nz
   unfold xG
   rw [length_map,L3 (p:=fun k=>decide (k ∈ yV)) har,(by decide +kernel:∀ u ∈ d8,¬ u = "table" → ¬ u ∈ five→((dn u).filter fun k=>decide (k ∈ yV)).length=if u ∈ six then 1 else 0) _ hok.1 ht h5]
   by_cases h6:d.u ∈ six
   ·rw [if_pos h6,if_pos h6]; rfl
   ·rw [if_neg h6,if_neg h6]; rfl
theorem oA {ds:List FR} (ok:∀ d ∈ ds,d.Ok) (A:eB ds):∀ n,n ≤ ds.length→(((dm ds n).length:Nat):Int)=beg ds n
 | 0,_=>rfl
 | n + 1,h=>by
  have hd:ds[n]? = some ds[n]:=List.getElem?_eq_getElem (by omega)
  have ih:=oA ok A n (by omega)
  have hl:=uF (ds:=ds) (r:=n) (ok _ (List.getElem_mem (by omega:n < ds.length))) (A _ (List.getElem_mem (by omega:n < ds.length)))
  rw [iK hd,length_append,gA hd]
  push_cast
  omega
def vZ (d:FR):List Da:=if d.u = "table" then [.str d.u,.int (d.is.headD 0),.tup (d.ts.map Da.int)] else .str d.u :: d.is.map Da.int
theorem qY (d:FR):sJ d=.tup (vZ d):=by
 unfold sJ vZ
 split <;> rfl
theorem DP {H:Hp} {q:Addr} {d:FR} (h:cj H q d):(vZ (dk d)).dropLast=(vZ d).dropLast:=by
 by_cases hu:d.u ∈ five
 ·have nt:=jP hu
  have eS:dk d=⟨d.u,d.is.dropLast ++ [1],d.ts⟩:=by unfold dk; rw [if_pos hu]
  unfold vZ
  rw [kx,if_neg nt,if_neg nt,eS]
  have hne:d.is ≠ []:=by
   rcases (by decide +kernel:∀ u ∈ five,u ∈ eI∨u ∈ zb) _ hu with z | z
   ·obtain ⟨tt,ff,e1,e2⟩:=h.1.2.2.1 z
    rw [e1]; simp
   ·obtain ⟨bb,tt,ff,e1,e2⟩:=h.1.2.2.2.1 z
    rw [e1]; simp
  show (Da.str d.u :: (d.is.dropLast ++ [1]).map Da.int).dropLast=(Da.str d.u :: d.is.map Da.int).dropLast
  rw [List.dropLast_cons_of_ne_nil (by simp),List.dropLast_cons_of_ne_nil (by simpa using hne),← List.map_dropLast,← List.map_dropLast,List.dropLast_concat]
 ·unfold dk
  rw [if_neg hu]
theorem Bb {d:FR} (h:aV d=true):sJ (dk d) ≠ sJ d:=fun e=>by
 obtain ⟨hu,hf⟩:=dP h
 have nt:=jP hu
 rw [qY,qY] at e
 have e:=Da.tup.inj e
 unfold vZ at e
 rw [kx,if_neg nt,if_neg nt] at e
 have e:=(List.cons.inj e).2
 have e:(dk d).is=d.is:=(List.map_inj_right (fun _ _ h=>Da.int.inj h)).mp e
 have h1:=iH hu
 unfold fQ at h1 hf
 rw [e,hf] at h1
 cases h1
theorem mj {K:Frag} {H:Hp} {q:Addr} {d:FR} (h:cj H q d):∃ xs:List V,H q=some (.tup xs)∧xs.length=(vZ d).length∧1 ≤ xs.length∧∀ (i:Nat) x e,xs[i]? = some x→(vZ d)[i]? = some e→dU K H x e:=by
 unfold vZ
 rcases h.2 with ⟨a,b,p,e,h1,h2⟩ | ⟨a,h1⟩
 ·rw [if_pos a,e]
  refine ⟨_,h1,rfl,by simp,fun i x d' g1 g2=>?_⟩
  match i,g1,g2 with
  | 0,g1,g2=>cases g1; cases g2; exact .str _
  | 1,g1,g2=>cases g1; cases g2; exact .int _
  | 2,g1,g2=>cases g1; cases g2; exact .tup (bq.of h2) (by simp) (mh K H _)
 ·rw [if_neg a]
  refine ⟨_,h1,by simp,by simp,fun i x d' g1 g2=>?_⟩
  cases i with
  | zero=>simp at g1 g2; subst g1; subst g2; exact .str _
  | succ i=>exact mh K H d.is i x d' (by simpa using g1) (by simpa using g2)
theorem Bc (xs:List V) (h:1 ≤ xs.length):jb xs none (some (-1))=xs.dropLast∧¬ (HT.dN xs.length 0 none=0∧HT.dN xs.length xs.length (some (-1))=xs.length):=by
 have h1:HT.dN xs.length 0 none=0:=rfl
 have h2:HT.dN xs.length xs.length (some (-1))=xs.length - 1:=by
  unfold HT.dN
  simp
  try omega
 unfold jb
 rw [h1,h2]
 refine ⟨?_,by omega⟩
 rw [List.drop_zero,Nat.sub_zero,List.dropLast_eq_take]
theorem Bd (d:FR):(Da.tup (vZ d).dropLast).Nb 2:=.tup fun x hx=>by
 have h:=Ba d
 rw [qY] at h
 cases h with
 | tup h=>exact h x ((List.dropLast_sublist _).subset hx)
theorem HZ (l:List Nat):lI l=(l.map fun x:Nat=>(x:Int)).map V.int:=by unfold lI; rw [map_map]; rfl
def DQ (l:List Nat):Da:=.lst (l.map fun x:Nat=>Da.int (x:Int))
theorem Be {H:Hp} {q:Addr} {l:List Nat} (h:H q=some (.lst (lI l))):HD H (.ref q) (DQ l):=by
 refine .lst h (by unfold lI; simp) fun i x d g1 g2=>?_
 unfold lI at g1
 rw [List.getElem?_map] at g1 g2
 obtain ⟨j,hj,rfl⟩:=map_eq_some_iff.mp g1
 rw [hj] at g2
 cases g2
 exact .int _
theorem v8 (l:List Nat):(DQ l).Nb 1:=.lst fun d hd=>by
 obtain ⟨j,_,rfl⟩:=mem_map.mp hd
 exact .int
theorem jT.hds {G:Hp}:∀ {fs:List Addr} {Ls:List (List Nat)},jT G fs Ls→Bq G (fs.map V.ref) (Ls.map DQ)
 | [],[],_=>.nil
 | [],_ :: _,h=>by have:=h.1; simp at this
 | _ :: _,[],h=>by have:=h.1; simp at this
 | f :: fs,L :: Ls,h=>.cons (Be (h.2 0 f L rfl rfl)) (jT.hds (fs:=fs) (Ls:=Ls) ⟨by simpa using h.1,fun i q M a b=>h.2 (i + 1) q M (by simpa using a) (by simpa using b)⟩)
theorem xJ {ds:List FR} {L:List Nat} (h:∀ d,ds.getLast? = some d→d.u ∈ dw):∀ d,(bA ds L).getLast? = some d→d.u ∈ dw:=fun d hd=>by
 rw [List.getLast?_eq_getElem?,bM] at hd
 have hl:=(List.getElem?_eq_some_iff.mp hd).1
 rw [bM] at hl
 have h0:ds[ds.length - 1]? = some ds[ds.length - 1]:=List.getElem?_eq_getElem hl
 rw [dF h0] at hd
 have h1:=h ds[ds.length - 1] (by rw [List.getLast?_eq_getElem?]; exact h0)
 split at hd
 ·cases hd
  rw [kx]
  exact h1
 ·cases hd
  exact h1
section
variable {P:Program} {w:World} {K:Frag} {mg:Str→Option Value} {base:Heap}
def L4:Sp:=fun vs H Q _=>∃ (lr:Addr) (c:Int) (ds:List FR),vs=[.ref lr,.int c]∧cW H lr ds∧eB ds∧(∀ d,ds.getLast? = some d→d.u ∈ dw)∧1 ≤ ds.length∧ds.length ≤ 500∧∀ H',Same H H'→Q (.bl true) H'
theorem Bf:aI ["_law_rows", "_law_cell", "_law_layouts_here", "_law_told", "_law_long", "_law_other"] ["_law_rows", "_law_cell"] (aj dZ):=⟨rfl,rfl,rfl,by decide +kernel,rfl,by decide +kernel,by decide +kernel⟩
def Ia:Scope:={ kind:=.function,names:=[(".0",.local),("_law_k",.local),("_law_rows",.free),("_law_told",.free)],isGenerator:=false,isCoroutine:=false,more:=[] }
theorem Bg:dI (aj dZ) Ia ["_law_rows", "_law_cell", "_law_layouts_here", "_law_told", "_law_long", "_law_other"] ["_law_k", "_law_told", "_law_rows"] [none,some 3,some 0]:=⟨rfl,by decide +kernel,by decide +kernel,by decide +kernel,by decide +kernel,by decide +kernel⟩
def Ib:Scope:={ kind:=.function,names:=[(".0",.local),("_law_k",.local),("_law_rows",.free),("_law_told",.free)],isGenerator:=false,isCoroutine:=false,more:=[] }
theorem Bh:dI (aj dZ) Ib ["_law_rows", "_law_cell", "_law_layouts_here", "_law_told", "_law_long", "_law_other"] ["_law_k", "_law_told", "_law_rows"] [none,some 3,some 0]:=⟨rfl,by decide +kernel,by decide +kernel,by decide +kernel,by decide +kernel,by decide +kernel⟩
def Ic:Scope:={ kind:=.function,names:=[(".0",.local),("_law_k",.local),("_law_other",.free)],isGenerator:=false,isCoroutine:=false,more:=[] }
theorem Bi:dI (aj dZ) Ic ["_law_rows", "_law_cell", "_law_layouts_here", "_law_told", "_law_long", "_law_other"] ["_law_k", "_law_other"] [none,some 5]:=⟨rfl,by decide +kernel,by decide +kernel,by decide +kernel,by decide +kernel,by decide +kernel⟩
def Ie:Scope:={ kind:=.function,names:=[(".0",.local),("_law_row_here",.local),("_law_size",.globalImplicit)],isGenerator:=false,isCoroutine:=false,more:=[] }
theorem Bj:dI (aj dZ) Ie ["_law_rows", "_law_cell", "_law_layouts_here", "_law_told", "_law_long", "_law_other"] ["_law_row_here"] [none]:=⟨rfl,by decide +kernel,by decide +kernel,by decide +kernel,by decide +kernel,by decide +kernel⟩
theorem L5 {f fY fL fS fR fU vp:Addr} {fd fdY Ew rZ Eu fdU:FuncData} (F:dj K "_law_right" "_law_right" dZ f fd) (T:Txt K w.params mg) (GY:aL P w K mg base cg 3 fY fdY ["_law_rows"] Lw) (kY:KI K fY) (bY:Binds K fdY ["_law_rows"] []) (mY:mg "_law_layouts" = some (.ref fY)) (GL:aL P w K mg base cg 6 fL Ew ["rows"] vV) (kL:KI K fL) (bL:Binds K Ew ["rows"] []) (mL:mg "least_layout" = some (.ref fL)) (GS:aL P w K mg base cg 1 fS rZ ["_law_row_here"] qQ) (kS:KI K fS) (bS:Binds K rZ ["_law_row_here"] []) (mS:mg "_law_size" = some (.ref fS)) (GR:aL P w K mg base cg 4 fR Eu ["_law_rows", "_law_cell"] LC) (kR:KI K fR) (bR:Binds K Eu ["_law_rows", "_law_cell"] []) (mR:mg "_law_run" = some (.ref fR)) (GU:aL P w K mg base (tS P w) 6 fU fdU ["rows"] (vS vp)) (kU:KI K fU) (bU:Binds K fdU ["rows"] []) (mU:mg "units_of" = some (.ref fU)):aL P w K mg base cg 7 f fd ["_law_rows", "_law_cell"] L4:=by
 refine F.ok Bf (fun vs H Q E h=>?_) (fun cdv A outer s H vs Q E hr h=>?_)
 ·obtain ⟨lr,c,ds,rfl,_⟩:=h
  rfl
 ·obtain ⟨lr,c,ds,rfl,hR,hA,qh,h1,hn,k⟩:=h
  have hr4:=hr.mono (show 4 ≤ _ by decide)
  have Ss:=hr.mono (show 3 ≤ _ by decide)
  have hr1:=hr.mono (show 1 ≤ _ by decide)
  have hu0:=hr.u 6
  have Jz:=hr.u 4
  have L6:(A.deeper (PyProof.Rows.envOfC "_law_right" (aj dZ) s.heap.objs.size f cdv)).units < cLine:=Nat.lt_of_succ_lt (dv hr)
  refine dM (aw (aK (aW (i:=2) Bf.nd rfl (Or.inl rfl) (aM GY Ss (by rfl) mY kY bY .nil aZ (ah (pv 0) ao))))
   (aw (di (aS sT (pv 2) jW (bz _)) (aU (aK (aN jf))) (cw aX))
   (aw (aK (aW (i:=3) Bf.nd rfl (Or.inr rfl) (aM GL hr (by rfl) mL kL bL .nil aZ (ah (pv 0) ao))))
   (aw (aK (uV (i:=4) (N':=["_law_k", "_law_told", "_law_rows"]) (fr:=[none,some 3,some 0]) Bf.nd rfl rfl Bg rfl (dQ rfl T.range (ah (bu aY (by rfl) T.len cT (ah (pv 0) ao)) ao)) (fun C s0 H0 fp=>(cu (i:=0) Bg.nd rfl (Or.inl rfl))) (fun C s0 H0 fp=>(iP (aS (r:=FX K true) (yC hu0) (aJ (r:=rG K) aT (pv 1) (pv 0) (fun _ _=>rfl)) (aJ (r:=rG K) aT (pv 2) (pv 0) (fun _ _=>rfl)) (bz _)))) (fun C s0 H0 fp=>(pv 0))))
   (aw (di (JI (aS (wR hu0) (pv 4) (pv 2) rfl) (Fk (aS xY (bu aY (by rfl) T.len cT (ah (pv 3) ao)) (bu aY (by rfl) T.len cT (ah (pv 0) ao)) (bz _)))).pt (aU (aK (aN jf))) (cw aX))
   (aw (di (aS (yr L6) (eE (N':=["_law_k", "_law_told", "_law_rows"]) (fr:=[none,some 3,some 0]) Bh rfl (dQ rfl T.range (ah (bu aY (by rfl) T.len cT (ah (pv 0) ao)) ao)) (fun C s0 H0 fp=>(cu (i:=0) Bh.nd rfl (Or.inl rfl))) (fun C s0 H0 fp=>(iP (aS (r:=FX K true) (yC hu0) (eG (r:=FC K) jo (aJ (r:=rG K) aT (pv 1) (pv 0) (fun _ _=>rfl)) fh (fj (dX dg ak))) (eG (r:=FC K) jo (aJ (r:=rG K) aT (pv 2) (pv 0) (fun _ _=>rfl)) fh (fj (dX dg ak))) (bz _)))) (fun C s0 H0 fp=>(pv 0))) (ck ao) (bz _)) (aU (aK (aN jf))) (cw aX))
   (aw (aK (df PassesOwn.never rfl (eC (pv 2)) (cu (i:=5) Bf.nd rfl (Or.inr rfl)) (au (cV (aS (yr L6) (eE (N':=["_law_k", "_law_other"]) (fr:=[none,some 5]) Bi rfl (eC (pv 4)) (fun C s0 H0 fp=>(cu (i:=0) Bi.nd rfl (Or.inl rfl))) (fun C s0 H0 fp=>(iP (aS (r:=P1 K true) qz (pv 0) (pv 1) rfl))) (fun C s0 H0 fp=>(pv 0))) (ck ao) (bz _)) (au (aN jf)) aX))))
   (aw (di (aS xY (bu aY (by rfl) T.len cT (ah (aM GU hr (by rfl) mU kU bU .nil L1 (ah (pv 3) ao)) ao)) (bu (yI rfl) (by rfl) T.sum Gr (ah (eE (N':=["_law_row_here"]) (fr:=[none]) Bj rfl (eC (pv 3)) (fun C s0 H0 fp=>(cu (i:=0) Bj.nd rfl (Or.inl rfl))) (fun C s0 H0 fp=>iO) (fun C s0 H0 fp=>(aM GS hr1 (by rfl) mS kS bS .nil aZ (ah (pv 0) ao)))) ao)) (bz _)) (aU (aK (aN jf))) (cw aX))
   (aU (aK (aN (jE (Gn Jz) (aM GR hr4 (by rfl) mR kR bR .nil aZ (ah (pv 3) (ah (pv 1) ao))) (aM GR hr4 (by rfl) mR kR bR .nil aZ (ah (pv 0) (ah (pv 1) ao))) (bz _))))))))))))) ?_
  refine ⟨_,rfl,lr,ds,rfl,hR,hA,hn,(fun _ H1 s1=>⟨_,rfl,rfl,_,rfl,yn (k _ s1)⟩),fun h6 ly fs H1 s1 hly hLs=>?_⟩
  refine ⟨_,rfl,rfl,_,rfl,oK ?_⟩
  refine ⟨_,rfl,lr,ds,rfl,hR.same s1,hA,by omega,fun lt L H2 s2 nlt hT hL=>?_⟩
  have t2:=s1.trans s2
  have vk:=hR.same t2
  have Sv:=s2 _ _ hly
  have Sw:=hLs.same s2
  clear hly hLs
  obtain ⟨qs,r1,r2,r3⟩:=id vk
  obtain ⟨es,x1,x2,x3⟩:=id hT
  rw [bM] at x2
  have ln:((qs.map V.ref).length:Int).toNat=ds.length:=by rw [Int.toNat_natCast,length_map,r2]
  refine ⟨_,rfl,lr,_,rfl,.inl (bh.of r1),_,rfl,by omega,by rw [length_map]; omega,fun D nD=>nu (n:=((qs.map V.ref).length:Int).toNat) (fun i σ ys G=>∃ v:Option V,σ=[v,some (.ref lt),some (.ref lr)]∧ys=lI ((jl ds i).filter fun x=>decide (x ∈ L))∧Same H2 G∧G D=some (.lst ys)) ?_ ?_ ?_⟩
  ·exact ⟨none,rfl,rfl,ae nD,ai⟩
  ·rintro i σ ys G hi ⟨v,rfl,rfl,s3,hD⟩
   rw [ln] at hi
   have e0:(0:Int) + (i:Int)=(i:Int):=by omega
   rw [e0]
   have hd:ds[i]? = some ds[i]:=List.getElem?_eq_getElem hi
   generalize ds[i]=d at hd
   have hq:qs[i]? = some (qs[i]'(by omega)):=List.getElem?_eq_getElem _
   generalize qs[i]'(by omega)=q at hq
   have he:es[i]? = some (es[i]'(by omega)):=List.getElem?_eq_getElem _
   generalize es[i]'(by omega)=e at he
   have hrow:=(r3 i q d hq hd).same s3
   have v9:=(x3 i e _ he (dF hd)).same s3
   have hlen:((jl ds i).filter fun x=>decide (x ∈ L)).length ≤ i:=le_trans (length_filter_le _ _) (Au ds i)
   refine ⟨_,rfl,_,rfl,lt,_,_,.ref e,rfl,rfl,bh.of (s3 _ _ x1),cL (by rw [List.getElem?_map,he]; rfl),_,rfl,_,rfl,lr,_,_,.ref q,rfl,rfl,bh.of (s3 _ _ r1),cL (by rw [List.getElem?_map,hq]; rfl),2,e,q,_,_,rfl,rfl,vX K v9,vX K hrow,Ba _,Ba _,by decide,_,rfl,?_⟩
   rw [qS hd,filter_append]
   by_cases hm:i ∈ L
   ·obtain ⟨d0,e1,hs⟩:=((hL i).mp hm).short
    rw [hd] at e1
    cases e1
    rw [if_pos hm,if_pos hs]
    refine oQ (by rw [decide_eq_false (Bb hs)]; rfl) ?_
    refine ⟨_,rfl,hD,bj (by rw [fK]; omega),_,rfl,?_,aR s3 nD,ai⟩
    rw [ou,filter_cons_of_pos (by simpa using hm)]
    rfl
   ·rw [if_neg hm]
    refine jd (by simp) ?_
    refine ⟨_,rfl,?_,s3,hD⟩
    have:(if aV d=true then [i] else []).filter (fun x=>decide (x ∈ L))=[]:=by
     split
     ·rw [filter_cons_of_neg (by simpa using hm)]; rfl
     ·rfl
    rw [this,append_nil]
  rintro σ ys H3 ⟨v,rfl,rfl,s3,hD⟩
  rw [ln] at hD
  have hD:H3 D=some (.lst (lI (sE ds L))):=hD
  have P5:=hT.same s3
  have Ig:=s3 _ _ Sv
  have Ih:=Sw.same s3
  have t3:=t2.trans s3
  refine ⟨_,rfl,_,rfl,D,ly,_,DQ (sE ds L),_,1,rfl,rfl,Ig,Be hD,Ih.hds,(fun x hx=>by obtain ⟨a,_,rfl⟩:=mem_map.mp hx; exact ⟨a,rfl⟩),v8 _,(fun e he=>by obtain ⟨M,_,rfl⟩:=mem_map.mp he; exact v8 M),by decide,_,rfl,?_⟩
  rw [decide_eq_true (mem_map.mpr ⟨_,Du hL,rfl⟩)]
  refine oK ?_
  refine ⟨_,rfl,lt,_,rfl,.inl (bh.of (s3 _ _ x1)),_,rfl,lr,_,rfl,.inl (bh.of (s3 _ _ r1)),rfl,_,rfl,?_⟩
  refine jd (by rw [length_map,length_map,x2,r2]; simp) ?_
  refine ⟨_,rfl,lr,_,rfl,.inl (bh.of (s3 _ _ r1)),_,rfl,by omega,by rw [length_map]; omega,fun D2 nD2=>nu (n:=((qs.map V.ref).length:Int).toNat) (fun i σ ys G=>∃ v:Option V,σ=[v,some (.ref lt),some (.ref lr)]∧ys=[]∧Same H3 G∧G D2=some (.lst [])) ?_ ?_ ?_⟩
  ·exact ⟨none,rfl,rfl,ae nD2,ai⟩
  ·rintro i σ ys G hi ⟨v,rfl,rfl,s4,hD2⟩
   rw [ln] at hi
   have e0:(0:Int) + (i:Int)=(i:Int):=by omega
   rw [e0]
   have hd:ds[i]? = some ds[i]:=List.getElem?_eq_getElem hi
   generalize ds[i]=d at hd
   have hq:qs[i]? = some (qs[i]'(by omega)):=List.getElem?_eq_getElem _
   generalize qs[i]'(by omega)=q at hq
   have he:es[i]? = some (es[i]'(by omega)):=List.getElem?_eq_getElem _
   generalize es[i]'(by omega)=e at he
   have Qr:=s3.trans s4
   have hrow:=(r3 i q d hq hd).same Qr
   have v9:=(x3 i e _ he (dF hd)).same Qr
   have heq:(vZ (if i ∈ L then dk d else d)).dropLast=(vZ d).dropLast:=by
    split
    ·exact DP hrow
    ·rfl
   obtain ⟨xa,a1,a2,a3,_⟩:=mj (K:=K) v9
   obtain ⟨xb,b1,b2,b3,_⟩:=mj (K:=K) hrow
   obtain ⟨ca,na⟩:=Bc xa a3
   obtain ⟨cb,nb⟩:=Bc xb b3
   refine ⟨_,rfl,_,rfl,lt,_,_,.ref e,rfl,rfl,bh.of (Qr _ _ x1),cL (by rw [List.getElem?_map,he]; rfl),1,rfl,-1,rfl,e,xa,rfl,bq.of a1,na,fun ta Dp=>?_⟩
   have ca':jb xa none (some (-1))=xa.dropLast:=ca
   rw [ca']
   have s5:=ae (o:=.tup xa.dropLast) Dp
   have hta:upd G ta (.tup xa.dropLast) ta=_:=ai
   generalize upd G ta (.tup xa.dropLast)=G1 at s5 hta ⊢
   refine ⟨_,rfl,_,rfl,lr,_,_,.ref q,rfl,rfl,bh.of (s5 _ _ (Qr _ _ r1)),cL (by rw [List.getElem?_map,hq]; rfl),1,rfl,-1,rfl,q,xb,rfl,bq.of (s5 _ _ b1),nb,fun tb vJ=>?_⟩
   have cb':jb xb none (some (-1))=xb.dropLast:=cb
   rw [cb']
   have s6:=s5.trans (ae (o:=.tup xb.dropLast) vJ)
   have htb:upd G1 tb (.tup xb.dropLast) tb=_:=ai
   have L7:=ae (o:=.tup xb.dropLast) vJ _ _ hta
   generalize upd G1 tb (.tup xb.dropLast)=G2 at s6 htb L7 ⊢
   obtain ⟨ya,p1,_,_,p4⟩:=mj (K:=K) (v9.same s6)
   obtain ⟨yb,p5,_,_,p8⟩:=mj (K:=K) (hrow.same s6)
   rw [s6 _ _ a1] at p1
   rw [s6 _ _ b1] at p5
   have ea:xa=ya:=HO.tup.inj (Option.some.inj p1)
   have eb:xb=yb:=HO.tup.inj (Option.some.inj p5)
   subst ea eb
   have Fb:∀ {xs:List V} {ms:List Da},xs.length=ms.length→(∀ (i:Nat) x e,xs[i]? = some x→ms[i]? = some e→dU K G2 x e)→∀ (i:Nat) x e,xs.dropLast[i]? = some x→ms.dropLast[i]? = some e→dU K G2 x e:=fun {xs ms} _ h i x e u1 u2=>by
    rw [List.getElem?_dropLast] at u1 u2
    split at u1
    ·split at u2
     ·exact h i x e u1 u2
     ·cases u2
    ·cases u1
   refine ⟨2,ta,tb,.tup (vZ (if i ∈ L then dk d else d)).dropLast,.tup (vZ d).dropLast,rfl,rfl,.tup (bq.of L7) (by rw [length_dropLast,length_dropLast,a2]) (Fb a2 p4),.tup (bq.of htb) (by rw [length_dropLast,length_dropLast,b2]) (Fb b2 p8),Bd _,Bd _,by decide,_,rfl,?_⟩
   rw [heq]
   refine jd (by simp) ?_
   exact ⟨_,rfl,rfl,s4.trans s6,s6 _ _ hD2⟩
  rintro σ ys H4 ⟨v,rfl,rfl,s4,hD2⟩
  refine ⟨le_of_ble_eq_true rfl,fun le ne=>?_⟩
  have s5:=s4.trans (ae (o:=.lst []) ne)
  refine ⟨D2,le,[],[],rfl,rfl,bh.of (yU ne hD2),bh.of ai,(fun i a b h=>by simp at h),_,rfl,oK ?_⟩
  generalize upd H4 le (.lst [])=H5 at s5 ⊢
  have t5:=t3.trans s5
  have s35:=s3.trans s5
  have JB:=s5 _ _ hD
  have L8:=s5 _ _ Ig
  have Ii:=Ih.same s5
  have hT5:=P5.same s5
  have Jv:=vk.same s35
  clear hD2 ne s4 Ig Ih P5 hD
  refine ⟨_,rfl,ly,rfl,⟨_,bh.of L8⟩,hU (K:=K) (a:=ly) (xs:=fs.map V.ref) (fun i σ G=>∃ v5:Option V,σ=[some (.ref lr),some (.int c),some (.ref ly),some (.ref lt),some (.ref D),v5]∧Same H5 G) ?_ ?_ ?_ ?_⟩
  ·exact ⟨none,rfl,.refl _⟩
  ·rintro i σ G _ ⟨v5,rfl,s6⟩
   exact bh.of (s6 _ _ L8)
  ·rintro i x σ G hx ⟨v5,rfl,s6⟩
   rw [List.getElem?_map] at hx
   obtain ⟨q,hq,rfl⟩:=map_eq_some_iff.mp hx
   have hil:=(List.getElem?_eq_some_iff.mp hq).1
   have hM:(iJ ds (jl ds ds.length) (2 ^ (jl ds ds.length).length))[i]? = some ((iJ ds (jl ds ds.length) (2 ^ (jl ds ds.length).length))[i]'(by rw [← Ii.1]; exact hil)):=List.getElem?_eq_getElem _
   generalize (iJ ds (jl ds ds.length) (2 ^ (jl ds ds.length).length))[i]'(by rw [← Ii.1]; exact hil)=M at hM
   have hqM:=Ii.2 i q M hq hM
   have hsub:=Ay hA hL (List.mem_of_getElem? hM)
   refine ⟨_,rfl,D,rfl,⟨_,bh.of (s6 _ _ JB)⟩,fun D3 nD3=>gj (K:=K) (a:=D) (xs:=lI (sE ds L)) (fun j σ ys G2=>∃ v:Option V,σ=[v,some (.ref q)]∧ys=[]∧Same G G2∧G2 D3=some (.lst [])) ?_ ?_ ?_ ?_⟩
   ·exact ⟨none,rfl,rfl,ae nD3,ai⟩
   ·rintro j σ ys G2 _ ⟨v,rfl,rfl,s7,_⟩
    exact bh.of (s7 _ _ (s6 _ _ JB))
   ·rintro j x σ ys G2 hx ⟨v,rfl,rfl,s7,vU⟩
    unfold lI at hx
    rw [List.getElem?_map] at hx
    obtain ⟨kk,hk,rfl⟩:=map_eq_some_iff.mp hx
    have hin:=hsub kk (List.mem_of_getElem? hk)
    have Ma:=s7 _ _ (s6 _ _ hqM)
    rw [HZ] at Ma
    refine ⟨_,rfl,_,rfl,q,_,rfl,.inl (bh.of Ma),rfl,wW _,_,rfl,?_⟩
    rw [show inV (.int (kk:Int)) ((M.map fun x:Nat=>(x:Int)).map V.int)=decide ((kk:Int) ∈ M.map fun x:Nat=>(x:Int)) from vi _ _,decide_eq_true (mem_map.mpr ⟨kk,hin,rfl⟩)]
    refine oK ?_
    exact ⟨_,rfl,rfl,s7,vU⟩
   ·rintro σ ys G2 ⟨v,rfl,rfl,s7,vU⟩
    refine ⟨le_of_ble_eq_true rfl,fun le ne=>?_⟩
    refine ⟨D3,le,[],[],rfl,rfl,bh.of (yU ne vU),bh.of ai,(fun i a b h=>by simp at h),_,rfl,oK ?_⟩
    exact ⟨_,rfl,s6.trans (s7.trans (ae ne))⟩
  rintro σ H6 ⟨v5,rfl,s6⟩
  have t6:=t5.trans s6
  have hT6:=hT5.same s6
  have Lz:=Jv.same s6
  have Jw:=kA hA L
  refine ⟨_,rfl,lt,bA ds L,rfl,hT6,Jw.tg,(fun d hd=>(Jw d hd).2.2.1),by rw [bM]; omega,(fun _ lu H7 s7 Jy hlu=>?_),fun r e=>by rw [uE hL] at e; cases e⟩
  have hT7:=hT6.same s7
  obtain ⟨gs,y1,y2,y3⟩:=id hT7
  rw [bM] at y2
  refine ⟨lu,_,rfl,.inl (bh.of hlu),?_⟩
  refine ⟨_,rfl,lt,rfl,⟨_,bh.of y1⟩,fun D4 nD4=>gj (K:=K) (a:=lt) (xs:=gs.map V.ref) (fun j σ ys G2=>∃ v:Option V,σ=[v]∧ys=(((bA ds L).take j).map tW).map V.int∧Same H7 G2∧G2 D4=some (.lst ys)) ?_ ?_ ?_ ?_⟩
  ·exact ⟨none,rfl,rfl,ae nD4,ai⟩
  ·rintro j σ ys G2 _ ⟨v,rfl,rfl,s8,_⟩
   exact bh.of (s8 _ _ y1)
  ·rintro j x σ ys G2 hx ⟨v,rfl,rfl,s8,EX⟩
   rw [List.getElem?_map] at hx
   obtain ⟨q,hq,rfl⟩:=map_eq_some_iff.mp hx
   have uv:=(List.getElem?_eq_some_iff.mp hq).1
   have hd:(bA ds L)[j]? = some ((bA ds L)[j]'(by rw [bM]; omega)):=List.getElem?_eq_getElem _
   generalize (bA ds L)[j]'(by rw [bM]; omega)=d at hd
   refine ⟨_,rfl,q,d,rfl,(y3 j q d hq hd).same s8,fun G3 s9=>⟨s9 _ _ EX,bj (by rw [length_map,length_map,length_take]; omega),_,rfl,?_,aR (s8.trans s9) nD4,ai⟩⟩
   rw [take_succ,hd,map_append,map_append]
   rfl
  rintro σ ys H8 ⟨v,rfl,rfl,s8,EX⟩
  have etk:(bA ds L).take (gs.map V.ref).length=bA ds L:=take_of_length_le (by rw [length_map,y2,bM]; exact le_refl _)
  rw [etk] at EX
  refine ⟨D4,_,rfl,bh.of EX,rfl,_,rfl,?_⟩
  have hok:∀ d ∈ bA ds L,d.Ok:=fun d hd=>by
   obtain ⟨j,hj,e⟩:=List.getElem_of_mem hd
   have hj2:j < gs.length:=by rw [y2]; rw [bM] at hj; exact hj
   exact (y3 j _ d (List.getElem?_eq_getElem hj2) (by rw [List.getElem?_eq_getElem hj,e])).1
  have hsum:(((((dm (bA ds L) (bA ds L).length).map V.int).length:Nat)):Int)=((bA ds L).map tW).sum:=by
   rw [length_map,oA hok Jw _ (le_refl _)]
   unfold beg
   rw [take_length]
  rw [hsum]
  refine jd (by simp) ?_
  have t8:=t6.trans (s7.trans s8)
  have hT8:=hT7.same s8
  have hR8:=Lz.same (s7.trans s8)
  refine ⟨_,rfl,_,rfl,lt,c,bA ds L,rfl,hT8,Jw,xJ qh,by rw [bM]; exact h1,by rw [bM]; exact hn,fun v1 G1 u1 R1=>?_⟩
  refine ⟨_,rfl,_,rfl,lr,c,ds,rfl,hR8.same u1,hA,qh,h1,hn,fun v2 G2 u2 R2=>?_⟩
  have eL:∀ i,jz cJ (bA ds L) (z0 (oG c) oU) i=jz cJ ds (z0 (oG c) oU) i:=sH hR hA qh h1
  have eM:(List.range 40).map (jz cJ (bA ds L) (z0 (oG c) oU))=(List.range 40).map (jz cJ ds (z0 (oG c) oU)):=List.map_congr_left fun i _=>eL i
  rw [eM,eL] at R1
  have ok:=vN (ring:=cJ) (bs:=oG c) (cf:=oU) hR hA qh h1
  obtain ⟨p,q,xs,ys,g1,g2,g3,g4,g5,g6⟩:=(R1.same u2).eq R2 (ok 40).2.1 (fun y hy=>by obtain ⟨i,_,rfl⟩:=mem_map.mp hy; exact (ok i).2.1)
  exact ⟨p,q,xs,ys,g1,g2,g3,g4,g5,g6,k _ (t8.trans (u1.trans u2))⟩
end
section
variable {P:Program} {w:World} {K:Frag} {mg:Str→Option Value} {base:Heap}
def Mb:Sp:=fun vs H Q _=>∃ (lx:Addr) (ms:List Int),vs=[.ref lx]∧H lx=some (.lst (ms.map V.int))∧ms.length=20∧∀ (l:Addr) (ds:List FR) (H':Hp),Same H H'→H l=none→cW H' l ds→(∀ d ∈ ds,GoodR d ds.length)→(∀ d,ds.getLast? = some d→d.u ∈ dw)→1 ≤ ds.length→ds.length ≤ 500→Q (.ref l) H'
theorem uG:aI ["_law_xs", "_law_many", "_law_first", "_law_rows", "_law_k", "_law_y"] ["_law_xs"] (aj eW):=⟨rfl,rfl,rfl,by decide +kernel,rfl,by decide +kernel,by decide +kernel⟩
def Ij:Scope:={ kind:=.function,names:=[(".0",.local),("_law_row_here",.local),("_law_led",.globalImplicit),("_law_first",.free)],isGenerator:=false,isCoroutine:=false,more:=[] }
theorem Bk:dI (aj eW) Ij ["_law_xs", "_law_many", "_law_first", "_law_rows", "_law_k", "_law_y"] ["_law_row_here", "_law_first"] [none,some 2]:=⟨rfl,by decide +kernel,by decide +kernel,by decide +kernel,by decide +kernel,by decide +kernel⟩
theorem Md {f fE:Addr} {fd vz:FuncData} (F:dj K "_law_crossed" "_law_crossed" eW f fd) (T:Txt K w.params mg) (GE:aL P w K mg base cg 1 fE vz ["_law_row_here", "_law_first"] zy) (kE:KI K fE) (bE:Binds K vz ["_law_row_here", "_law_first"] []) (mE:mg "_law_led" = some (.ref fE)):aL P w K mg base cg 2 f fd ["_law_xs"] Mb:=by
 refine F.ok uG (fun vs H Q E h=>?_) (fun cdv A outer s H vs Q E hr h=>?_)
 ·obtain ⟨lx,ms,rfl,_⟩:=h
  rfl
 ·obtain ⟨lx,ms,rfl,hx,hms,k⟩:=h
  have rd:∀ j:Nat,j < ms.length→∃ x,kZ (ms.map V.int) (j:Int)=some (.int x):=fun j hj=>by
   obtain ⟨x,_,e⟩:=gB ms (j:Int) (by omega) (by omega)
   exact ⟨x,e⟩
  refine dM (aw (aK (aW (i:=1) uG.nd rfl (Or.inl rfl) (aG cm ak (aG bV (aJ aT (pv 0) ak (fun _ _=>rfl)) ak))))
   (aw (aK (aW (i:=2) uG.nd rfl (Or.inr rfl) (ck ao)))
   (aw (aK (aW (i:=3) uG.nd rfl (Or.inl rfl) (ck ao)))
   (aw (aK (df PassesOwn.never rfl (dQ rfl T.range (ah (pv 1) ao)) (cu (i:=4) uG.nd rfl (Or.inl rfl)) (aD (bQ (dR PySem.F.plainAttrs_list PySem.F.slot_list_append PySem.F.type_list_append bZ (pv 2) (ah (bu aY (by rfl) T.len cT (ah (pv 3) ao)) ao)))
   (aD (bQ (dR PySem.F.plainAttrs_list PySem.F.slot_list_append PySem.F.type_list_append bZ (pv 3) (ah (bt (ah az (ah (aG bV (pv 4) ak) (ah (aG bV (aG cm (pv 4) (aG cy (aJ aT (pv 0) (pv 4) (fun _ _=>rfl)) ak)) (pv 1)) (ah (cK pj (by rfl) T.int yR (ah (jE d7 (aG bV (aJ aT (pv 0) (pv 4) (fun _ _=>rfl)) ak) ak (bz _)) ao)) ao))))) ao)))
   (aD (aW (i:=5) uG.nd rfl (Or.inl rfl) (aJ aT (pv 0) (aG cm (pv 1) (pv 4)) (fun _ _=>rfl)))
   (au (aW (i:=3) uG.nd rfl (Or.inl rfl) (aG j4 (aG j4 (pv 3) (aG qA (ck (ah (bt (ah az (ah ak (ah (pv 4) ao)))) ao)) (aG bV (pv 5) ak))) (aG qA (ck (ah (bt (ah az (ah ak ao))) ao)) (aG bV (aG cy (pv 5) ak) ak))))))))))
   (aw (aK (bQ (dR PySem.F.plainAttrs_list PySem.F.slot_list_append PySem.F.type_list_append bZ (pv 3) (ah (bt (ah az ao)) ao))))
   (aU (aK (aN (eE (N':=["_law_row_here", "_law_first"]) (fr:=[none,some 2]) Bk rfl (eC (pv 3)) (fun C s0 H0 fp=>(cu (i:=0) Bk.nd rfl (Or.inl rfl))) (fun C s0 H0 fp=>iO) (fun C s0 H0 fp=>(aM GE hr (by rfl) mE kE bE .nil aZ (ah (pv 0) (ah (pv 1) ao))))))))))))) ?_
  obtain ⟨x0,hx0⟩:=rd 0 (by omega)
  refine ⟨_,rfl,lx,_,_,_,rfl,rfl,bh.of hx,hx0,_,_,rfl,rfl,Rz,_,_,rfl,rfl,?_⟩
  obtain ⟨n,hn⟩:∃ n:Nat,(n:Int)=2 + x0 % 5:=⟨(2 + x0 % 5).toNat,by omega⟩
  rw [show (fun i j:Int=>V.int (i + j)) 2 (x0 % 5)=V.int (n:Int) by show V.int (2 + x0 % 5)=_; rw [hn]]
  have hn1:2 ≤ n∧n ≤ 6:=by omega
  have hn0:(0:Int) < (n:Int):=by omega
  refine ⟨le_of_ble_eq_true rfl,fun lf zB=>?_⟩
  have s0:=ae (o:=.lst []) zB
  have h0:upd H lf (.lst []) lf=some (.lst (([]:List Int).map V.int)):=ai
  generalize upd H lf (.lst [])=G0 at s0 h0 ⊢
  refine ⟨le_of_ble_eq_true rfl,fun xl zC=>?_⟩
  have s1:=s0.trans (ae (o:=.lst []) zC)
  have h01:=ae (o:=.lst []) zC _ _ h0
  have h1:upd G0 xl (.lst []) xl=some (.lst (([]:List Addr).map V.ref)):=ai
  have hne0:xl ≠ lf:=fun z=>by rw [z,h0] at zC; cases zC
  have Hd:H xl=none:=s0.free zC
  generalize upd G0 xl (.lst [])=G1 at s1 h01 h1 ⊢
  refine ⟨_,rfl,_,rfl,by omega,by omega,?_⟩
  refine d9 (lo:=0) (n:=((n:Nat):Int).toNat) (fun i σ G=>∃ (la:Addr) (qs:List Addr) (fs:List Int) (v4 v5:Option V),σ=[some (.ref lx),some (.int (n:Int)),some (.ref lf),some (.ref la),v4,v5]∧Same H G∧H la=none∧la ≠ lf∧G lf=some (.lst (fs.map V.int))∧G la=some (.lst (qs.map V.ref))∧fs.length=i∧(∀ x ∈ fs,0 ≤ x∧x < (qs.length:Nat))∧cZ G qs n∧qs.length ≤ 40 * i) ?_ ?_ ?_
  ·exact ⟨xl,[],[],none,none,rfl,s1,Hd,hne0,h01,h1,rfl,(fun x hx=>(not_mem_nil hx).elim),(fun q hq=>(not_mem_nil hq).elim),zero_le _⟩
  ·rintro i σ G hi ⟨la,qs,fs,v4,v5,rfl,s3,uf,hne,cI,hla,hfl,hfs,hG,hql⟩
   have e0:(0:Int) + (i:Int)=(i:Int):=by omega
   rw [e0]
   have hin:i < n:=by rw [Int.toNat_natCast] at hi; exact hi
   obtain ⟨xk,hxk⟩:=rd i (by omega)
   obtain ⟨y,hy⟩:=rd (n + i) (by omega)
   have hy':kZ (ms.map V.int) ((n:Int) + (i:Int))=some (.int y):=by rw [← hy]; congr 1
   refine ⟨_,rfl,.inl ⟨rfl,_,bh.of cI⟩,_,rfl,la,_,rfl,.inl (bh.of hla),lf,_,_,rfl,rfl,cI,bj (by rw [length_map]; omega),?_⟩
   have eL:fs.map V.int ++ [V.int ((qs.map V.ref).length:Nat)]=(fs ++ [(qs.length:Int)]).map V.int:=by rw [map_append,length_map]; rfl
   rw [eL]
   replace s3:Same H (upd G lf (.lst ((fs ++ [(qs.length:Int)]).map V.int))):=aR s3 zB
   replace hG:cZ (upd G lf (.lst ((fs ++ [(qs.length:Int)]).map V.int))) qs n:=hG.put cI
   replace hla:upd G lf (.lst ((fs ++ [(qs.length:Int)]).map V.int)) la=some (.lst (qs.map V.ref)):=by rw [aq hne]; exact hla
   replace cI:upd G lf (.lst ((fs ++ [(qs.length:Int)]).map V.int)) lf=_:=ai
   generalize upd G lf (.lst ((fs ++ [(qs.length:Int)]).map V.int))=G4 at s3 hG hla cI ⊢
   refine ⟨_,rfl,.inl ⟨rfl,_,bh.of hla⟩,_,rfl,_,_,rfl,rfl,B8,_,rfl,_,rfl,_,rfl,lx,_,_,_,rfl,rfl,bh.of (s3 _ _ hx),hxk,_,_,rfl,rfl,⟨by show (0:Int) < 8; decide,by show (8:Int) < _; decide⟩,_,_,rfl,rfl,_,rfl,_,_,rfl,rfl,hn0,?_⟩
   refine ⟨_,rfl,_,rfl,lx,_,_,_,rfl,rfl,bh.of (s3 _ _ hx),hxk,_,_,rfl,rfl,B8,rfl,.inr ⟨_,rfl,?_⟩⟩
   obtain ⟨fr,hfr⟩:∃ fr:Int,fr=(if decide (V.int (xk % 8)=V.int 7)=true then 1 else 0):=⟨_,rfl⟩
   have Sx:fr=0∨fr=1:=by rw [hfr]; split <;> simp
   rw [← hfr]
   refine ⟨rW,fun p np=>?_⟩
   replace s3:=s3.trans (ae (o:=.tup [V.str "zero",V.int ((i:Int) % 8),V.int (((i:Int) + xk / 8) % n),V.int fr]) np)
   have zp:upd G4 p (.tup [V.str "zero",V.int ((i:Int) % 8),V.int (((i:Int) + xk / 8) % n),V.int fr]) p=_:=ai
   replace hla:=ae (o:=.tup [V.str "zero",V.int ((i:Int) % 8),V.int (((i:Int) + xk / 8) % n),V.int fr]) np _ _ hla
   replace cI:=ae (o:=.tup [V.str "zero",V.int ((i:Int) % 8),V.int (((i:Int) + xk / 8) % n),V.int fr]) np _ _ cI
   replace hG:=hG.same (ae (o:=.tup [V.str "zero",V.int ((i:Int) % 8),V.int (((i:Int) + xk / 8) % n),V.int fr]) np)
   generalize upd G4 p (.tup [V.str "zero",V.int ((i:Int) % 8),V.int (((i:Int) + xk / 8) % n),V.int fr])=G5 at s3 zp hla cI hG ⊢
   have Qe:=fe ((i:Int) + xk / 8) hn0
   have hp:cj G5 p ⟨"zero",[(i:Int) % 8,((i:Int) + xk / 8) % n,fr],[((i:Int) + xk / 8) % n]⟩:=nY (by decide) zp
   have hg:GoodR ⟨"zero",[(i:Int) % 8,((i:Int) + xk / 8) % n,fr],[((i:Int) + xk / 8) % n]⟩ n:=⟨(by show 1 ≤ 16; decide),(fun t ht=>by rw [mem_singleton.mp ht]; exact Qe),fun _=>Sx,ud (k1 := "box") (k2 := "target") (k3 := "far") rfl ⟨show 0 ≤ (i:Int) % 8 by omega,show (i:Int) % 8 ≤ 7 by omega⟩ ⟨Qe.1,show _ ≤ 1000000000 by omega⟩ ⟨show 0 ≤ fr by omega,show fr ≤ 1 by omega⟩⟩
   refine ⟨la,_,_,rfl,rfl,hla,bj (by rw [length_map]; omega),?_⟩
   have eQ:qs.map V.ref ++ [V.ref p]=(qs ++ [p]).map V.ref:=by rw [map_append]; rfl
   rw [eQ]
   have Ex:cZ G5 (qs ++ [p]) n:=hG.app fun x hx'=>by rw [mem_singleton.mp hx']; exact ⟨_,hp,hg⟩
   clear hG
   have hG:cZ (upd G5 la (.lst ((qs ++ [p]).map V.ref))) (qs ++ [p]) n:=Ex.put hla
   replace s3:Same H (upd G5 la (.lst ((qs ++ [p]).map V.ref))):=aR s3 uf
   replace cI:upd G5 la (.lst ((qs ++ [p]).map V.ref)) lf=some (.lst ((fs ++ [(qs.length:Int)]).map V.int)):=by rw [aq (Ne.symm hne)]; exact cI
   replace hla:upd G5 la (.lst ((qs ++ [p]).map V.ref)) la=_:=ai
   generalize upd G5 la (.lst ((qs ++ [p]).map V.ref))=G6 at s3 hG hla cI ⊢
   have ug:∀ x ∈ fs ++ [(qs.length:Int)],0 ≤ x∧x < ((qs ++ [p]).length:Nat):=fun x hx'=>by
    rw [length_append,length_singleton]
    rcases mem_append.mp hx' with z | z
    ·have:=hfs x z
     omega
    ·rw [mem_singleton.mp z]
     omega
   have RJ:(qs ++ [p]).length=qs.length + 1:=by simp
   have hfl':(fs ++ [(qs.length:Int)]).length=i + 1:=by simp [hfl]
   clear Ex hp hg zp
   have m34:=fe y (show (0:Int) < 34 by decide)
   have m3:=fe (y / 34) (show (0:Int) < 3 by decide)
   refine ⟨_,rfl,_,rfl,_,rfl,_,_,rfl,rfl,lx,_,_,_,rfl,rfl,bh.of (s3 _ _ hx),hy',?_⟩
   refine ⟨_,rfl,_,rfl,gk,fun t1 sm=>?_⟩
   replace s3:=s3.trans (ae (o:=.tup [V.str "set",V.int 1,V.int (i:Int)]) sm)
   have Jr:upd G6 t1 (.tup [V.str "set",V.int 1,V.int (i:Int)]) t1=_:=ai
   replace hla:=ae (o:=.tup [V.str "set",V.int 1,V.int (i:Int)]) sm _ _ hla
   replace cI:=ae (o:=.tup [V.str "set",V.int 1,V.int (i:Int)]) sm _ _ cI
   replace hG:=hG.same (ae (o:=.tup [V.str "set",V.int 1,V.int (i:Int)]) sm)
   generalize upd G6 t1 (.tup [V.str "set",V.int 1,V.int (i:Int)])=G7 at s3 Jr hla cI hG ⊢
   have r1:cj G7 t1 ⟨"set",[1,(i:Int)],[]⟩:=jM (by decide) Jr
   refine ⟨fc,fun l1 xm=>?_⟩
   replace r1:=r1.same (ae (o:=.lst [V.ref t1]) xm)
   replace s3:=s3.trans (ae (o:=.lst [V.ref t1]) xm)
   have Cv:upd G7 l1 (.lst [V.ref t1]) l1=_:=ai
   replace hla:=ae (o:=.lst [V.ref t1]) xm _ _ hla
   replace cI:=ae (o:=.lst [V.ref t1]) xm _ _ cI
   replace hG:=hG.same (ae (o:=.lst [V.ref t1]) xm)
   generalize upd G7 l1 (.lst [V.ref t1])=G8 at r1 s3 Cv hla cI hG ⊢
   refine ⟨_,rfl,_,_,rfl,rfl,Kx,l1,_,_,rfl,rfl,Cv,(by show -(2 ^ 63) ≤ y % 34; omega),(by show y % 34 < 2 ^ 63; omega),dD (by rw [length_singleton]; omega),fun l3 zD=>?_⟩
   rw [lV]
   replace r1:=r1.same (ae (o:=.lst ((replicate (y % 34).toNat t1).map V.ref)) zD)
   replace s3:=s3.trans (ae (o:=.lst ((replicate (y % 34).toNat t1).map V.ref)) zD)
   have Js:upd G8 l3 (.lst ((replicate (y % 34).toNat t1).map V.ref)) l3=_:=ai
   replace hla:=ae (o:=.lst ((replicate (y % 34).toNat t1).map V.ref)) zD _ _ hla
   replace cI:=ae (o:=.lst ((replicate (y % 34).toNat t1).map V.ref)) zD _ _ cI
   replace hG:=hG.same (ae (o:=.lst ((replicate (y % 34).toNat t1).map V.ref)) zD)
   generalize upd G8 l3 (.lst ((replicate (y % 34).toNat t1).map V.ref))=G9 at r1 s3 Js hla cI hG ⊢
   refine ⟨la,l3,_,_,rfl,rfl,hla,Js,dD (by rw [length_map,length_map,length_replicate]; omega),fun l4 He=>?_⟩
   have e4:(qs ++ [p]).map V.ref ++ (replicate (y % 34).toNat t1).map V.ref=((qs ++ [p]) ++ replicate (y % 34).toNat t1).map V.ref:=by simp only [map_append,append_assoc]
   rw [e4]
   replace hG:=hG.app (cZ.one r1 (GoodR.plain (by decide) (ie (k1 := "box") (k2 := "value") rfl ⟨show (0:Int) ≤ 1 by decide,show (1:Int) ≤ 7 by decide⟩ ⟨show -1000000000 ≤ (i:Int) by omega,show (i:Int) ≤ 1000000000 by omega⟩)) (y % 34).toNat)
   clear r1 Js Cv Jr
   replace s3:=s3.trans (ae (o:=.lst (((qs ++ [p]) ++ replicate (y % 34).toNat t1).map V.ref)) He)
   have n9:upd G9 l4 (.lst (((qs ++ [p]) ++ replicate (y % 34).toNat t1).map V.ref)) l4=_:=ai
   replace cI:=ae (o:=.lst (((qs ++ [p]) ++ replicate (y % 34).toNat t1).map V.ref)) He _ _ cI
   replace hG:=hG.same (ae (o:=.lst (((qs ++ [p]) ++ replicate (y % 34).toNat t1).map V.ref)) He)
   generalize upd G9 l4 (.lst (((qs ++ [p]) ++ replicate (y % 34).toNat t1).map V.ref))=Ga at s3 n9 cI hG ⊢
   refine ⟨cB,fun t2 oF=>?_⟩
   replace s3:=s3.trans (ae (o:=.tup [V.str "tell",V.int 2]) oF)
   have KO:upd Ga t2 (.tup [V.str "tell",V.int 2]) t2=_:=ai
   replace cI:=ae (o:=.tup [V.str "tell",V.int 2]) oF _ _ cI
   replace n9:=ae (o:=.tup [V.str "tell",V.int 2]) oF _ _ n9
   replace hG:=hG.same (ae (o:=.tup [V.str "tell",V.int 2]) oF)
   generalize upd Ga t2 (.tup [V.str "tell",V.int 2])=Gb at s3 KO cI n9 hG ⊢
   have r2:cj Gb t2 ⟨"tell",[2],[]⟩:=jN (by decide) KO
   refine ⟨fc,fun l5 zE=>?_⟩
   replace r2:=r2.same (ae (o:=.lst [V.ref t2]) zE)
   replace s3:=s3.trans (ae (o:=.lst [V.ref t2]) zE)
   have KP:upd Gb l5 (.lst [V.ref t2]) l5=_:=ai
   replace cI:=ae (o:=.lst [V.ref t2]) zE _ _ cI
   replace n9:=ae (o:=.lst [V.ref t2]) zE _ _ n9
   replace hG:=hG.same (ae (o:=.lst [V.ref t2]) zE)
   generalize upd Gb l5 (.lst [V.ref t2])=Gc at r2 s3 KP cI n9 hG ⊢
   refine ⟨_,rfl,_,_,rfl,rfl,⟨by show (0:Int) < 34; decide,by show (34:Int) < _; decide⟩,_,_,rfl,rfl,B7,l5,_,_,rfl,rfl,KP,(by show -(2 ^ 63) ≤ y / 34 % 3; omega),(by show y / 34 % 3 < 2 ^ 63; omega),dD (by rw [length_singleton]; omega),fun l6 zF=>?_⟩
   rw [lV]
   replace r2:=r2.same (ae (o:=.lst ((replicate (y / 34 % 3).toNat t2).map V.ref)) zF)
   replace s3:=s3.trans (ae (o:=.lst ((replicate (y / 34 % 3).toNat t2).map V.ref)) zF)
   have KQ:upd Gc l6 (.lst ((replicate (y / 34 % 3).toNat t2).map V.ref)) l6=_:=ai
   replace cI:=ae (o:=.lst ((replicate (y / 34 % 3).toNat t2).map V.ref)) zF _ _ cI
   replace n9:=ae (o:=.lst ((replicate (y / 34 % 3).toNat t2).map V.ref)) zF _ _ n9
   replace hG:=hG.same (ae (o:=.lst ((replicate (y / 34 % 3).toNat t2).map V.ref)) zF)
   generalize upd Gc l6 (.lst ((replicate (y / 34 % 3).toNat t2).map V.ref))=Gd at r2 s3 KQ cI n9 hG ⊢
   refine ⟨l4,l6,_,_,rfl,rfl,n9,KQ,dD (by rw [length_map,length_map,length_replicate,length_append,length_replicate]; omega),fun l7 xr=>?_⟩
   have e7:((qs ++ [p]) ++ replicate (y % 34).toNat t1).map V.ref ++ (replicate (y / 34 % 3).toNat t2).map V.ref=((qs ++ [p]) ++ replicate (y % 34).toNat t1 ++ replicate (y / 34 % 3).toNat t2).map V.ref:=by simp only [map_append,append_assoc]
   rw [e7]
   replace hG:=hG.app (cZ.one r2 (GoodR.plain (by decide) (jx (k1 := "box") (r:=[]) rfl ⟨show (0:Int) ≤ 2 by decide,show (2:Int) ≤ 7 by decide⟩)) (y / 34 % 3).toNat)
   clear r2
   have n7:H l7=none:=s3.free xr
   have RL:l7 ≠ lf:=fun z=>by rw [z,cI] at xr; cases xr
   replace s3:=s3.trans (ae (o:=.lst (((qs ++ [p]) ++ replicate (y % 34).toNat t1 ++ replicate (y / 34 % 3).toNat t2).map V.ref)) xr)
   have KR:upd Gd l7 (.lst (((qs ++ [p]) ++ replicate (y % 34).toNat t1 ++ replicate (y / 34 % 3).toNat t2).map V.ref)) l7=_:=ai
   replace cI:=ae (o:=.lst (((qs ++ [p]) ++ replicate (y % 34).toNat t1 ++ replicate (y / 34 % 3).toNat t2).map V.ref)) xr _ _ cI
   replace hG:=hG.same (ae (o:=.lst (((qs ++ [p]) ++ replicate (y % 34).toNat t1 ++ replicate (y / 34 % 3).toNat t2).map V.ref)) xr)
   generalize upd Gd l7 (.lst (((qs ++ [p]) ++ replicate (y % 34).toNat t1 ++ replicate (y / 34 % 3).toNat t2).map V.ref))=Ge at s3 KR cI hG ⊢
   refine ⟨l7,_,fs ++ [(qs.length:Int)],_,_,rfl,s3,n7,RL,cI,KR,hfl',fun x hx'=>?_,hG,?_⟩
   ·have:=ug x hx'
    rw [length_append,length_append,length_replicate,length_replicate]
    omega
   ·rw [length_append,length_append,length_replicate,length_replicate]
    omega
  rintro σ G ⟨la,qs,fs,v4,v5,rfl,s2,uf,hne,cI,hla,hfl,hfs,hG,hql⟩
  rw [Int.toNat_natCast] at hfl hql
  refine ⟨_,rfl,.inl ⟨rfl,_,bh.of hla⟩,fc,fun p np=>?_⟩
  have s3:=s2.trans (ae (o:=.tup [V.str "stop"]) np)
  have zp:upd G p (.tup [V.str "stop"]) p=_:=ai
  replace hla:=ae (o:=.tup [V.str "stop"]) np _ _ hla
  replace cI:=ae (o:=.tup [V.str "stop"]) np _ _ cI
  replace hG:=hG.same (ae (o:=.tup [V.str "stop"]) np)
  generalize upd G p (.tup [V.str "stop"])=G2 at s3 zp hla cI hG ⊢
  have hp:cj G2 p ⟨"stop",[],[]⟩:=nX (by decide) zp
  have Ex:cZ G2 (qs ++ [p]) n:=hG.app fun x hx'=>by rw [mem_singleton.mp hx']; exact ⟨_,hp,GoodR.plain (by decide) nZ⟩
  refine ⟨la,_,_,rfl,rfl,hla,bj (by rw [length_map]; omega),?_⟩
  have eQ:qs.map V.ref ++ [V.ref p]=(qs ++ [p]).map V.ref:=by rw [map_append]; rfl
  rw [eQ]
  clear hG s2
  have hG:cZ (upd G2 la (.lst ((qs ++ [p]).map V.ref))) (qs ++ [p]) n:=Ex.put hla
  have Ey:cj (upd G2 la (.lst ((qs ++ [p]).map V.ref))) p ⟨"stop",[],[]⟩:=hp.put hla
  have s2:Same H (upd G2 la (.lst ((qs ++ [p]).map V.ref))):=aR s3 uf
  replace cI:upd G2 la (.lst ((qs ++ [p]).map V.ref)) lf=some (.lst (fs.map V.int)):=by rw [aq (Ne.symm hne)]; exact cI
  replace hla:upd G2 la (.lst ((qs ++ [p]).map V.ref)) la=_:=ai
  have ug:∀ x ∈ fs,0 ≤ x∧x < ((qs ++ [p]).length:Nat):=fun x hx'=>by
   have:=hfs x hx'
   rw [length_append,length_singleton]
   omega
  have RJ:(qs ++ [p]).length ≤ 241:=by rw [length_append,length_singleton]; omega
  have hlp:1 ≤ (qs ++ [p]).length:=by rw [length_append,length_singleton]; omega
  clear Ex hp zp s3 eQ hfs
  have Cu:n=n→Et (upd G2 la (.lst ((qs ++ [p]).map V.ref))) (qs ++ [p]):=fun _=>⟨p,_,by simp,Ey,(by decide:("stop" : Str) ∈ dw)⟩
  generalize upd G2 la (.lst ((qs ++ [p]).map V.ref))=G at s2 hG hla cI Cu ⊢
  generalize qs ++ [p]=qs at hG hla ug Cu RJ hlp ⊢
  have hfs:=ug
  refine ⟨_,rfl,la,rfl,⟨_,bh.of hla⟩,fun D nD=>gj (K:=K) (a:=la) (xs:=qs.map V.ref) (fun j σ ys G2=>∃ (v:Option V) (es:List Addr) (dl:List FR),σ=[v,some (.ref lf)]∧ys=es.map V.ref∧es.length=j∧dl.length=j∧(∀ (i:Nat) q d,es[i]? = some q→dl[i]? = some d→cj G2 q d)∧(∀ d ∈ dl,GoodR d qs.length)∧(∀ (i:Nat) q d',qs[i]? = some q→dl[i]? = some d'→∃ d,cj G q d∧d'.u=d.u)∧Same G G2∧G2 D=some (.lst ys)) ?_ ?_ ?_ ?_⟩
  ·exact ⟨none,[],[],rfl,rfl,rfl,rfl,fun i q d h=>by simp at h,(fun d hd=>(not_mem_nil hd).elim),(fun i q d h g=>by simp at g),ae nD,ai⟩
  ·rintro j σ ys G2 _ ⟨v,es,dl,rfl,rfl,_,_,_,_,_,s3,_⟩
   exact bh.of (s3 _ _ hla)
  ·rintro j x σ ys G2 KS ⟨v,es,dl,rfl,rfl,hel,hdl,hrow,hgd,EA,s3,hD⟩
   rw [List.getElem?_map] at KS
   obtain ⟨q,hq,rfl⟩:=map_eq_some_iff.mp KS
   have hjl:=(List.getElem?_eq_some_iff.mp hq).1
   obtain ⟨d0,hd0,hg0⟩:=hG q (List.mem_of_getElem? hq)
   refine ⟨_,rfl,_,rfl,q,lf,d0,fs,(qs.length:Int),rfl,hd0.same s3,by rw [hfl]; exact hg0,s3 _ _ cI,hfs,by omega,fun p' d' G3 s4 hp' hg' RM=>⟨s4 _ _ hD,bj (by rw [length_map]; omega),_,es ++ [p'],dl ++ [d'],rfl,by rw [map_append]; rfl,by rw [length_append,hel]; rfl,by rw [length_append,hdl]; rfl,fun i q' dd g1 g2=>?_,fun dd hdd=>?_,fun i q' dd g1 g2=>?_,aR (s3.trans s4) nD,ai⟩⟩
   ·by_cases hi:i < es.length
    ·rw [List.getElem?_append_left hi] at g1
     rw [List.getElem?_append_left (by omega)] at g2
     exact ((hrow i q' dd g1 g2).same s4).put (s4 _ _ hD)
    ·rw [List.getElem?_append_right (by omega)] at g1
     rw [List.getElem?_append_right (by omega)] at g2
     rw [hel] at g1
     rw [hdl] at g2
     match h9:i - j,g1,g2 with
     | 0,g1,g2 =>
      cases g1
      cases g2
      exact hp'.put (s4 _ _ hD)
   ·rcases mem_append.mp hdd with z | z
    ·exact hgd dd z
    ·rw [mem_singleton.mp z]
     exact hg'
   ·by_cases hi:i < dl.length
    ·rw [List.getElem?_append_left hi] at g2
     exact EA i q' dd g1 g2
    ·rw [List.getElem?_append_right (by omega)] at g2
     match h9:i - dl.length,g2 with
     | 0,g2 =>
      cases g2
      have hi2:i=j:=by omega
      rw [hi2,hq] at g1
      cases g1
      exact ⟨d0,hd0,RM⟩
  ·rintro σ ys G2 ⟨v,es,dl,rfl,rfl,hel,hdl,hrow,hgd,EA,s3,hD⟩
   rw [length_map] at hel hdl
   exact k D dl _ (s2.trans s3) (s2.free nD) ⟨es,hD,by omega,hrow⟩ (fun dd hdd=>by rw [hdl]; exact hgd dd hdd) (fun dd hdd=>by
    obtain ⟨q,d,l1,l2,l3⟩:=Cu (by omega)
    rw [List.getLast?_eq_getElem?] at l1 hdd
    rw [hdl] at hdd
    obtain ⟨d2,l4,l5⟩:=EA _ q dd l1 hdd
    rw [l5,l4.vx l2]
    exact l3) (by omega) (by omega)
end
theorem Bl {K:Frag} {H H':Hp} {a:Addr} {xs:List V} (e:Same H H') (h:bh K H a xs):bh K H' a xs:=by
 rcases h with (h | ⟨o,h⟩) | h
 ·exact .inl (.inl (e _ _ h))
 ·exact .inl (.inr ⟨o,e _ _ h⟩)
 ·exact .inr h
section
variable {P:Program} {w:World} {K:Frag} {mg:Str→Option Value} {base:Heap}
def wa:Sp:=fun vs H Q _=>∃ (a:Addr) (ns:List Int),vs=[.ref a]∧bh K H a (ns.map V.int)∧ns.length ≤ 63∧∀ H',Q (.bl true) H'
theorem wc:aI ["_law_script", "_law_first", "_law_rows", "_law_crossed_here"] ["_law_script"] (aj qM):=⟨rfl,rfl,rfl,by decide +kernel,rfl,by decide +kernel,by decide +kernel⟩
theorem Ik {f fC fS fP fX fR:Addr} {fd EH rZ AU fdX Eu:FuncData} (F:dj K "law" "law" qM f fd) (T:Txt K w.params mg) (GC:aL P w K mg base cg 1 fC EH ["_law_script", "_law_k"] (zv (K:=K))) (kC:KI K fC) (bC:Binds K EH ["_law_script", "_law_k"] []) (mC:mg "_law_cell_at" = some (.ref fC)) (GS:aL P w K mg base cg 1 fS rZ ["_law_cell", "_law_many"] si) (kS:KI K fS) (bS:Binds K rZ ["_law_cell", "_law_many"] []) (mS:mg "_law_stream" = some (.ref fS)) (GP:aL P w K mg base cg 3 fP AU ["_law_xs", "_law_many"] zA) (kP:KI K fP) (bP:Binds K AU ["_law_xs", "_law_many"] []) (mP:mg "_law_program" = some (.ref fP)) (GX:aL P w K mg base cg 2 fX fdX ["_law_xs"] Mb) (kX:KI K fX) (bX:Binds K fdX ["_law_xs"] []) (mX:mg "_law_crossed" = some (.ref fX)) (GR:aL P w K mg base cg 7 fR Eu ["_law_rows", "_law_cell"] L4) (kR:KI K fR) (bR:Binds K Eu ["_law_rows", "_law_cell"] []) (mR:mg "_law_right" = some (.ref fR)):aL P w K mg base cg 8 f fd ["_law_script"] (wa (K:=K)):=by
 refine F.ok wc (fun vs H Q E h=>?_) (fun cdv A outer s H vs Q E hr h=>?_)
 ·obtain ⟨a,ns,rfl,_⟩:=h
  rfl
 ·obtain ⟨a,ns,rfl,hS,hn,k⟩:=h
  have Ss:=hr.mono (show 3 ≤ _ by decide)
  have hr2:=hr.mono (show 2 ≤ _ by decide)
  have hr1:=hr.mono (show 1 ≤ _ by decide)
  refine dM (aw (aK (aW (i:=1) wc.nd rfl (Or.inl rfl) (aM GC hr1 (by rfl) mC kC bC .nil aZ (ah (pv 0) (ah ak ao)))))
   (aw (aK (aW (i:=2) wc.nd rfl (Or.inl rfl) (aM GP Ss (by rfl) mP kP bP .nil aZ (ah (aM GS hr1 (by rfl) mS kS bS .nil aZ (ah (aM GC hr1 (by rfl) mC kC bC .nil aZ (ah (pv 0) (ah ak ao))) (ah ak ao))) (ah (aG cm ak (aG bV (pv 1) ak)) ao)))))
   (aw (aK (aW (i:=3) wc.nd rfl (Or.inl rfl) (aM GX hr2 (by rfl) mX kX bX .nil aZ (ah (aM GS hr1 (by rfl) mS kS bS .nil aZ (ah (aM GC hr1 (by rfl) mC kC bC .nil aZ (ah (pv 0) (ah ak ao))) (ah ak ao))) ao))))
   (aU (aK (aN (xT (aM GR hr (by rfl) mR kR bR .nil aZ (ah (pv 2) (ah (pv 1) ao))) (xS (aM GR hr (by rfl) mR kR bR .nil aZ (ah (pv 3) (ah (pv 1) ao))))))))))) ?_
  have sq:∀ {H':Hp},Same H H'→bh K H' a (ns.map V.int):=fun e=>Bl e hS
  refine ⟨_,rfl,a,ns,1,rfl,hS,by decide,fun c1=>?_⟩
  refine ⟨_,rfl,a,ns,0,rfl,hS,by decide,fun c0=>?_⟩
  refine ⟨c0,20,rfl,by decide,fun l ms H1 s1 nl hl hml hge=>?_⟩
  have m9:=fe c1 (show (0:Int) < 9 by decide)
  obtain ⟨n,en⟩:∃ n:Nat,(n:Int)=2 + c1 % 9:=⟨(2 + c1 % 9).toNat,by omega⟩
  refine ⟨_,rfl,_,_,rfl,rfl,Ku,_,_,rfl,rfl,l,ms,n,(by show [V.ref l,V.int (2 + c1 % 9)]=_; rw [en]),hl,by omega,by omega,by omega,fun lr ds H2 s2 nlr hR hA qh h1 hn5=>?_⟩
  have t2:=s1.trans s2
  refine ⟨_,rfl,a,ns,2,rfl,sq t2,by decide,fun c2=>?_⟩
  refine ⟨c2,20,rfl,by decide,fun l' Ep H3 s3 nl' hl' hml' hge'=>?_⟩
  refine ⟨l',Ep,rfl,hl',hml',fun lr' ds' H4 s4 nlr' hR' hA' Il h1' Sy=>?_⟩
  refine ⟨_,rfl,_,rfl,lr,c1,ds,rfl,hR.same (s3.trans s4),hA,qh,h1,hn5,fun H5 s5=>⟨_,rfl,yn ?_⟩⟩
  exact ⟨_,rfl,_,rfl,lr',c1,ds',rfl,hR'.same s5,hA',Il,h1',Sy,fun H6 _=>k H6⟩
end
abbrev JD:Stmt:=inClass (top 3) 0
section
variable {P:Program} {w:World} {K:Frag} {mg:Str→Option Value} {base:Heap}
theorem Sz:aI ["self", "at"] ["self", "at"] (aj JD):=⟨rfl,rfl,rfl,by decide +kernel,rfl,by decide +kernel,by decide +kernel⟩
theorem Mf {f C R:Addr} {fd:FuncData} (F:dj K "__init__" "NoLayout.__init__" JD f fd) (c:jc K C R f) (hm:mg "RowError" = some (.ref R)):aL P w K mg base cg 1 f fd ["self", "at"] (yH C):=by
 refine F.ok Sz (fun vs H Q E h=>?_) (fun cdv A outer s H vs Q E hr h=>?_)
 ·obtain ⟨e,i,rfl,_⟩:=h
  rfl
 ·obtain ⟨e,i,rfl,he,hi,k⟩:=h
  refine ⟨_,aD (bQ (BX c (by rfl) hm (ah (pv 0) (ah (BW (pv 1) (by decide)) ao)))) (au (Gf c (pv 0) (pv 1) rfl)),?_⟩
  refine ⟨_,rfl,_,rfl,i,rfl,hi,fun u=>⟨e,_,rfl,he,?_⟩⟩
  refine ⟨_,rfl,_,rfl,e,rfl,ai,fun d nd de=>?_⟩
  rw [Kk de]
  rw [aq de] at nd
  exact k d nd de
end
set_option maxHeartbeats 8000000
theorem Im {α:Type} {p:α→Prop}:∀ x ∈ ([]:List α),p x:=fun x h=>absurd h (by simp)
theorem cD {α:Type} {p:α→Prop} {a:α} {l:List α} (h:p a) (t:∀ x ∈ l,p x):∀ x ∈ a :: l,p x:=fun x hx=>by
 rcases mem_cons.mp hx with rfl | hx
 ·exact h
 ·exact t x hx
theorem qj:∀ hs:List Addr,Vals (hs.map V.ref) (hs.map Value.ref)
 | []=>.nil
 | a :: r=>.cons (show RelV (.ref a) (.ref a) from rfl) (qj r)
inductive sL (K:Frag) (H:Hp):List Addr→List (Str × Int)→Prop
 | nil:sL K H [] []
 | cons {q:Addr} {u:Str} {f:Int} {qs:List Addr} {hs:List (Str × Int)}:bq K H q [.str u,.int f]→sL K H qs hs→sL K H (q :: qs) ((u,f) :: hs)
theorem sL.len {K:Frag} {H:Hp}:∀ {qs:List Addr} {hs:List (Str × Int)},sL K H qs hs→qs.length=hs.length
 | _,_,.nil=>rfl
 | _,_,.cons _ r=>congrArg (· + 1) r.len
theorem sL.get {K:Frag} {H:Hp} {qs:List Addr} {hs:List (Str × Int)} (h:sL K H qs hs):∀ (i:Nat) q x,qs[i]? = some q→hs[i]? = some x→bq K H q [.str x.1,.int x.2]:=by
 induction h with
 | nil=>intro i q x h; simp at h
 | cons h0 _ ih =>
  intro i q x h1 h2
  cases i with
  | zero=>cases h1; cases h2; exact h0
  | succ i=>exact ih i q x (by simpa using h1) (by simpa using h2)
theorem all_mk {l:OpenLaw} {w:World} {K:Frag} {h:Heap} {mg:Str→Option Value} {fa f0 f1 f2 f3 f4 f5 f6 f7 f8 f9 SA f11 SD SE SG SH SJ Mg Mh Mi Mj Ml Mp Mq Mr Mt Mu Mv Mw Mx Mz MC f32 MD ME MF MH SK SL SM SN SO SQ SR SU SV SW SY SZ Ta Tb Tc Td Tf Tg Ti Tj:Addr} (X:K.In h) (G:h.Ns mainGlobals mg) (hfa:mg "law" = some (.ref fa))
  {od0 an0 od1 an1 od2 an2 od3 an3 od4 an4 od5 an5 od6 an6 od7 an7 od8 an8 od9 an9 Tn Tp Tq Tr Ts Tt Tv Tw Tx Tz TB TF TH TJ TK TL TN TQ TU TV TX TY T2 T3 T4 T5 T6 T7 T8 T9 Ua Ub Uc Ud Ue Ug Uh Ui Uj Uk Ul Um Uo Up Uq Ur Us Ut Uu Uv Uw Ux Uy Uz UA UB UC UD UE UG UH UI UJ UK UL UM UN UO UP UQ UR US UT UU UW UX UY UZ U0 U1 U2 U3 U4 U5 U6 U7 U8 U9 Va Vb Vc Vd Ve MI:Option Addr} {sl0 sl1 sl2 sl3 sl4 sl5 sl6 sl7 sl8 sl9 Vf Vg Vh Vi Vj Vk Vl Vm Vn Vo Vp Vq Vr Vs Vt Vu Vv Vw Vx Vy Vz VA VB VC VD VE VF VG VH VI VJ VL VM VN VO VP VQ VR VT VU VW VX VY VZ V0 V1 V2:Array (Option Value)} {oc0 kV0 dc0 pm0 cd0 ct0 oc1 kV1 dc1 pm1 cd1 ct1 oc2 kV2 Kh pm2 cd2 ct2 oc3 kV3 dc3 pm3 cd3 ct3 oc4 kV4 dc4 pm4 cd4 ct4 oc5 kV5 Rv pm5 cd5 ct5 oc6 kV6 dc6 pm6 cd6 ct6 oc7 kV7 dc7 pm7 cd7 ct7 oc8 kV8 dc8 pm8 cd8 ct8 oc9 kV9 dc9 pm9 cd9 ct9 V3 V4 V5 V6 MJ V7 V8 V9 Wa Wb MK Wc Wd Wf Wg Wh ML Wi Wj Wk Wl Wm MN Wn Wo Wp Wq Wr MO Ws Wt Wu Wv Ww MP Wx Wy Wz WB WC MQ WD WG WH WK WL MR WM WN WO WQ WR MS WT WU WV WW WX MU WY WZ W1 W2 W3 MV W4 W5 W6 W7 W8 MW W9 Xa Xb Xc Xd MX Xe Xf Xg Xh Xi MY Xj Xk Xl Xm Xn MZ Xo Xp Xq Xr Xt M8 Xu Xv Xw Xx Xy M9 Xz XA XB XC XD Nc XF XG XH XI XJ Nf XM XO XQ XR XS Ng XT XU XW XY XZ Nh X0 X2 X3 X4 X5 Ni X6 X7 X8 X9 Ya Nj Yb Yc Yd Ye Yf Nk Yg Yh Yi Yj Yk Nm Yl Ym Yn Yo Yp Nn Yq Yr Ys Yt Yu Np Yv Yw Yx Yy Yz Nq YB YC YD YF YG Nr YH YJ YK YL YM Nt YN YQ YR YS YT Nu YV YW YX YZ Y0 Nv Y1 Y2 Y3 Y4 Y5 Nw Y6 Y7 Y8 Y9 Za Nx Zb Zc Zd Ze Zf Ny Zg Zh Zi Zj Zm Nz Zn Zo Zq Zr Zu NA Zv Zw Zx Zy Zz NB ZA ZC ZD ZE ZF NC ZG ZI ZJ ZK ZL ND ZM ZO ZP ZQ ZR NG ZS ZU ZV ZW ZX NH ZY Z0 Z1 Z2 Z3 NI Z4 Z5 Z6 Z7 Z8 NJ Z9 aac aad aae aaf NK aag aah aai aaj aak NM aal aam NN NP NQ Io NR:Value}
  (a0:nsIn K mainGlobals "targets_of" = some (some (.ref f0))) (l0:K.lookup f0=some ⟨oc0,od0,.func (fnOf "targets_of" "targets_of" (aF gm) (aA gm) (aj gm) .none kV0 dc0 pm0 an0 cd0 ct0),sl0⟩) (c0:codeIn K cd0 "targets_of" = true) (k0:keepIn K (.ref f0)=true)
  (a1:nsIn K mainGlobals "has_far" = some (some (.ref f1))) (l1:K.lookup f1=some ⟨oc1,od1,.func (fnOf "has_far" "has_far" (aF iQ) (aA iQ) (aj iQ) .none kV1 dc1 pm1 an1 cd1 ct1),sl1⟩) (c1:codeIn K cd1 "has_far" = true) (k1:keepIn K (.ref f1)=true)
  (a2:nsIn K mainGlobals "far_of" = some (some (.ref f2))) (l2:K.lookup f2=some ⟨oc2,od2,.func (fnOf "far_of" "far_of" (aF j9) (aA j9) (aj j9) .none kV2 Kh pm2 an2 cd2 ct2),sl2⟩) (c2:codeIn K cd2 "far_of" = true) (k2:keepIn K (.ref f2)=true)
  (a3:nsIn K mainGlobals "with_far" = some (some (.ref f3))) (l3:K.lookup f3=some ⟨oc3,od3,.func (fnOf "with_far" "with_far" (aF gn) (aA gn) (aj gn) .none kV3 dc3 pm3 an3 cd3 ct3),sl3⟩) (c3:codeIn K cd3 "with_far" = true) (k3:keepIn K (.ref f3)=true)
  (a4:nsIn K mainGlobals "parts_of" = some (some (.ref f4))) (l4:K.lookup f4=some ⟨oc4,od4,.func (fnOf "parts_of" "parts_of" (aF eV) (aA eV) (aj eV) .none kV4 dc4 pm4 an4 cd4 ct4),sl4⟩) (c4:codeIn K cd4 "parts_of" = true) (k4:keepIn K (.ref f4)=true)
  (a5:nsIn K mainGlobals "size_of" = some (some (.ref f5))) (l5:K.lookup f5=some ⟨oc5,od5,.func (fnOf "size_of" "size_of" (aF pK) (aA pK) (aj pK) .none kV5 Rv pm5 an5 cd5 ct5),sl5⟩) (c5:codeIn K cd5 "size_of" = true) (k5:keepIn K (.ref f5)=true)
  (a6:nsIn K mainGlobals "begins_of" = some (some (.ref f6))) (l6:K.lookup f6=some ⟨oc6,od6,.func (fnOf "begins_of" "begins_of" (aF iR) (aA iR) (aj iR) .none kV6 dc6 pm6 an6 cd6 ct6),sl6⟩) (c6:codeIn K cd6 "begins_of" = true) (k6:keepIn K (.ref f6)=true)
  (a7:nsIn K mainGlobals "distances_of" = some (some (.ref f7))) (l7:K.lookup f7=some ⟨oc7,od7,.func (fnOf "distances_of" "distances_of" (aF jt) (aA jt) (aj jt) .none kV7 dc7 pm7 an7 cd7 ct7),sl7⟩) (c7:codeIn K cd7 "distances_of" = true) (k7:keepIn K (.ref f7)=true)
  (a8:nsIn K mainGlobals "is_short_jump" = some (some (.ref f8))) (l8:K.lookup f8=some ⟨oc8,od8,.func (fnOf "is_short_jump" "is_short_jump" (aF iS) (aA iS) (aj iS) .none kV8 dc8 pm8 an8 cd8 ct8),sl8⟩) (c8:codeIn K cd8 "is_short_jump" = true) (k8:keepIn K (.ref f8)=true)
  (a9:nsIn K mainGlobals "is_borne" = some (some (.ref f9))) (l9:K.lookup f9=some ⟨oc9,od9,.func (fnOf "is_borne" "is_borne" (aF ke) (aA ke) (aj ke) .none kV9 dc9 pm9 an9 cd9 ct9),sl9⟩) (c9:codeIn K cd9 "is_borne" = true) (k9:keepIn K (.ref f9)=true)
  (a10:nsIn K mainGlobals "short_distances" = some (some (.ref SA))) (l10:K.lookup SA=some ⟨V3,Tn,.func (fnOf "short_distances" "short_distances" (aF iT) (aA iT) (aj iT) .none V4 V5 V6 Tp MJ V7),Vf⟩) (c10:codeIn K MJ "short_distances" = true) (k10:keepIn K (.ref SA)=true)
  (a11:nsIn K mainGlobals "check_layout" = some (some (.ref f11))) (l11:K.lookup f11=some ⟨V8,Tq,.func (fnOf "check_layout" "check_layout" (aF iU) (aA iU) (aj iU) .none V9 Wa Wb Tr MK Wc),Vg⟩) (c11:codeIn K MK "check_layout" = true) (k11:keepIn K (.ref f11)=true)
  (a12:nsIn K mainGlobals "jumps_over" = some (some (.ref SD))) (l12:K.lookup SD=some ⟨Wd,Ts,.func (fnOf "jumps_over" "jumps_over" (aF kf) (aA kf) (aj kf) .none Wf Wg Wh Tt ML Wi),Vh⟩) (c12:codeIn K ML "jumps_over" = true) (k12:keepIn K (.ref SD)=true)
  (a13:nsIn K mainGlobals "one_further" = some (some (.ref SE))) (l13:K.lookup SE=some ⟨Wj,Tv,.func (fnOf "one_further" "one_further" (aF gq) (aA gq) (aj gq) .none Wk Wl Wm Tw MN Wn),Vi⟩) (c13:codeIn K MN "one_further" = true) (k13:keepIn K (.ref SE)=true)
  (a14:nsIn K mainGlobals "jumps_to_lengthen" = some (some (.ref SG))) (l14:K.lookup SG=some ⟨Wo,Tx,.func (fnOf "jumps_to_lengthen" "jumps_to_lengthen" (aF ju) (aA ju) (aj ju) .none Wp Wq Wr Tz MO Ws),Vj⟩) (c14:codeIn K MO "jumps_to_lengthen" = true) (k14:keepIn K (.ref SG)=true)
  (a15:nsIn K mainGlobals "least_layout" = some (some (.ref SH))) (l15:K.lookup SH=some ⟨Wt,TB,.func (fnOf "least_layout" "least_layout" (aF jv) (aA jv) (aj jv) .none Wu Wv Ww TF MP Wx),Vk⟩) (c15:codeIn K MP "least_layout" = true) (k15:keepIn K (.ref SH)=true)
  (a16:nsIn K mainGlobals "end" = some (some (.ref SJ))) (l16:K.lookup SJ=some ⟨Wy,TH,.func (fnOf "end" "end" (aF xt) (aA xt) (aj xt) .none Wz WB WC TJ MQ WD),Vl⟩) (c16:codeIn K MQ "end" = true) (k16:keepIn K (.ref SJ)=true)
  (a17:nsIn K mainGlobals "do_stop" = some (some (.ref Mg))) (l17:K.lookup Mg=some ⟨WG,TK,.func (fnOf "do_stop" "do_stop" (aF ik) (aA ik) (aj ik) .none WH WK WL TL MR WM),Vm⟩) (c17:codeIn K MR "do_stop" = true) (k17:keepIn K (.ref Mg)=true)
  (a18:nsIn K mainGlobals "do_halt" = some (some (.ref Mh))) (l18:K.lookup Mh=some ⟨WN,TN,.func (fnOf "do_halt" "do_halt" (aF il) (aA il) (aj il) .none WO WQ WR TQ MS WT),Vn⟩) (c18:codeIn K MS "do_halt" = true) (k18:keepIn K (.ref Mh)=true)
  (a19:nsIn K mainGlobals "do_back" = some (some (.ref Mi))) (l19:K.lookup Mi=some ⟨WU,TU,.func (fnOf "do_back" "do_back" (aF ip) (aA ip) (aj ip) .none WV WW WX TV MU WY),Vo⟩) (c19:codeIn K MU "do_back" = true) (k19:keepIn K (.ref Mi)=true)
  (a20:nsIn K mainGlobals "do_set" = some (some (.ref Mj))) (l20:K.lookup Mj=some ⟨WZ,TX,.func (fnOf "do_set" "do_set" (aF lA) (aA lA) (aj lA) .none W1 W2 W3 TY MV W4),Vp⟩) (c20:codeIn K MV "do_set" = true) (k20:keepIn K (.ref Mj)=true)
  (a21:nsIn K mainGlobals "do_more" = some (some (.ref Ml))) (l21:K.lookup Ml=some ⟨W5,T2,.func (fnOf "do_more" "do_more" (aF iq) (aA iq) (aj iq) .none W6 W7 W8 T3 MW W9),Vq⟩) (c21:codeIn K MW "do_more" = true) (k21:keepIn K (.ref Ml)=true)
  (a22:nsIn K mainGlobals "do_copy" = some (some (.ref Mp))) (l22:K.lookup Mp=some ⟨Xa,T4,.func (fnOf "do_copy" "do_copy" (aF iu) (aA iu) (aj iu) .none Xb Xc Xd T5 MX Xe),Vr⟩) (c22:codeIn K MX "do_copy" = true) (k22:keepIn K (.ref Mp)=true)
  (a23:nsIn K mainGlobals "do_add" = some (some (.ref Mq))) (l23:K.lookup Mq=some ⟨Xf,T6,.func (fnOf "do_add" "do_add" (aF lB) (aA lB) (aj lB) .none Xg Xh Xi T7 MY Xj),Vs⟩) (c23:codeIn K MY "do_add" = true) (k23:keepIn K (.ref Mq)=true)
  (a24:nsIn K mainGlobals "do_less" = some (some (.ref Mr))) (l24:K.lookup Mr=some ⟨Xk,T8,.func (fnOf "do_less" "do_less" (aF iw) (aA iw) (aj iw) .none Xl Xm Xn T9 MZ Xo),Vt⟩) (c24:codeIn K MZ "do_less" = true) (k24:keepIn K (.ref Mr)=true)
  (a25:nsIn K mainGlobals "do_load" = some (some (.ref Mt))) (l25:K.lookup Mt=some ⟨Xp,Ua,.func (fnOf "do_load" "do_load" (aF iy) (aA iy) (aj iy) .none Xq Xr Xt Ub M8 Xu),Vu⟩) (c25:codeIn K M8 "do_load" = true) (k25:keepIn K (.ref Mt)=true)
  (a26:nsIn K mainGlobals "do_keep" = some (some (.ref Mu))) (l26:K.lookup Mu=some ⟨Xv,Uc,.func (fnOf "do_keep" "do_keep" (aF iz) (aA iz) (aj iz) .none Xw Xx Xy Ud M9 Xz),Vv⟩) (c26:codeIn K M9 "do_keep" = true) (k26:keepIn K (.ref Mu)=true)
  (a27:nsIn K mainGlobals "do_tell" = some (some (.ref Mv))) (l27:K.lookup Mv=some ⟨XA,Ue,.func (fnOf "do_tell" "do_tell" (aF iA) (aA iA) (aj iA) .none XB XC XD Ug Nc XF),Vw⟩) (c27:codeIn K Nc "do_tell" = true) (k27:keepIn K (.ref Mv)=true)
  (a28:nsIn K mainGlobals "do_see" = some (some (.ref Mw))) (l28:K.lookup Mw=some ⟨XG,Uh,.func (fnOf "do_see" "do_see" (aF lC) (aA lC) (aj lC) .none XH XI XJ Ui Nf XM),Vx⟩) (c28:codeIn K Nf "do_see" = true) (k28:keepIn K (.ref Mw)=true)
  (a29:nsIn K mainGlobals "do_put" = some (some (.ref Mx))) (l29:K.lookup Mx=some ⟨XO,Uj,.func (fnOf "do_put" "do_put" (aF lD) (aA lD) (aj lD) .none XQ XR XS Uk Ng XT),Vy⟩) (c29:codeIn K Ng "do_put" = true) (k29:keepIn K (.ref Mx)=true)
  (a30:nsIn K mainGlobals "do_take" = some (some (.ref Mz))) (l30:K.lookup Mz=some ⟨XU,Ul,.func (fnOf "do_take" "do_take" (aF iB) (aA iB) (aj iB) .none XW XY XZ Um Nh X0),Vz⟩) (c30:codeIn K Nh "do_take" = true) (k30:keepIn K (.ref Mz)=true)
  (a31:nsIn K mainGlobals "do_jump" = some (some (.ref MC))) (l31:K.lookup MC=some ⟨X2,Uo,.func (fnOf "do_jump" "do_jump" (aF iC) (aA iC) (aj iC) .none X3 X4 X5 Up Ni X6),VA⟩) (c31:codeIn K Ni "do_jump" = true) (k31:keepIn K (.ref MC)=true)
  (a32:nsIn K mainGlobals "do_zero" = some (some (.ref f32))) (l32:K.lookup f32=some ⟨X7,Uq,.func (fnOf "do_zero" "do_zero" (aF iE) (aA iE) (aj iE) .none X8 X9 Ya Ur Nj Yb),VB⟩) (c32:codeIn K Nj "do_zero" = true) (k32:keepIn K (.ref f32)=true)
  (a33:nsIn K mainGlobals "do_below" = some (some (.ref MD))) (l33:K.lookup MD=some ⟨Yc,Us,.func (fnOf "do_below" "do_below" (aF fz) (aA fz) (aj fz) .none Yd Ye Yf Ut Nk Yg),VC⟩) (c33:codeIn K Nk "do_below" = true) (k33:keepIn K (.ref MD)=true)
  (a34:nsIn K mainGlobals "do_call" = some (some (.ref ME))) (l34:K.lookup ME=some ⟨Yh,Uu,.func (fnOf "do_call" "do_call" (aF iF) (aA iF) (aj iF) .none Yi Yj Yk Uv Nm Yl),VD⟩) (c34:codeIn K Nm "do_call" = true) (k34:keepIn K (.ref ME)=true)
  (a35:nsIn K mainGlobals "do_mark" = some (some (.ref MF))) (l35:K.lookup MF=some ⟨Ym,Uw,.func (fnOf "do_mark" "do_mark" (aF iG) (aA iG) (aj iG) .none Yn Yo Yp Ux Nn Yq),VE⟩) (c35:codeIn K Nn "do_mark" = true) (k35:keepIn K (.ref MF)=true)
  (a36:nsIn K mainGlobals "do_table" = some (some (.ref MH))) (l36:K.lookup MH=some ⟨Yr,Uy,.func (fnOf "do_table" "do_table" (aF fA) (aA fA) (aj fA) .none Ys Yt Yu Uz Np Yv),VF⟩) (c36:codeIn K Np "do_table" = true) (k36:keepIn K (.ref MH)=true)
  (a37:nsIn K mainGlobals "without_noughts" = some (some (.ref SK))) (l37:K.lookup SK=some ⟨Yw,UA,.func (fnOf "without_noughts" "without_noughts" (aF iZ) (aA iZ) (aj iZ) .none Yx Yy Yz UB Nq YB),VG⟩) (c37:codeIn K Nq "without_noughts" = true) (k37:keepIn K (.ref SK)=true)
  (a38:nsIn K mainGlobals "head_of" = some (some (.ref SL))) (l38:K.lookup SL=some ⟨YC,UC,.func (fnOf "head_of" "head_of" (aF iV) (aA iV) (aj iV) .none YD YF YG UD Nr YH),VH⟩) (c38:codeIn K Nr "head_of" = true) (k38:keepIn K (.ref SL)=true)
  (a39:nsIn K mainGlobals "low_of" = some (some (.ref SM))) (l39:K.lookup SM=some ⟨YJ,UE,.func (fnOf "low_of" "low_of" (aF kh) (aA kh) (aj kh) .none YK YL YM UG Nt YN),VI⟩) (c39:codeIn K Nt "low_of" = true) (k39:keepIn K (.ref SM)=true)
  (a40:nsIn K mainGlobals "first_unit" = some (some (.ref SN))) (l40:K.lookup SN=some ⟨YQ,UH,.func (fnOf "first_unit" "first_unit" (aF gJ) (aA gJ) (aj gJ) .none YR YS YT UI Nu YV),VJ⟩) (c40:codeIn K Nu "first_unit" = true) (k40:keepIn K (.ref SN)=true)
  (a41:nsIn K mainGlobals "other_units" = some (some (.ref SO))) (l41:K.lookup SO=some ⟨YW,UJ,.func (fnOf "other_units" "other_units" (aF gK) (aA gK) (aj gK) .none YX YZ Y0 UK Nv Y1),VL⟩) (c41:codeIn K Nv "other_units" = true) (k41:keepIn K (.ref SO)=true)
  (a42:nsIn K mainGlobals "units_of" = some (some (.ref SQ))) (l42:K.lookup SQ=some ⟨Y2,UL,.func (fnOf "units_of" "units_of" (aF ib) (aA ib) (aj ib) .none Y3 Y4 Y5 UM Nw Y6),VM⟩) (c42:codeIn K Nw "units_of" = true) (k42:keepIn K (.ref SQ)=true)
  (a43:nsIn K mainGlobals "_law_cell_at" = some (some (.ref SR))) (l43:K.lookup SR=some ⟨Y7,UN,.func (fnOf "_law_cell_at" "_law_cell_at" (aF pL) (aA pL) (aj pL) .none Y8 Y9 Za UO Nx Zb),VN⟩) (c43:codeIn K Nx "_law_cell_at" = true) (k43:keepIn K (.ref SR)=true)
  (a44:nsIn K mainGlobals "_law_stream" = some (some (.ref SU))) (l44:K.lookup SU=some ⟨Zc,UP,.func (fnOf "_law_stream" "_law_stream" (aF iW) (aA iW) (aj iW) .none Zd Ze Zf UQ Ny Zg),VO⟩) (c44:codeIn K Ny "_law_stream" = true) (k44:keepIn K (.ref SU)=true)
  (a45:nsIn K mainGlobals "_law_row" = some (some (.ref SV))) (l45:K.lookup SV=some ⟨Zh,UR,.func (fnOf "_law_row" "_law_row" (aF wV) (aA wV) (aj wV) .none Zi Zj Zm US Nz Zn),VP⟩) (c45:codeIn K Nz "_law_row" = true) (k45:keepIn K (.ref SV)=true)
  (a46:nsIn K mainGlobals "_law_targets" = some (some (.ref SW))) (l46:K.lookup SW=some ⟨Zo,UT,.func (fnOf "_law_targets" "_law_targets" (aF pM) (aA pM) (aj pM) .none Zq Zr Zu UU NA Zv),VQ⟩) (c46:codeIn K NA "_law_targets" = true) (k46:keepIn K (.ref SW)=true)
  (a47:nsIn K mainGlobals "_law_last" = some (some (.ref SY))) (l47:K.lookup SY=some ⟨Zw,UW,.func (fnOf "_law_last" "_law_last" (aF pN) (aA pN) (aj pN) .none Zx Zy Zz UX NB ZA),VR⟩) (c47:codeIn K NB "_law_last" = true) (k47:keepIn K (.ref SY)=true)
  (a48:nsIn K mainGlobals "_law_program" = some (some (.ref SZ))) (l48:K.lookup SZ=some ⟨ZC,UY,.func (fnOf "_law_program" "_law_program" (aF nU) (aA nU) (aj nU) .none ZD ZE ZF UZ NC ZG),VT⟩) (c48:codeIn K NC "_law_program" = true) (k48:keepIn K (.ref SZ)=true)
  (a49:nsIn K mainGlobals "_law_led" = some (some (.ref Ta))) (l49:K.lookup Ta=some ⟨ZI,U0,.func (fnOf "_law_led" "_law_led" (aF tV) (aA tV) (aj tV) .none ZJ ZK ZL U1 ND ZM),VU⟩) (c49:codeIn K ND "_law_led" = true) (k49:keepIn K (.ref Ta)=true)
  (a50:nsIn K mainGlobals "_law_size" = some (some (.ref Tb))) (l50:K.lookup Tb=some ⟨ZO,U2,.func (fnOf "_law_size" "_law_size" (aF kl) (aA kl) (aj kl) .none ZP ZQ ZR U3 NG ZS),VW⟩) (c50:codeIn K NG "_law_size" = true) (k50:keepIn K (.ref Tb)=true)
  (a51:nsIn K mainGlobals "_law_crossed" = some (some (.ref Tc))) (l51:K.lookup Tc=some ⟨ZU,U4,.func (fnOf "_law_crossed" "_law_crossed" (aF eW) (aA eW) (aj eW) .none ZV ZW ZX U5 NH ZY),VX⟩) (c51:codeIn K NH "_law_crossed" = true) (k51:keepIn K (.ref Tc)=true)
  (a52:nsIn K mainGlobals "_law_good" = some (some (.ref Td))) (l52:K.lookup Td=some ⟨Z0,U6,.func (fnOf "_law_good" "_law_good" (aF pO) (aA pO) (aj pO) .none Z1 Z2 Z3 U7 NI Z4),VY⟩) (c52:codeIn K NI "_law_good" = true) (k52:keepIn K (.ref Td)=true)
  (a53:nsIn K mainGlobals "_law_layouts" = some (some (.ref Tf))) (l53:K.lookup Tf=some ⟨Z5,U8,.func (fnOf "_law_layouts" "_law_layouts" (aF eY) (aA eY) (aj eY) .none Z6 Z7 Z8 U9 NJ Z9),VZ⟩) (c53:codeIn K NJ "_law_layouts" = true) (k53:keepIn K (.ref Tf)=true)
  (a54:nsIn K mainGlobals "_law_run" = some (some (.ref Tg))) (l54:K.lookup Tg=some ⟨aac,Va,.func (fnOf "_law_run" "_law_run" (aF pQ) (aA pQ) (aj pQ) .none aad aae aaf Vb NK aag),V0⟩) (c54:codeIn K NK "_law_run" = true) (k54:keepIn K (.ref Tg)=true)
  (a55:nsIn K mainGlobals "_law_right" = some (some (.ref Ti))) (l55:K.lookup Ti=some ⟨aah,Vc,.func (fnOf "_law_right" "_law_right" (aF dZ) (aA dZ) (aj dZ) .none aai aaj aak Vd NM aal),V1⟩) (c55:codeIn K NM "_law_right" = true) (k55:keepIn K (.ref Ti)=true)
  (a56:nsIn K mainGlobals "law" = some (some (.ref Tj))) (l56:K.lookup Tj=some ⟨aam,Ve,.func (fnOf "law" "law" (aF qM) (aA qM) (aj qM) .none NN NP NQ MI Io NR),V2⟩) (c56:codeIn K Io "law" = true) (k56:keepIn K (.ref Tj)=true)
  {pT0:Addr} {aan:Option Addr} {aao:Array (Option Value)} {nT0:Nat} {aap aaq aar aas aat aau:Tok} (aT0:nsIn K mainGlobals "TWO_UNITS" = some (some (.ref pT0)))
  (lT0:K.lookup pT0=some ⟨.type "tuple",aan,.seq #[.str "set" aap,.str "more" aaq,.str "put" aar,.str "take" aas,.str "see" aat,.str "halt" aau] nT0,aao⟩)
  {pT1:Addr} {aav:Option Addr} {aaw:Array (Option Value)} {nT1:Nat} {aax aay aaz:Tok} (aT1:nsIn K mainGlobals "NUMBER_KINDS" = some (some (.ref pT1)))
  (lT1:K.lookup pT1=some ⟨.type "tuple",aav,.seq #[.str "number" aax,.str "value" aay,.str "aside" aaz] nT1,aaw⟩)
  (z_len:nsIn K mainGlobals "len" = some none)
  (z_list:nsIn K mainGlobals "list" = some none)
  (z_tuple:nsIn K mainGlobals "tuple" = some none)
  (z_int:nsIn K mainGlobals "int" = some none)
  (z_enumerate:nsIn K mainGlobals "enumerate" = some none)
  (z_range:nsIn K mainGlobals "range" = some none)
  (z_min:nsIn K mainGlobals "min" = some none)
  (z_max:nsIn K mainGlobals "max" = some none)
  (z_sum:nsIn K mainGlobals "sum" = some none)
  (z_zip:nsIn K mainGlobals "zip" = some none)
  (z_dict:nsIn K mainGlobals "dict" = some none)
  {pP:Addr} {oH:Array DictEntry} {nP:Nat} (aP:nsIn K mainGlobals "PARTS" = some (some (.ref pP))) (lP:K.lookup pP=some ⟨.type "dict",none,.dict oH nP,#[]⟩) (kP:KeysLit w.params oH.toList) (oP:(pP == sysModules)=false)
  {qP0:Addr} {aaA:Option Addr} {aaB:Array (Option Value)} {nP0:Nat} (eP0:nsIn K pP "stop" = some (some (.ref qP0))) (lP0:K.lookup qP0=some ⟨.type "tuple",aaA,.seq #[] nP0,aaB⟩)
  {qP1:Addr} {aaC:Option Addr} {aaD:Array (Option Value)} {nP1:Nat} (eP1:nsIn K pP "back" = some (some (.ref qP1))) (lP1:K.lookup qP1=some ⟨.type "tuple",aaC,.seq #[] nP1,aaD⟩)
  {qP2:Addr} {aaE:Option Addr} {aaF:Array (Option Value)} {nP2:Nat} {NS:Tok} (eP2:nsIn K pP "halt" = some (some (.ref qP2))) (lP2:K.lookup qP2=some ⟨.type "tuple",aaE,.seq #[.str "number" NS] nP2,aaF⟩)
  {qP3:Addr} {aaG:Option Addr} {aaH:Array (Option Value)} {nP3:Nat} {NT NU:Tok} (eP3:nsIn K pP "set" = some (some (.ref qP3))) (lP3:K.lookup qP3=some ⟨.type "tuple",aaG,.seq #[.str "box" NT,.str "value" NU] nP3,aaH⟩)
  {qP4:Addr} {aaI:Option Addr} {aaJ:Array (Option Value)} {nP4:Nat} {NV NW:Tok} (eP4:nsIn K pP "more" = some (some (.ref qP4))) (lP4:K.lookup qP4=some ⟨.type "tuple",aaI,.seq #[.str "box" NV,.str "value" NW] nP4,aaJ⟩)
  {qP5:Addr} {aaK:Option Addr} {aaL:Array (Option Value)} {nP5:Nat} {NX NY:Tok} (eP5:nsIn K pP "copy" = some (some (.ref qP5))) (lP5:K.lookup qP5=some ⟨.type "tuple",aaK,.seq #[.str "box" NX,.str "box" NY] nP5,aaL⟩)
  {qP6:Addr} {aaM:Option Addr} {aaN:Array (Option Value)} {nP6:Nat} {N0 N2:Tok} (eP6:nsIn K pP "add" = some (some (.ref qP6))) (lP6:K.lookup qP6=some ⟨.type "tuple",aaM,.seq #[.str "box" N0,.str "box" N2] nP6,aaN⟩)
  {qP7:Addr} {aaO:Option Addr} {aaP:Array (Option Value)} {nP7:Nat} {N3 N4:Tok} (eP7:nsIn K pP "less" = some (some (.ref qP7))) (lP7:K.lookup qP7=some ⟨.type "tuple",aaO,.seq #[.str "box" N3,.str "box" N4] nP7,aaP⟩)
  {qP8:Addr} {aaQ:Option Addr} {aaR:Array (Option Value)} {nP8:Nat} {N5 N6:Tok} (eP8:nsIn K pP "load" = some (some (.ref qP8))) (lP8:K.lookup qP8=some ⟨.type "tuple",aaQ,.seq #[.str "box" N5,.str "box" N6] nP8,aaR⟩)
  {qP9:Addr} {aaS:Option Addr} {aaT:Array (Option Value)} {nP9:Nat} {N7 N8:Tok} (eP9:nsIn K pP "keep" = some (some (.ref qP9))) (lP9:K.lookup qP9=some ⟨.type "tuple",aaS,.seq #[.str "box" N7,.str "box" N8] nP9,aaT⟩)
  {Ip:Addr} {N9:Option Addr} {Oa:Array (Option Value)} {aaU:Nat} {Iq:Tok} (eP10:nsIn K pP "tell" = some (some (.ref Ip))) (lP10:K.lookup Ip=some ⟨.type "tuple",N9,.seq #[.str "box" Iq] aaU,Oa⟩)
  {Ir:Addr} {Ob:Option Addr} {Oc:Array (Option Value)} {aaV:Nat} {Iu Iv:Tok} (eP11:nsIn K pP "see" = some (some (.ref Ir))) (lP11:K.lookup Ir=some ⟨.type "tuple",Ob,.seq #[.str "box" Iu,.str "number" Iv] aaV,Oc⟩)
  {Iw:Addr} {Od:Option Addr} {Oe:Array (Option Value)} {aaW:Nat} {Iy Iz:Tok} (eP12:nsIn K pP "put" = some (some (.ref Iw))) (lP12:K.lookup Iw=some ⟨.type "tuple",Od,.seq #[.str "box" Iy,.str "aside" Iz] aaW,Oe⟩)
  {IA:Addr} {Og:Option Addr} {Oh:Array (Option Value)} {aaX:Nat} {IB IC:Tok} (eP13:nsIn K pP "take" = some (some (.ref IA))) (lP13:K.lookup IA=some ⟨.type "tuple",Og,.seq #[.str "box" IB,.str "aside" IC] aaX,Oh⟩)
  {IE:Addr} {Oi:Option Addr} {Oj:Array (Option Value)} {aaY:Nat} {IG IH:Tok} (eP14:nsIn K pP "jump" = some (some (.ref IE))) (lP14:K.lookup IE=some ⟨.type "tuple",Oi,.seq #[.str "target" IG,.str "far" IH] aaY,Oj⟩)
  {II:Addr} {Ol:Option Addr} {Om:Array (Option Value)} {aaZ:Nat} {IJ IK IL:Tok} (eP15:nsIn K pP "zero" = some (some (.ref II))) (lP15:K.lookup II=some ⟨.type "tuple",Ol,.seq #[.str "box" IJ,.str "target" IK,.str "far" IL] aaZ,Om⟩)
  {IQ:Addr} {Oo:Option Addr} {Oq:Array (Option Value)} {aa0:Nat} {IU IV IW:Tok} (eP16:nsIn K pP "below" = some (some (.ref IQ))) (lP16:K.lookup IQ=some ⟨.type "tuple",Oo,.seq #[.str "box" IU,.str "target" IV,.str "far" IW] aa0,Oq⟩)
  {IY:Addr} {Ot:Option Addr} {Ou:Array (Option Value)} {aa1:Nat} {IZ I0:Tok} (eP17:nsIn K pP "call" = some (some (.ref IY))) (lP17:K.lookup IY=some ⟨.type "tuple",Ot,.seq #[.str "target" IZ,.str "far" I0] aa1,Ou⟩)
  {Ja:Addr} {Ov:Option Addr} {Ow:Array (Option Value)} {aa2:Nat} {Jb Jc:Tok} (eP18:nsIn K pP "mark" = some (some (.ref Ja))) (lP18:K.lookup Ja=some ⟨.type "tuple",Ov,.seq #[.str "target" Jb,.str "far" Jc] aa2,Ow⟩)
  {Jd:Addr} {Ox:Option Addr} {Oy:Array (Option Value)} {aa3:Nat} {Je Jf:Tok} (eP19:nsIn K pP "table" = some (some (.ref Jd))) (lP19:K.lookup Jd=some ⟨.type "tuple",Ox,.seq #[.str "box" Je,.str "targets" Jf] aa3,Oy⟩)
  {tLS tGS:Tok} (aLS:nsIn K mainGlobals "LEAST_SHORT" = some (some (.int (-64) tLS))) (aGS:nsIn K mainGlobals "GREATEST_SHORT" = some (some (.int 63 tGS)))
  {Si:Tok} (aMO:nsIn K mainGlobals "MOST_ROWS_OVER" = some (some (.int 64 Si)))
  {oB:Tok} (aCODE_STEP:nsIn K mainGlobals "CODE_STEP" = some (some (.int 1024 oB)))
  {ql:Tok} (aBOX_STEP:nsIn K mainGlobals "BOX_STEP" = some (some (.int 128 ql)))
  {jU:Tok} (aSHORT_ADDED:nsIn K mainGlobals "SHORT_ADDED" = some (some (.int 64 jU)))
  {pH Qs Qt Qu Qv Qw Qx Qy Qz QA QB DR DS DT DU DV DW DX DY DZ D1 D5 D6 D7 D8 D9:Addr} {slH:Array (Option Value)} {nH:Nat} (aH:nsIn K mainGlobals "HEADS" = some (some (.ref pH))) (lH:K.lookup pH=some ⟨.type "tuple",none,.seq #[.ref Qs,.ref Qt,.ref Qu,.ref Qv,.ref Qw,.ref Qx,.ref Qy,.ref Qz,.ref QA,.ref QB,.ref DR,.ref DS,.ref DT,.ref DU,.ref DV,.ref DW,.ref DX,.ref DY,.ref DZ,.ref D1,.ref D5,.ref D6,.ref D7,.ref D8,.ref D9] nH,slH⟩)
  {aa4:Option Addr} {aa5:Array (Option Value)} {nH0:Nat} {tH0 uH0:Tok} (lH0:K.lookup Qs=some ⟨.type "tuple",aa4,.seq #[.str "stop" tH0,.int 0 uH0] nH0,aa5⟩)
  {aa6:Option Addr} {aa7:Array (Option Value)} {nH1:Nat} {tH1 uH1:Tok} (lH1:K.lookup Qt=some ⟨.type "tuple",aa6,.seq #[.str "back" tH1,.int 0 uH1] nH1,aa7⟩)
  {aa8:Option Addr} {aa9:Array (Option Value)} {nH2:Nat} {tH2 uH2:Tok} (lH2:K.lookup Qu=some ⟨.type "tuple",aa8,.seq #[.str "halt" tH2,.int 0 uH2] nH2,aa9⟩)
  {abb:Option Addr} {abd:Array (Option Value)} {nH3:Nat} {tH3 uH3:Tok} (lH3:K.lookup Qv=some ⟨.type "tuple",abb,.seq #[.str "set" tH3,.int 0 uH3] nH3,abd⟩)
  {abe:Option Addr} {abf:Array (Option Value)} {nH4:Nat} {tH4 uH4:Tok} (lH4:K.lookup Qw=some ⟨.type "tuple",abe,.seq #[.str "more" tH4,.int 0 uH4] nH4,abf⟩)
  {abg:Option Addr} {abh:Array (Option Value)} {nH5:Nat} {tH5 uH5:Tok} (lH5:K.lookup Qx=some ⟨.type "tuple",abg,.seq #[.str "copy" tH5,.int 0 uH5] nH5,abh⟩)
  {abi:Option Addr} {abj:Array (Option Value)} {nH6:Nat} {tH6 uH6:Tok} (lH6:K.lookup Qy=some ⟨.type "tuple",abi,.seq #[.str "add" tH6,.int 0 uH6] nH6,abj⟩)
  {abk:Option Addr} {abl:Array (Option Value)} {nH7:Nat} {tH7 uH7:Tok} (lH7:K.lookup Qz=some ⟨.type "tuple",abk,.seq #[.str "less" tH7,.int 0 uH7] nH7,abl⟩)
  {abm:Option Addr} {abn:Array (Option Value)} {nH8:Nat} {tH8 uH8:Tok} (lH8:K.lookup QA=some ⟨.type "tuple",abm,.seq #[.str "load" tH8,.int 0 uH8] nH8,abn⟩)
  {abo:Option Addr} {abp:Array (Option Value)} {nH9:Nat} {tH9 uH9:Tok} (lH9:K.lookup QB=some ⟨.type "tuple",abo,.seq #[.str "keep" tH9,.int 0 uH9] nH9,abp⟩)
  {Oz:Option Addr} {OB:Array (Option Value)} {abq:Nat} {abr abt:Tok} (lH10:K.lookup DR=some ⟨.type "tuple",Oz,.seq #[.str "tell" abr,.int 0 abt] abq,OB⟩)
  {OD:Option Addr} {OG:Array (Option Value)} {abu:Nat} {abv abw:Tok} (lH11:K.lookup DS=some ⟨.type "tuple",OD,.seq #[.str "see" abv,.int 0 abw] abu,OG⟩)
  {OI:Option Addr} {OJ:Array (Option Value)} {abx:Nat} {aby abz:Tok} (lH12:K.lookup DT=some ⟨.type "tuple",OI,.seq #[.str "put" aby,.int 0 abz] abx,OJ⟩)
  {OL:Option Addr} {OM:Array (Option Value)} {abA:Nat} {abB abD:Tok} (lH13:K.lookup DU=some ⟨.type "tuple",OL,.seq #[.str "take" abB,.int 0 abD] abA,OM⟩)
  {OO:Option Addr} {OQ:Array (Option Value)} {abE:Nat} {abF abG:Tok} (lH14:K.lookup DV=some ⟨.type "tuple",OO,.seq #[.str "jump" abF,.int 0 abG] abE,OQ⟩)
  {OS:Option Addr} {OU:Array (Option Value)} {abH:Nat} {abI abJ:Tok} (lH15:K.lookup DW=some ⟨.type "tuple",OS,.seq #[.str "zero" abI,.int 0 abJ] abH,OU⟩)
  {OV:Option Addr} {OW:Array (Option Value)} {abK:Nat} {abL abM:Tok} (lH16:K.lookup DX=some ⟨.type "tuple",OV,.seq #[.str "below" abL,.int 0 abM] abK,OW⟩)
  {OX:Option Addr} {OY:Array (Option Value)} {abN:Nat} {abO abP:Tok} (lH17:K.lookup DY=some ⟨.type "tuple",OX,.seq #[.str "call" abO,.int 0 abP] abN,OY⟩)
  {OZ:Option Addr} {Pa:Array (Option Value)} {abQ:Nat} {abR abS:Tok} (lH18:K.lookup DZ=some ⟨.type "tuple",OZ,.seq #[.str "mark" abR,.int 0 abS] abQ,Pa⟩)
  {Pb:Option Addr} {Pg:Array (Option Value)} {abT:Nat} {abU abV:Tok} (lH19:K.lookup D1=some ⟨.type "tuple",Pb,.seq #[.str "table" abU,.int 0 abV] abT,Pg⟩)
  {Ph:Option Addr} {Pj:Array (Option Value)} {abW:Nat} {abX abY:Tok} (lH20:K.lookup D5=some ⟨.type "tuple",Ph,.seq #[.str "jump" abX,.int 1 abY] abW,Pj⟩)
  {Pk:Option Addr} {Pl:Array (Option Value)} {abZ:Nat} {ab0 ab1:Tok} (lH21:K.lookup D6=some ⟨.type "tuple",Pk,.seq #[.str "zero" ab0,.int 1 ab1] abZ,Pl⟩)
  {Pm:Option Addr} {Pn:Array (Option Value)} {ab2:Nat} {ab3 ab4:Tok} (lH22:K.lookup D7=some ⟨.type "tuple",Pm,.seq #[.str "below" ab3,.int 1 ab4] ab2,Pn⟩)
  {Pp:Option Addr} {Pq:Array (Option Value)} {ab5:Nat} {ab6 ab7:Tok} (lH23:K.lookup D8=some ⟨.type "tuple",Pp,.seq #[.str "call" ab6,.int 1 ab7] ab5,Pq⟩)
  {Pr:Option Addr} {Pt:Array (Option Value)} {ab8:Nat} {ab9 aca:Tok} (lH24:K.lookup D9=some ⟨.type "tuple",Pr,.seq #[.str "mark" ab9,.int 1 aca] ab8,Pt⟩)
  {bK:Addr} (xNoLayout:nsIn K mainGlobals "NoLayout" = some (some (.ref bK)))
  {dG:Addr} (xRowError:nsIn K mainGlobals "RowError" = some (some (.ref dG)))
  {gI:Addr} {acb acd:Option Addr} {ace:Array (Option Value)} {acf acg ach aci Pu acj:Value} (agI:findIn K (.ref bK) "__init__" = some (some (.ref gI))) (igI:typeIn K (.ref gI)=some (.type "function")) (lgI:K.lookup gI=some ⟨acf,acb,.func (fnOf "__init__" "NoLayout.__init__" (aF JD) (aA JD) (aj JD) .none acg ach aci acd Pu acj),ace⟩) (cgI:codeIn K Pu "NoLayout.__init__" = true) (kgI:keepIn K (.ref gI)=true)
  {ddC:Option Addr} {nmC qnC:Str} {bsC acm:List Value} {nsC:Addr} {snC:List Str} {abC:Bool} {acn:Option Bool} {k0C k1C k2C k3C k5C:Option Value} {cdE:ClassData} (xlk:K.lookup bK=some ⟨.type "type",ddC,.cls ⟨nmC,bsC,.ref bK :: .ref dG :: nK,nsC,qnC,true,snC,acm,abC,acn,false⟩,#[k0C,k1C,k2C,k3C,some (.builtin "ValueError.__new__"),k5C]⟩) (xq:excIn K dG nK "ValueError.__new__" = true) (xrt:mroIn K dG (.type "object")=some true) (xsa:findIn K (.ref bK) "__setattr__" = some (some (.builtin "object.__setattr__"))) (xna:PySem.W.takerIn K bK "at" = some none) (xnt:findIn K (.ref bK) "at" = some none) (xhd:hasDictIn K bK=true) (xga:findIn K (.ref bK) "__getattribute__" = some (some (.builtin "BaseException.__getattribute__"))) (xgh:findIn K (.ref bK) "__getattr__" = some none) (xcl:findIn K (.ref bK) "__class__" = some (some (.builtin "object.__class__"))) (xgt:specialIn K (.builtin "object.__class__") "__get__" = some (some (.builtin "getset_descriptor.__get__"))) (xtk:PySem.W.takesIn K (.builtin "object.__class__")=some true) (xob:mroIn K bK (.type "object")=some true) (xbx:mroIn K bK (.type "BaseException")=some true) (xci:clsIn K bK=some cdE) (xsg:specialIn K (.ref dG) "__getattribute__" = some (some (.builtin "type.__getattribute__"))) (xrr:PySem.W.readsIn K dG (.type "type")=true) (xfi:PySem.W.findCls K (.ref dG) (.type "type") "__init__" = some (.val (.builtin "ValueError.__init__"))) (xkc:keepIn K (.ref bK)=true) (xexm:exmOne K (.ref bK) (.ref dG)=some true) (xown:kitOne K (.ref bK) (.ref bK)=some true) (xval:kitOne K (.ref bK) (.type "ValueError")=some true)
  {C:Addr} (aC:nsIn K mainGlobals "Machine" = some (some (.ref C)))
  {g0:Addr} {aco acp:Option Addr} {acq:Array (Option Value)} {acr acs acu acv Pw acw:Value} (ag0:findIn K (.ref C) "__init__" = some (some (.ref g0))) (ig0:isFn K (.ref g0)=true) (lg0:K.lookup g0=some ⟨acr,aco,.func (fnOf "__init__" "Machine.__init__" (aF pX) (aA pX) (aj pX) .none acs acu acv acp Pw acw),acq⟩) (cg0:codeIn K Pw "Machine.__init__" = true) (kg0:keepIn K (.ref g0)=true)
  {g1:Addr} {acx acy:Option Addr} {acz:Array (Option Value)} {acA acB acC acD Px acE:Value} (ag1:findIn K (.ref C) "row" = some (some (.ref g1))) (ig1:isFn K (.ref g1)=true) (lg1:K.lookup g1=some ⟨acA,acx,.func (fnOf "row" "Machine.row" (aF pY) (aA pY) (aj pY) .none acB acC acD acy Px acE),acz⟩) (cg1:codeIn K Px "Machine.row" = true) (kg1:keepIn K (.ref g1)=true)
  {g2:Addr} {acF acG:Option Addr} {acH:Array (Option Value)} {acI acJ acK acL Py acM:Value} (ag2:findIn K (.ref C) "ending" = some (some (.ref g2))) (ig2:isFn K (.ref g2)=true) (lg2:K.lookup g2=some ⟨acI,acF,.func (fnOf "ending" "Machine.ending" (aF i5) (aA i5) (aj i5) .none acJ acK acL acG Py acM),acH⟩) (cg2:codeIn K Py "Machine.ending" = true) (kg2:keepIn K (.ref g2)=true)
  {g3:Addr} {acN acO:Option Addr} {acP:Array (Option Value)} {acQ acR acS acT Pz acU:Value} (ag3:findIn K (.ref C) "boxes" = some (some (.ref g3))) (ig3:isFn K (.ref g3)=true) (lg3:K.lookup g3=some ⟨acQ,acN,.func (fnOf "boxes" "Machine.boxes" (aF kr) (aA kr) (aj kr) .none acR acS acT acO Pz acU),acP⟩) (cg3:codeIn K Pz "Machine.boxes" = true) (kg3:keepIn K (.ref g3)=true)
  {g4:Addr} {acV acW:Option Addr} {acX:Array (Option Value)} {acY acZ ac0 ac1 PB ac2:Value} (ag4:findIn K (.ref C) "cells" = some (some (.ref g4))) (ig4:isFn K (.ref g4)=true) (lg4:K.lookup g4=some ⟨acY,acV,.func (fnOf "cells" "Machine.cells" (aF ku) (aA ku) (aj ku) .none acZ ac0 ac1 acW PB ac2),acX⟩) (cg4:codeIn K PB "Machine.cells" = true) (kg4:keepIn K (.ref g4)=true)
  {g5:Addr} {ac3 ac4:Option Addr} {ac5:Array (Option Value)} {ac6 ac7 ac8 ac9 PD ada:Value} (ag5:findIn K (.ref C) "asides" = some (some (.ref g5))) (ig5:isFn K (.ref g5)=true) (lg5:K.lookup g5=some ⟨ac6,ac3,.func (fnOf "asides" "Machine.asides" (aF i6) (aA i6) (aj i6) .none ac7 ac8 ac9 ac4 PD ada),ac5⟩) (cg5:codeIn K PD "Machine.asides" = true) (kg5:keepIn K (.ref g5)=true)
  {g6:Addr} {adb ade:Option Addr} {adf:Array (Option Value)} {adg adh adi adj PF adk:Value} (ag6:findIn K (.ref C) "told" = some (some (.ref g6))) (ig6:isFn K (.ref g6)=true) (lg6:K.lookup g6=some ⟨adg,adb,.func (fnOf "told" "Machine.told" (aF p9) (aA p9) (aj p9) .none adh adi adj ade PF adk),adf⟩) (cg6:codeIn K PF "Machine.told" = true) (kg6:keepIn K (.ref g6)=true)
  {g7:Addr} {adl adn:Option Addr} {ado:Array (Option Value)} {adp adq adt adu PH adv:Value} (ag7:findIn K (.ref C) "seen" = some (some (.ref g7))) (ig7:isFn K (.ref g7)=true) (lg7:K.lookup g7=some ⟨adp,adl,.func (fnOf "seen" "Machine.seen" (aF qa) (aA qa) (aj qa) .none adq adt adu adn PH adv),ado⟩) (cg7:codeIn K PH "Machine.seen" = true) (kg7:keepIn K (.ref g7)=true)
  {g8:Addr} {adw adx:Option Addr} {ady:Array (Option Value)} {adz adA adB adC PJ adD:Value} (ag8:findIn K (.ref C) "deep" = some (some (.ref g8))) (ig8:isFn K (.ref g8)=true) (lg8:K.lookup g8=some ⟨adz,adw,.func (fnOf "deep" "Machine.deep" (aF qb) (aA qb) (aj qb) .none adA adB adC adx PJ adD),ady⟩) (cg8:codeIn K PJ "Machine.deep" = true) (kg8:keepIn K (.ref g8)=true)
  {g9:Addr} {adE adF:Option Addr} {adG:Array (Option Value)} {adH adI adJ adK PK adL:Value} (ag9:findIn K (.ref C) "step" = some (some (.ref g9))) (ig9:isFn K (.ref g9)=true) (lg9:K.lookup g9=some ⟨adH,adE,.func (fnOf "step" "Machine.step" (aF pZ) (aA pZ) (aj pZ) .none adI adJ adK adF PK adL),adG⟩) (cg9:codeIn K PK "Machine.step" = true) (kg9:keepIn K (.ref g9)=true)
  (pg:PySem.W.plainGet K C Str.empty=true) (hd:hasDictIn K C=true) (po:PySem.W.plainOver K C=true) (sa:findIn K (.ref C) "__setattr__" = some (some (.builtin "object.__setattr__"))) (mkc:PySem.W.makesIn K C=true) (kc:keepIn K (.ref C)=true)
  (n_program:findIn K (.ref C) "program" = some none)
  (n_in_boxes:findIn K (.ref C) "in_boxes" = some none)
  (n_in_cells:findIn K (.ref C) "in_cells" = some none)
  (n_in_asides:findIn K (.ref C) "in_asides" = some none)
  (n_rung:findIn K (.ref C) "rung" = some none)
  (n_told_numbers:findIn K (.ref C) "told_numbers" = some none)
  (n_seen_numbers:findIn K (.ref C) "seen_numbers" = some none)
  (n_pile:findIn K (.ref C) "pile" = some none)
  (n_marks_done:findIn K (.ref C) "marks_done" = some none)
  (n_here:findIn K (.ref C) "here" = some none)
  (n_how_ended:findIn K (.ref C) "how_ended" = some none)
  {pE:Addr} {oI:Array DictEntry} {nE:Nat} (aE:nsIn K mainGlobals "DEEDS" = some (some (.ref pE))) (lE:K.lookup pE=some ⟨.type "dict",none,.dict oI nE,#[]⟩) (kE:KeysLit w.params oI.toList) (oE:(pE == sysModules)=false)
  (e_stop:nsIn K pE "stop" = some (some (.ref Mg)))
  (e_halt:nsIn K pE "halt" = some (some (.ref Mh)))
  (e_back:nsIn K pE "back" = some (some (.ref Mi)))
  (e_set:nsIn K pE "set" = some (some (.ref Mj)))
  (e_more:nsIn K pE "more" = some (some (.ref Ml)))
  (e_copy:nsIn K pE "copy" = some (some (.ref Mp)))
  (e_add:nsIn K pE "add" = some (some (.ref Mq)))
  (e_less:nsIn K pE "less" = some (some (.ref Mr)))
  (e_load:nsIn K pE "load" = some (some (.ref Mt)))
  (e_keep:nsIn K pE "keep" = some (some (.ref Mu)))
  (e_tell:nsIn K pE "tell" = some (some (.ref Mv)))
  (e_see:nsIn K pE "see" = some (some (.ref Mw)))
  (e_put:nsIn K pE "put" = some (some (.ref Mx)))
  (e_take:nsIn K pE "take" = some (some (.ref Mz)))
  (e_jump:nsIn K pE "jump" = some (some (.ref MC)))
  (e_zero:nsIn K pE "zero" = some (some (.ref f32)))
  (e_below:nsIn K pE "below" = some (some (.ref MD)))
  (e_call:nsIn K pE "call" = some (some (.ref ME)))
  (e_mark:nsIn K pE "mark" = some (some (.ref MF)))
  (e_table:nsIn K pE "table" = some (some (.ref MH)))
  : ∃ fd:FuncData,(∀ (s:Shared) (v:Value),BindsTo s fd ⟨[v],[]⟩ [("_law_script",v)])∧∀ base:Heap,K.In base→base.Ns mainGlobals mg→aL l.prog w K mg base cg 8 fa fd ["_law_script"] (wa (K:=K)):=by
 have e:=hfa.symm.trans (mg_of X G a56)
 cases e
 have F0:=aQ (st:=gm) l0 c0 k0
 have b0:=F0.binds (ps:=["row"]) fun _ _ _ _ _ _ us hl=>match us,hl with | [_],_=>rfl
 have m0:=mg_of X G a0
 have F1:=aQ (st:=iQ) l1 c1 k1
 have b1:=F1.binds (ps:=["word"]) fun _ _ _ _ _ _ us hl=>match us,hl with | [_],_=>rfl
 have m1:=mg_of X G a1
 have F2:=aQ (st:=j9) l2 c2 k2
 have b2:=F2.binds (ps:=["row"]) fun _ _ _ _ _ _ us hl=>match us,hl with | [_],_=>rfl
 have m2:=mg_of X G a2
 have F3:=aQ (st:=gn) l3 c3 k3
 have b3:=F3.binds (ps:=["row", "far"]) fun _ _ _ _ _ _ us hl=>match us,hl with | [_,_],_=>rfl
 have m3:=mg_of X G a3
 have F4:=aQ (st:=eV) l4 c4 k4
 have b4:=F4.binds (ps:=["row", "kinds"]) fun _ _ _ _ _ _ us hl=>match us,hl with | [_,_],_=>rfl
 have m4:=mg_of X G a4
 have F5:=aQ (st:=pK) l5 c5 k5
 have b5:=F5.binds (ps:=["row"]) fun _ _ _ _ _ _ us hl=>match us,hl with | [_],_=>rfl
 have m5:=mg_of X G a5
 have F6:=aQ (st:=iR) l6 c6 k6
 have b6:=F6.binds (ps:=["rows"]) fun _ _ _ _ _ _ us hl=>match us,hl with | [_],_=>rfl
 have m6:=mg_of X G a6
 have F7:=aQ (st:=jt) l7 c7 k7
 have b7:=F7.binds (ps:=["rows", "begins", "r"]) fun _ _ _ _ _ _ us hl=>match us,hl with | [_,_,_],_=>rfl
 have m7:=mg_of X G a7
 have F8:=aQ (st:=iS) l8 c8 k8
 have b8:=F8.binds (ps:=["row"]) fun _ _ _ _ _ _ us hl=>match us,hl with | [_],_=>rfl
 have m8:=mg_of X G a8
 have F9:=aQ (st:=ke) l9 c9 k9
 have b9:=F9.binds (ps:=["distance"]) fun _ _ _ _ _ _ us hl=>match us,hl with | [_],_=>rfl
 have m9:=mg_of X G a9
 have F10:=aQ (st:=iT) l10 c10 k10
 have b10:=F10.binds (ps:=["rows"]) fun _ _ _ _ _ _ us hl=>match us,hl with | [_],_=>rfl
 have m10:=mg_of X G a10
 have F11:=aQ (st:=iU) l11 c11 k11
 have b11:=F11.binds (ps:=["rows"]) fun _ _ _ _ _ _ us hl=>match us,hl with | [_],_=>rfl
 have m11:=mg_of X G a11
 have F12:=aQ (st:=kf) l12 c12 k12
 have b12:=F12.binds (ps:=["rows", "r", "other"]) fun _ _ _ _ _ _ us hl=>match us,hl with | [_,_,_],_=>rfl
 have m12:=mg_of X G a12
 have F13:=aQ (st:=gq) l13 c13 k13
 have b13:=F13.binds (ps:=["distance"]) fun _ _ _ _ _ _ us hl=>match us,hl with | [_],_=>rfl
 have m13:=mg_of X G a13
 have F14:=aQ (st:=ju) l14 c14 k14
 have b14:=F14.binds (ps:=["rows"]) fun _ _ _ _ _ _ us hl=>match us,hl with | [_],_=>rfl
 have m14:=mg_of X G a14
 have F15:=aQ (st:=jv) l15 c15 k15
 have b15:=F15.binds (ps:=["rows"]) fun _ _ _ _ _ _ us hl=>match us,hl with | [_],_=>rfl
 have m15:=mg_of X G a15
 have F16:=aQ (st:=xt) l16 c16 k16
 have b16:=F16.binds (ps:=["machine", "how"]) fun _ _ _ _ _ _ us hl=>match us,hl with | [_,_],_=>rfl
 have m16:=mg_of X G a16
 have F17:=aQ (st:=ik) l17 c17 k17
 have b17:=F17.binds (ps:=["machine", "row"]) fun _ _ _ _ _ _ us hl=>match us,hl with | [_,_],_=>rfl
 have m17:=mg_of X G a17
 have F18:=aQ (st:=il) l18 c18 k18
 have b18:=F18.binds (ps:=["machine", "row"]) fun _ _ _ _ _ _ us hl=>match us,hl with | [_,_],_=>rfl
 have m18:=mg_of X G a18
 have F19:=aQ (st:=ip) l19 c19 k19
 have b19:=F19.binds (ps:=["machine", "row"]) fun _ _ _ _ _ _ us hl=>match us,hl with | [_,_],_=>rfl
 have m19:=mg_of X G a19
 have F20:=aQ (st:=lA) l20 c20 k20
 have b20:=F20.binds (ps:=["machine", "row"]) fun _ _ _ _ _ _ us hl=>match us,hl with | [_,_],_=>rfl
 have m20:=mg_of X G a20
 have F21:=aQ (st:=iq) l21 c21 k21
 have b21:=F21.binds (ps:=["machine", "row"]) fun _ _ _ _ _ _ us hl=>match us,hl with | [_,_],_=>rfl
 have m21:=mg_of X G a21
 have F22:=aQ (st:=iu) l22 c22 k22
 have b22:=F22.binds (ps:=["machine", "row"]) fun _ _ _ _ _ _ us hl=>match us,hl with | [_,_],_=>rfl
 have m22:=mg_of X G a22
 have F23:=aQ (st:=lB) l23 c23 k23
 have b23:=F23.binds (ps:=["machine", "row"]) fun _ _ _ _ _ _ us hl=>match us,hl with | [_,_],_=>rfl
 have m23:=mg_of X G a23
 have F24:=aQ (st:=iw) l24 c24 k24
 have b24:=F24.binds (ps:=["machine", "row"]) fun _ _ _ _ _ _ us hl=>match us,hl with | [_,_],_=>rfl
 have m24:=mg_of X G a24
 have F25:=aQ (st:=iy) l25 c25 k25
 have b25:=F25.binds (ps:=["machine", "row"]) fun _ _ _ _ _ _ us hl=>match us,hl with | [_,_],_=>rfl
 have m25:=mg_of X G a25
 have F26:=aQ (st:=iz) l26 c26 k26
 have b26:=F26.binds (ps:=["machine", "row"]) fun _ _ _ _ _ _ us hl=>match us,hl with | [_,_],_=>rfl
 have m26:=mg_of X G a26
 have F27:=aQ (st:=iA) l27 c27 k27
 have b27:=F27.binds (ps:=["machine", "row"]) fun _ _ _ _ _ _ us hl=>match us,hl with | [_,_],_=>rfl
 have m27:=mg_of X G a27
 have F28:=aQ (st:=lC) l28 c28 k28
 have b28:=F28.binds (ps:=["machine", "row"]) fun _ _ _ _ _ _ us hl=>match us,hl with | [_,_],_=>rfl
 have m28:=mg_of X G a28
 have F29:=aQ (st:=lD) l29 c29 k29
 have b29:=F29.binds (ps:=["machine", "row"]) fun _ _ _ _ _ _ us hl=>match us,hl with | [_,_],_=>rfl
 have m29:=mg_of X G a29
 have F30:=aQ (st:=iB) l30 c30 k30
 have b30:=F30.binds (ps:=["machine", "row"]) fun _ _ _ _ _ _ us hl=>match us,hl with | [_,_],_=>rfl
 have m30:=mg_of X G a30
 have F31:=aQ (st:=iC) l31 c31 k31
 have b31:=F31.binds (ps:=["machine", "row"]) fun _ _ _ _ _ _ us hl=>match us,hl with | [_,_],_=>rfl
 have m31:=mg_of X G a31
 have F32:=aQ (st:=iE) l32 c32 k32
 have b32:=F32.binds (ps:=["machine", "row"]) fun _ _ _ _ _ _ us hl=>match us,hl with | [_,_],_=>rfl
 have m32:=mg_of X G a32
 have F33:=aQ (st:=fz) l33 c33 k33
 have b33:=F33.binds (ps:=["machine", "row"]) fun _ _ _ _ _ _ us hl=>match us,hl with | [_,_],_=>rfl
 have m33:=mg_of X G a33
 have F34:=aQ (st:=iF) l34 c34 k34
 have b34:=F34.binds (ps:=["machine", "row"]) fun _ _ _ _ _ _ us hl=>match us,hl with | [_,_],_=>rfl
 have m34:=mg_of X G a34
 have F35:=aQ (st:=iG) l35 c35 k35
 have b35:=F35.binds (ps:=["machine", "row"]) fun _ _ _ _ _ _ us hl=>match us,hl with | [_,_],_=>rfl
 have m35:=mg_of X G a35
 have F36:=aQ (st:=fA) l36 c36 k36
 have b36:=F36.binds (ps:=["machine", "row"]) fun _ _ _ _ _ _ us hl=>match us,hl with | [_,_],_=>rfl
 have m36:=mg_of X G a36
 have F37:=aQ (st:=iZ) l37 c37 k37
 have b37:=F37.binds (ps:=["numbers"]) fun _ _ _ _ _ _ us hl=>match us,hl with | [_],_=>rfl
 have m37:=mg_of X G a37
 have F38:=aQ (st:=iV) l38 c38 k38
 have b38:=F38.binds (ps:=["row"]) fun _ _ _ _ _ _ us hl=>match us,hl with | [_],_=>rfl
 have m38:=mg_of X G a38
 have F39:=aQ (st:=kh) l39 c39 k39
 have b39:=F39.binds (ps:=["row", "distances"]) fun _ _ _ _ _ _ us hl=>match us,hl with | [_,_],_=>rfl
 have m39:=mg_of X G a39
 have F40:=aQ (st:=gJ) l40 c40 k40
 have b40:=F40.binds (ps:=["row", "distances"]) fun _ _ _ _ _ _ us hl=>match us,hl with | [_,_],_=>rfl
 have m40:=mg_of X G a40
 have F41:=aQ (st:=gK) l41 c41 k41
 have b41:=F41.binds (ps:=["row", "distances"]) fun _ _ _ _ _ _ us hl=>match us,hl with | [_,_],_=>rfl
 have m41:=mg_of X G a41
 have F42:=aQ (st:=ib) l42 c42 k42
 have b42:=F42.binds (ps:=["rows"]) fun _ _ _ _ _ _ us hl=>match us,hl with | [_],_=>rfl
 have m42:=mg_of X G a42
 have F43:=aQ (st:=pL) l43 c43 k43
 have b43:=F43.binds (ps:=["_law_script", "_law_k"]) fun _ _ _ _ _ _ us hl=>match us,hl with | [_,_],_=>rfl
 have m43:=mg_of X G a43
 have F44:=aQ (st:=iW) l44 c44 k44
 have b44:=F44.binds (ps:=["_law_cell", "_law_many"]) fun _ _ _ _ _ _ us hl=>match us,hl with | [_,_],_=>rfl
 have m44:=mg_of X G a44
 have F45:=aQ (st:=wV) l45 c45 k45
 have b45:=F45.binds (ps:=["_law_x", "_law_many"]) fun _ _ _ _ _ _ us hl=>match us,hl with | [_,_],_=>rfl
 have m45:=mg_of X G a45
 have F46:=aQ (st:=pM) l46 c46 k46
 have b46:=F46.binds (ps:=["_law_x", "_law_many", "_law_count"]) fun _ _ _ _ _ _ us hl=>match us,hl with | [_,_,_],_=>rfl
 have m46:=mg_of X G a46
 have F47:=aQ (st:=pN) l47 c47 k47
 have b47:=F47.binds (ps:=["_law_row_here", "_law_x"]) fun _ _ _ _ _ _ us hl=>match us,hl with | [_,_],_=>rfl
 have m47:=mg_of X G a47
 have F48:=aQ (st:=nU) l48 c48 k48
 have b48:=F48.binds (ps:=["_law_xs", "_law_many"]) fun _ _ _ _ _ _ us hl=>match us,hl with | [_,_],_=>rfl
 have m48:=mg_of X G a48
 have F49:=aQ (st:=tV) l49 c49 k49
 have b49:=F49.binds (ps:=["_law_row_here", "_law_first"]) fun _ _ _ _ _ _ us hl=>match us,hl with | [_,_],_=>rfl
 have m49:=mg_of X G a49
 have F50:=aQ (st:=kl) l50 c50 k50
 have b50:=F50.binds (ps:=["_law_row_here"]) fun _ _ _ _ _ _ us hl=>match us,hl with | [_],_=>rfl
 have m50:=mg_of X G a50
 have F51:=aQ (st:=eW) l51 c51 k51
 have b51:=F51.binds (ps:=["_law_xs"]) fun _ _ _ _ _ _ us hl=>match us,hl with | [_],_=>rfl
 have m51:=mg_of X G a51
 have F52:=aQ (st:=pO) l52 c52 k52
 have b52:=F52.binds (ps:=["_law_rows"]) fun _ _ _ _ _ _ us hl=>match us,hl with | [_],_=>rfl
 have m52:=mg_of X G a52
 have F53:=aQ (st:=eY) l53 c53 k53
 have b53:=F53.binds (ps:=["_law_rows"]) fun _ _ _ _ _ _ us hl=>match us,hl with | [_],_=>rfl
 have m53:=mg_of X G a53
 have F54:=aQ (st:=pQ) l54 c54 k54
 have b54:=F54.binds (ps:=["_law_rows", "_law_cell"]) fun _ _ _ _ _ _ us hl=>match us,hl with | [_,_],_=>rfl
 have m54:=mg_of X G a54
 have F55:=aQ (st:=dZ) l55 c55 k55
 have b55:=F55.binds (ps:=["_law_rows", "_law_cell"]) fun _ _ _ _ _ _ us hl=>match us,hl with | [_,_],_=>rfl
 have m55:=mg_of X G a55
 have F56:=aQ (st:=qM) l56 c56 k56
 have T:Txt K w.params mg:=⟨⟨pP,mg_of X G aP,cD ⟨qP0,⟨oH,nP,lP,kP,oP,_,eP0,rfl⟩,fun H=>.inr ⟨_,_,_,lP0,rfl,rfl,wU,.nil⟩⟩
   (cD ⟨qP1,⟨oH,nP,lP,kP,oP,_,eP1,rfl⟩,fun H=>.inr ⟨_,_,_,lP1,rfl,rfl,wU,.nil⟩⟩
   (cD ⟨qP2,⟨oH,nP,lP,kP,oP,_,eP2,rfl⟩,fun H=>.inr ⟨_,_,_,lP2,rfl,rfl,fc,.cons ⟨_,rfl⟩ (.nil)⟩⟩
   (cD ⟨qP3,⟨oH,nP,lP,kP,oP,_,eP3,rfl⟩,fun H=>.inr ⟨_,_,_,lP3,rfl,rfl,cB,.cons ⟨_,rfl⟩ (.cons ⟨_,rfl⟩ (.nil))⟩⟩
   (cD ⟨qP4,⟨oH,nP,lP,kP,oP,_,eP4,rfl⟩,fun H=>.inr ⟨_,_,_,lP4,rfl,rfl,cB,.cons ⟨_,rfl⟩ (.cons ⟨_,rfl⟩ (.nil))⟩⟩
   (cD ⟨qP5,⟨oH,nP,lP,kP,oP,_,eP5,rfl⟩,fun H=>.inr ⟨_,_,_,lP5,rfl,rfl,cB,.cons ⟨_,rfl⟩ (.cons ⟨_,rfl⟩ (.nil))⟩⟩
   (cD ⟨qP6,⟨oH,nP,lP,kP,oP,_,eP6,rfl⟩,fun H=>.inr ⟨_,_,_,lP6,rfl,rfl,cB,.cons ⟨_,rfl⟩ (.cons ⟨_,rfl⟩ (.nil))⟩⟩
   (cD ⟨qP7,⟨oH,nP,lP,kP,oP,_,eP7,rfl⟩,fun H=>.inr ⟨_,_,_,lP7,rfl,rfl,cB,.cons ⟨_,rfl⟩ (.cons ⟨_,rfl⟩ (.nil))⟩⟩
   (cD ⟨qP8,⟨oH,nP,lP,kP,oP,_,eP8,rfl⟩,fun H=>.inr ⟨_,_,_,lP8,rfl,rfl,cB,.cons ⟨_,rfl⟩ (.cons ⟨_,rfl⟩ (.nil))⟩⟩
   (cD ⟨qP9,⟨oH,nP,lP,kP,oP,_,eP9,rfl⟩,fun H=>.inr ⟨_,_,_,lP9,rfl,rfl,cB,.cons ⟨_,rfl⟩ (.cons ⟨_,rfl⟩ (.nil))⟩⟩
   (cD ⟨Ip,⟨oH,nP,lP,kP,oP,_,eP10,rfl⟩,fun H=>.inr ⟨_,_,_,lP10,rfl,rfl,fc,.cons ⟨_,rfl⟩ (.nil)⟩⟩
   (cD ⟨Ir,⟨oH,nP,lP,kP,oP,_,eP11,rfl⟩,fun H=>.inr ⟨_,_,_,lP11,rfl,rfl,cB,.cons ⟨_,rfl⟩ (.cons ⟨_,rfl⟩ (.nil))⟩⟩
   (cD ⟨Iw,⟨oH,nP,lP,kP,oP,_,eP12,rfl⟩,fun H=>.inr ⟨_,_,_,lP12,rfl,rfl,cB,.cons ⟨_,rfl⟩ (.cons ⟨_,rfl⟩ (.nil))⟩⟩
   (cD ⟨IA,⟨oH,nP,lP,kP,oP,_,eP13,rfl⟩,fun H=>.inr ⟨_,_,_,lP13,rfl,rfl,cB,.cons ⟨_,rfl⟩ (.cons ⟨_,rfl⟩ (.nil))⟩⟩
   (cD ⟨IE,⟨oH,nP,lP,kP,oP,_,eP14,rfl⟩,fun H=>.inr ⟨_,_,_,lP14,rfl,rfl,cB,.cons ⟨_,rfl⟩ (.cons ⟨_,rfl⟩ (.nil))⟩⟩
   (cD ⟨II,⟨oH,nP,lP,kP,oP,_,eP15,rfl⟩,fun H=>.inr ⟨_,_,_,lP15,rfl,rfl,gk,.cons ⟨_,rfl⟩ (.cons ⟨_,rfl⟩ (.cons ⟨_,rfl⟩ (.nil)))⟩⟩
   (cD ⟨IQ,⟨oH,nP,lP,kP,oP,_,eP16,rfl⟩,fun H=>.inr ⟨_,_,_,lP16,rfl,rfl,gk,.cons ⟨_,rfl⟩ (.cons ⟨_,rfl⟩ (.cons ⟨_,rfl⟩ (.nil)))⟩⟩
   (cD ⟨IY,⟨oH,nP,lP,kP,oP,_,eP17,rfl⟩,fun H=>.inr ⟨_,_,_,lP17,rfl,rfl,cB,.cons ⟨_,rfl⟩ (.cons ⟨_,rfl⟩ (.nil))⟩⟩
   (cD ⟨Ja,⟨oH,nP,lP,kP,oP,_,eP18,rfl⟩,fun H=>.inr ⟨_,_,_,lP18,rfl,rfl,cB,.cons ⟨_,rfl⟩ (.cons ⟨_,rfl⟩ (.nil))⟩⟩
   (cD ⟨Jd,⟨oH,nP,lP,kP,oP,_,eP19,rfl⟩,fun H=>.inr ⟨_,_,_,lP19,rfl,rfl,cB,.cons ⟨_,rfl⟩ (.cons ⟨_,rfl⟩ (.nil))⟩⟩
   (Im))))))))))))))))))))⟩,
  ⟨pT0,mg_of X G aT0,fun H=>.inr ⟨_,_,_,lT0,rfl,rfl,Gq,.cons ⟨_,rfl⟩ (.cons ⟨_,rfl⟩ (.cons ⟨_,rfl⟩ (.cons ⟨_,rfl⟩ (.cons ⟨_,rfl⟩ (.cons ⟨_,rfl⟩ (.nil))))))⟩⟩,⟨tLS,mg_of X G aLS⟩,⟨tGS,mg_of X G aGS⟩,⟨oB,mg_of X G aCODE_STEP⟩,⟨ql,mg_of X G aBOX_STEP⟩,⟨jU,mg_of X G aSHORT_ADDED⟩,⟨pT1,mg_of X G aT1,fun H=>.inr ⟨_,_,_,lT1,rfl,rfl,gk,.cons ⟨_,rfl⟩ (.cons ⟨_,rfl⟩ (.cons ⟨_,rfl⟩ (.nil)))⟩⟩,
  ⟨pH,mg_of X G aH,⟨_,lH,rfl,rfl⟩,fun H=>have hd:sL K H [Qs,Qt,Qu,Qv,Qw,Qx,Qy,Qz,QA,QB,DR,DS,DT,DU,DV,DW,DX,DY,DZ,D1,D5,D6,D7,D8,D9] heads:=(.cons (.inr ⟨_,_,_,lH0,rfl,rfl,cB,.cons ⟨_,rfl⟩ (.cons ⟨_,rfl⟩ .nil)⟩) (.cons (.inr ⟨_,_,_,lH1,rfl,rfl,cB,.cons ⟨_,rfl⟩ (.cons ⟨_,rfl⟩ .nil)⟩) (.cons (.inr ⟨_,_,_,lH2,rfl,rfl,cB,.cons ⟨_,rfl⟩ (.cons ⟨_,rfl⟩ .nil)⟩) (.cons (.inr ⟨_,_,_,lH3,rfl,rfl,cB,.cons ⟨_,rfl⟩ (.cons ⟨_,rfl⟩ .nil)⟩) (.cons (.inr ⟨_,_,_,lH4,rfl,rfl,cB,.cons ⟨_,rfl⟩ (.cons ⟨_,rfl⟩ .nil)⟩) (.cons (.inr ⟨_,_,_,lH5,rfl,rfl,cB,.cons ⟨_,rfl⟩ (.cons ⟨_,rfl⟩ .nil)⟩) (.cons (.inr ⟨_,_,_,lH6,rfl,rfl,cB,.cons ⟨_,rfl⟩ (.cons ⟨_,rfl⟩ .nil)⟩) (.cons (.inr ⟨_,_,_,lH7,rfl,rfl,cB,.cons ⟨_,rfl⟩ (.cons ⟨_,rfl⟩ .nil)⟩) (.cons (.inr ⟨_,_,_,lH8,rfl,rfl,cB,.cons ⟨_,rfl⟩ (.cons ⟨_,rfl⟩ .nil)⟩) (.cons (.inr ⟨_,_,_,lH9,rfl,rfl,cB,.cons ⟨_,rfl⟩ (.cons ⟨_,rfl⟩ .nil)⟩) (.cons (.inr ⟨_,_,_,lH10,rfl,rfl,cB,.cons ⟨_,rfl⟩ (.cons ⟨_,rfl⟩ .nil)⟩) (.cons (.inr ⟨_,_,_,lH11,rfl,rfl,cB,.cons ⟨_,rfl⟩ (.cons ⟨_,rfl⟩ .nil)⟩) (.cons (.inr ⟨_,_,_,lH12,rfl,rfl,cB,.cons ⟨_,rfl⟩ (.cons ⟨_,rfl⟩ .nil)⟩) (.cons (.inr ⟨_,_,_,lH13,rfl,rfl,cB,.cons ⟨_,rfl⟩ (.cons ⟨_,rfl⟩ .nil)⟩) (.cons (.inr ⟨_,_,_,lH14,rfl,rfl,cB,.cons ⟨_,rfl⟩ (.cons ⟨_,rfl⟩ .nil)⟩) (.cons (.inr ⟨_,_,_,lH15,rfl,rfl,cB,.cons ⟨_,rfl⟩ (.cons ⟨_,rfl⟩ .nil)⟩) (.cons (.inr ⟨_,_,_,lH16,rfl,rfl,cB,.cons ⟨_,rfl⟩ (.cons ⟨_,rfl⟩ .nil)⟩) (.cons (.inr ⟨_,_,_,lH17,rfl,rfl,cB,.cons ⟨_,rfl⟩ (.cons ⟨_,rfl⟩ .nil)⟩) (.cons (.inr ⟨_,_,_,lH18,rfl,rfl,cB,.cons ⟨_,rfl⟩ (.cons ⟨_,rfl⟩ .nil)⟩) (.cons (.inr ⟨_,_,_,lH19,rfl,rfl,cB,.cons ⟨_,rfl⟩ (.cons ⟨_,rfl⟩ .nil)⟩) (.cons (.inr ⟨_,_,_,lH20,rfl,rfl,cB,.cons ⟨_,rfl⟩ (.cons ⟨_,rfl⟩ .nil)⟩) (.cons (.inr ⟨_,_,_,lH21,rfl,rfl,cB,.cons ⟨_,rfl⟩ (.cons ⟨_,rfl⟩ .nil)⟩) (.cons (.inr ⟨_,_,_,lH22,rfl,rfl,cB,.cons ⟨_,rfl⟩ (.cons ⟨_,rfl⟩ .nil)⟩) (.cons (.inr ⟨_,_,_,lH23,rfl,rfl,cB,.cons ⟨_,rfl⟩ (.cons ⟨_,rfl⟩ .nil)⟩) (.cons (.inr ⟨_,_,_,lH24,rfl,rfl,cB,.cons ⟨_,rfl⟩ (.cons ⟨_,rfl⟩ .nil)⟩) .nil))))))))))))))))))))))))); ⟨_,.inr ⟨_,_,_,lH,rfl,rfl,Kt,qj [Qs,Qt,Qu,Qv,Qw,Qx,Qy,Qz,QA,QB,DR,DS,DT,DU,DV,DW,DX,DY,DZ,D1,D5,D6,D7,D8,D9]⟩,hd.len,hd.get⟩⟩,⟨Si,mg_of X G aMO⟩,mg_none_of X G z_len,mg_none_of X G z_list,mg_none_of X G z_tuple,mg_none_of X G z_int,mg_none_of X G z_enumerate,mg_none_of X G z_range,mg_none_of X G z_min,mg_none_of X G z_max,mg_none_of X G z_sum,mg_none_of X G z_zip,mg_none_of X G z_dict⟩
 refine ⟨fnOf "law" "law" (aF qM) (aA qM) (aj qM) .none NN NP NQ MI Io NR,fun s v=>.of_eq rfl,fun base _ _=>?_⟩
 have FI:=aQ (st:=JD) lgI cgI kgI
 have bI:=FI.binds (ps:=["self", "at"]) fun _ _ _ _ _ _ us hl=>match us,hl with | [_,_],_=>rfl
 have CX:jc K bK dG gI:=⟨⟨_,_,_,_,_,_,_,_,_,_,_,_,_,_,xlk⟩,agI,igI,⟨xq⟩,xrt,xsa,xna,xnt,xhd,⟨xga,xgh,xcl,xgt,xtk,xob,xbx,by rw [xci]; rfl⟩,xsg,xrr,xfi⟩
 have mRE:=mg_of X G xRowError
 have RE:=mg_of X G xNoLayout
 have GI:=Mf (P:=l.prog) (w:=w) (base:=base) FI CX mRE
 have GTa:=tY (P:=l.prog) (w:=w) (base:=base) F0 T
 have PL:=Gu (P:=l.prog) (w:=w) (base:=base) F1 T
 have GSz:=Ce (P:=l.prog) (w:=w) (base:=base) F5 T PL F1.kp b1 m1
 have GBg:=wZ (P:=l.prog) (w:=w) (base:=base) F6 T GSz F5.kp b5 m5
 have GDs:=zj (P:=l.prog) (w:=w) (base:=base) F7 T GTa F0.kp b0 m0
 have GSj:=Gv (P:=l.prog) (w:=w) (base:=base) F8 T PL F1.kp b1 m1
 have GBo:=zg (P:=l.prog) (w:=w) (base:=base) F9 T
 have GSd:=w4 (P:=l.prog) (w:=w) (base:=base) F10 T GBg F6.kp b6 m6 GSj F8.kp b8 m8 GDs F7.kp b7 m7
 have GCk:=zt (P:=l.prog) (w:=w) (base:=base) F11 T GSd F10.kp b10 m10 GBo F9.kp b9 m9 CX xkc GI bI RE
 have GC:=Cj (P:=l.prog) (w:=w) (base:=base) F43 T
 have GSt:=w6 (P:=l.prog) (w:=w) (base:=base) F44 T
 have GTg:=GK (P:=l.prog) (w:=w) (base:=base) F46 T
 have GRo:=GQ (P:=l.prog) (w:=w) (base:=base) F45 T GTg F46.kp b46 m46
 have GLa:=Cm (P:=l.prog) (w:=w) (base:=base) F47 T
 have GLe:=Ha (P:=l.prog) (w:=w) (base:=base) F49 T
 have GPr:=Cr (P:=l.prog) (w:=w) (base:=base) F48 T GRo F45.kp b45 m45 GLa F47.kp b47 m47 GLe F49.kp b49 m49
 have GLz:=Ao (P:=l.prog) (w:=w) (base:=base) F50 T
 have GCr:=Md (P:=l.prog) (w:=w) (base:=base) F51 T GLe F49.kp b49 m49
 have GGd:=Lv (P:=l.prog) (w:=w) (base:=base) F52 T GLz F50.kp b50 m50
 have GLy:=Lx (P:=l.prog) (w:=w) (base:=base) F53 T GGd F52.kp b52 m52
 have GJo:=Lj (P:=l.prog) (w:=w) (base:=base) F12 T GTa F0.kp b0 m0
 have GOf:=Ln (P:=l.prog) (w:=w) (base:=base) F13 T
 have GWf:=Lq (P:=l.prog) (w:=w) (base:=base) F3 T PL F1.kp b1 m1
 have GTl:=A7 (P:=l.prog) (w:=w) (base:=base) F14 T GSd F10.kp b10 m10 GBo F9.kp b9 m9 GJo F12.kp b12 m12 GOf F13.kp b13 m13
 have GLl:=A8 (P:=l.prog) (w:=w) (base:=base) F15 T GTl F14.kp b14 m14 GWf F3.kp b3 m3
 have GFo:=AQ (P:=l.prog) (w:=w) (base:=base) F2 T PL F1.kp b1 m1
 have GPa:=AR (P:=l.prog) (w:=w) (base:=base) F4 T
 have GHd:=DH (P:=l.prog) (w:=w) (base:=base) F38 T GFo F2.kp b2 m2
 have GLo:=HR (P:=l.prog) (w:=w) (base:=base) F39 T GSj F8.kp b8 m8 GPa F4.kp b4 m4
 have GFi:=AY (P:=l.prog) (w:=w) (base:=base) F40 T GPa F4.kp b4 m4 GHd F38.kp b38 m38 GLo F39.kp b39 m39
 have GOt:=AZ (P:=l.prog) (w:=w) (base:=base) F41 T PL F1.kp b1 m1 GPa F4.kp b4 m4
 have GUn:=A1 (P:=l.prog) (w:=w) (base:=base) F42 T GCk F11.kp b11 m11 GBg F6.kp b6 m6 GDs F7.kp b7 m7 GFi F40.kp b40 m40 GOt F41.kp b41 m41
 have FM0:=aQ (st:=pX) lg0 cg0 kg0
 have bm0:=FM0.binds (ps:=["self", "rows", "boxes", "cells", "bells"]) fun _ _ _ _ _ _ us hl=>match us,hl with | [_,_,_,_,_],_=>rfl
 have FM1:=aQ (st:=pY) lg1 cg1 kg1
 have bm1:=FM1.binds (ps:=["self"]) fun _ _ _ _ _ _ us hl=>match us,hl with | [_],_=>rfl
 have FM2:=aQ (st:=i5) lg2 cg2 kg2
 have bm2:=FM2.binds (ps:=["self"]) fun _ _ _ _ _ _ us hl=>match us,hl with | [_],_=>rfl
 have FM3:=aQ (st:=kr) lg3 cg3 kg3
 have bm3:=FM3.binds (ps:=["self"]) fun _ _ _ _ _ _ us hl=>match us,hl with | [_],_=>rfl
 have FM4:=aQ (st:=ku) lg4 cg4 kg4
 have bm4:=FM4.binds (ps:=["self"]) fun _ _ _ _ _ _ us hl=>match us,hl with | [_],_=>rfl
 have FM5:=aQ (st:=i6) lg5 cg5 kg5
 have bm5:=FM5.binds (ps:=["self"]) fun _ _ _ _ _ _ us hl=>match us,hl with | [_],_=>rfl
 have FM6:=aQ (st:=p9) lg6 cg6 kg6
 have bm6:=FM6.binds (ps:=["self"]) fun _ _ _ _ _ _ us hl=>match us,hl with | [_],_=>rfl
 have FM7:=aQ (st:=qa) lg7 cg7 kg7
 have bm7:=FM7.binds (ps:=["self"]) fun _ _ _ _ _ _ us hl=>match us,hl with | [_],_=>rfl
 have FM8:=aQ (st:=qb) lg8 cg8 kg8
 have bm8:=FM8.binds (ps:=["self"]) fun _ _ _ _ _ _ us hl=>match us,hl with | [_],_=>rfl
 have FM9:=aQ (st:=pZ) lg9 cg9 kg9
 have bm9:=FM9.binds (ps:=["self"]) fun _ _ _ _ _ _ us hl=>match us,hl with | [_],_=>rfl
 have MT:je K mg C:=⟨⟨pg,hd,po,sa⟩,n_program,n_in_boxes,n_in_cells,n_in_asides,n_rung,n_told_numbers,n_seen_numbers,n_pile,n_marks_done,n_here,n_how_ended⟩
 have GE:=Hj (P:=l.prog) (w:=w) (base:=base) F16 MT
 have GNo:=xv (P:=l.prog) (w:=w) (base:=base) F37 T
 have GCa:=vE (P:=l.prog) (w:=w) (base:=base) F34 MT
 have DD:EJ l.prog w K mg base C pE:=⟨⟨Mg,_,⟨oI,nE,lE,kE,oE,_,e_stop,rfl⟩,CV F17 MT GE F16.kp b16 m16,b17,F17.kp⟩,⟨Mh,_,⟨oI,nE,lE,kE,oE,_,e_halt,rfl⟩,CY F18 MT GE F16.kp b16 m16,b18,F18.kp⟩,⟨Mi,_,⟨oI,nE,lE,kE,oE,_,e_back,rfl⟩,C0 F19 MT GE F16.kp b16 m16 T.len,b19,F19.kp⟩,⟨Mj,_,⟨oI,nE,lE,kE,oE,_,e_set,rfl⟩,(Hl (P:=l.prog) (base:=base) F20 MT).mono (by decide),b20,F20.kp⟩,⟨Ml,_,⟨oI,nE,lE,kE,oE,_,e_more,rfl⟩,(CA (P:=l.prog) (base:=base) F21 MT).mono (by decide),b21,F21.kp⟩,⟨Mp,_,⟨oI,nE,lE,kE,oE,_,e_copy,rfl⟩,(CC (P:=l.prog) (base:=base) F22 MT).mono (by decide),b22,F22.kp⟩,⟨Mq,_,⟨oI,nE,lE,kE,oE,_,e_add,rfl⟩,(Hn (P:=l.prog) (base:=base) F23 MT).mono (by decide),b23,F23.kp⟩,⟨Mr,_,⟨oI,nE,lE,kE,oE,_,e_less,rfl⟩,(CF (P:=l.prog) (base:=base) F24 MT).mono (by decide),b24,F24.kp⟩,⟨Mt,_,⟨oI,nE,lE,kE,oE,_,e_load,rfl⟩,(CH (P:=l.prog) (base:=base) F25 MT).mono (by decide),b25,F25.kp⟩,⟨Mu,_,⟨oI,nE,lE,kE,oE,_,e_keep,rfl⟩,(CL (P:=l.prog) (base:=base) F26 MT).mono (by decide),b26,F26.kp⟩,⟨Mv,_,⟨oI,nE,lE,kE,oE,_,e_tell,rfl⟩,(CN (P:=l.prog) (base:=base) F27 MT).mono (by decide),b27,F27.kp⟩,⟨Mw,_,⟨oI,nE,lE,kE,oE,_,e_see,rfl⟩,(Hs (P:=l.prog) (base:=base) F28 MT).mono (by decide),b28,F28.kp⟩,⟨Mx,_,⟨oI,nE,lE,kE,oE,_,e_put,rfl⟩,(Hq (P:=l.prog) (base:=base) F29 MT).mono (by decide),b29,F29.kp⟩,⟨Mz,_,⟨oI,nE,lE,kE,oE,_,e_take,rfl⟩,(CJ (P:=l.prog) (base:=base) F30 MT).mono (by decide),b30,F30.kp⟩,⟨MC,_,⟨oI,nE,lE,kE,oE,_,e_jump,rfl⟩,(CP (P:=l.prog) (base:=base) F31 MT).mono (by decide),b31,F31.kp⟩,⟨f32,_,⟨oI,nE,lE,kE,oE,_,e_zero,rfl⟩,(CT (P:=l.prog) (base:=base) F32 MT).mono (by decide),b32,F32.kp⟩,⟨MD,_,⟨oI,nE,lE,kE,oE,_,e_below,rfl⟩,(zX (P:=l.prog) (base:=base) F33 MT).mono (by decide),b33,F33.kp⟩,⟨ME,_,⟨oI,nE,lE,kE,oE,_,e_call,rfl⟩,(vE (P:=l.prog) (base:=base) F34 MT).mono (by decide),b34,F34.kp⟩,⟨MF,_,⟨oI,nE,lE,kE,oE,_,e_mark,rfl⟩,C2 F35 MT GCa F34.kp b34 m34,b35,F35.kp⟩,⟨MH,_,⟨oI,nE,lE,kE,oE,_,e_table,rfl⟩,(zY (P:=l.prog) (base:=base) F36 MT T.len).mono (by decide),b36,F36.kp⟩⟩
 have GRn:=LD (P:=l.prog) (w:=w) (base:=base) F54 T MT (mg_of X G aC) ⟨mkc,ag0,ig0,kc⟩ (C4 FM0 T MT) bm0 ⟨ag1,ig1,kg1⟩ (C5 FM1 T MT) bm1 ⟨ag2,ig2,kg2⟩ (xu FM2 T MT) bm2 ⟨ag3,ig3,kg3⟩ (Ac FM3 T MT) bm3 ⟨ag4,ig4,kg4⟩ (Ag FM4 T MT GNo F37.kp b37 m37) bm4 ⟨ag5,ig5,kg5⟩ (xA FM5 T MT GNo F37.kp b37 m37) bm5 ⟨ag6,ig6,kg6⟩ (C7 FM6 T MT) bm6 ⟨ag7,ig7,kg7⟩ (C8 FM7 T MT) bm7 ⟨ag8,ig8,kg8⟩ (C9 FM8 T MT) bm8 ⟨ag9,ig9,kg9⟩ (Dm FM9 MT (mg_of X G aE) DD) bm9
 have GRi:=L5 (P:=l.prog) (w:=w) (base:=base) F55 T GLy F53.kp b53 m53 GLl F15.kp b15 m15 GLz F50.kp b50 m50 GRn F54.kp b54 m54 GUn F42.kp b42 m42
 exact Ik F56 T GC F43.kp b43 m43 GSt F44.kp b44 m44 GPr F48.kp b48 m48 GCr F51.kp b51 m51 GRi F55.kp b55 m55
theorem walk {l:OpenLaw} {q:Program} {loose:List Str} {XP:(Str→Option Value)→Heap→Prop} {YP:World→Heap→Prop} {d:DefRec} {K:Params→Frag} (hn:l.most=some 63) (hdf:d.params.defaults=[])
  (hY:∀ (w:World) (h:Heap),YP w h→(K w.params).In h)
  (F:∀ (w:World) (mg:Str→Option Value) (fa:Addr) (h:Heap),(K w.params).In h→h.Ns mainGlobals mg→mg d.name=some (.ref fa) →
   ∃ fd:FuncData,(∀ (s:Shared) (u:Value),BindsTo s fd ⟨[u],[]⟩ [("_law_script",u)])∧∀ base:Heap,(K w.params).In base→base.Ns mainGlobals mg→aL l.prog w (K w.params) mg base cg 8 fa fd ["_law_script"] (wa (K:=K w.params))) :
  WalkO q loose XP YP l.row.toRowW d [] (fun f vs=>PySem.call f vs) :=
 L2.uU (n:=63) (k:=8) (x := "_law_script") (CX:=fun _=>cg) (sp:=fun w=>wa (K:=K w.params)) hn (by decide) hdf ⟨rfl,by decide,by decide⟩ hY F (fun _ _ a ns hl _ hS=>⟨a,ns,rfl,hS,hl,fun _=>rfl⟩) fun _ _ _ _ _ z=>z
end My
open PySem PySem.W PyProof.Rows
set_option maxRecDepth 100000 in
set_option maxHeartbeats 0 in
theorem PySem.Challenge.cw_widenrows_k96_whole_no_good_layout_has_f_holds : PySem.Challenge.rw_widenrows_k96_whole_no_good_layout_has_f.Holds := by
 w_on; o_law; k_head; (case hw=>w_witness2)
 k_fill
 refine My.walk (l:=PySem.Challenge.rw_widenrows_k96_whole_no_good_layout_has_f) rfl rfl (fun w h Y=>kIn_of Y) ?F
 case F =>
  intro w mg fa h KX G hmg
  refine' My.all_mk KX G hmg ?a0 ?l0 ?c0 ?k0 ?a1 ?l1 ?c1 ?k1 ?a2 ?l2 ?c2 ?k2 ?a3 ?l3 ?c3 ?k3 ?a4 ?l4 ?c4 ?k4 ?a5 ?l5 ?c5 ?k5 ?a6 ?l6 ?c6 ?k6 ?a7 ?l7 ?c7 ?k7 ?a8 ?l8 ?c8 ?k8 ?a9 ?l9 ?c9 ?k9 ?a10 ?l10 ?c10 ?k10 ?a11 ?l11 ?c11 ?k11 ?a12 ?l12 ?c12 ?k12 ?a13 ?l13 ?c13 ?k13 ?a14 ?l14 ?c14 ?k14 ?a15 ?l15 ?c15 ?k15 ?a16 ?l16 ?c16 ?k16 ?a17 ?l17 ?c17 ?k17 ?a18 ?l18 ?c18 ?k18 ?a19 ?l19 ?c19 ?k19 ?a20 ?l20 ?c20 ?k20 ?a21 ?l21 ?c21 ?k21 ?a22 ?l22 ?c22 ?k22 ?a23 ?l23 ?c23 ?k23 ?a24 ?l24 ?c24 ?k24 ?a25 ?l25 ?c25 ?k25 ?a26 ?l26 ?c26 ?k26 ?a27 ?l27 ?c27 ?k27 ?a28 ?l28 ?c28 ?k28 ?a29 ?l29 ?c29 ?k29 ?a30 ?l30 ?c30 ?k30 ?a31 ?l31 ?c31 ?k31 ?a32 ?l32 ?c32 ?k32 ?a33 ?l33 ?c33 ?k33 ?a34 ?l34 ?c34 ?k34 ?a35 ?l35 ?c35 ?k35 ?a36 ?l36 ?c36 ?k36 ?a37 ?l37 ?c37 ?k37 ?a38 ?l38 ?c38 ?k38 ?a39 ?l39 ?c39 ?k39 ?a40 ?l40 ?c40 ?k40 ?a41 ?l41 ?c41 ?k41 ?a42 ?l42 ?c42 ?k42 ?a43 ?l43 ?c43 ?k43 ?a44 ?l44 ?c44 ?k44 ?a45 ?l45 ?c45 ?k45 ?a46 ?l46 ?c46 ?k46 ?a47 ?l47 ?c47 ?k47 ?a48 ?l48 ?c48 ?k48 ?a49 ?l49 ?c49 ?k49 ?a50 ?l50 ?c50 ?k50 ?a51 ?l51 ?c51 ?k51 ?a52 ?l52 ?c52 ?k52 ?a53 ?l53 ?c53 ?k53 ?a54 ?l54 ?c54 ?k54 ?a55 ?l55 ?c55 ?k55 ?a56 ?l56 ?c56 ?k56 ?aT0 ?lT0 ?aT1 ?lT1 ?z_len ?z_list ?z_tuple ?z_int ?z_enumerate ?z_range ?z_min ?z_max ?z_sum ?z_zip ?z_dict ?aP ?lP ?kP ?oP ?eP0 ?lP0 ?eP1 ?lP1 ?eP2 ?lP2 ?eP3 ?lP3 ?eP4 ?lP4 ?eP5 ?lP5 ?eP6 ?lP6 ?eP7 ?lP7 ?eP8 ?lP8 ?eP9 ?lP9 ?eP10 ?lP10 ?eP11 ?lP11 ?eP12 ?lP12 ?eP13 ?lP13 ?eP14 ?lP14 ?eP15 ?lP15 ?eP16 ?lP16 ?eP17 ?lP17 ?eP18 ?lP18 ?eP19 ?lP19 ?aLS ?aGS ?aMO ?aCODE_STEP ?aBOX_STEP ?aSHORT_ADDED ?aH ?lH ?lH0 ?lH1 ?lH2 ?lH3 ?lH4 ?lH5 ?lH6 ?lH7 ?lH8 ?lH9 ?lH10 ?lH11 ?lH12 ?lH13 ?lH14 ?lH15 ?lH16 ?lH17 ?lH18 ?lH19 ?lH20 ?lH21 ?lH22 ?lH23 ?lH24 ?xNoLayout ?xRowError ?agI ?igI ?lgI ?cgI ?kgI ?xlk ?xq ?xrt ?xsa ?xna ?xnt ?xhd ?xga ?xgh ?xcl ?xgt ?xtk ?xob ?xbx ?xci ?xsg ?xrr ?xfi ?xkc ?xexm ?xown ?xval ?aC ?ag0 ?ig0 ?lg0 ?cg0 ?kg0 ?ag1 ?ig1 ?lg1 ?cg1 ?kg1 ?ag2 ?ig2 ?lg2 ?cg2 ?kg2 ?ag3 ?ig3 ?lg3 ?cg3 ?kg3 ?ag4 ?ig4 ?lg4 ?cg4 ?kg4 ?ag5 ?ig5 ?lg5 ?cg5 ?kg5 ?ag6 ?ig6 ?lg6 ?cg6 ?kg6 ?ag7 ?ig7 ?lg7 ?cg7 ?kg7 ?ag8 ?ig8 ?lg8 ?cg8 ?kg8 ?ag9 ?ig9 ?lg9 ?cg9 ?kg9 ?pg ?hd ?po ?sa ?mkc ?kc ?n_program ?n_in_boxes ?n_in_cells ?n_in_asides ?n_rung ?n_told_numbers ?n_seen_numbers ?n_pile ?n_marks_done ?n_here ?n_how_ended ?aE ?lE ?kE ?oE ?e_stop ?e_halt ?e_back ?e_set ?e_more ?e_copy ?e_add ?e_less ?e_load ?e_keep ?e_tell ?e_see ?e_put ?e_take ?e_jump ?e_zero ?e_below ?e_call ?e_mark ?e_table
  (case a0=>k_is)
  (case l0=>k_is)
  (case c0=>k_is)
  (case k0=>k_is)
  (case a1=>k_is)
  (case l1=>k_is)
  (case c1=>k_is)
  (case k1=>k_is)
  (case a2=>k_is)
  (case l2=>k_is)
  (case c2=>k_is)
  (case k2=>k_is)
  (case a3=>k_is)
  (case l3=>k_is)
  (case c3=>k_is)
  (case k3=>k_is)
  (case a4=>k_is)
  (case l4=>k_is)
  (case c4=>k_is)
  (case k4=>k_is)
  (case a5=>k_is)
  (case l5=>k_is)
  (case c5=>k_is)
  (case k5=>k_is)
  (case a6=>k_is)
  (case l6=>k_is)
  (case c6=>k_is)
  (case k6=>k_is)
  (case a7=>k_is)
  (case l7=>k_is)
  (case c7=>k_is)
  (case k7=>k_is)
  (case a8=>k_is)
  (case l8=>k_is)
  (case c8=>k_is)
  (case k8=>k_is)
  (case a9=>k_is)
  (case l9=>k_is)
  (case c9=>k_is)
  (case k9=>k_is)
  (case a10=>k_is)
  (case l10=>k_is)
  (case c10=>k_is)
  (case k10=>k_is)
  (case a11=>k_is)
  (case l11=>k_is)
  (case c11=>k_is)
  (case k11=>k_is)
  (case a12=>k_is)
  (case l12=>k_is)
  (case c12=>k_is)
  (case k12=>k_is)
  (case a13=>k_is)
  (case l13=>k_is)
  (case c13=>k_is)
  (case k13=>k_is)
  (case a14=>k_is)
  (case l14=>k_is)
  (case c14=>k_is)
  (case k14=>k_is)
  (case a15=>k_is)
  (case l15=>k_is)
  (case c15=>k_is)
  (case k15=>k_is)
  (case a16=>k_is)
  (case l16=>k_is)
  (case c16=>k_is)
  (case k16=>k_is)
  (case a17=>k_is)
  (case l17=>k_is)
  (case c17=>k_is)
  (case k17=>k_is)
  (case a18=>k_is)
  (case l18=>k_is)
  (case c18=>k_is)
  (case k18=>k_is)
  (case a19=>k_is)
  (case l19=>k_is)
  (case c19=>k_is)
  (case k19=>k_is)
  (case a20=>k_is)
  (case l20=>k_is)
  (case c20=>k_is)
  (case k20=>k_is)
  (case a21=>k_is)
  (case l21=>k_is)
  (case c21=>k_is)
  (case k21=>k_is)
  (case a22=>k_is)
  (case l22=>k_is)
  (case c22=>k_is)
  (case k22=>k_is)
  (case a23=>k_is)
  (case l23=>k_is)
  (case c23=>k_is)
  (case k23=>k_is)
  (case a24=>k_is)
  (case l24=>k_is)
  (case c24=>k_is)
  (case k24=>k_is)
  (case a25=>k_is)
  (case l25=>k_is)
  (case c25=>k_is)
  (case k25=>k_is)
  (case a26=>k_is)
  (case l26=>k_is)
  (case c26=>k_is)
  (case k26=>k_is)
  (case a27=>k_is)
  (case l27=>k_is)
  (case c27=>k_is)
  (case k27=>k_is)
  (case a28=>k_is)
  (case l28=>k_is)
  (case c28=>k_is)
  (case k28=>k_is)
  (case a29=>k_is)
  (case l29=>k_is)
  (case c29=>k_is)
  (case k29=>k_is)
  (case a30=>k_is)
  (case l30=>k_is)
  (case c30=>k_is)
  (case k30=>k_is)
  (case a31=>k_is)
  (case l31=>k_is)
  (case c31=>k_is)
  (case k31=>k_is)
  (case a32=>k_is)
  (case l32=>k_is)
  (case c32=>k_is)
  (case k32=>k_is)
  (case a33=>k_is)
  (case l33=>k_is)
  (case c33=>k_is)
  (case k33=>k_is)
  (case a34=>k_is)
  (case l34=>k_is)
  (case c34=>k_is)
  (case k34=>k_is)
  (case a35=>k_is)
  (case l35=>k_is)
  (case c35=>k_is)
  (case k35=>k_is)
  (case a36=>k_is)
  (case l36=>k_is)
  (case c36=>k_is)
  (case k36=>k_is)
  (case a37=>k_is)
  (case l37=>k_is)
  (case c37=>k_is)
  (case k37=>k_is)
  (case a38=>k_is)
  (case l38=>k_is)
  (case c38=>k_is)
  (case k38=>k_is)
  (case a39=>k_is)
  (case l39=>k_is)
  (case c39=>k_is)
  (case k39=>k_is)
  (case a40=>k_is)
  (case l40=>k_is)
  (case c40=>k_is)
  (case k40=>k_is)
  (case a41=>k_is)
  (case l41=>k_is)
  (case c41=>k_is)
  (case k41=>k_is)
  (case a42=>k_is)
  (case l42=>k_is)
  (case c42=>k_is)
  (case k42=>k_is)
  (case a43=>k_is)
  (case l43=>k_is)
  (case c43=>k_is)
  (case k43=>k_is)
  (case a44=>k_is)
  (case l44=>k_is)
  (case c44=>k_is)
  (case k44=>k_is)
  (case a45=>k_is)
  (case l45=>k_is)
  (case c45=>k_is)
  (case k45=>k_is)
  (case a46=>k_is)
  (case l46=>k_is)
  (case c46=>k_is)
  (case k46=>k_is)
  (case a47=>k_is)
  (case l47=>k_is)
  (case c47=>k_is)
  (case k47=>k_is)
  (case a48=>k_is)
  (case l48=>k_is)
  (case c48=>k_is)
  (case k48=>k_is)
  (case a49=>k_is)
  (case l49=>k_is)
  (case c49=>k_is)
  (case k49=>k_is)
  (case a50=>k_is)
  (case l50=>k_is)
  (case c50=>k_is)
  (case k50=>k_is)
  (case a51=>k_is)
  (case l51=>k_is)
  (case c51=>k_is)
  (case k51=>k_is)
  (case a52=>k_is)
  (case l52=>k_is)
  (case c52=>k_is)
  (case k52=>k_is)
  (case a53=>k_is)
  (case l53=>k_is)
  (case c53=>k_is)
  (case k53=>k_is)
  (case a54=>k_is)
  (case l54=>k_is)
  (case c54=>k_is)
  (case k54=>k_is)
  (case a55=>k_is)
  (case l55=>k_is)
  (case c55=>k_is)
  (case k55=>k_is)
  (case a56=>k_is)
  (case l56=>k_is)
  (case c56=>k_is)
  (case k56=>k_is)
  (case aT0=>k_is)
  (case lT0=>k_is)
  (case aT1=>k_is)
  (case lT1=>k_is)
  (case z_len=>k_is)
  (case z_list=>k_is)
  (case z_tuple=>k_is)
  (case z_int=>k_is)
  (case z_enumerate=>k_is)
  (case z_range=>k_is)
  (case z_min=>k_is)
  (case z_max=>k_is)
  (case z_sum=>k_is)
  (case z_zip=>k_is)
  (case z_dict=>k_is)
  (case aP=>k_is)
  (case lP=>k_is)
  (case kP=>k_keys)
  (case oP=>first | exact rfl | decide | k_is)
  (case eP0=>k_is)
  (case lP0=>k_is)
  (case eP1=>k_is)
  (case lP1=>k_is)
  (case eP2=>k_is)
  (case lP2=>k_is)
  (case eP3=>k_is)
  (case lP3=>k_is)
  (case eP4=>k_is)
  (case lP4=>k_is)
  (case eP5=>k_is)
  (case lP5=>k_is)
  (case eP6=>k_is)
  (case lP6=>k_is)
  (case eP7=>k_is)
  (case lP7=>k_is)
  (case eP8=>k_is)
  (case lP8=>k_is)
  (case eP9=>k_is)
  (case lP9=>k_is)
  (case eP10=>k_is)
  (case lP10=>k_is)
  (case eP11=>k_is)
  (case lP11=>k_is)
  (case eP12=>k_is)
  (case lP12=>k_is)
  (case eP13=>k_is)
  (case lP13=>k_is)
  (case eP14=>k_is)
  (case lP14=>k_is)
  (case eP15=>k_is)
  (case lP15=>k_is)
  (case eP16=>k_is)
  (case lP16=>k_is)
  (case eP17=>k_is)
  (case lP17=>k_is)
  (case eP18=>k_is)
  (case lP18=>k_is)
  (case eP19=>k_is)
  (case lP19=>k_is)
  (case aLS=>k_is)
  (case aGS=>k_is)
  (case aMO=>k_is)
  (case aCODE_STEP=>k_is)
  (case aBOX_STEP=>k_is)
  (case aSHORT_ADDED=>k_is)
  (case aH=>k_is)
  (case lH=>k_is)
  (case lH0=>k_is)
  (case lH1=>k_is)
  (case lH2=>k_is)
  (case lH3=>k_is)
  (case lH4=>k_is)
  (case lH5=>k_is)
  (case lH6=>k_is)
  (case lH7=>k_is)
  (case lH8=>k_is)
  (case lH9=>k_is)
  (case lH10=>k_is)
  (case lH11=>k_is)
  (case lH12=>k_is)
  (case lH13=>k_is)
  (case lH14=>k_is)
  (case lH15=>k_is)
  (case lH16=>k_is)
  (case lH17=>k_is)
  (case lH18=>k_is)
  (case lH19=>k_is)
  (case lH20=>k_is)
  (case lH21=>k_is)
  (case lH22=>k_is)
  (case lH23=>k_is)
  (case lH24=>k_is)
  (case xNoLayout=>k_is)
  (case xRowError=>k_is)
  (case agI=>k_is)
  (case igI=>k_is)
  (case lgI=>k_is)
  (case cgI=>k_is)
  (case kgI=>k_is)
  (case xlk=>k_is)
  (case xq=>k_exc)
  (case xrt=>k_is)
  (case xsa=>k_is)
  (case xna=>k_is)
  (case xnt=>k_is)
  (case xhd=>k_is)
  (case xga=>k_is)
  (case xgh=>k_is)
  (case xcl=>k_is)
  (case xgt=>k_is)
  (case xtk=>k_is)
  (case xob=>k_is)
  (case xbx=>k_is)
  (case xci=>k_is)
  (case xsg=>k_is)
  (case xrr=>k_is)
  (case xfi=>k_is)
  (case xkc=>k_is)
  (case xexm=>kts_exm)
  (case xown=>kit_is)
  (case xval=>kit_is)
  (case aC=>k_is)
  (case ag0=>k_is)
  (case ig0=>k_is)
  (case lg0=>k_is)
  (case cg0=>k_is)
  (case kg0=>k_is)
  (case ag1=>k_is)
  (case ig1=>k_is)
  (case lg1=>k_is)
  (case cg1=>k_is)
  (case kg1=>k_is)
  (case ag2=>k_is)
  (case ig2=>k_is)
  (case lg2=>k_is)
  (case cg2=>k_is)
  (case kg2=>k_is)
  (case ag3=>k_is)
  (case ig3=>k_is)
  (case lg3=>k_is)
  (case cg3=>k_is)
  (case kg3=>k_is)
  (case ag4=>k_is)
  (case ig4=>k_is)
  (case lg4=>k_is)
  (case cg4=>k_is)
  (case kg4=>k_is)
  (case ag5=>k_is)
  (case ig5=>k_is)
  (case lg5=>k_is)
  (case cg5=>k_is)
  (case kg5=>k_is)
  (case ag6=>k_is)
  (case ig6=>k_is)
  (case lg6=>k_is)
  (case cg6=>k_is)
  (case kg6=>k_is)
  (case ag7=>k_is)
  (case ig7=>k_is)
  (case lg7=>k_is)
  (case cg7=>k_is)
  (case kg7=>k_is)
  (case ag8=>k_is)
  (case ig8=>k_is)
  (case lg8=>k_is)
  (case cg8=>k_is)
  (case kg8=>k_is)
  (case ag9=>k_is)
  (case ig9=>k_is)
  (case lg9=>k_is)
  (case cg9=>k_is)
  (case kg9=>k_is)
  (case pg=>k_is)
  (case hd=>k_is)
  (case po=>k_is)
  (case sa=>k_is)
  (case mkc=>k_is)
  (case kc=>k_is)
  (case n_program=>k_is)
  (case n_in_boxes=>k_is)
  (case n_in_cells=>k_is)
  (case n_in_asides=>k_is)
  (case n_rung=>k_is)
  (case n_told_numbers=>k_is)
  (case n_seen_numbers=>k_is)
  (case n_pile=>k_is)
  (case n_marks_done=>k_is)
  (case n_here=>k_is)
  (case n_how_ended=>k_is)
  (case aE=>k_is)
  (case lE=>k_is)
  (case kE=>k_keys)
  (case oE=>first | exact rfl | decide | k_is)
  (case e_stop=>k_is)
  (case e_halt=>k_is)
  (case e_back=>k_is)
  (case e_set=>k_is)
  (case e_more=>k_is)
  (case e_copy=>k_is)
  (case e_add=>k_is)
  (case e_less=>k_is)
  (case e_load=>k_is)
  (case e_keep=>k_is)
  (case e_tell=>k_is)
  (case e_see=>k_is)
  (case e_put=>k_is)
  (case e_take=>k_is)
  (case e_jump=>k_is)
  (case e_zero=>k_is)
  (case e_below=>k_is)
  (case e_call=>k_is)
  (case e_mark=>k_is)
  (case e_table=>k_is)
#print axioms PySem.Challenge.cw_widenrows_k96_whole_no_good_layout_has_f_holds
