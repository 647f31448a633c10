import PyProof.Rows.All
import Wide.All
import OpenK.AllK
import Wide.FinOn
import Lean
import PyProof.EqAt
import PyProof.EqKinds
import PyProof.TupleCall
import PyProof.NeKinds
import PyProof.ListRange
import KE.KDictSum
import Wide.Seal
import PyProof.EnumIter
import PyProof.EnumFor
import PyProof.EnumMake
import PyProof.EnumStmt
import PyProof.ConsumeWalk
import KE.KPairComp
import PyProof.DictItemsLoops
import KE.KEqDict
import PyProof.AttrMissSeq
import PyProof.CollectWalk
import OpenK.KTop
import PyProof.TupleOps
import PyProof.ListMulRoad
import PyProof.FactsAll.tuple_2
import PyProof.ZipIter
import PyProof.TupleIter
import PyProof.WalksMore
import KE.KTurns
import PyProof.StationsW
import PyProof.Rows.OwnQ
import OpenK.KOwn
import KE.KTryMore
import PyProof.NsDelKeeps
import PyProof.ExcArgsOwn
import PyProof.ExcAttrAll.ValueError
import PyProof.InstStoreFacts
import PyProof.ExcBaseAll.ValueError
import PyProof.Rows.FStr
import OpenK.KCls
import PyProof.StrBlock2
import PyProof.Rows.SortWalk
import KE.KFind
import PyProof.Rows.TupAdd
import PyProof.FactsAll.subtypes_4
import KE.KIntText
import PySem.Challenge.RW_widenrows_k52_guards_and_ends
set_option Elab.async false
set_option linter.all false
set_option maxRecDepth 100000
namespace L2
open PySem PySem.Spec PyProof.Rows
abbrev Key:=Sum Int Str
def qF:Key→Value→Bool
 | .inl k,v=>Value.isInt k v
 | .inr x,v=>Value.isStrOf x v
def QN (w:World):Key→Int
 | .inl k=>hashInt k
 | .inr x=>hashStr w x
theorem cZ:∀ {k:Key} {v:Value},qF k v=true→(∃ i t,k=Sum.inl i∧v=Value.int i t)∨(∃ x t,k=Sum.inr x∧v=Value.str x t)
 | .inl i,v,h=>by
  obtain ⟨t,e⟩:=Value.isInt_shape (k:=i) (v:=v) h
  exact .inl ⟨i,t,rfl,e⟩
 | .inr x,v,h=>by
  obtain ⟨t,e⟩:=Value.isStrOf_shape (x:=x) (v:=v) h
  exact .inr ⟨x,t,rfl,e⟩
theorem zt (i:Int) (t:Tok):qF (.inl i) (.int i t)=true:=by simp [qF,Value.isInt]
theorem zu (x:Str) (t:Tok):qF (.inr x) (.str x t)=true:=by simp [qF,Value.isStrOf]
theorem Jb (a b:Int):decide ((Sum.inl a:Key)=Sum.inl b)=(a == b):=by
 by_cases e:a=b
 ·subst e; simp
 ·have h:¬ (Sum.inl a:Key)=Sum.inl b:=fun q=>e (Sum.inl.inj q)
  rw [decide_eq_false h]
  exact (beq_eq_false_iff_ne.mpr e).symm
theorem Jc (a b:Str):decide ((Sum.inr a:Key)=Sum.inr b)=decide (a=b):=by
 by_cases e:a=b
 ·subst e; simp
 ·have h:¬ (Sum.inr a:Key)=Sum.inr b:=fun q=>e (Sum.inr.inj q)
  rw [decide_eq_false h,decide_eq_false e]
theorem Jd (a:Int) (b:Str):decide ((Sum.inl a:Key)=Sum.inr b)=false:=decide_eq_false (fun q=>nomatch q)
theorem Je (a:Str) (b:Int):decide ((Sum.inr a:Key)=Sum.inl b)=false:=decide_eq_false (fun q=>nomatch q)
def cj (prog:Program) (w:World):PySem.KeyKind prog w Key where
 is:=qF
 hash:=QN w
 inj:=fun v a b ha hb=>by
  rcases cZ ha with ⟨i,t,rfl,rfl⟩ | ⟨x,t,rfl,rfl⟩
  ·rcases cZ hb with ⟨j,u,rfl,e⟩ | ⟨y,u,rfl,e⟩
   ·injection e with e1 _; rw [e1]
   ·exact nomatch e
  ·rcases cZ hb with ⟨j,u,rfl,e⟩ | ⟨y,u,rfl,e⟩
   ·exact nomatch e
   ·injection e with e1 _; rw [e1]
 byValue:=fun k v h=>by
  rcases cZ h with ⟨i,t,rfl,rfl⟩ | ⟨x,t,rfl,rfl⟩ <;> rfl
 pyHash:=fun hv h=>by
  rcases cZ hv with ⟨i,t,rfl,rfl⟩ | ⟨x,t,rfl,rfl⟩
  ·exact wpAny_pyHash_int h
  ·exact wpAny_pyHash_str h
 eqBool:=fun hu hv h=>by
  rcases cZ hu with ⟨i,t,rfl,rfl⟩ | ⟨x,t,rfl,rfl⟩
  ·rcases cZ hv with ⟨j,u,rfl,rfl⟩ | ⟨y,u,rfl,rfl⟩
   ·rw [Jb] at h; exact wpAny_eqBool_int h
   ·rw [Jd] at h; exact SeqAt.EqAt.int_str i t y u _ _ _ _ h
  ·rcases cZ hv with ⟨j,u,rfl,rfl⟩ | ⟨y,u,rfl,rfl⟩
   ·rw [Je] at h; exact SeqAt.EqAt.str_int x t j u _ _ _ _ h
   ·rw [Jc] at h; exact wpAny_eqBool_str h
 «strs»:=fun k x t v h=>by
  rcases cZ h with ⟨i,u,rfl,e⟩ | ⟨y,u,rfl,e⟩
  ·exact nomatch e
  ·injection e with e1 _
   subst e1
   cases v <;> rfl
theorem uG (prog:Program) (w:World) (i:Int) (t:Tok):(cj prog w).is (.inl i) (.int i t)=true:=zt i t
theorem uH (prog:Program) (w:World) (x:Str) (t:Tok):(cj prog w).is (.inr x) (.str x t)=true:=zu x t
inductive V where
 | non | bl (b:Bool) | int (i:Int) | str (x:Str) | Bg (b:Array UInt8) | flt (b:UInt64) | ref (a:Addr) | ty (n:String)
 deriving DecidableEq
def RelV:V→Value→Prop
 | .non,u=>u=Value.none
 | .bl b,u=>u=Value.bool b
 | .int i,u=>∃ t,u=Value.int i t
 | .str x,u=>∃ t,u=Value.str x t
 | .Bg b,u=>∃ t,u=Value.bytes b t
 | .flt b,u=>∃ t,u=Value.float b t
 | .ref a,u=>u=Value.ref a
 | .ty n,u=>u=Value.type n
abbrev Vals:List V→List Value→Prop:=Paired RelV
theorem Vals.length {xs:List V} {us:List Value} (r:Vals xs us):xs.length=us.length:=Paired.length r
theorem Vals.get:∀ {xs:List V} {us:List Value} {i:Nat} {x:V},Vals xs us→xs[i]? = some x→∃ u,us[i]? = some u∧RelV x u
 | _,_,_,_,.nil,e=>by simp at e
 | _,_,0,_,.cons r _,e=>by simp at e; subst e; exact ⟨_,rfl,r⟩
 | _,_,i + 1,x,.cons _ t,e=>by
  obtain ⟨u,h1,h2⟩:=Vals.get (i:=i) (x:=x) t (by simpa using e)
  exact ⟨u,by simpa using h1,h2⟩
theorem Vals.set {x:V} {u:Value} (r:RelV x u):∀ {xs:List V} {us:List Value} (i:Nat),Vals xs us→Vals (xs.set i x) (us.set i u)
 | _,_,_,.nil=>.nil
 | _,_,0,.cons _ t=>.cons r t
 | _,_,i + 1,.cons q t=>.cons q (Vals.set r i t)
theorem Vals.append:∀ {xs ys:List V} {us ws:List Value},Vals xs us→Vals ys ws→Vals (xs ++ ys) (us ++ ws)
 | _,_,_,_,.nil,s=>s
 | _,_,_,_,.cons r t,s=>.cons r (Vals.append t s)
theorem Vals.take:∀ {xs:List V} {us:List Value} (n:Nat),Vals xs us→Vals (xs.take n) (us.take n)
 | _,_,0,_=>.nil
 | _,_,_ + 1,.nil=>.nil
 | _,_,n + 1,.cons r t=>.cons r (Vals.take n t)
theorem Vals.drop:∀ {xs:List V} {us:List Value} (n:Nat),Vals xs us→Vals (xs.drop n) (us.drop n)
 | _,_,0,r=>r
 | _,_,_ + 1,.nil=>.nil
 | _,_,n + 1,.cons _ t=>Vals.drop n t
def iq:Option V→Option Value→Prop
 | some v,some u=>RelV v u
 | none,none=>True
 | _,_=>False
def KV {κ:Type}:List (κ × V)→List (κ × Value)→Prop:=Paired fun (p:κ × V) (q:κ × Value)=>p.1=q.1∧RelV p.2 q.2
def kV:Key→V
 | .inl i=>.int i
 | .inr x=>.str x
inductive HO where
 | lst (xs:List V)
 | tup (xs:List V)
 | dK (kvs:List (Key × V)) | dT (kvs:List (List Key × V))
 | set (S:Int→Bool) (n:Nat)
 | ins (C dx:Addr) (fs:List (Str × V))
 | own (x:Addr)
 | xd (fs:List (Str × V))
 | met (f x:Addr)
 | rng (lo hi:Int)
 | yh (o:Obj) (u:HO)
 | Jf (ps:Array Value)
 | ext (φ:Heap→Prop)
abbrev Hp:=Addr→Option HO
def upd (H:Hp) (a:Addr) (o:HO):Hp:=fun b=>if b=a then some o else H b
theorem ah {H:Hp} {a:Addr} {o:HO}:upd H a o a=some o:=by unfold upd; rw [if_pos rfl]
theorem aL {H:Hp} {a b:Addr} {o:HO} (h:b ≠ a):upd H a o b=H b:=by unfold upd; rw [if_neg h]
theorem bF {H:Hp} {a b:Addr} {o u:HO} (h:H a=some o) (h':H b=some u) (d:o ≠ u):a ≠ b:=by
 intro e; subst e; rw [h] at h'; exact d (Option.some.inj h')
theorem ay {H:Hp} {a b:Addr} {o:HO} (h:H a=some o) (h':H b=none):a ≠ b:=by
 intro e; subst e; rw [h] at h'; cases h'
section
variable (P:Program) (w:World)
def cH (H:Hp) (h:Heap) (a:Addr):HO→Prop
 | .lst xs=>xs.length ≤ sizeLine∧∃ (its:List Value) (n:Nat),Vals xs its∧h.get? a=some { cls:=.type "list",data:=.seq its.toArray n }
 | .tup xs=>xs.length ≤ sizeLine∧∃ its:List Value,Vals xs its∧IsTup h a its.toArray
 | .dK kvs=>kvs.length ≤ sizeLine∧(a == sysModules)=false∧∃ vs,KV kvs vs∧h.DictOf (cj P w) a vs
 | .dT kvs=>kvs.length ≤ sizeLine∧(a == sysModules)=false∧∃ xs:List (List Key × Addr × Value),
   Paired (fun (p:List Key × V) (q:List Key × Addr × Value)=>p.1=q.1∧H q.2.1=some (.tup (p.1.map kV))∧RelV p.2 q.2.2) kvs xs ∧
   ∃ o es ep,h.get? a=some o∧o.ExactDict∧o.data=.dict es ep∧es.toList=xs.map (entryOfKey (tupleKind (cj P w)))∧(xs.map (·.1)).Nodup
 | .set S n=>h.SetOf (intKind P w) a S n
 | .ins C dx fs=>H dx=some (.own a)∧fs.length ≤ 1000∧dx ≠ a∧h.get? a=some (PySem.W.instObj C dx) ∧
   ∃ mA,h.Ns1 dx mA∧(∀ f,iq (fs.lookup f) (mA f))∧PySem.Within mA (fs.map (·.1))
 | .own _=>∃ o,h.get? a=some o
 | .xd fs=>∃ mA,h.Ns1 a mA∧∀ f,iq (fs.lookup f) (mA f)
 | .rng lo hi=>∃ t u v,h.get? a=some { cls:=.type "range",data:=.fields #[.int lo t,.int hi u,.int 1 v] }
 | .yh o u=>h.get? a=some o∧cH H h a u
 | .Jf ps=>h.get? a=some { cls:=.none,data:=.fields ps }
 | .met f x=>h.get? a=some (PySem.W.methodObj (.ref f) (.ref x))
 | .ext φ=>φ h∧(∃ o,h.get? a=some o)∧∀ h1 h2:Heap,φ h1→(∀ o,h1.get? a=some o→h2.get? a=some o)→φ h2
def jR (H:Hp) (h:Heap):Prop:=∀ a o,H a=some o→cH P w H h a o
end
section
variable {P:Program} {w:World} {H H':Hp} {h h':Heap} {a:Addr} {o:HO}
theorem cH.lt (x:cH P w H h a o):a < h.objs.size:=by
 cases o with
 | lst xs=>obtain ⟨_,_,_,_,e⟩:=x; exact Heap.lt_size e
 | tup xs=>obtain ⟨_,_,_,p⟩:=x; exact p.lt
 | dK kvs=>obtain ⟨_,_,_,_,o,_,_,e,_⟩:=x; exact Heap.lt_size e
 | dT kvs=>obtain ⟨_,_,_,_,o,_,_,e,_⟩:=x; exact Heap.lt_size e
 | set S n=>obtain ⟨o,_,_,_,e,_⟩:=x; exact Heap.lt_size e
 | ins C dx fs=>obtain ⟨_,_,_,e,_⟩:=x; exact Heap.lt_size e
 | own y=>obtain ⟨_,e⟩:=x; exact Heap.lt_size e
 | xd fs=>obtain ⟨_,⟨_,_,_,e,_⟩,_⟩:=x; exact Heap.lt_size e
 | rng lo hi=>obtain ⟨_,_,_,e⟩:=x; exact Heap.lt_size e
 | yh ob u=>obtain ⟨e,_⟩:=x; exact Heap.lt_size e
 | Jf ps=>exact Heap.lt_size (show h.get? a=some _ from x)
 | met f y=>exact Heap.lt_size (show h.get? a=some _ from x)
 | ext φ=>obtain ⟨_,⟨_,e⟩,_⟩:=x; exact Heap.lt_size e
theorem Paired.Jg {α β:Type} {F G:α→β→Prop}:∀ {l₁:List α} {l₂:List β},Paired F l₁ l₂→(∀ a b,F a b→G a b)→Paired G l₁ l₂
 | _,_,.nil,_=>.nil
 | _,_,.cons r t,f=>.cons (f _ _ r) (Paired.Jg t f)
theorem cH.stay (x:cH P w H h a o) (k:∀ b u,(b=a∨H b=some (.own a))→h.get? b=some u→h'.get? b=some u)
  (ho:∀ b,H b=some (.own a)→H' b=some (.own a)) (ht:∀ b xs,H b=some (.tup xs)→H' b=some (.tup xs)):cH P w H' h' a o:=by
 induction o with
 | lst xs=>obtain ⟨z,its,n,r,e⟩:=x; exact ⟨z,its,n,r,k _ _ (.inl rfl) e⟩
 | tup xs=>obtain ⟨z,its,r,ob,e,c⟩:=x; exact ⟨z,its,r,ob,k _ _ (.inl rfl) e,c⟩
 | dK kvs=>obtain ⟨z,y,vs,r,ob,es,ep,e,c⟩:=x; exact ⟨z,y,vs,r,ob,es,ep,k _ _ (.inl rfl) e,c⟩
 | dT kvs =>
  obtain ⟨z,y,xs,r,ob,es,ep,e,c⟩:=x
  exact ⟨z,y,xs,Paired.Jg r fun p q z=>⟨z.1,ht _ _ z.2.1,z.2.2⟩,ob,es,ep,k _ _ (.inl rfl) e,c⟩
 | set S n=>obtain ⟨ob,es,ep,t,e,c⟩:=x; exact ⟨ob,es,ep,t,k _ _ (.inl rfl) e,c⟩
 | ins C dx fs =>
  obtain ⟨d,z,ne,e,mA,⟨od,es,ep,e2,c⟩,r⟩:=x
  exact ⟨ho _ d,z,ne,k _ _ (.inl rfl) e,mA,⟨od,es,ep,k _ _ (.inr d) e2,c⟩,r⟩
 | own y=>obtain ⟨ob,e⟩:=x; exact ⟨ob,k _ _ (.inl rfl) e⟩
 | xd fs=>obtain ⟨mA,⟨od,es,ep,e,c⟩,r⟩:=x; exact ⟨mA,⟨od,es,ep,k _ _ (.inl rfl) e,c⟩,r⟩
 | rng lo hi=>obtain ⟨t,u,v,e⟩:=x; exact ⟨t,u,v,k _ _ (.inl rfl) e⟩
 | yh ob u ih=>obtain ⟨e,q⟩:=x; exact ⟨k _ _ (.inl rfl) e,ih q⟩
 | Jf ps =>
  have e:h.get? a=some { cls:=.none,data:=.fields ps }:=x
  show h'.get? a=some { cls:=.none,data:=.fields ps }
  exact k a _ (.inl rfl) e
 | met f y =>
  have e:h.get? a=some (PySem.W.methodObj (.ref f) (.ref y)):=x
  show h'.get? a=some (PySem.W.methodObj (.ref f) (.ref y))
  exact k a _ (.inl rfl) e
 | ext φ=>obtain ⟨p,⟨o,e⟩,st⟩:=x; exact ⟨st _ _ p fun o q=>k _ _ (.inl rfl) q,⟨o,k _ _ (.inl rfl) e⟩,st⟩
theorem jR.lt (x:jR P w H h) (e:H a=some o):a < h.objs.size:=(x a o e).lt
theorem jR.fresh (x:jR P w H h) (e:h.objs.size ≤ a):H a=none:=by
 cases q:H a with
 | none=>rfl
 | some u=>exact absurd (Nat.lt_of_lt_of_le (x.lt q) e) (Nat.lt_irrefl _)
theorem jR.kept (x:jR P w H h) (k:∀ b u,h.get? b=some u→h'.get? b=some u):jR P w H h':=fun a o e =>
 (x a o e).stay (fun b u _ q=>k b u q) (fun _ q=>q) fun _ _ q=>q
theorem jR.laid (x:jR P w H h) (k:∀ b u,h.get? b=some u→h'.get? b=some u) (hp:h.objs.size ≤ a) (new:cH P w (upd H a o) h' a o):jR P w (upd H a o) h':=fun b u e=>by
 have hn:=x.fresh hp
 by_cases hb:b=a
 ·subst hb; rw [ah] at e; cases e; exact new
 ·rw [aL hb] at e
  exact (x b u e).stay (fun c v _ q=>k c v q) (fun c q=>by rw [aL (ay q hn)]; exact q) fun c xs q=>by rw [aL (ay q hn)]; exact q
end
def Rd (H:Hp) (a:Addr) (u:HO):Prop:=H a=some u∨∃ o,H a=some (.yh o u)
theorem Rd.of {H:Hp} {a:Addr} {u:HO} (h:H a=some u):Rd H a u:=.inl h
theorem Rd.ok {P:Program} {w:World} {H:Hp} {h:Heap} {a:Addr} {u:HO} (r:Rd H a u) (x:jR P w H h):cH P w H h a u:=by
 rcases r with r | ⟨o,r⟩
 ·exact x a u r
 ·obtain ⟨_,q⟩:=x a _ r
  exact q
def LM:Option HO→Prop
 | some (.lst _)=>True
 | some (.dK _)=>True
 | some (.dT _)=>True
 | some (.set _ _)=>True
 | some (.ins _ _ _)=>True
 | some (.ext _)=>True
 | _=>False
section
variable {P:Program} {w:World} {H:Hp} {h h':Heap} {x e:Addr} {o':HO}
theorem jR.write (ok:jR P w H h) (mu:LM (H x)) (he:e=x∨H e=some (.own x)) (k:∀ b u,b ≠ e→h.get? b=some u→h'.get? b=some u) (heo:∃ u,h'.get? e=some u)
  (new:cH P w (upd H x o') h' x o'):jR P w (upd H x o') h':=fun b u q=>by
 have LN:∀ c y,H c=some (.own y)→c ≠ x:=fun c y r z=>by subst z; rw [r] at mu; exact mu
 have QO:∀ c xs,H c=some (.tup xs)→c ≠ x:=fun c xs r z=>by subst z; rw [r] at mu; exact mu
 by_cases hb:b=x
 ·subst hb; rw [ah] at q; cases q; exact new
 ·rw [aL hb] at q
  by_cases hbe:b=e
  ·have q':H b=some (.own x):=by
    rcases he with z | z
    ·exact absurd (hbe.trans z) hb
    ·rw [hbe]; exact z
   rw [q] at q'; cases q'
   obtain ⟨v,hv⟩:=heo
   exact ⟨v,by rw [hbe]; exact hv⟩
  ·refine (ok b u q).stay (fun c v hc r=>k c v ?_ r) (fun c r=>by rw [aL (LN c b r)]; exact r) fun c xs r=>by rw [aL (QO c xs r)]; exact r
   rcases hc with rfl | hc
   ·exact hbe
   ·rintro rfl
    rcases he with z | z
    ·exact LN c b hc z
    ·rw [hc] at z; cases z; exact hb rfl
end
structure Un (fs ex:List Addr) (H H':Hp) (h h':Heap):Prop where
 keep:∀ b o,h.get? b=some o→H b=none→b ∉ fs→b ∉ ex→h'.get? b=some o
 slot:∀ b o,h.get? b=some o→H b=none→b ∈ fs→b ∉ ex→∃ sl,h'.get? b=some { o with slots:=sl }
 free:∀ b o,h.get? b=some o→H b=none→b ∉ ex→H' b=none
 there:∀ b o,h.get? b=some o→b ∉ ex→∃ o',h'.get? b=some o'
 tups:∀ b xs,H b=some (.tup xs)→H' b=some (.tup xs)
 rK:∀ b o u,H b=some (.yh o u)→H' b=some (.yh o u)
 uI:∀ b ps,H b=some (.Jf ps)→∃ more,H' b=some (.Jf (ps ++ more))
section
variable {fs fs' ex ex':List Addr} {H H1 H2:Hp} {h h1 h2 h':Heap} {a x e:Addr} {o:HO}
theorem Un.any (u:Un fs ex H H1 h h1) {b:Addr} {ob:Obj} (q:h.get? b=some ob) (n:H b=none) (hx:b ∉ ex):∃ sl,h1.get? b=some { ob with slots:=sl }:=by
 by_cases hb:b ∈ fs
 ·exact u.slot b ob q n hb hx
 ·exact ⟨ob.slots,u.keep b ob q n hb hx⟩
theorem Un.kept (k:∀ b u,h.get? b=some u→h'.get? b=some u):Un fs ex H H h h' :=
 ⟨fun b ob q _ _ _=>k b ob q,fun b ob q _ _ _=>⟨ob.slots,k b ob q⟩,fun _ _ _ n _=>n,fun b ob q _=>⟨ob,k b ob q⟩,fun _ _ q=>q,fun _ _ _ q=>q,fun _ ps q=>⟨#[],by rw [q]; simp⟩⟩
theorem Un.refl:Un fs ex H H h h:=Un.kept fun _ _ q=>q
theorem Un.laid (k:∀ b u,h.get? b=some u→h'.get? b=some u) (hp:h.objs.size ≤ a) (hn:H a=none):Un fs ex H (upd H a o) h h' where
 keep:=fun b u q _ _ _=>k b u q
 slot:=fun b u q _ _ _=>⟨u.slots,k b u q⟩
 free:=fun b u q n _=>by rw [aL (Nat.ne_of_lt (Nat.lt_of_lt_of_le (Heap.lt_size q) hp))]; exact n
 there:=fun b u q _=>⟨u,k b u q⟩
 tups:=fun b xs q=>by rw [aL (ay q hn)]; exact q
 rK:=fun b u xs q=>by rw [aL (ay q hn)]; exact q
 uI:=fun b ps q=>⟨#[],by rw [aL (ay q hn),q]; simp⟩
theorem Un.write (mu:LM (H x)) (he:e=x∨H e=some (.own x)) (k:∀ b u,b ≠ e→h.get? b=some u→h'.get? b=some u) (heo:∃ u,h'.get? e=some u):Un fs ex H (upd H x o) h h':=by
 have hx:∀ b,H b=none→b ≠ x:=fun b n z=>by subst z; rw [n] at mu; exact mu
 have hb:∀ b,H b=none→b ≠ e:=fun b n z=>by
  subst z
  rcases he with r | r
  ·exact hx b n r
  ·rw [n] at r; cases r
 have hm:∀ b u,H b=some u→¬ LM (some u)→b ≠ x:=fun b u q nm z=>by subst z; rw [q] at mu; exact nm mu
 refine ⟨fun b u q n _ _=>k b u (hb b n) q,fun b u q n _ _=>⟨u.slots,k b u (hb b n) q⟩,fun b u q n _=>by rw [aL (hx b n)]; exact n,fun b u q _=>?_,
  fun b xs q=>by rw [aL (hm b _ q fun z=>z)]; exact q,fun b u xs q=>by rw [aL (hm b _ q fun z=>z)]; exact q,fun b ps q=>⟨#[],by rw [aL (hm b _ q fun z=>z),q]; simp⟩⟩
 by_cases hbe:b=e
 ·subst hbe; exact heo
 ·exact ⟨u,k b u hbe q⟩
end
def Qk (h:Heap) (H:Hp):List Addr:=(List.range h.objs.size).filter fun a=>(H a).isSome
def rL (h:Heap) (H:Hp):Heap:=PySem.W.hideAll h (Qk h H)
theorem zv (h:Heap) (H:Hp):(rL h H).objs.size=h.objs.size:=PySem.W.hideAll_size _ _
theorem Bp {h:Heap} {H:Hp} {b:Addr} {o:Obj} (e:h.get? b=some o) (n:H b=none):(rL h H).get? b=some o :=
 PySem.W.hideAll_get _ e fun hm=>by
  have q:(H b).isSome=true:=(List.mem_filter.mp hm).2
  rw [n] at q; simp at q
theorem Ex {h:Heap} {H:Hp} {b:Addr} {o:Obj} (e:(rL h H).get? b=some o):h.get? b=some o∧H b=none:=by
 have e':h.get? b=some o:=PySem.W.of_hideAll (Qk h H) e
 refine ⟨e',?_⟩
 cases q:H b with
 | none=>rfl
 | some x =>
  have hm:b ∈ Qk h H:=List.mem_filter.mpr ⟨List.mem_range.mpr (Heap.lt_size e'),by simp [q]⟩
  have z:(rL h H).get? b=none:=PySem.W.hideAll_none (Qk h H) hm
  rw [z] at e; cases e
structure Mod (K:PySem.W.Frag) (mg:Str→Option Value) (base:Heap):Prop where
 LO:K.In base
 glob:base.Ns mainGlobals mg
 blt:∃ mb,base.Ns builtinsNs mb∧∀ x:Str,x ≠ "__name__" → mb x=bootBuiltins x
 nolimit:base.NoLimit
structure Cx where
 prog:Program
 w:World
 K:PySem.W.Frag
 mg:Str→Option Value
 base:Heap
 A:Around
 N:List Str
 s₀:Shared
 H₀:Hp
 env:Env
 outer:List Env
 stack:List Env
 ex:List Addr
 fn:Str→Bool
 calm:Bool
 pn:List (Addr × Obj)
 xe:Value→Shared→Prop
def frs (l:List Env):List Addr:=l.filterMap (·.frame)
abbrev Cx.fs (X:Cx):List Addr:=frs X.outer
def QP (sc:Scope) (x:Str):Prop:=sc.names.lookup x=some .local∨sc.names.lookup x=some .cell∨sc.names.lookup x=some .free
def Loc (sc:Scope) (x:Str):Prop:=sc.names.lookup x=some .local∨sc.names.lookup x=some .cell
def Look (env:Env) (h:Heap) (m:Str→Option Value) (x:Str) (u:Value):Prop :=
 (env.kindOf x=some .local∧m x=some u)∨((env.kindOf x=some .cell∨env.kindOf x=some .free)∧∃ c,env.cells.lookup x=some c∧h.IsCell c (some u))
structure Cx.Ok (X:Cx):Prop where
 mod:Mod X.K X.mg X.base
 kind:X.env.scope.kind=.function
 glob:X.env.globals=mainGlobals
 blt:X.env.builtins=builtinsNs
 above:X.s₀.heap.objs.size ≤ X.env.locals
 inj:∀ x y c,X.env.cells.lookup x=some c→X.env.cells.lookup y=some c→x=y
 has:∀ x,(X.env.kindOf x=some .cell∨X.env.kindOf x=some .free)→∃ c,X.env.cells.lookup x=some c
 cab:∀ x c,X.fn x=true→X.env.cells.lookup x=some c→X.s₀.heap.objs.size ≤ c
 hd:X.calm=true→X.A.handled=none
 frames:X.A.frames=some X.stack
 stk:X.stack=X.outer∨(X.stack=X.env :: X.outer∧X.env.frame=some X.env.locals)
 QR:∀ b ∈ X.ex,b ≠ X.env.locals∧∀ x c,X.env.cells.lookup x=some c→c ≠ b
 bs:∀ b o,X.base.get? b=some o→X.s₀.heap.get? b=some o∧X.H₀ b=none
 Ey:X.base.objs.size ≤ X.s₀.heap.objs.size
 Bq:∀ b o,X.base.get? b=some o→b ∉ X.ex
 Br:∀ b ∈ X.ex,b ∉ X.fs
 mF:X.s₀.heap.FunFrames X.base X.outer
 Jh:∀ b ∈ X.fs,X.H₀ b=none
structure Inv (X:Cx) (pins:List (Addr × Obj)) (σ:List (Option V)) (H:Hp) (s:Shared):Prop where
 ok:X.Ok
 os:s.os=X.s₀.os
 bare:AllBare s.gens
 base:Un X.fs X.ex X.H₀ H X.s₀.heap s.heap
 loc:∃ m,s.heap.Ns X.env.locals m∧∀ (i:Nat) (x:Str) (v:V),X.N[i]? = some x→σ[i]? = some (some v)→QP X.env.scope x→∃ u,RelV v u∧Look X.env s.heap m x u
 cell:∀ x c,X.env.cells.lookup x=some c→∃ v,s.heap.IsCell c v
 free:H X.env.locals=none
 jJ:∀ x c,X.env.cells.lookup x=some c→H c=none
 pin:∀ p ∈ X.pn ++ pins,s.heap.get? p.1=some p.2∧H p.1=none∧p.1 ≠ X.env.locals∧p.1 ∉ X.fs∧∀ v,p.2.data ≠ .cell v
 hok:jR X.prog X.w H s.heap
 len:σ.length=X.N.length
section
variable {X:Cx} {pins:List (Addr × Obj)} {σ:List (Option V)} {H H':Hp} {s:Shared} {h':Heap}
theorem Cx.Ok.QS (ok:X.Ok) {b:Addr} {o:Obj} (e:X.base.get? b=some o):b ∉ X.fs:=fun hb=>by
 have:=(ok.mF.mem hb).1
 rw [e] at this; cases this
theorem Inv.bs (I:Inv X pins σ H s):∀ b o,X.base.get? b=some o→s.heap.get? b=some o∧H b=none:=fun b o e =>
 ⟨I.base.keep b o (I.ok.bs b o e).1 (I.ok.bs b o e).2 (I.ok.QS e) (I.ok.Bq b o e),I.base.free b o (I.ok.bs b o e).1 (I.ok.bs b o e).2 (I.ok.Bq b o e)⟩
theorem Inv.bk (I:Inv X pins σ H s):∀ b o,X.base.get? b=some o→s.heap.get? b=some o:=fun b o e=>(I.bs b o e).1
theorem Inv.mod (I:Inv X pins σ H s):Mod X.K X.mg X.base:=I.ok.mod
theorem Inv.lz (I:Inv X pins σ H s):X.K.In s.heap:=I.ok.mod.LO.keeps I.bk
theorem Inv.lt (I:Inv X pins σ H s):X.env.locals < s.heap.objs.size:=let ⟨_,hn,_⟩:=I.loc; hn.lt
theorem Inv.sz (I:Inv X pins σ H s):X.s₀.heap.objs.size ≤ s.heap.objs.size:=Nat.le_trans I.ok.above (Nat.le_of_lt I.lt)
theorem Inv.QT (I:Inv X pins σ H s) {a:Addr} (h:s.heap.objs.size ≤ a):a ∉ X.fs:=fun hb=>by
 obtain ⟨_,o,ho,_⟩:=I.ok.mF.mem hb
 exact absurd (Nat.lt_of_lt_of_le (Heap.lt_size ho) (Nat.le_trans I.sz h)) (Nat.lt_irrefl _)
theorem Inv.Ji (I:Inv X pins σ H s):∀ x c,X.env.cells.lookup x=some c→c ≠ X.env.locals:=fun x c e z=>by
 obtain ⟨v,o,ho,hd⟩:=I.cell x c e
 obtain ⟨m,⟨o',es,ep,ho',hd',_⟩,_⟩:=I.loc
 rw [z,ho'] at ho; cases ho; rw [hd'] at hd; cases hd
theorem Inv.mF (I:Inv X pins σ H s):s.heap.FunFrames X.base X.outer:=by
 have all:∀ (l:List Env),(∀ b ∈ frs l,b ∈ X.fs)→X.s₀.heap.FunFrames X.base l→s.heap.FunFrames X.base l:=by
  intro l
  induction l with
  | nil=>intro _ _; trivial
  | cons env r ih =>
   intro hs hl
   obtain ⟨hk,⟨L,o,hf,hn,ho,hd⟩,hr⟩:=hl
   have hL:L ∈ X.fs:=hs L (by unfold frs; rw [List.filterMap_cons,hf]; exact List.mem_cons_self)
   obtain ⟨sl,e⟩:=I.base.slot L o ho (I.ok.Jh L hL) hL fun z=>I.ok.Br L z hL
   exact ⟨hk,⟨L,_,hf,hn,e,hd⟩,ih (fun b hb=>hs b (by unfold frs; rw [List.filterMap_cons,hf]; exact List.mem_cons_of_mem _ hb)) hr⟩
 exact all X.outer (fun _ hb=>hb) I.ok.mF
theorem Inv.stack (I:Inv X pins σ H s):s.heap.FunFrames X.base X.stack:=by
 rcases I.ok.stk with e | ⟨e,hf⟩
 ·rw [e]; exact I.mF
 ·rw [e]
  obtain ⟨m,hn,_⟩:=I.loc
  refine .cons (by rw [I.ok.kind]; decide) hf hn ?_ I.mF
  exact Heap.get?_none_of_le (Nat.le_trans I.ok.Ey I.ok.above)
theorem Inv.vK (I:Inv X pins σ H s):∀ b ∈ frs X.stack,b ∈ X.env.locals :: X.fs:=fun b hb=>by
 rcases I.ok.stk with e | ⟨e,hf⟩
 ·rw [e] at hb; exact List.mem_cons_of_mem _ hb
 ·rw [e] at hb
  unfold frs at hb
  rw [List.filterMap_cons,hf] at hb
  exact hb
theorem Inv.yi (I:Inv X pins σ H s):∀ b ∈ frs X.stack,H b=none:=fun b hb=>by
 rcases List.mem_cons.mp (I.vK b hb) with e | hb
 ·rw [e]; exact I.free
 ·obtain ⟨_,o,ho,_⟩:=I.ok.mF.mem hb
  exact I.base.free b o ho (I.ok.Jh b hb) fun z=>I.ok.Br b z hb
theorem Inv.step {g':Array GenState} {t':Nat} {d':Drawn} {ch:List Addr} (I:Inv X pins σ H s)
  (hch:∀ b ∈ ch,(b ∈ X.ex∨X.s₀.heap.objs.size ≤ b)∧b ≠ X.env.locals∧(∀ x c,X.env.cells.lookup x=some c→c ≠ b)∧∀ p ∈ X.pn ++ pins,p.1 ≠ b)
  (keep:∀ b o,b ≠ X.env.locals→b ∉ X.fs→b ∉ ch→s.heap.get? b=some o→H b=none→h'.get? b=some o)
  (slot:∀ b o,b ≠ X.env.locals→b ∈ X.fs→b ∉ ch→s.heap.get? b=some o→H b=none→∃ sl,h'.get? b=some { o with slots:=sl }) (free:∀ b o,b ∉ ch→s.heap.get? b=some o→H b=none→H' b=none)
  (there:∀ b o,b ∉ ch→s.heap.get? b=some o→∃ o',h'.get? b=some o')
  (tups:∀ b xs,H b=some (.tup xs)→H' b=some (.tup xs)) (rK:∀ b o u,H b=some (.yh o u)→H' b=some (.yh o u)) (uI:∀ b ps,H b=some (.Jf ps)→∃ more,H' b=some (.Jf (ps ++ more)))
  (ns:∀ m,s.heap.Ns X.env.locals m→h'.Ns X.env.locals m) (hok:jR X.prog X.w H' h') (hg:AllBare g') :
  Inv X pins σ H' { s with heap:=h',gens:=g',drawn:=d',toks:=t' }:=by
 have neL:∀ b o,X.s₀.heap.get? b=some o→b ≠ X.env.locals:=fun b o e=>Nat.ne_of_lt (Nat.lt_of_lt_of_le (Heap.lt_size e) I.ok.above)
 have Ql:∀ b o,X.s₀.heap.get? b=some o→b ∉ X.ex→b ∉ ch:=fun b o e hx hb=>by
  rcases (hch b hb).1 with z | z
  ·exact hx z
  ·exact absurd (Nat.lt_of_lt_of_le (Heap.lt_size e) z) (Nat.lt_irrefl _)
 have cellK:∀ x c,X.env.cells.lookup x=some c→∀ v,s.heap.IsCell c v→h'.IsCell c v:=fun x c e v ⟨o,ho,hd⟩=>by
  have LP:c ∉ ch:=fun z=>(hch c z).2.2.1 x c e rfl
  by_cases hc:c ∈ X.fs
  ·obtain ⟨sl,q⟩:=slot c o (I.Ji x c e) hc LP ho (I.jJ x c e)
   exact ⟨_,q,hd⟩
  ·exact ⟨o,keep c o (I.Ji x c e) hc LP ho (I.jJ x c e),hd⟩
 refine ⟨I.ok,I.os,hg,⟨fun b o e n hb hx=>?_,fun b o e n hb hx=>?_,fun b o e n hx=>?_,fun b o e hx=>?_,fun b xs e=>tups b xs (I.base.tups b xs e),fun b o xs e=>rK b o xs (I.base.rK b o xs e),fun b ps e=>?_⟩,?_,fun x c e=>?_,?_,fun x c e=>?_,fun p hp=>?_,hok,I.len⟩
 ·exact keep b o (neL b o e) hb (Ql b o e hx) (I.base.keep b o e n hb hx) (I.base.free b o e n hx)
 ·obtain ⟨sl,e1⟩:=I.base.slot b o e n hb hx
  obtain ⟨sl',e2⟩:=slot b _ (neL b o e) hb (Ql b o e hx) e1 (I.base.free b o e n hx)
  exact ⟨sl',e2⟩
 ·obtain ⟨o',e1⟩:=I.base.there b o e hx
  exact free b o' (Ql b o e hx) e1 (I.base.free b o e n hx)
 ·obtain ⟨o',e1⟩:=I.base.there b o e hx
  exact there b o' (Ql b o e hx) e1
 ·obtain ⟨m1,e1⟩:=I.base.uI b ps e
  obtain ⟨m2,e2⟩:=uI b _ e1
  exact ⟨m1 ++ m2,by rw [e2,Array.append_assoc]⟩
 ·obtain ⟨m,hn,hl⟩:=I.loc
  refine ⟨m,ns m hn,fun i x v e1 e2 e3=>?_⟩
  obtain ⟨u,r,l⟩:=hl i x v e1 e2 e3
  refine ⟨u,r,?_⟩
  rcases l with l | ⟨k,c,e,z⟩
  ·exact .inl l
  ·exact .inr ⟨k,c,e,cellK x c e _ z⟩
 ·obtain ⟨v,z⟩:=I.cell x c e
  exact ⟨v,cellK x c e v z⟩
 ·obtain ⟨m,⟨o,_,_,ho,_⟩,_⟩:=I.loc
  exact free _ o (fun z=>(hch _ z).2.1 rfl) ho I.free
 ·obtain ⟨v,o,ho,hd⟩:=I.cell x c e
  exact free c o (fun z=>(hch c z).2.2.1 x c e rfl) ho (I.jJ x c e)
 ·obtain ⟨e,n,ne,nf,d⟩:=I.pin p hp
  have LP:p.1 ∉ ch:=fun z=>(hch p.1 z).2.2.2 p hp rfl
  exact ⟨keep p.1 p.2 ne nf LP e n,free p.1 p.2 LP e n,ne,nf,d⟩
theorem Inv.un {t':Nat} (I:Inv X pins σ H s) (u:Un X.fs [] H H' s.heap h') (hok:jR X.prog X.w H' h'):Inv X pins σ H' { s with heap:=h',toks:=t' }:=by
 obtain ⟨m,⟨o,es,ep,ho,r⟩,_⟩:=id I.loc
 obtain ⟨sl,hL⟩:=u.any ho I.free (by simp)
 exact I.step (g':=s.gens) (d':=s.drawn) (ch:=[]) (fun _ z=>nomatch z) (fun b o _ hb _ e n=>u.keep b o e n hb (by simp)) (fun b o _ hb _ e n=>u.slot b o e n hb (by simp)) (fun b o _ e n=>u.free b o e n (by simp)) (fun b o _ e=>u.there b o e (by simp)) u.tups u.rK u.uI (fun m' hm=>by
  obtain ⟨o',es',ep',ho',r'⟩:=hm
  rw [ho] at ho'; cases ho'
  exact ⟨_,es',ep',hL,r'⟩) hok I.bare
theorem Inv.call {g':Array GenState} {t':Nat} {d':Drawn} {ch:List Addr} (I:Inv X pins σ H s) (u:Un (frs X.stack) ch H H' s.heap h') (hok:jR X.prog X.w H' h') (hg:AllBare g')
  (hch:∀ b ∈ ch,(b ∈ X.ex∨X.s₀.heap.objs.size ≤ b)∧b ≠ X.env.locals∧(∀ x c,X.env.cells.lookup x=some c→c ≠ b)∧∀ p ∈ X.pn ++ pins,p.1 ≠ b) :
  Inv X pins σ H' { s with heap:=h',gens:=g',drawn:=d',toks:=t' }:=by
 obtain ⟨m,⟨o,es,ep,ho,r⟩,_⟩:=id I.loc
 obtain ⟨sl,hL⟩:=u.any ho I.free fun z=>(hch _ z).2.1 rfl
 exact I.step (ch:=ch) hch (fun b o hL hb hc e n=>u.keep b o e n (fun z=>(List.mem_cons.mp (I.vK b z)).elim hL hb) hc) (fun b o _ _ hc e n=>u.any e n hc) (fun b o hc e n=>u.free b o e n hc) (fun b o hc e=>u.there b o e hc) u.tups u.rK u.uI (fun m' hm=>by
  obtain ⟨o',es',ep',ho',r'⟩:=hm
  rw [ho] at ho'; cases ho'
  exact ⟨_,es',ep',hL,r'⟩) hok hg
theorem Inv.turned {t':Nat} {it:Addr} (I:Inv X pins σ H s) (k:∀ b o,b ≠ it→s.heap.get? b=some o→h'.get? b=some o) (hn:H it=none) (hL:it ≠ X.env.locals)
  (h1:it ∈ X.ex∨X.s₀.heap.objs.size ≤ it) (h2:∀ x c,X.env.cells.lookup x=some c→c ≠ it) (h3:∀ p ∈ X.pn ++ pins,p.1 ≠ it):Inv X pins σ H { s with heap:=h',toks:=t' }:=by
 have HK:∀ b u,H b=some u→b ≠ it:=fun b u e z=>by rw [z,hn] at e; cases e
 refine I.step (g':=s.gens) (d':=s.drawn) (ch:=[it]) (fun b hb=>?_) (fun b o _ _ hc e _=>k b o (fun z=>hc (by simp [z])) e) (fun b o _ _ hc e _=>⟨o.slots,k b o (fun z=>hc (by simp [z])) e⟩) (fun _ _ _ _ n=>n)
  (fun b o hc e=>⟨o,k b o (fun z=>hc (by simp [z])) e⟩) (fun _ _ e=>e) (fun _ _ _ e=>e) (fun b ps e=>⟨#[],by rw [e]; simp⟩) (fun m hm=>?_) (fun b u e=>?_) I.bare
 ·have e:b=it:=by simpa using hb
  subst e
  exact ⟨h1,hL,h2,h3⟩
 ·obtain ⟨o,es,ep,ho,r⟩:=hm
  exact ⟨o,es,ep,k _ o (Ne.symm hL) ho,r⟩
 ·refine (I.hok b u e).stay (fun c v hc q=>k c v ?_ q) (fun _ q=>q) fun _ _ q=>q
  rcases hc with z | z
  ·rw [z]; exact HK b u e
  ·exact HK c _ z
theorem Inv.tok (I:Inv X pins σ H s) (t:Nat):Inv X pins σ H { s with toks:=t }:=I.un (h':=s.heap) (t':=t) Un.refl I.hok
theorem Inv.kept {t':Nat} (I:Inv X pins σ H s) (k:∀ b u,s.heap.get? b=some u→h'.get? b=some u):Inv X pins σ H { s with heap:=h',toks:=t' }:=I.un (Un.kept k) (I.hok.kept k)
theorem Inv.laid {a:Addr} {o:HO} {t':Nat} (I:Inv X pins σ H s) (k:∀ b u,s.heap.get? b=some u→h'.get? b=some u) (hp:s.heap.objs.size ≤ a) (new:cH X.prog X.w (upd H a o) h' a o) :
  Inv X pins σ (upd H a o) { s with heap:=h',toks:=t' }:=I.un (Un.laid k hp (I.hok.fresh hp)) (I.hok.laid k hp new)
theorem Inv.write {x e:Addr} {o:HO} {t':Nat} (I:Inv X pins σ H s) (mu:LM (H x)) (he:e=x∨H e=some (.own x)) (k:∀ b u,b ≠ e→s.heap.get? b=some u→h'.get? b=some u) (heo:∃ u,h'.get? e=some u)
  (new:cH X.prog X.w (upd H x o) h' x o):Inv X pins σ (upd H x o) { s with heap:=h',toks:=t' }:=I.un (Un.write mu he k heo) (I.hok.write mu he k heo new)
theorem Inv.yj {HL:List (Addr × Obj)} (I:Inv X pins σ H s) (h:∀ p ∈ HL,s.heap.get? p.1=some p.2∧H p.1=none∧p.1 ≠ X.env.locals∧p.1 ∉ X.fs∧∀ v,p.2.data ≠ .cell v):Inv X HL σ H s :=
 ⟨I.ok,I.os,I.bare,I.base,I.loc,I.cell,I.free,I.jJ,fun p hp=>(List.mem_append.mp hp).elim (fun z=>I.pin p (List.mem_append_left _ z)) (h p),I.hok,I.len⟩
theorem uJ {N:List Str} (hN:N.Nodup) {i j:Nat} {x:Str} (a:N[i]? = some x) (b:N[j]? = some x):i=j:=by
 obtain ⟨h1,e1⟩:=List.getElem?_eq_some_iff.mp a
 obtain ⟨h2,e2⟩:=List.getElem?_eq_some_iff.mp b
 exact (List.getElem_inj hN).mp (e1.trans e2.symm)
theorem qG {M:Model} {A:Around} {E:Value→Shared→Prop} {i:Nat} {x:Str} {v:V} {u:Value} {Q:Unit→Shared→Prop} (I:Inv X pins σ H s) (hN:X.N.Nodup) (hi:X.N[i]? = some x) (hx:Loc X.env.scope x) (r:RelV v u)
  (h:∀ s',Inv X pins (σ.set i (some v)) H s'→(∃ a,Heap.SameBut a s.heap s'.heap∧(a=X.env.locals∨X.env.cells.lookup x=some a))→Q () s') (hf:X.fn x=true∨X.env.scope.names.lookup x=some .local:=by first | exact .inl rfl | exact .inr rfl | assumption):wpAny M A (storeName X.env x u) Q E s:=by
 obtain ⟨m,hn,hl⟩:=id I.loc
 have hcls:(X.env.scope.kind == .class || (X.env.scope.kind == .module && X.env.locals != X.env.globals))=false:=by rw [I.ok.kind]; rfl
 have hiσ:i < σ.length:=by rw [I.len]; exact (List.getElem?_eq_some_iff.mp hi).1
 have Ji:=I.Ji
 have tracked:∀ {a:Addr} {h':Heap},(∃ o,s.heap.get? a=some o∧H a=none)→Heap.SameBut a s.heap h'→jR X.prog X.w H h':=fun {a h'} ha hs b ob e=>by
  obtain ⟨_,_,hfree⟩:=ha
  refine (I.hok b ob e).stay (fun c w' hc q=>(hs.2 c ?_).trans q) (fun _ q=>q) fun _ _ q=>q
  rintro rfl
  rcases hc with rfl | hc
  ·rw [hfree] at e; cases e
  ·rw [hfree] at hc; cases hc
 rcases hx with hk | hk
 ·refine wpAny_storeName_local hk hn (fun h' hn' hs=>?_) hcls
  obtain ⟨oL,_,_,hoL,_⟩:=id hn
  refine h _ ⟨I.ok,I.os,I.bare,⟨fun b o e n hb hx=>?_,fun b o e n hb hx=>?_,I.base.free,fun b o e hx=>?_,I.base.tups,I.base.rK,I.base.uI⟩,⟨_,hn',fun j y v' e1 e2 e3=>?_⟩,fun y c e=>?_,I.free,I.jJ,fun p hp=>?_,tracked ⟨oL,hoL,I.free⟩ hs,by simpa using I.len⟩ ⟨_,hs,.inl rfl⟩
  ·exact (hs.2 b (Nat.ne_of_lt (Nat.lt_of_lt_of_le (Heap.lt_size e) I.ok.above))).trans (I.base.keep b o e n hb hx)
  ·obtain ⟨sl,e1⟩:=I.base.slot b o e n hb hx
   exact ⟨sl,(hs.2 b (Nat.ne_of_lt (Nat.lt_of_lt_of_le (Heap.lt_size e) I.ok.above))).trans e1⟩
  ·obtain ⟨o',e1⟩:=I.base.there b o e hx
   exact ⟨o',(hs.2 b (Nat.ne_of_lt (Nat.lt_of_lt_of_le (Heap.lt_size e) I.ok.above))).trans e1⟩
  ·by_cases hj:j=i
   ·subst hj
    rw [hi] at e1; cases e1
    rw [List.getElem?_set_self hiσ] at e2
    cases e2
    exact ⟨u,r,.inl ⟨hk,by simp⟩⟩
   ·rw [List.getElem?_set_ne (Ne.symm hj)] at e2
    obtain ⟨u',r',q⟩:=hl j y v' e1 e2 e3
    refine ⟨u',r',?_⟩
    rcases q with ⟨k,e⟩ | ⟨k,c,e,z⟩
    ·refine .inl ⟨k,?_⟩
     have:y ≠ x:=fun e=>hj (uJ hN e1 (e ▸ hi))
     simp [this,e]
    ·exact .inr ⟨k,c,e,z.sameBut hs (Ji y c e)⟩
  ·obtain ⟨w',z⟩:=I.cell y c e
   exact ⟨w',z.sameBut hs (Ji y c e)⟩
  ·obtain ⟨e,n,ne,nf,d⟩:=I.pin p hp
   exact ⟨(hs.2 p.1 ne).trans e,n,ne,nf,d⟩
 ·have hfn:X.fn x=true:=by
   rcases hf with z | z
   ·exact z
   ·rw [z] at hk; cases hk
  obtain ⟨c,hc⟩:=I.ok.has x (.inl hk)
  obtain ⟨w',z⟩:=I.cell x c hc
  refine wpAny_storeName_cell I.ok.kind hk hc z (fun h' hc' hs=>?_)
  obtain ⟨oc,hoc,QU⟩:=id z
  refine h { s with heap:=h' } ⟨I.ok,I.os,I.bare,⟨fun b o e n hb hx=>?_,fun b o e n hb hx=>?_,I.base.free,fun b o e hx=>?_,I.base.tups,I.base.rK,I.base.uI⟩,⟨m,hn.sameBut hs (Ne.symm (Ji x c hc)),fun j y v' e1 e2 e3=>?_⟩,fun y c' e=>?_,I.free,I.jJ,fun p hp=>?_,tracked ⟨oc,hoc,I.jJ x c hc⟩ hs,by simpa using I.len⟩ ⟨c,hs,.inr hc⟩
  ·exact (hs.2 b (Nat.ne_of_lt (Nat.lt_of_lt_of_le (Heap.lt_size e) (I.ok.cab x c hfn hc)))).trans (I.base.keep b o e n hb hx)
  ·obtain ⟨sl,e1⟩:=I.base.slot b o e n hb hx
   exact ⟨sl,(hs.2 b (Nat.ne_of_lt (Nat.lt_of_lt_of_le (Heap.lt_size e) (I.ok.cab x c hfn hc)))).trans e1⟩
  ·obtain ⟨o',e1⟩:=I.base.there b o e hx
   exact ⟨o',(hs.2 b (Nat.ne_of_lt (Nat.lt_of_lt_of_le (Heap.lt_size e) (I.ok.cab x c hfn hc)))).trans e1⟩
  ·by_cases hj:j=i
   ·subst hj
    rw [hi] at e1; cases e1
    rw [List.getElem?_set_self hiσ] at e2
    cases e2
    exact ⟨u,r,.inr ⟨.inl hk,c,hc,hc'⟩⟩
   ·rw [List.getElem?_set_ne (Ne.symm hj)] at e2
    obtain ⟨u',r',q⟩:=hl j y v' e1 e2 e3
    refine ⟨u',r',?_⟩
    rcases q with q | ⟨k,c',e,z'⟩
    ·exact .inl q
    ·refine .inr ⟨k,c',e,z'.sameBut hs ?_⟩
     rintro rfl
     exact hj (uJ hN e1 (I.ok.inj _ _ _ e hc ▸ hi))
  ·by_cases hcc:c'=c
   ·subst hcc; exact ⟨_,hc'⟩
   ·obtain ⟨w2,z2⟩:=I.cell y c' e
    exact ⟨w2,z2.sameBut hs hcc⟩
  ·obtain ⟨e,n,ne,nf,d⟩:=I.pin p hp
   refine ⟨(hs.2 p.1 ?_).trans e,n,ne,nf,d⟩
   intro q
   rw [q,hoc] at e
   have q':oc=p.2:=Option.some.inj e
   exact d w' (by rw [← q']; exact QU)
theorem uK {M:Model} {A:Around} {E:Value→Shared→Prop} {i:Nat} {x:Str} {v:V} {u:Value} {Q:Unit→Shared→Prop} (I:Inv X pins σ H s) (hN:X.N.Nodup) (hi:X.N[i]? = some x) (hx:Loc X.env.scope x) (r:RelV v u)
  (h:∀ s',Inv X pins (σ.set i (some v)) H s'→Q () s') (hf:X.fn x=true∨X.env.scope.names.lookup x=some .local:=by first | exact .inl rfl | exact .inr rfl | assumption):wpAny M A (storeName X.env x u) Q E s :=
 qG I hN hi hx r (fun s' I' _=>h s' I') hf
theorem Inv.call' {s':Shared} {ch:List Addr} (I:Inv X pins σ H s) (ho:s'.os=s.os) (u:Un (frs X.stack) ch H H' s.heap s'.heap) (hok:jR X.prog X.w H' s'.heap) (hg:AllBare s'.gens)
  (hch:∀ b ∈ ch,(b ∈ X.ex∨X.s₀.heap.objs.size ≤ b)∧b ≠ X.env.locals∧(∀ x c,X.env.cells.lookup x=some c→c ≠ b)∧∀ p ∈ X.pn ++ pins,p.1 ≠ b):Inv X pins σ H' s':=by
 obtain ⟨h',g',d',t',o'⟩:=s'
 have e:o'=s.os:=ho
 subst e
 exact I.call (g':=g') (t':=t') (d':=d') u hok hg hch
end
abbrev XK:=Value→Option Addr→Hp→Prop
abbrev St:=List (Option V)
abbrev VK:=V→Hp→Prop
abbrev TE:=St→Hp→VK→Prop
abbrev TT:=St→Hp→(Bool→Hp→Prop)→Prop
abbrev TA:=St→Hp→(List V→Hp→Prop)→Prop
structure Ends where
 nx:St→Hp→Prop
 rt:VK
 bk:St→Hp→Prop:=fun _ _=>False
 ct:St→Hp→Prop:=fun _ _=>False
abbrev TS:=Ends→St→Hp→Prop
def EP (X:Cx) (pins:List (Addr × Obj)) (σ:St) (Q:VK) (u:Value) (s':Shared):Prop:=∃ v H',Inv X pins σ H' s'∧RelV v u∧Q v H'
def TP (X:Cx) (pins:List (Addr × Obj)) (σ:St) (Q:Bool→Hp→Prop) (b:Bool) (s':Shared):Prop:=∃ H',Inv X pins σ H' s'∧Q b H'
def AP (X:Cx) (pins:List (Addr × Obj)) (σ:St) (Q:List V→Hp→Prop) (us:List Value) (s':Shared):Prop:=∃ vs H',Inv X pins σ H' s'∧Vals vs us∧Q vs H'
def SP (X:Cx) (pins:List (Addr × Obj)) (D:Ends) (f:Flow) (s':Shared):Prop :=
 match f with
 | .next=>∃ σ' H',Inv X pins σ' H' s'∧D.nx σ' H'
 | .brk=>∃ σ' H',Inv X pins σ' H' s'∧D.bk σ' H'
 | .cont=>∃ σ' H',Inv X pins σ' H' s'∧D.ct σ' H'
 | .ret u=>∃ v σ' H',Inv X pins σ' H' s'∧RelV v u∧D.rt v H'
def PE (X:Cx) (e:Expr) (t:TE):Prop :=
 ∀ (pins:List (Addr × Obj)) (s:Shared) (σ:St) (H:Hp) (Q:VK),Inv X pins σ H s→t σ H Q→wpAny (model X.prog X.w) X.A (eval e X.env) (EP X pins σ Q) X.xe s
def PT (X:Cx) (e:Expr) (t:TT):Prop :=
 ∀ (pins:List (Addr × Obj)) (s:Shared) (σ:St) (H:Hp) (Q:Bool→Hp→Prop),Inv X pins σ H s→t σ H Q→wpAny (model X.prog X.w) X.A (isTrue e X.env (eval e X.env)) (TP X pins σ Q) X.xe s
def PW (X:Cx) (e:Expr) (t:TT):Prop :=
 ∀ (whole:Sem Value) (pins:List (Addr × Obj)) (s:Shared) (σ:St) (H:Hp) (Q:Bool→Hp→Prop),Inv X pins σ H s→t σ H Q→wpAny (model X.prog X.w) X.A (isTrue e X.env whole) (TP X pins σ Q) X.xe s
theorem PW.pt {X:Cx} {e:Expr} {t:TT} (h:PW X e t):PT X e t:=h _
def PA (X:Cx) (es:List Expr) (t:TA):Prop :=
 ∀ (pos:Pos) (pins:List (Addr × Obj)) (s:Shared) (σ:St) (H:Hp) (Q:List V→Hp→Prop),Inv X pins σ H s→t σ H Q→wpAny (model X.prog X.w) X.A (spliced (backTo pos (starEach es X.env))) (AP X pins σ Q) X.xe s
def PS (X:Cx) (st:Stmt) (t:TS):Prop :=
 ∀ (pins:List (Addr × Obj)) (s:Shared) (σ:St) (H:Hp) (D:Ends),Inv X pins σ H s→t D σ H→wpAny (model X.prog X.w) X.A (exec st X.env) (SP X pins D) X.xe s
def rM (X:Cx) (st:List Stmt) (t:TS):Prop :=
 ∀ (pins:List (Addr × Obj)) (s:Shared) (σ:St) (H:Hp) (D:Ends),Inv X pins σ H s→t D σ H→wpAny (model X.prog X.w) X.A (execs st X.env) (SP X pins D) X.xe s
theorem cG {α:Type} {t:Sem α} {Q Q':α→Shared→Prop} {M:Model} {A:Around} {E:Value→Shared→Prop} {s:Shared} (h:wpAny M A t Q E s) (hQ:∀ a s,Q a s→Q' a s):wpAny M A t Q' E s:=wpAny_mono h hQ fun _ _ x=>x
section
variable {X:Cx}
def zx (i:Nat):TE:=fun σ H Q=>∃ v,σ[i]? = some (some v)∧Q v H
def tC (v:V):TE:=fun _ H Q=>Q v H
theorem Jj {i:Nat} {x:Str} {pos:Pos} (hN:X.N[i]? = some x) (hv:QP X.env.scope x) (hd:(x == ("__debug__" : Str))=false:=by decide) (hcd:(x == ("__classdict__" : Str))=false:=by decide):PE X (.Name x pos) (zx i):=by
 intro pins s σ H Q I h
 obtain ⟨v,e,h⟩:=h
 obtain ⟨m,hn,hl⟩:=I.loc
 obtain ⟨u,r,l⟩:=hl i x v hN e hv
 have fin:EP X pins σ Q u s:=⟨v,H,I,r,h⟩
 rcases l with ⟨hk,hm⟩ | ⟨hk,c,hc,hcell⟩
 ·exact wpAny_Name (wpAny_loadName_local I.ok.kind hk hn hm fin) hd
 ·rcases hk with hk | hk
  ·exact wpAny_Name (wpAny_loadName_cell I.ok.kind hk hc hcell fin) hd
  ·exact wpAny_Name (wpAny_loadName_free I.ok.kind hk hc hcell fin hcd) hd
theorem ai {i j pos}:PE X (.Constant (.int i) j pos) (tC (.int i)):=fun _ _ _ H _ I h=>wpAny_Constant_int ⟨.int i,H,I.tok _,⟨_,rfl⟩,h⟩
theorem lT {b j pos}:PE X (.Constant (.bool b) j pos) (tC (.bl b)):=fun _ _ _ H _ I h=>Constant_bool ⟨.bl b,H,I,rfl,h⟩
theorem ef {j pos}:PE X (.Constant .none j pos) (tC .non):=fun _ _ _ H _ I h=>Constant_none ⟨.non,H,I,rfl,h⟩
theorem aq {x j pos}:PE X (.Constant (.str x) j pos) (tC (.str x)):=fun _ _ _ H _ I h=>Calls.Constant_str ⟨.str x,H,I.tok _,⟨_,rfl⟩,h⟩
def Gl (X:Cx) (x:Str):Prop:=X.env.kindOf x=some .globalImplicit
theorem rN {E:Value→Shared→Prop} {pins:List (Addr × Obj)} {s:Shared} {σ:St} {H:Hp} {x:Str} {u:Value} {pos:Pos} {Q:Value→Shared→Prop} (I:Inv X pins σ H s) (hg:Gl X x) (hm:X.mg x=some u) (h:Q u s)
  (hd:(x == ("__debug__" : Str))=false:=by decide):wpAny (model X.prog X.w) X.A (eval (.Name x pos) X.env) Q E s :=
 Calls.Name_function_global I.ok.kind hg (Calls.loadGlobal_global (by rw [I.ok.glob]; exact I.mod.glob.keeps I.bk) hm h) hd
theorem jS {E:Value→Shared→Prop} {pins:List (Addr × Obj)} {s:Shared} {σ:St} {H:Hp} {x:Str} {u:Value} {pos:Pos} {Q:Value→Shared→Prop} (I:Inv X pins σ H s) (hg:Gl X x) (hm:X.mg x=none) (hv:bootBuiltins x=some u) (h:Q u s)
  (hn:x ≠ "__name__" := by decide) (hd:(x == ("__debug__" : Str))=false:=by decide):wpAny (model X.prog X.w) X.A (eval (.Name x pos) X.env) Q E s:=by
 obtain ⟨mb,h1,h2⟩:=I.mod.blt
 exact Calls.Name_function_global I.ok.kind hg (Calls.loadGlobal_builtin (by rw [I.ok.glob]; exact I.mod.glob.keeps I.bk) hm (by rw [I.ok.blt]; exact h1.keeps I.bk) ((h2 x hn).trans hv) h) hd
theorem dC {x:Str} {v:V} {u:Value} {pos:Pos} (hg:Gl X x) (hm:X.mg x=some u) (r:RelV v u) (hd:(x == ("__debug__" : Str))=false:=by decide):PE X (.Name x pos) (tC v) :=
 fun _ _ _ H _ I h=>rN I hg hm ⟨v,H,I,r,h⟩ hd
theorem g9 {x:Str} {v:V} {u:Value} {pos:Pos} (hg:Gl X x) (hm:X.mg x=none) (hv:bootBuiltins x=some u) (r:RelV v u) (hn:x ≠ "__name__" := by decide) (hd:(x == ("__debug__" : Str))=false:=by decide):PE X (.Name x pos) (tC v) :=
 fun _ _ _ H _ I h=>jS I hg hm hv ⟨v,H,I,r,h⟩ hn hd
variable {a b:Expr} {ta tb:TE} {pos:Pos}
def PC (X:Cx) (op:CmpOp) (a b:Expr) (t:TE):Prop :=
 ∀ (pins:List (Addr × Obj)) (s:Shared) (σ:St) (H:Hp) (Q:VK),Inv X pins σ H s→t σ H Q →
  wpAny (model X.prog X.w) X.A (eval a X.env) (fun v s₁=>wpAny (model X.prog X.w) X.A (eval b X.env) (fun u s₂=>wpAny (model X.prog X.w) X.A (compareOp op v u) (EP X pins σ Q) X.xe s₂) X.xe s₁) X.xe s
def tB (t:TE):TT:=fun σ H Q=>t σ H fun x H1=>∃ c,x=.bl c∧Q c H1
theorem Bs {op:CmpOp} {t:TE} (h:PC X op a b t) (h1:behindInMarks op b=false:=by first | exact Bu _ (by decide) (by decide) | rfl):PE X (.Compare a [op] [b] pos) t:=fun pins s σ H Q I hw=>wpAny_Compare1 (h pins s σ H Q I hw) h1
theorem Bv {op:CmpOp} {t:TE} (h:PC X op a b t) (h1:behindInMarks op b=false:=by first | exact Bu _ (by decide) (by decide) | rfl):PT X (.Compare a [op] [b] pos) (tB t):=by
 intro pins s σ H Q I hw
 refine wpAny_isTrue_Compare1 (cG (h pins s σ H _ I hw) fun v s1 h1=>cG h1 fun u s2 h2=>cG h2 fun c s3 ⟨x,H1,I1,r1,q1⟩=>?_) h1
 obtain ⟨d,rfl,q⟩:=q1
 cases r1
 exact wpAny_truthy_bool ⟨H1,I1,q⟩
theorem gj {e:Expr} {t:TE} (h:PE X e t) (he:∀ whole,isTrue e X.env whole=(do let v ← whole; standAt e.pos; holding [v] (truthy v)):=by intro _; rfl):PT X e (tB t):=by
 intro pins s σ H Q I hw
 refine isTrue_plain (cG (h pins s σ H _ I hw) fun v s1 ⟨x,H1,I1,r1,q1⟩=>?_) (he _)
 obtain ⟨d,rfl,q⟩:=q1
 cases r1
 exact wpAny_truthy_bool ⟨H1,I1,q⟩
variable {tA Qm:TT} {rest:List Expr}
def QV (t u:TT):TT:=fun σ H Q=>t σ H fun c H1=>if c=true then u σ H1 Q else Q false H1
def tOr (t u:TT):TT:=fun σ H Q=>t σ H fun c H1=>if c=true then Q true H1 else u σ H1 Q
def QW (t:TT):TT:=fun σ H Q=>t σ H fun c H1=>Q (!c) H1
theorem dD (ha:PT X a tA):PW X (.BoolOp .And [a] pos) tA:=by
 intro wh pins s σ H Q I h
 refine isTrue_and (cG (ha pins s σ H Q I h) fun c s1 e=>?_)
 cases c with
 | true=>exact isTrue_and_nil e
 | false=>exact e
theorem iZ (ha:PT X a tA):PW X (.BoolOp .Or [a] pos) tA:=by
 intro wh pins s σ H Q I h
 refine isTrue_or (cG (ha pins s σ H Q I h) fun c s1 e=>?_)
 cases c with
 | false=>exact isTrue_or_nil e
 | true=>exact e
theorem dM (ha:PT X a tA) (hb:PW X (.BoolOp .And (b :: rest) pos) Qm):PW X (.BoolOp .And (a :: b :: rest) pos) (QV tA Qm):=by
 intro wh pins s σ H Q I h
 refine isTrue_and (cG (ha pins s σ H _ I h) fun c s1 ⟨H1,I1,q1⟩=>?_)
 cases c with
 | true=>exact hb wh pins s1 σ H1 Q I1 q1
 | false=>exact ⟨H1,I1,q1⟩
theorem j3 (ha:PT X a tA) (hb:PW X (.BoolOp .Or (b :: rest) pos) Qm):PW X (.BoolOp .Or (a :: b :: rest) pos) (tOr tA Qm):=by
 intro wh pins s σ H Q I h
 refine isTrue_or (cG (ha pins s σ H _ I h) fun c s1 ⟨H1,I1,q1⟩=>?_)
 cases c with
 | true=>exact ⟨H1,I1,q1⟩
 | false=>exact hb wh pins s1 σ H1 Q I1 q1
theorem iG (ha:PT X a tA):PT X (.UnaryOp .Not a pos) (QW tA):=by
 intro pins s σ H Q I h
 exact isTrue_not (ha pins s σ H (fun c H1=>Q (!c) H1) I h)
def LQ (ta tb:TE):TE:=fun σ H Q=>ta σ H fun x H1=>∃ c,x=.bl c∧if c=true then tb σ H1 Q else Q (.bl false) H1
def LR (ta:TE):TE:=fun σ H Q=>ta σ H fun x H1=>∃ c,x=.bl c∧Q (.bl (!c)) H1
theorem jT {op} {t:TE} (h:PE X a t):PE X (.BoolOp op [a] pos) t:=fun pins s σ H Q I hw=>BoolOp_one (h pins s σ H Q I hw)
theorem iH (ha:PE X a ta) (hb:PE X (.BoolOp .And (b :: rest) pos) tb):PE X (.BoolOp .And (a :: b :: rest) pos) (LQ ta tb):=by
 intro pins s σ H Q I h
 refine BoolOp_and (cG (ha pins s σ H _ I h) fun v s1 ⟨x,H1,I1,r1,q1⟩=>?_)
 obtain ⟨c,rfl,q1⟩:=q1
 cases r1
 refine wpAny_truthy_bool ?_
 cases c with
 | true=>exact hb pins s1 σ H1 Q I1 q1
 | false=>exact ⟨.bl false,H1,I1,rfl,q1⟩
theorem Jk (ha:PE X a ta):PE X (.UnaryOp .Not a pos) (LR ta):=by
 intro pins s σ H Q I h
 refine UnaryOp_ (cG (ha pins s σ H _ I h) fun v s1 ⟨x,H1,I1,r1,q1⟩=>?_)
 obtain ⟨c,rfl,q1⟩:=q1
 cases r1
 exact not_of (wpAny_truthy_bool ⟨.bl (!c),H1,I1,rfl,q1⟩)
def tIf (t:TT) (ta tb:TE):TE:=fun σ H Q=>t σ H fun c H1=>if c=true then ta σ H1 Q else tb σ H1 Q
theorem uL {c:Expr} (hc:PT X c tA) (ha:PE X a ta) (hb:PE X b tb):PE X (.IfExp c a b pos) (tIf tA ta tb):=by
 intro pins s σ H Q I h
 refine wpAny_IfExp (cG (hc pins s σ H _ I h) fun d s1 ⟨H1,I1,q1⟩=>?_)
 cases d with
 | true=>exact ha pins s1 σ H1 Q I1 q1
 | false=>exact hb pins s1 σ H1 Q I1 q1
end
def bh (K:PySem.W.Frag) (H:Hp) (a:Addr) (xs:List V):Prop :=
 Rd H a (.lst xs) ∨
  ∃ (o:Obj) (its:Array Value) (n:Nat),K.lookup a=some o∧o.cls=.type "list" ∧ o.dict=none∧o.data=.seq its n∧its.size ≤ sizeLine∧Vals xs its.toList
def aS (K:PySem.W.Frag) (H:Hp) (a:Addr) (xs:List V):Prop :=
 Rd H a (.tup xs) ∨
  ∃ (o:Obj) (its:Array Value) (n:Nat),K.lookup a=some o∧o.cls=.type "tuple" ∧ o.data=.seq its n∧its.size ≤ sizeLine∧Vals xs its.toList
def QX:Value→Option V
 | .none=>some .non
 | .bool b=>some (.bl b)
 | .int i _=>some (.int i)
 | .str x _=>some (.str x)
 | .bytes b _=>some (.Bg b)
 | .float b _=>some (.flt b)
 | .ref a=>some (.ref a)
 | .type n=>some (.ty n)
 | _=>none
theorem RelV.abs {x:V} {u:Value} (r:RelV x u):QX u=some x:=by
 cases x with
 | non=>cases r; rfl
 | bl _=>cases r; rfl
 | int _=>obtain ⟨t,rfl⟩:=r; rfl
 | str _=>obtain ⟨t,rfl⟩:=r; rfl
 | Bg _=>obtain ⟨t,rfl⟩:=r; rfl
 | flt _=>obtain ⟨t,rfl⟩:=r; rfl
 | ref _=>cases r; rfl
 | ty _=>cases r; rfl
theorem RelV.inj {x y:V} {u:Value} (r:RelV x u) (q:RelV y u):x=y:=Option.some.inj (r.abs.symm.trans q.abs)
theorem Vals.inj:∀ {xs ys:List V} {us:List Value},Vals xs us→Vals ys us→xs=ys
 | _,_,_,.nil,.nil=>rfl
 | _,_,_,.cons r t,.cons r' t'=>by rw [r.inj r',Vals.inj t t']
section
variable {X:Cx} {pins:List (Addr × Obj)} {σ:St} {H:Hp} {s:Shared} {a:Addr} {xs ys:List V}
theorem bh.of {K:PySem.W.Frag} (h:H a=some (.lst xs)):bh K H a xs:=.inl (.inl h)
theorem aS.of {K:PySem.W.Frag} (h:H a=some (.tup xs)):aS K H a xs:=.inl (.inl h)
theorem Inv.list (I:Inv X pins σ H s) (h:bh X.K H a xs):∃ its:List Value,Vals xs its∧PlainL s.heap a its.toArray∧xs.length ≤ sizeLine:=by
 rcases h with h | ⟨o,its,n,hk,hc,hd,hs,hz,r⟩
 ·obtain ⟨z,its,n,r,e⟩:=h.ok I.hok
  exact ⟨its,r,⟨_,n,e,rfl,rfl,rfl⟩,z⟩
 ·refine ⟨its.toList,r,⟨o,n,I.lz a o hk,hc,hd,by simpa using hs⟩,?_⟩
  have e:=r.length
  simp only [Array.length_toList] at e
  omega
theorem Inv.tuple (I:Inv X pins σ H s) (h:aS X.K H a xs):∃ its:List Value,Vals xs its∧IsTup s.heap a its.toArray∧xs.length ≤ sizeLine:=by
 rcases h with h | ⟨o,its,n,hk,hc,hs,hz,r⟩
 ·obtain ⟨z,its,r,p⟩:=h.ok I.hok
  exact ⟨its,r,p,z⟩
 ·refine ⟨its.toList,r,⟨o,I.lz a o hk,hc,n,by simpa using hs⟩,?_⟩
  have e:=r.length
  simp only [Array.length_toList] at e
  omega
theorem Inv.n9 (I:Inv X pins σ H s) (h:bh X.K H a xs) (h':bh X.K H a ys):xs=ys:=by
 obtain ⟨its,r,⟨o,n,e,_,_,d⟩,_⟩:=I.list h
 obtain ⟨its',r',⟨o',n',e',_,_,d'⟩,_⟩:=I.list h'
 rw [e] at e'; cases e'
 rw [d] at d'
 injection d' with d1 _
 have:its=its':=by simpa using congrArg Array.toList d1
 subst this
 exact r.inj r'
theorem Inv.jj (I:Inv X pins σ H s) (h:aS X.K H a xs) (h':aS X.K H a ys):xs=ys:=by
 obtain ⟨its,r,⟨o,e,_,n,d⟩,_⟩:=I.tuple h
 obtain ⟨its',r',⟨o',e',_,n',d'⟩,_⟩:=I.tuple h'
 rw [e] at e'; cases e'
 rw [d] at d'
 injection d' with d1 _
 have:its=its':=by simpa using congrArg Array.toList d1
 subst this
 exact r.inj r'
end
abbrev Cx.wish (X:Cx) (E:Value→Shared→Prop):Cx:={ X with xe:=E }
abbrev Cx.Qn (X:Cx):Cx:=X.wish fun _ _=>False
theorem Cx.Ok.wish {X:Cx} (ok:X.Ok) (E:Value→Shared→Prop):(X.wish E).Ok :=
 ⟨ok.mod,ok.kind,ok.glob,ok.blt,ok.above,ok.inj,ok.has,ok.cab,ok.hd,ok.frames,ok.stk,ok.QR,ok.bs,ok.Ey,ok.Bq,ok.Br,ok.mF,ok.Jh⟩
theorem Cx.Ok.i0 {X:Cx} {E:Value→Shared→Prop} (ok:(X.wish E).Ok):X.Ok :=
 ⟨ok.mod,ok.kind,ok.glob,ok.blt,ok.above,ok.inj,ok.has,ok.cab,ok.hd,ok.frames,ok.stk,ok.QR,ok.bs,ok.Ey,ok.Bq,ok.Br,ok.mF,ok.Jh⟩
section
variable {X:Cx} {pins:List (Addr × Obj)} {σ:St} {H:Hp} {s:Shared} {E:Value→Shared→Prop}
theorem Inv.wish (I:Inv X pins σ H s) (E:Value→Shared→Prop):Inv (X.wish E) pins σ H s:=⟨I.ok.wish E,I.os,I.bare,I.base,I.loc,I.cell,I.free,I.jJ,I.pin,I.hok,I.len⟩
theorem Inv.i0 (I:Inv (X.wish E) pins σ H s):Inv X pins σ H s:=⟨I.ok.i0,I.os,I.bare,I.base,I.loc,I.cell,I.free,I.jJ,I.pin,I.hok,I.len⟩
theorem SP.i0 {D:Ends} {f:Flow} {s':Shared} (h:SP (X.wish E) pins D f s'):SP X pins D f s':=by
 cases f with
 | next=>obtain ⟨σ',H',I,q⟩:=h; exact ⟨σ',H',I.i0,q⟩
 | brk=>obtain ⟨σ',H',I,q⟩:=h; exact ⟨σ',H',I.i0,q⟩
 | cont=>obtain ⟨σ',H',I,q⟩:=h; exact ⟨σ',H',I.i0,q⟩
 | ret u=>obtain ⟨v,σ',H',I,r,q⟩:=h; exact ⟨v,σ',H',I.i0,r,q⟩
theorem rM.Qn {st:List Stmt} {t:TS} (h:rM X.Qn st t):rM X st t:=fun pins s σ H D I hw =>
 wpAny_mono (h pins s σ H D (I.wish _) hw) (fun _ _ q=>q.i0) fun _ _ z=>False.elim z
end
section
variable {X:Cx} {st:Stmt} {rest:List Stmt} {t u:TS} {e:Expr} {te:TE} {pos:Pos}
def LU:TS:=fun D σ H=>D.nx σ H
def Ez (t u:TS):TS:=fun D σ H=>t { D with nx:=u D } σ H
theorem aM:rM X [] LU:=fun _ _ σ H _ I h=>wpAny_execs_nil ⟨σ,H,I,h⟩
theorem aA (h1:PS X st t) (h2:rM X rest u):rM X (st :: rest) (Ez t u):=by
 intro pins s σ H D I h
 refine wpAny_execs_cons (cG (h1 pins s σ H { D with nx:=u D } I h) fun f s1 q=>?_)
 cases f with
 | next =>
  obtain ⟨σ',H',I',q⟩:=q
  exact h2 pins s1 σ' H' D I' q
 | ret v=>exact q
 | brk=>exact q
 | cont=>exact q
theorem aw (h1:PS X st t):rM X [st] t:=by
 intro pins s σ H D I h
 refine wpAny_execs_cons (cG (h1 pins s σ H D I h) fun f s1 q=>?_)
 cases f with
 | next=>exact wpAny_execs_nil q
 | ret v=>exact q
 | brk=>exact q
 | cont=>exact q
theorem Inv.quiet {pins:List (Addr × Obj)} {σ:St} {H:Hp} {s:Shared} (I:Inv X pins σ H s):interactive X.env=false:=by simp [interactive,I.ok.kind]
def LV (te:TE):TS:=fun D σ H=>te σ H fun _ H1=>D.nx σ H1
theorem bJ (he:PE X e te) (hs:swapsWith e none pos.line X.env=pure false:=by rfl):PS X (.Expr e pos) (LV te):=by
 intro pins s σ H D I h
 exact wpAny_Expr_any (cG (he pins s σ H _ I h) fun v s1 ⟨x,H1,I1,r1,q1⟩=>⟨σ,H1,I1,q1⟩) I.quiet hs
def LW (te:TE):TS:=fun D σ H=>te σ H D.rt
theorem aU (he:PE X e te):PS X (.Return (some e) pos) (LW te):=by
 intro pins s σ H D I h
 exact wpAny_Return_some (cG (he pins s σ H _ I h) fun v s1 ⟨x,H1,I1,r1,q1⟩=>⟨x,σ,H1,I1,r1,q1⟩)
def LX:TS:=fun D _ H=>D.rt .non H
theorem EA:PS X (.Return none pos) LX:=fun _ _ σ H _ I h=>wpAny_Return_none ⟨.non,σ,H,I,rfl,h⟩
def LY (c:TT) (t u:TS):TS:=fun D σ H=>c σ H fun b H1=>if b=true then t D σ H1 else u D σ H1
theorem bU {c:Expr} {a b:List Stmt} {tc:TT} (hc:PT X c tc) (ha:rM X a t) (hb:rM X b u):PS X (.If c a b pos) (LY tc t u):=by
 intro pins s σ H D I h
 refine wpAny_If (cG (hc pins s σ H _ I h) fun d s1 ⟨H1,I1,q1⟩=>?_)
 cases d with
 | true=>exact ha pins s1 σ H1 D I1 q1
 | false=>exact hb pins s1 σ H1 D I1 q1
def Bw:TS:=fun _ _ _=>False
theorem i3:PS X st Bw:=fun _ _ _ _ _ _ h=>h.elim
theorem lA {sts:List Stmt}:rM X sts Bw:=fun _ _ _ _ _ _ h=>h.elim
end
abbrev TG:=V→St→Hp→(St→Hp→Prop)→Prop
abbrev Jl:=List V→St→Hp→(St→Hp→Prop)→Prop
def PG (X:Cx) (target:Expr) (t:TG):Prop :=
 ∀ (pins:List (Addr × Obj)) (s:Shared) (σ:St) (H:Hp) (v:V) (u:Value) (Q:St→Hp→Prop),Inv X pins σ H s→RelV v u→t v σ H Q →
  wpAny (model X.prog X.w) X.A (assign target X.env u) (fun _ s'=>∃ σ' H',Inv X pins σ' H' s'∧Q σ' H') X.xe s
def Qo (X:Cx) (ts:List Expr) (t:Jl):Prop :=
 ∀ (pins:List (Addr × Obj)) (s:Shared) (σ:St) (H:Hp) (vs:List V) (us:List Value) (Q:St→Hp→Prop),Inv X pins σ H s→Vals vs us→t vs σ H Q →
  wpAny (model X.prog X.w) X.A (assignInOrder ((assignEach ts X.env).map (·.2)) us) (fun _ s'=>∃ σ' H',Inv X pins σ' H' s'∧Q σ' H') X.xe s
abbrev Jm:=V→V→V→Hp→(Hp→Prop)→Prop
def LZ (X:Cx) (t:Jm):Prop :=
 ∀ (pins:List (Addr × Obj)) (s:Shared) (σ:St) (H:Hp) (o i v:V) (ov iv u:Value) (Q:Hp→Prop),Inv X pins σ H s→RelV o ov→RelV i iv→RelV v u→t o i v H Q →
  wpAny (model X.prog X.w) X.A (setItem ov iv u) (fun _ s'=>∃ H',Inv X pins σ H' s'∧Q H') X.xe s
section
variable {X:Cx} {pos:Pos}
def hC (i:Nat):TG:=fun v σ H Q=>Q (σ.set i (some v)) H
theorem cD {i:Nat} {x:Str} (hN:X.N.Nodup) (hi:X.N[i]? = some x) (hx:Loc X.env.scope x) (hf:X.fn x=true∨X.env.scope.names.lookup x=some .local:=by first | exact .inl rfl | exact .inr rfl | assumption):PG X (.Name x pos) (hC i):=by
 intro pins s σ H v u Q I r h
 exact wpAny_assign_Name (uK I hN hi hx r (fun s' I'=>⟨_,H,I',h⟩) hf)
def Jo:Jl:=fun vs σ H Q=>vs=[]∧Q σ H
def uM (t:TG) (u:Jl):Jl:=fun vs σ H Q=>∃ v r,vs=v :: r∧t v σ H fun σ' H'=>u r σ' H' Q
theorem rO:Qo X [] Jo:=by
 intro pins s σ H vs us Q I r h
 obtain ⟨e,h⟩:=h
 subst e
 cases r
 exact assignInOrder_nil ⟨σ,H,I,h⟩
theorem fX {e:Expr} {es:List Expr} {t:TG} {u:Jl} (h1:PG X e t) (h2:Qo X es u)
  (hs:(assignEach (e :: es) X.env).map (·.2)=assign e X.env :: (assignEach es X.env).map (·.2):=by rfl):Qo X (e :: es) (uM t u):=by
 intro pins s σ H vs us Q I r h
 obtain ⟨v,vr,e1,h⟩:=h
 subst e1
 cases r with
 | cons r rr =>
  rw [hs]
  refine assignInOrder_cons (cG (h1 pins s σ H _ _ _ I r h) fun _ s1 ⟨σ1,H1,I1,q1⟩=>?_)
  exact h2 pins s1 σ1 H1 _ _ Q I1 rr q1
def Jp (K:PySem.W.Frag) (n:Nat) (t:Jl):TG:=fun v σ H Q=>∃ a xs,v=.ref a∧aS K H a xs∧xs.length=n∧t xs σ H Q
theorem vL {es:List Expr} {k:Nat} {t:Jl} {n:Nat} (hc:X.calm=true) (h:Qo X es t)
  (hn:(assignEach es X.env).length=n:=by rfl) (hst:(assignEach es X.env).findIdx? (·.1)=none:=by rfl):PG X (.Tuple es k pos) (Jp X.K n t):=by
 intro pins s σ H v u Q I r hw
 obtain ⟨a,xs,e1,hq,hl,hw⟩:=hw
 subst e1
 cases r
 obtain ⟨its,rv,ht,hz⟩:=I.tuple hq
 refine assign_Tuple_tuple (I.ok.hd hc) ht (by simp [hn,← hl,rv.length]) hst fun h' hx=>?_
 have I1:Inv X pins σ H { s with heap:=h' }:=I.kept (t':=s.toks) fun b o e=>hx b o (Nat.ne_of_lt (Heap.lt_size e)) e
 exact h pins _ σ H xs _ Q I1 (by simpa using rv) hw
def QY (to ti:TE) (t:Jm):TG:=fun v σ H Q=>to σ H fun o H1=>ti σ H1 fun i H2=>t o i v H2 fun H3=>Q σ H3
theorem eI {o i:Expr} {to ti:TE} {t:Jm} (ho:PE X o to) (hi:PE X i ti) (hs:LZ X t)
  (ha:∀ v,assign (.Subscript o i pos) X.env v=(do
   let ov ← holding [v] (eval o X.env)
   let iv ← holding [v,ov] (eval i X.env)
   standAt pos
   holding [v,ov,iv] (setItem ov iv v)
   release [v,ov,iv] []):=by intro _; rfl):PG X (.Subscript o i pos) (QY to ti t):=by
 intro pins s σ H v u Q I r h
 rw [ha]
 refine wpAny_bind (wpAny_holding (cG (ho pins s σ H _ I h) fun ov s1 ⟨x,H1,I1,r1,q1⟩=>?_))
 refine wpAny_bind (wpAny_holding (cG (hi pins s1 σ H1 _ I1 q1) fun iv s2 ⟨y,H2,I2,r2,q2⟩=>?_))
 refine wpAny_bind (wpAny_standAt (wpAny_bind (wpAny_holding (cG (hs pins s2 σ H2 x y v ov iv u _ I2 r1 r2 r q2) fun _ s3 ⟨H3,I3,q3⟩=>?_))))
 exact wpAny_release ⟨σ,H3,I3,q3⟩
def By (te:TE) (g:TG):TS:=fun D σ H=>te σ H fun x H1=>g x σ H1 D.nx
theorem dO {tg e:Expr} {te:TE} {g:TG} (he:PE X e te) (hg:PG X tg g) (hs:swapsWithSole [tg] e pos.line X.env=pure false:=by rfl) (hw:swappedStores [tg] e X.env=pure none:=by rfl)
  (h1:(assignEach [tg] X.env).map (·.2)=[assign tg X.env]:=by rfl):PS X (.Assign [tg] e pos) (By te g):=by
 intro pins s σ H D I h
 refine wpAny_Assign_stores (cG (he pins s σ H _ I h) fun v s1 ⟨x,H1,I1,r1,q1⟩=>?_) hs hw
 rw [h1]
 exact cG (hg pins s1 σ H1 x v _ I1 r1 q1) fun _ s2 q=>q
theorem aV {i:Nat} {x:Str} {e:Expr} {te:TE} {pos':Pos} (hN:X.N.Nodup) (hi:X.N[i]? = some x) (hx:Loc X.env.scope x) (he:PE X e te) (hs:swapsWith e (some (.Name x pos')) pos.line X.env=pure false:=by rfl) (hf:X.fn x=true∨X.env.scope.names.lookup x=some .local:=by first | exact .inl rfl | exact .inr rfl | assumption) :
  PS X (.Assign [.Name x pos'] e pos) (By te (hC i)):=by
 intro pins s σ H D I h
 refine wpAny_Assign_Name (cG (he pins s σ H _ I h) fun v s1 ⟨y,H1,I1,r1,q1⟩=>?_) hs
 exact uK I1 hN hi hx r1 (fun s2 I2=>⟨_,H1,I2,q1⟩) hf
end
section
variable {X:Cx} {pos:Pos}
def Jq (c:TT) (tb:TS):TS:=fun D σ H=>∃ W:Nat→St→Hp→Prop,(∃ m,W m σ H)∧∀ m σ H,W m σ H →
 c σ H fun b H1=>if b=true then ∃ N:St→Hp→Prop,(∀ σ' H',N σ' H'→∃ m',m' < m∧W m' σ' H')∧tb { D with nx:=N,ct:=N,bk:=D.nx } σ H1 else D.nx σ H1
theorem og {c:Expr} {body:List Stmt} {tc:TT} {tb:TS} (hp:PassesOwn (model X.prog X.w) X.A X.env X.xe) (hc:PT X c tc) (hb:rM X body tb):PS X (.While c body [] pos) (Jq tc tb):=by
 intro pins s σ H D I h
 obtain ⟨W,⟨m0,w0⟩,turn⟩:=h
 refine wpAny_While (codeAny_whileLoop (fun n s'=>∃ σ' H',Inv X pins σ' H' s'∧W n σ' H') ?_ m0 ⟨σ,H,I,w0⟩)
 rintro n s1 ⟨σ1,H1,I1,w1⟩
 refine wpAny_passesOwn hp (cG (hc pins s1 σ1 H1 _ I1 (turn n σ1 H1 w1)) fun b s2 ⟨H2,I2,q2⟩=>?_)
 cases b with
 | true =>
  obtain ⟨N,hN,q2⟩:=q2
  rw [if_pos rfl]
  refine wpAny_passesOwn hp (cG (hb pins s2 σ1 H2 _ I2 q2) fun f s3 q3=>?_)
  cases f with
  | next =>
   obtain ⟨σ3,H3,I3,n3⟩:=q3
   obtain ⟨m',hm,w3⟩:=hN σ3 H3 n3
   exact ⟨m',hm,σ3,H3,I3,w3⟩
  | cont =>
   obtain ⟨σ3,H3,I3,n3⟩:=q3
   obtain ⟨m',hm,w3⟩:=hN σ3 H3 n3
   exact ⟨m',hm,σ3,H3,I3,w3⟩
  | brk=>exact q3
  | ret v=>exact q3
 | false =>
  rw [if_neg Bool.false_ne_true]
  exact wpAny_execs_nil ⟨σ1,H2,I2,q2⟩
end
structure It where
 go:Nat→Hp→Prop
 Bh:Nat→Hp→V→Hp→Prop
 stop:Nat→Hp→Prop
def oh (X:Cx) (pins:List (Addr × Obj)) (H:Hp) (b:Addr):Prop :=
 H b=none∧b ≠ X.env.locals∧b ∉ X.fs∧(b ∈ X.ex∨X.s₀.heap.objs.size ≤ b)∧(∀ x c,X.env.cells.lookup x=some c→c ≠ b)∧∀ p ∈ X.pn ++ pins,p.1 ≠ b
theorem Inv.zy {X:Cx} {pins:List (Addr × Obj)} {σ:St} {H H':Hp} {s:Shared} {b:Addr} (I:Inv X pins σ H s) (hb:s.heap.objs.size ≤ b) (hn:H' b=none):oh X pins H' b:=by
 refine ⟨hn,Nat.ne_of_gt (Nat.lt_of_lt_of_le I.lt hb),I.QT hb,.inr (Nat.le_trans I.sz hb),fun x c e z=>?_,fun p hp z=>?_⟩
 ·obtain ⟨v,q⟩:=I.cell x c e
  exact absurd (Nat.lt_of_lt_of_le q.lt (by rw [z]; exact hb)) (Nat.lt_irrefl _)
 ·exact absurd (Nat.lt_of_lt_of_le (Heap.lt_size (I.pin p hp).1) (by rw [z]; exact hb)) (Nat.lt_irrefl _)
structure Turn (P:Program) (w:World) (K:PySem.W.Frag) (tg:Expr) (J:It) (fp:List Addr) (it:Addr) (tn:Nat→Heap→Prop):Prop where
 mem:it ∈ fp
 obj:∀ i h,tn i h→∀ b ∈ fp,∃ o,h.get? b=some o∧∀ v,o.data ≠ .cell v
 keep:∀ i h h',tn i h→(∀ b ∈ fp,∀ o,h.get? b=some o→h'.get? b=some o)→tn i h'
 item:∀ (X:Cx),X.prog=P→X.w=w→X.K=K→X.calm=true→∀ (i:Nat) (pins:List (Addr × Obj)) (s:Shared) (σ:St) (H:Hp) (E:Value→Shared→Prop),Inv X pins σ H s→(∀ b ∈ fp,oh X pins H b)→tn i s.heap→J.go i H →
  wpAny (model P w) X.A (pyNext (.ref it)) (fun r s1=>∃ u,r=some u ∧
   wpAny (model P w) X.A (letOwnedTupleGo tg (.ref it) u) (fun _ s2=>∃ x H',Inv X pins σ H' s2∧RelV x u∧J.Bh i H x H'∧tn (i + 1) s2.heap∧∀ b ∈ fp,H' b=none) E s1) E s
 done:∀ (X:Cx),X.prog=P→X.w=w→X.K=K→X.calm=true→∀ (i:Nat) (pins:List (Addr × Obj)) (s:Shared) (σ:St) (H:Hp) (E:Value→Shared→Prop),Inv X pins σ H s→(∀ b ∈ fp,oh X pins H b)→tn i s.heap→J.stop i H →
  wpAny (model P w) X.A (pyNext (.ref it)) (fun r s1=>r=none∧Inv X pins σ H s1) E s
 self:∀ (A:Around) (i:Nat) (s:Shared) (Q:Value→Shared→Prop) (E:Value→Shared→Prop),tn i s.heap→Q (.ref it) s→wpAny (model P w) A (pyIter (.ref it)) Q E s
abbrev TI:=St→Hp→(It→Hp→Prop)→Prop
def PIE (X:Cx) (pins:List (Addr × Obj)) (σ:St) (tg:Expr) (R:It→Hp→Prop) (itv:Value) (s2:Shared):Prop :=
 ∃ (it:Addr) (fp:List Addr) (tn:Nat→Heap→Prop) (J:It) (H':Hp),itv=.ref it∧Inv X pins σ H' s2∧Turn X.prog X.w X.K tg J fp it tn∧tn 0 s2.heap∧(∀ b ∈ fp,oh X pins H' b)∧R J H'
def PI (X:Cx) (tg iter:Expr) (wi:TI):Prop :=
 ∀ (pins:List (Addr × Obj)) (s:Shared) (σ:St) (H:Hp) (R:It→Hp→Prop),Inv X pins σ H s→wi σ H R →
  wpAny (model X.prog X.w) X.A (eval iter X.env) (fun v s1=>wpAny (model X.prog X.w) X.A (pyIter v) (PIE X pins σ tg R) X.xe s1) X.xe s
theorem yk {M:Model} {A:Around} {E:Value→Shared→Prop} {s:Shared} {tg:Expr} {it:Addr} {u:Value} {o:Obj} {n:String} {vs:Array Value} {Q:Unit→Shared→Prop} (ho:s.heap.get? it=some o) (hc:o.cls=.type n) (hd:o.data=.fields vs)
  (hn:["enumerate", "zip", "dict_itemiterator", "dict_reverseitemiterator", "odict_iterator", "itertools.zip_longest", "itertools.pairwise"].contains n=false) (hQ:Q () s):wpAny M A (letOwnedTupleGo tg (.ref it) u) Q E s:=by
 unfold letOwnedTupleGo
 cases tg <;> first
  | exact wpAny_pure hQ
  | (cases u <;> first
    | exact wpAny_pure hQ
    | (refine wpAny_bind (wpAny_load ho ?_)
       rw [hc,hd]
       show wpAny M A (if (["enumerate", "zip", "dict_itemiterator", "dict_reverseitemiterator", "odict_iterator", "itertools.zip_longest", "itertools.pairwise"].contains n && vs[0]? == some (rawInt _))=true then _ else _) Q E s
       rw [if_neg (by intro h; rw [hn,Bool.false_and] at h; cases h)]
       exact wpAny_pure hQ))
def Bz (K:PySem.W.Frag) (a:Addr):It :=
 ⟨fun i H=>∃ xs x,bh K H a xs∧xs[i]? = some x,fun i H x H'=>H'=H∧∀ xs,bh K H a xs→xs[i]? = some x,fun i H=>∃ xs,bh K H a xs∧xs.length ≤ i⟩
def L0 (K:PySem.W.Frag) (a:Addr):It :=
 ⟨fun i H=>∃ xs x,aS K H a xs∧xs[i]? = some x,fun i H x H'=>H'=H∧∀ xs,aS K H a xs→xs[i]? = some x,fun i H=>∃ xs,aS K H a xs∧xs.length ≤ i⟩
def EB (lo:Int) (n:Nat):It:=⟨fun i _=>i < n,fun i H x H'=>H'=H∧x=.int (lo + i),fun i _=>n ≤ i⟩
theorem zA {P:Program} {w:World} {K:PySem.W.Frag} {tg:Expr} (a it:Addr):Turn P w K tg (Bz K a) [it] it (fun i h=>h.IsListIter it a i) where
 mem:=by simp
 obj:=fun i h st b hb=>by
  have e:b=it:=by simpa using hb
  subst e
  obtain ⟨o,e,c,d⟩:=st
  exact ⟨o,e,fun v z=>by rw [d] at z; cases z⟩
 keep:=fun i h h' st k=>st.at fun o e=>k it (by simp) o e
 item:=by
  intro X hP hw hK hc i pins s σ H E I hf st hg
  subst hP hw hK
  obtain ⟨xs,x,hq,hx⟩:=hg
  obtain ⟨its,rv,p,hz⟩:=I.list hq
  obtain ⟨u,hu,ru⟩:=rv.get hx
  obtain ⟨f0,f1,f2,f3,f4,f5⟩:=hf it (by simp)
  refine wpAny_pyNext_list_item st p.isList (x:=u) (by simpa using hu) fun h' st' sb=>?_
  have I1:Inv X pins σ H { s with heap:=h' }:=I.turned (t':=s.toks) (fun b o hb e=>(sb.2 b hb).trans e) f0 f1 f3 f4 f5
  obtain ⟨o,e,c,d⟩:=id st'
  exact ⟨u,rfl,yk (s:={ s with heap:=h' }) e c d (by decide) ⟨x,H,I1,ru,⟨rfl,fun ys hy=>by rw [I.n9 hy hq]; exact hx⟩,st',fun b hb=>(hf b hb).1⟩⟩
 done:=by
  intro X hP hw hK hc i pins s σ H E I hf st hg
  subst hP hw hK
  obtain ⟨xs,hq,hx⟩:=hg
  obtain ⟨its,rv,p,hz⟩:=I.list hq
  obtain ⟨f0,f1,f2,f3,f4,f5⟩:=hf it (by simp)
  have hl:=rv.length
  exact wpAny_pyNext_list_end (I.ok.hd hc) st p.isList (by simp; omega) fun h' eb=>⟨rfl,I.turned (t':=s.toks) (fun b o hb e=>eb b o hb e) f0 f1 f3 f4 f5⟩
 self:=fun _ _ _ _ _ st h=>wpAny_pyIter_listiter st h
theorem vM {P:Program} {w:World} {K:PySem.W.Frag} {tg:Expr} (a it:Addr):Turn P w K tg (L0 K a) [it] it (fun i h=>h.IsTupleIter it a i) where
 mem:=by simp
 obj:=fun i h st b hb=>by
  have e:b=it:=by simpa using hb
  subst e
  obtain ⟨o,e,c,d⟩:=st
  exact ⟨o,e,fun v z=>by rw [d] at z; cases z⟩
 keep:=fun i h h' st k=>st.at fun o e=>k it (by simp) o e
 item:=by
  intro X hP hw hK hc i pins s σ H E I hf st hg
  subst hP hw hK
  obtain ⟨xs,x,hq,hx⟩:=hg
  obtain ⟨its,rv,p,hz⟩:=I.tuple hq
  obtain ⟨u,hu,ru⟩:=rv.get hx
  obtain ⟨f0,f1,f2,f3,f4,f5⟩:=hf it (by simp)
  refine wpAny_pyNext_tuple_item st (show s.heap.IsTuple a its.toArray from p) (x:=u) (by simpa using hu) fun h' st' sb=>?_
  have I1:Inv X pins σ H { s with heap:=h' }:=I.turned (t':=s.toks) (fun b o hb e=>(sb.2 b hb).trans e) f0 f1 f3 f4 f5
  obtain ⟨o,e,c,d⟩:=id st'
  exact ⟨u,rfl,yk (s:={ s with heap:=h' }) e c d (by decide) ⟨x,H,I1,ru,⟨rfl,fun ys hy=>by rw [I.jj hy hq]; exact hx⟩,st',fun b hb=>(hf b hb).1⟩⟩
 done:=by
  intro X hP hw hK hc i pins s σ H E I hf st hg
  subst hP hw hK
  obtain ⟨xs,hq,hx⟩:=hg
  obtain ⟨its,rv,p,hz⟩:=I.tuple hq
  obtain ⟨f0,f1,f2,f3,f4,f5⟩:=hf it (by simp)
  have hl:=rv.length
  exact wpAny_pyNext_tuple_end (I.ok.hd hc) st (show s.heap.IsTuple a its.toArray from p) (by simp; omega) fun h' eb=>⟨rfl,I.turned (t':=s.toks) (fun b o hb e=>eb b o hb e) f0 f1 f3 f4 f5⟩
 self:=fun _ _ _ _ _ st h=>wpAny_pyIter_tupleiter st h
theorem vN {P:Program} {w:World} {K:PySem.W.Frag} {tg:Expr} (it:Addr) (lo:Int) (n:Nat):Turn P w K tg (EB lo n) [it] it (fun i h=>IsRangeIter h it (lo + (i:Nat) * 1) ((n:Int) - (i:Nat)) 1) where
 mem:=by simp
 obj:=fun i h st b hb=>by
  have e:b=it:=by simpa using hb
  subst e
  exact ⟨_,st,fun v z=>by
   have z':Data.fields _=Data.cell v:=z
   cases z'⟩
 keep:=fun i h h' st k=>k it (by simp) _ st
 item:=by
  intro X hP hw hK hc i pins s σ H E I hf st hg
  subst hP hw hK
  obtain ⟨f0,f1,f2,f3,f4,f5⟩:=hf it (by simp)
  have W:=Walks.range (prog:=X.prog) (w:=X.w) (I.ok.hd hc) it lo 1 n
  refine W.item i s _ _ hg st fun v h' tk hv st' kk=>?_
  obtain ⟨t,rfl⟩:=hv
  have I1:Inv X pins σ H { s with heap:=h',toks:=tk }:=I.turned (fun b o hb e=>kk b o (by simpa using hb) e) f0 f1 f3 f4 f5
  refine ⟨_,rfl,yk (s:={ s with heap:=h',toks:=tk }) (n := "range_iterator") st' rfl rfl (by decide) ⟨.int (lo + i),H,I1,⟨t,?_⟩,⟨rfl,rfl⟩,st',fun b hb=>(hf b hb).1⟩⟩
  rw [Int.mul_one]
 done:=by
  intro X hP hw hK hc i pins s σ H E I hf st hg
  subst hP hw hK
  obtain ⟨f0,f1,f2,f3,f4,f5⟩:=hf it (by simp)
  exact wpAny_pyNext_range_end (I.ok.hd hc) st (by have:n ≤ i:=hg; omega) fun h' eb=>⟨rfl,I.turned (t':=s.toks) (fun b o hb e=>eb b o hb e) f0 f1 f3 f4 f5⟩
 self:=fun _ _ _ _ _ st h=>wpAny_pyIter_rangeiter st h
section
variable {X:Cx} {tg:Expr}
def L1 (K:PySem.W.Frag) (tl:TE):TI:=fun σ H R=>tl σ H fun x H1=>∃ a,x=.ref a∧(∃ xs,bh K H1 a xs)∧R (Bz K a) H1
def QZ (K:PySem.W.Frag) (tl:TE):TI:=fun σ H R=>tl σ H fun x H1=>∃ a,x=.ref a∧(∃ xs,aS K H1 a xs)∧R (L0 K a) H1
theorem dI {l:Expr} {tl:TE} (hl:PE X l tl):PI X tg l (L1 X.K tl):=by
 intro pins s σ H R I h
 refine cG (hl pins s σ H _ I h) fun v s1 ⟨x,H1,I1,r1,q1⟩=>?_
 obtain ⟨a,e,⟨xs,hq⟩,q⟩:=q1
 subst e
 cases r1
 obtain ⟨its,rv,p,hz⟩:=I1.list hq
 refine wpAny_pyIter_list p.isList ?_
 refine ⟨s1.heap.objs.size,[s1.heap.objs.size],_,_,H1,rfl,I1.kept (t':=s1.toks) fun b o e=>Heap.get?_push_of_some _ e,zA a _,⟨_,Heap.get?_push_size _ rfl,rfl,rfl⟩,fun b hb=>?_,q⟩
 have e:b=s1.heap.objs.size:=by simpa using hb
 subst e
 exact I1.zy (Nat.le_refl _) (I1.hok.fresh (Nat.le_refl _))
theorem Jr {l:Expr} {tl:TE} (hl:PE X l tl):PI X tg l (QZ X.K tl):=by
 intro pins s σ H R I h
 refine cG (hl pins s σ H _ I h) fun v s1 ⟨x,H1,I1,r1,q1⟩=>?_
 obtain ⟨a,e,⟨xs,hq⟩,q⟩:=q1
 subst e
 cases r1
 obtain ⟨its,rv,p,hz⟩:=I1.tuple hq
 refine wpAny_pyIter_tuple (show s1.heap.IsTuple a its.toArray from p) ?_
 refine ⟨s1.heap.objs.size,[s1.heap.objs.size],_,_,H1,rfl,I1.kept (t':=s1.toks) fun b o e=>Heap.get?_push_of_some _ e,vM a _,⟨_,Heap.get?_push_size _ rfl,rfl,rfl⟩,fun b hb=>?_,q⟩
 have e:b=s1.heap.objs.size:=by simpa using hb
 subst e
 exact I1.zy (Nat.le_refl _) (I1.hok.fresh (Nat.le_refl _))
theorem BA {pins:List (Addr × Obj)} {σ:St} {H:Hp} {s:Shared} {R:It→Hp→Prop} {E:Value→Shared→Prop} {lo hi:Int} {t u v:Tok} {tk:Nat} (I:Inv X pins σ H s) (h1:-(2 ^ 62) ≤ lo) (h2:lo < 2 ^ 62) (h3:-(2 ^ 62) ≤ hi) (h4:hi < 2 ^ 62)
  (q:R (EB lo (hi - lo).toNat) H):wpAny (model X.prog X.w) X.A (pyIter (.ref s.heap.objs.size)) (PIE X pins σ tg R) E { s with heap:=s.heap.push { cls:=.type "range",data:=.fields #[.int lo t,.int hi u,.int 1 v] },toks:=tk }:=by
 refine wpAny_pyIter_range (IsRange.new ..) (small_one h1 h2 h3 h4) ?_
 have I1:Inv X pins σ H { s with heap:=s.heap.push { cls:=.type "range",data:=.fields #[.int lo t,.int hi u,.int 1 v] },toks:=tk }:=I.kept fun b o e=>Heap.get?_push_of_some _ e
 refine ⟨(s.heap.push { cls:=.type "range",data:=.fields #[.int lo t,.int hi u,.int 1 v] }).objs.size,[(s.heap.push { cls:=.type "range",data:=.fields #[.int lo t,.int hi u,.int 1 v] }).objs.size],_,_,H,rfl,
  I1.kept (t':=tk) fun b o e=>Heap.get?_push_of_some _ e,vN _ lo (hi - lo).toNat,?_,fun b hb=>?_,q⟩
 ·have e1:lo + ((0:Nat):Int) * 1=lo:=by simp
  have e2:(((hi - lo).toNat:Nat):Int) - ((0:Nat):Int)=Builtin.Range.rangeSize lo hi 1:=by rw [rangeSize_one]; split <;> omega
  show IsRangeIter _ _ (lo + ((0:Nat):Int) * 1) ((((hi - lo).toNat:Nat):Int) - ((0:Nat):Int)) 1
  rw [e1,e2]
  exact Heap.get?_push_size _ rfl
 ·have e:b=(s.heap.push { cls:=.type "range",data:=.fields #[.int lo t,.int hi u,.int 1 v] }).objs.size:=by simpa using hb
  subst e
  exact I1.zy (Nat.le_refl _) (I1.hok.fresh (Nat.le_refl _))
def L3 (ta:TA):TI:=fun σ H R=>ta σ H fun vs H1=>∃ j:Int,vs=[.int j]∧-(2 ^ 62) ≤ j∧j < 2 ^ 62∧R (EB 0 j.toNat) H1
theorem lB {a:Expr} {ta:TA} {p pos:Pos} (hg:Gl X "range") (hm:X.mg "range" = none) (ha:PA X [a] ta) (hs:starEach [a] X.env=[(false,eval a X.env)]:=by rfl):PI X tg (.Call (.Name "range" p) [a] [] pos) (L3 ta):=by
 intro pins s σ H R I h
 refine Call_ (jS I hg hm boot_range (PyProof.Rows.callWith_type1 (cG (ha pos pins s σ H _ I h) fun us s1 ⟨vs,H1,I1,r1,q1⟩=>?_) hs rfl))
 obtain ⟨j,e,q1,q2,q⟩:=q1
 subst e
 cases r1 with
 | cons r rr =>
  cases rr
  obtain ⟨t,rfl⟩:=r
  exact call_range_1 (BA I1 (by omega) (by omega) q1 q2 (by simpa using q))
def Q0 (wi:TI) (g:TG) (tb:TS):TS:=fun D σ H=>wi σ H fun J H1=>∃ W:Nat→Nat→St→Hp→Prop,(∃ m,W 0 m σ H1)∧∀ i m σ H,W i m σ H →
 (J.stop i H∧D.nx σ H)∨(J.go i H∧∃ N:St→Hp→Prop,(∀ σ' H',N σ' H'→∃ m',m' < m∧W (i + 1) m' σ' H')∧∀ x H',J.Bh i H x H'→g x σ H' fun σ2 H2=>tb { D with nx:=N,ct:=N,bk:=D.nx } σ2 H2)
def oi (fp:List Addr) (h:Heap):List (Addr × Obj):=fp.filterMap fun b=>(h.get? b).map fun o=>(b,o)
theorem iI {fp:List Addr} {h:Heap} {b:Addr} {o:Obj} (hb:b ∈ fp) (e:h.get? b=some o):(b,o) ∈ oi fp h:=List.mem_filterMap.mpr ⟨b,hb,by rw [e]; rfl⟩
theorem zB {fp:List Addr} {h:Heap} {p:Addr × Obj} (hp:p ∈ oi fp h):p.1 ∈ fp∧h.get? p.1=some p.2:=by
 obtain ⟨b,hb,e⟩:=List.mem_filterMap.mp hp
 cases q:h.get? b with
 | none=>rw [q] at e; cases e
 | some o =>
  rw [q] at e
  have e':(b,o)=p:=Option.some.inj e
  subst e'
  exact ⟨hb,q⟩
theorem Inv.pinned {pins:List (Addr × Obj)} {σ:St} {H:Hp} {s:Shared} {fp:List Addr} (I:Inv X pins σ H s) (hf:∀ b ∈ fp,oh X pins H b) (ho:∀ b ∈ fp,∃ o,s.heap.get? b=some o∧∀ v,o.data ≠ .cell v):Inv X (pins ++ oi fp s.heap) σ H s :=
 I.yj fun p hp=>(List.mem_append.mp hp).elim (fun z=>I.pin p (List.mem_append_right _ z)) fun z=>by
  obtain ⟨hb,e⟩:=zB z
  obtain ⟨f0,f1,f2,_⟩:=hf p.1 hb
  obtain ⟨o,e',d⟩:=ho p.1 hb
  rw [e] at e'; cases e'
  exact ⟨e,f0,f1,f2,d⟩
theorem Inv.j4 {pins pl:List (Addr × Obj)} {σ:St} {H:Hp} {s:Shared} (I:Inv X (pins ++ pl) σ H s):Inv X pins σ H s:=I.yj fun p hp=>I.pin p (List.mem_append_right _ (List.mem_append_left _ hp))
theorem gM {iter:Expr} {body:List Stmt} {wi:TI} {g:TG} {tb:TS} {pos:Pos} (hp:PassesOwn (model X.prog X.w) X.A X.env X.xe) (hc:X.calm=true) (hi:PI X tg iter wi) (hg:PG X tg g) (hb:rM X body tb)
  (hs:∀ x,foldedSetIterable iter X.env x=pure x:=by intro _; rfl):PS X (.For tg iter body [] pos) (Q0 wi g tb):=by
 intro pins s σ H D I h
 refine wpAny_For (cG (hi pins s σ H _ I h) fun v s1 h1=>cG h1 fun itv s2 h2=>?_) hs
 obtain ⟨it,fp,tn,J,H2,e,I2,T,st2,f2,W,⟨m0,w0⟩,turn⟩:=h2
 subst e
 have stat:∀ {H':Hp},(∀ b ∈ fp,H' b=none)→∀ b ∈ fp,oh X pins H' b:=fun hn b hb=>⟨hn b hb,(f2 b hb).2⟩
 refine codeAny_forLoop_any (fun n s'=>∃ i σ' H',Inv X pins σ' H' s'∧tn i s'.heap∧(∀ b ∈ fp,H' b=none)∧W i n σ' H') ?_ m0 ⟨0,σ,H2,I2,st2,fun b hb=>(f2 b hb).1,w0⟩
 rintro n s3 ⟨i,σ3,H3,I3,st3,fr3,w3⟩
 rcases turn i n σ3 H3 w3 with ⟨stop,qn⟩ | ⟨go,N,hN,step⟩
 ·refine wpAny_passesOwn hp (cG (T.done X rfl rfl rfl hc i pins s3 σ3 H3 X.xe I3 (stat fr3) st3 stop) fun r s4 ⟨hr,I4⟩=>?_)
  subst hr
  exact wpAny_execs_nil ⟨σ3,H3,I4,qn⟩
 ·refine wpAny_passesOwn hp (cG (T.item X rfl rfl rfl hc i pins s3 σ3 H3 X.xe I3 (stat fr3) st3 go) fun r s4 ⟨u,hr,h4⟩=>?_)
  subst hr
  refine wpAny_passesOwn hp (cG h4 fun _ s5 ⟨x,H5,I5,r5,y5,Lv,Qp⟩=>?_)
  have I5':=I5.pinned (stat Qp) (T.obj _ _ Lv)
  refine wpAny_passesOwn hp (cG (hg _ s5 σ3 H5 x u _ I5' r5 (step x H5 y5)) fun _ s6 ⟨σ6,H6,I6,q6⟩=>?_)
  refine wpAny_passesOwn hp (cG (hb _ s6 σ6 H6 _ I6 q6) fun f s7 q7=>?_)
  have again:∀ {σ7:St} {H7:Hp},Inv X (pins ++ oi fp s5.heap) σ7 H7 s7→N σ7 H7→∃ m,m < n∧∃ i σ' H',Inv X pins σ' H' s7∧tn i s7.heap∧(∀ b ∈ fp,H' b=none)∧W i m σ' H':=fun {σ7 H7} I7 n7=>by
   obtain ⟨m',hm,w7⟩:=hN σ7 H7 n7
   refine ⟨m',hm,i + 1,σ7,H7,I7.j4,T.keep _ _ _ Lv fun b hb o e=>(I7.pin (b,o) (List.mem_append_right _ (List.mem_append_right _ (iI hb e)))).1,fun b hb=>?_,w7⟩
   obtain ⟨o,e,d⟩:=T.obj _ _ Lv b hb
   exact (I7.pin (b,o) (List.mem_append_right _ (List.mem_append_right _ (iI hb e)))).2.1
  cases f with
  | next=>obtain ⟨σ7,H7,I7,n7⟩:=q7; exact again I7 n7
  | cont=>obtain ⟨σ7,H7,I7,n7⟩:=q7; exact again I7 n7
  | brk=>obtain ⟨σ7,H7,I7,q7⟩:=q7; exact ⟨σ7,H7,I7.j4,q7⟩
  | ret v=>obtain ⟨x7,σ7,H7,I7,r7,q7⟩:=q7; exact ⟨x7,σ7,H7,I7.j4,r7,q7⟩
end
theorem i5 {K:PySem.W.Frag} {a:Addr} {xs:List V} {g:TG} {tb:TS} {D:Ends} {σ:St} {H:Hp} (Pv:Nat→St→Hp→Prop) (h0:Pv 0 σ H) (hl:∀ i σ H,i ≤ xs.length→Pv i σ H→bh K H a xs)
  (hs:∀ i x σ H,xs[i]? = some x→Pv i σ H→g x σ H fun σ2 H2=>tb { D with nx:=Pv (i + 1),ct:=Pv (i + 1),bk:=D.nx } σ2 H2) (hd:∀ σ H,Pv xs.length σ H→D.nx σ H) :
  ∃ W:Nat→Nat→St→Hp→Prop,(∃ m,W 0 m σ H)∧∀ i m σ H,W i m σ H →
   ((Bz K a).stop i H∧D.nx σ H)∨((Bz K a).go i H∧∃ N:St→Hp→Prop,(∀ σ' H',N σ' H'→∃ m',m' < m∧W (i + 1) m' σ' H')∧∀ x H',(Bz K a).Bh i H x H'→g x σ H' fun σ2 H2=>tb { D with nx:=N,ct:=N,bk:=D.nx } σ2 H2):=by
 refine ⟨fun i m σ H=>m=xs.length - i∧i ≤ xs.length∧Pv i σ H,⟨xs.length,by simp,Nat.zero_le _,h0⟩,?_⟩
 rintro i m σ H ⟨rfl,hi,p⟩
 have q:=hl i σ H hi p
 by_cases hlt:i < xs.length
 ·refine .inr ⟨⟨xs,xs[i],q,by simp [hlt]⟩,Pv (i + 1),fun σ' H' p'=>⟨xs.length - (i + 1),by omega,rfl,hlt,p'⟩,fun x H' y=>?_⟩
  obtain ⟨e,y⟩:=y
  subst e
  exact hs i x σ _ (y xs q) p
 ·have e:i=xs.length:=by omega
  subst e
  exact .inl ⟨⟨xs,q,Nat.le_refl _⟩,hd σ H p⟩
theorem qH {lo:Int} {n:Nat} {g:TG} {tb:TS} {D:Ends} {σ:St} {H:Hp} (Pv:Nat→St→Hp→Prop) (h0:Pv 0 σ H)
  (hs:∀ i σ H,i < n→Pv i σ H→g (.int (lo + i)) σ H fun σ2 H2=>tb { D with nx:=Pv (i + 1),ct:=Pv (i + 1),bk:=D.nx } σ2 H2) (hd:∀ σ H,Pv n σ H→D.nx σ H) :
  ∃ W:Nat→Nat→St→Hp→Prop,(∃ m,W 0 m σ H)∧∀ i m σ H,W i m σ H →
   ((EB lo n).stop i H∧D.nx σ H)∨((EB lo n).go i H∧∃ N:St→Hp→Prop,(∀ σ' H',N σ' H'→∃ m',m' < m∧W (i + 1) m' σ' H')∧∀ x H',(EB lo n).Bh i H x H'→g x σ H' fun σ2 H2=>tb { D with nx:=N,ct:=N,bk:=D.nx } σ2 H2):=by
 refine ⟨fun i m σ H=>m=n - i∧i ≤ n∧Pv i σ H,⟨n,by simp,Nat.zero_le _,h0⟩,?_⟩
 rintro i m σ H ⟨rfl,hi,p⟩
 by_cases hlt:i < n
 ·refine .inr ⟨hlt,Pv (i + 1),fun σ' H' p'=>⟨n - (i + 1),by omega,rfl,hlt,p'⟩,fun x H' y=>?_⟩
  obtain ⟨e,y⟩:=y
  subst e y
  exact hs i σ _ hlt p
 ·have e:i=n:=by omega
  subst e
  exact .inl ⟨Nat.le_refl _,hd σ H p⟩
abbrev R2:=V→V→Hp→VK→Prop
def jU (X:Cx) (f:Value→Value→Sem Value) (r:R2):Prop :=
 ∀ (pins:List (Addr × Obj)) (s:Shared) (σ:St) (H:Hp) (x y:V) (v u:Value) (Q:VK),Inv X pins σ H s→RelV x v→RelV y u→r x y H Q →
  wpAny (model X.prog X.w) X.A (f v u) (EP X pins σ Q) X.xe s
def Q5 (X:Cx) (f:Value→Sem Value) (r:V→Hp→VK→Prop):Prop :=
 ∀ (pins:List (Addr × Obj)) (s:Shared) (σ:St) (H:Hp) (x:V) (v:Value) (Q:VK),Inv X pins σ H s→RelV x v→r x H Q →
  wpAny (model X.prog X.w) X.A (f v) (EP X pins σ Q) X.xe s
def iU (X:Cx) (f:Value) (r:List V→Hp→VK→Prop):Prop :=
 ∀ (pins:List (Addr × Obj)) (s:Shared) (σ:St) (H:Hp) (xs:List V) (us:List Value) (Q:VK),Inv X pins σ H s→Vals xs us→r xs H Q →
  wpAny (model X.prog X.w) X.A (call f us) (EP X pins σ Q) X.xe s
def Js (r:R2) (ta tb:TE):TE:=fun σ H Q=>ta σ H fun x H1=>tb σ H1 fun y H2=>r x y H2 Q
def tUn (r:V→Hp→VK→Prop) (ta:TE):TE:=fun σ H Q=>ta σ H fun x H1=>r x H1 Q
def rI (C:Int→Int→Prop) (g:Int→Int→V):R2:=fun x y H Q=>∃ i j,x=.int i∧y=.int j∧C i j∧Q (g i j) H
def Jt (g:Int→Int→V):R2:=fun x y H Q=>∃ i j,x=.int i∧y=.int j∧Q (g i j) H
def rU (g:Int→V):V→Hp→VK→Prop:=fun x H Q=>∃ i,x=.int i∧Q (g i) H
section
variable {X:Cx} {a b c:Expr} {ta tb tc:TE} {pos:Pos}
theorem Ju (ha:PE X a ta) (hb:PE X b tb) {pins:List (Addr × Obj)} {s:Shared} {σ:St} {H:Hp} {R:V→V→Hp→Prop} (I:Inv X pins σ H s)
  (h:ta σ H fun x H1=>tb σ H1 fun y H2=>R x y H2) {Q:Value→Shared→Prop} {f:Value→Value→Sem Value}
  (hf:∀ v u s2 x y H2,Inv X pins σ H2 s2→RelV x v→RelV y u→R x y H2→wpAny (model X.prog X.w) X.A (f v u) Q X.xe s2) :
  wpAny (model X.prog X.w) X.A (eval a X.env) (fun v s₁=>wpAny (model X.prog X.w) X.A (eval b X.env) (fun u s₂=>wpAny (model X.prog X.w) X.A (f v u) Q X.xe s₂) X.xe s₁) X.xe s:=by
 refine cG (ha pins s σ H _ I h) fun v s1 ⟨x,H1,I1,r1,q1⟩=>?_
 refine cG (hb pins s1 σ H1 _ I1 q1) fun u s2 ⟨y,H2,I2,r2,q2⟩=>?_
 exact hf v u s2 x y H2 I2 r1 r2 q2
theorem aN {op:Operator} {r:R2} (ho:jU X (binaryOp op) r) (ha:PE X a ta) (hb:PE X b tb):PE X (.BinOp a op b pos) (Js r ta tb):=by
 intro pins s σ H Q I h
 exact wpAny_BinOp (Ju ha hb I h fun v u s2 x y H2 I2 rx ry q=>ho pins s2 σ H2 x y v u Q I2 rx ry q)
theorem i6 {op:UnaryOp} {r:V→Hp→VK→Prop} (ho:Q5 X (unaryOp op) r) (ha:PE X a ta):PE X (.UnaryOp op a pos) (tUn r ta):=by
 intro pins s σ H Q I h
 exact UnaryOp_ (cG (ha pins s σ H _ I h) fun v s1 ⟨x,H1,I1,r1,q1⟩=>ho pins s1 σ H1 x v Q I1 r1 q1)
theorem Qq {f:Value→Value→Sem Value} {C:Int→Int→Prop} {g:Int→Int→Int}
  (rule:∀ (i j:Int) (t u:Tok) (s:Shared) (Q:Value→Shared→Prop) (E:Value→Shared→Prop),C i j→Q (.int (g i j) s.toks) { s with toks:=s.toks + 1 }→wpAny (model X.prog X.w) X.A (f (.int i t) (.int j u)) Q E s) :
  jU X f (rI C fun i j=>.int (g i j)):=by
 intro pins s σ H x y v u Q I rx ry h
 obtain ⟨i,j,rfl,rfl,hc,q⟩:=h
 obtain ⟨t,rfl⟩:=rx
 obtain ⟨t',rfl⟩:=ry
 exact rule i j t t' s _ _ hc ⟨.int (g i j),H,I.tok _,⟨_,rfl⟩,q⟩
theorem L4 {f:Value→Value→Sem Value} {g:Int→Int→Int}
  (rule:∀ (i j:Int) (t u:Tok) (s:Shared) (Q:Value→Shared→Prop) (E:Value→Shared→Prop),Q (.int (g i j) s.toks) { s with toks:=s.toks + 1 }→wpAny (model X.prog X.w) X.A (f (.int i t) (.int j u)) Q E s) :
  jU X f (Jt fun i j=>.int (g i j)):=by
 intro pins s σ H x y v u Q I rx ry h
 obtain ⟨i,j,rfl,rfl,q⟩:=h
 obtain ⟨t,rfl⟩:=rx
 obtain ⟨t',rfl⟩:=ry
 exact rule i j t t' s _ _ ⟨.int (g i j),H,I.tok _,⟨_,rfl⟩,q⟩
theorem Jv {f:Value→Value→Sem Value} {g:Int→Int→Bool}
  (rule:∀ (i j:Int) (t u:Tok) (s:Shared) (Q:Value→Shared→Prop) (E:Value→Shared→Prop),Q (.bool (g i j)) s→wpAny (model X.prog X.w) X.A (f (.int i t) (.int j u)) Q E s) :
  jU X f (Jt fun i j=>.bl (g i j)):=by
 intro pins s σ H x y v u Q I rx ry h
 obtain ⟨i,j,rfl,rfl,q⟩:=h
 obtain ⟨t,rfl⟩:=rx
 obtain ⟨t',rfl⟩:=ry
 exact rule i j t t' s _ _ ⟨.bl (g i j),H,I,rfl,q⟩
def Jw (i j:Int):Prop:=0 ≤ j∧j ≤ 1000000∧i.natAbs < 2 ^ 64
def Jx (i j:Int):Prop:=(-(2 ^ 64) < i∧i < 2 ^ 64)∨(-(2 ^ 64) < j∧j < 2 ^ 64)
theorem Jx.ok {i j:Int} (h:Jx i j):IntMulOk i j:=by
 rcases h with ⟨h1,h2⟩ | ⟨h1,h2⟩
 ·exact .of_left (intBits_le_64 h1 h2)
 ·exact .of_right (intBits_le_64 h1 h2)
theorem dn:jU X (binaryOp .Add) (Jt fun i j=>.int (i + j)):=L4 fun _ _ _ _ _ _ _ q=>add_int q
theorem ib:jU X (binaryOp .Sub) (Jt fun i j=>.int (i - j)):=L4 fun _ _ _ _ _ _ _ q=>sub_int q
theorem rP:jU X (binaryOp .Mult) (rI Jx fun i j=>.int (i * j)):=Qq fun _ _ _ _ _ _ _ hc q=>mul_int q hc.ok
theorem bq:jU X (binaryOp .Mod) (rI (fun _ j=>0 < j) fun i j=>.int (i % j)):=Qq fun i j _ _ _ _ _ hc q=>by
 have h1:(0:Int) < j:=hc
 exact mod_int' (by omega) (by rw [Int.fmod_eq_emod_of_nonneg i (by omega)]; exact q)
theorem vO:jU X (binaryOp .Pow) (rI Jw fun i j=>.int (i ^ j.toNat)):=Qq fun _ _ _ _ _ _ _ hc q=>pow_int_small hc.1 hc.2.1 hc.2.2 q
theorem unI {f:Value→Sem Value} {g:Int→Int}
  (rule:∀ (i:Int) (t:Tok) (s:Shared) (Q:Value→Shared→Prop) (E:Value→Shared→Prop),Q (.int (g i) s.toks) { s with toks:=s.toks + 1 }→wpAny (model X.prog X.w) X.A (f (.int i t)) Q E s) :
  Q5 X f (rU fun i=>.int (g i)):=by
 intro pins s σ H x v Q I rx h
 obtain ⟨i,rfl,q⟩:=h
 obtain ⟨t,rfl⟩:=rx
 exact rule i t s _ _ ⟨.int (g i),H,I.tok _,⟨_,rfl⟩,q⟩
theorem gN:Q5 X (unaryOp .USub) (rU fun i=>.int (-i)):=unI fun _ _ _ _ _ q=>neg_int q
end
def L5:V→V→Bool
 | .non,.non=>true | .non,.int _=>true | .int _,.non=>true | .non,.bl _=>true | .bl _,.non=>true | .non,.str _=>true | .str _,.non=>true
 | .int _,.int _=>true | .bl _,.bl _=>true | .str _,.str _=>true | .Bg _,.Bg _=>true
 | .int _,.str _=>true | .str _,.int _=>true | .bl _,.str _=>true | .str _,.bl _=>true
 | _,_=>false
def rEq:R2:=fun x y H Q=>L5 x y=true∧Q (.bl (decide (x=y))) H
def rNe:R2:=fun x y H Q=>L5 x y=true∧Q (.bl (!decide (x=y))) H
theorem rQ {i j:Int}:decide (V.int i=V.int j)=(i == j):=by
 rw [Bool.eq_iff_iff]
 simp
theorem BD {i j:Bool}:decide (V.bl i=V.bl j)=(i == j):=by
 rw [Bool.eq_iff_iff]
 simp
theorem rR {i j:Str}:decide (V.str i=V.str j)=(i == j):=by
 rw [Bool.eq_iff_iff]
 simp
theorem yl {i j:Array UInt8}:decide (V.Bg i=V.Bg j)=(i.toList == j.toList):=by
 rw [Bool.eq_iff_iff]
 cases i
 cases j
 simp
section
variable {X:Cx} {a b c:Expr} {ta tb tc:TE} {pos:Pos}
theorem bX {pins:List (Addr × Obj)} {σ:St} {H:Hp} {s:Shared} {Q:VK} {k k':Bool} (I:Inv X pins σ H s) (q:Q (.bl k) H) (e:k=k'):EP X pins σ Q (.bool k') s:=by
 subst e
 exact ⟨.bl k,H,I,rfl,q⟩
theorem bQ:jU X (compareOp .Eq) rEq:=by
 intro pins s σ H x y v u Q I rx ry h
 obtain ⟨hs,q⟩:=h
 cases x with
 | non =>
  cases rx
  cases y with
  | non=>cases ry; exact PySem.EqNone.eq_none_none (bX I q (by simp))
  | bl j=>cases ry; exact PySem.EqNone.eq_none_bool (bX I q (by simp))
  | int j=>obtain ⟨t',rfl⟩:=ry; exact PySem.EqNone.eq_none_int (bX I q (by simp))
  | str j=>obtain ⟨t',rfl⟩:=ry; exact PySem.EqNone.eq_none_str (bX I q (by simp))
  | _=>exact absurd (show false=true from hs) Bool.false_ne_true
 | bl i =>
  cases rx
  cases y with
  | non=>cases ry; exact PySem.EqNone.eq_bool_none (bX I q (by simp))
  | bl j=>cases ry; exact eq_bool (bX I q BD)
  | str j=>obtain ⟨t',rfl⟩:=ry; exact PySem.EqMixed.eq_bool_str (bX I q (by simp))
  | _=>exact absurd (show false=true from hs) Bool.false_ne_true
 | int i =>
  obtain ⟨t,rfl⟩:=rx
  cases y with
  | non=>cases ry; exact PySem.EqNone.eq_int_none (bX I q (by simp))
  | int j=>obtain ⟨t',rfl⟩:=ry; exact eq_int (bX I q rQ)
  | str j=>obtain ⟨t',rfl⟩:=ry; exact PySem.EqMixed.eq_int_str (bX I q (by simp))
  | _=>exact absurd (show false=true from hs) Bool.false_ne_true
 | str i =>
  obtain ⟨t,rfl⟩:=rx
  cases y with
  | non=>cases ry; exact PySem.EqNone.eq_str_none (bX I q (by simp))
  | bl j=>cases ry; exact PySem.EqMixed.eq_str_bool (bX I q (by simp))
  | int j=>obtain ⟨t',rfl⟩:=ry; exact PySem.EqMixed.eq_str_int (bX I q (by simp))
  | str j=>obtain ⟨t',rfl⟩:=ry; exact eq_str (bX I q rR)
  | _=>exact absurd (show false=true from hs) Bool.false_ne_true
 | Bg i =>
  obtain ⟨t,rfl⟩:=rx
  cases y with
  | Bg j=>obtain ⟨t',rfl⟩:=ry; exact PySem.W.eq_bytes (bX I q yl)
  | _=>exact absurd (show false=true from hs) Bool.false_ne_true
 | _=>cases y <;> exact absurd (show false=true from hs) Bool.false_ne_true
theorem L6:jU X (compareOp .NotEq) rNe:=by
 intro pins s σ H x y v u Q I rx ry h
 obtain ⟨hs,q⟩:=h
 cases x with
 | non =>
  cases rx
  cases y with
  | non=>cases ry; exact PySem.EqNone.ne_none_none (bX I q (by simp))
  | bl j=>cases ry; exact PySem.EqNone.ne_none_bool (bX I q (by simp))
  | int j=>obtain ⟨t',rfl⟩:=ry; exact PySem.EqNone.ne_none_int (bX I q (by simp))
  | str j=>obtain ⟨t',rfl⟩:=ry; exact PySem.EqNone.ne_none_str (bX I q (by simp))
  | _=>exact absurd (show false=true from hs) Bool.false_ne_true
 | bl i =>
  cases rx
  cases y with
  | non=>cases ry; exact PySem.EqNone.ne_bool_none (bX I q (by simp))
  | bl j=>cases ry; exact ne_bool (bX I q (congrArg not BD))
  | str j=>obtain ⟨t',rfl⟩:=ry; exact PySem.EqMixed.ne_bool_str (bX I q (by simp))
  | _=>exact absurd (show false=true from hs) Bool.false_ne_true
 | int i =>
  obtain ⟨t,rfl⟩:=rx
  cases y with
  | non=>cases ry; exact PySem.EqNone.ne_int_none (bX I q (by simp))
  | int j=>obtain ⟨t',rfl⟩:=ry; exact ne_int (bX I q (congrArg not rQ))
  | str j=>obtain ⟨t',rfl⟩:=ry; exact PySem.EqMixed.ne_int_str (bX I q (by simp))
  | _=>exact absurd (show false=true from hs) Bool.false_ne_true
 | str i =>
  obtain ⟨t,rfl⟩:=rx
  cases y with
  | non=>cases ry; exact PySem.EqNone.ne_str_none (bX I q (by simp))
  | bl j=>cases ry; exact PySem.EqMixed.ne_str_bool (bX I q (by simp))
  | int j=>obtain ⟨t',rfl⟩:=ry; exact PySem.EqMixed.ne_str_int (bX I q (by simp))
  | str j=>obtain ⟨t',rfl⟩:=ry; exact ne_str (bX I q (congrArg not rR))
  | _=>exact absurd (show false=true from hs) Bool.false_ne_true
 | Bg i =>
  obtain ⟨t,rfl⟩:=rx
  cases y with
  | Bg j=>obtain ⟨t',rfl⟩:=ry; exact PySem.W.ne_bytes (bX I q (congrArg not yl))
  | _=>exact absurd (show false=true from hs) Bool.false_ne_true
 | _=>cases y <;> exact absurd (show false=true from hs) Bool.false_ne_true
theorem iu:jU X (compareOp .Lt) (Jt fun i j=>.bl (decide (i < j))):=Jv fun _ _ _ _ _ _ _ q=>lt_int q
theorem om:jU X (compareOp .LtE) (Jt fun i j=>.bl (decide (i ≤ j))):=Jv fun _ _ _ _ _ _ _ q=>le_int q
theorem qI:jU X (compareOp .Gt) (Jt fun i j=>.bl (decide (j < i))):=Jv fun _ _ _ _ _ _ _ q=>gt_int q
theorem lC:jU X (compareOp .Is) (fun x y H Q=>y=.non∧Q (.bl (decide (x=.non))) H):=by
 intro pins s σ H x y v u Q I rx ry h
 obtain ⟨rfl,q⟩:=h
 cases ry
 refine is_none_gen (bX I q ?_)
 cases x <;> first
  | (cases rx; rfl)
  | (obtain ⟨t,rfl⟩:=rx; rfl)
theorem ym:jU X (compareOp .IsNot) (fun x y H Q=>y=.non∧Q (.bl (!decide (x=.non))) H):=by
 intro pins s σ H x y v u Q I rx ry h
 obtain ⟨rfl,q⟩:=h
 cases ry
 refine isnot_none_gen (bX I q ?_)
 cases x <;> first
  | (cases rx; rfl)
  | (obtain ⟨t,rfl⟩:=rx; rfl)
theorem aO (b:Expr) {op:CmpOp} (h:op ≠ .In:=by decide) (h2:op ≠ .NotIn:=by decide):behindInMarks op b=false:=by
 have e1:(op == CmpOp.In)=false:=by cases op <;> first | rfl | exact absurd rfl h
 have e2:(op == CmpOp.NotIn)=false:=by cases op <;> first | rfl | exact absurd rfl h2
 cases b <;> simp [behindInMarks,e1,e2]
theorem iJ {op:CmpOp} {r:R2} (ho:jU X (compareOp op) r) (ha:PE X a ta) (hb:PE X b tb) (hm:behindInMarks op b=false):PE X (.Compare a [op] [b] pos) (Js r ta tb):=by
 intro pins s σ H Q I h
 exact wpAny_Compare1 (Ju ha hb I h fun v u s2 x y H2 I2 rx ry q=>ho pins s2 σ H2 x y v u Q I2 rx ry q) hm
def HM (t:TE):TT:=fun σ H Q=>t σ H fun x H'=>∃ k,x=.bl k∧Q k H'
theorem aF {op:CmpOp} {r:R2} (ho:jU X (compareOp op) r) (ha:PE X a ta) (hb:PE X b tb) (hm:behindInMarks op b=false):PT X (.Compare a [op] [b] pos) (HM (Js r ta tb)):=by
 intro pins s σ H Q I h
 refine wpAny_isTrue_Compare1 (cG (ha pins s σ H _ I h) fun v s1 ⟨x,H1,I1,r1,q1⟩=>cG (hb pins s1 σ H1 _ I1 q1) fun u s2 ⟨y,H2,I2,r2,q2⟩ =>
  cG (ho pins s2 σ H2 x y v u _ I2 r1 r2 q2) fun c s3 ⟨z,H3,I3,r3,k,e,q3⟩=>?_) hm
 subst e
 cases r3
 exact wpAny_truthy_bool ⟨H3,I3,q3⟩
def BE (r r':R2) (ta tb tc:TE):TE:=fun σ H Q=>ta σ H fun x H1=>tb σ H1 fun y H2=>r x y H2 fun z H3=>∃ k,z=.bl k ∧
 (if k=true then tc σ H3 fun w' H4=>r' y w' H4 Q else Q (.bl false) H3)
theorem BF {op op':CmpOp} {r r':R2} (ho:jU X (compareOp op) r) (ho':jU X (compareOp op') r') (ha:PE X a ta) (hb:PE X b tb) (hc:PE X c tc)
  (hm:lastMarks [op,op'] [b,c]=false:=by with_unfolding_all rfl):PE X (.Compare a [op,op'] [b,c] pos) (BE r r' ta tb tc):=by
 intro pins s σ H Q I h
 refine Compare_chain (cG (ha pins s σ H _ I h) fun v s1 ⟨x,H1,I1,r1,q1⟩=>chain_link (cG (hb pins s1 σ H1 _ I1 q1) fun u s2 ⟨y,H2,I2,r2,q2⟩ =>
  cG (ho pins s2 σ H2 x y v u _ I2 r1 r2 q2) fun d s3 ⟨z,H3,I3,r3,k,e,q3⟩=>?_)) hm
 subst e
 cases r3
 refine wpAny_truthy_bool ?_
 cases k with
 | false=>exact ite_ff ⟨.bl false,H3,I3,rfl,q3⟩
 | true=>exact ite_tt (chain_last (cG (hc pins s3 σ H3 _ I3 q3) fun w' s4 ⟨z',H4,I4,r4,q4⟩=>ho' pins s4 σ H4 y z' u w' Q I4 r2 r4 q4))
theorem j5 {op op':CmpOp} {r r':R2} (ho:jU X (compareOp op) r) (ho':jU X (compareOp op') r') (ha:PE X a ta) (hb:PE X b tb) (hc:PE X c tc)
  (hm:lastMarks [op,op'] [b,c]=false:=by with_unfolding_all rfl):PT X (.Compare a [op,op'] [b,c] pos) (HM (BE r r' ta tb tc)):=by
 intro pins s σ H Q I h
 refine isTrue_chain (cG (ha pins s σ H _ I h) fun v s1 ⟨x,H1,I1,r1,q1⟩=>test_link (cG (hb pins s1 σ H1 _ I1 q1) fun u s2 ⟨y,H2,I2,r2,q2⟩ =>
  cG (ho pins s2 σ H2 x y v u _ I2 r1 r2 q2) fun d s3 ⟨z,H3,I3,r3,k,e,q3⟩=>?_)) hm
 subst e
 cases r3
 refine wpAny_truthy_bool ?_
 cases k with
 | false =>
  obtain ⟨k',e',q'⟩:=q3
  cases e'
  exact ite_ff ⟨H3,I3,q'⟩
 | true =>
  refine ite_tt (test_last (cG (hc pins s3 σ H3 _ I3 q3) fun w' s4 ⟨z',H4,I4,r4,q4⟩=>cG (ho' pins s4 σ H4 y z' u w' _ I4 r2 r4 q4) fun d' s5 ⟨z2,H5,I5,r5,k2,e2,q5⟩=>?_))
  subst e2
  cases r5
  exact wpAny_truthy_bool ⟨H5,I5,q5⟩
theorem rS:(sizeLine:Nat) < 2 ^ 63:=by rw [sizeLine_eq]; decide
theorem vals1 {x:V} {us:List Value} (r:Vals [x] us):∃ u,us=[u]∧RelV x u:=by
 cases r with
 | cons r1 r2=>cases r2; exact ⟨_,rfl,r1⟩
theorem vals2 {x y:V} {us:List Value} (r:Vals [x,y] us):∃ u w',us=[u,w']∧RelV x u∧RelV y w':=by
 cases r with
 | cons r1 r2 =>
  cases r2 with
  | cons r3 r4=>cases r4; exact ⟨_,_,rfl,r1,r3⟩
theorem zC:iU X (.type "int") (fun xs H Q=>(∃ i,xs=[.int i]∧Q (.int i) H)∨∃ k,xs=[.bl k]∧Q (.int (if k then 1 else 0)) H):=by
 intro pins s σ H xs us Q I r h
 rcases h with ⟨i,rfl,q⟩ | ⟨k,rfl,q⟩
 ·obtain ⟨u,rfl,t,rfl⟩:=vals1 r
  exact call_int_int ⟨.int i,H,I,⟨_,rfl⟩,q⟩
 ·obtain ⟨u,rfl,r1⟩:=vals1 r
  cases r1
  exact call_int_bool ⟨.int (if k then 1 else 0),H,I.tok _,⟨_,rfl⟩,q⟩
end
structure vP (h:Heap) (x dx C:Addr) (mA:Str→Option Value):Prop where
 obj:h.get? x=some (PySem.W.instObj C dx)
 ns:h.Ns1 dx mA
 ne:dx ≠ x
theorem zD {h:Heap} {dx:Addr} {mA:Str→Option Value} (n:h.Ns1 dx mA):∃ od,h.get? dx=some od∧∀ name,PySem.W.lookIn name od=some (mA name):=by
 obtain ⟨o,es,ep,ho,hd,hk,_,hm⟩:=n
 refine ⟨o,ho,fun name=>?_⟩
 have e:=hm name
 unfold nsFind findBy at e
 rw [← Array.find?_toList] at e
 unfold PySem.W.lookIn
 rw [hd]
 dsimp only
 split
 ·rename_i y q
  rw [q] at e
  exact congrArg some e
 ·rename_i q
  rw [q] at e
  have a:es.toList.any (·.refKey)=false:=by
   rw [List.any_eq_false]
   intro y hy
   obtain ⟨z,t,hkey⟩:=hk y (Array.mem_toList_iff.mp hy)
   simp [DictEntry.refKey,hkey]
  have a':¬ es.toList.any (·.refKey)=true:=by rw [a]; exact Bool.false_ne_true
  rw [if_neg a']
  exact congrArg some e
theorem vP.look {h:Heap} {x dx C:Addr} {mA:Str→Option Value} (I:vP h x dx C mA):∃ od,PySem.W.InstAt h x (PySem.W.instObj C dx) C (some od)∧∀ name,PySem.W.lookIn name od=some (mA name) :=
 let ⟨od,ho,hl⟩:=zD I.ns
 ⟨od,⟨I.obj,rfl,rfl,ho⟩,hl⟩
section
variable {prog:Program} {w:World} {A:Around} {E:Value→Shared→Prop} {s:Shared} {K:PySem.W.Frag} {x dx C f:Addr} {mA:Str→Option Value} {name:Str} {v:Value}
theorem get_map {expr:Bool} {Q:Value→Shared→Prop} (X:K.In s.heap) (I:vP s.heap x dx C mA) (hg:PySem.W.plainGet K C name=true) (hh:PySem.W.hasDictIn K C=true)
  (ha:PySem.W.findIn K (.ref C) name=some none) (hv:mA name=some v) (hv':PySem.W.handedIn v=true) (h:Q v { s with toks:=s.toks + 1 }) :
  wpAny (model prog w) A (getAttr (.ref x) name expr) Q E s:=by
 obtain ⟨od,J,hl⟩:=I.look
 exact PySem.W.get_value X J (PySem.W.plainGet_of hg).1 (PySem.W.findObj_own hh ha rfl (by rw [hl,hv])) hv' h
theorem BG {pl:Sem Bool} {Q:Value × List Value→Shared→Prop} (X:K.In s.heap) (I:vP s.heap x dx C mA) (hg:PySem.W.plainGet K C name=true)
  (hf:PySem.W.findIn K (.ref C) name=some (some (.ref f))) (ht:PySem.W.isFn K (.ref f)=true) (hv:mA name=none) (h:Q (.ref f,[.ref x]) s) :
  wpAny (model prog w) A (getMethod (.ref x) name pl) Q E s:=by
 obtain ⟨od,J,hl⟩:=I.look
 exact PySem.W.method_fn X J (PySem.W.plainGet_of hg).1 (PySem.W.plainGet_of hg).2 hf (beq_iff_eq.mp ht) (by show (PySem.W.lookIn name od).map (·.isSome)=some false; rw [hl,hv]; rfl) h
theorem EC {ns:List Str} {Q:Unit→Shared→Prop} (X:K.In s.heap) (I:vP s.heap x dx C mA)
  (hs:PySem.W.findIn K (.ref C) "__setattr__" = some (some (.builtin "object.__setattr__"))) (hp:PySem.W.plainOver K C=true) (ht:PySem.W.takerIn K C name=some none) (hh:PySem.W.hasDictIn K C=true)
  (hw:PySem.Within mA ns) (hsz:ns.length ≤ sizeLine)
  (h:∀ h',vP h' x dx C (fun y=>if y=name then some v else mA y)→Heap.SameBut dx s.heap h'→Q () { s with heap:=h',toks:=s.toks + 2 }) :
  wpAny (model prog w) A (setAttr (.ref x) name v) Q E s:=by
 obtain ⟨od,J,hl⟩:=I.look
 refine PySem.W.set_plain X J hs (PySem.W.osa_open (s:={ s with toks:=s.toks + 1 }) (r:=none) X J hp ht fun b=>?_)
 obtain ⟨cd,hc,hd'⟩:=PySem.W.any_some hh
 have hx:s.heap.get? x=some ⟨.ref C,some dx,.plain,#[]⟩:=I.obj
 refine wpAny_bind (wpAny_pure (wpAny_bind (wpAny_bind (wpAny_loadPart hx (wpAny_bind (PySem.W.Looks.here (s:={ s with toks:=s.toks + 1 }) (PySem.W.looks_clsIn X hc) ?_))))))
 rw [hd']
 refine wpAny_pure (a:=some dx) (wpAny_bind (wpAny_pure (wpAny_bind ?_)))
 refine wpAny_nsSet1 (s:={ s with toks:=s.toks + 1 }) I.ns fun h' hn2 hs2=>?_
 obtain ⟨oD,esD,epD,hoD,hdD,hcD⟩:=hn2.count (PySem.Within.cons name v hw)
 refine wpAny_bind (wpAny_lookBehind hoD (by rw [hdD]; exact pastItsLine_dict (Nat.le_trans hcD (by rw [List.length_cons]; omega))) ?_)
 exact wpAny_pure (h _ ⟨(hs2.2 _ (Ne.symm I.ne)).trans I.obj,hn2,I.ne⟩ hs2)
theorem BH {R:Result→Shared→Prop} {vs:List Value} {kw:List (Str × Value)} (X:K.In s.heap) (hm:PySem.W.makesIn K C=true)
  (hi:PySem.W.findIn K (.ref C) "__init__" = some (some (.ref f))) (hf:PySem.W.typeIn K (.ref f)=some (.type "function"))
  (h:codeAny (model prog w) (A.under (.builtin "type.__call__" ⟨.ref C :: vs,kw⟩)) (.call (.ref f) ⟨.ref (s.heap.objs.size + 1) :: vs,kw⟩) (PySem.W.InitBack (s.heap.objs.size + 1) R)
   { s with heap:=(s.heap.push PySem.W.emptyDict).push (PySem.W.instObj C s.heap.objs.size) }) :
  codeAny (model prog w) A (.call (.ref C) ⟨vs,kw⟩) R s:=by
 obtain ⟨hh,g,d,t,os⟩:=s
 exact PySem.W.make_core (PySem.W.makes_of X hm) (PySem.W.looks_findIn X hi) (fun self=>PySem.W.bind_fn X self hf) (.inl rfl) h
end
def dX (f:Str) (v:V):List (Str × V)→List (Str × V)
 | []=>[(f,v)]
 | (g,x) :: r=>if g=f then (g,v) :: r else (g,x) :: dX f v r
theorem lU (f g:Str) (v:V):∀ fs:List (Str × V),(dX f v fs).lookup g=if g=f then some v else fs.lookup g
 | []=>by
  show List.lookup g [(f,v)]=_
  by_cases h:g=f
  ·have hb:(g == f)=true:=beq_iff_eq.mpr h
   simp only [List.lookup,hb,if_pos h]
  ·have hb:(g == f)=false:=beq_eq_false_iff_ne.mpr h
   simp only [List.lookup,hb,if_neg h]
 | (k,x) :: r=>by
  have ih:=lU f g v r
  rw [show dX f v ((k,x) :: r)=(if k=f then (k,v) :: r else (k,x) :: dX f v r) from rfl]
  by_cases hk:k=f
  ·rw [if_pos hk]
   by_cases h:g=k
   ·have hb:(g == k)=true:=beq_iff_eq.mpr h
    simp only [List.lookup,hb,if_pos (h.trans hk)]
   ·have hb:(g == k)=false:=beq_eq_false_iff_ne.mpr h
    simp only [List.lookup,hb,if_neg (fun e:g=f=>h (e.trans hk.symm))]
  ·rw [if_neg hk]
   by_cases h:g=k
   ·have hb:(g == k)=true:=beq_iff_eq.mpr h
    simp only [List.lookup,hb,if_neg (fun e:g=f=>hk (h.symm.trans e))]
   ·have hb:(g == k)=false:=beq_eq_false_iff_ne.mpr h
    simp only [List.lookup,hb]
    exact ih
theorem lD (f:Str) (v:V):∀ fs:List (Str × V),f ∈ (dX f v fs).map (·.1)∧∀ g,g ∈ fs.map (·.1)→g ∈ (dX f v fs).map (·.1)
 | []=>⟨by simp [dX],fun g h=>by simp at h⟩
 | (k,x) :: r=>by
  obtain ⟨i1,i2⟩:=lD f v r
  rw [show dX f v ((k,x) :: r)=(if k=f then (k,v) :: r else (k,x) :: dX f v r) from rfl]
  by_cases hk:k=f
  ·rw [if_pos hk]
   subst hk
   exact ⟨by simp,fun g h=>by simpa using h⟩
  ·rw [if_neg hk]
   refine ⟨?_,fun g h=>?_⟩
   ·rw [List.map_cons]
    exact List.mem_cons_of_mem _ i1
   ·rw [List.map_cons] at h ⊢
    rcases List.mem_cons.mp h with e | e
    ·exact List.mem_cons.mpr (.inl e)
    ·exact List.mem_cons_of_mem _ (i2 g e)
theorem lV (f:Str) (v:V):∀ fs:List (Str × V),(dX f v fs).length ≤ fs.length + 1
 | []=>by simp [dX]
 | (k,x) :: r=>by
  have ih:=lV f v r
  rw [show dX f v ((k,x) :: r)=(if k=f then (k,v) :: r else (k,x) :: dX f v r) from rfl]
  by_cases hk:k=f
  ·rw [if_pos hk,List.length_cons,List.length_cons]; omega
  ·rw [if_neg hk,List.length_cons,List.length_cons]; omega
theorem iq.some_of {v:V} {o:Option Value} (r:iq (some v) o):∃ u,o=some u∧RelV v u:=by
 cases o with
 | none=>exact (show False from r).elim
 | some u=>exact ⟨u,rfl,r⟩
theorem iq.none_of {o:Option Value} (r:iq none o):o=none:=by
 cases o with
 | none=>rfl
 | some u=>exact (show False from r).elim
theorem zE {v:V} {u:Value} (r:RelV v u):PySem.W.handedIn u=true:=by
 cases v with
 | non=>cases (show u=Value.none from r); rfl
 | bl b=>cases (show u=Value.bool b from r); rfl
 | int i=>obtain ⟨t,e⟩:=(show ∃ t,u=Value.int i t from r); cases e; rfl
 | str x=>obtain ⟨t,e⟩:=(show ∃ t,u=Value.str x t from r); cases e; rfl
 | Bg b=>obtain ⟨t,e⟩:=(show ∃ t,u=Value.bytes b t from r); cases e; rfl
 | flt b=>obtain ⟨t,e⟩:=(show ∃ t,u=Value.float b t from r); cases e; rfl
 | ref a=>cases (show u=Value.ref a from r); rfl
 | ty n=>cases (show u=Value.type n from r); rfl
section
variable {P:Program} {w:World} {H H':Hp} {h h':Heap} {a C dx:Addr} {fs fs':List (Str × V)}
theorem nF (hok:jR P w H h) (e:H a=some (.ins C dx fs)):∃ mA,vP h a dx C mA∧(∀ f,iq (fs.lookup f) (mA f))∧PySem.Within mA (fs.map (·.1))∧fs.length ≤ 1000∧H dx=some (.own a):=by
 obtain ⟨d,z,ne,ob,mA,n,r,q⟩:=(show cH P w H h a (.ins C dx fs) from hok a _ e)
 exact ⟨mA,⟨ob,n,ne⟩,r,q,z,d⟩
end
structure Cls (K:PySem.W.Frag) (C:Addr):Prop where
 pg:PySem.W.plainGet K C Str.empty=true
 hd:PySem.W.hasDictIn K C=true
 po:PySem.W.plainOver K C=true
 sa:PySem.W.findIn K (.ref C) "__setattr__" = some (some (.builtin "object.__setattr__"))
theorem Cls.get {K:PySem.W.Frag} {C:Addr} (c:Cls K C) (f:Str):PySem.W.plainGet K C f=true:=c.pg
def dP (K:PySem.W.Frag) (C:Addr) (f:Str):Prop:=PySem.W.findIn K (.ref C) f=some none
theorem dP.taker {K:PySem.W.Frag} {C:Addr} {f:Str} (n:dP K C f):PySem.W.takerIn K C f=some none:=by
 unfold PySem.W.takerIn
 rw [show PySem.W.findIn K (.ref C) f=some none from n]
 rfl
structure Meth (K:PySem.W.Frag) (C:Addr) (m:Str) (f:Addr):Prop where
 at_:PySem.W.findIn K (.ref C) m=some (some (.ref f))
 fn:PySem.W.isFn K (.ref f)=true
 kp:PySem.W.keepIn K (.ref f)=true
section
variable {X:Cx} {pins:List (Addr × Obj)} {σ:St} {H:Hp} {s:Shared} {a C dx:Addr} {fs:List (Str × V)} {f:Str} {v:V} {A:Around} {E:Value→Shared→Prop}
theorem vQ {b:Bool} {Q:Value→Shared→Prop} (I:Inv X pins σ H s) (e:H a=some (.ins C dx fs)) (c:Cls X.K C) (n:dP X.K C f) (l:fs.lookup f=some v)
  (h:∀ u s',Inv X pins σ H s'→RelV v u→Q u s'):wpAny (model X.prog X.w) A (getAttr (.ref a) f b) Q E s:=by
 obtain ⟨mA,O,r,_,_,_⟩:=nF I.hok e
 obtain ⟨u,hu,ru⟩:=iq.some_of (v:=v) (o:=mA f) (by rw [← l]; exact r f)
 exact get_map I.lz O (c.get f) c.hd n hu (zE ru) (h u _ (I.tok _) ru)
theorem vR {m:Str} {g:Addr} {pl:Sem Bool} {Q:Value × List Value→Shared→Prop} (I:Inv X pins σ H s) (e:H a=some (.ins C dx fs)) (c:Cls X.K C) (k:Meth X.K C m g) (l:fs.lookup m=none)
  (h:Q (.ref g,[.ref a]) s):wpAny (model X.prog X.w) A (getMethod (.ref a) m pl) Q E s:=by
 obtain ⟨mA,O,r,_,_,_⟩:=nF I.hok e
 have hn:mA m=none:=iq.none_of (by rw [← l]; exact r m)
 exact BG I.lz O (c.get m) k.at_ k.fn hn h
theorem vS {y:V} {u:Value} {Q:Unit→Shared→Prop} (I:Inv X pins σ H s) (e:H a=some (.ins C dx fs)) (c:Cls X.K C) (n:dP X.K C f) (hl:fs.length < 1000) (ry:RelV y u)
  (h:∀ s',Inv X pins σ (upd H a (.ins C dx (dX f y fs))) s'→Q () s'):wpAny (model X.prog X.w) A (setAttr (.ref a) f u) Q E s:=by
 obtain ⟨mA,O,r,wi,_,ho⟩:=nF I.hok e
 have hz:(fs.map (·.1)).length ≤ sizeLine:=by rw [List.length_map,sizeLine_eq]; omega
 refine EC I.lz O c.sa c.po n.taker c.hd wi hz fun h' O' sb=>h _ ?_
 have hd:∃ o,h'.get? dx=some o:=let ⟨o,_,_,e',_⟩:=O'.ns; ⟨o,e'⟩
 refine I.write (x:=a) (e:=dx) (by rw [e]; exact True.intro) (.inr ho) (fun b q hb z=>(sb.2 b hb).trans z) hd ?_
 refine ⟨by rw [aL O.ne]; exact ho,?_,O.ne,O'.obj,_,O'.ns,fun g=>?_,fun g hg=>?_⟩
 ·have:=lV f y fs; omega
 ·show iq ((dX f y fs).lookup g) (if g=f then some u else mA g)
  rw [lU]
  by_cases q:g=f
  ·rw [if_pos q,if_pos q]; exact ry
  ·rw [if_neg q,if_neg q]; exact r g
 ·by_cases q:g=f
  ·rw [q]; exact (lD f y fs).1
  ·refine (lD f y fs).2 g (wi g fun z=>hg ?_)
   show (if g=f then some u else mA g)=none
   rw [if_neg q]; exact z
theorem Inv.made (I:Inv X pins σ H s):Inv X pins σ (upd (upd H s.heap.objs.size (.own (s.heap.objs.size + 1))) (s.heap.objs.size + 1) (.ins C s.heap.objs.size []))
  { s with heap:=(s.heap.push PySem.W.emptyDict).push (PySem.W.instObj C s.heap.objs.size) }:=by
 have e1:(s.heap.push PySem.W.emptyDict).get? s.heap.objs.size=some PySem.W.emptyDict:=Heap.get?_push_size s.heap rfl
 have e2:((s.heap.push PySem.W.emptyDict).push (PySem.W.instObj C s.heap.objs.size)).get? (s.heap.objs.size + 1)=some (PySem.W.instObj C s.heap.objs.size):=by
  have:=Heap.get?_push_size (s.heap.push PySem.W.emptyDict) (o:=PySem.W.instObj C s.heap.objs.size) rfl
  rwa [Heap.size_push] at this
 have e3:(s.heap.push PySem.W.emptyDict).Ns s.heap.objs.size (fun _=>none):=⟨PySem.W.emptyDict,#[],_,e1,rfl,(fun e he=>absurd he (by simp)),fun _=>rfl⟩
 have I1:=I.laid (a:=s.heap.objs.size) (o:=.own (s.heap.objs.size + 1)) (h':=s.heap.push PySem.W.emptyDict) (t':=s.toks) (fun b u q=>Heap.get?_push_of_some _ q) (Nat.le_refl _) ⟨_,e1⟩
 refine I1.laid (a:=s.heap.objs.size + 1) (o:=.ins C s.heap.objs.size []) (t':=s.toks) (fun b u q=>Heap.get?_push_of_some _ q) (Nat.le_of_eq (Heap.size_push _ _)) ?_
 have ne:s.heap.objs.size ≠ s.heap.objs.size + 1:=Nat.ne_of_lt (Nat.lt_succ_self _)
 refine ⟨by rw [aL ne,ah],Nat.zero_le _,ne,e2,fun _=>none,(Heap.Ns1.of_empty e3).at fun o q=>Heap.get?_push_of_some _ q,fun _=>True.intro,fun y hy=>absurd rfl hy⟩
theorem ED {prog:Program} {w:World} {env:Env} {e:Expr} {f:Str} {pos:Pos} {s:Shared} {Q:Value→Shared→Prop} (hb:attributeBase e f env (eval e env)=eval e env)
  (h:wpAny (model prog w) A (eval e env) (fun o s₁=>wpAny (model prog w) A (getAttr o f true) Q E s₁) E s):wpAny (model prog w) A (eval (.Attribute e f pos) env) Q E s :=
 Attribute_any_ h (by rw [arm_eval_Attribute,hb])
end
def Q6 (K:PySem.W.Frag) (ta:TE) (f:Str):TE:=fun σ H Q=>ta σ H fun x H1=>∃ a C dx fs v,x=.ref a∧H1 a=some (.ins C dx fs)∧Cls K C∧dP K C f∧fs.lookup f=some v∧Q v H1
def Q7 (K:PySem.W.Frag) (ta tv:TE) (f:Str):TS:=fun D σ H=>tv σ H fun y H1=>ta σ H1 fun x H2=>∃ a C dx fs,x=.ref a∧H2 a=some (.ins C dx fs)∧Cls K C∧dP K C f∧fs.length < 1000 ∧
 D.nx σ (upd H2 a (.ins C dx (dX f y fs)))
section
variable {X:Cx} {o e value:Expr} {f:Str} {pos pos' tpos:Pos} {ta tv:TE}
theorem bu (he:PE X e ta) (hb:attributeBase e f X.env (eval e X.env)=eval e X.env):PE X (.Attribute e f pos) (Q6 X.K ta f):=by
 intro pins s σ H Q I h
 refine ED hb (cG (he pins s σ H _ I h) fun u s1 ⟨x,H1,I1,rx,a,C,dx,fs,v,ex,ea,c,n,l,q⟩=>?_)
 subst ex
 obtain rfl:u=Value.ref a:=rx
 exact vQ I1 ea c n l fun u' s2 I2 ru=>⟨v,H1,I2,ru,q⟩
theorem dq (ha:PE X o ta) (hv:PE X value tv) (hs:swapsWith value (some (.Attribute o f pos')) pos.line X.env=pure false):PS X (.Assign [.Attribute o f pos'] value pos) (Q7 X.K ta tv f):=by
 intro pins s σ H D I h
 refine plainObj_wpAny_Assign_Attribute (cG (hv pins s σ H _ I h) fun u s1 ⟨y,H1,I1,ry,q⟩=>cG (ha pins s1 σ H1 _ I1 q) fun ov s2 ⟨x,H2,I2,rx,a,C,dx,fs,ex,ea,c,n,l,q2⟩=>?_) hs
 subst ex
 obtain rfl:ov=Value.ref a:=rx
 exact vS I2 ea c n l ry fun s3 I3=>⟨σ,_,I3,q2⟩
end
section
variable {X:Cx} {pins:List (Addr × Obj)} {σ:St} {H:Hp} {s:Shared} {A:Around} {E:Value→Shared→Prop} {Q:Value→Shared→Prop} {c:Value} {b:Bool}
inductive lF (K:PySem.W.Frag) (H:Hp):V→Value→Prop where
 | non:lF K H .non (.type "NoneType")
 | bl (x:Bool):lF K H (.bl x) (.type "bool")
 | int (i:Int):lF K H (.int i) (.type "int")
 | str (x:Str):lF K H (.str x) (.type "str")
 | flt (x:UInt64):lF K H (.flt x) (.type "float")
 | lst {a:Addr} {xs:List V} (e:H a=some (.lst xs)):lF K H (.ref a) (.type "list")
 | yh {a:Addr} {o:Obj} {xs:List V} (e:H a=some (.yh o (.lst xs))):lF K H (.ref a) (.type "list")
 | tup {a:Addr} {xs:List V} (e:H a=some (.tup xs)):lF K H (.ref a) (.type "tuple")
 | dK {a:Addr} {kvs:List (Key × V)} (e:H a=some (.dK kvs)):lF K H (.ref a) (.type "dict")
 | dT {a:Addr} {kvs:List (List Key × V)} (e:H a=some (.dT kvs)):lF K H (.ref a) (.type "dict")
 | ins {a C dx:Addr} {fs:List (Str × V)} (e:H a=some (.ins C dx fs)) (cl:Cls K C) (ha:PySem.W.findIn K (.ref C) "__class__" = some (some (.builtin "object.__class__")))
   (hn:PySem.W.specialIn K (.builtin "object.__class__") "__get__" = some (some (.builtin "getset_descriptor.__get__"))) (htk:PySem.W.takesIn K (.builtin "object.__class__")=some true)
   (hm:PySem.W.mroIn K C (.type "object")=some true):lF K H (.ref a) (.ref C)
theorem zF {x:V} {u t:Value} (I:Inv X pins σ H s) (rx:RelV x u) (ty:lF X.K H x t) (e:PySem.W.kitOne X.K t c=some b) (h:∀ tk,Q (.bool b) { s with toks:=tk }) :
  wpAny (model X.prog X.w) A (call (.builtin "isinstance") [u,c]) Q E s:=by
 cases ty with
 | non=>cases (show u=Value.none from rx); exact PySem.W.kia_one PySem.W.kitx_none I.lz True.intro e (fun z=>nomatch z) h
 | bl y=>cases (show u=Value.bool y from rx); exact PySem.W.kia_one PySem.W.kitx_bool I.lz True.intro e (fun z=>nomatch z) h
 | int i=>obtain ⟨t,q⟩:=(show ∃ t,u=Value.int i t from rx); cases q; exact PySem.W.kia_one PySem.W.kitx_int I.lz True.intro e (fun z=>nomatch z) h
 | str y=>obtain ⟨t,q⟩:=(show ∃ t,u=Value.str y t from rx); cases q; exact PySem.W.kia_one PySem.W.kitx_str I.lz True.intro e (fun z=>nomatch z) h
 | flt y=>obtain ⟨t,q⟩:=(show ∃ t,u=Value.float y t from rx); cases q; exact PySem.W.kia_one PySem.W.kitx_float I.lz True.intro e (fun z=>nomatch z) h
 | @lst a xs ea =>
  cases (show u=Value.ref a from rx)
  obtain ⟨_,_,n,_,h1⟩:=(show cH X.prog X.w H s.heap a (.lst xs) from I.hok a _ ea)
  exact PySem.W.kia_one PySem.W.kitx_list I.lz ⟨_,h1,rfl⟩ e (fun z=>nomatch z) h
 | @yh a ob xs ea =>
  cases (show u=Value.ref a from rx)
  obtain ⟨_,_,_,n,_,h1⟩:=(show cH X.prog X.w H s.heap a (.yh ob (.lst xs)) from I.hok a _ ea)
  exact PySem.W.kia_one PySem.W.kitx_list I.lz ⟨_,h1,rfl⟩ e (fun z=>nomatch z) h
 | @tup a xs ea =>
  cases (show u=Value.ref a from rx)
  obtain ⟨_,_,_,p⟩:=(show cH X.prog X.w H s.heap a (.tup xs) from I.hok a _ ea)
  obtain ⟨o,h1,h2,_⟩:=p
  exact PySem.W.kia_one PySem.W.kitx_tuple I.lz ⟨o,h1,h2⟩ e (fun z=>nomatch z) h
 | @dK a kvs ea =>
  cases (show u=Value.ref a from rx)
  obtain ⟨_,_,vs,_,p⟩:=(show cH X.prog X.w H s.heap a (.dK kvs) from I.hok a _ ea)
  obtain ⟨o,es,ep,h1,h2,_⟩:=p
  exact PySem.W.kia_one PySem.W.kitx_dict I.lz ⟨o,h1,h2.1⟩ e (fun z=>nomatch z) h
 | @dT a kvs ea =>
  cases (show u=Value.ref a from rx)
  obtain ⟨_,_,xs,_,o,es,ep,h1,h2,_⟩:=(show cH X.prog X.w H s.heap a (.dT kvs) from I.hok a _ ea)
  exact PySem.W.kia_one PySem.W.kitx_dict I.lz ⟨o,h1,h2.1⟩ e (fun z=>nomatch z) h
 | @ins a C dx fs ea cl ha hn htk hm =>
  cases (show u=Value.ref a from rx)
  obtain ⟨mA,O,_⟩:=nF I.hok ea
  obtain ⟨od,J,_⟩:=O.look
  exact PySem.W.kia_one (PySem.W.kitx_own (cl.get _) cl.hd ha hn htk hm) I.lz J e (fun z=>nomatch z) h
end
structure eU (k:Nat) (A:Around):Prop where
 hd:A.handled=none
 dp:A.depth + 3 * k + 5 < recursionLimit
 un:A.units + 16 * k + 200 < cLine
theorem eU.mono {j k:Nat} {A:Around} (r:eU k A) (h:j ≤ k):eU j A:=⟨r.hd,by have:=r.dp; omega,by have:=r.un; omega⟩
theorem eU.deeper {k:Nat} {A:Around} (r:eU (k + 1) A) (env:Env):eU k (A.deeper env) :=
 ⟨r.hd,by have:=r.dp; show A.depth + 1 + 3 * k + 5 < _; omega,by have:=r.un; show A.units + 3 + 16 * k + 200 < _; omega⟩
theorem vT {A:Around} {C:Addr} {us:List Value} {kw:List (Str × Value)}:(A.under (.builtin "type.__call__" ⟨.ref C :: us,kw⟩)).depth=A.depth + 1:=by
 first | rfl | simp [Around.under,Code.weight,Code.isCreation,Code.isGuard,Code.isCaller,Code.frames,Code.isFrame,guardIds]
theorem vU {A:Around} {C:Addr} {us:List Value} {kw:List (Str × Value)}:(A.under (.builtin "type.__call__" ⟨.ref C :: us,kw⟩)).units=A.units + 1:=by
 first | rfl | simp [Around.under,Code.cUnits,Code.frames,Code.isFrame]
theorem eU.make {k:Nat} {A:Around} (r:eU (k + 1) A) (C:Addr) (us:List Value) (kw:List (Str × Value)):eU k (A.under (.builtin "type.__call__" ⟨.ref C :: us,kw⟩)) :=
 ⟨r.hd,by have:=r.dp; rw [vT]; omega,by have:=r.un; rw [vU]; omega⟩
theorem eU.depth {k:Nat} {A:Around} (r:eU k A):A.depth < recursionLimit:=by have:=r.dp; omega
theorem eU.units {k:Nat} {A:Around} (r:eU k A):A.units + 64 < cLine:=by have:=r.un; omega
theorem eU.Jy {k:Nat} {A:Around} (r:eU k A):A.units < cLine:=by have:=r.un; omega
def qc:TA:=fun _ H Q=>Q [] H
def qJ (ta:TE) (tr:TA):TA:=fun σ H Q=>ta σ H fun x H1=>tr σ H1 fun xs H2=>Q (x :: xs) H2
section
variable {X:Cx} {e:Expr} {es:List Expr} {te:TE} {t:TA} {pos:Pos}
theorem ao:PA X [] qc:=fun _ _ _ _ H Q I h=>Calls.spliced_nil ⟨[],H,I,.nil,h⟩
theorem ae (ha:PE X e te) (hr:PA X es t) (hs:starEach (e :: es) X.env=(false,eval e X.env) :: starEach es X.env:=by rfl):PA X (e :: es) (qJ te t):=by
 intro pos pins s σ H Q I h
 rw [hs]
 show wpAny _ _ (spliced ((false,eval e X.env) :: backTo pos (starEach es X.env))) _ _ s
 refine Calls.spliced_cons (cG (ha pins s σ H _ I h) fun u s1 ⟨x,H1,I1,r1,q1⟩=>?_)
 exact cG (hr pos pins s1 σ H1 _ I1 q1) fun us s2 ⟨xs,H2,I2,r2,q2⟩=>⟨x :: xs,H2,I2,.cons r1 r2,q2⟩
def L7 (t:TA):TE:=fun σ H Q=>t σ H fun xs H1=>xs.length ≤ sizeLine∧∀ p,H1 p=none→Q (.ref p) (upd H1 p (.tup xs))
def uN (t:TA):TE:=fun σ H Q=>t σ H fun xs H1=>xs.length ≤ sizeLine∧∀ p,H1 p=none→Q (.ref p) (upd H1 p (.lst xs))
theorem aX {x1} (h:PA X es t):PE X (.Tuple es x1 pos) (L7 t):=by
 intro pins s σ H Q I hq
 refine wpAny_Tuple_spliced (cG (h pos pins s σ H _ I hq) fun us s1 ⟨xs,H1,I1,r,z,q⟩=>⟨by rw [← r.length]; exact z,?_⟩)
 have hf:H1 s1.heap.objs.size=none:=I1.hok.fresh (Nat.le_refl _)
 refine ⟨.ref s1.heap.objs.size,upd H1 s1.heap.objs.size (.tup xs),I1.laid (t':=s1.toks) (fun b u e=>Heap.get?_push_of_some _ e) (Nat.le_refl _) ?_,rfl,q _ hf⟩
 exact ⟨z,us,r,⟨_,Heap.get?_push_size _ rfl,rfl,_,rfl⟩⟩
theorem cu (h:PA X es t):PE X (.List es pos) (uN t):=by
 intro pins s σ H Q I hq
 refine wpAny_List_spliced (cG (h pos pins s σ H _ I hq) fun us s1 ⟨xs,H1,I1,r,z,q⟩=>⟨by rw [← r.length]; exact z,?_⟩)
 have hf:H1 s1.heap.objs.size=none:=I1.hok.fresh (Nat.le_refl _)
 refine ⟨.ref s1.heap.objs.size,upd H1 s1.heap.objs.size (.lst xs),I1.laid (t':=s1.toks) (fun b u e=>Heap.get?_push_of_some _ e) (Nat.le_refl _) ?_,rfl,q _ hf⟩
 exact ⟨z,us,0,r,Heap.get?_push_size _ rfl⟩
end
abbrev Sp:=List V→Hp→VK→XK→Prop
abbrev Bi:=List Env→Hp→Shared→XK→Value→Shared→Prop
structure vV (P:Program) (w:World) (K:PySem.W.Frag) (mg:Str→Option Value) (base:Heap) (A:Around) (outer:List Env) (s:Shared) (H:Hp):Prop where
 frames:A.frames=some outer
 mod:Mod K mg base
 bs:∀ b o,base.get? b=some o→s.heap.get? b=some o∧H b=none
 Ey:base.objs.size ≤ s.heap.objs.size
 mF:s.heap.FunFrames base outer
 Jh:∀ b ∈ frs outer,H b=none
 hok:jR P w H s.heap
 bare:AllBare s.gens
def CE (outer:List Env) (P:Program) (w:World) (H:Hp) (s:Shared) (Q:VK) (u:Value) (s':Shared):Prop :=
 ∃ v H',s'.os=s.os∧AllBare s'.gens∧Un (frs outer) [] H H' s.heap s'.heap∧jR P w H' s'.heap∧RelV v u∧Q v H'
def CR (CX:Bi) (outer:List Env) (P:Program) (w:World) (H:Hp) (s:Shared) (Q:VK) (E:XK) (r:Result) (s':Shared):Prop :=
 match r with
 | .ok (.ret u)=>CE outer P w H s Q u s'
 | .ok _=>False
 | .error e=>CX outer H s E e s'
structure aR (P:Program) (w:World) (K:PySem.W.Frag) (mg:Str→Option Value) (base:Heap) (CX:Bi) (k:Nat) (f:Addr) (fd:FuncData) (ps:List Str) (sp:Sp):Prop where
 len:∀ vs H Q E,sp vs H Q E→vs.length=ps.length
 run:∀ (A:Around) (outer:List Env) (s:Shared) (H:Hp) (args:Args) (us:List Value) (vs:List V) (Q:VK) (E:XK),eU k A→vV P w K mg base A outer s H→BindsTo s fd args (ps.zip us)→Vals vs us→sp vs H Q E →
  codeAny (model P w) A (.call (.ref f) args) (CR CX outer P w H s Q E) s
theorem aR.mono {P:Program} {w:World} {K:PySem.W.Frag} {mg:Str→Option Value} {base:Heap} {CX:Bi} {j k:Nat} {f:Addr} {fd:FuncData} {ps:List Str} {sp:Sp} (F:aR P w K mg base CX j f fd ps sp) (h:j ≤ k) :
  aR P w K mg base CX k f fd ps sp:=⟨F.len,fun A outer s H args us vs Q E hr=>F.run A outer s H args us vs Q E (hr.mono h)⟩
theorem vV.make {P:Program} {w:World} {K:PySem.W.Frag} {mg:Str→Option Value} {base:Heap} {A:Around} {outer:List Env} {s:Shared} {H:Hp} (e:vV P w K mg base A outer s H) (C:Addr) (us:List Value) (kw:List (Str × Value)) :
  vV P w K mg base (A.under (.builtin "type.__call__" ⟨.ref C :: us,kw⟩)) outer s H:=⟨by first | exact e.frames | (simpa [Around.under,Code.envs,Code.isFrame,pushEnvs] using e.frames),e.mod,e.bs,e.Ey,e.mF,e.Jh,e.hok,e.bare⟩
section
variable {X:Cx} {pins:List (Addr × Obj)} {σ:St} {H:Hp} {s s':Shared}
theorem Inv.env0 (I:Inv X pins σ H s):vV X.prog X.w X.K X.mg X.base X.A X.stack s H :=
 ⟨I.ok.frames,I.ok.mod,I.bs,Nat.le_trans I.ok.Ey I.sz,I.stack,I.yi,I.hok,I.bare⟩
theorem Inv.after {Q:VK} {u:Value} (I:Inv X pins σ H s) (h:CE X.stack X.prog X.w H s Q u s'):EP X pins σ Q u s':=by
 obtain ⟨v,H',os,bare,un,hok,r,q⟩:=h
 obtain ⟨hh,g,d,t,os'⟩:=s'
 obtain rfl:os'=s.os:=os
 exact ⟨v,H',I.call (h':=hh) (g':=g) (d':=d) (t':=t) (ch:=[]) un hok bare (fun b z=>absurd z (by simp)),r,q⟩
end
def L8 (sp:Sp) (qd:List V) (E:XK) (t:TA):TE:=fun σ H Q=>t σ H fun vs H1=>sp (vs ++ qd) H1 Q E
def Ma (C:Addr) (m:Str) (sp:Sp) (qd:List V) (E:XK) (ta:TE) (t:TA):TE:=fun σ H Q=>ta σ H fun x H1=>∃ a dx fs,x=.ref a∧H1 a=some (.ins C dx fs)∧fs.lookup m=none ∧
 t σ H1 fun vs H2=>sp (x :: (vs ++ qd)) H2 Q E
def Mb (C:Addr) (sp:Sp) (qd:List V) (E:XK) (t:TA):TE:=fun σ H Q=>t σ H fun vs H1=>∀ x dx,H1 x=none→H1 dx=none→dx ≠ x →
 sp (.ref x :: (vs ++ qd)) (upd (upd H1 dx (.own x)) x (.ins C dx [])) (fun v H2=>v=.non∧Q (.ref x) H2) E
def Binds (K:PySem.W.Frag) (fd:FuncData) (ps:List Str) (ds:List Value):Prop :=
 ∀ (s:Shared) (us:List Value),K.In s.heap→(us ++ ds).length=ps.length→BindsTo s fd ⟨us,[]⟩ (ps.zip (us ++ ds))
theorem Binds.all {K:PySem.W.Frag} {fd:FuncData} {ps:List Str} (h:∀ us:List Value,us.length=ps.length→bindArgs fd ⟨us,[]⟩=pure (ps.zip us)):Binds K fd ps []:=fun s us _ hl=>by
 rw [List.append_nil] at hl ⊢
 exact .of_eq (h us hl)
def Passes (CX:Bi) (X:Cx) (E:XK):Prop:=∀ (pins:List (Addr × Obj)) (σ:St) (H:Hp) (s:Shared) (e:Value) (s':Shared),Inv X pins σ H s→CX X.stack H s E e s'→X.xe e s'
section
variable {X:Cx} {CX:Bi} {k:Nat} {f C:Addr} {fd:FuncData} {ps:List Str} {sp:Sp} {qd:List V} {ds:List Value} {E:XK} {x m:Str} {p pos apos:Pos} {e o:Expr} {es:List Expr} {ta:TE} {t:TA}
theorem vW {pins:List (Addr × Obj)} {σ:St} {H:Hp} {s:Shared} {Q:VK} {us:List Value} {vs:List V} (F:aR X.prog X.w X.K X.mg X.base CX k f fd ps sp) (hr:eU k X.A) (hb:Binds X.K fd ps ds) (hd:Vals qd ds) (hx:Passes CX X E)
  (I:Inv X pins σ H s) (r:Vals vs us) (h:sp (vs ++ qd) H Q E):wpAny (model X.prog X.w) X.A (call (.ref f) us) (EP X pins σ Q) X.xe s:=by
 have r2:Vals (vs ++ qd) (us ++ ds):=r.append hd
 have hl:(us ++ ds).length=ps.length:=by rw [← r2.length]; exact F.len _ _ _ _ h
 refine wpAny_call (codeAny_mono (F.run X.A X.stack s H ⟨us,[]⟩ (us ++ ds) (vs ++ qd) Q E hr I.env0 (hb s us I.lz hl) r2 h) fun r s' hq=>?_)
 cases r with
 | error e=>exact hx pins σ H s e s' I hq
 | ok fl =>
  cases fl with
  | ret u=>exact I.after hq
  | next=>exact False.elim hq
  | brk=>exact False.elim hq
  | cont=>exact False.elim hq
theorem aQ (F:aR X.prog X.w X.K X.mg X.base CX k f fd ps sp) (hr:eU k X.A) (hg:Gl X x) (hm:X.mg x=some (.ref f)) (hk:PySem.W.keepIn X.K (.ref f)=true) (hb:Binds X.K fd ps ds) (hd:Vals qd ds) (hx:Passes CX X E)
  (ha:PA X (e :: es) t) (hdb:(x == ("__debug__" : Str))=false:=by decide) (he:starEach (e :: es) X.env=(false,eval e X.env) :: starEach es X.env:=by rfl) (hpl:(backTo pos (starEach es X.env)).any (·.1)=false:=by rfl) :
  PE X (.Call (.Name x p) (e :: es) [] pos) (L8 sp qd E t):=by
 intro pins s σ H Q I h
 refine wpAny_Call_Name_kw (rN I hg hm ?_ hdb)
 refine PySem.W.callWith_K (h₀:=X.base) I.ok.mod.LO hk (cG (ha pos pins s σ H _ I h) fun us s1 ⟨vs,H1,I1,r,q⟩=>⟨I1.lz,?_⟩) he hpl
 exact vW F hr hb hd hx I1 r q
theorem gP {pl:Sem Bool} (he:PE X o ta) (c:Cls X.K C) (hm:Meth X.K C m f) (F:aR X.prog X.w X.K X.mg X.base CX k f fd ps sp) (hr:eU k X.A) (hb:Binds X.K fd ps ds) (hd:Vals qd ds) (hx:Passes CX X E)
  (ht:eval (.Call (.Attribute o m apos) [] [] pos) X.env=(do
   let ov ← eval o X.env
   standAt apos.atName
   let (f,first) ← holding [ov] (getMethod ov m pl)
   callWith pos f first (backTo pos (starEach [] X.env)) (backToKw pos (keywordEach [] X.env))):=by rfl) :
  PE X (.Call (.Attribute o m apos) [] [] pos) (Ma C m sp qd E ta qc):=by
 intro pins s σ H Q I h
 refine PySem.W.methodCall_KW (pl:=pl) (cG (he pins s σ H _ I h) fun u s1 ⟨x,H1,I1,rx,a,dx,fs,ex,ea,l,q⟩=>?_) ht
 subst ex
 obtain rfl:u=Value.ref a:=rx
 refine vR I1 ea c hm l ?_
 exact PySem.W.callWith_K0 (first:=[.ref a]) I1.lz hm.kp (vW (us:=[.ref a]) (vs:=[.ref a]) F hr hb hd hx I1 (.cons rfl .nil) q)
structure Mk (K:PySem.W.Frag) (C f:Addr):Prop where
 makes:PySem.W.makesIn K C=true
 init:PySem.W.findIn K (.ref C) "__init__" = some (some (.ref f))
 fn:PySem.W.isFn K (.ref f)=true
 kp:PySem.W.keepIn K (.ref C)=true
theorem BI {pins:List (Addr × Obj)} {σ:St} {H:Hp} {s:Shared} {Q:VK} {us:List Value} {vs:List V} (M:Mk X.K C f) (F:aR X.prog X.w X.K X.mg X.base CX k f fd ps sp) (hr:eU (k + 1) X.A) (hb:Binds X.K fd ps ds) (hd:Vals qd ds)
  (hx:Passes CX X E) (I:Inv X pins σ H s) (r:Vals vs us)
  (h:∀ x dx,H x=none→H dx=none→dx ≠ x→sp (.ref x :: (vs ++ qd)) (upd (upd H dx (.own x)) x (.ins C dx [])) (fun v H2=>v=.non∧Q (.ref x) H2) E) :
  wpAny (model X.prog X.w) X.A (call (.ref C) us) (EP X pins σ Q) X.xe s:=by
 have hq:=h (s.heap.objs.size + 1) s.heap.objs.size (I.hok.fresh (Nat.le_succ _)) (I.hok.fresh (Nat.le_refl _)) (Nat.ne_of_lt (Nat.lt_succ_self _))
 have I2:=Inv.made (C:=C) I
 have r2:Vals (V.ref (s.heap.objs.size + 1) :: (vs ++ qd)) (Value.ref (s.heap.objs.size + 1) :: (us ++ ds)):=.cons rfl (r.append hd)
 have hl:(Value.ref (s.heap.objs.size + 1) :: us ++ ds).length=ps.length:=by
  have e:=r2.length
  rw [F.len _ _ _ _ hq] at e
  exact e.symm
 refine wpAny_call (BH (f:=f) I.lz M.makes M.init (beq_iff_eq.mp M.fn) (codeAny_mono (F.run _ X.stack _ _ ⟨Value.ref (s.heap.objs.size + 1) :: us,[]⟩ (Value.ref (s.heap.objs.size + 1) :: (us ++ ds)) _ _ E (hr.make C us [])
  (I2.env0.make C us []) (hb _ (Value.ref (s.heap.objs.size + 1) :: us) I2.lz hl) r2 hq) fun r s' hq'=>?_))
 cases r with
 | error e=>exact hx pins σ _ _ e s' I2 hq'
 | ok fl =>
  cases fl with
  | ret u =>
   obtain ⟨v,H',I3,rv,ev,q3⟩:=I2.after hq'
   subst ev
   exact ⟨rv,⟨V.ref (s.heap.objs.size + 1),H',I3,rfl,q3⟩⟩
  | next=>exact False.elim hq'
  | brk=>exact False.elim hq'
  | cont=>exact False.elim hq'
theorem EF (M:Mk X.K C f) (F:aR X.prog X.w X.K X.mg X.base CX k f fd ps sp) (hr:eU (k + 1) X.A) (hg:Gl X x) (hm:X.mg x=some (.ref C)) (hb:Binds X.K fd ps ds) (hd:Vals qd ds) (hx:Passes CX X E)
  (ha:PA X (e :: es) t) (hdb:(x == ("__debug__" : Str))=false:=by decide) (he:starEach (e :: es) X.env=(false,eval e X.env) :: starEach es X.env:=by rfl) (hpl:(backTo pos (starEach es X.env)).any (·.1)=false:=by rfl) :
  PE X (.Call (.Name x p) (e :: es) [] pos) (Mb C sp qd E t):=by
 intro pins s σ H Q I h
 refine wpAny_Call_Name_kw (rN I hg hm ?_ hdb)
 refine PySem.W.callWith_K (h₀:=X.base) I.ok.mod.LO M.kp (cG (ha pos pins s σ H _ I h) fun us s1 ⟨vs,H1,I1,r,q⟩=>⟨I1.lz,?_⟩) he hpl
 exact BI M F hr hb hd hx I1 r q
end
section
variable {X:Cx} {CX:Bi} {k:Nat} {f C:Addr} {fd:FuncData} {ps ks:List Str} {sp:Sp} {E:XK} {x m:Str} {p pos apos kpos:Pos} {e o:Expr} {es:List Expr} {kws:List Keyword} {te ta:TE} {t tk:TA} {nm:Option Str}
variable {g:List Value→List Value→List Value} {gV:List V→List V→List V}
end
structure aJ (N P:List Str) (sc:Scope):Prop where
 kind:sc.kind=.function
 co:sc.isCoroutine=false
 gen:sc.isGenerator=false
 nd:N.Nodup
 pre:N.take P.length=P
 par:∀ x ∈ P,sc.names.lookup x=some .local∨sc.names.lookup x=some .cell
 Jz:∀ y ∈ sc.names,y.2 ≠ .free
theorem qK {kindOf:Str→Option NameKind} {x:Str}:∀ {binds:List (Str × Value)} {m:Str→Option Value},(∀ v,(x,v) ∉ binds)→bindL kindOf binds m x=m x
 | [],_,_=>rfl
 | (n,v) :: r,m,h=>by
  unfold bindL
  rw [qK fun w hw=>h w (List.mem_cons_of_mem _ hw)]
  split
  ·have:x ≠ n:=by rintro rfl; exact h v List.mem_cons_self
   simp [this]
  ·rfl
theorem qL {kindOf:Str→Option NameKind} {x:Str}:∀ {binds:List (Str × Value)} {m:Str→Option Value},(∀ v,(x,v) ∉ binds)→bindC kindOf binds m x=m x
 | [],_,_=>rfl
 | (n,v) :: r,m,h=>by
  unfold bindC
  rw [qL fun w hw=>h w (List.mem_cons_of_mem _ hw)]
  split
  ·rfl
  ·have:x ≠ n:=by rintro rfl; exact h v List.mem_cons_self
   simp [this]
theorem qM {kindOf:Str→Option NameKind} {x:Str} {v:Value}:∀ {P:List Str} {vs:List Value} {i:Nat} {m:Str→Option Value},P.Nodup→P[i]? = some x→vs[i]? = some v→kindOf x=some .local →
  bindL kindOf (P.zip vs) m x=some v
 | [],_,_,_,_,h,_,_=>by simp at h
 | _ :: _,[],_,_,_,_,h,_=>by simp at h
 | p :: P,w :: vs,0,m,nd,h1,h2,hk=>by
  simp at h1 h2; subst h1; subst h2
  show bindL kindOf ((p,w) :: P.zip vs) m p=_
  unfold bindL
  rw [qK fun v hv=>(List.nodup_cons.mp nd).1 (List.of_mem_zip hv).1,if_pos hk]
  simp
 | p :: P,w :: vs,i + 1,m,nd,h1,h2,hk=>by
  show bindL kindOf ((p,w) :: P.zip vs) m x=_
  unfold bindL
  exact qM (i:=i) (List.nodup_cons.mp nd).2 (by simpa using h1) (by simpa using h2) hk
theorem qN {kindOf:Str→Option NameKind} {x:Str} {v:Value}:∀ {P:List Str} {vs:List Value} {i:Nat} {m:Str→Option Value},P.Nodup→P[i]? = some x→vs[i]? = some v→kindOf x ≠ some .local →
  bindC kindOf (P.zip vs) m x=some v
 | [],_,_,_,_,h,_,_=>by simp at h
 | _ :: _,[],_,_,_,_,h,_=>by simp at h
 | p :: P,w :: vs,0,m,nd,h1,h2,hk=>by
  simp at h1 h2; subst h1; subst h2
  show bindC kindOf ((p,w) :: P.zip vs) m p=_
  unfold bindC
  rw [qL fun v hv=>(List.nodup_cons.mp nd).1 (List.of_mem_zip hv).1,if_neg hk]
  simp
 | p :: P,w :: vs,i + 1,m,nd,h1,h2,hk=>by
  show bindC kindOf ((p,w) :: P.zip vs) m x=_
  unfold bindC
  exact qN (i:=i) (List.nodup_cons.mp nd).2 (by simpa using h1) (by simpa using h2) hk
def start (N:List Str) (vs:List V):St:=vs.map some ++ List.replicate (N.length - vs.length) none
def zG (CX:Bi) (P:Program) (w:World) (K:PySem.W.Frag) (mg:Str→Option Value) (base:Heap) (N:List Str) (qual:Str) (scope:Scope) (f:Addr) (cd:Value) (A:Around) (outer:List Env) (s:Shared) (H:Hp) (E:XK):Cx where
 prog:=P
 w:=w
 K:=K
 mg:=mg
 base:=base
 A:=A.deeper (envOfC qual scope s.heap.objs.size f cd)
 N:=N
 s₀:=s
 H₀:=H
 env:=envOfC qual scope s.heap.objs.size f cd
 outer:=outer
 stack:=envOfC qual scope s.heap.objs.size f cd :: outer
 ex:=[]
 calm:=true
 fn:=fun _=>true
 pn:=[]
 xe:=fun e s'=>wpAny (model P w) (A.deeper (envOfC qual scope s.heap.objs.size f cd)) (leaving (envOfC qual scope s.heap.objs.size f cd) e) (fun _ s''=>CX outer H s E e s'') (fun e' s''=>CX outer H s E e' s'') s'
theorem uO {sc:Scope} {n:Nat} {x:Str} (h:sc.names.lookup x=some .cell):∃ c,(cellsFrom n sc.names []).lookup x=some c:=by
 have q:=PySem.W.cellsFrom_some sc.names n [] (.inl h)
 exact Option.isSome_iff_exists.mp q
theorem zH {CX:Bi} {P:Program} {w:World} {K:PySem.W.Frag} {mg:Str→Option Value} {base:Heap} {N ps:List Str} {qual:Str} {scope:Scope} {f:Addr} {cd:Value} {A:Around} {outer:List Env} {s s1:Shared} {H:Hp} {E:XK} {us:List Value} {vs:List V}
  (S:aJ N ps scope) (hd:A.handled=none) (e0:vV P w K mg base A outer s H) (hl:vs.length=ps.length) (r:Vals vs us)
  (x:InCallC s s.heap.objs.size (bindL (envOfC qual scope s.heap.objs.size f cd).kindOf (ps.zip us) fun _=>none) (cellsFrom (s.heap.objs.size + 1) scope.names []) (bindC (envOfC qual scope s.heap.objs.size f cd).kindOf (ps.zip us) fun _=>none) s1) :
  Inv (zG CX P w K mg base N qual scope f cd A outer s H E) [] (start N vs) H s1:=by
 have hpl:ps.length ≤ N.length:=by have:=congrArg List.length S.pre; rw [List.length_take] at this; omega
 obtain ⟨h1,tk,rfl,hk⟩:=x.done
 have Md:∀ b:Addr,b ∉ (zG CX P w K mg base N qual scope f cd A outer s H E).ex:=fun b z=>absurd (show b ∈ ([]:List Addr) from z) (by simp)
 refine ⟨⟨e0.mod,S.kind,rfl,rfl,Nat.le_refl _,fun y z c h1 h2=>?_,fun y hy=>?_,fun y c _ h=>?_,fun _=>hd,Around.frames_deeper e0.frames,.inr ⟨rfl,rfl⟩,fun b z=>absurd z (Md b),e0.bs,e0.Ey,fun b _ _=>Md b,fun b z=>absurd z (Md b),e0.mF,e0.Jh⟩,
  rfl,e0.bare,Un.kept hk,⟨_,x.toInCall.ns,fun i y v h1 h2 h3=>?_⟩,fun y c h=>⟨_,x.cell y c h⟩,e0.hok.fresh (Nat.le_refl _),fun y c h=>?_,fun p hp=>absurd (show p ∈ ([]:List (Addr × Obj)) from hp) (by simp),e0.hok.kept hk,?_⟩
 ·exact name_of_addr x.apart (PySem.mem_of_lookup h1) (PySem.mem_of_lookup h2)
 ·have hy:scope.names.lookup y=some .cell∨scope.names.lookup y=some .free:=hy
  rcases hy with hy | hy
  ·exact uO hy
  ·exact absurd rfl (S.Jz _ (PySem.mem_of_lookup hy))
 ·exact Nat.le_of_lt (x.above y c (PySem.mem_of_lookup h))
 ·have hi:i < vs.length:=by
   unfold start at h2
   by_cases hi:i < vs.length
   ·exact hi
   ·rw [List.getElem?_append_right (by simpa using hi)] at h2
    rw [List.getElem?_replicate] at h2
    split at h2 <;> cases h2
  have ha:vs[i]? = some v:=by
   unfold start at h2
   rw [List.getElem?_append_left (by simpa using hi),List.getElem?_map] at h2
   cases e:vs[i]? with
   | none=>rw [e] at h2; cases h2
   | some a=>rw [e] at h2; cases h2; rfl
  obtain ⟨u,hu,rv⟩:=r.get ha
  have hp:ps[i]? = some y:=by
   rw [← S.pre,List.getElem?_take_of_lt (by omega)]; exact h1
  have ndP:ps.Nodup:=by rw [← S.pre]; exact S.nd.sublist (List.take_sublist _ _)
  refine ⟨u,rv,?_⟩
  rcases S.par y (List.mem_of_getElem? hp) with k | k
  ·exact .inl ⟨k,qM ndP hp hu k⟩
  ·obtain ⟨c,e⟩:=uO (n:=s.heap.objs.size + 1) k
   refine .inr ⟨.inl k,c,e,?_⟩
   have q:=x.cell y c e
   rw [qN ndP hp hu (by show scope.names.lookup y ≠ _; rw [k]; decide)] at q
   exact q
 ·exact e0.hok.fresh (Nat.le_of_lt (x.above y c (PySem.mem_of_lookup h)))
 ·unfold start
  show _=N.length
  rw [List.length_append,List.length_map,List.length_replicate]
  omega
theorem Mf {CX:Bi} {P:Program} {w:World} {K:PySem.W.Frag} {mg:Str→Option Value} {base:Heap} {k:Nat} {f:Addr} {name qual:Str} {params:Arguments} {body:List Stmt} {scope:Scope} {dV kV doc pm cdv ct oc:Value} {an od:Option Addr}
  {osl:Array (Option Value)} {N ps:List Str} {sp:Sp} (lk:K.lookup f=some ⟨oc,od,.func (PySem.W.fnOf name qual params body scope dV kV doc pm an cdv ct),osl⟩) (hcd:PySem.W.codeIn K cdv qual=true) (S:aJ N ps scope)
  (len:∀ vs H Q E,sp vs H Q E→vs.length=ps.length)
  (hbody:∀ (A:Around) (outer:List Env) (s:Shared) (H:Hp) (vs:List V) (Q:VK) (E:XK),eU k (A.deeper (envOfC qual scope s.heap.objs.size f cdv))→sp vs H Q E →
   ∃ t,rM (zG CX P w K mg base N qual scope f cdv A outer s H E) body t∧t { nx:=fun _ H'=>Q .non H',rt:=Q } (start N vs) H) :
  aR P w K mg base CX (k + 1) f (PySem.W.fnOf name qual params body scope dV kV doc pm an cdv ct) ps sp:=by
 refine ⟨len,fun A outer s H args us vs Q E hr e0 hb r hsp=>?_⟩
 have hl:=len _ _ _ _ hsp
 have KX:K.In s.heap:=e0.mod.LO.keeps fun b o e=>(e0.bs b o e).1
 have lim:s.heap.NoLimit:=e0.mod.nolimit.keeps fun b o e=>(e0.bs b o e).1
 have hkind:∀ y ∈ ps.zip us,scope.names.lookup y.1=some .local∨(scope.names.lookup y.1=some .cell∧((cellsFrom (s.heap.objs.size + 1) scope.names []).lookup y.1).isSome=true):=fun ⟨n,v⟩ hy=>by
  rcases S.par n (List.of_mem_zip hy).1 with q | q
  ·exact .inl q
  ·exact .inr ⟨q,PySem.W.cellsFrom_some _ _ _ (.inl q)⟩
 refine codeAny_call_function hr.depth (KX _ _ lk) rfl S.co S.gen rfl (PySem.W.codeRec_of KX hcd) (hb _ _ _ _ ?_)
 refine wpAny_newFunctionEnv_cells S.kind hkind fun env he s1 x=>?_
 subst he
 refine ⟨lim.keeps x.toInCall.keep,codeAny_func ?_⟩
 obtain ⟨t,ht,hq⟩:=hbody A outer s H vs Q E (hr.deeper _) hsp
 have I:Inv (zG CX P w K mg base N qual scope f cdv A outer s H E) [] (start N vs) H s1:=zH S hr.hd e0 hl r x
 refine wpAny_mono (ht [] s1 (start N vs) H _ I hq) (fun fl s' hs=>?_) fun e s' hs=>hs
 have fin:∀ {σ':St} {H':Hp} {v:V} {u:Value},Inv (zG CX P w K mg base N qual scope f cdv A outer s H E) [] σ' H' s'→RelV v u→Q v H'→CE outer P w H s Q u s' :=
  fun {σ' H' v u} J rv q=>⟨v,H',J.os,J.bare,J.base,J.hok,rv,q⟩
 cases fl with
 | ret u =>
  obtain ⟨v,σ',H',J,rv,q⟩:=hs
  exact fin J rv q
 | next =>
  obtain ⟨σ',H',J,q⟩:=hs
  exact fin (v:=V.non) (u:=Value.none) J rfl q
 | brk =>
  obtain ⟨_,_,_,q⟩:=hs
  exact False.elim q
 | cont =>
  obtain ⟨_,_,_,q⟩:=hs
  exact False.elim q
section
variable {X:Cx} {x:Str} {p pos:Pos} {e:Expr} {es:List Expr} {t:TA} {id T:String} {r:List V→Hp→VK→Prop}
def Q8 (r:List V→Hp→VK→Prop) (t:TA):TE:=fun σ H Q=>t σ H fun vs H1=>r vs H1 Q
theorem bf (hc:iU X (.builtin id) r) (hg:Gl X x) (hm:X.mg x=none) (hv:bootBuiltins x=some (.builtin id)) (ha:PA X (e :: es) t) (hn:x ≠ "__name__" := by decide) (hdb:(x == ("__debug__" : Str))=false:=by decide)
  (he:starEach (e :: es) X.env=(false,eval e X.env) :: starEach es X.env:=by rfl) (hpl:(backTo pos (starEach es X.env)).any (·.1)=false:=by rfl):PE X (.Call (.Name x p) (e :: es) [] pos) (Q8 r t):=by
 intro pins s σ H Q I h
 refine wpAny_Call_Name_kw (jS I hg hm hv ?_ hn hdb)
 exact PyProof.Rows.callWith_builtin1 (cG (ha pos pins s σ H _ I h) fun us s1 ⟨vs,H1,I1,r1,q1⟩=>hc pins s1 σ H1 vs us Q I1 r1 q1) he hpl
theorem cI (hc:iU X (.type T) r) (hg:Gl X x) (hm:X.mg x=none) (hv:bootBuiltins x=some (.type T)) (ha:PA X (e :: es) t) (hn:x ≠ "__name__" := by decide) (hdb:(x == ("__debug__" : Str))=false:=by decide)
  (he:starEach (e :: es) X.env=(false,eval e X.env) :: starEach es X.env:=by rfl) (hpl:(backTo pos (starEach es X.env)).any (·.1)=false:=by rfl):PE X (.Call (.Name x p) (e :: es) [] pos) (Q8 r t):=by
 intro pins s σ H Q I h
 refine wpAny_Call_Name_kw (jS I hg hm hv ?_ hn hdb)
 exact PyProof.Rows.callWith_type1 (cG (ha pos pins s σ H _ I h) fun us s1 ⟨vs,H1,I1,r1,q1⟩=>hc pins s1 σ H1 vs us Q I1 r1 q1) he hpl
end
end L2
namespace HT
open PySem PyProof.Rows
section
open PySem.SeqAt
open PySem.AutoSeq1 (wpAny_loadPart')
open PySem.MeetsSeq PySem.MeetsSeq2 PySem.MeetsSeq3
end
section
variable {prog:Program} {w:World} {A:Around} {E:Value→Shared→Prop} {s:Shared}
def eB (n d:Nat):Option Int→Nat
 | none=>d
 | some v=>if v < 0 then (v + (n:Int)).toNat else min v.toNat n
theorem BJ (n d:Nat):eB n d none=d:=rfl
theorem nG (n d k:Nat):eB n d (some (k:Int))=min k n:=by
 show (if (k:Int) < 0 then ((k:Int) + (n:Int)).toNat else min (k:Int).toNat n)=min k n
 rw [if_neg (by omega),Int.toNat_natCast]
theorem JA (n d:Nat) (hd:d ≤ n) (o:Option Int):eB n d o ≤ n:=by
 cases o with
 | none=>exact hd
 | some v =>
  show (if v < 0 then (v + (n:Int)).toNat else min v.toNat n) ≤ n
  by_cases hv:v < 0
  ·rw [if_pos hv]; omega
  ·rw [if_neg hv]; exact Nat.min_le_right _ _
theorem yn (v:Int) (n d:Nat):(if v < 0 then max (v + (n:Int)) 0 else min v (n:Int))=((eB n d (some v):Nat):Int):=by
 show (if v < 0 then max (v + (n:Int)) 0 else min v (n:Int))=(((if v < 0 then (v + (n:Int)).toNat else min v.toNat n):Nat):Int)
 by_cases hv:v < 0
 ·simp only [if_pos hv]; omega
 ·simp only [if_neg hv]; omega
theorem vX (lo hi:Option Int) (n:Nat):Builtin.Slice.sliceAdjust lo hi 1 (n:Int)=(((eB n 0 lo:Nat):Int),((eB n n hi:Nat):Int)):=by
 have h1:¬ ((1:Int) < 0):=by omega
 unfold Builtin.Slice.sliceAdjust
 simp only [h1,if_false]
 refine Prod.ext ?_ ?_
 ·cases lo with
  | none=>rfl
  | some v=>exact yn v n 0
 ·cases hi with
  | none=>rfl
  | some v=>exact yn v n n
theorem vY (i j:Nat):Builtin.Slice.slicePlaces (i:Int) (j:Int) 1=j - i:=by
 unfold Builtin.Slice.slicePlaces
 have h1:(1:Int) > 0:=by omega
 simp only [h1,if_true,Int.ediv_one]
 split <;> omega
theorem oo {v:Value} {o:Option Int} {Q:Option Int→Shared→Prop} (p:IsPart v o) (h:Q o s):wpAny (model prog w) A (Builtin.Slice.slicePartIndex v) Q E s:=by
 cases p with
 | none=>exact slicePart_none h
 | int i t=>exact slicePart_int h
theorem lG {sl:Addr} {vl vu:Value} {lo hi:Option Int} {n:Nat} {Q:Int × Int × Nat→Shared→Prop} (hs:s.heap.IsSliceOf sl vl vu .none) (pl:IsPart vl lo) (pu:IsPart vu hi)
  (h:Q (((eB n 0 lo:Nat):Int),1,eB n n hi - eB n 0 lo) s):wpAny (model prog w) A (Builtin.Slice.sliceApplied (.ref sl) (pure (n:Int))) Q E s:=by
 obtain ⟨os,hos,hcs,hds⟩:=id hs
 unfold Builtin.Slice.sliceApplied Builtin.Slice.sliceFields
 refine wpAny_bind (wpAny_bind (wpAny_field hos hds (x:=vl) rfl (wpAny_bind (wpAny_field hos hds (x:=vu) rfl (wpAny_bind (wpAny_field hos hds (x:=.none) rfl (wpAny_pure ?_)))))))
 refine wpAny_bind (slicePart_none ?_)
 show wpAny _ _ (if ((1:Int) == 0)=true then _ else _) _ _ s
 rw [if_neg (by decide)]
 refine wpAny_bind (oo pl (wpAny_bind (oo pu (wpAny_bind (wpAny_pure ?_)))))
 show wpAny _ _ (match Builtin.Slice.sliceAdjust lo hi 1 (n:Int) with | (lo,hi)=>pure (lo,(1:Int),Builtin.Slice.slicePlaces lo hi 1)) _ _ s
 rw [vX lo hi n]
 show wpAny _ _ (pure (((eB n 0 lo:Nat):Int),(1:Int),Builtin.Slice.slicePlaces ((eB n 0 lo:Nat):Int) ((eB n n hi:Nat):Int) 1)) _ _ s
 rw [vY]
 exact wpAny_pure h
theorem BK (xs:Array Value) (i k:Nat):((List.range k).filterMap fun (m:Nat)=>xs[((i:Int) + (m:Int) * 1).toNat]?).toArray=((xs.toList.drop i).take k).toArray:=by
 have e:(fun (m:Nat)=>xs[((i:Int) + (m:Int) * 1).toNat]?)=fun m=>xs[i + m]? := by
  funext m
  have:((i:Int) + (m:Int) * 1).toNat=i + m:=by omega
  rw [this]
 rw [e]
 have:=pick_run xs i k
 rw [List.filterMap_map] at this
 have e2:((fun x=>xs[x]?) ∘ fun x=>i + x)=fun m=>xs[i + m]? := rfl
 rw [e2] at this
 rw [this]
theorem j6 {t sl:Addr} {items:Array Value} {vl vu:Value} {lo hi:Option Int} {Q:Value→Shared→Prop} (ht:IsTup s.heap t items) (hs:s.heap.IsSliceOf sl vl vu .none) (pl:IsPart vl lo) (pu:IsPart vu hi)
  (hw:¬ (eB items.size 0 lo=0∧eB items.size items.size hi=items.size))
  (h:Q (.ref s.heap.objs.size) { s with heap:=s.heap.push { cls:=.type "tuple",data:=.seq ((items.toList.drop (eB items.size 0 lo)).take (eB items.size items.size hi - eB items.size 0 lo)).toArray } })
  (hsz:items.size ≤ sizeLine):wpAny (model prog w) A (getItem (.ref t) (.ref sl)) Q E s:=by
 have yo:sizeOk (.seq ((items.toList.drop (eB items.size 0 lo)).take (eB items.size items.size hi - eB items.size 0 lo)).toArray):=by
  show ((items.toList.drop (eB items.size 0 lo)).take (eB items.size items.size hi - eB items.size 0 lo)).toArray.size ≤ sizeLine
  rw [List.size_toArray,List.length_take,List.length_drop,Array.length_toList]
  omega
 have hj:eB items.size items.size hi ≤ items.size:=JA _ _ (Nat.le_refl _) hi
 obtain ⟨os,hos,hcs,hds⟩:=id hs
 have hTs:s.TypeIs (.ref sl) "slice" := ⟨os,hos,hcs⟩
 unfold getItem
 try with_reducible refine wpAny_holding ?_
 first | refine wpAny_bind (wpAny_pure ?_) | skip
 refine wpAny_bind (wpAny_sequenceKey ht.typeIs (by decide) ?_)
 refine wpAny_bind (wpAny_callSpecial?_slot (name:=Str.ofString "__getitem__") ht.typeIs PyProof.Rows.slot_tuple_getitem
  (wpAny_call_entry PyProof.Rows.slot_tuple_getitem ht.typeIs entry_tuple_getitem ?_ (args_tuple_getitem _ _)))
 show wpAny _ _ (Builtin.Tuple.tupleItemsOf (.ref t) >>= _) _ _ s
 refine wpAny_bind (tupleItemsOf_ ht ?_)
 refine wpAny_bind (wpAny_typeOf hTs ?_)
 rw [if_pos (by decide)]
 refine wpAny_bind (lG hs pl pu ?_)
 have hno:¬ ((((eB items.size 0 lo:Nat):Int) == 0 && (1:Int) == 1 && (eB items.size items.size hi - eB items.size 0 lo) == items.size)=true):=by
  intro q
  rw [Bool.and_eq_true,Bool.and_eq_true] at q
  have q1:((eB items.size 0 lo:Nat):Int)=0:=eq_of_beq q.1.1
  have q2:eB items.size items.size hi - eB items.size 0 lo=items.size:=eq_of_beq q.2
  exact hw ⟨by omega,by omega⟩
 show wpAny _ _ (if (((eB items.size 0 lo:Nat):Int) == 0 && (1:Int) == 1 && (eB items.size items.size hi - eB items.size 0 lo) == items.size)=true then _ else _) _ _ s
 rw [if_neg hno,BK]
 first
  | exact wpAny_bind (m:=Builtin.Tuple.tupleExact _) (wpAny_newObj_type (wpAny_pure ⟨_,rfl,wpAny_pure h⟩) yo)
  | exact wpAny_bind (m:=Builtin.Tuple.tupleExact _) (wpAny_newObj_type (wpAny_bind (wpAny_pure (wpAny_pure ⟨_,rfl,wpAny_pure h⟩))) yo)
  | exact wpAny_bind (wpAny_bind (m:=Builtin.Tuple.tupleExact _) (wpAny_newObj_type (wpAny_pure (wpAny_pure ⟨_,rfl,wpAny_pure h⟩)) yo))
  | exact wpAny_bind (wpAny_bind (m:=Builtin.Tuple.tupleExact _) (wpAny_newObj_type (wpAny_pure ⟨_,rfl,wpAny_pure h⟩) yo))
end
end HT
namespace L2
open PySem PySem.Spec PyProof.Rows
abbrev TO:=St→Hp→(Option Int→Hp→Prop)→Prop
def PO (X:Cx) (e:Option Expr) (t:TO):Prop :=
 ∀ (pins:List (Addr × Obj)) (s:Shared) (σ:St) (H:Hp) (Q:Option Int→Hp→Prop),Inv X pins σ H s→t σ H Q →
  wpAny (model X.prog X.w) X.A (evalPart e X.env) (fun u s'=>∃ o H',Inv X pins σ H' s'∧IsPart u o∧Q o H') X.xe s
def EG:TO:=fun _ H Q=>Q none H
def Mg (t:TE):TO:=fun σ H Q=>t σ H fun x H1=>∃ i,x=.int i∧Q (some i) H1
theorem intsAre_of {ns:List Int}:∀ {us:List Value},Vals (ns.map V.int) us→IntsAre us ns:=by
 induction ns with
 | nil=>intro us r; rw [List.map_nil] at r; cases r; exact .nil
 | cons n ns ih =>
  intro us r
  rw [List.map_cons] at r
  cases r with
  | cons r1 r2 =>
   obtain ⟨t,e⟩:=r1
   subst e
   exact .cons n t (ih r2)
section
variable {X:Cx} {e:Expr} {te:TE} {lo hi:Option Expr} {tl th:TO} {pos p2:Pos}
theorem jk:PO X none EG:=by
 intro pins s σ H Q I h
 rw [evalPart_none]
 exact wpAny_pure ⟨none,H,I,.none,h⟩
theorem eG (h:PE X e te):PO X (some e) (Mg te):=by
 intro pins s σ H Q I hw
 rw [evalPart_some]
 refine cG (h pins s σ H _ I hw) fun u s1 ⟨x,H1,I1,r1,q1⟩=>?_
 obtain ⟨i,rfl,q⟩:=q1
 obtain ⟨t,rfl⟩:=r1
 exact ⟨some i,H1,I1,.int i t,q⟩
def Q9 (X:Cx) (r:V→Option Int→Option Int→Hp→VK→Prop):Prop :=
 ∀ (pins:List (Addr × Obj)) (s:Shared) (σ:St) (H:Hp) (x:V) (v vl vu:Value) (lo hi:Option Int) (sl:Addr) (Q:VK),Inv X pins σ H s→RelV x v→s.heap.IsSliceOf sl vl vu .none→IsPart vl lo→IsPart vu hi→r x lo hi H Q →
  ∃ T id,typeLookup (.type T) "__getitem__" = pure (some (.builtin id))∧s.TypeIs v T∧wpAny (model X.prog X.w) X.A (getItem v (.ref sl)) (EP X pins σ Q) X.xe s
def tSl (r:V→Option Int→Option Int→Hp→VK→Prop) (te:TE) (tl th:TO):TE:=fun σ H Q=>te σ H fun x H1=>tl σ H1 fun l H2=>th σ H2 fun u H3=>r x l u H3 Q
theorem eV {r:V→Option Int→Option Int→Hp→VK→Prop} (hr:Q9 X r) (he:PE X e te) (hl:PO X lo tl) (hu:PO X hi th):PE X (.Subscript e (.Slice lo hi none p2) pos) (tSl r te tl th):=by
 intro pins s σ H Q I h
 refine Subscript_ (cG (he pins s σ H _ I h) fun v s1 ⟨x,H1,I1,r1,q1⟩=>?_)
 refine wpAny_Slice (cG (hl pins s1 σ H1 _ I1 q1) fun vl s2 ⟨l,H2,I2,pl,q2⟩=>cG (hu pins s2 σ H2 _ I2 q2) fun vu s3 ⟨u,H3,I3,pu,q3⟩=>?_)
 rw [evalPart_none]
 refine wpAny_pure ?_
 have I4:Inv X pins σ H3 { s3 with heap:=s3.heap.push { cls:=.type "slice",data:=.fields #[vl,vu,.none] } }:=I3.kept (t':=s3.toks) fun b ob q=>Heap.get?_push_of_some _ q
 obtain ⟨T,id,hT,ht,hg⟩:=hr pins { s3 with heap:=s3.heap.push { cls:=.type "slice",data:=.fields #[vl,vu,.none] } } σ H3 x v vl vu l u s3.heap.objs.size Q I4 r1 (Heap.IsSliceOf.new ..) pl pu q3
 show wpAny (model X.prog X.w) X.A (subscriptTail e (.Slice lo hi none p2) v (.ref s3.heap.objs.size)) (EP X pins σ Q) X.xe { s3 with heap:=s3.heap.push { cls:=.type "slice",data:=.fields #[vl,vu,.none] } }
 exact tail_any (ops:=[.ref s3.heap.objs.size,v]) ht hT hg (by with_unfolding_all rfl)
def gY (xs:List V) (lo hi:Option Int):List V:=(xs.drop (HT.eB xs.length 0 lo)).take (HT.eB xs.length xs.length hi - HT.eB xs.length 0 lo)
theorem lW (xs:List V) (lo hi:Option Int):(gY xs lo hi).length ≤ xs.length:=by
 unfold gY
 rw [List.length_take,List.length_drop]
 omega
def Ra (K:PySem.W.Frag):V→Option Int→Option Int→Hp→VK→Prop:=fun x lo hi H Q=>∃ a xs,x=.ref a∧aS K H a xs ∧
 ¬ (HT.eB xs.length 0 lo=0∧HT.eB xs.length xs.length hi=xs.length)∧∀ p,H p=none→Q (.ref p) (upd H p (.tup (gY xs lo hi)))
theorem BL:Q9 X (Ra X.K):=by
 intro pins s σ H x v vl vu lo hi sl Q I rx hs pl pu h
 obtain ⟨a,xs,rfl,hx,hw,q⟩:=h
 cases rx
 obtain ⟨its,r,ht,hz⟩:=I.tuple hx
 have hlen:its.toArray.size=xs.length:=by rw [List.size_toArray]; exact r.length.symm
 refine ⟨"tuple",_,PyProof.Rows.slot_tuple_getitem.lookup,ht.typeIs,?_⟩
 refine HT.j6 ht hs pl pu (by rw [hlen]; exact hw) ?_ (by rw [hlen]; exact hz)
 rw [hlen]
 refine ⟨.ref s.heap.objs.size,_,I.laid (t':=s.toks) (o:=.tup (gY xs lo hi)) (fun b ob q=>Heap.get?_push_of_some _ q) (Nat.le_refl _) ?_,rfl,q _ (I.hok.fresh (Nat.le_refl _))⟩
 exact ⟨Nat.le_trans (lW xs lo hi) hz,_,(r.drop (HT.eB xs.length 0 lo)).take (HT.eB xs.length xs.length hi - HT.eB xs.length 0 lo),IsTup.new _ _⟩
end
def yp (n:Nat) (i:Int):Option Nat:=if 0 ≤ i then (if i < n then some i.toNat else none) else if -(n:Int) ≤ i then some (i + n).toNat else none
def lX {α:Type} (xs:List α) (i:Int):Option α:=(yp xs.length i).bind fun j=>xs[j]?
theorem yq {n:Nat} {i:Int} {j:Nat} (h:yp n i=some j):seqIndex? i n=some j∧j < n∧-(n:Int) ≤ i∧i < n:=by
 unfold yp at h
 by_cases h0:0 ≤ i
 ·rw [if_pos h0] at h
  by_cases h1:i < n
  ·rw [if_pos h1] at h
   have e:i.toNat=j:=Option.some.inj h
   exact ⟨by rw [seqIndex_of h0 h1,e],by omega,by omega,h1⟩
  ·rw [if_neg h1] at h; cases h
 ·rw [if_neg h0] at h
  by_cases h1:-(n:Int) ≤ i
  ·rw [if_pos h1] at h
   have e:(i + n).toNat=j:=Option.some.inj h
   exact ⟨by rw [seqIndex_neg (by omega) h1,e],by omega,h1,by omega⟩
  ·rw [if_neg h1] at h; cases h
theorem yr {α:Type} {xs:List α} {i:Int} {v:α} (h:lX xs i=some v):∃ j,seqIndex? i xs.length=some j∧xs[j]? = some v∧j < xs.length∧-(xs.length:Int) ≤ i∧i < xs.length:=by
 unfold lX at h
 cases e:yp xs.length i with
 | none=>rw [e] at h; cases h
 | some j =>
  rw [e] at h
  obtain ⟨h1,h2,h3,h4⟩:=yq e
  exact ⟨j,h1,h,h2,h3,h4⟩
theorem ck {α:Type} {xs:List α} {j:Nat} {v:α} (h:xs[j]? = some v):lX xs (j:Int)=some v:=by
 have hj:j < xs.length:=(List.getElem?_eq_some_iff.mp h).1
 have e:yp xs.length (j:Int)=some j:=by
  unfold yp
  rw [if_pos (by omega),if_pos (by omega)]; simp
 unfold lX; rw [e]; exact h
def EH (b:Expr):Prop:=∀ o i,subscripted b false o i=operate [o,i] (getItem o i)
def Rb (X:Cx) (r:R2):Prop :=
 ∀ (value slice:Expr) (pins:List (Addr × Obj)) (s:Shared) (σ:St) (H:Hp) (x y:V) (v u:Value) (Q:VK),Inv X pins σ H s→RelV x v→RelV y u→r x y H Q →
  subscripted slice false v u=operate [v,u] (getItem v u)→wpAny (model X.prog X.w) X.A (subscriptTail value slice v u) (EP X pins σ Q) X.xe s
def Rc (X:Cx) (id:String) (r:V→List V→Hp→VK→Prop):Prop :=
 ∀ (pins:List (Addr × Obj)) (s:Shared) (σ:St) (H:Hp) (x:V) (xs:List V) (v:Value) (us:List Value) (Q:VK),Inv X pins σ H s→RelV x v→Vals xs us→r x xs H Q →
  wpAny (model X.prog X.w) X.A (call (.builtin id) (v :: us)) (EP X pins σ Q) X.xe s
section
variable {X:Cx} {a b:Expr} {ta tb:TE} {pos:Pos}
theorem au {r:R2} (hr:Rb X r) (ha:PE X a ta) (hb:PE X b tb) (hs:EH b):PE X (.Subscript a b pos) (Js r ta tb):=by
 intro pins s σ H Q I h
 exact Subscript_ (Ju ha hb I h fun v u s2 x y H2 I2 rx ry q=>hr a b pins s2 σ H2 x y v u Q I2 rx ry q (hs _ _))
def EI (K:PySem.W.Frag):R2:=fun x y H Q=>∃ p xs i v,x=.ref p∧y=.int i∧bh K H p xs∧lX xs i=some v∧Q v H
def EJ (K:PySem.W.Frag):R2:=fun x y H Q=>∃ p xs i v,x=.ref p∧y=.int i∧aS K H p xs∧lX xs i=some v∧Q v H
theorem aK:Rb X (EI X.K):=by
 intro value slice pins s σ H x y v u Q I rx ry h hs
 obtain ⟨p,xs,i,z,rfl,rfl,hq,he,q⟩:=h
 cases rx
 obtain ⟨t,rfl⟩:=ry
 obtain ⟨its,r,pl,hz⟩:=I.list hq
 obtain ⟨j,h1,h2,h3,h4,h5⟩:=yr he
 obtain ⟨w,ew,qe⟩:=r.get h2
 have hl:=r.length
 have hn:=rS
 have fin:EP X pins σ Q w s:=⟨z,H,I,qe,q⟩
 by_cases h0:0 ≤ i
 ·have hj:i.toNat=j:=by
   rw [seqIndex_of h0 h5] at h1
   exact Option.some.inj h1
  exact item_listR pl.isList h0 (by omega) (by rw [hj]; simpa using ew) fin hs
 ·have hj:(i + (its.toArray.size:Int)).toNat=j:=by
   rw [seqIndex_neg (by omega) h4] at h1
   rw [List.size_toArray,← hl]
   exact Option.some.inj h1
  exact subscriptTail_builtinR (x:=w) pl.isList.typeIs slot_list_getitem.lookup
   (wpAny_getItem_list_neg (Q:=fun r s'=>r=w∧EP X pins σ Q r s') pl.isList (by omega) (by rw [List.size_toArray] <;> omega) (by omega) (by rw [hj]; simpa using ew) ⟨rfl,fin⟩) hs
theorem az:Rb X (EJ X.K):=by
 intro value slice pins s σ H x y v u Q I rx ry h hs
 obtain ⟨p,xs,i,z,rfl,rfl,hq,he,q⟩:=h
 cases rx
 obtain ⟨t,rfl⟩:=ry
 obtain ⟨its,r,pl,hz⟩:=I.tuple hq
 obtain ⟨j,h1,h2,h3,h4,h5⟩:=yr he
 obtain ⟨w,ew,qe⟩:=r.get h2
 have hl:=r.length
 have hn:=rS
 have fin:EP X pins σ Q w s:=⟨z,H,I,qe,q⟩
 exact subscriptTail_builtinR (x:=w) pl.typeIs slot_tuple_getitem.lookup
  (getItem_tuple (j:=j) (Q:=fun r s'=>r=w∧EP X pins σ Q r s') pl (by omega) (by omega) (by rw [List.size_toArray,← hl]; exact h1) (by simpa using ew) ⟨rfl,fin⟩) hs
theorem vZ (its:List Value) (n j:Nat) (u:Value):Obj.mapSeq (·.setIfInBounds j u) { cls:=.type "list",data:=.seq its.toArray n }={ cls:=.type "list",data:=.seq (its.set j u).toArray n }:=by
 simp [Obj.mapSeq]
theorem Inv.lst {pins:List (Addr × Obj)} {σ:St} {H:Hp} {s:Shared} {p:Addr} {xs:List V} (I:Inv X pins σ H s) (h:H p=some (.lst xs)) :
  ∃ (its:List Value) (n:Nat),Vals xs its∧s.heap.get? p=some { cls:=.type "list",data:=.seq its.toArray n }∧xs.length ≤ sizeLine:=by
 obtain ⟨z,its,n,r,e⟩:=I.hok p _ h
 exact ⟨its,n,r,e,z⟩
theorem Inv.JB {pins:List (Addr × Obj)} {σ:St} {H:Hp} {s:Shared} {p:Addr} {xs ys:List V} {its its':List Value} {n n':Nat} {f:Obj→Obj} (I:Inv X pins σ H s) (h:H p=some (.lst xs))
  (ho:s.heap.get? p=some { cls:=.type "list",data:=.seq its.toArray n }) (hf:f { cls:=.type "list",data:=.seq its.toArray n }={ cls:=.type "list",data:=.seq its'.toArray n' }) (r:Vals ys its') (hz:ys.length ≤ sizeLine) (t:Nat) :
  Inv X pins σ (upd H p (.lst ys)) { s with heap:=s.heap.update p f,toks:=t }:=by
 have e:(s.heap.update p f).get? p=some { cls:=.type "list",data:=.seq its'.toArray n' }:=by
  rw [Heap.get?_update_self f ho (by rw [hf] <;> rfl),hf]
 refine I.write (x:=p) (e:=p) (by rw [h]; trivial) (.inl rfl) (fun b u hb q=>(Heap.get?_update_other _ _ (Ne.symm hb)).trans q) ⟨_,e⟩ ?_
 exact ⟨hz,its',n',r,e⟩
def Mh:V→V→V→Hp→(Hp→Prop)→Prop:=fun o i v H Q=>∃ p xs k j,o=.ref p∧i=.int k∧H p=some (.lst xs)∧yp xs.length k=some j∧Q (upd H p (.lst (xs.set j v)))
theorem set_list:LZ X Mh:=by
 intro pins s σ H o i v ov iv u Q I ro ri rv h
 obtain ⟨p,xs,k,j,rfl,rfl,hp,hj,q⟩:=h
 cases ro
 obtain ⟨t,rfl⟩:=ri
 obtain ⟨its,n,r,ho,hz⟩:=I.lst hp
 obtain ⟨h1,h2,h3,h4⟩:=yq hj
 have hl:=r.length
 have hn:=rS
 have I':Inv X pins σ (upd H p (.lst (xs.set j v))) { s with heap:=s.heap.update p (Obj.mapSeq (·.setIfInBounds j u)) } :=
  I.JB hp ho (vZ its n j u) (r.set rv j) (by rw [List.length_set]; exact hz) s.toks
 by_cases h0:0 ≤ k
 ·have hk:k.toNat=j:=by
   rw [seqIndex_of h0 h4] at h1
   exact Option.some.inj h1
  exact PySem.W.ki_setAt ho h0 (by omega) (by rw [List.size_toArray,← hl]; exact h4) (by rw [hk]; exact ⟨_,I',q⟩)
 ·have hk:(k + (its.toArray.size:Int)).toNat=j:=by
   rw [seqIndex_neg (by omega) h3] at h1
   rw [List.size_toArray,← hl]
   exact Option.some.inj h1
  exact PySem.W.ki_setBack ho (by omega) (by rw [List.size_toArray,← hl]; exact h3) (by omega) (by rw [hk]; exact ⟨_,I',q⟩)
theorem rT (lo hi:Option Int) (n:Nat):(sliceBounds lo hi none n).1=((HT.eB n 0 lo:Nat):Int)∧(sliceBounds lo hi none n).2.1=((HT.eB n n hi:Nat):Int)∧(sliceBounds lo hi none n).2.2=1:=by
 refine ⟨?_,?_,rfl⟩
 ·cases lo with
  | none=>simp [sliceBounds,HT.eB]
  | some i =>
   simp only [sliceBounds,HT.eB,Option.getD_none,show (1:Int) > 0 by decide,if_true]
   by_cases h:i < 0
   ·simp only [h,if_true] <;> omega
   ·simp only [h,if_false] <;> omega
 ·cases hi with
  | none=>simp [sliceBounds,HT.eB]
  | some i =>
   simp only [sliceBounds,HT.eB,Option.getD_none,show (1:Int) > 0 by decide,if_true]
   by_cases h:i < 0
   ·simp only [h,if_true] <;> omega
   ·simp only [h,if_false] <;> omega
theorem qf (its:List Value) (lo hi:Option Int):slicePick its.toArray lo hi none=((its.drop (HT.eB its.length 0 lo)).take (HT.eB its.length its.length hi - HT.eB its.length 0 lo)).toArray:=by
 obtain ⟨h1,h2,h3⟩:=rT lo hi its.toArray.size
 unfold slicePick
 rw [h1,h2,h3]
 simp only [sliceRange_one,pick_run,List.size_toArray] <;> rfl
def Rf (K:PySem.W.Frag):V→Option Int→Option Int→Hp→VK→Prop:=fun x lo hi H Q=>∃ a xs,x=.ref a∧bh K H a xs∧∀ p,H p=none→Q (.ref p) (upd H p (.lst (gY xs lo hi)))
theorem iK:Q9 X (Rf X.K):=by
 intro pins s σ H x v vl vu lo hi sl Q I rx hs pl pu h
 obtain ⟨a,xs,rfl,hx,q⟩:=h
 cases rx
 obtain ⟨its,r,ht,hz⟩:=I.list hx
 have hlen:=r.length
 refine ⟨"list",_,slot_list_getitem.lookup,ht.isList.typeIs,?_⟩
 refine wpAny_getItem_list_slice ht.isList hs pl pu .none (by simp) ?_ (by rw [List.size_toArray] <;> omega)
 rw [qf,← hlen]
 refine ⟨.ref s.heap.objs.size,_,I.laid (t':=s.toks) (o:=.lst (gY xs lo hi)) (fun b ob q=>Heap.get?_push_of_some _ q) (Nat.le_refl _) ?_,rfl,q _ (I.hok.fresh (Nat.le_refl _))⟩
 exact ⟨Nat.le_trans (lW xs lo hi) hz,_,0,(r.drop (HT.eB xs.length 0 lo)).take (HT.eB xs.length xs.length hi - HT.eB xs.length 0 lo),Heap.get?_push_size _ rfl⟩
def j7:V→Bool
 | .non=>true
 | .bl _=>true
 | .int _=>true
 | .str _=>true
 | _=>false
def HN:V→V→Bool
 | .non,.non=>true
 | .bl a,.bl b=>a == b
 | .bl a,.int b=>(if a then 1 else 0) == b
 | .int a,.bl b=>a == (if b then 1 else 0)
 | .int a,.int b=>a == b
 | .str a,.str b=>a == b
 | _,_=>false
theorem JC {A:Around} {s:Shared} {y x:V} {u v:Value} (ry:RelV y u) (rx:RelV x v) (fy:j7 y=true) (fx:j7 x=true):SeqAt.EqAt A s u v (HN y x):=by
 cases y with
 | non =>
  cases ry
  cases x with
  | non=>cases rx; exact SeqAt.EqAt.same _
  | bl b=>cases rx; exact SeqAt.EqAt.none_bool b
  | int b=>obtain ⟨t,rfl⟩:=rx; exact SeqAt.EqAt.none_int b t
  | str b=>obtain ⟨t,rfl⟩:=rx; exact SeqAt.EqAt.none_str b t
  | _=>exact absurd (show false=true from fx) Bool.false_ne_true
 | bl a =>
  cases ry
  cases x with
  | non=>cases rx; exact SeqAt.EqAt.bool_none a
  | bl b=>cases rx; exact SeqAt.EqAt.bool_bool a b
  | int b=>obtain ⟨t,rfl⟩:=rx; exact SeqAt.EqAt.bool_int a b t
  | str b=>obtain ⟨t,rfl⟩:=rx; exact SeqAt.EqAt.bool_str a b t
  | _=>exact absurd (show false=true from fx) Bool.false_ne_true
 | int a =>
  obtain ⟨t',rfl⟩:=ry
  cases x with
  | non=>cases rx; exact SeqAt.EqAt.int_none a t'
  | bl b=>cases rx; exact SeqAt.EqAt.int_bool a t' b
  | int b=>obtain ⟨t,rfl⟩:=rx; exact SeqAt.EqAt.int_int a t' b t
  | str b=>obtain ⟨t,rfl⟩:=rx; exact SeqAt.EqAt.int_str a t' b t
  | _=>exact absurd (show false=true from fx) Bool.false_ne_true
 | str a =>
  obtain ⟨t',rfl⟩:=ry
  cases x with
  | non=>cases rx; exact SeqAt.EqAt.str_none a t'
  | bl b=>cases rx; exact SeqAt.EqAt.str_bool a t' b
  | int b=>obtain ⟨t,rfl⟩:=rx; exact SeqAt.EqAt.str_int a t' b t
  | str b=>obtain ⟨t,rfl⟩:=rx; exact SeqAt.EqAt.str_str a t' b t
  | _=>exact absurd (show false=true from fx) Bool.false_ne_true
 | _=>exact absurd (show false=true from fy) Bool.false_ne_true
def v5 (x:V) (u:Value):Bool:=match u with
 | .none=>HN .non x
 | .bool b=>HN (.bl b) x
 | .int i _=>HN (.int i) x
 | .str z _=>HN (.str z) x
 | _=>false
theorem BM {x y:V} {u:Value} (r:RelV y u) (f:j7 y=true):v5 x u=HN y x:=by
 cases y with
 | non=>cases r; rfl
 | bl b=>cases r; rfl
 | int i=>obtain ⟨t,rfl⟩:=r; rfl
 | str z=>obtain ⟨t,rfl⟩:=r; rfl
 | _=>exact absurd (show false=true from f) Bool.false_ne_true
theorem j8 {x:V}:∀ {xs:List V} {us:List Value},Vals xs us→xs.all j7=true→us.any (v5 x)=xs.any fun y=>HN y x
 | _,_,.nil,_=>rfl
 | y :: xs,u :: us,.cons r t,f=>by
  rw [List.all_cons,Bool.and_eq_true] at f
  rw [List.any_cons,List.any_cons,BM r f.1,j8 t f.2]
theorem i7 {A:Around} {s:Shared} {x:V} {v:Value} (rx:RelV x v) (fx:j7 x=true):∀ {xs:List V} {us:List Value},Vals xs us→xs.all j7=true→∀ u ∈ us,SeqAt.EqAt A s u v (v5 x u)
 | _,_,.nil,_=>fun u hu=>by cases hu
 | y :: xs,u :: us,.cons r t,f=>fun u' hu=>by
  rw [List.all_cons,Bool.and_eq_true] at f
  rcases List.mem_cons.mp hu with rfl | hu
  ·rw [BM r f.1]; exact JC r rx f.1 fx
  ·exact i7 rx fx t f.2 u' hu
def inV (x:V) (xs:List V):Bool:=xs.any fun y=>HN y x
def rIn (K:PySem.W.Frag) (neg:Bool):R2:=fun x y H Q=>∃ p xs,y=.ref p∧(bh K H p xs∨aS K H p xs)∧j7 x=true∧xs.all j7=true∧Q (.bl (if neg then !inV x xs else inV x xs)) H
theorem cX:jU X (compareOp .In) (rIn X.K false):=by
 intro pins s σ H x y v u Q I rx ry h
 obtain ⟨p,xs,rfl,hq,fx,fs,q⟩:=h
 cases ry
 rcases hq with hq | hq
 ·obtain ⟨its,r,pl,hz⟩:=I.list hq
  refine SeqAt.in_listAt (v5 x) pl.isList (fun w hw=>i7 rx fx r fs w (by simpa using hw)) ⟨.bl _,H,I,rfl,?_⟩
  rw [show its.toArray.any (v5 x)=its.any (v5 x) by simp,j8 r fs]
  exact q
 ·obtain ⟨its,r,pl,hz⟩:=I.tuple hq
  refine SeqAt.in_tupleAt (v5 x) pl (fun w hw=>i7 rx fx r fs w (by simpa using hw)) ⟨.bl _,H,I,rfl,?_⟩
  rw [show its.toArray.any (v5 x)=its.any (v5 x) by simp,j8 r fs]
  exact q
theorem j9:jU X (compareOp .NotIn) (rIn X.K true):=by
 intro pins s σ H x y v u Q I rx ry h
 obtain ⟨p,xs,rfl,hq,fx,fs,q⟩:=h
 cases ry
 rcases hq with hq | hq
 ·obtain ⟨its,r,pl,hz⟩:=I.list hq
  refine SeqAt.notIn_listAt (v5 x) pl.isList (fun w hw=>i7 rx fx r fs w (by simpa using hw)) ⟨.bl _,H,I,rfl,?_⟩
  rw [show its.toArray.any (v5 x)=its.any (v5 x) by simp,j8 r fs]
  exact q
 ·obtain ⟨its,r,pl,hz⟩:=I.tuple hq
  refine SeqAt.notIn_tupleAt (v5 x) pl (fun w hw=>i7 rx fx r fs w (by simpa using hw)) ⟨.bl _,H,I,rfl,?_⟩
  rw [show its.toArray.any (v5 x)=its.any (v5 x) by simp,j8 r fs]
  exact q
theorem aZ:iU X (.builtin "len") (fun xs H Q=>∃ p ys,xs=[.ref p]∧(bh X.K H p ys∨aS X.K H p ys)∧Q (.int ys.length) H):=by
 intro pins s σ H xs us Q I r h
 obtain ⟨p,ys,rfl,hq,q⟩:=h
 obtain ⟨u,rfl,rx⟩:=vals1 r
 cases rx
 have hn:=rS
 rcases hq with hq | hq
 ·obtain ⟨its,r',pl,hz⟩:=I.list hq
  have hlen:=r'.length
  exact Calls.call_len_list pl.isList (by simp only [List.size_toArray] <;> omega) ⟨.int ys.length,H,I.tok _,⟨s.toks + 1,by rw [List.size_toArray,hlen]⟩,q⟩
 ·obtain ⟨its,r',pl,hz⟩:=I.tuple hq
  have hlen:=r'.length
  exact len_tuple pl (by simp only [List.size_toArray] <;> omega) ⟨.int ys.length,H,I.tok _,⟨s.toks + 1,by rw [List.size_toArray,hlen]⟩,q⟩
theorem dY:iU X (.type "list") (fun xs H Q=>∃ p ys,xs=[.ref p]∧(bh X.K H p ys∨aS X.K H p ys)∧∀ l,H l=none→Q (.ref l) (upd H l (.lst ys))):=by
 intro pins s σ H xs us Q I r h
 obtain ⟨p,ys,rfl,hq,q⟩:=h
 obtain ⟨u,rfl,rx⟩:=vals1 r
 cases rx
 have fin:∀ (its:List Value),Vals ys its→ys.length ≤ sizeLine→∀ (h':Heap) (c':Nat),(∀ b o',s.heap.get? b=some o'→h'.get? b=some o') →
   h'.get? s.heap.objs.size=some { cls:=.type "list",dict:=none,data:=.seq its.toArray c',slots:=#[] }→EP X pins σ Q (.ref s.heap.objs.size) { s with heap:=h' }:=fun its r' hz h' c' kp e =>
  ⟨.ref s.heap.objs.size,_,I.laid (t':=s.toks) kp (Nat.le_refl _) (show cH X.prog X.w _ h' _ (.lst ys) from ⟨hz,its,c',r',e⟩),rfl,q _ (I.hok.fresh (Nat.le_refl _))⟩
 rcases hq with hq | hq
 ·obtain ⟨its,r',pl,hz⟩:=I.list hq
  have hlen:=r'.length
  obtain ⟨o,ho,hc,n,hd⟩:=pl.isList
  exact call_list_seq p (.inl rfl) ho hc hd (fun h' c' kp e=>fin its r' hz h' c' kp e) (by simp only [List.size_toArray] <;> omega)
 ·obtain ⟨its,r',pl,hz⟩:=I.tuple hq
  have hlen:=r'.length
  obtain ⟨o,ho,hc,n,hd⟩:=pl
  exact call_list_seq p (.inr rfl) ho hc hd (fun h' c' kp e=>fin its r' hz h' c' kp e) (by simp only [List.size_toArray] <;> omega)
theorem qg:iU X (.type "tuple") (fun xs H Q=>∃ p ys,xs=[.ref p]∧((bh X.K H p ys∧∀ l,H l=none→Q (.ref l) (upd H l (.tup ys)))∨(aS X.K H p ys∧Q (.ref p) H))):=by
 intro pins s σ H xs us Q I r h
 obtain ⟨p,ys,rfl,h⟩:=h
 obtain ⟨u,rfl,rx⟩:=vals1 r
 cases rx
 rcases h with ⟨hq,q⟩ | ⟨hq,q⟩
 ·obtain ⟨its,r',pl,hz⟩:=I.list hq
  have hlen:=r'.length
  refine call_tuple_list pl.isList (fun h' kp=>?_) (by simp only [List.size_toArray] <;> omega)
  have I1:Inv X pins σ H { s with heap:=h' }:=I.kept (t':=s.toks) kp
  have I2:Inv X pins σ (upd H h'.objs.size (.tup ys)) { s with heap:=h'.push { cls:=.type "tuple",data:=.seq its.toArray } } :=
   I1.laid (t':=s.toks) (fun b o e=>Heap.get?_push_of_some _ e) (Nat.le_refl _) (show cH X.prog X.w _ _ _ (.tup ys) from ⟨hz,its,r',IsTup.new _ _⟩)
  exact ⟨.ref h'.objs.size,_,I2,rfl,q _ (I1.hok.fresh (Nat.le_refl _))⟩
 ·obtain ⟨its,r',pl,hz⟩:=I.tuple hq
  exact call_tuple_same pl ⟨.ref p,H,I,rfl,q⟩
def Rg (K:PySem.W.Frag) (T:String) (x:V) (H:Hp):Prop:=match x with
 | .str _=>T = "str"
 | .int _=>T = "int"
 | .ref p=>(T = "list" ∧ ∃ xs,bh K H p xs)∨(T = "tuple" ∧ ∃ o,K.lookup p=some o∧o.cls=.type "tuple" ∧ o.dict=none) ∨
   (T = "dict" ∧ ((∃ kvs,H p=some (.dK kvs))∨∃ kvs,H p=some (.dT kvs)))∨(T = "set" ∧ ∃ S n,H p=some (.set S n))
 | _=>False
theorem BO {pins:List (Addr × Obj)} {σ:St} {H:Hp} {s:Shared} {T:String} {x:V} {v:Value} (I:Inv X pins σ H s) (r:RelV x v) (ty:Rg X.K T x H) :
  s.TypeIs v T∧∀ a,v=.ref a→∃ ob,s.heap.get? a=some ob∧ob.dict=none:=by
 cases x with
 | str z =>
  obtain ⟨t,rfl⟩:=r
  cases (show T = "str" from ty)
  exact ⟨typeIs_str s z t,fun _ e=>nomatch e⟩
 | int i =>
  obtain ⟨t,rfl⟩:=r
  cases (show T = "int" from ty)
  exact ⟨typeIs_int s i t,fun _ e=>nomatch e⟩
 | ref p =>
  cases r
  rcases ty with ⟨rfl,xs,hq⟩ | ⟨rfl,o,hk,hc,hd⟩ | ⟨rfl,hk⟩ | ⟨rfl,S,n,hk⟩
  ·obtain ⟨its,_,pl,_⟩:=I.list hq
   refine ⟨pl.isList.typeIs,fun a e=>?_⟩
   cases e
   obtain ⟨o,n,e,c,hd,_⟩:=pl
   exact ⟨o,e,hd⟩
  ·refine ⟨⟨o,I.lz p o hk,hc⟩,fun a e=>?_⟩
   cases e
   exact ⟨o,I.lz _ o hk,hd⟩
  ·have z:∃ o,s.heap.get? p=some o∧o.ExactDict:=by
    rcases hk with ⟨kvs,hk⟩ | ⟨kvs,hk⟩
    ·obtain ⟨_,_,_,_,o,_,_,e,ex,_⟩:=I.hok p _ hk
     exact ⟨o,e,ex⟩
    ·obtain ⟨_,_,_,_,o,_,_,e,ex,_⟩:=I.hok p _ hk
     exact ⟨o,e,ex⟩
   obtain ⟨o,e,ex⟩:=z
   refine ⟨⟨o,e,ex.1⟩,fun a e2=>?_⟩
   cases e2
   exact ⟨o,e,ex.2.1⟩
  ·obtain ⟨o,_,_,_,e,ex,_⟩:=I.hok p _ hk
   refine ⟨⟨o,e,ex.1⟩,fun a e2=>?_⟩
   cases e2
   exact ⟨o,e,ex.2.1⟩
 | _=>exact False.elim ty
def Rh (K:PySem.W.Frag) (T:String) (r:V→List V→Hp→VK→Prop) (to:TE):TE:=fun σ H Q=>to σ H fun x H1=>Rg K T x H1∧r x [] H1 Q
def tBM (K:PySem.W.Frag) (T:String) (r:V→List V→Hp→VK→Prop) (to:TE) (t:TA):TE:=fun σ H Q=>to σ H fun x H1=>Rg K T x H1∧t σ H1 fun xs H2=>r x xs H2 Q
variable {o e:Expr} {es:List Expr} {to:TE} {t:TA} {name:Str} {apos cpos:Pos} {T id:String} {r:V→List V→Hp→VK→Prop}
theorem BP (pa:PlainAttrs T) (slot:Slot T name id) (hty:typeOf (.builtin id)=pure (.type "method_descriptor")) (hm:Rc X id r) (ho:PE X o to)
  (hbase:attributeBase o name X.env (eval o X.env)=eval o X.env:=by rfl) (hline:(apos.endLine == cpos.line)=true:=by rfl):PE X (.Call (.Attribute o name apos) [] [] cpos) (Rh X.K T r to):=by
 intro pins s σ H Q I h
 refine wpAny_Call_method0_late hbase hline (cG (ho pins s σ H _ I h) fun v s1 ⟨x,H1,I1,r1,ty,q1⟩=>?_)
 obtain ⟨h1,h2⟩:=BO I1 r1 ty
 exact ⟨T,id,pa,slot,hty,h1,h2,Calls.callWith_builtin rfl (PySem.evalArgs_none (hm pins s1 σ H1 x [] v [] Q I1 r1 .nil q1))⟩
theorem gn (pa:PlainAttrs T) (slot:Slot T name id) (hty:typeOf (.builtin id)=pure (.type "method_descriptor")) (hm:Rc X id r) (ho:PE X o to) (ha:PA X (e :: es) t)
  (hbase:attributeBase o name X.env (eval o X.env)=eval o X.env:=by rfl)
  (hfew:((backTo cpos (starEach (e :: es) X.env)).all (fun x=>!x.1) && (backToKw cpos (keywordEach [] X.env)).all (fun x=>x.1.isSome)
   && decide ((e :: es).length + ([]:List Keyword).length + (if ([]:List Keyword).isEmpty then 0 else 1) < 30))=true:=by rfl)
  (hline:(apos.endLine == cpos.line)=true:=by rfl) (hs:starEach (e :: es) X.env=(false,eval e X.env) :: starEach es X.env:=by rfl) (hplain:(backTo cpos (starEach es X.env)).any (·.1)=false:=by rfl) :
  PE X (.Call (.Attribute o name apos) (e :: es) [] cpos) (tBM X.K T r to t):=by
 intro pins s σ H Q I h
 refine wpAny_Call_method_late hbase hfew hline rfl (cG (ho pins s σ H _ I h) fun v s1 ⟨x,H1,I1,r1,ty,q1⟩=>?_)
 obtain ⟨h1,h2⟩:=BO I1 r1 ty
 refine ⟨T,id,pa,slot,hty,h1,h2,?_⟩
 have hA:=ha cpos pins s1 σ H1 _ I1 q1
 rw [hs] at hA ⊢
 refine Calls.callWith_builtin (by show (false || (backTo cpos (starEach es X.env)).any (·.1))=false; rw [hplain] <;> rfl) (Calls.evalArgs_plain ?_)
 exact cG hA fun us s2 ⟨vs,H2,I2,r2,q2⟩=>hm pins s2 σ H2 x vs v us Q I2 r1 r2 q2
/- xs.append(e),list.index on a module's tuple .. are Rc facts of 06m -/
end
def MtM (X:Cx) (id:String) (r:V→List V→Hp→VK→Prop):Prop :=
 ∀ (pins:List (Addr × Obj)) (s:Shared) (σ:St) (H:Hp) (x:V) (xs:List V) (v:Value) (us:List Value) (Q:VK),Inv X pins σ H s→RelV x v→Vals xs us→r x xs H Q →
  wpAny (model X.prog X.w) X.A (call (.builtin id) (v :: us)) (EP X pins σ Q) X.xe s
theorem Vals.one:∀ {x:V} {us:List Value},Vals [x] us→∃ u,us=[u]∧RelV x u
 | _,_,.cons r .nil=>⟨_,rfl,r⟩
theorem Vals.zero:∀ {us:List Value},Vals [] us→us=[]
 | _,.nil=>rfl
theorem Vals.dropLast {xs:List V} {us:List Value} (h:Vals xs us):Vals xs.dropLast us.dropLast:=by
 induction h with
 | nil=>exact .nil
 | cons r t ih =>
  cases t with
  | nil=>exact .nil
  | cons q t'=>exact .cons r ih
theorem v9 {α:Type} (l:List α):l.eraseIdx (l.length - 1)=l.dropLast:=by
 induction l with
 | nil=>rfl
 | cons a r ih =>
  cases r with
  | nil=>rfl
  | cons b r =>
   have e:(a :: b :: r).length - 1=((b :: r).length - 1) + 1:=by
    have h1:(a :: b :: r).length=r.length + 2:=rfl
    have h2:(b :: r).length=r.length + 1:=rfl
    omega
   rw [e,List.eraseIdx_cons_succ,ih]
   all_goals rfl
section
variable {X:Cx} {pins:List (Addr × Obj)} {σ:St} {H:Hp} {s:Shared} {l b:Addr} {xs ys zs:List V}
theorem Inv.Mi {its its':List Value} {n:Nat} {f:Array Value→Array Value} {t':Nat} (I:Inv X pins σ H s) (hH:H l=some (.lst xs))
  (e:s.heap.get? l=some { cls:=.type "list",data:=.seq its.toArray n }) (hf:f its.toArray=its'.toArray) (hv:Vals ys its') (hz:ys.length ≤ sizeLine) :
  Inv X pins σ (upd H l (.lst ys)) { s with heap:=s.heap.update l (Obj.mapSeq f),toks:=t' }:=by
 have q:=PySem.IsL.update e f
 rw [hf] at q
 refine I.write (x:=l) (e:=l) (by rw [hH]; exact trivial) (.inl rfl) (fun b' u hb hu=>(Heap.get?_update_other s.heap (Obj.mapSeq f) (Ne.symm hb)).trans hu) ⟨_,q⟩ ?_
 exact ⟨hz,its',_,hv,q⟩
theorem Inv.Mj {its:List Value} {t':Nat} (I:Inv X pins σ H s) (hv:Vals ys its) (hz:ys.length ≤ sizeLine) :
  Inv X pins σ (upd H s.heap.objs.size (.lst ys)) { s with heap:=s.heap.push { cls:=.type "list",data:=.seq its.toArray },toks:=t' } :=
 I.laid (fun _ _ q=>Heap.get?_push_of_some _ q) (Nat.le_refl _) ⟨hz,its,0,hv,Heap.get?_push_size _ rfl⟩
theorem Inv.fresh (I:Inv X pins σ H s):H s.heap.objs.size=none:=I.hok.fresh (Nat.le_refl _)
theorem Inv.EK (I:Inv X pins σ H s) (hH:H l=some (.lst xs)):xs.length ≤ sizeLine∧∃ (its:List Value) (n:Nat),Vals xs its∧xs.length=its.length∧s.heap.get? l=some { cls:=.type "list",data:=.seq its.toArray n }:=by
 obtain ⟨z,its,n,r,e⟩:=I.hok l _ hH
 exact ⟨z,its,n,r,r.length,e⟩
end
section
variable {X:Cx}
def EL:V→List V→Hp→VK→Prop:=fun x vs H Q=>∃ l xs y,x=.ref l∧vs=[y]∧H l=some (.lst xs)∧xs.length < sizeLine∧Q .non (upd H l (.lst (xs ++ [y])))
theorem cr:MtM X "list.append" EL:=by
 intro pins s σ H x vs v us Q I rx rv h
 obtain ⟨l,xs,y,rfl,rfl,hH,hz,q⟩:=h
 cases rx
 obtain ⟨u,rfl,ru⟩:=rv.one
 obtain ⟨z,its,n,r,hl,e⟩:=I.EK hH
 refine call_meets F.slot_list_append ⟨_,e,rfl⟩ F.entry_list_append (F.args_list_append_2 _ _) (PySem.list_append l its.toArray n u (by rw [List.size_toArray]; omega)) ⟨e,?_⟩
 refine ⟨.non,_,I.Mi (its':=its ++ [u]) hH e (by simp) (r.append (.cons ru .nil)) ?_,rfl,q⟩
 rw [List.length_append,List.length_singleton]
 omega
def Ri:V→List V→Hp→VK→Prop:=fun x vs H Q=>∃ l xs y,x=.ref l∧vs=[]∧H l=some (.lst xs)∧xs[xs.length - 1]? = some y∧Q y (upd H l (.lst xs.dropLast))
theorem BQ:MtM X "list.pop" Ri:=by
 intro pins s σ H x vs v us Q I rx rv h
 obtain ⟨l,xs,y,rfl,rfl,hH,hy,q⟩:=h
 cases rx
 have hus:=rv.zero
 subst hus
 obtain ⟨z,its,n,r,hl,e⟩:=I.EK hH
 obtain ⟨u,hu,ru⟩:=r.get hy
 have hy':its.toArray[its.toArray.size - 1]? = some u:=by
  show its.toArray[its.length - 1]? = some u
  rw [← Array.getElem?_toList,← hl]
  exact hu
 refine call_meets F.slot_list_pop ⟨_,e,rfl⟩ F.entry_list_pop (F.args_list_pop_1 _) (MeetsSeq.list_pop_last l its.toArray n u hy' (by rw [List.size_toArray]; omega)) ⟨e,?_⟩
 refine ⟨y,_,I.Mi (its':=its.dropLast) hH e ?_ r.dropLast ?_,ru,q⟩
 ·show its.toArray.eraseIdxIfInBounds (its.toArray.size - 1)=its.dropLast.toArray
  rw [List.size_toArray,List.eraseIdxIfInBounds_toArray,v9]
 ·rw [List.length_dropLast]
  omega
def Rj:R2:=fun x y H Q=>∃ l b xs zs,x=.ref l∧y=.ref b∧H l=some (.lst xs)∧H b=some (.lst zs)∧xs.length + zs.length ≤ sizeLine∧∀ p,H p=none→Q (.ref p) (upd H p (.lst (xs ++ zs)))
theorem wa:jU X (binaryOp .Add) Rj:=by
 intro pins s σ H x y v u Q I rx ry h
 obtain ⟨l,b,xs,zs,rfl,rfl,hH,hB,hz,q⟩:=h
 cases rx
 cases ry
 obtain ⟨z,its,n,r,hl,e⟩:=I.EK hH
 obtain ⟨z2,its2,n2,r2,hl2,e2⟩:=I.EK hB
 refine PySem.P.add_list e e2 ?_ (by rw [List.size_toArray,List.size_toArray]; omega)
 have ea:its.toArray ++ its2.toArray=(its ++ its2).toArray:=by simp
 rw [ea]
 exact ⟨.ref _,_,I.Mj (t':=s.toks) (r.append r2) (by rw [List.length_append]; omega),rfl,q _ I.fresh⟩
end
section
variable {prog:Program} {w:World} {A:Around} {E:Value→Shared→Prop} {s:Shared}
set_option maxRecDepth 100000 in
end
section
variable {X:Cx}
end
section
variable {κ:Type} [DecidableEq κ]
def cw (kvs:List (κ × V)) (k:κ):Option V:=(kvs.find? fun kv=>decide (kv.1=k)).map (·.2)
def putK (kvs:List (κ × V)) (k:κ) (v:V):List (κ × V) :=
 if (kvs.any fun kv=>decide (kv.1=k))=true then kvs.map (fun kv=>if kv.1=k then (kv.1,v) else kv) else kvs ++ [(k,v)]
theorem dc {p:κ × V} {r:List (κ × V)} {k:κ} (e:p.1=k):cw (p :: r) k=some p.2:=by simp [cw,List.find?_cons,e]
theorem df {p:κ × V} {r:List (κ × V)} {k:κ} (e:¬ p.1=k):cw (p :: r) k=cw r k:=by simp [cw,List.find?_cons,e]
theorem dQ (k:κ):∀ kvs:List (κ × V),(kvs.any fun kv=>decide (kv.1=k))=(cw kvs k).isSome
 | []=>rfl
 | p :: r=>by
  rw [List.any_cons]
  by_cases e:p.1=k
  ·simp only [dc e,decide_eq_true e,Bool.true_or,Option.isSome_some]
  ·rw [df e,decide_eq_false e,Bool.false_or]; exact dQ k r
theorem uP (k j:κ) (y:V):∀ kvs:List (κ × V),cw (kvs.map fun kv=>if kv.1=k then (kv.1,y) else kv) j=(cw kvs j).map fun x=>if j=k then y else x
 | []=>rfl
 | p :: r=>by
  have ih:=uP k j y r
  rw [List.map_cons]
  by_cases h:p.1=k
  ·rw [if_pos h]
   by_cases e:p.1=j
   ·rw [dc (p:=(p.1,y)) e,dc e,Option.map_some,if_pos (e.symm.trans h)]
   ·rw [df (p:=(p.1,y)) e,df e,ih]
  ·rw [if_neg h]
   by_cases e:p.1=j
   ·rw [dc (p:=p) e,dc e,Option.map_some,if_neg (fun z=>h (e.trans z))]
   ·rw [df (p:=p) e,df e,ih]
theorem qO (k j:κ) (y:V):∀ kvs:List (κ × V),cw kvs k=none→cw (kvs ++ [(k,y)]) j=if j=k then some y else cw kvs j
 | [],_=>by
  by_cases e:k=j
  ·rw [if_pos e.symm]; exact dc (p:=(k,y)) e
  ·rw [if_neg (fun z=>e z.symm)]; exact df (p:=(k,y)) e
 | p :: r,hn=>by
  rw [List.cons_append]
  have hk:¬ p.1=k:=fun z=>by rw [dc z] at hn; cases hn
  rw [df hk] at hn
  have ih:=qO k j y r hn
  by_cases e:p.1=j
  ·rw [dc e,dc e,if_neg (fun z=>hk (e.trans z))]
  ·rw [df e,df e,ih]
theorem oq (kvs:List (κ × V)) (k j:κ) (y:V):cw (putK kvs k y) j=if j=k then some y else cw kvs j:=by
 unfold putK
 by_cases a:(kvs.any fun kv=>decide (kv.1=k))=true
 ·rw [if_pos a,uP]
  rw [dQ] at a
  by_cases e:j=k
  ·obtain ⟨x,hx⟩:=Option.isSome_iff_exists.mp a
   rw [if_pos e,e,hx,Option.map_some,if_pos rfl]
  ·rw [if_neg e]
   cases cw kvs j with
   | none=>rfl
   | some x=>rw [Option.map_some,if_neg e]
 ·rw [if_neg a]
  refine qO k j y kvs ?_
  rw [dQ] at a
  cases q:cw kvs k with
  | none=>rfl
  | some x=>rw [q] at a; exact (a rfl).elim
theorem dg (kvs:List (κ × V)) (k:κ) (v:V):(putK kvs k v).length ≤ kvs.length + 1:=by
 unfold putK
 split
 ·rw [List.length_map]; omega
 ·rw [List.length_append,List.length_cons,List.length_nil]; omega
theorem uQ {kvs:List (κ × V)} {k:κ} (v:V) (h:cw kvs k=none):putK kvs k v=kvs ++ [(k,v)]:=by
 unfold putK
 rw [dQ,h]
 exact if_neg (by decide)
theorem iq.iw {o:Option V} {u:Option Value} (r:iq o u):o.isSome=u.isSome:=by
 cases o with
 | none=>cases u with
  | none=>rfl
  | some _=>exact (show False from r).elim
 | some _=>cases u with
  | none=>exact (show False from r).elim
  | some _=>rfl
theorem iq.getD {o:Option V} {u:Option Value} {d:V} {d':Value} (r:iq o u) (rd:RelV d d'):RelV (o.getD d) (u.getD d'):=by
 cases o with
 | none=>cases u with
  | none=>exact rd
  | some _=>exact (show False from r).elim
 | some _=>cases u with
  | none=>exact (show False from r).elim
  | some _=>exact r
theorem KV.val {kvs:List (κ × V)} {vs:List (κ × Value)} (r:KV kvs vs) (k:κ):iq (cw kvs k) (valueAt vs k):=by
 unfold KV at r
 induction r with
 | nil=>exact True.intro
 | @cons p q ps qs h t ih =>
  obtain ⟨h1,h2⟩:=h
  by_cases e:p.1=k
  ·have e':q.1=k:=h1.symm.trans e
   have b:valueAt (q :: qs) k=some q.2:=by simp [valueAt,List.find?_cons,e']
   rw [dc e,b]; exact h2
  ·have e':¬ q.1=k:=fun z=>e (h1.trans z)
   have b:valueAt (q :: qs) k=valueAt qs k:=by simp [valueAt,List.find?_cons,e']
   rw [df e,b]; exact ih
theorem KV.any {kvs:List (κ × V)} {vs:List (κ × Value)} (r:KV kvs vs) (k:κ):(kvs.any fun kv=>decide (kv.1=k))=vs.any fun kv=>decide (kv.1=k):=by
 unfold KV at r
 induction r with
 | nil=>rfl
 | cons h t ih=>rw [List.any_cons,List.any_cons,ih,h.1]
theorem KV.repl {kvs:List (κ × V)} {vs:List (κ × Value)} (r:KV kvs vs) (k:κ) {y:V} {u:Value} (ry:RelV y u) :
  KV (kvs.map fun kv=>if kv.1=k then (kv.1,y) else kv) (vs.map fun kv=>if kv.1=k then (kv.1,u) else kv):=by
 unfold KV at r ⊢
 induction r with
 | nil=>exact .nil
 | @cons p q ps qs h t ih =>
  rw [List.map_cons,List.map_cons]
  refine .cons ?_ ih
  obtain ⟨h1,h2⟩:=h
  by_cases e:p.1=k
  ·rw [if_pos e,if_pos (h1.symm.trans e)]; exact ⟨h1,ry⟩
  ·rw [if_neg e,if_neg (fun z=>e (h1.trans z))]; exact ⟨h1,h2⟩
theorem KV.put {kvs:List (κ × V)} {vs:List (κ × Value)} (r:KV kvs vs) (k:κ) {y:V} {u:Value} (ry:RelV y u):KV (putK kvs k y) (stored vs k u):=by
 unfold putK stored
 rw [r.any k]
 by_cases e:(vs.any fun kv=>decide (kv.1=k))=true
 ·rw [if_pos e,if_pos e]; exact r.repl k ry
 ·rw [if_neg e,if_neg e]; exact Paired.snoc r ⟨rfl,ry⟩
theorem KV.length {kvs:List (κ × V)} {vs:List (κ × Value)} (r:KV kvs vs):kvs.length=vs.length:=Paired.length r
end
theorem ou {P:Program} {w:World} {k:Key} {u:Value} (r:RelV (kV k) u):(cj P w).is k u=true:=by
 cases k with
 | inl i=>obtain ⟨t,e⟩:=(show ∃ t,u=Value.int i t from r); subst e; exact uG P w i t
 | inr x=>obtain ⟨t,e⟩:=(show ∃ t,u=Value.str x t from r); subst e; exact uH P w x t
theorem qP {P:Program} {w:World}:∀ {ks:List Key} {us:List Value},Vals (ks.map kV) us→ItemsAre (cj P w) ks us
 | [],_,r=>by rw [List.map_nil] at r; cases r; exact .nil
 | k :: ks,_,r=>by
  rw [List.map_cons] at r
  cases r with
  | cons h t=>exact .cons (ou h) (qP t)
abbrev KT (H:Hp):List (List Key × V)→List (List Key × Addr × Value)→Prop:=Paired fun p q=>p.1=q.1∧H q.2.1=some (.tup (p.1.map kV))∧RelV p.2 q.2.2
theorem KT.val {H:Hp} {kvs:List (List Key × V)} {xs:List (List Key × Addr × Value)} (r:KT H kvs xs) (k:List Key):iq (cw kvs k) ((atKey xs k).map (·.2)):=by
 induction r with
 | nil=>exact True.intro
 | @cons p q ps qs h t ih =>
  obtain ⟨h1,_,h2⟩:=h
  by_cases e:p.1=k
  ·have e':q.1=k:=h1.symm.trans e
   have b:atKey (q :: qs) k=some q.2:=by simp [atKey,List.find?_cons,e']
   rw [dc e,b]; exact h2
  ·have e':¬ q.1=k:=fun z=>e (h1.trans z)
   have b:atKey (q :: qs) k=atKey qs k:=by simp [atKey,List.find?_cons,e']
   rw [df e,b]; exact ih
theorem KT.repl {H:Hp} {kvs:List (List Key × V)} {xs:List (List Key × Addr × Value)} (r:KT H kvs xs) (k:List Key) {y:V} {u:Value} (ry:RelV y u) :
  KT H (kvs.map fun kv=>if kv.1=k then (kv.1,y) else kv) (xs.map (putAt k u)):=by
 induction r with
 | nil=>exact .nil
 | @cons p q ps qs h t ih =>
  rw [List.map_cons,List.map_cons]
  refine .cons ?_ ih
  obtain ⟨h1,h2,h3⟩:=h
  unfold putAt
  by_cases e:p.1=k
  ·rw [if_pos e,if_pos (h1.symm.trans e)]; exact ⟨h1,h2,ry⟩
  ·rw [if_neg e,if_neg (fun z=>e (h1.trans z))]; exact ⟨h1,h2,h3⟩
theorem KT.put {H:Hp} {kvs:List (List Key × V)} {xs:List (List Key × Addr × Value)} (r:KT H kvs xs) (k:List Key) {b:Addr} {y:V} {u:Value} (hb:H b=some (.tup (k.map kV))) (ry:RelV y u) :
  KT H (putK kvs k y) (storedH xs k b u):=by
 have e:(kvs.any fun kv=>decide (kv.1=k))=(atKey xs k).isSome:=by
  rw [dQ,(r.val k).iw,Option.isSome_map]
 unfold putK storedH
 rw [e]
 by_cases q:(atKey xs k).isSome=true
 ·rw [if_pos q,if_pos q]; exact r.repl k ry
 ·rw [if_neg q,if_neg q]; exact Paired.snoc r ⟨rfl,hb,ry⟩
theorem KT.keeps {H H':Hp} {kvs:List (List Key × V)} {xs:List (List Key × Addr × Value)} (r:KT H kvs xs) (ht:∀ b ys,H b=some (.tup ys)→H' b=some (.tup ys)):KT H' kvs xs :=
 Paired.Jg r fun _ _ z=>⟨z.1,ht _ _ z.2.1,z.2.2⟩
section
variable {P:Program} {w:World} {H:Hp} {h:Heap} {a:Addr}
theorem HP {u:HO} (ok:jR P w H h) (e:Rd H a u):cH P w H h a u:=e.ok ok
theorem ow {kvs:List (Key × V)} (ok:jR P w H h) (e:Rd H a (.dK kvs)):kvs.length ≤ sizeLine∧(a == sysModules)=false∧∃ vs,KV kvs vs∧h.DictOf (cj P w) a vs :=
 show cH P w H h a (.dK kvs) from HP ok e
theorem qQ {kvs:List (Key × V)} (ok:jR P w H h) (e:H a=some (.dK kvs)):kvs.length ≤ sizeLine∧(a == sysModules)=false∧∃ vs,KV kvs vs∧h.DictOf (cj P w) a vs:=ow ok (.inl e)
theorem ox {ks:List Key} (ok:jR P w H h) (e:H a=some (.tup (ks.map kV))):(tupleKind (cj P w)).is h ks a:=by
 obtain ⟨_,its,r,o,h1,h2,n,h3⟩:=(show cH P w H h a (.tup (ks.map kV)) from ok a _ e)
 exact ⟨o,its.toArray,n,h1,h2,h3,by simpa using qP r⟩
theorem qR {kvs:List (List Key × V)} (ok:jR P w H h) (e:Rd H a (.dT kvs)):kvs.length ≤ sizeLine∧(a == sysModules)=false ∧
  ∃ xs,KT H kvs xs∧h.DictOfH (tupleKind (cj P w)) a xs:=by
 obtain ⟨z,y,xs,r,o,es,ep,h1,h2,h3,h4,h5⟩:=(show cH P w H h a (.dT kvs) from HP ok e)
 refine ⟨z,y,xs,r,o,es,ep,h1,h2,h3,h4,fun x hx=>?_,h5⟩
 have all:∀ {l:List (List Key × V)} {m:List (List Key × Addr × Value)},KT H l m→∀ x ∈ m,(tupleKind (cj P w)).is h x.1 x.2.1:=by
  intro l m q
  induction q with
  | nil=>intro x hx; exact nomatch hx
  | @cons p q ps qs hq t ih =>
   intro x hx
   rcases List.mem_cons.mp hx with e | hx
   ·subst e
    exact ox ok (by rw [← hq.1]; exact hq.2.1)
   ·exact ih x hx
 exact all r x hx
theorem Ml {kvs:List (List Key × V)} (ok:jR P w H h) (e:H a=some (.dT kvs)):kvs.length ≤ sizeLine∧(a == sysModules)=false ∧
  ∃ xs,KT H kvs xs∧h.DictOfH (tupleKind (cj P w)) a xs:=qR ok (.inl e)
end
def iL (H:Hp) (a:Addr) (y:V) (r:Option V):Prop :=
 (∃ kvs k,Rd H a (.dK kvs)∧y=kV k∧r=cw kvs k)∨∃ kvs k b,Rd H a (.dT kvs)∧y=.ref b∧H b=some (.tup (k.map kV))∧r=cw kvs k
def ic (H:Hp) (a:Addr) (y v:V) (H':Hp):Prop :=
 (∃ kvs k,H a=some (.dK kvs)∧y=kV k∧kvs.length < sizeLine∧H'=upd H a (.dK (putK kvs k v))) ∨
 ∃ kvs k b,H a=some (.dT kvs)∧y=.ref b∧H b=some (.tup (k.map kV))∧kvs.length < sizeLine∧H'=upd H a (.dT (putK kvs k v))
theorem iL.k {H:Hp} {a:Addr} {kvs:List (Key × V)} {k:Key} (e:H a=some (.dK kvs)):iL H a (kV k) (cw kvs k):=.inl ⟨kvs,k,.inl e,rfl,rfl⟩
theorem ic.k {H:Hp} {a:Addr} {kvs:List (Key × V)} {k:Key} {v:V} (e:H a=some (.dK kvs)) (hl:kvs.length < sizeLine):ic H a (kV k) v (upd H a (.dK (putK kvs k v))):=.inl ⟨kvs,k,e,rfl,hl,rfl⟩
section
variable {X:Cx} {pins:List (Addr × Obj)} {σ:St} {H:Hp} {s:Shared} {a:Addr} {y v:V} {u r:Value} {o:Option V} {A:Around} {E:Value→Shared→Prop}
theorem Inv.big (I:Inv X pins σ H s):sysModules < s.heap.objs.size:=by
 have h:mainGlobals < s.heap.objs.size:=(I.mod.glob.keeps I.bk).lt
 exact Nat.lt_trans (by decide) h
theorem zI {Q:Value→Shared→Prop} (hu:A.units + 1 < cLine) (I:Inv X pins σ H s) (g:iL H a y (some v)) (ry:RelV y u) (h:∀ w' s',Inv X pins σ H s'→RelV v w'→Q w' s') :
  wpAny (model X.prog X.w) A (getItem (.ref a) u) Q E s:=by
 rcases g with ⟨kvs,k,e,ey,l⟩ | ⟨kvs,k,b,e,ey,eb,l⟩
 ·subst ey
  obtain ⟨z,hd,vs,rel,dd⟩:=ow I.hok e
  obtain ⟨w',hw,qe⟩:=iq.some_of (v:=v) (o:=valueAt vs k) (by rw [l]; exact rel.val k)
  exact wpAny_getItem_of (ou ry) dd.mapOf hw (h w' _ (I.tok _) qe)
 ·subst ey
  cases (show u=Value.ref b from ry)
  obtain ⟨z,hd,xs,rel,dd⟩:=qR I.hok e
  obtain ⟨w',hw,qe⟩:=iq.some_of (v:=v) (o:=(atKey xs k).map (·.2)) (by rw [l]; exact rel.val k)
  obtain ⟨p,hp,hp2⟩:=Option.map_eq_some_iff.mp hw
  refine wpAny_getItem_heap (tupleKind_room_in1 hu) (ox I.hok eb) dd hp ?_
  rw [hp2]
  exact h w' _ (I.tok _) qe
theorem Rk {Q:Value→Shared→Prop} (hu:A.units + 1 < cLine) (I:Inv X pins σ H s) (g:iL H a y o) (ry:RelV y u) (h:∀ s',Inv X pins σ H s'→Q (.bool o.isSome) s') :
  wpAny (model X.prog X.w) A (compareOp .In u (.ref a)) Q E s:=by
 rcases g with ⟨kvs,k,e,ey,l⟩ | ⟨kvs,k,b,e,ey,eb,l⟩
 ·subst ey
  obtain ⟨z,hd,vs,rel,dd⟩:=ow I.hok e
  refine wpAny_in_of (ou ry) hd dd.mapOf ?_
  rw [← (rel.val k).iw,← l]
  exact h _ (I.tok _)
 ·subst ey
  cases (show u=Value.ref b from ry)
  obtain ⟨z,hd,xs,rel,dd⟩:=qR I.hok e
  refine wpAny_in_heap (tupleKind_room_in1 hu) (ox I.hok eb) hd dd ?_
  have q:=(rel.val k).iw
  rw [Option.isSome_map] at q
  rw [← q,← l]
  exact h _ (I.tok _)
theorem rV {h':Heap} {t':Nat} {ob:HO} (I:Inv X pins σ H s) (mu:LM (H a)) (hs:Heap.SameBut a s.heap h') (he:∃ q,h'.get? a=some q) (new:cH X.prog X.w (upd H a ob) h' a ob) :
  Inv X pins σ (upd H a ob) { s with heap:=h',toks:=t' } :=
 I.write (x:=a) (e:=a) mu (.inl rfl) (fun b q hb z=>(hs.2 b hb).trans z) he new
theorem rW {P:Program} {w:World} {H':Hp} {h':Heap} {kvs:List (Key × V)} {vs:List (Key × Value)} (z:kvs.length ≤ sizeLine) (hd:(a == sysModules)=false) (rel:KV kvs vs) (dd:h'.DictOf (cj P w) a vs) :
  cH P w H' h' a (.dK kvs):=⟨z,hd,vs,rel,dd⟩
theorem zJ {H':Hp} {Q:Unit→Shared→Prop} (hu:A.units + 1 < cLine) (I:Inv X pins σ H s) (g:ic H a y v H') (ry:RelV y u) (rv:RelV v r) (h:∀ s',Inv X pins σ H' s'→Q () s') :
  wpAny (model X.prog X.w) A (setItem (.ref a) u r) Q E s:=by
 rcases g with ⟨kvs,k,e,ey,l,eH⟩ | ⟨kvs,k,b,e,ey,eb,l,eH⟩
 ·subst ey eH
  obtain ⟨z,hd,vs,rel,dd⟩:=qQ I.hok e
  have hz:vs.length ≤ sizeLine:=by rw [← rel.length]; exact z
  have hl:(putK kvs k v).length ≤ sizeLine:=by have:=dg kvs k v; omega
  refine wpAny_setItem_pairs (hsz:=hz) (ou ry) dd fun h' ER hs=>h _ ?_
  have he:∃ q,h'.get? a=some q:=let ⟨q,_,_,hq,_⟩:=ER; ⟨q,hq⟩
  exact rV I (by rw [e]; exact True.intro) hs he (rW hl hd (rel.put k rv) ER)
 ·subst ey eH
  cases (show u=Value.ref b from ry)
  obtain ⟨z,hd,xs,rel,dd⟩:=Ml I.hok e
  have hz:xs.length ≤ sizeLine:=by rw [← Paired.length rel]; exact z
  have hl:(putK kvs k v).length ≤ sizeLine:=by have:=dg kvs k v; omega
  refine wpAny_setItem_heap (hsz:=hz) (tupleKind_room_in1 hu) (ox I.hok eb) dd fun h' ER hs=>h _ ?_
  obtain ⟨q,es,ep,hq,h2,h3,h4,_,h5⟩:=ER
  refine rV I (by rw [e]; exact True.intro) hs ⟨q,hq⟩ ⟨hl,hd,_,(rel.put k eb rv).keeps fun c ys ec=>?_,q,es,ep,hq,h2,h3,h4,h5⟩
  rw [aL (bF ec e (fun z=>nomatch z))]
  exact ec
end
section
variable {X:Cx} {pins:List (Addr × Obj)} {σ:St} {H:Hp} {s:Shared} {a:Addr} {kvs:List (Key × V)} {k:Key} {u:Value} {A:Around} {E:Value→Shared→Prop}
end
def JD (i:Expr):Prop:=∀ ov iv,subscripted i false ov iv=operate [ov,iv] (getItem ov iv)
theorem yt {prog:Program} {w:World} {A:Around} {E:Value→Shared→Prop} {s:Shared} {env:Env} {value slice:Expr} {pos:Pos} {T id:String} {Q:Value→Shared→Prop}
  (hl:typeLookup (.type T) "__getitem__" = pure (some (.builtin id))) (hs:JD slice)
  (h:wpAny (model prog w) A (eval value env) (fun o s₁=>wpAny (model prog w) A (eval slice env) (fun i s₂=>s₂.TypeIs o T∧wpAny (model prog w) A (getItem o i) Q E s₂) E s₁) E s) :
  wpAny (model prog w) A (eval (.Subscript value slice pos) env) Q E s:=by
 refine Subscript_ (wpAny_mono h (fun o s₁ h₁=>wpAny_mono h₁ (fun i s₂ h₂=>?_) fun _ _ x=>x) fun _ _ x=>x)
 obtain ⟨hT,h₂⟩:=h₂
 unfold subscriptTail
 refine wpAny_bind ?_
 rw [getitemInPython_of_ne hT.not_modules]
 refine wpAny_bind (wpAny_specialOf hT hl ?_)
 have fin:wpAny (model prog w) A (subscripted slice false o i) (fun r s₃=>wpAny (model prog w) A (letTemporaryGo value o r >>= fun _=>pure r) Q E s₃) E s₂:=by
  rw [hs o i]
  exact wpAny_operating (wpAny_mono h₂ (fun r s₃ h₃=>wpAny_bind (wpAny_letTemporaryGo (wpAny_pure h₃))) fun _ _ x=>x)
 first
  | exact wpAny_pure (wpAny_bind fin)
  | exact wpAny_bind (wpAny_pure (wpAny_bind fin))
  | exact wpAny_bind fin
theorem uR {X:Cx} {pins:List (Addr × Obj)} {σ:St} {H:Hp} {s:Shared} {a:Addr} {y:V} {o:Option V} (I:Inv X pins σ H s) (g:iL H a y o):s.TypeIs (.ref a) "dict" := by
 rcases g with ⟨kvs,k,e,_,_⟩ | ⟨kvs,k,b,e,_,_,_⟩
 ·obtain ⟨_,_,vs,_,dd⟩:=ow I.hok e
  exact dd.typeIs
 ·obtain ⟨_,_,xs,_,dd⟩:=qR I.hok e
  exact dd.typeIs
def Mp (td ty:TE):TE:=fun σ H Q=>td σ H fun x H1=>ty σ H1 fun y H2=>∃ a v,x=.ref a∧iL H2 a y (some v)∧Q v H2
def Rm (ty td:TE):TE:=fun σ H Q=>ty σ H fun y H1=>td σ H1 fun x H2=>∃ a o,x=.ref a∧iL H2 a y o∧Q (.bl o.isSome) H2
def HR (td ty tv:TE):TS:=fun D σ H=>tv σ H fun v H1=>td σ H1 fun x H2=>ty σ H2 fun y H3=>∃ a H4,x=.ref a∧ic H3 a y v H4∧D.nx σ H4
section
variable {X:Cx} {o i e value:Expr} {pos pos' tpos:Pos} {td ty tv:TE}
theorem bj (hu:X.A.units + 1 < cLine) (ho:PE X o td) (hi:PE X i ty) (hs:JD i):PE X (.Subscript o i pos) (Mp td ty):=by
 intro pins s σ H Q I h
 refine yt PySem.F.slot_dict_getitem.lookup hs (cG (ho pins s σ H _ I h) fun u s1 ⟨x,H1,I1,rx,q1⟩=>cG (hi pins s1 σ H1 _ I1 q1) fun iv s2 ⟨y,H2,I2,ry,a,v,ex,g,q2⟩=>?_)
 subst ex
 obtain rfl:u=Value.ref a:=rx
 exact ⟨uR I2 g,zI hu I2 g ry fun w' s3 I3 qe=>⟨v,H2,I3,qe,q2⟩⟩
theorem JE (hu:X.A.units + 1 < cLine) (hi:PE X i ty) (ho:PE X o td):PC X .In i o (Rm ty td):=by
 intro pins s σ H Q I h
 refine cG (hi pins s σ H _ I h) fun iv s1 ⟨y,H1,I1,ry,q1⟩=>cG (ho pins s1 σ H1 _ I1 q1) fun u s2 ⟨x,H2,I2,rx,a,ov,ex,g,q2⟩=>?_
 subst ex
 obtain rfl:u=Value.ref a:=rx
 exact Rk hu I2 g ry fun s3 I3=>⟨.bl ov.isSome,H2,I3,rfl,q2⟩
theorem dh (hu:X.A.units + 1 < cLine) (ho:PE X o td) (hi:PE X i ty) (hv:PE X value tv) (hs:swapsWith value (some (.Subscript o i pos')) pos.line X.env=pure false) :
  PS X (.Assign [.Subscript o i pos'] value pos) (HR td ty tv):=by
 intro pins s σ H D I h
 refine wpAny_Assign_Subscript (cG (hv pins s σ H _ I h) fun r s1 ⟨v,H1,I1,rv,q1⟩=>cG (ho pins s1 σ H1 _ I1 q1) fun u s2 ⟨x,H2,I2,rx,q2⟩=>cG (hi pins s2 σ H2 _ I2 q2) fun iv s3 ⟨y,H3,I3,ry,a,H4,ex,g,q3⟩=>?_) hs
 subst ex
 obtain rfl:u=Value.ref a:=rx
 exact zJ hu I3 g ry rv fun s4 I4=>⟨σ,H4,I4,q3⟩
end
theorem uS {P:Program} {w:World} {H:Hp} (h:Heap) (hb:sysModules < h.objs.size):cH P w H (h.push { cls:=.type "dict",data:=.dict #[] }) h.objs.size (.dK []) :=
 ⟨Nat.zero_le _,beq_eq_false_iff_ne.mpr (Ne.symm (Nat.ne_of_lt hb)),[],.nil,Heap.DictOf.new h⟩
def BR:TE:=fun _ H Q=>∀ p,H p=none→Q (.ref p) (upd H p (.dK []))
section
variable {X:Cx} {pos:Pos}
theorem i9:PE X (.Dict [] [] pos) BR:=fun pins s σ H Q I h =>
 wpAny_Dict_empty ⟨.ref s.heap.objs.size,_,I.laid (a:=s.heap.objs.size) (o:=.dK []) (t':=s.toks) (fun _ _ q=>Heap.get?_push_of_some _ q) (Nat.le_refl _) (uS s.heap I.big),rfl,h _ (I.hok.fresh (Nat.le_refl _))⟩
end
def wc:List (TE × TE)→St→Hp→(List (V × V)→Hp→Prop)→Prop
 | [],_,H,Q=>Q [] H
 | (tk,tv) :: r,σ,H,Q=>tk σ H fun x H1=>tv σ H1 fun y H2=>wc r σ H2 fun ps H3=>Q ((x,y) :: ps) H3
abbrev VV:List (V × V)→List (Value × Value)→Prop:=Paired fun p q=>RelV p.1 q.1∧RelV p.2 q.2
def Mq (X:Cx) (pos:Pos) (keys:List (Option Expr)) (values:List Expr) (uD:List (TE × TE)):Prop :=
 ∀ (pins:List (Addr × Obj)) (s:Shared) (σ:St) (H:Hp) (Q:List (V × V)→Hp→Prop),Inv X pins σ H s→wc uD σ H Q →
  wpAny (model X.prog X.w) X.A (evalPairs (pairTrees keys values X.env pos)) (fun vs s'=>∃ ps H',Inv X pins σ H' s'∧VV ps vs∧Q ps H') X.xe s
theorem nI {X:Cx} {pos:Pos}:Mq X pos [] [] []:=fun pins s σ H Q I h=>pairTrees_nil_walk ⟨[],H,I,.nil,h⟩
theorem di {X:Cx} {pos:Pos} {k v:Expr} {ks:List (Option Expr)} {vs:List Expr} {tk tv:TE} {uD:List (TE × TE)} (hk:PE X k tk) (hv:PE X v tv) (hr:Mq X pos ks vs uD) :
  Mq X pos (some k :: ks) (v :: vs) ((tk,tv) :: uD):=fun pins s σ H Q I h =>
 pairTrees_cons_walk (cG (hk pins s σ H _ I h) fun u s1 ⟨x,H1,I1,rx,q1⟩=>cG (hv pins s1 σ H1 _ I1 q1) fun w2 s2 ⟨y,H2,I2,ry,q2⟩ =>
  cG (hr pins s2 σ H2 _ I2 q2) fun ws s3 ⟨ps,H3,I3,rel,q3⟩=>⟨(x,y) :: ps,H3,I3,.cons ⟨rx,ry⟩ rel,q3⟩)
def eJ (kvs more:List (Key × V)):List (Key × V):=more.foldl (fun acc kv=>putK acc kv.1 kv.2) kvs
theorem KV.merge:∀ {more:List (Key × V)} {rs:List (Key × Value)} {kvs:List (Key × V)} {vs:List (Key × Value)},KV more rs→KV kvs vs→KV (eJ kvs more) (merged vs rs):=by
 intro more rs kvs vs r
 unfold KV at r
 induction r generalizing kvs vs with
 | nil=>intro q; exact q
 | @cons p q ps qs h t ih =>
  intro r0
  have e:KV (putK kvs p.1 p.2) (stored vs q.1 q.2):=by
   have:=r0.put p.1 h.2
   rw [← h.1]; exact this
  exact ih e
theorem fQ:∀ (more kvs:List (Key × V)),(eJ kvs more).length ≤ kvs.length + more.length
 | [],kvs=>by show kvs.length ≤ kvs.length + 0; omega
 | p :: r,kvs=>by
  have h1:=fQ r (putK kvs p.1 p.2)
  have h2:=dg kvs p.1 p.2
  show (eJ (putK kvs p.1 p.2) r).length ≤ _
  rw [List.length_cons]; omega
theorem oy {P:Program} {w:World}:∀ {kvs:List (Key × V)} {ws:List (Value × Value)},VV (kvs.map fun kv=>(kV kv.1,kv.2)) ws→∃ rs,Carries (cj P w) ws rs∧KV kvs rs
 | [],_,r=>by rw [List.map_nil] at r; cases r; exact ⟨[],True.intro,.nil⟩
 | p :: kvs,_,r=>by
  rw [List.map_cons] at r
  cases r with
  | @cons a b as bs h t =>
   obtain ⟨rs,c,q⟩:=oy (P:=P) (w:=w) t
   obtain ⟨b1,b2⟩:=b
   exact ⟨(p.1,b2) :: rs,⟨ou h.1,rfl,c⟩,.cons ⟨rfl,h.2⟩ q⟩
def yu (uD:List (TE × TE)):TE:=fun σ H Q=>∀ p,H p=none→wc uD σ (upd H p (.dK [])) fun ps H2=>H2 p=some (.dK [])∧∃ kvs:List (Key × V),ps=kvs.map (fun kv=>(kV kv.1,kv.2))∧kvs.length ≤ 15∧Q (.ref p) (upd H2 p (.dK (eJ [] kvs)))
theorem nJ {X:Cx} {pos:Pos} {keys:List (Option Expr)} {values:List Expr} {uD:List (TE × TE)} (h:Mq X pos keys values uD) (hall:keys.all (·.isSome)=true) (hl:keys.length=values.length) (h0:keys ≠ [])
  (h15:keys.length ≤ 15):PE X (.Dict keys values pos) (yu uD):=by
 intro pins s σ H Q I q
 have hn:=I.hok.fresh (Nat.le_refl s.heap.objs.size)
 have I1:=I.laid (a:=s.heap.objs.size) (o:=.dK []) (h':=s.heap.push { cls:=.type "dict",data:=.dict #[] }) (t':=s.toks) (fun _ _ q=>Heap.get?_push_of_some _ q) (Nat.le_refl _) (uS s.heap I.big)
 refine wpAny_Dict_walk (knd:=cj X.prog X.w) hall hl h0 h15 (cG (h pins _ σ _ _ I1 (q _ hn)) fun ws s2 ⟨ps,H2,I2,rel,e,kvs,ep,lk,q2⟩=>?_)
 subst ep
 obtain ⟨rs,c,rk⟩:=oy (P:=X.prog) (w:=X.w) rel
 obtain ⟨z,hd,vs0,r0,dd⟩:=qQ I2.hok e
 cases r0
 refine ⟨rs,c,dd,fun h' ER hs=>⟨.ref s.heap.objs.size,_,?_,rfl,q2⟩⟩
 have hz:(eJ [] kvs).length ≤ sizeLine:=by
  have h1:=fQ kvs []
  rw [List.length_nil] at h1
  rw [sizeLine_eq]; omega
 have he:∃ q,h'.get? s.heap.objs.size=some q:=let ⟨q,_,_,hq,_⟩:=ER; ⟨q,hq⟩
 exact rV I2 (by rw [e]; exact True.intro) hs he (rW hz hd (rk.merge .nil) ER)
structure M2 (X:Cx) (o:Expr) (m:Str) (apos:Pos) (e f:Expr) (cpos:Pos):Prop where
 base:attributeBase o m X.env (eval o X.env)=eval o X.env
 few:((backTo cpos (starEach [e,f] X.env)).all (fun x=>!x.1) && (backToKw cpos (keywordEach [] X.env)).all (fun x=>x.1.isSome)
  && decide (([e,f]:List Expr).length + ([]:List Keyword).length + (if ([]:List Keyword).isEmpty then 0 else 1) < 30))=true
 line:(apos.endLine == cpos.line)=true
 trees:backTo cpos (starEach [e,f] X.env)=[(false,eval e X.env),(false,eval f X.env)]
def IsD (H:Hp) (a:Addr):Prop:=(∃ kvs,Rd H a (.dK kvs))∨∃ kvs,Rd H a (.dT kvs)
theorem JF {X:Cx} {pins:List (Addr × Obj)} {σ:St} {H:Hp} {s:Shared} {a:Addr} (I:Inv X pins σ H s) (d:IsD H a) :
  s.TypeIs (.ref a) "dict" ∧ (∀ b,Value.ref a=.ref b→∃ ob,s.heap.get? b=some ob∧ob.dict=none)∧(a == sysModules)=false:=by
 rcases d with ⟨kvs,e⟩ | ⟨kvs,e⟩
 ·obtain ⟨_,hd,vs,_,dd⟩:=ow I.hok e
  refine ⟨dd.typeIs,fun b q=>?_,hd⟩
  cases q
  obtain ⟨ob,_,_,h1,h2,_⟩:=dd
  exact ⟨ob,h1,h2.2.1⟩
 ·obtain ⟨_,hd,xs,_,dd⟩:=qR I.hok e
  refine ⟨dd.typeIs,fun b q=>?_,hd⟩
  cases q
  obtain ⟨ob,_,_,h1,h2,_⟩:=dd
  exact ⟨ob,h1,h2.2.1⟩
section
variable {X:Cx} {pins:List (Addr × Obj)} {σ:St} {H:Hp} {s:Shared} {a:Addr} {y d:V} {u r:Value} {o:Option V} {A:Around} {E:Value→Shared→Prop}
theorem JG {Q:Value→Shared→Prop} (hu:A.units + 1 < cLine) (I:Inv X pins σ H s) (g:iL H a y o) (ry:RelV y u) (rd:RelV d r) (h:∀ w' s',Inv X pins σ H s'→RelV (o.getD d) w'→Q w' s') :
  wpAny (model X.prog X.w) A (call (.builtin "dict.get") [.ref a,u,r]) Q E s:=by
 rcases g with ⟨kvs,k,e,ey,l⟩ | ⟨kvs,k,b,e,ey,eb,l⟩
 ·subst ey
  obtain ⟨z,hd,vs,rel,dd⟩:=ow I.hok e
  refine call_meetsIn PySem.F.slot_dict_get dd.typeIs PySem.F.entry_dict_get (PySem.F.args_dict_get_3 _ _ _) (meets_dict_get_default (cj X.prog X.w) a (ou ry) hd r) ⟨_,dd.mapOf,h _ _ (I.tok _) ?_⟩
  rw [l]
  exact (rel.val k).getD rd
 ·subst ey
  cases (show u=Value.ref b from ry)
  obtain ⟨z,hd,xs,rel,dd⟩:=qR I.hok e
  refine call_meetsIn PySem.F.slot_dict_get dd.typeIs PySem.F.entry_dict_get (PySem.F.args_dict_get_3 _ _ _) (meetsH_dict_get_default (tupleKind (cj X.prog X.w)) a b hd r) ⟨tupleKind_room_in1 hu,k,xs,ox I.hok eb,dd,h _ _ (I.tok _) ?_⟩
  rw [l]
  exact (rel.val k).getD rd
end
def JH (td ty tx:TE):TE:=fun σ H Q=>td σ H fun x H1=>∃ a,x=.ref a∧IsD H1 a∧ty σ H1 fun y H2=>tx σ H2 fun z H3=>∃ o,iL H3 a y o∧Q (o.getD z) H3
section
variable {X:Cx} {o e f:Expr} {apos cpos:Pos} {td ty tx:TE}
theorem ja (hu:X.A.units + 1 < cLine) (ho:PE X o td) (he:PE X e ty) (hf:PE X f tx) (m:M2 X o "get" apos e f cpos):PE X (.Call (.Attribute o "get" apos) [e,f] [] cpos) (JH td ty tx):=by
 intro pins s σ H Q I h
 refine wpAny_Call_method m.base m.few m.line PySem.F.plainAttrs_dict PySem.F.slot_dict_get PySem.F.type_dict_get (cG (ho pins s σ H _ I h) fun u s1 ⟨x,H1,I1,rx,a,ex,d,q1⟩=>?_)
 subst ex
 obtain rfl:u=Value.ref a:=rx
 obtain ⟨t1,t2,_⟩:=JF I1 d
 refine ⟨t1,t2,?_⟩
 rw [m.trees]
 refine Calls.callWith_builtin rfl (Calls.evalArgs_plain (Calls.spliced_cons (cG (he pins s1 σ H1 _ I1 q1) fun iv s2 ⟨y,H2,I2,ry,q2⟩ =>
  Calls.spliced_cons (cG (hf pins s2 σ H2 _ I2 q2) fun fv s3 ⟨z,H3,I3,rz,ov,g,q3⟩=>Calls.spliced_nil ?_))))
 exact JG hu I3 g ry rz fun w' s4 I4 qe=>⟨_,H3,I4,qe,q3⟩
end
section
variable {X:Cx} {pins:List (Addr × Obj)} {σ:St} {H:Hp} {s:Shared} {a:Addr} {kvs:List (Key × V)} {A:Around} {E:Value→Shared→Prop}
theorem BU {Q:Value→Shared→Prop} (I:Inv X pins σ H s) (e:Rd H a (.dK kvs)) (h:∀ p s',H p=none→Inv X pins σ (upd H p (.dK kvs)) s'→Q (.ref p) s'):wpAny (model X.prog X.w) A (call (.type "dict") [.ref a]) Q E s:=by
 obtain ⟨z,hd,vs,rel,dd⟩:=ow I.hok e
 refine kt_call_dict hd dd (by rw [← rel.length]; exact z) fun h' ER hs=>?_
 refine h _ _ (I.hok.fresh (Nat.le_refl _)) (I.laid (a:=s.heap.objs.size) (o:=.dK kvs) (t':=s.toks) (fun b q hq=>?_) (Nat.le_refl _) (rW z (beq_eq_false_iff_ne.mpr (Ne.symm (Nat.ne_of_lt I.big))) rel ER))
 exact (hs.2 b (Nat.ne_of_lt (Heap.lt_size hq))).trans (Heap.get?_push_of_some _ hq)
end
section
variable {X:Cx} {pins:List (Addr × Obj)} {σ:St} {H:Hp} {s:Shared} {a:Addr} {y:V} {u:Value} {A:Around} {E:Value→Shared→Prop}
end
end L2
namespace Att
open PySem PySem.W PySem.Calls PyProof.Rows
theorem mI {P:Params} {h:Heap}:∀ (ns:List Int) (vs:List Value),WellAll P h vs (ns.map WData.int)→IntsAre vs ns:=by
 intro ns
 induction ns with
 | nil =>
  intro vs w
  rw [List.map_nil] at w
  cases w
  exact .nil
 | cons n ns ih =>
  intro vs w
  rw [List.map_cons] at w
  cases w with
  | cons a b =>
   cases a
   exact .cons _ _ (ih _ b)
theorem zK {l:OpenLaw} {n:Nat} (hn:l.most=some n) {P:Params} {h:Heap} {args:List WData} {vals:List Value}
  (hpre:l.row.toRowW.claim.pre args=true) (hwl:WellAll P h vals args) :
  ∃ a vs ns,vals=[Value.ref a]∧args=[WData.list (ns.map WData.int)]∧h.get? a=some { cls:=.type "list",data:=.seq vs.toArray }∧IntsAre vs ns∧ns.length ≤ n:=by
 have hsh:WShape.hasAll [] args [.list .int]=true:=(pre_splitW hpre).1
 have hc:l.pre.holds [] { args:=args }=true:=(pre_splitW hpre).2
 obtain ⟨d,r,rfl,h1,h2⟩:=hasAllW_cons hsh
 obtain rfl:=hasAllW_nil h2
 obtain ⟨xs,rfl,h3⟩:=hasW_list h1
 obtain ⟨ns,rfl⟩:=items_int h3
 have hlen:ns.length ≤ n:=by
  unfold OpenLaw.pre at hc
  have h4:(WTm.not (.lt (.lit (.int (n:Int))) (.len (.arg 0)))).holds [] { args:=[.list (ns.map .int)] }=true:=by
   have h4:=(holds_andW hc).1
   rw [hn] at h4
   exact h4
  have h5:=condW_of h4 (w_not (w_lt w_lit (w_len_list (w_arg rfl))))
  rw [List.length_map] at h5
  refine Nat.le_of_not_lt fun q=>?_
  have q':(n:Int) < ((ns.length:Nat):Int):=by omega
  first
   | (rw [decide_eq_true q'] at h5; exact absurd h5 (by decide))
   | (simp at h5; omega)
 cases hwl with
 | cons w1 w2 =>
  cases w2
  cases w1 with
  | list ho hall=>exact ⟨_,_,ns,rfl,rfl,ho,mI ns _ hall,hlen⟩
theorem zL (l:OpenLaw) (args:List WData):l.row.toRowW.claim.post args (.bool true) args=true :=
 postW_of (r:=l.row.toRowW) (X:=(true == true))
  (show WShape.has [] (.bool true) .bool=true by first | rfl | decide | simp [WShape.has,WShape.arms,WShape.armsAll])
  (show (WTm.eq .res (.lit (.bool true))).value [] { args:=args,res:=some (.bool true),after:=args }=some (.bool (true == true)) from w_eq_bool (w_res rfl) w_lit) rfl
theorem uT {l:OpenLaw} {n:Nat} {q:Program} {loose:List Str} {XP:(Str→Option Value)→Heap→Prop} {YP:World→Heap→Prop} {d:DefRec}
  (hn:l.most=some n) (hdf:d.params.defaults=[])
  (call:∀ (w:World) (s₀ s₁:Shared) (mg mb:Str→Option Value) (fa:Addr) (o:Obj) (pm cd doc:Value) (a:Addr) (vs:List Value) (ns:List Int),
   Ground q loose [] XP w s₀ mg mb s₁.heap→YP w s₁.heap →
   s₁.heap.get? fa=some o→o.data=.func (docDef d.name d.params d.body d.scope pm cd doc)→s₁.heap.CodeRec cd d.name→mg d.name=some (.ref fa) →
   s₁.heap.get? a=some { cls:=.type "list",data:=.seq vs.toArray }→IntsAre vs ns→ns.length ≤ n→s₁.gens=#[] →
   codeAny (model l.prog w) callerA (.call (.ref fa) ⟨[.ref a],[]⟩) (fun r s'=>r=.ok (.ret (.bool true))∧OldK s₁.heap s'.heap∧s'.os=s₁.os∧AllBare s'.gens) s₁) :
  WalkO q loose XP YP l.row.toRowW d [] (fun f vs=>PySem.call f vs):=by
 intro w s₀ s₁ mg mb G Y fa o pm cd doc dV kV ho hd hcd hD hmg hg args vals as hpre hlay hrd hwl hlo
 obtain rfl:dV=.none:=Dflts.none hD hdf
 obtain rfl:kV=.none:=Dflts.noKw hD
 obtain ⟨a,vs,ns,rfl,rfl,hobj,hints,hlen⟩:=zK hn hpre hwl
 refine enter_call (codeAny_mono (call w s₀ s₁ mg mb fa o pm cd doc a vs ns G Y ho (fd_plain hd) hcd hmg hobj hints hlen hg) fun r s' hq=>?_)
 obtain ⟨rfl,h2,h3,h4⟩:=hq
 exact ⟨.inl ⟨.bool true,.bool true,[],rfl,fun _=>rfl,.bool true,zL l _,fun _=>⟨List.Pairwise.nil,fun _ hm=>(nomatch hm)⟩⟩,h2,h3,h4⟩
section
variable {prog:Program} {w:World} {A:Around} {E:Value→Shared→Prop} {s:Shared} {K:Frag}
end
end Att
namespace L2
open PySem PySem.Spec PyProof.Rows
theorem lH:∀ {vs:List Value} {ns:List Int},IntsAre vs ns→Vals (ns.map V.int) vs
 | _,_,.nil=>.nil
 | _,_,.cons n t h=>.cons ⟨t,rfl⟩ (lH h)
def Only (H:Hp):Prop:=∀ b,H b=none∨∃ o xs,H b=some (.yh o (.lst xs))
theorem BV {P:Program} {w:World} {K:PySem.W.Frag} {mg mb:Str→Option Value} {CX:Bi} {k:Nat} {fa a:Addr} {fd:FuncData} {x:Str} {sp:Sp} {s₁:Shared} {vs:List Value} {ns:List Int}
  (KX:K.In s₁.heap) (hns:s₁.heap.Ns mainGlobals mg) (hb:s₁.heap.Ns builtinsNs mb) (hbb:∀ x:Str,x ≠ "__name__" → mb x=bootBuiltins x) (hlim:s₁.heap.NoLimit) (hg:s₁.gens=#[])
  (ha:s₁.heap.get? a=some { cls:=.type "list",data:=.seq vs.toArray }) (hi:IntsAre vs ns) (hl:ns.length ≤ sizeLine) (hr:eU k callerA)
  (F:∀ base:Heap,K.In base→base.Ns mainGlobals mg→aR P w K mg base CX k fa fd [x] sp) (hbind:∀ (s:Shared) (u:Value),BindsTo s fd ⟨[u],[]⟩ [(x,u)])
  (hsp:∀ H:Hp,Only H→bh K H a (ns.map V.int)→sp [.ref a] H (fun v _=>v=.bl true) fun _ _ _=>False)
  (Rn:∀ H e s',CX [] H s₁ (fun _ _ _=>False) e s'→False) :
  codeAny (model P w) callerA (.call (.ref fa) ⟨[.ref a],[]⟩) (fun r s'=>r=.ok (.ret (.bool true))∧OldK s₁.heap s'.heap∧s'.os=s₁.os∧AllBare s'.gens) s₁:=by
 have rv:=lH hi
 have lenV:=hi.length
 have core:∀ H:Hp,Only H→bh K H a (ns.map V.int)→jR P w H s₁.heap→(∀ b,H b ≠ none→b=a)→(H a ≠ none→K.lookup a=none) →
   codeAny (model P w) callerA (.call (.ref fa) ⟨[.ref a],[]⟩) (fun r s'=>r=.ok (.ret (.bool true))∧OldK s₁.heap s'.heap∧s'.os=s₁.os∧AllBare s'.gens) s₁:=by
  intro H hO hS hok hA hK
  have yv:∀ {b:Addr} {o:Obj},s₁.heap.get? b=some o→H b=none→(rL s₁.heap H).get? b=some o:=fun e n=>Bp e n
  have Md:∀ {b:Addr} {o:Obj} {es:Array DictEntry} {ep:Nat},s₁.heap.get? b=some o→o.data=.dict es ep→H b=none:=fun {b o es ep} e d=>by
   cases q:H b with
   | none=>rfl
   | some u =>
    have e':b=a:=hA b (by rw [q]; simp)
    subst e'
    rw [ha] at e; cases e
    have d':Data.seq vs.toArray _=Data.dict es ep:=d
    cases d'
  have Qr:∀ {b:Addr} {m:Str→Option Value},s₁.heap.Ns b m→(rL s₁.heap H).Ns b m:=fun {b m} ⟨o,es,ep,e,d,r⟩=>⟨o,es,ep,yv e (Md e d),d,r⟩
  have hKb:K.In (rL s₁.heap H):=fun b o e=>yv (KX b o e) (by
   cases q:H b with
   | none=>rfl
   | some u =>
    have e':b=a:=hA b (by rw [q]; simp)
    subst e'
    rw [hK (by rw [q]; simp)] at e; cases e)
  have hM:Mod K mg (rL s₁.heap H):=⟨hKb,Qr hns,⟨mb,Qr hb,hbb⟩,let ⟨mc,h1,h2⟩:=hlim; ⟨mc,Qr h1,h2⟩⟩
  have e0:vV P w K mg (rL s₁.heap H) callerA [] s₁ H:=⟨rfl,hM,fun b o e=>Ex e,Nat.le_of_eq (zv _ _),trivial,fun b hb=>absurd (show b ∈ ([]:List Addr) from hb) (by simp),hok,.of_eq hg⟩
  refine codeAny_mono ((F _ hKb (Qr hns)).run callerA [] s₁ H ⟨[.ref a],[]⟩ [.ref a] [.ref a] _ _ hr e0 (hbind s₁ (.ref a)) (.cons rfl .nil) (hsp H hO hS)) fun r s' h=>?_
  cases r with
  | error e=>exact (Rn H e s' h).elim
  | ok fl =>
   cases fl with
   | next=>exact False.elim h
   | brk=>exact False.elim h
   | cont=>exact False.elim h
   | ret u =>
    obtain ⟨v,H',os,bare,un,hok',r',q⟩:=h
    have q':v=.bl true:=q
    subst q'
    obtain rfl:u=Value.bool true:=r'
    refine ⟨rfl,OldK.of_keep fun b o e=>?_,os,bare⟩
    cases q:H b with
    | none=>exact un.keep b o e q (by intro z; exact absurd (show b ∈ ([]:List Addr) from z) (by simp)) (by simp)
    | some u =>
     rcases hO b with z | ⟨ob,xs,z⟩
     ·rw [q] at z; cases z
     ·have z2:=un.rK b ob _ z
      obtain ⟨e1,_⟩:=hok b _ z
      obtain ⟨e2,_⟩:=hok' b _ z2
      rw [e] at e1; cases e1
      exact e2
 cases hk:K.lookup a with
 | some o =>
  have e:=KX a o hk
  rw [ha] at e
  cases e
  refine core (fun _=>none) (fun _=>.inl rfl) (.inr ⟨_,vs.toArray,_,hk,rfl,rfl,rfl,by rw [List.size_toArray,lenV]; exact hl,by simpa using rv⟩) (fun b u z=>by have z':(none:Option HO)=some u:=z; cases z') (fun b z=>absurd rfl z) fun z=>absurd rfl z
 | none =>
  refine core (fun b=>if b=a then some (.yh { cls:=.type "list",data:=.seq vs.toArray } (.lst (ns.map V.int))) else none) (fun b=>?_) (.inl (.inr ⟨{ cls:=.type "list",data:=.seq vs.toArray },if_pos rfl⟩)) (fun b u z=>?_) (fun b z=>?_) fun _=>hk
  ·by_cases hb:b=a
   ·exact .inr ⟨_,_,if_pos hb⟩
   ·exact .inl (if_neg hb)
  ·by_cases hb:b=a
   ·have z':=(if_pos hb).symm.trans z
    cases z'
    subst hb
    exact ⟨ha,by rw [List.length_map]; exact hl,vs,_,rv,ha⟩
   ·have z':=(if_neg hb).symm.trans z
    cases z'
  ·by_cases hb:b=a
   ·exact hb
   ·exact absurd (if_neg hb) z
theorem yw {l:PySem.W.OpenLaw} {n k:Nat} {q:Program} {loose:List Str} {XP:(Str→Option Value)→Heap→Prop} {YP:World→Heap→Prop} {d:DefRec} {K:Params→PySem.W.Frag} {CX:World→Bi} {sp:World→Sp} {x:Str}
  (hn:l.most=some n) (hn2:n ≤ sizeLine) (hdf:d.params.defaults=[]) (hr:eU k callerA)
  (hY:∀ (w:World) (h:Heap),YP w h→(K w.params).In h)
  (F:∀ (w:World) (mg:Str→Option Value) (fa:Addr) (h:Heap),(K w.params).In h→h.Ns mainGlobals mg→mg d.name=some (.ref fa) →
   ∃ fd:FuncData,(∀ (s:Shared) (u:Value),BindsTo s fd ⟨[u],[]⟩ [(x,u)]) ∧
    ∀ base:Heap,(K w.params).In base→base.Ns mainGlobals mg→aR l.prog w (K w.params) mg base (CX w) k fa fd [x] (sp w))
  (hsp:∀ (w:World) (H:Hp) (a:Addr) (ns:List Int),ns.length ≤ n→Only H→bh (K w.params) H a (ns.map V.int)→sp w [.ref a] H (fun v _=>v=.bl true) fun _ _ _=>False)
  (Rn:∀ (w:World) (H:Hp) (s:Shared) (e:Value) (s':Shared),CX w [] H s (fun _ _ _=>False) e s'→False) :
  PySem.W.WalkO q loose XP YP l.row.toRowW d [] (fun f vs=>PySem.call f vs):=by
 refine Att.uT hn hdf fun w s₀ s₁ mg mb fa o pm cd doc a vs ns G Y ho hd hcd hmg hobj hints hlen hg=>?_
 have KX:=hY w _ Y
 obtain ⟨fd,hb,hF⟩:=F w mg fa _ KX G.T.g hmg
 exact BV KX G.T.g G.T.b G.T.builtins G.T.nolimit hg hobj hints (Nat.le_trans hlen hn2) hr hF hb (fun H hO hS=>hsp w H a ns hlen hO hS) fun H e s'=>Rn w H s₁ e s'
end L2
/- THE LAST THEOREM (shape; LID,My.* are yours):
   My.Adr: a structure of the addresses that your layer names (classes,functions); My.Txt K t: a structure (Prop) of the equations over K;
   My.JI:{K} {implicit addresses ..} (e1:nsIn K mainGlobals "law" = some (some (.ref f))) (e2:K.lookup f=some ⟨oc,od,.func (fnOf "law" "law" params body scope dV kV doc pm an cdv ct),sl⟩) (e3:codeIn K cdv "law" = true) ..:∃ t,My.Txt K t
set_option maxRecDepth 100000 in
set_option maxHeartbeats 0 in
theorem PySem.Challenge.cw_LID_holds : PySem.Challenge.rw_LID.Holds := by
 w_on; o_law; k_head; (case hw=>w_witness2)
 k_fill
 refine L2.yw (l:=PySem.Challenge.rw_LID) (n:=63) (k:=40) (x := "script") (CX:=fun w=>..) (sp:=fun _=>My.sp_law) rfl (by decide) rfl ⟨rfl,by decide,by decide⟩ (fun w h Y=>PySem.W.kIn_of Y) ?F ?S ?C
 case F =>
  intro w mg fa h KX G hmg
  have T:∃ t,My.Txt (L2.KOf KX) t:=by
   dsimp only [L2.KOf]
   refine' My.JI ?e1 ?e2 ?e3 ..
   (case e1=>PySem.W.k_is)
   (case e2=>PySem.W.k_is)
   ..
  obtain ⟨t,T⟩:=T
  have e0:=hmg.symm.trans (PySem.W.mg_of KX G T.law)
  cases e0
  exact ⟨_,fun s u=>.of_eq rfl,fun base kb nb=>My.law_fn T kb nb⟩
 case S=>exact fun w H a ns hl hO hS=>..
 case C=>exact ..
(the tactic k_is has no namespace: write k_is) -/
namespace L2
open PySem PySem.Spec PyProof.Rows
def inClass (s:Stmt) (j:Nat):Stmt:=match s with
 | .ClassDef _ _ _ body _ _ _ _ _ _ _=>body.getD j (.Pass ⟨0,0,0,0⟩)
 | _=>.Pass ⟨0,0,0,0⟩
def aI (s:Stmt):Arguments:=match s with
 | .FunctionDef _ a _ _ _ _ _ _ _ _=>a
 | _=>{ posonlyargs:=[],args:=[],vararg:=none,kwonlyargs:=[],kw_defaults:=[],kwarg:=none,defaults:=[] }
def aH (s:Stmt):List Stmt:=match s with
 | .FunctionDef _ _ b _ _ _ _ _ _ _=>b
 | _=>[]
def ak (s:Stmt):Scope:=match s with
 | .FunctionDef _ _ _ _ _ _ sc _ _ _=>sc
 | _=>{ kind:=.function,names:=[],isGenerator:=false,isCoroutine:=false }
abbrev bV:Bi:=fun _ _ _ _ _ _=>False
abbrev E0:XK:=fun _ _ _=>False
theorem bp {X:Cx}:Passes bV X E0:=fun _ _ _ _ _ _ _ h=>h.elim
structure dJ (K:PySem.W.Frag) (x qual:Str) (st:Stmt) (f:Addr) (fd:FuncData):Prop where
 ex:∃ (oc:Value) (od:Option Addr) (kV doc pm:Value) (an:Option Addr) (cdv ct:Value) (osl:Array (Option Value)),
  fd=PySem.W.fnOf x qual (aI st) (aH st) (ak st) .none kV doc pm an cdv ct∧K.lookup f=some ⟨oc,od,.func fd,osl⟩∧PySem.W.codeIn K cdv qual=true
 kp:PySem.W.keepIn K (.ref f)=true
section
variable {P:Program} {w:World} {K:PySem.W.Frag} {mg:Str→Option Value} {base:Heap}
theorem dJ.ok {x qual:Str} {st:Stmt} {f:Addr} {fd:FuncData} {N ps:List Str} {k:Nat} {sp:Sp} (F:dJ K x qual st f fd) (S:aJ N ps (ak st)) (len:∀ vs H Q E,sp vs H Q E→vs.length=ps.length)
  (hbody:∀ (cdv:Value) (A:Around) (outer:List Env) (s:Shared) (H:Hp) (vs:List V) (Q:VK) (E:XK),eU k (A.deeper (envOfC qual (ak st) s.heap.objs.size f cdv))→sp vs H Q E →
   ∃ t,rM (zG bV P w K mg base N qual (ak st) f cdv A outer s H E).Qn (aH st) t∧t { nx:=fun _ H'=>Q .non H',rt:=Q } (start N vs) H):aR P w K mg base bV (k + 1) f fd ps sp:=by
 obtain ⟨oc,od,kV,doc,pm,an,cdv,ct,osl,rfl,lk,hcd⟩:=F.ex
 refine Mf lk hcd S len fun A outer s H vs Q E hr hsp=>?_
 obtain ⟨t,h,q⟩:=hbody cdv A outer s H vs Q E hr hsp
 exact ⟨t,h.Qn,q⟩
theorem dJ.binds {x qual:Str} {st:Stmt} {f:Addr} {fd:FuncData} {ps:List Str} (F:dJ K x qual st f fd)
  (h:∀ (kV doc pm:Value) (an:Option Addr) (cdv ct:Value) (us:List Value),us.length=ps.length→bindArgs (PySem.W.fnOf x qual (aI st) (aH st) (ak st) .none kV doc pm an cdv ct) ⟨us,[]⟩=pure (ps.zip us)):Binds K fd ps []:=by
 obtain ⟨oc,od,kV,doc,pm,an,cdv,ct,osl,rfl,lk,hcd⟩:=F.ex
 exact .all (h kV doc pm an cdv ct)
theorem aT {x qual:Str} {st:Stmt} {f:Addr} {oc:Value} {od an:Option Addr} {osl:Array (Option Value)} {kV doc pm cdv ct:Value} (l:K.lookup f=some ⟨oc,od,.func (PySem.W.fnOf x qual (aI st) (aH st) (ak st) .none kV doc pm an cdv ct),osl⟩)
  (c:PySem.W.codeIn K cdv qual=true) (k:PySem.W.keepIn K (.ref f)=true):dJ K x qual st f (PySem.W.fnOf x qual (aI st) (aH st) (ak st) .none kV doc pm an cdv ct):=⟨⟨oc,od,kV,doc,pm,an,cdv,ct,osl,rfl,l,c⟩,k⟩
end
theorem cC {A:Around} {k:Nat} (hr:eU k A):A.units + 1 < cLine:=Nat.lt_of_le_of_lt (Nat.add_le_add_left (by decide:1 ≤ 64) _) hr.units
theorem bw {n:Nat} (h:n ≤ 1000):n < sizeLine:=Nat.lt_of_le_of_lt h (by decide)
section
variable {X:Cx}
theorem pv (i:Nat) {x:Str} {pos:Pos} (hN:X.N[i]? = some x:=by rfl) (hv:QP X.env.scope x:=by first | exact Or.inl rfl | exact Or.inr (Or.inl rfl) | exact Or.inr (Or.inr rfl)) (hd:(x == ("__debug__" : Str))=false:=by decide)
  (hcd:(x == ("__classdict__" : Str))=false:=by decide):PE X (.Name x pos) (zx i):=Jj hN hv hd hcd
end
theorem ie {A B:Prop} (h:B):if false=true then A else B:=by
 rw [if_neg Bool.false_ne_true]
 exact h
theorem BW {A B:Prop} (h:A):if true=true then A else B:=by
 rw [if_pos rfl]
 exact h
theorem dk {c A B:Prop} [Decidable c] (h1:c→A) (h2:¬ c→B):if c then A else B:=by
 by_cases h:c
 ·rw [if_pos h]
  exact h1 h
 ·rw [if_neg h]
  exact h2 h
def Same (H H':Hp):Prop:=∀ b o,H b=some o→H' b=some o
theorem Same.refl (H:Hp):Same H H:=fun _ _ h=>h
theorem Same.trans {H H1 H2:Hp} (a:Same H H1) (b:Same H1 H2):Same H H2:=fun c o h=>b c o (a c o h)
theorem Same.free {H H':Hp} (e:Same H H') {l:Addr} (h:H' l=Option.none):H l=Option.none:=by
 cases q:H l with
 | none=>rfl
 | some o =>
  rw [e l o q] at h
  cases h
theorem Same.seq {K:PySem.W.Frag} {H H':Hp} {a:Addr} {xs:List V} (e:Same H H') (h:bh K H a xs):bh K H' a xs:=by
 rcases h with (h | ⟨o,h⟩) | h
 ·exact .inl (.inl (e _ _ h))
 ·exact .inl (.inr ⟨o,e _ _ h⟩)
 ·exact .inr h
section
variable {X:Cx}
end
section
variable {κ:Type} [DecidableEq κ]
theorem BX {kvs:List (κ × V)} {k:κ} (h:cw kvs k=none):¬ k ∈ kvs.map (·.1):=by
 intro m
 obtain ⟨p,hp,e⟩:=List.mem_map.mp m
 have q:(kvs.any fun kv=>decide (kv.1=k))=true:=List.any_eq_true.mpr ⟨p,hp,decide_eq_true e⟩
 rw [dQ,h] at q
 exact absurd q (by simp)
end
end L2
set_option maxHeartbeats 4000000
namespace L2
open PySem PySem.Spec PyProof.Rows
def eL (env:Env) (cs:List (Str × Addr)) (nk:Str × NameKind):List (Str × Addr) :=
 if nk.2 == .free then (nk.1,(env.cells.lookup nk.1).getD 0) :: cs else cs
def uU (scope:Scope) (env:Env):List (Str × Addr):=scope.names.foldl (eL env) []
theorem EV {scope:Scope} {env:Env} (h:∀ y ∈ scope.names,y.2=.free→∃ c,env.cells.lookup y.1=some c):closureFor scope env=pure (uU scope env):=by
 have all:∀ (l:List (Str × NameKind)) (cs:List (Str × Addr)),(∀ y ∈ l,y.2=.free→∃ c,env.cells.lookup y.1=some c) →
   (forIn l cs (fun x r=>if (x.2 == NameKind.free)=true then do let a ← cellOf env x.1; pure (ForInStep.yield ((x.1,a) :: r)) else pure (ForInStep.yield r)):Sem (List (Str × Addr)))=pure (l.foldl (eL env) cs):=by
  intro l
  induction l with
  | nil=>intro cs _; rfl
  | cons y r ih =>
   intro cs hy
   obtain ⟨n,k⟩:=y
   rw [List.forIn_cons,List.foldl_cons]
   by_cases hk:(k == NameKind.free)=true
   ·obtain ⟨c,hc⟩:=hy (n,k) List.mem_cons_self (by simpa using hk)
    have e1:cellOf env n=pure c:=by unfold cellOf; rw [hc]
    have e2:eL env cs (n,k)=(n,c) :: cs:=by unfold eL; rw [if_pos hk,hc]; rfl
    rw [e2,← ih _ fun z hz=>hy z (List.mem_cons_of_mem _ hz)]
    dsimp only
    rw [if_pos hk,e1]
    rfl
   ·have e2:eL env cs (n,k)=cs:=by unfold eL; rw [if_neg hk]
    rw [e2,← ih _ fun z hz=>hy z (List.mem_cons_of_mem _ hz)]
    dsimp only
    rw [if_neg hk]
    rfl
 have e:=all scope.names [] h
 unfold closureFor uU
 rw [← e]
 simp only [bind_pure]
theorem uV {env:Env}:∀ {l:List (Str × NameKind)} {cs:List (Str × Addr)} {n:Str} {c:Addr},(∀ y ∈ l,y.2=.free→∃ c,env.cells.lookup y.1=some c)→(n,c) ∈ l.foldl (eL env) cs→(n,c) ∈ cs∨env.cells.lookup n=some c
 | [],cs,n,c,_,m=>.inl m
 | (y,k) :: r,cs,n,c,h,m=>by
  rcases uV (fun z hz=>h z (List.mem_cons_of_mem _ hz)) (show (n,c) ∈ r.foldl (eL env) (eL env cs (y,k)) from m) with q | q
  ·unfold eL at q
   by_cases hk:(k == NameKind.free)=true
   ·rw [if_pos hk] at q
    rcases List.mem_cons.mp q with q | q
    ·obtain ⟨d,hd⟩:=h (y,k) List.mem_cons_self (by simpa using hk)
     have hd:env.cells.lookup y=some d:=hd
     injection q with q1 q2
     subst q1
     rw [hd] at q2
     subst q2
     exact .inr hd
    ·exact .inl q
   ·rw [if_neg hk] at q
    exact .inl q
  ·exact .inr q
theorem oA {env:Env}:∀ {l:List (Str × NameKind)} {cs:List (Str × Addr)} {p:Str × Addr},p ∈ cs→p ∈ l.foldl (eL env) cs
 | [],_,_,m=>m
 | (y,k) :: r,cs,p,m=>by
  refine oA (l:=r) (cs:=eL env cs (y,k)) ?_
  unfold eL
  split
  ·exact List.mem_cons_of_mem _ m
  ·exact m
theorem uW {env:Env}:∀ {l:List (Str × NameKind)} {cs:List (Str × Addr)} {n:Str},(n,NameKind.free) ∈ l→∃ c,(n,c) ∈ l.foldl (eL env) cs
 | (y,k) :: r,cs,n,m=>by
  rcases List.mem_cons.mp m with q | q
  ·cases q
   exact ⟨(env.cells.lookup y).getD 0,oA (l:=r) (by simp [eL])⟩
  ·exact uW (l:=r) q
theorem oB {β:Type}:∀ {l:List (Str × β)} {n:Str} {c:β},(n,c) ∈ l→∃ d,l.lookup n=some d
 | (k,v) :: r,n,c,m=>by
  rw [List.lookup_cons]
  cases e:n == k with
  | true=>exact ⟨v,rfl⟩
  | false =>
   rcases List.mem_cons.mp m with q | q
   ·cases q
    simp at e
   ·exact oB q
theorem ei {env:Env} (hf:env.scope.kind=.function):∀ {names:List (Str × NameKind)} {x:Str},names.lookup x=some .free→env.kindOf x=some .cell →
  (names.map fun (n,k)=>if (k == NameKind.free && env.scope.kind == .function && env.kindOf n == some .cell) then (n,NameKind.cell) else (n,k)).lookup x=some .cell
 | [],_,h,_=>by simp at h
 | (n,k) :: r,x,h,hc=>by
  have ih:=@ei env hf r x
  show List.lookup x ((if (k == NameKind.free && env.scope.kind == .function && env.kindOf n == some .cell)=true then (n,NameKind.cell) else (n,k)) :: _)=_
  cases hx:x == n with
  | true =>
   have e:x=n:=by simpa using hx
   subst e
   simp only [List.lookup_cons,hx] at h
   cases h
   rw [if_pos (by rw [hf,hc]; rfl)]
   simp [List.lookup_cons]
  | false =>
   simp only [List.lookup_cons,hx] at h
   by_cases hc':(k == NameKind.free && env.scope.kind == .function && env.kindOf n == some .cell)=true
   ·rw [if_pos hc']; simp only [List.lookup_cons,hx]; exact ih h hc
   ·rw [if_neg hc']; simp only [List.lookup_cons,hx]; exact ih h hc
def mJ (sc scope:Scope) (N:List Str):List Str→List (Option Nat)→Bool
 | [],[]=>true
 | _ :: r,none :: f=>mJ sc scope N r f
 | y :: r,some i :: f=>(N[i]? == some y) && (scope.names.lookup y == some .free) && (sc.names.lookup y == some .cell) && mJ sc scope N r f
 | _,_=>false
structure er (sc scope:Scope) (N N':List Str) (fr:List (Option Nat)):Prop where
 kind:scope.kind=.function
 BZ:∀ y ∈ scope.names,y.2 ≠ .cell
 names:∀ y ∈ scope.names,y.2=.local→scope.names.lookup y.1=some .local
 free:∀ y ∈ scope.names,y.2=.free→sc.names.lookup y.1=some .cell
 nd:N'.Nodup
 fr:mJ sc scope N N' fr=true
def zM (fr:List (Option Nat)) (σ:St):St:=fr.map fun o=>o.bind fun i=>(σ[i]?).join
theorem oC {sc scope:Scope} {N:List Str}:∀ {N':List Str} {fr:List (Option Nat)},mJ sc scope N N' fr=true→fr.length=N'.length
 | [],[],_=>rfl
 | _ :: r,none :: f,h=>by simp only [List.length_cons]; rw [oC (N':=r) (fr:=f) h]
 | y :: r,some i :: f,h=>by
  unfold mJ at h
  simp only [Bool.and_eq_true] at h
  simp only [List.length_cons]; rw [oC (N':=r) (fr:=f) h.2]
 | [],_ :: _,h=>by simp [mJ] at h
 | _ :: _,[],h=>by simp [mJ] at h
theorem rX {sc scope:Scope} {N:List Str}:∀ {N':List Str} {fr:List (Option Nat)} {j i:Nat} {y:Str},mJ sc scope N N' fr=true→N'[j]? = some y→fr[j]? = some (some i)→N[i]? = some y∧scope.names.lookup y=some .free∧sc.names.lookup y=some .cell
 | [],[],_,_,_,_,h,_=>by simp at h
 | _ :: r,none :: f,0,i,y,_,_,h=>by simp at h
 | _ :: r,none :: f,j + 1,i,y,h,h1,h2=>rX (N':=r) (fr:=f) (j:=j) h (by simpa using h1) (by simpa using h2)
 | z :: r,some k :: f,0,i,y,h,h1,h2=>by
  unfold mJ at h
  simp only [Bool.and_eq_true,beq_iff_eq] at h
  have e1:z=y:=by simpa using h1
  have e2:k=i:=by simpa using h2
  subst e1 e2
  exact ⟨h.1.1.1,h.1.1.2,h.1.2⟩
 | z :: r,some k :: f,j + 1,i,y,h,h1,h2=>by
  unfold mJ at h
  simp only [Bool.and_eq_true] at h
  exact rX (N':=r) (fr:=f) (j:=j) h.2 (by simpa using h1) (by simpa using h2)
 | [],_ :: _,_,_,_,h,_,_=>by simp [mJ] at h
 | _ :: _,[],_,_,_,h,_,_=>by simp [mJ] at h
def eY (X:Cx) (scope:Scope) (C:Addr) (N':List Str) (s₀:Shared) (H₀:Hp) (fp:List Addr):Cx where
 prog:=X.prog
 w:=X.w
 K:=X.K
 mg:=X.mg
 base:=X.base
 A:=X.A
 N:=N'
 s₀:=s₀
 H₀:=H₀
 env:=compEnvC scope (uU scope X.env) C X.env
 outer:=X.stack
 stack:=X.stack
 ex:=fp
 calm:=true
 fn:=fun _=>false
 pn:=[]
 xe:=fun _ _=>False
section
variable {X:Cx} {scope:Scope} {N':List Str} {fr:List (Option Nat)} {pins:List (Addr × Obj)} {σ:St} {H:Hp} {s:Shared} {fp:List Addr}
theorem Inv.block {h1:Heap} {t1:Nat} {m:Str→Option Value} (S:er X.env.scope scope X.N N' fr) (hc:X.calm=true) (I:Inv X pins σ H s) (hf:∀ b ∈ fp,oh X pins H b) (hlt:∀ b ∈ fp,b < s.heap.objs.size)
  (hns:h1.Ns s.heap.objs.size m) (old:∀ b o,s.heap.get? b=some o→h1.get? b=some o) :
  Inv (eY X scope s.heap.objs.size N' s H fp) [] (zM fr σ) H { s with heap:=h1,toks:=t1 }:=by
 have hfree:∀ y ∈ scope.names,y.2=.free→∃ c,X.env.cells.lookup y.1=some c:=fun y hy e=>I.ok.has y.1 (.inl (S.free y hy e))
 have cl1:∀ y c,(uU scope X.env).lookup y=some c→X.env.cells.lookup y=some c:=fun y c e=>by
  rcases uV (cs:=[]) hfree (PySem.mem_of_lookup e) with q | q
  ·exact absurd q (by simp)
  ·exact q
 have has:∀ y,((relabel scope X.env).names.lookup y=some .cell∨(relabel scope X.env).names.lookup y=some .free)→∃ c,(uU scope X.env).lookup y=some c:=fun y hy=>by
  have q:(y,NameKind.free) ∈ scope.names:=by
   have m:∃ k,(k=NameKind.cell∨k=NameKind.free)∧(y,k) ∈ (relabel scope X.env).names:=by
    rcases hy with hy | hy
    ·exact ⟨_,.inl rfl,PySem.mem_of_lookup hy⟩
    ·exact ⟨_,.inr rfl,PySem.mem_of_lookup hy⟩
   obtain ⟨k,hk,m⟩:=m
   obtain ⟨⟨n,k0⟩,hm,e⟩:=List.mem_map.mp m
   dsimp only at e
   by_cases hq:(k0 == NameKind.free && X.env.scope.kind == .function && X.env.kindOf n == some .cell)=true
   ·rw [if_pos hq] at e
    simp only [Bool.and_eq_true,beq_iff_eq] at hq
    injection e with e1 e2
    rw [← e1,← hq.1.1]
    exact hm
   ·rw [if_neg hq] at e
    injection e with e1 e2
    subst e1 e2
    rcases hk with hk | hk
    ·exact absurd hk (S.BZ _ hm)
    ·rw [← hk]; exact hm
  obtain ⟨c,mc⟩:=uW (env:=X.env) (cs:=[]) q
  exact oB mc
 have ltC:∀ y c,X.env.cells.lookup y=some c→c < s.heap.objs.size:=fun y c e=>by
  obtain ⟨v,q⟩:=I.cell y c e
  exact q.lt
 refine ⟨⟨I.ok.mod,S.kind,I.ok.glob,I.ok.blt,Nat.le_refl _,fun x y c e1 e2=>I.ok.inj x y c (cl1 x c e1) (cl1 y c e2),has,fun x c e _=>absurd e (by simp [eY]),fun _=>I.ok.hd hc,I.ok.frames,.inl rfl,
   fun b hb=>⟨Nat.ne_of_lt (hlt b hb),fun x c e=>(hf b hb).2.2.2.2.1 x c (cl1 x c e)⟩,I.bs,Nat.le_trans I.ok.Ey I.sz,fun b o e hb=>?_,fun b hb z=>?_,I.stack,I.yi⟩,
  rfl,I.bare,Un.kept old,⟨m,hns,fun i x v e1 e2 e3=>?_⟩,fun x c e=>?_,I.fresh,fun x c e=>I.jJ x c (cl1 x c e),fun p hp=>absurd hp (by simp [eY]),I.hok.kept old,?_⟩
 ·rcases (hf b hb).2.2.2.1 with z | z
  ·exact I.ok.Bq b o e z
  ·exact absurd (Nat.lt_of_lt_of_le (Heap.lt_size e) (Nat.le_trans I.ok.Ey z)) (Nat.lt_irrefl _)
 ·rcases List.mem_cons.mp (I.vK b z) with q | q
  ·exact (hf b hb).2.1 q
  ·exact (hf b hb).2.2.1 q
 ·
  have e2:(zM fr σ)[i]? = some (some v):=e2
  unfold zM at e2
  rw [List.getElem?_map] at e2
  cases q:fr[i]? with
  | none=>rw [q] at e2; cases e2
  | some o =>
   rw [q] at e2
   cases o with
   | none=>cases e2
   | some j =>
    have e2:(σ[j]?).join=some v:=Option.some.inj e2
    have e4:σ[j]? = some (some v):=by
     cases r:σ[j]? with
     | none=>rw [r] at e2; cases e2
     | some w=>rw [r] at e2; exact congrArg some e2
    obtain ⟨f1,f2,f3⟩:=rX S.fr e1 q
    obtain ⟨m0,_,hl⟩:=I.loc
    obtain ⟨u,r,l⟩:=hl j x v f1 e4 (.inr (.inl f3))
    refine ⟨u,r,.inr ⟨.inl (ei I.ok.kind f2 f3),?_⟩⟩
    obtain ⟨c,hc⟩:=has x (.inl (ei I.ok.kind f2 f3))
    rcases l with ⟨k,_⟩ | ⟨_,c',hc',ho⟩
    ·have k:X.env.scope.names.lookup x=some .local:=k
     rw [f3] at k; cases k
    ·have e:c=c':=Option.some.inj ((cl1 x c hc).symm.trans hc')
     subst e
     obtain ⟨o,ho,hd⟩:=ho
     exact ⟨c,hc,o,old c o ho,hd⟩
 ·obtain ⟨v,o,ho,hd⟩:=I.cell x c (cl1 x c e)
  exact ⟨v,o,old c o ho,hd⟩
 ·show (zM fr σ).length=N'.length
  unfold zM
  rw [List.length_map]
  exact oC S.fr
end
def Lw (X:Cx) (ifs:List Expr) (t:TT):Prop :=
 ∀ (pins:List (Addr × Obj)) (s:Shared) (σ:St) (H:Hp) (Q:Bool→Hp→Prop),Inv X pins σ H s→t σ H Q →
  wpAny (model X.prog X.w) X.A (forIn ifs true fun c r=>if r=true then do let ok ← isTrue c X.env (eval c X.env); pure (ForInStep.yield ok) else pure (ForInStep.yield r)) (TP X pins σ Q) X.xe s
def Ro:TT:=fun _ H Q=>Q true H
theorem iM {X:Cx}:Lw X [] Ro:=fun _ _ _ H _ I q=>wpAny_tests_nil ⟨H,I,q⟩
theorem ke {X:Cx} {c:Expr} {t:TT} (h:PT X c t):Lw X [c] t:=fun pins s σ H Q I q=>wpAny_tests_one (h pins s σ H Q I q)
theorem rY {prog:Program} {w:World} {A:Around} {R:Result→Shared→Prop} {s:Shared} {elt target iter:Expr} {ifs:List Expr} {scope:Scope} {pos:Pos} {it acc:Value} {env:Env} (I:Nat→Shared→Prop)
  (turn:∀ n s,I n s→wpAny (model prog w) A (pyNext it) (fun r s₁=>match r with
   | none=>R (.ok .next) s₁
   | some v=>wpAny (model prog w) A (letOwnedTupleGo target it v) (fun _ s₀=>wpAny (model prog w) A (assign target env v) (fun _ s₂ =>
     wpAny (model prog w) A (forIn ifs true fun c r=>if r=true then do let ok ← isTrue c env (eval c env); pure (ForInStep.yield ok) else pure (ForInStep.yield r)) (fun ok s₃ =>
      if ok=true then wpAny (model prog w) A (eval elt env) (fun x s₄ =>
       wpAny (model prog w) A (call (.builtin "list.append") [acc,x]) (fun _ s₅=>∃ m,m < n∧I m s₅) (fun _ _=>False) s₄) (fun _ _=>False) s₃
      else ∃ m,m < n∧I m s₃) (fun _ _=>False) s₂) (fun _ _=>False) s₀) (fun _ _=>False) s₁) (fun _ _=>False) s)
  (n:Nat) (h:I n s) :
  codeAny (model prog w) A (.compLoop (.ListComp elt [⟨target,iter,ifs,0⟩] scope pos) 0 it acc env) R s:=by
 refine codeAny_loop rfl I (fun n s hI=>?_) n h
 show wpAny _ A ((compTurn (.ListComp elt [⟨target,iter,ifs,0⟩] scope pos) 0 it acc env).onRaise (fun x=>do noteFrame x env; theTreesLotGoes x)) _ _ s
 refine wpAny_noted ?_
 rw [compTurn_list]
 refine wpAny_bind (wpAny_standAt (wpAny_bind (wpAny_mono (turn n s hI) (fun r s₁ h₁=>?_) fun _ _ h'=>h'.elim)))
 cases r with
 | none=>exact wpAny_pure h₁
 | some v =>
  refine wpAny_bind (wpAny_mono h₁ (fun _ s₀ h₀=>?_) fun _ _ h'=>h'.elim)
  refine wpAny_bind (wpAny_mono h₀ (fun _ s₂ h₂=>wpAny_bind (wpAny_mono h₂ (fun ok s₃ h₃=>?_) fun _ _ h'=>h'.elim)) fun _ _ h'=>h'.elim)
  cases ok with
  | false=>exact wpAny_pure ⟨rfl,h₃⟩
  | true =>
   exact wpAny_bind (wpAny_bind (wpAny_mono h₃ (fun x s₄ h₄=>wpAny_bind (wpAny_mono h₄ (fun _ s₅ h₅=>wpAny_pure (wpAny_pure ⟨rfl,h₅⟩)) fun _ _ h'=>h'.elim)) fun _ _ h'=>h'.elim))
def B1 (fr:List (Option Nat)) (wi:TI) (g:TG) (tt:TT) (te:TE):TE:=fun σ H Q=>wi σ H fun J H1=>∀ D,H1 D=none →
 ∃ W:Nat→Nat→St→List V→Hp→Prop,(∃ m,W 0 m (zM fr σ) [] (upd H1 D (.lst [])))∧∀ i m σ ys H,W i m σ ys H →
  (J.stop i H∧Q (.ref D) H)∨(J.go i H∧∃ N:St→List V→Hp→Prop,(∀ σ' ys' H',N σ' ys' H'→∃ m',m' < m∧W (i + 1) m' σ' ys' H')∧∀ x H',J.Bh i H x H'→g x σ H' fun σ2 H2=>tt σ2 H2 fun b H3 =>
   if b=true then te σ2 H3 fun v H4=>H4 D=some (.lst ys)∧ys.length < sizeLine∧N σ2 (ys ++ [v]) (upd H4 D (.lst (ys ++ [v])))
   else N σ2 ys H3)
theorem uX {X:Cx} {elt tg iter:Expr} {ifs:List Expr} {scope:Scope} {pos cpos:Pos} {wi:TI} {g:TG} {tt:TT} {te:TE} {N':List Str} {fr:List (Option Nat)} (S:er X.env.scope scope X.N N' fr) (hc:X.calm=true) (hi:PI X tg iter wi)
  (hg:∀ C s0 H0 fp,PG (eY X scope C N' s0 H0 fp) tg g) (ht:∀ C s0 H0 fp,Lw (eY X scope C N' s0 H0 fp) ifs tt) (he:∀ C s0 H0 fp,PE (eY X scope C N' s0 H0 fp) elt te)
  (hs:∀ x,foldedSetIterable iter X.env x=pure x) {pins:List (Addr × Obj)} {s:Shared} {σ:St} {H:Hp} {Q:VK} (I:Inv X pins σ H s) (h:B1 fr wi g tt te σ H Q) (use:Option (Value→Sem Unit)) (QQ:Value→Shared→Prop)
  (fin:∀ (D C:Addr) (H5:Hp) (s6:Shared),Inv X pins σ H5 s6→Q (.ref D) H5→H5 C=none→C ≠ X.env.locals→X.s₀.heap.objs.size ≤ C→(∀ x c,X.env.cells.lookup x=some c→c ≠ C)→(∀ p ∈ X.pn ++ pins,p.1 ≠ C)→(∃ m,s6.heap.Ns C m) →
   compPost (model X.prog X.w) X.A X.xe use QQ (.ref D) C (.ok .next) s6) :
  wpAny (model X.prog X.w) X.A (comprehension (.ListComp elt [⟨tg,iter,ifs,0⟩] scope pos) scope X.env cpos (newList []) false (eval iter X.env) use) QQ X.xe s:=by
 have hfree:∀ y ∈ scope.names,y.2=.free→∃ c,X.env.cells.lookup y.1=some c:=fun y hy e=>I.ok.has y.1 (.inl (S.free y hy e))
 refine wpAny_comprehension_free (use:=use) rfl hs (EV hfree) S.kind S.names (cG (hi pins s σ H _ I h) fun v s1 h1=>cG h1 fun itv s2 h2=>?_)
 obtain ⟨it,fp,tn,J,H2,e,I2,T,st2,f2,hD⟩:=h2
 subst e
 obtain ⟨W,⟨m0,w0⟩,turn⟩:=hD s2.heap.objs.size I2.fresh
 refine wpAny_newObj_type ?_
 have I3:Inv X pins σ (upd H2 s2.heap.objs.size (.lst [])) { s2 with heap:=s2.heap.push { cls:=.type "list",data:=.seq ([]:List Value).toArray },toks:=s2.toks }:=I2.Mj (ys:=[]) .nil (Nat.zero_le _)
 revert I3
 generalize eD:s2.heap.objs.size=D at *
 generalize e3:({ s2 with heap:=s2.heap.push { cls:=.type "list",data:=.seq ([]:List Value).toArray },toks:=s2.toks }:Shared)=s3
 intro I3
 have k3:∀ b o,s2.heap.get? b=some o→s3.heap.get? b=some o:=fun b o e=>by rw [← e3]; exact Heap.get?_push_of_some _ e
 refine wpAny_newFunctionEnv S.BZ (by intro y hy; simp at hy) (fun h4 hns hsb=>?_) S.kind
 have old:∀ b o,s3.heap.get? b=some o→h4.get? b=some o:=fun b o e=>hsb.extBut b o (Nat.ne_of_lt (Heap.lt_size e)) (Heap.get?_push_of_some _ e)
 have fD:∀ b ∈ fp,b ≠ D:=fun b hb z=>by
  obtain ⟨o,ho,_⟩:=T.obj _ _ st2 b hb
  exact absurd (Heap.lt_size ho) (by rw [z,eD]; exact Nat.lt_irrefl _)
 have f3:∀ b ∈ fp,oh X pins (upd H2 D (.lst [])) b:=fun b hb=>⟨by rw [aL (fD b hb)]; exact (f2 b hb).1,(f2 b hb).2⟩
 have l3:∀ b ∈ fp,b < s3.heap.objs.size:=fun b hb=>by
  obtain ⟨o,ho,_⟩:=T.obj _ _ st2 b hb
  exact Heap.lt_size (k3 b o ho)
 have I4:=Inv.block (t1:=s3.toks + ([]:List (Str × Value)).length) (scope:=scope) S hc I3 f3 l3 hns old
 generalize eX:eY X scope s3.heap.objs.size N' s3 (upd H2 D (.lst [])) fp=X' at I4
 have st4:tn 0 h4:=T.keep _ _ _ st2 fun b hb o e=>old b o (k3 b o e)
 have stat:∀ {H':Hp},(∀ b ∈ fp,H' b=none)→∀ b ∈ fp,oh X' [] H' b:=fun {H'} hn b hb=>by
  subst eX
  refine ⟨hn b hb,Nat.ne_of_lt (l3 b hb),?_,.inl hb,?_,fun p hp=>absurd hp (by simp [eY])⟩
  ·exact I4.ok.Br b hb
  ·exact (I4.ok.QR b hb).2
 show codeAny _ _ (.compStart _ 0 (.ref it) (.ref D) (compEnvC scope (uU scope X.env) s3.heap.objs.size X.env)) (compPost _ _ _ use _ (.ref D) s3.heap.objs.size) _
 have hX:X'.prog=X.prog∧X'.w=X.w∧X'.K=X.K∧X'.A=X.A∧X'.calm=true∧X'.env=compEnvC scope (uU scope X.env) s3.heap.objs.size X.env∧X'.xe=(fun _ _=>False)∧X'.s₀=s3∧X'.H₀=upd H2 D (.lst [])∧X'.fs=frs X.stack∧X'.ex=fp:=by
  subst eX
  exact ⟨rfl,rfl,rfl,rfl,rfl,rfl,rfl,rfl,rfl,rfl,rfl⟩
 have hg':PG X' tg g:=by subst eX; exact hg _ _ _ _
 have ht':Lw X' ifs tt:=by subst eX; exact ht _ _ _ _
 have he':PE X' elt te:=by subst eX; exact he _ _ _ _
 clear eX
 obtain ⟨x1,x2,x3,x4,x5,x6,x7,x8,x9,x10,x11⟩:=hX
 have loop:codeAny (model X.prog X.w) X.A (.compLoop (.ListComp elt [⟨tg,iter,ifs,0⟩] scope pos) 0 (.ref it) (.ref D) (compEnvC scope (uU scope X.env) s3.heap.objs.size X.env))
   (compPost (model X.prog X.w) X.A X.xe use QQ (.ref D) s3.heap.objs.size) { s3 with heap:=h4,toks:=s3.toks + ([]:List (Str × Value)).length }:=by
  refine rY (fun n s'=>∃ i σ' ys H',Inv X' [] σ' H' s'∧tn i s'.heap∧(∀ b ∈ fp,H' b=none)∧W i n σ' ys H') ?_ m0 ⟨0,_,[],_,I4,st4,fun b hb=>(f3 b hb).1,w0⟩
  rintro n s5 ⟨i,σ5,ys,H5,I5,Lv,Qp,w5⟩
  rcases turn i n σ5 ys H5 w5 with ⟨stop,qn⟩ | ⟨go,N,hN,step⟩
  ·have z:=T.done X' x1 x2 x3 x5 i [] s5 σ5 H5 (fun _ _=>False) I5 (stat Qp) Lv stop
   rw [x4] at z
   refine cG z fun r s6 ⟨hr,I6⟩=>?_
   subst hr
   obtain ⟨mm,hn6,_⟩:=I6.loc
   have hL:X'.env.locals=s3.heap.objs.size:=by rw [x6]; rfl
   rw [hL] at hn6
   have nC:H5 s3.heap.objs.size=none:=by have:=I6.free; rw [hL] at this; exact this
   have base:=I6.base
   rw [x8,x9,x10,x11] at base
   have hok:jR X.prog X.w H5 s6.heap:=by have q:=I6.hok; rw [x1,x2] at q; exact q
   have os:s6.os=s3.os:=by have:=I6.os; rw [x8] at this; exact this
   have IX:Inv X pins σ H5 s6:=I3.call' os base hok I6.bare fun b hb=>⟨(f3 b hb).2.2.2.1,(f3 b hb).2.1,(f3 b hb).2.2.2.2.1,(f3 b hb).2.2.2.2.2⟩
   refine fin D s3.heap.objs.size H5 s6 IX qn nC (Nat.ne_of_gt I3.lt) I3.sz (fun x c e=>?_) (fun p hp=>?_) ⟨mm,hn6⟩
   ·obtain ⟨v,q⟩:=I3.cell x c e
    exact Nat.ne_of_lt q.lt
   ·exact Nat.ne_of_lt (Heap.lt_size (I3.pin p hp).1)
  ·have z:=T.item X' x1 x2 x3 x5 i [] s5 σ5 H5 (fun _ _=>False) I5 (stat Qp) Lv go
   rw [x4] at z
   refine cG z fun r s6 ⟨u,hr,h6⟩=>?_
   subst hr
   refine cG h6 fun _ s7 ⟨x,H7,I7,r7,y7,Rp,fr7⟩=>?_
   have I7':=I7.pinned (stat fr7) (T.obj _ _ Rp)
   have again:∀ {σ':St} {H':Hp} {s':Shared},Inv X' ([] ++ oi fp s7.heap) σ' H' s'→Inv X' [] σ' H' s'∧tn (i + 1) s'.heap∧∀ b ∈ fp,H' b=none:=fun {σ' H' s'} J=>by
    refine ⟨J.j4,T.keep _ _ _ Rp fun b hb o e=>(J.pin (b,o) (List.mem_append_right _ (List.mem_append_right _ (iI hb e)))).1,fun b hb=>?_⟩
    obtain ⟨o,e,d⟩:=T.obj _ _ Rp b hb
    exact (J.pin (b,o) (List.mem_append_right _ (List.mem_append_right _ (iI hb e)))).2.1
   have z:=hg' _ s7 σ5 H7 x u _ I7' r7 (step x H7 y7)
   rw [x1,x2,x4,x6,x7] at z
   refine cG z fun _ s8 ⟨σ8,H8,I8,q8⟩=>?_
   have z:=ht' _ s8 σ8 H8 _ I8 q8
   rw [x1,x2,x4,x6,x7] at z
   refine cG z fun b s9 ⟨H9,I9,q9⟩=>?_
   cases b with
   | false =>
    rw [if_neg Bool.false_ne_true] at q9 ⊢
    obtain ⟨m',hm,w9⟩:=hN _ _ _ q9
    obtain ⟨a1,a2,a3⟩:=again I9
    exact ⟨m',hm,i + 1,σ8,ys,H9,a1,a2,a3,w9⟩
   | true =>
    rw [if_pos rfl] at q9 ⊢
    have z:=he' _ s9 σ8 H9 _ I9 q9
    rw [x1,x2,x4,x6,x7] at z
    refine cG z fun v' s10 ⟨y,H10,I10,r10,Rq,hz,w10⟩=>?_
    have z:=cr (X:=X') _ s10 σ8 H10 (.ref D) [y] (.ref D) [v'] (fun _ H'=>N σ8 (ys ++ [y]) H') I10 rfl (.cons r10 .nil) ⟨D,ys,y,rfl,rfl,Rq,hz,w10⟩
    rw [x1,x2,x4,x7] at z
    refine cG z fun _ s11 ⟨_,H11,I11,_,w11⟩=>?_
    obtain ⟨m',hm,w11⟩:=hN _ _ _ w11
    obtain ⟨a1,a2,a3⟩:=again I11
    exact ⟨m',hm,i + 1,σ8,_,H11,a1,a2,a3,w11⟩
 exact codeAny_compStart_list loop (T.self _ 0 _ _ _ st4 loop)
theorem gA {X:Cx} {elt tg iter:Expr} {ifs:List Expr} {scope:Scope} {pos:Pos} {wi:TI} {g:TG} {tt:TT} {te:TE} {N':List Str} {fr:List (Option Nat)} (S:er X.env.scope scope X.N N' fr) (hc:X.calm=true) (hi:PI X tg iter wi)
  (hg:∀ C s0 H0 fp,PG (eY X scope C N' s0 H0 fp) tg g) (ht:∀ C s0 H0 fp,Lw (eY X scope C N' s0 H0 fp) ifs tt) (he:∀ C s0 H0 fp,PE (eY X scope C N' s0 H0 fp) elt te)
  (hs:∀ x,foldedSetIterable iter X.env x=pure x:=by intro _; rfl):PE X (.ListComp elt [⟨tg,iter,ifs,0⟩] scope pos) (B1 fr wi g tt te):=by
 intro pins s σ H Q I h
 rw [eval_ListComp]
 refine uX S hc hi hg ht he hs I h none _ fun D C H5 s6 IX q nC c1 c2 c3 c4 hm=>?_
 obtain ⟨m,hm⟩:=hm
 refine ⟨m,hm,fun h' hs'=>⟨.ref D,H5,IX.turned (t':=s6.toks) (it:=C) (fun b o hb e=>hs'.extBut b o hb e) nC c1 (.inr c2) c3 c4,rfl,q⟩⟩
theorem rZ {X:Cx} {elt tg iter:Expr} {ifs:List Expr} {scope:Scope} {pos spos py:Pos} {y:Str} {i:Nat} {wi:TI} {g:TG} {tt:TT} {te:TE} {N':List Str} {fr:List (Option Nat)} (hN:X.N.Nodup) (hy:X.N[i]? = some y) (hl:X.env.scope.names.lookup y=some .local)
  (S:er X.env.scope scope X.N N' fr) (hc:X.calm=true) (hi:PI X tg iter wi)
  (hg:∀ C s0 H0 fp,PG (eY X scope C N' s0 H0 fp) tg g) (ht:∀ C s0 H0 fp,Lw (eY X scope C N' s0 H0 fp) ifs tt) (he:∀ C s0 H0 fp,PE (eY X scope C N' s0 H0 fp) elt te)
  (hs:∀ x,foldedSetIterable iter X.env x=pure x:=by intro _; rfl) (hsw:swapsWith (.ListComp elt [⟨tg,iter,ifs,0⟩] scope pos) (some (.Name y py)) spos.line X.env=pure true:=by rfl) :
  PS X (.Assign [.Name y py] (.ListComp elt [⟨tg,iter,ifs,0⟩] scope pos) spos) (By (B1 fr wi g tt te) (hC i)):=by
 intro pins s σ H D I h
 rw [exec_Assign_Name_used _ _ _ _ hsw]
 refine wpAny_bind (wpAny_standAt (wpAny_bind ?_))
 show wpAny _ X.A (do let _ ← comprehension (.ListComp elt [⟨tg,iter,ifs,0⟩] scope pos) scope X.env _ (newList []) false (eval iter X.env) (some (assign (.Name y py) X.env))) _ _ s
 refine wpAny_bind (cG (uX S hc hi hg ht he hs I h (some (assign (.Name y py) X.env)) (fun _ s'=>SP X pins D .next s') fun L C H5 s6 IX q nC c1 c2 c3 c4 hm=>?_) fun _ s' hq=>wpAny_pure (wpAny_pure hq))
 obtain ⟨m,hm⟩:=hm
 show wpAny _ X.A (assign (.Name y py) X.env (.ref L)) _ _ _
 refine wpAny_assign_Name (qG IX hN hy (.inl hl) (show RelV (.ref L) (Value.ref L) from rfl) (fun s7 I7 hch=>?_) (.inr hl))
 obtain ⟨a,hsb,ha⟩:=hch
 have hCa:C ≠ a:=by
  rcases ha with ha | ha
  ·rw [ha]; exact c1
  ·exact (c3 _ _ ha).symm
 refine ⟨m,hm.at' (fun o e=>(hsb.2 C hCa).trans e),fun h' hs'=>⟨_,H5,I7.turned (t':=s7.toks) (it:=C) (fun b o hb e=>hs'.extBut b o hb e) nC c1 (.inr c2) c3 c4,q⟩⟩
theorem wg {lo:Int} {n:Nat} {g:TG} {tt:TT} {te:TE} {R:Hp→Prop} {D:Addr} {σ0:St} {H0:Hp} (Pv:Nat→St→List V→Hp→Prop) (h0:Pv 0 σ0 [] H0)
  (hs:∀ i σ ys H,i < n→Pv i σ ys H→g (.int (lo + i)) σ H fun σ2 H2=>tt σ2 H2 fun b H3 =>
   if b=true then te σ2 H3 fun v H4=>H4 D=some (.lst ys)∧ys.length < sizeLine∧Pv (i + 1) σ2 (ys ++ [v]) (upd H4 D (.lst (ys ++ [v]))) else Pv (i + 1) σ2 ys H3)
  (hd:∀ σ ys H,Pv n σ ys H→R H) :
  ∃ W:Nat→Nat→St→List V→Hp→Prop,(∃ m,W 0 m σ0 [] H0)∧∀ i m σ ys H,W i m σ ys H →
   ((EB lo n).stop i H∧R H)∨((EB lo n).go i H∧∃ N:St→List V→Hp→Prop,(∀ σ' ys' H',N σ' ys' H'→∃ m',m' < m∧W (i + 1) m' σ' ys' H')∧∀ x H',(EB lo n).Bh i H x H'→g x σ H' fun σ2 H2=>tt σ2 H2 fun b H3 =>
    if b=true then te σ2 H3 fun v H4=>H4 D=some (.lst ys)∧ys.length < sizeLine∧N σ2 (ys ++ [v]) (upd H4 D (.lst (ys ++ [v]))) else N σ2 ys H3):=by
 refine ⟨fun i m σ ys H=>m=n - i∧i ≤ n∧Pv i σ ys H,⟨n,by simp,Nat.zero_le _,h0⟩,?_⟩
 rintro i m σ ys H ⟨rfl,hi,p⟩
 by_cases hlt:i < n
 ·refine .inr ⟨hlt,Pv (i + 1),fun σ' ys' H' p'=>⟨n - (i + 1),by omega,rfl,hlt,p'⟩,fun x H' y=>?_⟩
  obtain ⟨e,y⟩:=y
  subst e y
  exact hs i σ ys _ hlt p
 ·have e:i=n:=by omega
  subst e
  exact .inl ⟨Nat.le_refl _,hd σ ys H p⟩
theorem gD {K:PySem.W.Frag} {a:Addr} {xs:List V} {g:TG} {tt:TT} {te:TE} {R:Hp→Prop} {D:Addr} {σ0:St} {H0:Hp} (Pv:Nat→St→List V→Hp→Prop) (h0:Pv 0 σ0 [] H0) (hl:∀ i σ ys H,i ≤ xs.length→Pv i σ ys H→bh K H a xs)
  (hs:∀ i x σ ys H,xs[i]? = some x→Pv i σ ys H→g x σ H fun σ2 H2=>tt σ2 H2 fun b H3 =>
   if b=true then te σ2 H3 fun v H4=>H4 D=some (.lst ys)∧ys.length < sizeLine∧Pv (i + 1) σ2 (ys ++ [v]) (upd H4 D (.lst (ys ++ [v]))) else Pv (i + 1) σ2 ys H3)
  (hd:∀ σ ys H,Pv xs.length σ ys H→R H) :
  ∃ W:Nat→Nat→St→List V→Hp→Prop,(∃ m,W 0 m σ0 [] H0)∧∀ i m σ ys H,W i m σ ys H →
   ((Bz K a).stop i H∧R H)∨((Bz K a).go i H∧∃ N:St→List V→Hp→Prop,(∀ σ' ys' H',N σ' ys' H'→∃ m',m' < m∧W (i + 1) m' σ' ys' H')∧∀ x H',(Bz K a).Bh i H x H'→g x σ H' fun σ2 H2=>tt σ2 H2 fun b H3 =>
    if b=true then te σ2 H3 fun v H4=>H4 D=some (.lst ys)∧ys.length < sizeLine∧N σ2 (ys ++ [v]) (upd H4 D (.lst (ys ++ [v]))) else N σ2 ys H3):=by
 refine ⟨fun i m σ ys H=>m=xs.length - i∧i ≤ xs.length∧Pv i σ ys H,⟨xs.length,by simp,Nat.zero_le _,h0⟩,?_⟩
 rintro i m σ ys H ⟨rfl,hi,p⟩
 have q:=hl i σ ys H hi p
 by_cases hlt:i < xs.length
 ·refine .inr ⟨⟨xs,xs[i],q,by simp [hlt]⟩,Pv (i + 1),fun σ' ys' H' p'=>⟨xs.length - (i + 1),by omega,rfl,hlt,p'⟩,fun x H' y=>?_⟩
  obtain ⟨e,y⟩:=y
  subst e
  exact hs i x σ ys _ (y xs q) p
 ·have e:i=xs.length:=by omega
  subst e
  exact .inl ⟨⟨xs,q,Nat.le_refl _⟩,hd σ ys H p⟩
end L2
namespace SF
open PySem
def qh (xs:Array Nat):Prop:=∀ i k,i < k→k < xs.size→xs.getD i 0 < xs.getD k 0
theorem B2 {xs:Array Nat} {i a b:Nat} (h:i < xs.size):xs.getD i a=xs.getD i b:=by
 simp [Array.getD,h]
theorem EW {xs:Array Nat} {j:Nat} (hr:qh xs):∀ (f lo hi:Nat),lo ≤ hi→hi ≤ xs.size→hi - lo ≤ f→(∀ i,i < lo→xs.getD i 0 < j)→(∀ i,hi ≤ i→i < xs.size→j ≤ xs.getD i 0) →
  SetTable.below.go xs j f lo hi ≤ xs.size∧(∀ i,i < SetTable.below.go xs j f lo hi→xs.getD i 0 < j)∧∀ i,SetTable.below.go xs j f lo hi ≤ i→i < xs.size→j ≤ xs.getD i 0:=by
 intro f
 induction f with
 | zero =>
  intro lo hi h1 h2 h3 h4 h5
  have e:lo=hi:=by omega
  subst e
  exact ⟨h2,h4,h5⟩
 | succ f ih =>
  intro lo hi h1 h2 h3 h4 h5
  unfold SetTable.below.go
  by_cases hlt:lo < hi
  ·rw [if_pos hlt]
   have m1:(lo + hi) / 2 < hi:=by omega
   have m2:lo ≤ (lo + hi) / 2:=by omega
   dsimp only
   rw [B2 (b:=0) (Nat.lt_of_lt_of_le m1 h2)]
   by_cases hm:xs.getD ((lo + hi) / 2) 0 < j
   ·rw [if_pos hm]
    refine ih _ _ (by omega) h2 (by omega) (fun i hi'=>?_) h5
    rcases Nat.lt_or_ge i ((lo + hi) / 2) with q | q
    ·exact Nat.lt_trans (hr i _ q (by omega)) hm
    ·have e:i=(lo + hi) / 2:=by omega
     rw [e]; exact hm
   ·rw [if_neg hm]
    refine ih _ _ m2 (by omega) (by omega) h4 (fun i hi' hs=>?_)
    rcases Nat.lt_or_ge ((lo + hi) / 2) i with q | q
    ·exact Nat.le_trans (Nat.not_lt.mp hm) (Nat.le_of_lt (hr _ i q hs))
    ·have e:i=(lo + hi) / 2:=by omega
     rw [e]; exact Nat.not_lt.mp hm
  ·rw [if_neg hlt]
   have e:lo=hi:=by omega
   subst e
   exact ⟨h2,h4,h5⟩
theorem oF {xs:Array Nat} {j:Nat} (hr:qh xs):SetTable.below xs j ≤ xs.size∧(∀ i,i < SetTable.below xs j→xs.getD i 0 < j)∧∀ i,SetTable.below xs j ≤ i→i < xs.size→j ≤ xs.getD i 0 :=
 EW hr xs.size 0 xs.size (Nat.zero_le _) (Nat.le_refl _) (Nat.le_refl _) (fun i h=>absurd h (Nat.not_lt_zero _)) (fun i h1 h2=>absurd (Nat.lt_of_lt_of_le h2 h1) (Nat.lt_irrefl _))
theorem below_at {xs:Array Nat} (hr:qh xs) {i s:Nat} (h1:∀ k,k < i→xs.getD k 0 < s) (h2:i < xs.size→s ≤ xs.getD i 0) (hi:i ≤ xs.size):SetTable.below xs s=i:=by
 obtain ⟨b1,b2,b3⟩:=oF (j:=s) hr
 rcases Nat.lt_trichotomy (SetTable.below xs s) i with q | q | q
 ·have:=b3 _ (Nat.le_refl _) (by omega)
  have:=h1 _ q
  omega
 ·exact q
 ·have:=b2 i q
  have:=h2 (by omega)
  omega
theorem lI {xs:Array Nat}:qh xs↔xs.toList.Pairwise (· < ·):=by
 rw [List.pairwise_iff_getElem]
 constructor
 ·intro h i k hi hk hik
  have h':=h i k hik (by simpa using hk)
  have hi':i < xs.size:=by simpa using hi
  have hk':k < xs.size:=by simpa using hk
  simpa [Array.getD,hi',hk'] using h'
 ·intro h i k hik hk
  have hi:i < xs.size:=Nat.lt_trans hik hk
  have h':=h i k (by simpa using hi) (by simpa using hk) hik
  simpa [Array.getD,hi,hk] using h'
theorem uY {xs:Array Nat} {j:Nat} (hr:qh xs) (hn:∀ i,i < xs.size→xs.getD i 0 ≠ j):qh (SetTable.insertAt xs (SetTable.below xs j) j):=by
 obtain ⟨b1,b2,b3⟩:=oF (j:=j) hr
 rw [lI,SetTable.toList_insertAt]
 have hp:=lI.mp hr
 have take:∀ a ∈ xs.toList.take (SetTable.below xs j),a < j:=fun a ha=>by
  obtain ⟨i,hi,e⟩:=List.getElem_of_mem ha
  have hi':i < SetTable.below xs j∧i < xs.size:=by
   rw [List.length_take] at hi
   simp at hi
   omega
  have:=b2 i hi'.1
  rw [← e,List.getElem_take]
  simpa [Array.getD,hi'.2] using this
 have drop:∀ a ∈ xs.toList.drop (SetTable.below xs j),j < a:=fun a ha=>by
  obtain ⟨i,hi,e⟩:=List.getElem_of_mem ha
  have hi':SetTable.below xs j + i < xs.size:=by
   rw [List.length_drop] at hi
   simp at hi
   omega
  have h1:=b3 (SetTable.below xs j + i) (Nat.le_add_right _ _) hi'
  have h2:=hn _ hi'
  rw [← e,List.getElem_drop]
  have h3:j < xs.getD (SetTable.below xs j + i) 0:=by omega
  simpa [Array.getD,hi'] using h3
 refine List.pairwise_append.mpr ⟨hp.sublist (List.take_sublist _ _),List.pairwise_cons.mpr ⟨drop,hp.sublist (List.drop_sublist _ _)⟩,fun a ha b hb=>?_⟩
 rcases List.mem_cons.mp hb with e | hb
 ·rw [e]; exact take a ha
 ·exact Nat.lt_trans (take a ha) (drop b hb)
structure oG (t:SetTable):Prop where
 Qs:t.dummies=#[]
 up:t.plain=true→qh t.place
theorem B3 {t:SetTable} (h:t.dummies=#[]) (j:Nat):t.slot j ≠ .dummy:=by
 unfold SetTable.slot
 dsimp only
 split
 ·intro z; cases z
 ·have e:SetTable.has t.dummies j=false:=by rw [h]; simp [SetTable.has]
  rw [if_neg (by rw [e]; exact Bool.false_ne_true)]
  intro z; cases z
theorem wj {t:SetTable} (h:t.dummies=#[]) {f:Nat→Int} {x:Int}:∀ (n:Nat) (p:SetTable.Probe) {j:Nat} {d:Option Nat},SetTable.probe.go t f x n p=some (.empty j d)→t.slot j=.empty∧d=p.dummy:=by
 intro n
 induction n with
 | zero=>intro p j d e; cases e
 | succ n ih =>
  intro p j d e
  unfold SetTable.probe.go at e
  cases q:t.slot p.j with
  | empty =>
   rw [q] at e
   cases e
   exact ⟨q,rfl⟩
  | dummy=>exact absurd q (B3 h _)
  | live i =>
   rw [q] at e
   dsimp only at e
   have adv:(t.advance p).dummy=p.dummy:=by
    unfold SetTable.advance
    split <;> rfl
   split at e
   ·cases e
   ·have:=ih _ e
    rw [adv] at this
    exact this
theorem B4 {t:SetTable} (hr:qh t.place) {j:Nat} (h:t.slot j=.empty):∀ i,i < t.place.size→t.place.getD i 0 ≠ j:=by
 intro i hi e
 have hb:SetTable.below t.place j=i:=below_at hr (fun k hk=>by rw [← e]; exact hr k i hk hi) (fun _=>by rw [e]; exact Nat.le_refl _) (Nat.le_of_lt hi)
 have q:t.place[SetTable.below t.place j]? = some j:=by
  rw [hb,← e]
  simp [Array.getD,hi]
 unfold SetTable.slot at h
 dsimp only at h
 rw [if_pos (by rw [q]; simp)] at h
 cases h
theorem fZ (t:SetTable) (n:Nat):oG (t.standIn n)∧(t.standIn n).led=t.led:=⟨⟨rfl,fun h=>by cases h⟩,rfl⟩
theorem wk {t:SetTable} (es:Array (Int × Value)) (h:Int) (x:Value) (I:oG t):oG (layNew t es h x).2.1∧(layNew t es h x).2.1.led=t.led:=by
 unfold layNew
 cases e:t.freeSlot h with
 | none=>exact fZ _ _
 | some p =>
  obtain ⟨slot,wd⟩:=p
  dsimp only
  unfold SetTable.freeSlot at e
  cases q:t.probe (fun _=>h + 1) h (t.probeStart h) with
  | none=>rw [q] at e; cases e
  | some m =>
   rw [q] at e
   cases m with
   | candidate a b c=>cases e
   | empty j d =>
    obtain ⟨h1,h2⟩:=wj I.Qs _ _ q
    have h2:d=none:=h2
    subst h2
    have e1:j=slot:=by
     have:=congrArg Prod.fst (Option.some.inj e)
     exact this
    subst e1
    have key:oG (t.put j).1∧(t.put j).1.led=t.led:=by
     refine ⟨⟨?_,fun hp=>?_⟩,rfl⟩
     ·show (if SetTable.has t.dummies j then _ else t.dummies)=#[]
      rw [if_neg (by rw [I.Qs]; simp [SetTable.has])]
      exact I.Qs
     ·exact uY (I.up hp) (B4 (I.up hp) h1)
    unfold SetTable.orStandIn
    split
    ·exact key
    ·exact ⟨(fZ _ _).1,(fZ _ _).2.trans key.2⟩
theorem uZ {β:Type} (g:Nat→Option β):∀ l:List Nat,(l.filterMap fun j=>(g j).map (j,·)).map (·.1)=l.filter fun j=>(g j).isSome
 | []=>rfl
 | a :: r=>by
  have ih:=uZ g r
  cases e:g a with
  | none=>simp [List.filterMap_cons,e,ih]
  | some b=>simp [List.filterMap_cons,e,ih]
theorem sd {t:SetTable} (es:Array (Int × Value)) (n:Nat):oG (relayAll t es n).2.1∧(relayAll t es n).2.1.led=t.led:=by
 unfold relayAll
 cases e:t.relaid (es.map (·.1)) n with
 | none=>exact fZ _ _
 | some p =>
  obtain ⟨t',order⟩:=p
  dsimp only
  split
  ·unfold SetTable.relaid SetTable.laid at e
   cases q:SetTable.layClean (SetTable.sizeAbove n - 1) (es.map (·.1)) with
   | none=>rw [q] at e; cases e
   | some owner =>
    rw [q] at e
    have e:=congrArg Prod.fst (Option.some.inj e)
    dsimp only at e
    subst e
    refine ⟨⟨rfl,fun _=>?_⟩,rfl⟩
    rw [lI]
    dsimp only
    have z:=uZ (fun j=>owner.getD j none) (List.range (SetTable.sizeAbove n - 1 + 1))
    rw [z]
    exact List.pairwise_lt_range.sublist List.filter_sublist
  ·exact fZ _ _
theorem jV {α:Type}:∀ (l:List α) (i:Nat) (h:i < l.length),List.Perm (l[i] :: l.eraseIdx i) l
 | a :: r,0,_=>List.Perm.refl _
 | a :: r,i + 1,h=>by
  have q:=jV r i (by simpa using h)
  show List.Perm (r[i]'(by simpa using h) :: a :: r.eraseIdx i) (a :: r)
  exact (List.Perm.swap _ _ _).trans (q.cons a)
theorem yx {α:Type} (next:Nat→Nat):∀ (n k:Nat) (left:List α) (out:Array α),n=left.length→List.Perm (pickOrder.go next n k left out).toList (out.toList ++ left)
 | 0,k,left,out,h=>by
  have e:left=[]:=List.eq_nil_of_length_eq_zero h.symm
  subst e
  simp [pickOrder.go]
 | n + 1,k,left,out,h=>by
  unfold pickOrder.go
  have hlt:next k % left.length < left.length:=Nat.mod_lt _ (by omega)
  have e:left[next k % left.length]? = some left[next k % left.length]:=List.getElem?_eq_getElem hlt
  rw [e]
  dsimp only
  refine (yx next n (k + 1) _ _ (by rw [List.length_eraseIdx,if_pos hlt]; omega)).trans ?_
  rw [Array.toList_push,List.append_assoc]
  refine List.Perm.append_left _ ?_
  show List.Perm (left[next k % left.length] :: left.eraseIdx (next k % left.length)) left
  exact jV _ _ hlt
theorem zN {α:Type} (next:Nat→Nat) (xs:Array α):List.Perm (pickOrder next xs).toList xs.toList:=by
 have:=yx next xs.size 0 xs.toList #[] (by simp)
 simpa [pickOrder] using this
end SF
namespace SF
open PySem PySem.Calls PyProof.Rows
theorem cm:Slot "set_iterator" "__next__" "set_iterator.__next__" :=
 .of (owner := "set_iterator") (n := "__next__") (by rw [typeLookup_type,builtinLookup_eq_fast]; kernel_rfl) (by decide +kernel) (by decide +kernel) (by decide +kernel)
  (by first | exact .inl (by decide +kernel) | exact .inr (by decide +kernel)) (by rw [isSubtype_type]; kernel_rfl)
theorem fU:entryFor table "set_iterator.__next__" = some Builtin.«set_iterator.__next__»:=entryFor_of_tree (by kernel_rfl)
theorem gB (a:Value):argsOk "set_iterator.__next__" ⟨[a],[]⟩:=by unfold argsOk; kernel_rfl
theorem oH:entryFor table "set.__iter__" = some Builtin.«frozenset.__iter__» :=
 entryFor_alias (id' := "frozenset.__iter__") (by kernel_rfl) rfl (by decide +kernel) (by kernel_rfl)
section
variable {prog:Program} {w:World} {A:Around} {E:Value→Shared→Prop} {s:Shared}
def dy (h:Heap) (a:Addr) (es:Array (Int × Value)) (ep:Nat) (t:SetTable):Prop:=∃ o,h.get? a=some o∧o.ExactSet∧o.data=.set es ep t
def jW (h:Heap) (I:Addr) (first:Value) (i:Nat) (a:Addr) (n ep:Nat):Prop :=
 ∃ o,h.get? I=some o∧o.cls=.type "set_iterator" ∧ o.data=.fields #[first,.int i 0,.ref a,.int n 0,.int ep 0]
theorem jW.typeIs {I:Addr} {first:Value} {i:Nat} {a:Addr} {n ep:Nat} (x:jW s.heap I first i a n ep):s.TypeIs (.ref I) "set_iterator" := let ⟨o,ho,hc,_⟩:=x; ⟨o,ho,hc⟩
theorem B5 {a I:Addr} {es:Array (Int × Value)} {ep:Nat} {t:SetTable} {sl i:Nat} {v:Value} {sl':Nat} {Q:Option Value→Shared→Prop}
  (hs:dy s.heap a es ep t) (hf:t.fits es.size=true) (hi:jW s.heap I (.int sl 0) i a es.size ep)
  (hN:∀ (s:Shared) (A:Around) (E:Value→Shared→Prop) (R:Option (Value × Nat)→Shared→Prop),dy s.heap a es ep t→R (some (v,sl')) s→wpAny (model prog w) A (setNext a sl i ep) R E s)
  (hQ:∀ h',jW h' I (.int sl' 0) (i + 1) a es.size ep→Heap.SameBut I s.heap h'→Q (some v) { s with heap:=h' }):wpAny (model prog w) A (pyNext (.ref I)) Q E s:=by
 obtain ⟨o,ho,hc,hd⟩:=id hi
 obtain ⟨oa,hoa,hex,hda⟩:=id hs
 unfold pyNext
 refine wpAny_bind (wpAny_attempt (wpAny_callSpecial?_slot (name:=Str.ofString "__next__") hi.typeIs cm
  (wpAny_call_entry cm hi.typeIs fU ?_ (gB _))))
 unfold Builtin.«set_iterator.__next__»
 refine wpAny_bind (wpAny_pure ?_)
 refine wpAny_bind (wpAny_fieldsOf ho hd ?_)
 dsimp only
 refine wpAny_bind (wpAny_setEntries_of hoa hda hf ?_)
 rw [if_neg (by simp)]
 simp only [Int.toNat_natCast]
 refine wpAny_bind (hN s _ _ _ hs ?_)
 dsimp only
 refine wpAny_bind (wpAny_setField ho hd (by simp) ?_)
 have ho1:=Heap.get?_update_self (Obj.mapFields (·.setIfInBounds 0 (rawInt (sl':Int)))) ho (Obj.isFreed_of_fields (Obj.data_mapFields hd _))
 have hd1:=Obj.data_mapFields hd (·.setIfInBounds 0 (rawInt (sl':Int)))
 refine wpAny_bind (wpAny_setField ho1 hd1 (by simp) ?_)
 have ho2:=Heap.get?_update_self (Obj.mapFields (·.setIfInBounds 1 (rawInt ((i:Int) + 1)))) ho1 (Obj.isFreed_of_fields (Obj.data_mapFields hd1 _))
 have hd2:=Obj.data_mapFields hd1 (·.setIfInBounds 1 (rawInt ((i:Int) + 1)))
 refine wpAny_pure ⟨_,rfl,wpAny_pure (hQ _ ⟨_,ho2,?_,?_⟩ ((Heap.SameBut.update ..).trans (Heap.SameBut.update ..)))⟩
 ·rw [Obj.cls_mapFields,Obj.cls_mapFields]
  exact hc
 ·rw [hd2]
  simp [rawInt]
theorem end_int {a I:Addr} {es:Array (Int × Value)} {ep:Nat} {t:SetTable} {sl i:Nat} {Q:Option Value→Shared→Prop} (hh:A.handled=none)
  (hs:dy s.heap a es ep t) (hf:t.fits es.size=true) (hi:jW s.heap I (.int sl 0) i a es.size ep)
  (hN:∀ (s:Shared) (A:Around) (E:Value→Shared→Prop) (R:Option (Value × Nat)→Shared→Prop),dy s.heap a es ep t→R none s→wpAny (model prog w) A (setNext a sl i ep) R E s)
  (hQ:∀ h',Heap.ExtBut I s.heap h'→Q none { s with heap:=h' }):wpAny (model prog w) A (pyNext (.ref I)) Q E s:=by
 obtain ⟨o,ho,hc,hd⟩:=id hi
 obtain ⟨oa,hoa,hex,hda⟩:=id hs
 unfold pyNext
 refine wpAny_bind (wpAny_attempt (wpAny_callSpecial?_slot (name:=Str.ofString "__next__") hi.typeIs cm
  (wpAny_call_entry cm hi.typeIs fU ?_ (gB _))))
 unfold Builtin.«set_iterator.__next__»
 refine wpAny_bind (wpAny_pure ?_)
 refine wpAny_bind (wpAny_fieldsOf ho hd ?_)
 dsimp only
 refine wpAny_bind (wpAny_setEntries_of hoa hda hf ?_)
 rw [if_neg (by simp)]
 simp only [Int.toNat_natCast]
 refine wpAny_bind (hN s _ _ _ hs ?_)
 dsimp only
 refine wpAny_bind (wpAny_setField ho hd (by simp) ?_)
 refine wpAny_bind ?_
 simp only [newExc,newTuple]
 refine wpAny_bind (wpAny_newObj_type ?_ (by size_fits))
 refine wpAny_bind (m:=firstArgMember _ _) (wpAny_of_eq (a:=Value.none) (by first | rfl | (simp only [firstArgMember]; rfl)) ?_)
 refine wpAny_newObj_type ?_ (by size_fits)
 simp only [raiseNew]
 refine wpAny_bind (wpAny_handled ?_)
 rw [show A.in1.handled=none from hh]
 refine wpAny_bind (wpAny_pure (wpAny_throw ?_))
 refine wpAny_bind (wpAny_isInstance (T := "StopIteration") (b:=true) ⟨_,Heap.get?_push_size _ rfl,rfl⟩ isSubtype_stop ?_)
 exact wpAny_pure (hQ _ (((Heap.SameBut.update ..).extBut.push _).push _))
theorem wm {a I T:Addr} {es:Array (Int × Value)} {ep:Nat} {t:SetTable} {i p:Nat} {ps:Array Value} {k:Nat} {tk:Tok} {oT:Obj} {c:Int} {v:Value} {Q:Option Value→Shared→Prop}
  (hs:dy s.heap a es ep t) (hf:t.fits es.size=true) (hi:jW s.heap I (.ref T) i a es.size ep) (hT:s.heap.get? T=some oT) (hTd:oT.data=.seq ps k) (hp:ps[i]? = some (.int p tk)) (hv:es[p]? = some (c,v))
  (hQ:∀ h',jW h' I (.ref T) (i + 1) a es.size ep→Heap.SameBut I s.heap h'→Q (some v) { s with heap:=h' }):wpAny (model prog w) A (pyNext (.ref I)) Q E s:=by
 obtain ⟨o,ho,hc,hd⟩:=id hi
 obtain ⟨oa,hoa,hex,hda⟩:=id hs
 unfold pyNext
 refine wpAny_bind (wpAny_attempt (wpAny_callSpecial?_slot (name:=Str.ofString "__next__") hi.typeIs cm
  (wpAny_call_entry cm hi.typeIs fU ?_ (gB _))))
 unfold Builtin.«set_iterator.__next__»
 refine wpAny_bind (wpAny_pure ?_)
 refine wpAny_bind (wpAny_fieldsOf ho hd ?_)
 dsimp only
 refine wpAny_bind (wpAny_setEntries_of hoa hda hf ?_)
 rw [if_neg (by simp)]
 simp only [Int.toNat_natCast]
 refine wpAny_bind ?_
 unfold seqItems?
 refine wpAny_bind (wpAny_load hT ?_)
 rw [hTd]
 refine wpAny_pure ?_
 dsimp only
 rw [hp]
 dsimp only
 refine wpAny_bind ?_
 unfold setNextDrawn
 refine wpAny_bind (wpAny_setState_of hoa hda hf ?_)
 dsimp only
 rw [if_neg (by simp)]
 simp only [Int.toNat_natCast]
 rw [hv]
 refine wpAny_pure ?_
 refine wpAny_bind (wpAny_setField ho hd (by simp) ?_)
 have ho2:=Heap.get?_update_self (Obj.mapFields (·.setIfInBounds 1 (rawInt ((i:Int) + 1)))) ho (Obj.isFreed_of_fields (Obj.data_mapFields hd _))
 have hd2:=Obj.data_mapFields hd (·.setIfInBounds 1 (rawInt ((i:Int) + 1)))
 refine wpAny_pure ⟨_,rfl,wpAny_pure (hQ _ ⟨_,ho2,?_,?_⟩ (Heap.SameBut.update ..))⟩
 ·rw [Obj.cls_mapFields]
  exact hc
 ·rw [hd2]
  simp [rawInt]
theorem zO {a I T:Addr} {es:Array (Int × Value)} {ep:Nat} {t:SetTable} {i:Nat} {ps:Array Value} {k:Nat} {oT:Obj} {Q:Option Value→Shared→Prop} (hh:A.handled=none)
  (hs:dy s.heap a es ep t) (hf:t.fits es.size=true) (hi:jW s.heap I (.ref T) i a es.size ep) (hT:s.heap.get? T=some oT) (hTd:oT.data=.seq ps k) (hp:ps[i]? = none)
  (hQ:∀ h',Heap.ExtBut I s.heap h'→Q none { s with heap:=h' }):wpAny (model prog w) A (pyNext (.ref I)) Q E s:=by
 obtain ⟨o,ho,hc,hd⟩:=id hi
 obtain ⟨oa,hoa,hex,hda⟩:=id hs
 unfold pyNext
 refine wpAny_bind (wpAny_attempt (wpAny_callSpecial?_slot (name:=Str.ofString "__next__") hi.typeIs cm
  (wpAny_call_entry cm hi.typeIs fU ?_ (gB _))))
 unfold Builtin.«set_iterator.__next__»
 refine wpAny_bind (wpAny_pure ?_)
 refine wpAny_bind (wpAny_fieldsOf ho hd ?_)
 dsimp only
 refine wpAny_bind (wpAny_setEntries_of hoa hda hf ?_)
 rw [if_neg (by simp)]
 simp only [Int.toNat_natCast]
 refine wpAny_bind ?_
 unfold seqItems?
 refine wpAny_bind (wpAny_load hT ?_)
 rw [hTd]
 refine wpAny_pure ?_
 dsimp only
 rw [hp]
 dsimp only
 refine wpAny_bind (wpAny_setField ho hd (by simp) ?_)
 have ho1:=Heap.get?_update_self (Obj.mapFields (·.setIfInBounds 0 (rawInt 0))) ho (Obj.isFreed_of_fields (Obj.data_mapFields hd _))
 have hd1:=Obj.data_mapFields hd (·.setIfInBounds 0 (rawInt 0))
 refine wpAny_bind (wpAny_setField ho1 hd1 (by simp) ?_)
 refine wpAny_bind ?_
 simp only [newExc,newTuple]
 refine wpAny_bind (wpAny_newObj_type ?_ (by size_fits))
 refine wpAny_bind (m:=firstArgMember _ _) (wpAny_of_eq (a:=Value.none) (by first | rfl | (simp only [firstArgMember]; rfl)) ?_)
 refine wpAny_newObj_type ?_ (by size_fits)
 simp only [raiseNew]
 refine wpAny_bind (wpAny_handled ?_)
 rw [show A.in1.handled=none from hh]
 refine wpAny_bind (wpAny_pure (wpAny_throw ?_))
 refine wpAny_bind (wpAny_isInstance (T := "StopIteration") (b:=true) ⟨_,Heap.get?_push_size _ rfl,rfl⟩ isSubtype_stop ?_)
 exact wpAny_pure (hQ _ ((((Heap.SameBut.update ..).trans (Heap.SameBut.update ..)).extBut.push _).push _))
theorem kf {a:Addr} {es:Array (Int × Value)} {ep:Nat} {t:SetTable} {sl i:Nat} {R:Option (Value × Nat)→Shared→Prop} (hb:w.params.followText "set-order" = true)
  (hs:dy s.heap a es ep t) (hf:t.fits es.size=true) (h:R (((pickOrder (w.params.setOrder a ep) es)[i]?).map fun e=>(e.2,sl)) s):wpAny (model prog w) A (setNext a sl i ep) R E s:=by
 obtain ⟨o,ho,hex,hd⟩:=id hs
 unfold setNext setsByText
 refine wpAny_bind (wpAny_setState_of ho hd hf ?_)
 dsimp only
 refine wpAny_bind (wpAny_bind (wpAny_askSetting (wpAny_pure ?_)))
 rw [if_pos (show (⟨(model prog w).prog,(model prog w).w.params⟩:Setting).params.followText "set-order" = true from hb),if_neg (by simp)]
 refine wpAny_bind ?_
 unfold setWalk setsByText
 refine wpAny_bind (wpAny_setState_of ho hd hf ?_)
 dsimp only
 refine wpAny_bind (wpAny_bind (wpAny_askSetting (wpAny_pure ?_)))
 rw [if_pos (show (⟨(model prog w).prog,(model prog w).w.params⟩:Setting).params.followText "set-order" = true from hb)]
 exact wpAny_bind (wpAny_askSetting (wpAny_pure (wpAny_pure h)))
theorem jK {a:Addr} {es:Array (Int × Value)} {ep:Nat} {t:SetTable} {sl i:Nat} {R:Option (Value × Nat)→Shared→Prop} (hb:w.params.followText "set-order" = false) (hp:(!t.plain && decide (es.size > 1))=false) (hl:t.led=true)
  (hs:dy s.heap a es ep t) (hf:t.fits es.size=true)
  (h:R (match es[SetTable.below t.place sl]?,t.place[SetTable.below t.place sl]? with | some (_,x),some j=>some (x,j + 1) | _,_=>none) s):wpAny (model prog w) A (setNext a sl i ep) R E s:=by
 obtain ⟨o,ho,hex,hd⟩:=id hs
 unfold setNext setsByText
 refine wpAny_bind (wpAny_setState_of ho hd hf ?_)
 dsimp only
 refine wpAny_bind (wpAny_bind (wpAny_askSetting (wpAny_pure ?_)))
 rw [if_neg (show ¬ (⟨(model prog w).prog,(model prog w).w.params⟩:Setting).params.followText "set-order" = true from by show ¬ w.params.followText "set-order" = true; rw [hb]; exact Bool.false_ne_true)]
 refine wpAny_ite_split (fun hab=>absurd (show (!t.plain && decide (es.size > 1))=true from hab) (by rw [hp]; exact Bool.false_ne_true)) (fun _=>?_)
 refine wpAny_bind ?_
 show wpAny (model prog w) A (if (!t.led && !es.isEmpty)=true then unsupported "set:maker-not-led" else pure ()) _ _ s
 rw [if_neg (by rw [hl]; simp)]
 exact wpAny_pure (wpAny_pure h)
theorem sg {src:Source} {n:Nat} {Q:Nat→Shared→Prop} (hn:0 < n) (h:∀ i d,i < n→Q i { s with drawn:=d }):wpAny (model prog w) A (choose src n) Q E s:=fun _ _ _ =>
 ⟨Nat.ne_of_gt hn,h _ _ (Nat.mod_lt _ hn)⟩
theorem jb:∀ (n:Nat) (l:List Nat) (s:Shared) {Q:List Nat→Shared→Prop},n=l.length→(∀ r d,List.Perm r l→Q r { s with drawn:=d })→wpAny (model prog w) A (drawOrder n l) Q E s
 | 0,l,s,Q,hn,h=>by
  have e:l=[]:=List.eq_nil_of_length_eq_zero hn.symm
  subst e
  exact wpAny_pure (h [] s.drawn (List.Perm.refl _))
 | n + 1,[],s,Q,hn,h=>by cases hn
 | n + 1,x :: r,s,Q,hn,h=>by
  unfold drawOrder
  refine wpAny_bind (sg (by simp) fun i d hi=>?_)
  have e:(x :: r)[i]? = some (x :: r)[i]:=List.getElem?_eq_getElem hi
  rw [e]
  dsimp only
  refine wpAny_bind (jb n _ _ (by rw [List.length_eraseIdx,if_pos hi]; omega) fun q d' hq=>wpAny_pure ?_)
  exact h _ d' ((hq.cons _).trans (jV _ _ hi))
structure SI (prog:Program) (w:World) (s:Shared) (a:Addr) (es:Array (Int × Value)) (ep:Nat) (t:SetTable):Prop where
 hs:dy s.heap a es ep t
 fit:t.fits es.size=true
 inv:oG t
 led:w.params.followText "set-order" = true∨t.led=true
theorem dy.typeIs {a:Addr} {es:Array (Int × Value)} {ep:Nat} {t:SetTable} (x:dy s.heap a es ep t):s.TypeIs (.ref a) "set" := let ⟨o,ho,hc,_⟩:=x; ⟨o,ho,hc.1⟩
theorem dy.lt {h:Heap} {a:Addr} {es:Array (Int × Value)} {ep:Nat} {t:SetTable} (x:dy h a es ep t):a < h.objs.size:=let ⟨o,ho,_⟩:=x; Heap.lt_size ho
theorem dy.at {h h':Heap} {a:Addr} {es:Array (Int × Value)} {ep:Nat} {t:SetTable} (x:dy h a es ep t) (e:∀ o,h.get? a=some o→h'.get? a=some o):dy h' a es ep t:=let ⟨o,ho,r⟩:=x; ⟨o,e _ ho,r⟩
theorem jW.at {h h':Heap} {I:Addr} {first:Value} {i:Nat} {a:Addr} {n ep:Nat} (x:jW h I first i a n ep) (e:∀ o,h.get? I=some o→h'.get? I=some o):jW h' I first i a n ep:=let ⟨o,ho,r⟩:=x; ⟨o,e _ ho,r⟩
theorem kg:Slot "set_iterator" "__iter__" "set_iterator.__iter__" :=
 .of (owner := "set_iterator") (n := "__iter__") (by rw [typeLookup_type,builtinLookup_eq_fast]; kernel_rfl) (by decide +kernel) (by decide +kernel) (by decide +kernel)
  (by first | exact .inl (by decide +kernel) | exact .inr (by decide +kernel)) (by rw [isSubtype_type]; kernel_rfl)
theorem B6 {a:Addr} {es:Array (Int × Value)} {ep:Nat} {t:SetTable} {Q:Value→Shared→Prop} (S:SI prog w s a es ep t) (hsz:es.size ≤ sizeLine)
  (h1:(w.params.followText "set-order" = true∨(!t.plain && decide (es.size > 1))=false)→Q (.ref s.heap.objs.size) { s with heap:=s.heap.push { cls:=.type "set_iterator",data:=.fields #[.int 0 0,.int 0 0,.ref a,.int es.size 0,.int ep 0] } })
  (h2:∀ (r:List Nat) (d:Drawn),List.Perm r (List.range es.size)→Q (.ref (s.heap.objs.size + 1)) { s with drawn:=d,heap:=(s.heap.push { cls:=.type "tuple",data:=.seq ((r.map fun (i:Nat)=>rawInt i).toArray) }).push { cls:=.type "set_iterator",data:=.fields #[.ref s.heap.objs.size,.int 0 0,.ref a,.int es.size 0,.int ep 0] } }) :
  wpAny (model prog w) A (pyIter (.ref a)) Q E s:=by
 obtain ⟨o,ho,hex,hd⟩:=id S.hs
 refine wpAny_pyIter_slot S.hs.typeIs PySem.F.slot_set_iter (wpAny_call_entry PySem.F.slot_set_iter S.hs.typeIs oH ?_ (PySem.F.args_set_iter_1 _))
 unfold Builtin.«frozenset.__iter__» Builtin.Frozenset.slot0
 refine wpAny_bind (wpAny_bind (wpAny_pure (wpAny_pure ?_)))
 refine wpAny_bind ?_
 unfold Builtin.Frozenset.sizeOf
 refine wpAny_bind (wpAny_setEntries_of ho hd S.fit (wpAny_pure ?_))
 refine wpAny_bind ?_
 unfold setDrawn setsByText
 refine wpAny_bind (wpAny_setState_of ho hd S.fit ?_)
 dsimp only
 refine wpAny_bind (wpAny_bind (wpAny_askSetting (wpAny_pure ?_)))
 refine wpAny_pure ?_
 dsimp only
 by_cases hb:w.params.followText "set-order" = true
 ·refine wpAny_ite_split (fun hab=>?_) (fun _=>?_)
  ·have hab:(!w.params.followText "set-order" && _)=true:=hab
   rw [hb] at hab
   exact absurd hab (by simp)
  ·refine wpAny_bind (wpAny_pure ?_)
   refine wpAny_bind (wpAny_setEpoch_of ho hd S.fit ?_)
   refine wpAny_bind (wpAny_newObj_type ?_)
   exact wpAny_pure ⟨_,rfl, "set_iterator",_,⟨_,Heap.get?_push_size _ rfl,rfl⟩,cm.lookup,h1 (.inl hb)⟩
 ·have hb':w.params.followText "set-order" = false:=by simpa using hb
  refine wpAny_ite_split (fun hab=>?_) (fun hab=>?_)
  ·refine wpAny_bind (jb _ _ _ (by simp) fun r d hr=>?_)
   refine wpAny_bind (wpAny_newObj_type ?_ ?_)
   ·refine wpAny_bind (wpAny_setEpoch_of (Heap.get?_push_of_some _ ho) hd S.fit ?_)
    refine wpAny_bind (wpAny_newObj_type ?_)
    have hz:=h2 r d hr
    rw [← size_push' s.heap { cls:=.type "tuple",data:=.seq ((r.map fun (i:Nat)=>rawInt i).toArray) }] at hz
    exact wpAny_pure ⟨_,rfl, "set_iterator",_,⟨_,Heap.get?_push_size _ rfl,rfl⟩,cm.lookup,hz⟩
   ·have hl:r.length=es.size:=by rw [hr.length_eq,List.length_range]
    show (List.map _ r).toArray.size ≤ _
    rw [List.size_toArray,List.length_map,hl]
    omega
  ·refine wpAny_bind (wpAny_pure ?_)
   refine wpAny_bind (wpAny_setEpoch_of ho hd S.fit ?_)
   refine wpAny_bind (wpAny_newObj_type ?_)
   refine wpAny_pure ⟨_,rfl, "set_iterator",_,⟨_,Heap.get?_push_size _ rfl,rfl⟩,cm.lookup,h1 (.inr ?_)⟩
   have hab:¬ ((!w.params.followText "set-order" && (!t.plain && decide (es.size > 1)))=true):=hab
   rw [hb'] at hab
   simpa using hab
theorem qj:entryFor table "set_iterator.__iter__" = some Builtin.«dict_keyiterator.__iter__» :=
 entryFor_alias (id' := "dict_keyiterator.__iter__") (by kernel_rfl) rfl (by decide +kernel) (by kernel_rfl)
theorem sh (a:Value):argsOk "set_iterator.__iter__" ⟨[a],[]⟩:=by unfold argsOk; kernel_rfl
theorem yz {I:Addr} {first:Value} {i:Nat} {a:Addr} {n ep:Nat} {Q:Value→Shared→Prop} (hi:jW s.heap I first i a n ep) (h:Q (.ref I) s):wpAny (model prog w) A (pyIter (.ref I)) Q E s:=by
 refine wpAny_pyIter_slot hi.typeIs kg (wpAny_call_entry kg hi.typeIs qj ?_ (sh _))
 show wpAny _ _ (ret (.ref I)) _ _ s
 exact wpAny_pure ⟨_,rfl, "set_iterator",_,hi.typeIs,cm.lookup,h⟩
theorem qS (hh:A.handled=none) {a I:Addr} (hne:a ≠ I) {es:Array (Int × Value)} {ep:Nat} {t:SetTable} (hf:t.fits es.size=true) (order:List Value) (hl:order.length=es.size) (sl:Nat→Nat)
  (hN:∀ (i:Nat) (v:Value),order[i]? = some v→∀ (s:Shared) (A:Around) (E:Value→Shared→Prop) (R:Option (Value × Nat)→Shared→Prop),dy s.heap a es ep t→R (some (v,sl (i + 1))) s→wpAny (model prog w) A (setNext a (sl i) i ep) R E s)
  (hE:∀ (s:Shared) (A:Around) (E:Value→Shared→Prop) (R:Option (Value × Nat)→Shared→Prop),dy s.heap a es ep t→R none s→wpAny (model prog w) A (setNext a (sl es.size) es.size ep) R E s) :
  Walks prog w A I [I,a] [I] es.size (fun i v=>order[i]? = some v) (fun i h=>dy h a es ep t∧jW h I (.int (sl i) 0) i a es.size ep) where
 sub:=fun b hb=>by simp at hb; simp [hb]
 frame:=fun _ _ _ st hk=>⟨st.1.at fun o e=>hk a (by simp) o e,st.2.at fun o e=>hk I (by simp) o e⟩
 item:=fun i s Q E hi st hQ=>by
  obtain ⟨v,hv⟩:∃ v,order[i]? = some v:=⟨order[i]'(by omega),by simp [hl,hi]⟩
  refine B5 st.1 hf st.2 (hN i v hv) fun h' h1 h2=>?_
  exact hQ v h' s.toks hv ⟨st.1.at fun o e=>h2.extBut a o hne e,h1⟩ fun b o hb e=>h2.extBut b o (fun z=>hb (by simp [z])) e
 done:=fun s Q E st hQ=>end_int hh st.1 hf st.2 hE fun h' he=>hQ h' s.toks fun b o hb e=>he b o (fun z=>hb (by simp [z])) e
 self:=fun _ _ _ _ st hQ=>yz st.2 hQ
theorem u0 (hh:A.handled=none) {a I T:Addr} (hne:a ≠ I) (hnT:T ≠ I) {es:Array (Int × Value)} {ep:Nat} {t:SetTable} (hf:t.fits es.size=true) (r:List Nat) (hr:List.Perm r (List.range es.size)) {oT:Obj} (hTd:oT.data=.seq ((r.map fun (i:Nat)=>rawInt i).toArray)) :
  Walks prog w A I [I,a,T] [I] es.size (fun i v=>(r.map fun p=>((es[p]?).getD default).2)[i]? = some v) (fun i h=>dy h a es ep t∧jW h I (.ref T) i a es.size ep∧h.get? T=some oT) where
 sub:=fun b hb=>by simp at hb; simp [hb]
 frame:=fun _ _ _ st hk=>⟨st.1.at fun o e=>hk a (by simp) o e,st.2.1.at fun o e=>hk I (by simp) o e,hk T (by simp) _ st.2.2⟩
 item:=fun i s Q E hi st hQ=>by
  have hl:r.length=es.size:=by rw [hr.length_eq,List.length_range]
  have hi':i < r.length:=by omega
  have hp:r[i] < es.size:=List.mem_range.mp (hr.mem_iff.mp (List.getElem_mem hi'))
  have e1:r[i]? = some r[i]:=List.getElem?_eq_getElem hi'
  have e2:es[r[i]]? = some (es[r[i]].1,es[r[i]].2):=by simp [hp]
  have hv:(r.map fun p=>((es[p]?).getD default).2)[i]? = some es[r[i]].2:=by
   rw [List.getElem?_map,e1]
   show some ((es[r[i]]?).getD default).2=_
   rw [e2]
   rfl
  refine wm (p:=r[i]) (tk:=0) st.1 hf st.2.1 st.2.2 hTd (by simp [rawInt,e1]) e2 fun h' h1 h2=>?_
  exact hQ _ h' s.toks hv ⟨st.1.at fun o e=>h2.extBut a o hne e,h1,h2.extBut T _ hnT st.2.2⟩ fun b o hb e=>h2.extBut b o (fun z=>hb (by simp [z])) e
 done:=fun s Q E st hQ=>by
  have hl:r.length=es.size:=by rw [hr.length_eq,List.length_range]
  exact zO hh st.1 hf st.2.1 st.2.2 hTd (by simp [hl]) fun h' he=>hQ h' s.toks fun b o hb e=>he b o (fun z=>hb (by simp [z])) e
 self:=fun _ _ _ _ st hQ=>yz st.2.1 hQ
def JJ (t:SetTable) (i:Nat):Nat:=if i=0 then 0 else t.place.getD (i - 1) 0 + 1
theorem u3 {t:SetTable} (hr:qh t.place) {i:Nat} (hi:i ≤ t.place.size):SetTable.below t.place (JJ t i)=i:=by
 unfold JJ
 cases i with
 | zero=>exact below_at hr (fun k hk=>absurd hk (Nat.not_lt_zero _)) (fun _=>by simp) (Nat.zero_le _)
 | succ i =>
  rw [if_neg (by omega)]
  show SetTable.below t.place (t.place.getD i 0 + 1)=i + 1
  refine below_at hr (fun k hk=>?_) (fun h=>hr i (i + 1) (Nat.lt_succ_self _) h) hi
  rcases Nat.lt_or_ge k i with q | q
  ·have:=hr k i q (by omega)
   omega
  ·have e:k=i:=by omega
   rw [e]; omega
theorem wo (hh:A.handled=none) {a:Addr} {es:Array (Int × Value)} {ep:Nat} {t:SetTable} {Q:Value→Shared→Prop} (S:SI prog w s a es ep t) (hsz:es.size ≤ sizeLine)
  (h:∀ (I:Addr) (fp:List Addr) (order:List Value) (St:Nat→Heap→Prop) (h':Heap) (d:Drawn),List.Perm order (es.toList.map (·.2))→(∀ b ∈ fp,b < h'.objs.size)→s.heap.objs.size ≤ I→I ∈ fp→(∀ b ∈ fp,b=a∨s.heap.objs.size ≤ b)→Walks prog w A I fp [I] es.size (fun i v=>order[i]? = some v) St→St 0 h' →
   (∀ b o,s.heap.get? b=some o→h'.get? b=some o)→Q (.ref I) { s with heap:=h',drawn:=d }):wpAny (model prog w) A (pyIter (.ref a)) Q E s:=by
 have hlt:@LT.lt Nat _ a s.heap.objs.size:=S.hs.lt
 have hpl:t.place.size=es.size:=by
  have:=S.fit
  simp only [SetTable.fits,Bool.and_eq_true,beq_iff_eq] at this
  exact this.1
 refine B6 S hsz (fun hm=>?_) (fun r d hr=>?_)
 ·have hI:a ≠ s.heap.objs.size:=Nat.ne_of_lt hlt
  have fpl:∀ b ∈ [s.heap.objs.size,a],b < (s.heap.push { cls:=.type "set_iterator",data:=.fields #[.int 0 0,.int 0 0,.ref a,.int es.size 0,.int ep 0] }).objs.size:=fun b hb=>by
   rw [size_push']
   simp at hb
   rcases hb with e | e
   ·rw [e]; exact Nat.lt_succ_self _
   ·rw [e]; exact Nat.lt_succ_of_lt hlt
  have st0:dy (s.heap.push { cls:=.type "set_iterator",data:=.fields #[.int 0 0,.int 0 0,.ref a,.int es.size 0,.int ep 0] }) a es ep t:=S.hs.at fun o e=>Heap.get?_push_of_some _ e
  have si0:jW (s.heap.push { cls:=.type "set_iterator",data:=.fields #[.int 0 0,.int 0 0,.ref a,.int es.size 0,.int ep 0] }) s.heap.objs.size (.int (0:Nat) 0) 0 a es.size ep:=⟨_,Heap.get?_push_size _ rfl,rfl,rfl⟩
  by_cases hb:w.params.followText "set-order" = true
  ·have hp:=zN (w.params.setOrder a ep) es
   have hpl':(pickOrder (w.params.setOrder a ep) es).size=es.size:=by rw [← Array.length_toList,hp.length_eq,Array.length_toList]
   refine h s.heap.objs.size _ ((pickOrder (w.params.setOrder a ep) es).toList.map (·.2)) _ _ s.drawn (hp.map _) fpl (Nat.le_refl _) (by simp) (fun b hb=>by simp at hb; rcases hb with e | e <;> subst e <;> simp)
    (qS hh hI S.fit _ (by rw [List.length_map,Array.length_toList]; exact hpl') (fun _=>0) (fun i v hv s' A' E' R hs' hR=>?_) (fun s' A' E' R hs' hR=>?_)) ⟨st0,si0⟩ (fun b o e=>Heap.get?_push_of_some _ e)
   ·refine kf hb hs' S.fit ?_
    rw [List.getElem?_map,Array.getElem?_toList] at hv
    cases q:(pickOrder (w.params.setOrder a ep) es)[i]? with
    | none=>rw [q] at hv; cases hv
    | some x=>rw [q] at hv; cases hv; exact hR
   ·refine kf hb hs' S.fit ?_
    rw [Array.getElem?_eq_none (by omega)]
    exact hR
  ·have hb':w.params.followText "set-order" = false:=by simpa using hb
   have hp:(!t.plain && decide (es.size > 1))=false:=hm.resolve_left hb
   have zP:t.led=true:=S.led.resolve_left hb
   have hr:qh t.place:=by
    cases q:t.plain with
    | true=>exact S.inv.up q
    | false =>
     rw [q] at hp
     intro i k hik hk
     have:¬ es.size > 1:=by simpa using hp
     omega
   refine h s.heap.objs.size _ (es.toList.map (·.2)) _ _ s.drawn (List.Perm.refl _) fpl (Nat.le_refl _) (by simp) (fun b hb=>by simp at hb; rcases hb with e | e <;> subst e <;> simp)
    (qS hh hI S.fit _ (by rw [List.length_map,Array.length_toList]) (JJ t) (fun i v hv s' A' E' R hs' hR=>?_) (fun s' A' E' R hs' hR=>?_)) ⟨st0,si0⟩ (fun b o e=>Heap.get?_push_of_some _ e)
   ·refine jK hb' hp zP hs' S.fit ?_
    rw [List.getElem?_map,Array.getElem?_toList] at hv
    cases q:es[i]? with
    | none=>rw [q] at hv; cases hv
    | some x =>
     rw [q] at hv; cases hv
     have hi:i < es.size:=by
      rcases Nat.lt_or_ge i es.size with z | z
      ·exact z
      ·rw [Array.getElem?_eq_none z] at q; cases q
     have e2:t.place[i]? = some (t.place.getD i 0):=by simp [Array.getD,hpl,hi]
     rw [u3 hr (by omega),q,e2]
     exact hR
   ·refine jK hb' hp zP hs' S.fit ?_
    rw [u3 hr (by omega),Array.getElem?_eq_none (Nat.le_refl _)]
    exact hR
 ·have hl:r.length=es.size:=by rw [hr.length_eq,List.length_range]
  have k1:∀ b o,s.heap.get? b=some o→((s.heap.push { cls:=.type "tuple",data:=.seq ((r.map fun (i:Nat)=>rawInt i).toArray) }).push { cls:=.type "set_iterator",data:=.fields #[.ref s.heap.objs.size,.int 0 0,.ref a,.int es.size 0,.int ep 0] }).get? b=some o:=fun b o e =>
   Heap.get?_push_of_some _ (Heap.get?_push_of_some _ e)
  have hs2:(s.heap.push { cls:=.type "tuple",data:=.seq ((r.map fun (i:Nat)=>rawInt i).toArray) }).objs.size=s.heap.objs.size + 1:=size_push' _ _
  have e1:(r.map fun p=>((es[p]?).getD default).2).Perm (es.toList.map (·.2)):=by
   refine (hr.map _).trans ?_
   have:(List.range es.size).map (fun p=>((es[p]?).getD default).2)=es.toList.map (·.2):=by
    apply List.ext_getElem
    ·simp
    ·intro i h1 h2
     simp at h1 h2
     simp [h1]
   rw [this]
  refine h (s.heap.objs.size + 1) _ _ _ _ d e1 (fun b hb=>?_) (Nat.le_succ _) ?_ (fun b hb=>?_) (u0 (T:=s.heap.objs.size) (oT:={ cls:=.type "tuple",data:=.seq ((r.map fun (i:Nat)=>rawInt i).toArray) }) hh (Nat.ne_of_lt (Nat.lt_succ_of_lt hlt)) (Nat.ne_of_lt (Nat.lt_succ_self _)) S.fit r hr rfl)
   ⟨S.hs.at fun o e=>k1 a o e,⟨{ cls:=.type "set_iterator",data:=.fields #[.ref s.heap.objs.size,.int 0 0,.ref a,.int es.size 0,.int ep 0] },?_,rfl,rfl⟩,?_⟩ k1
  ·rw [size_push',hs2]
   simp at hb
   rcases hb with e | e | e
   ·rw [e]; exact Nat.lt_succ_self _
   ·rw [e]; exact Nat.lt_succ_of_lt (Nat.lt_succ_of_lt hlt)
   ·rw [e]; exact Nat.lt_succ_of_lt (Nat.lt_succ_self _)
  ·simp
  ·simp at hb
   rcases hb with e | e | e
   ·exact .inr (by rw [e]; exact Nat.le_succ _)
   ·exact .inl e
   ·exact .inr (by rw [e]; exact Nat.le_refl _)
  ·rw [show s.heap.objs.size.succ=_ from hs2.symm]
   exact Heap.get?_push_size _ rfl
  ·exact Heap.get?_push_of_some _ (Heap.get?_push_size _ rfl)
theorem B7 (hT:s.TypeIs (.ref r) "set") {Q:Bool→Shared→Prop} (h:Q false s):wpAny (model prog w) A (Builtin.List.listLengthHint (.ref r)) Q E s:=by
 unfold Builtin.List.listLengthHint
 refine wpAny_bind (wpAny_specialOf hT PySem.F.slot_set_len.lookup ?_)
 generalize hid:("set.__len__" : String)=id0
 wp_delta
 rw [show splitId id0=some ("set", "__len__") from by subst hid; decide +kernel]
 subst hid
 refine wpAny_bind (wpAny_isInstance (T := "set") (b:=true) hT (by rw [isSubtype_type]; kernel_rfl) ?_)
 refine wpAny_ite_split (fun hab=>absurd hab (by decide)) (fun _=>?_)
 refine wpAny_ite_split (fun _=>?_) (fun hab=>absurd (by decide +kernel) hab)
 refine wpAny_bind (wpAny_typeOf hT ?_)
 exact wpAny_pure h
end
section
variable {prog:Program} {w:World} {A:Around} {E:Value→Shared→Prop} {s:Shared}
theorem wq (hh:A.handled=none) {a S:Addr} {es:Array (Int × Value)} {ep:Nat} {t:SetTable} {R:Result→Shared→Prop} (hS:SI prog w s a es ep t) (hsz:es.size ≤ sizeLine) (hne:S ≠ a) (res:Value) (c0:Nat)
  (hL:s.heap.get? S=some { cls:=.type "list",data:=.seq #[] c0 })
  (hR:∀ h' d tk (acc:Array Value) (order:List Value) c',(∀ b o,b ≠ S→s.heap.get? b=some o→h'.get? b=some o)→h'.get? S=some { cls:=.type "list",dict:=none,data:=.seq acc c',slots:=#[] } →
   List.Perm order (es.toList.map (·.2))→acc.toList=order→R (.ok (.ret res)) { s with heap:=h',toks:=tk,drawn:=d }) :
  wpAny (model prog w) A.in1 (Builtin.List.listExtendWith (.ref S) (.ref a) res)
   (fun fin s'=>match fin with | .done f=>R (.ok f) s' | .again c'=>c'.quiet=true∧codeAny (model prog w) A c' R s') (fun e s'=>R (.error e) s') s:=by
 unfold Builtin.List.listExtendWith
 refine wpAny_bind (wpAny_typeOf (T := "set") hS.hs.typeIs ?_)
 have h1:Builtin.List.listSameRef (.ref S) (.ref a)=false:=by simp [Builtin.List.listSameRef,hne]
 rw [if_neg (by rw [h1]; decide)]
 refine wpAny_bind (wo (A:=A.in1) hh hS hsz fun I fp order St h' d hp hfl hI hIm hfp W st hk=>?_)
 have Rr:=Heap.lt_size hL
 have hSf:S ∉ fp:=fun hm=>by
  rcases hfp S hm with e | e
  ·exact hne e
  ·exact absurd (Nat.lt_of_lt_of_le Rr e) (Nat.lt_irrefl _)
 have hol:order.length=es.size:=by rw [hp.length_eq,List.length_map,Array.length_toList]
 have key:∀ (h2:Heap) (c1 tk:Nat),St 0 h2→(∀ b o,b ≠ S→s.heap.get? b=some o→h2.get? b=some o)→h2.get? S=some { cls:=.type "list",data:=.seq #[] c1 } →
   codeAny (model prog w) A (.builtin "list.extend.loop" ⟨[.ref S,.ref I,res],[]⟩) R { s with heap:=h2,toks:=tk,drawn:=d }:=by
  intro h2 c1 tk hst hk2 hS1
  refine codeAny_extend_loopS W.toS hsz S hSf res es.size 0 _ #[] c1 rfl (Nat.zero_le _) hst hS1 (ItemsOf.nil _) fun s' acc' c' hm hS' hacc=>?_
  rw [Moved.eq_with hm]
  refine hR s'.heap d s'.toks acc' order c' (fun b o hb e=>hm.heap b o (fun hmem=>?_) (hk2 b o hb e)) hS' hp ?_
  ·rcases List.mem_cons.mp hmem with e' | hmem
   ·exact hb e'
   ·rw [List.mem_singleton.mp hmem] at e
    exact absurd (Heap.lt_size e) (Nat.not_lt.mpr hI)
  ·apply List.ext_getElem?
   intro i
   rw [Array.getElem?_toList]
   cases q:acc'[i]? with
   | none =>
    have:acc'.size ≤ i:=by
     rcases Nat.lt_or_ge i acc'.size with z | z
     ·rw [Array.getElem?_eq_getElem z] at q; cases q
     ·exact z
    rw [hacc.1] at this
    rw [List.getElem?_eq_none (by omega)]
   | some v=>exact (hacc.2 i v q).symm
 refine wpAny_bind (wpAny_holding (B7 (s:={ s with heap:=h',drawn:=d }) (dy.typeIs (s:={ s with heap:=h',drawn:=d }) (hS.hs.at fun o e=>hk a o e)) ?_))
 have hS1:=hk _ _ hL
 refine wpAny_ite_split (fun _=>?_) (fun _=>wpAny_pure ⟨plainId_quiet PySem.F.plain_extend_loop _,key _ c0 _ st (fun b o _ e=>hk b o e) hS1⟩)
 refine wpAny_bind (wpAny_rule ?_)
 refine wpAny_bind ?_
 show wpAny _ _ (updateSeq S (·.push .none) >>= fun _=>updateSeq S (·.pop)) _ _ _
 refine wpAny_bind (wpAny_updateSeq hS1 rfl ?_)
 have hS2:=Heap.get?_update_self (Obj.mapSeq (·.push Value.none)) hS1 rfl
 refine wpAny_updateSeq (hz:=by seq_fits) hS2 rfl ?_
 have hS3:=Heap.get?_update_self (Obj.mapSeq (·.pop)) hS2 rfl
 refine wpAny_pure ⟨plainId_quiet PySem.F.plain_extend_loop _,key _ _ _ ?_ (fun b o hb e=>?_) hS3⟩
 ·refine W.frame 0 _ _ st fun b hb o e=>?_
  have hbS:b ≠ S:=fun h=>hSf (h ▸ hb)
  exact (Heap.get?_update_other _ _ (Ne.symm hbS)).trans ((Heap.get?_update_other _ _ (Ne.symm hbS)).trans e)
 ·exact (Heap.get?_update_other _ _ (Ne.symm hb)).trans ((Heap.get?_update_other _ _ (Ne.symm hb)).trans (hk b o e))
theorem u5 (hh:A.handled=none) {a:Addr} {es:Array (Int × Value)} {ep:Nat} {t:SetTable} {R:List Value→Shared→Prop} (hS:SI prog w s a es ep t) (hsz:es.size ≤ sizeLine)
  (h:∀ h' d tk (order:List Value),s.heap.objs.size < h'.objs.size→(∀ b o,s.heap.get? b=some o→h'.get? b=some o)→List.Perm order (es.toList.map (·.2))→R order { s with heap:=h',toks:=tk,drawn:=d }) :
  wpAny (model prog w) A (collect (.ref a)) R E s:=by
 have hlt:@LT.lt Nat _ a s.heap.objs.size:=hS.hs.lt
 unfold collect
 refine wpAny_bind (wpAny_runValue (codeAny_builtin entry_proto_collect' ?_))
 rw [Around.under_plainId PySem.F.plain_proto_collect _]
 show wpAny _ A.in1 (newList [] >>= fun l=>again (.builtin "list.__iadd__" ⟨[l,.ref a],[]⟩)) _ _ s
 refine wpAny_bind (wpAny_newObj_type ?_)
 refine wpAny_pure ⟨plainId_quiet PySem.F.plain_list_iadd _,codeAny_builtin entry_list_iadd' ?_⟩
 rw [Around.under_plainId PySem.F.plain_list_iadd _]
 have hS1:(s.heap.push { cls:=.type "list",data:=.seq ([]:List Value).toArray }).get? s.heap.objs.size=some { cls:=.type "list",data:=.seq #[] }:=Heap.get?_push_size _ rfl
 show wpAny _ A.in1 (Builtin.List.listExtendWith (.ref s.heap.objs.size) (.ref a) (.ref s.heap.objs.size)) _ _ _
 have S':SI prog w { s with heap:=s.heap.push { cls:=.type "list",data:=.seq ([]:List Value).toArray } } a es ep t:=⟨hS.hs.at fun o e=>Heap.get?_push_of_some _ e,hS.fit,hS.inv,hS.led⟩
 have key:=wq (A:=A) (R:=fun (q:Result) (s':Shared)=>∃ (h':Heap) (d:Drawn) (tk:Nat) (acc:Array Value) (order:List Value) (c':Nat),q=.ok (.ret (.ref s.heap.objs.size))∧s'={ s with heap:=h',toks:=tk,drawn:=d } ∧
   (∀ b o,s.heap.get? b=some o→h'.get? b=some o)∧h'.get? s.heap.objs.size=some { cls:=.type "list",dict:=none,data:=.seq acc c',slots:=#[] }∧List.Perm order (es.toList.map (·.2))∧acc.toList=order)
  hh S' hsz (Nat.ne_of_gt hlt) (.ref s.heap.objs.size) 0 hS1
  (fun h' d tk acc order c' hk hL hp ha=>⟨h',d,tk,acc,order,c',rfl,rfl,fun b o e=>hk b o (Nat.ne_of_lt (Heap.lt_size e)) (Heap.get?_push_of_some _ e),hL,hp,ha⟩)
 refine wpAny_mono key (fun fin s' x=>?_) fun e s' x=>?_
 ·cases fin with
  | done f =>
   obtain ⟨h',d,tk,acc,order,c',e,rfl,hk,hL,hp,ha⟩:=x
   cases e
   show wpAny _ A (load s.heap.objs.size >>= _) _ _ _
   refine wpAny_bind (wpAny_load hL ?_)
   refine wpAny_pure ?_
   rw [ha]
   exact h h' d tk order (Heap.lt_size hL) hk hp
  | again c1 =>
   refine ⟨x.1,codeAny_mono x.2 fun q s2 y=>?_⟩
   obtain ⟨h',d,tk,acc,order,c',rfl,rfl,hk,hL,hp,ha⟩:=y
   show wpAny _ A (load s.heap.objs.size >>= _) _ _ _
   refine wpAny_bind (wpAny_load hL ?_)
   refine wpAny_pure ?_
   rw [ha]
   exact h h' d tk order (Heap.lt_size hL) hk hp
 ·obtain ⟨_,_,_,_,_,_,e',_⟩:=x
  cases e'
theorem lJ:∀ {us vs:List Value},List.Perm us vs→∀ {ns:List Int},IntsAre vs ns→∃ ms,IntsAre us ms∧List.Perm ms ns:=by
 intro us vs hp
 induction hp with
 | nil=>intro ns h; cases h; exact ⟨[],.nil,.nil⟩
 | cons x _ ih =>
  intro ns h
  cases h with
  | cons n t r =>
   obtain ⟨ms,h1,h2⟩:=ih r
   exact ⟨n :: ms,.cons n t h1,h2.cons _⟩
 | swap x y l =>
  intro ns h
  cases h with
  | cons n t r =>
   cases r with
   | cons n' t' r'=>exact ⟨_,.cons _ _ (.cons _ _ r'),List.Perm.swap _ _ _⟩
 | trans _ _ ih1 ih2 =>
  intro ns h
  obtain ⟨ms,h1,h2⟩:=ih2 h
  obtain ⟨Ep,h3,h4⟩:=ih1 h1
  exact ⟨Ep,h3,h4.trans h2⟩
theorem wu (hh:A.handled=none) {a:Addr} {es:Array (Int × Value)} {ep:Nat} {t:SetTable} {ns:List Int} {Q:Value→Shared→Prop} (hS:SI prog w s a es ep t) (hI:IntsAre (es.toList.map (·.2)) ns) (h64:ns.length < 64)
  (h:∀ (D:Addr) (h':Heap) (d:Drawn) (tk:Nat) (out:Array Value) (ms:List Int) (c:Nat),s.heap.objs.size ≤ D→(∀ b o,s.heap.get? b=some o→h'.get? b=some o)→h'.get? D=some { cls:=.type "list",data:=.seq out c }→IntsAre out.toList ms→ms.Perm ns→ms.Pairwise (· ≤ ·) →
   Q (.ref D) { s with heap:=h',toks:=tk,drawn:=d }) :
  wpAny (model prog w) A (call (.builtin "sorted") [.ref a]) Q E s:=by
 have hl:es.size=ns.length:=by rw [← IntsAre.length hI,List.length_map,Array.length_toList]
 have hsz:es.size ≤ sizeLine:=by rw [hl,sizeLine_eq]; omega
 refine call_function_entry kind_sorted plain_sorted entry_sorted (args_sorted1 _) ?_
 unfold Builtin.«sorted»
 refine wpAny_bind (m:=checkCount "sorted" 1 1 _) (wpAny_pure ?_)
 refine wpAny_bind (u5 (A:=A.in1) hh hS hsz fun h' d tk order hlt hk hp=>?_)
 obtain ⟨ms,hms,hmp⟩:=lJ hp hI
 have hol:order.length=ns.length:=by rw [IntsAre.length hms,hmp.length_eq]
 refine wpAny_bind (wpAny_newList ?_ (by rw [hol,← hl]; exact hsz))
 have hD:(h'.push (seqObj "list" order.toArray 0)).get? h'.objs.size=some (seqObj "list" order.toArray 0):=Heap.get?_push_size _ rfl
 refine wpAny_bind (wpAny_holding (wpAny_call_entry slot_list_sort ⟨_,hD,rfl⟩ entry_list_sort (list_sort_tree hD hms (by omega) fun out Ep a1 a2 a3=>⟨_,rfl,?_⟩) (args_list_sort _)))
 obtain ⟨c,hc⟩:=sortedHeap_at (out:=out) hD
 refine wpAny_pure ⟨_,rfl,h h'.objs.size _ d tk out Ep c (Nat.le_of_lt hlt) (fun b o e=>?_) hc a1 (a2.trans hmp) a3⟩
 have hb:=Heap.lt_size (hk b o e)
 rw [sortedHeap_old (Nat.ne_of_lt hb) (by rw [size_push']; exact Nat.lt_succ_of_lt hb)]
 exact Heap.get?_push_of_some _ (hk b o e)
end
def jG (prog:Program) (w:World) (h:Heap) (a:Addr) (us:List Int):Prop :=
 ∃ es ep t,dy h a es ep t∧t.fits es.size=true∧oG t∧(w.params.followText "set-order" = true∨t.led=true)∧ElemsOf (intKind prog w) es.toList∧IntsAre (es.toList.map (·.2)) us∧us.Nodup
theorem jG.at {prog:Program} {w:World} {h h':Heap} {a:Addr} {us:List Int} (x:jG prog w h a us) (e:∀ o,h.get? a=some o→h'.get? a=some o):jG prog w h' a us:=by
 obtain ⟨es,ep,t,hs,r⟩:=x
 exact ⟨es,ep,t,hs.at e,r⟩
theorem u6:∀ {vs:List Value} {us:List Int} {k:Int},IntsAre vs us→(k ∈ us↔∃ v ∈ vs,Value.isInt k v=true)
 | _,_,k,.nil=>by simp
 | _,_,k,.cons n t r=>by
  have ih:=u6 (k:=k) r
  rw [List.mem_cons,ih]
  constructor
  ·rintro (e | ⟨v,hv,e⟩)
   ·subst e
    exact ⟨_,List.mem_cons_self,by simp [Value.isInt]⟩
   ·exact ⟨v,List.mem_cons_of_mem _ hv,e⟩
  ·rintro ⟨v,hv,e⟩
   rcases List.mem_cons.mp hv with z | z
   ·subst z
    exact .inl (by have q:n=k:=(by simpa [Value.isInt] using e); exact q.symm)
   ·exact .inr ⟨v,z,e⟩
theorem ints_snoc:∀ {vs:List Value} {us:List Int} (k:Int) (t:Tok),IntsAre vs us→IntsAre (vs ++ [.int k t]) (us ++ [k])
 | _,_,k,t,.nil=>.cons k t .nil
 | _,_,k,t,.cons n t' r=>.cons n t' (ints_snoc k t r)
section
variable {prog:Program} {w:World} {A:Around} {E:Value→Shared→Prop} {s:Shared}
theorem yA {h:Heap} {a:Addr} {es es':Array (Int × Value)} {ep:Nat} {t t':SetTable} {us:List Int} (hs:dy h a es ep t) (hf:t'.fits es'.size=true) (hi:oG t') (hl:w.params.followText "set-order" = true∨t'.led=true)
  (hel:ElemsOf (intKind prog w) es'.toList) (hI:IntsAre (es'.toList.map (·.2)) us) (hn:us.Nodup):dy (h.update a (Obj.putSet es' t')) a es' (ep + 1) t'∧jG prog w (h.update a (Obj.putSet es' t')) a us:=by
 obtain ⟨o,ho,hex,hd⟩:=hs
 have hg:(h.update a (Obj.putSet es' t')).get? a=some { o with data:=.set es' (ep + 1) t' }:=by
  have z:=Heap.get?_update_self (Obj.putSet es' t') ho (by rw [putSet_of es' t' hd]; rfl)
  rw [putSet_of es' t' hd] at z
  exact z
 have q:dy (h.update a (Obj.putSet es' t')) a es' (ep + 1) t':=⟨_,hg,hex,rfl⟩
 exact ⟨q,es',ep + 1,t',q,hf,hi,hl,hel,hI,hn⟩
theorem zQ {es es':Array (Int × Value)} {c:Int} {x:Value} (hp:List.Perm es'.toList (es.push (c,x)).toList):List.Perm (es'.toList.map (·.2)) (es.toList.map (·.2) ++ [x]):=by
 refine (hp.map _).trans ?_
 rw [Array.toList_push,List.map_append]
 exact List.Perm.refl _
theorem EX {t:SetTable} (h:oG t):oG { t with plain:=false }:=⟨h.Qs,fun z=>by cases z⟩
theorem add_int {a:Addr} {us:List Int} {k:Int} {tk:Tok} {Q:Bool→Shared→Prop} (hS:jG prog w s.heap a us) (hroom:us.length + 1 < scanBound)
  (h:∀ (b:Bool) (h':Heap) (us':List Int),Heap.SameBut a s.heap h'→jG prog w h' a us'→(∀ j,j ∈ us'↔j ∈ us∨j=k)→us'.length ≤ us.length + 1→Q b { s with heap:=h' }) :
  wpAny (model prog w) A (setAddHashed a (.int k tk) ((intKind prog w).hash k)) Q E s:=by
 obtain ⟨es,ep,t,hs,hf,hi,hl,hel,hI,hn⟩:=id hS
 obtain ⟨o,ho,hex,hd⟩:=id hs
 have hsz:es.size=us.length:=by rw [← IntsAre.length hI,List.length_map,Array.length_toList]
 have hmem:k ∈ us↔∃ e ∈ es.toList,(intKind prog w).is k e.2=true:=by
  rw [u6 hI]
  constructor
  ·rintro ⟨v,hv,e⟩
   obtain ⟨p,hp,rfl⟩:=List.mem_map.mp hv
   exact ⟨p,hp,e⟩
  ·rintro ⟨p,hp,e⟩
   exact ⟨p.2,List.mem_map.mpr ⟨p,hp,rfl⟩,e⟩
 unfold setAddHashed setAddHashedIn
 refine wpAny_holding (wpAny_bind (wpAny_setState_of ho hd hf ?_))
 dsimp only
 rw [byScan_of (knd:=intKind prog w) (x:=.int k tk) rfl (by omega) hel]
 simp only [↓reduceIte]
 unfold setAddByScan
 refine wpAny_bind ?_
 refine wpAny_bind (wpAny_rule ?_)
 refine wpAny_bind (wpAny_setScan_of (knd:=intKind prog w) (intKind_is _ _ _ _) ho hd hf hel ?_)
 cases hr:List.findIdx? (fun e=>(intKind prog w).is k e.2) es.toList with
 | some j =>
  dsimp only
  obtain ⟨hj,hpj,_⟩:=List.findIdx?_eq_some_iff_getElem.mp hr
  have hk:k ∈ us:=hmem.mpr ⟨es.toList[j],List.getElem_mem hj,hpj⟩
  refine wpAny_pure (wpAny_pure ?_)
  exact h false s.heap us (Heap.SameBut.refl a s.heap) hS (fun i=>⟨.inl,fun z=>z.elim id fun e=>e ▸ hk⟩) (Nat.le_succ _)
 | none =>
  dsimp only
  have hk:k ∉ us:=fun z=>by
   obtain ⟨e,he,q⟩:=hmem.mp z
   have:=List.findIdx?_eq_none_iff.mp hr e he
   rw [q] at this
   cases this
  have hperm:=layNew_perm t es ((intKind prog w).hash k) (.int k tk)
  have hfits:=layNew_fits t es ((intKind prog w).hash k) (.int k tk)
  have hinv:=wk es ((intKind prog w).hash k) (.int k tk) hi
  generalize hL:layNew t es ((intKind prog w).hash k) (.int k tk)=L at hperm hfits hinv ⊢
  obtain ⟨es1,t1,wd,gave⟩:=L
  dsimp only at hperm hfits hinv ⊢
  have hel1:ElemsOf (intKind prog w) es1.toList:=by
   have z:=hperm
   rw [Array.toList_push] at z
   exact (hel.push (intKind_is _ _ _ _) rfl).perm z
  obtain ⟨JK,Rt,hp1⟩:=lJ (zQ hperm) (ints_snoc k tk hI)
  have hn1:JK.Nodup:=hp1.nodup_iff.mpr (by
   rw [List.nodup_append]
   exact ⟨hn,by simp,fun x hx y hy=>by rw [List.mem_singleton.mp hy]; rintro rfl; exact hk hx⟩)
  have hl1:JK.length=us.length + 1:=by rw [hp1.length_eq,List.length_append]; rfl
  have hm1:∀ j,j ∈ JK↔j ∈ us∨j=k:=fun j=>by rw [hp1.mem_iff,List.mem_append,List.mem_singleton]
  have hsz1:es1.size=JK.length:=by rw [← IntsAre.length Rt,List.length_map,Array.length_toList]
  have hb1:es1.size < scanBound:=by omega
  have hgw:∀ (b:Bool) {s₁:Shared} {Q':Unit→Shared→Prop},Q' () s₁→wpAny (model prog w) A (match b with | true=>rule "set.scan.the-table-gave-way" | false=>pure ()) Q' E s₁ :=
   fun b s₁ Q' hq=>by cases b <;> first | exact wpAny_pure hq | exact wpAny_rule hq
  refine wpAny_bind (hgw _ ?_)
  have tail:∀ t2:SetTable,t2.fits es1.size=true→oG t2→(w.params.followText "set-order" = true∨t2.led=true)→∀ (g:Bool→Sem Unit) (wd':Bool) (R:Option Bool→Shared→Prop),
    (∀ (b:Bool) (s₁:Shared) (Q':Unit→Shared→Prop),Q' () s₁→wpAny (model prog w) A (g b) Q' E s₁)→(∀ h' us',Heap.SameBut a s.heap h'→jG prog w h' a us'→us'.Perm JK→R (some true) { s with heap:=h' }) →
    wpAny (model prog w) A (storeSet a es1 t2 >>= fun _=>if (!wd' && t2.tooFull)=true then (g (relayAll t2 es1 (SetTable.grown es1.size)).2.2 >>= fun _=>storeSet a (relayAll t2 es1 (SetTable.grown es1.size)).1 (relayAll t2 es1 (SetTable.grown es1.size)).2.1 >>= fun _=>pure (some true)) else pure (some true)) R E s:=by
   intro t2 f2 i2 l2 g wd' R hg hR
   refine wpAny_bind (wpAny_storeSet_of ho hd ?_ (fits_of_scanBound hb1))
   obtain ⟨q1,q2⟩:=yA (prog:=prog) (w:=w) hs f2 i2 l2 hel1 Rt hn1
   have sb1:=Heap.SameBut.update s.heap a (Obj.putSet es1 t2)
   split
   ·have rp:=relayAll_perm t2 es1 (SetTable.grown es1.size)
    have rf:=relayAll_fits t2 es1 (SetTable.grown es1.size)
    have ri:=sd (t:=t2) es1 (SetTable.grown es1.size)
    generalize relayAll t2 es1 (SetTable.grown es1.size)=Rl at rp rf ri ⊢
    obtain ⟨es2,t3,gave2⟩:=Rl
    dsimp only at rp rf ri ⊢
    obtain ⟨Mr,hI2,hp2⟩:=lJ (rp.map (·.2)) Rt
    refine wpAny_bind (hg _ _ _ ?_)
    obtain ⟨o1,ho1,hex1,hd1⟩:=id q1
    have e2:es2.size=es1.size:=by rw [← Array.length_toList,rp.length_eq,Array.length_toList]
    refine wpAny_bind (wpAny_storeSet_of ho1 hd1 ?_ (fits_of_scanBound (by rw [e2]; exact hb1)))
    obtain ⟨_,q3⟩:=yA (prog:=prog) (w:=w) q1 rf ri.1 (l2.imp id fun z=>ri.2.trans z) (hel1.perm rp) hI2 (hp2.nodup_iff.mpr hn1)
    exact wpAny_pure (hR _ Mr (sb1.trans (Heap.SameBut.update _ a _)) q3 hp2)
   ·exact wpAny_pure (hR _ JK sb1 q2 (List.Perm.refl _))
  have fin:∀ h' us',Heap.SameBut a s.heap h'→jG prog w h' a us'→us'.Perm JK→Q true { s with heap:=h' }:=fun h' us' x1 x2 x3 =>
   h true h' us' x1 x2 (fun j=>by rw [x3.mem_iff]; exact hm1 j) (by rw [x3.length_eq,hl1]; exact Nat.le_refl _)
  have JL:w.params.followText "set-order" = true∨t1.led=true:=hl.imp id fun z=>hinv.2.trans z
  split
  ·refine wpAny_bind ?_
   rw [hashByValue_scannable 8 (x:=.int k tk) rfl]
   refine wpAny_pure ?_
   refine tail _ ?_ ?_ ?_ _ wd _ ?_ fun h' us' x1 x2 x3=>?_
   ·split
    ·exact hfits
    ·exact SetTable.fits_plain_off hfits
   ·split
    ·exact hinv.1
    ·exact EX hinv.1
   ·split
    ·exact JL
    ·exact JL
   ·intro b s₁ Q' hq; cases b <;> first | exact wpAny_pure hq | exact wpAny_rule hq
   ·exact wpAny_pure (fin h' us' x1 x2 x3)
  ·refine wpAny_bind (wpAny_pure ?_)
   simp only [↓reduceIte]
   refine tail _ hfits hinv.1 JL _ wd _ ?_ fun h' us' x1 x2 x3=>?_
   ·intro b s₁ Q' hq; cases b <;> first | exact wpAny_pure hq | exact wpAny_rule hq
   ·exact wpAny_pure (fin h' us' x1 x2 x3)
theorem u7 {R:Result→Shared→Prop} {I:Addr} {fp wr:List Addr} {G:Array GenState→Array GenState→Prop} {n:Nat} {P:Nat→Value→Prop} {St:Nat→Shared→Prop} (W:WalksS prog w A.in1 I fp wr G n P St) (S:Addr) (hSf:S ∉ fp)
  (val:Nat→Int) (hval:∀ i v,P i v→∃ t,v=.int (val i) t) (hb:n + 1 < scanBound) :
  ∀ (k i:Nat) (s:Shared) (us:List Int),n - i=k→i ≤ n→St i s→jG prog w s.heap S us→us.length ≤ i→(∀ j,j ∈ us↔∃ m,m < i∧val m=j) →
   (∀ s' us',Moved (S :: wr) G s s'→jG prog w s'.heap S us'→us'.length ≤ n→(∀ j,j ∈ us'↔∃ m,m < n∧val m=j)→R (.ok (.ret .none)) s') →
   codeAny (model prog w) A (.builtin "set.update.loop" ⟨[.ref S,.ref I],[]⟩) R s:=by
 have hSw:S ∉ wr:=fun h=>hSf (W.sub _ h)
 have hsub:∀ b ∈ wr,b ∈ S :: wr:=fun b hb=>List.mem_cons_of_mem _ hb
 intro k
 induction k with
 | zero =>
  intro i s us hk hi hst hS hlen hmem hR
  have hin:i=n:=by omega
  subst hin
  refine codeAny_builtin PyProof.Rows.F.entry_set_update_loop ?_
  rw [Around.under_plainId PyProof.Rows.F.plain_set_update_loop _]
  show wpAny _ A.in1 (pyNext (.ref I) >>= _) _ _ s
  refine wpAny_bind (W.done s _ _ hst fun s' hm=>?_)
  show wpAny _ A.in1 (ret Value.none) _ _ s'
  exact wpAny_pure (hR s' us (hm.mono hsub) (hS.at fun o e=>hm.heap S o hSw e) hlen hmem)
 | succ k ih =>
  intro i s us hk hi hst hS hlen hmem hR
  have hlt:i < n:=by omega
  refine codeAny_builtin PyProof.Rows.F.entry_set_update_loop ?_
  rw [Around.under_plainId PyProof.Rows.F.plain_set_update_loop _]
  show wpAny _ A.in1 (pyNext (.ref I) >>= _) _ _ s
  refine wpAny_bind (W.item i s _ _ hlt hst fun v s' hP hst' hm=>?_)
  obtain ⟨t,rfl⟩:=hval i v hP
  have hS':jG prog w s'.heap S us:=hS.at fun o e=>hm.heap S o hSw e
  show wpAny _ A.in1 (holding [Value.int (val i) t] (setAdd S (.int (val i) t)) >>= _) _ _ s'
  refine wpAny_bind (wpAny_holding ?_)
  unfold setAdd
  refine wpAny_holding ?_
  refine wpAny_bind ((intKind prog w).pyHash (k:=val i) (intKind_is _ _ _ _) ?_)
  refine add_int (s:={ s' with toks:=s'.toks + 1 }) hS' (by omega) fun b h' us' hsb hS2 hm2 hl2=>?_
  refine wpAny_pure ⟨plainId_quiet PyProof.Rows.F.plain_set_update_loop _,ih (i + 1) _ us' (by omega) hlt (W.frame _ s' _ _ hst' (Nat.le_succ _) fun b hb o e=>?_) hS2 (by omega) (fun j=>?_) fun s'' Ru hm'' hS'' hl'' hmem''=>?_⟩
  ·rw [hsb.2 b (fun h:b=S=>hSf (by rw [← h]; exact hb))]; exact e
  ·rw [hm2,hmem]
   constructor
   ·rintro (⟨m,h1,h2⟩ | e)
    ·exact ⟨m,by omega,h2⟩
    ·exact ⟨i,by omega,e.symm⟩
   ·rintro ⟨m,h1,h2⟩
    rcases Nat.lt_or_ge m i with q | q
    ·exact .inl ⟨m,q,h2⟩
    ·have e:m=i:=by omega
     subst e
     exact .inr h2.symm
  ·refine hR s'' Ru (Moved.trans W.gtrans ((hm.mono hsub).then_heap (Nat.le_succ _) fun b o hb e=>?_) hm'') hS'' hl'' hmem''
   rw [hsb.2 b (fun h:b=S=>hb (by rw [h]; exact List.mem_cons_self))]; exact e
theorem EY (a:Value) {Q₁:Value→Shared→Prop}
  (h:Q₁ (.ref s.heap.objs.size) { s with heap:=s.heap.push { cls:=.type "set",dict:=none,data:=.set #[] 0 (.fresh 0 0 (!w.params.followText "set-order")) } }) :
  codeAny (model prog w) A (.call (.builtin "set.__new__") ⟨[.type "set",a],[]⟩) (wants Q₁ E) s:=by
 refine codeAny_of_tree ?_
 show wpAny _ A.in1 (do checkBuiltinCall "set.__new__" ⟨[.type "set",a],[]⟩; again (.builtin "set.__new__" ⟨[.type "set",a],[]⟩)) _ _ s
 refine wpAny_bind (wpAny_of_eq (PySem.F.newCall_set_1 a) (wpAny_pure ⟨plainId_quiet PySem.F.plain_set_new _,codeAny_builtin PySem.F.entry_set_new ?_⟩))
 rw [Around.under_plainId PySem.F.plain_set_new _]
 unfold Builtin.«set.__new__» Builtin.Frozenset.newClass
 have hsub:=sub_set_self
 obtain ⟨hp,g,d,tk,os⟩:=s
 dsimp only
 wp_walk
 refine wpAny_askSetting (wpAny_pure ?_)
 dsimp only
 simp only [newObj]
 refine wpAny_bind (wpAny_alloc (wpAny_pure ?_))
 exact wpAny_pure h
set_option maxHeartbeats 8000000 in
theorem B8 {l:Addr} {items:Array Value} {ns:List Int} {Q:Value→Shared→Prop} (hh:A.handled=none) (hl:s.heap.IsList l items) (hi:IntsAre items.toList ns) (hb:items.size + 1 < scanBound)
  (h:∀ (h':Heap) (tk:Nat) (us:List Int),jG prog w h' s.heap.objs.size us→us.length ≤ ns.length→(∀ j,j ∈ us↔j ∈ ns)→(∀ b o,b < s.heap.objs.size→s.heap.get? b=some o→h'.get? b=some o)→Q (.ref s.heap.objs.size) { s with heap:=h',toks:=tk }) :
  wpAny (model prog w) A (call (.type "set") [.ref l]) Q E s:=by
 obtain ⟨c,tl,hmro⟩:=PySem.F.called_set.mro
 have hmade:=PySem.F.called_set.made
 have hsub:=PySem.F.called_set.sub
 refine wpAny_call (codeAny_of_tree ?_)
 show wpAny _ _ (callAny (.type "set") _) _ _ _
 refine wpAny_pure ⟨Code.quiet_builtin _ (by decide +kernel),codeAny_builtin PySem.F.entry_type_call ?_⟩
 rw [Around.under_plain (weight_type_call_type "set" [.ref l] []) rfl]
 have h1:=PySem.F.called_set.notType
 have h2:=PySem.F.called_set.canCreate
 have hct:=PySem.F.typeCall_set_1 (.ref l)
 generalize zP:(!w.params.followText "set-order")=led
 repeat (any_goals (first | assumption | wp_step))
 refine codeAny_mono (EY (prog:=prog) (w:=w) (.ref l) (E:=E) (Q₁:=fun obj s₁=>obj=.ref s.heap.objs.size∧s₁={ s with heap:=s.heap.push { cls:=.type "set",dict:=none,data:=.set #[] 0 (.fresh 0 0 led) } }) (by rw [zP]; exact ⟨rfl,rfl⟩)) fun r s₁ hr=>?_
 have Rv:w.params.followText "set-order" = true∨led=true:=by
  cases q:w.params.followText "set-order" with
  | true=>exact .inl rfl
  | false=>rw [q] at zP; exact .inr zP.symm
 cases r with
 | error e=>exact hr
 | ok fl =>
  cases fl with
  | next=>exact hr.elim
  | brk=>exact hr.elim
  | cont=>exact hr.elim
  | ret obj =>
   obtain ⟨rfl,rfl⟩:=hr
   have hS:(s.heap.push { cls:=.type "set",dict:=none,data:=.set #[] 0 (.fresh 0 0 led) }).get? s.heap.objs.size=some { cls:=.type "set",dict:=none,data:=.set #[] 0 (.fresh 0 0 led) }:=Heap.get?_push_size _ rfl
   have hT:Shared.TypeIs { s with heap:=s.heap.push { cls:=.type "set",dict:=none,data:=.set #[] 0 (.fresh 0 0 led) } } (.ref s.heap.objs.size) "set" := ⟨_,hS,rfl⟩
   have hli:=PySem.F.called_set.init.lookup
   have hbi:=PySem.F.called_set.init.bind (.ref s.heap.objs.size)
   repeat (any_goals (first | assumption | wp_step))
   refine codeAny_mono (codeAny_call_builtin (R:=wants (fun r s₂=>r=.none∧∃ h' tk us,s₂={ s with heap:=h',toks:=tk }∧jG prog w h' s.heap.objs.size us∧us.length ≤ ns.length∧(∀ j,j ∈ us↔j ∈ ns) ∧
     (∀ b o,b < s.heap.objs.size→s.heap.get? b=some o→h'.get? b=some o)) E) PySem.F.called_set.init.plain PySem.F.entry_set_init (check_set_init_1 hT ?_)) fun r₂ s₂ hr₂=>?_
   ·obtain ⟨ol,hol,hcl,nl,hdl⟩:=hl
    obtain ⟨ocls,odict,odata,oslots⟩:=ol
    simp only at hcl hdl
    subst hcl; subst hdl
    have hol':(s.heap.push { cls:=.type "set",dict:=none,data:=.set #[] 0 (.fresh 0 0 led) }).get? l=some { cls:=.type "list",dict:=odict,data:=.seq items nl,slots:=oslots }:=Heap.get?_push_of_some _ hol
    have hsls:=PySem.F.sub_list_set
    have hslf:=PySem.F.sub_list_frozenset
    have hne:(Value.type "list" == Value.type "dict")=false:=by decide
    have hl1:(s.heap.push { cls:=.type "set",dict:=none,data:=.set #[] 0 (.fresh 0 0 led) }).IsList l items:=⟨_,hol',rfl,nl,rfl⟩
    unfold Builtin.«set.__init__» noKeywords Builtin.Frozenset.updateFrom
    generalize hPI:pyIter=PI
    wp_walk
    subst hPI
    refine wpAny_pyIter_list hl1 ?_
    refine wpAny_bind (wpAny_runValue ?_)
    have hlS:l < s.heap.objs.size:=Heap.lt_size hol
    have hh3:A.in1.in1.in1.handled=none:=by simp [hh]
    have hneI:l ≠ (s.heap.push { cls:=.type "set",dict:=none,data:=.set #[] 0 (.fresh 0 0 led) }).objs.size:=by
     rw [Heap.size_push]; exact Nat.ne_of_lt (Nat.lt_succ_of_lt hlS)
    have hSf:s.heap.objs.size ∉ [(s.heap.push { cls:=.type "set",dict:=none,data:=.set #[] 0 (.fresh 0 0 led) }).objs.size,l]:=by
     rw [Heap.size_push]; simp only [List.mem_cons,List.mem_singleton,List.not_mem_nil,or_false,not_or]
     exact ⟨Nat.ne_of_lt (Nat.lt_succ_self _),Nat.ne_of_gt hlS⟩
    have hval:∀ (i:Nat) (v:Value),items[i]? = some v→∃ t,v=.int ((fun i=>ns.getD i 0) i) t:=fun i v hv =>
     IntsAre.int_at hi i v (by rw [Array.getElem?_toList]; exact hv)
    have hnl:ns.length=items.size:=by rw [← IntsAre.length hi,Array.length_toList]
    refine u7 ((Walks.list hh3 _ l hneI items).toS) s.heap.objs.size hSf (fun i=>ns.getD i 0) hval hb (items.size - 0) 0 _ [] (by omega) (Nat.zero_le _)
     ⟨⟨_,Heap.get?_push_size _ rfl,rfl,rfl⟩,(hl1.push _)⟩ ?hS0 (Nat.zero_le _) (fun j=>by simp) ?hR
    case hS0 =>
     have hget:((s.heap.push { cls:=.type "set",dict:=none,data:=.set #[] 0 (.fresh 0 0 led) }).push { cls:=.type "list_iterator",data:=.fields #[.ref l,.int 0 0] }).get? s.heap.objs.size
       = some { cls:=.type "set",dict:=none,data:=.set #[] 0 (.fresh 0 0 led) }:=Heap.get?_push_of_some _ hS
     exact ⟨#[],0,.fresh 0 0 led,⟨_,hget,⟨rfl,rfl,rfl⟩,rfl⟩,by rfl,⟨rfl,fun _ i k _ hk=>by simp [SetTable.fresh] at hk⟩,Rv,fun e he=>by simp at he,.nil,List.nodup_nil⟩
    case hR =>
     intro s' us hm hS' hlen hmem
     obtain ⟨h',g',d',tk',os'⟩:=s'
     have eg:g'=s.gens:=hm.gens
     have ed:d'=s.drawn:=hm.drawn
     have eo:os'=s.os:=hm.os
     subst eg; subst ed; subst eo
     show wpAny _ _ _ _ _ _
     refine wpAny_pure ?_
     show wpAny _ _ (ret Value.none) _ _ _
     refine wpAny_pure ⟨rfl,h',tk',us,rfl,hS',by omega,fun j=>?_,fun b o hb e=>?_⟩
     ·rw [hmem]
      constructor
      ·rintro ⟨m,h1,h2⟩
       have hm':m < ns.length:=by omega
       rw [← h2]
       show ns.getD m 0 ∈ ns
       rw [List.getD_eq_getElem?_getD,List.getElem?_eq_getElem hm']
       exact List.getElem_mem hm'
      ·intro hj
       obtain ⟨m,hm',e⟩:=List.getElem_of_mem hj
       refine ⟨m,by omega,?_⟩
       show ns.getD m 0=j
       rw [List.getD_eq_getElem?_getD,List.getElem?_eq_getElem hm']
       exact e
     have hb1:b ≠ s.heap.objs.size:=Nat.ne_of_lt hb
     have hb2:b ≠ (s.heap.push { cls:=.type "set",dict:=none,data:=.set #[] 0 (.fresh 0 0 led) }).objs.size:=by
      rw [Heap.size_push]; exact Nat.ne_of_lt (Nat.lt_succ_of_lt hb)
     exact hm.heap b o (by simp only [List.mem_cons,List.mem_singleton,List.not_mem_nil,or_false,not_or]; exact ⟨hb1,hb2⟩) (Heap.get?_push_of_some _ (Heap.get?_push_of_some _ e))
   ·cases r₂ with
    | error e=>exact hr₂
    | ok fl₂ =>
     cases fl₂ with
     | ret r =>
      obtain ⟨rfl,h',tk,us,rfl,hS',h1',h2',hk'⟩:=hr₂
      repeat (any_goals (first | assumption | wp_step))
      exact h _ _ us hS' h1' h2' hk'
     | _=>exact hr₂.elim
end
end SF
namespace L2
open PySem PySem.Spec PyProof.Rows
def oI (P:Program) (w:World) (l:Addr) (us:List Int):HO:=.ext fun h=>SF.jG P w h l us
theorem wx {P:Program} {w:World} {h:Heap} {l:Addr} {us:List Int} (x:SF.jG P w h l us):∃ o,h.get? l=some o:=by
 obtain ⟨_,_,_,⟨o,ho,_⟩,_⟩:=x
 exact ⟨o,ho⟩
section
variable {X:Cx}
theorem jc (hc:X.calm=true):iU X (.type "set") (fun xs H Q=>∃ (p:Addr) (ns:List Int),xs=[.ref p]∧bh X.K H p (ns.map V.int)∧ns.length < 4000∧∀ (l:Addr) (us:List Int),H l=none→us.length ≤ ns.length→us.Nodup→(∀ j,j ∈ us↔j ∈ ns)→Q (.ref l) (upd H l (oI X.prog X.w l us))):=by
 intro pins s σ H xs Rx Q I r h
 obtain ⟨p,ns,rfl,hp,hz,q⟩:=h
 obtain ⟨u,rfl,ru⟩:=vals1 r
 cases ru
 obtain ⟨its,hv,pl,_⟩:=I.list hp
 have hi:=intsAre_of hv
 have hl:its.length=ns.length:=IntsAre.length hi
 refine SF.B8 (I.ok.hd hc) (items:=its.toArray) (ns:=ns) pl.isList (by simpa using hi) (by rw [List.size_toArray,hl]; unfold scanBound; omega) fun h' tk us hS h1 h2 hk=>?_
 have hn:us.Nodup:=by obtain ⟨_,_,_,_,_,_,_,_,_,hn⟩:=hS; exact hn
 refine ⟨.ref s.heap.objs.size,upd H s.heap.objs.size (oI X.prog X.w s.heap.objs.size us),I.laid (fun b o e=>hk b o (Heap.lt_size e) e) (Nat.le_refl _) ?_,rfl,q _ us I.fresh h1 hn h2⟩
 exact ⟨hS,wx hS,fun h1 h2 x e=>SF.jG.at x e⟩
theorem gQ (hc:X.calm=true):iU X (.builtin "sorted") (fun xs H Q=>∃ (p:Addr) (us:List Int),xs=[.ref p]∧H p=some (oI X.prog X.w p us)∧us.length < 64∧∀ (l:Addr) (ms:List Int),H l=none→ms.Perm us→ms.Pairwise (· ≤ ·)→Q (.ref l) (upd H l (.lst (ms.map V.int)))):=by
 intro pins s σ H xs Rx Q I r h
 obtain ⟨p,us,rfl,hp,hz,q⟩:=h
 obtain ⟨u,rfl,ru⟩:=vals1 r
 cases ru
 obtain ⟨hS,_,_⟩:=(show cH X.prog X.w H s.heap p (oI X.prog X.w p us) from I.hok p _ hp)
 obtain ⟨es,ep,t,a1,a2,a3,a4,a5,a6,a7⟩:=hS
 refine SF.wu (I.ok.hd hc) (ns:=us) ⟨a1,a2,a3,a4⟩ a6 hz fun D h' d tk out ms c hD hk hg hI hperm Er=>?_
 have hl:ms.length < 64:=by rw [hperm.length_eq]; exact hz
 have nD:H D=none:=I.hok.fresh hD
 have new:cH X.prog X.w (upd H D (.lst (ms.map V.int))) h' D (.lst (ms.map V.int)):=⟨by rw [List.length_map,sizeLine_eq]; omega,out.toList,c,lH hI,by rw [hg]⟩
 refine ⟨.ref D,upd H D (.lst (ms.map V.int)),I.call (g':=s.gens) (d':=d) (t':=tk) (ch:=[]) (Un.laid hk hD nD) (I.hok.laid hk hD new) I.bare (fun b z=>absurd z (by simp)),rfl,q D ms nD hperm Er⟩
theorem dA:iU X (.builtin "isinstance") (fun xs H Q=>∃ (x:V) (n:String) (t:Value) (b:Bool),xs=[x,.ty n]∧lF X.K H x t∧PySem.W.kitOne X.K t (.type n)=some b∧Q (.bl b) H):=by
 intro pins s σ H xs us Q I r h
 obtain ⟨x,n,t,b,rfl,ht,hk,q⟩:=h
 obtain ⟨u,v,rfl,ru,rv⟩:=vals2 r
 cases rv
 exact zF I ru ht hk fun tk=>⟨.bl b,H,I.tok tk,rfl,q⟩
def JM (a b:V):Prop:=(∃ p,a=.ref p∧b=.ref p)∨(∃ i j,a=.int i∧b=.int j)∨∃ i j,a=.str i∧b=.str j
def Ry (K:PySem.W.Frag):R2:=fun x y H Q=>∃ (p q:Addr) (xs ys:List V),x=.ref p∧y=.ref q∧bh K H p xs∧bh K H q ys∧(∀ (i:Nat) a b,xs[i]? = some a→ys[i]? = some b→JM a b)∧Q (.bl (!decide (xs=ys))) H
theorem yB {A:Around} {s:Shared} {a b:V} {u v:Value} (h:JM a b) (ra:RelV a u) (rb:RelV b v):SeqAt.EqAt A s u v (decide (a=b)):=by
 rcases h with ⟨p,rfl,rfl⟩ | ⟨i,j,rfl,rfl⟩ | ⟨i,j,rfl,rfl⟩
 ·cases ra
  cases rb
  rw [decide_eq_true rfl]
  exact SeqAt.EqAt.same _
 ·obtain ⟨t,rfl⟩:=ra
  obtain ⟨t',rfl⟩:=rb
  rw [rQ]
  exact SeqAt.EqAt.int_int _ _ _ _
 ·obtain ⟨t,rfl⟩:=ra
  obtain ⟨t',rfl⟩:=rb
  rw [rR]
  exact SeqAt.EqAt.str_str _ _ _ _
theorem all_eq {xs ys:List V} (h:xs.length=ys.length):((List.range xs.length).all fun i=>decide (xs[i]? = ys[i]?))=decide (xs=ys):=by
 rw [Bool.eq_iff_iff,List.all_eq_true,decide_eq_true_iff]
 constructor
 ·intro q
  apply List.ext_getElem?
  intro i
  rcases Nat.lt_or_ge i xs.length with z | z
  ·exact of_decide_eq_true (q i (List.mem_range.mpr z))
  ·rw [List.getElem?_eq_none z,List.getElem?_eq_none (by omega)]
 ·rintro rfl i _
  simp
theorem si (hu:X.A.units < cLine):jU X (compareOp .NotEq) (Ry X.K):=by
 intro pins s σ H x y v u Q I rx ry h
 obtain ⟨p,q,xs,ys,rfl,rfl,hp,hq,hc,k⟩:=h
 cases rx
 cases ry
 obtain ⟨its,hv,pl,_⟩:=I.list hp
 obtain ⟨its2,hv2,Mt,_⟩:=I.list hq
 have e1:=hv.length
 have e2:=hv2.length
 by_cases hl:xs.length=ys.length
 ·have key:SeqAt.RcNeAt X.A s (.ref p) (.ref q) (!(List.range its.toArray.size).all fun i=>decide (xs[i]? = ys[i]?)):=by
   refine SeqAt.RcNeAt.lists pl.isList Mt.isList (by simp; omega) hu fun j h1 h2=>?_
   have j1:j < xs.length:=by simp at h1; omega
   have j2:j < ys.length:=by simp at h2; omega
   have z1:xs[j]? = some xs[j]:=List.getElem?_eq_getElem j1
   have z2:ys[j]? = some ys[j]:=List.getElem?_eq_getElem j2
   obtain ⟨u1,w1,r1⟩:=hv.get z1
   obtain ⟨u2,w2,r2⟩:=hv2.get z2
   have i1:its.toArray[j]=u1:=by
    have:its[j]? = some its[j]:=List.getElem?_eq_getElem (by omega)
    rw [this] at w1
    simpa using w1
   have i2:its2.toArray[j]=u2:=by
    have:its2[j]? = some its2[j]:=List.getElem?_eq_getElem (by omega)
    rw [this] at w2
    simpa using w2
   rw [i1,i2,z1,z2]
   have e:decide (some xs[j]=some ys[j])=decide (xs[j]=ys[j]):=by simp
   rw [e]
   exact yB (hc j _ _ z1 z2) r1 r2
  rw [List.size_toArray,← e1,all_eq hl] at key
  exact key _ _ _ _ ⟨.bl (!decide (xs=ys)),H,I,rfl,k⟩
 ·have key:SeqAt.RcNeAt X.A s (.ref p) (.ref q) true:=SeqAt.RcNeAt.lists_lengths pl.isList Mt.isList (by simp; omega) hu
  rw [decide_eq_false (fun z=>hl (by rw [z]))] at k
  exact key _ _ _ _ ⟨.bl true,H,I,rfl,k⟩
end
section
variable {X:Cx}
end
end L2
namespace L2
open PySem PySem.W PySem.Spec PySem.Calls PyProof.Rows
section
variable {X:Cx} {pos pos':Pos} {o i value:Expr} {td ty tv:TE}
def Rz (K:PySem.W.Frag):R2:=fun x y H Q=>∃ (p q:Addr) (xs ys:List V),x=.ref p∧y=.ref q∧bh K H p xs∧bh K H q ys∧(∀ (i:Nat) a b,xs[i]? = some a→ys[i]? = some b→JM a b∨(a=.non∧b=.non))∧Q (.bl (decide (xs=ys))) H
theorem JN (hu:X.A.units < cLine):jU X (compareOp .Eq) (Rz X.K):=by
 intro pins s σ H x y v u Q I rx ry h
 obtain ⟨p,q,xs,ys,rfl,rfl,hp,hq,hc,k⟩:=h
 cases rx
 cases ry
 obtain ⟨its,hv,pl,_⟩:=I.list hp
 obtain ⟨its2,hv2,Mt,_⟩:=I.list hq
 have e1:=hv.length
 have e2:=hv2.length
 by_cases hl:xs.length=ys.length
 ·have key:SeqAt.RcAt X.A s (.ref p) (.ref q) ((List.range its.toArray.size).all fun i=>decide (xs[i]? = ys[i]?)):=by
   refine SeqAt.RcAt.lists pl.isList Mt.isList (by simp; omega) hu fun j h1 h2=>?_
   have j1:j < xs.length:=by simp at h1; omega
   have j2:j < ys.length:=by simp at h2; omega
   have z1:xs[j]? = some xs[j]:=List.getElem?_eq_getElem j1
   have z2:ys[j]? = some ys[j]:=List.getElem?_eq_getElem j2
   obtain ⟨u1,w1,r1⟩:=hv.get z1
   obtain ⟨u2,w2,r2⟩:=hv2.get z2
   have i1:its.toArray[j]=u1:=by
    have:its[j]? = some its[j]:=List.getElem?_eq_getElem (by omega)
    rw [this] at w1
    simpa using w1
   have i2:its2.toArray[j]=u2:=by
    have:its2[j]? = some its2[j]:=List.getElem?_eq_getElem (by omega)
    rw [this] at w2
    simpa using w2
   rw [i1,i2,z1,z2]
   have e:decide (some xs[j]=some ys[j])=decide (xs[j]=ys[j]):=by simp
   rw [e]
   rcases hc j _ _ z1 z2 with hc | ⟨ha,hb⟩
   ·exact yB hc r1 r2
   ·rw [ha] at r1 ⊢
    rw [hb] at r2 ⊢
    have q1:u1=Value.none:=r1
    have q2:u2=Value.none:=r2
    subst q1 q2
    rw [decide_eq_true rfl]
    exact SeqAt.EqAt.same _
  rw [List.size_toArray,← e1,all_eq hl] at key
  exact key _ _ _ _ ⟨.bl (decide (xs=ys)),H,I,rfl,k⟩
 ·have key:SeqAt.RcAt X.A s (.ref p) (.ref q) false:=SeqAt.RcAt.lists_lengths pl.isList Mt.isList (by simp; omega) hu
  rw [decide_eq_false (fun z=>hl (by rw [z]))] at k
  exact key _ _ _ _ ⟨.bl false,H,I,rfl,k⟩
end
end L2
namespace L2
open PySem PySem.Spec PyProof.Rows
section
variable {X:Cx} {pins:List (Addr × Obj)} {σ:St} {H:Hp} {s:Shared} {h':Heap}
theorem Inv.qT {t':Nat} {its:List Addr} {a:Addr} {o:HO} (I:Inv X pins σ H s) (k:∀ b u,b ∉ its→s.heap.get? b=some u→h'.get? b=some u) (hf:∀ b ∈ its,oh X pins H b)
  (hp:s.heap.objs.size ≤ a) (new:cH X.prog X.w (upd H a o) h' a o):Inv X pins σ (upd H a o) { s with heap:=h',toks:=t' }:=by
 have hn:H a=none:=I.hok.fresh hp
 have HK:∀ b u,H b=some u→b ∉ its:=fun b u e z=>by rw [(hf b z).1] at e; cases e
 have nea:∀ b u,s.heap.get? b=some u→b ≠ a:=fun b u e=>Nat.ne_of_lt (Nat.lt_of_lt_of_le (Heap.lt_size e) hp)
 refine I.step (g':=s.gens) (d':=s.drawn) (ch:=its) (fun b hb=>?_) (fun b o _ _ hc e _=>k b o hc e) (fun b o _ _ hc e _=>⟨o.slots,k b o hc e⟩) (fun b u _ e n=>?_)
  (fun b o hc e=>⟨o,k b o hc e⟩) (fun b xs e=>?_) (fun b u v e=>?_) (fun b ps e=>⟨#[],?_⟩) (fun m hm=>?_) (fun b u e=>?_) I.bare
 ·obtain ⟨_,f1,f2,f3,f4,f5⟩:=hf b hb
  exact ⟨f3,f1,f4,f5⟩
 ·rw [aL (nea b u e)]; exact n
 ·rw [aL (ay e hn)]; exact e
 ·rw [aL (ay e hn)]; exact e
 ·rw [aL (ay e hn),e]; simp
 ·obtain ⟨o,es,ep,ho,r⟩:=hm
  exact ⟨o,es,ep,k _ o (fun z=>(hf _ z).2.1 rfl) ho,r⟩
 ·by_cases hb:b=a
  ·subst hb
   rw [ah] at e
   cases e
   exact new
  ·rw [aL hb] at e
   refine (I.hok b u e).stay (fun c v hc q=>k c v ?_ q) (fun c q=>by rw [aL (ay q hn)]; exact q) fun c xs q=>by rw [aL (ay q hn)]; exact q
   rcases hc with z | z
   ·rw [z]; exact HK b u e
   ·exact HK c _ z
theorem Inv.EZ {t':Nat} {its:List Addr} (I:Inv X pins σ H s) (k:∀ b u,b ∉ its→s.heap.get? b=some u→h'.get? b=some u) (hf:∀ b ∈ its,oh X pins H b):Inv X pins σ H { s with heap:=h',toks:=t' }:=by
 have HK:∀ b u,H b=some u→b ∉ its:=fun b u e z=>by rw [(hf b z).1] at e; cases e
 refine I.step (g':=s.gens) (d':=s.drawn) (ch:=its) (fun b hb=>?_) (fun b o _ _ hc e _=>k b o hc e) (fun b o _ _ hc e _=>⟨o.slots,k b o hc e⟩) (fun b u _ e n=>n)
  (fun b o hc e=>⟨o,k b o hc e⟩) (fun b xs e=>e) (fun b u v e=>e) (fun b ps e=>⟨#[],by rw [e]; simp⟩) (fun m hm=>?_) (fun b u e=>?_) I.bare
 ·obtain ⟨_,f1,f2,f3,f4,f5⟩:=hf b hb
  exact ⟨f3,f1,f4,f5⟩
 ·obtain ⟨o,es,ep,ho,r⟩:=hm
  exact ⟨o,es,ep,k _ o (fun z=>(hf _ z).2.1 rfl) ho,r⟩
 ·refine (I.hok b u e).stay (fun c v hc q=>k c v ?_ q) (fun _ q=>q) fun _ _ q=>q
  rcases hc with z | z
  ·rw [z]; exact HK b u e
  ·exact HK c _ z
end
def Ite (K:PySem.W.Frag) (a:Addr):It :=
 ⟨fun i H=>∃ xs x,bh K H a xs∧xs[i]? = some x,
   fun i H x H'=>∃ t y,H t=none∧x=.ref t∧H'=upd H t (.tup [.int i,y])∧∀ xs,bh K H a xs→xs[i]? = some y,
   fun i H=>∃ xs,bh K H a xs∧xs.length ≤ i⟩
theorem zR {P:Program} {w:World} {K:PySem.W.Frag} {elts:List Expr} {x1} {pos:Pos} (a e it:Addr) (hne:e ≠ it) :
  Turn P w K (.Tuple elts x1 pos) (Ite K a) [e,it] e (fun i h=>(∃ old,IsEnum h e it i old)∧h.IsListIter it a i) where
 mem:=by simp
 obj:=fun i h st b hb=>by
  obtain ⟨⟨old,he⟩,o,eo,c,d⟩:=st
  rcases List.mem_cons.mp hb with rfl | hb
  ·exact ⟨_,he,fun v z=>by
    have z':Data.fields _=Data.cell v:=z
    cases z'⟩
  ·rw [List.mem_singleton.mp hb]
   exact ⟨o,eo,fun v z=>by rw [d] at z; cases z⟩
 keep:=fun i h h' st k=>⟨st.1.elim fun old he=>⟨old,k e (by simp) _ he⟩,st.2.at fun o eo=>k it (by simp) o eo⟩
 item:=by
  intro X hP hw hK hc i pins s σ H E I hf st hg
  subst hP hw hK
  obtain ⟨xs,x,hq,hx⟩:=hg
  obtain ⟨⟨old,he⟩,hit⟩:=st
  obtain ⟨its,rv,p,hz⟩:=I.list hq
  obtain ⟨u,hu,ru⟩:=rv.get hx
  refine wpAny_pyNext_enum_item he hit p.isList (x:=u) (by simpa using hu) hne fun h1 JO hit1 ht1 hz1 k1=>?_
  refine ⟨_,rfl,wpAny_letOwnedTupleGo_enum JO fun h2 he2 hs2=>?_⟩
  have Fb:s.heap.objs.size ≠ e:=Nat.ne_of_gt (Heap.lt_size he)
  have Mu:=(hs2.2 s.heap.objs.size Fb).trans ht1
  have hk:∀ b o,b ∉ [e,it]→s.heap.get? b=some o→h2.get? b=some o:=fun b o hb e'=>by
   have hb':b ≠ e∧b ≠ it:=by simpa using hb
   exact (hs2.2 b hb'.1).trans (k1 b o hb'.1 hb'.2 e')
  have hfr:H s.heap.objs.size=none:=I.hok.fresh (Nat.le_refl _)
  refine ⟨.ref s.heap.objs.size,upd H s.heap.objs.size (.tup [.int i,x]),I.qT (t':=s.toks + 1) hk hf (Nat.le_refl _) ?_,rfl,⟨_,x,hfr,rfl,rfl,fun ys hy=>by rw [I.n9 hy hq]; exact hx⟩,⟨⟨u,?_⟩,?_⟩,fun b hb=>?_⟩
  ·exact ⟨by show 2 ≤ sizeLine; decide,[.int i s.toks,u],.cons ⟨_,rfl⟩ (.cons ru .nil),⟨_,Mu,rfl,_,rfl⟩⟩
  ·exact he2
  ·obtain ⟨o,e1,e2⟩:=hit1
   exact ⟨o,(hs2.2 it (Ne.symm hne)).trans e1,e2⟩
  ·have:b ≠ s.heap.objs.size:=by
    rcases List.mem_cons.mp hb with rfl | hb
    ·exact Ne.symm Fb
    ·rw [List.mem_singleton.mp hb]
     obtain ⟨o,e1,_⟩:=hit
     exact Nat.ne_of_lt (Heap.lt_size e1)
   rw [aL this]
   exact (hf b hb).1
 done:=by
  intro X hP hw hK hc i pins s σ H E I hf st hg
  subst hP hw hK
  obtain ⟨xs,hq,hx⟩:=hg
  obtain ⟨⟨old,he⟩,hit⟩:=st
  obtain ⟨its,rv,p,hz⟩:=I.list hq
  obtain ⟨f0,f1,f2,f3,f4,f5⟩:=hf it (by simp)
  have hl:=rv.length
  exact wpAny_pyNext_enum_end (I.ok.hd hc) he hit p.isList (by simp; omega) fun h' eb=>⟨rfl,I.turned (t':=s.toks) (fun b o hb e=>eb b o hb e) f0 f1 f3 f4 f5⟩
 self:=fun _ _ _ _ _ st h=>st.1.elim fun _ he=>wpAny_pyIter_enum he h
section
variable {X:Cx}
def Mv (K:PySem.W.Frag) (ta:TA):TI:=fun σ H R=>ta σ H fun vs H1=>∃ a,vs=[.ref a]∧(∃ xs,bh K H1 a xs)∧R (Ite K a) H1
theorem Fc:bootBuiltins "enumerate" = some (.type "enumerate"):=by decide +kernel
theorem sj {a:Expr} {ta:TA} {p pos:Pos} {elts:List Expr} {x1} {tpos:Pos} (hg:Gl X "enumerate") (hm:X.mg "enumerate" = none) (ha:PA X [a] ta) (hs:starEach [a] X.env=[(false,eval a X.env)]:=by rfl) :
  PI X (.Tuple elts x1 tpos) (.Call (.Name "enumerate" p) [a] [] pos) (Mv X.K ta):=by
 intro pins s σ H R I h
 refine Call_ (jS I hg hm Fc (PyProof.Rows.callWith_type1 (cG (ha pos pins s σ H _ I h) fun us s1 ⟨vs,H1,I1,r1,q1⟩=>?_) hs rfl))
 obtain ⟨a,e,⟨xs,hq⟩,q⟩:=q1
 subst e
 obtain ⟨u,rfl,ru⟩:=vals1 r1
 cases ru
 obtain ⟨its,rv,p,hz⟩:=I1.list hq
 refine call_enumerate_list p.isList fun h' he hit hsz hk=>?_
 refine wpAny_pyIter_enum he ?_
 refine ⟨s1.heap.objs.size + 1,[s1.heap.objs.size + 1,s1.heap.objs.size],_,_,H1,rfl,I1.kept (t':=s1.toks) hk,zR a _ _ (Nat.succ_ne_self _),⟨⟨_,he⟩,hit⟩,fun b hb=>?_,q⟩
 have hb':s1.heap.objs.size ≤ b:=by
  rcases List.mem_cons.mp hb with rfl | hb
  ·exact Nat.le_succ _
  ·rw [List.mem_singleton.mp hb]; exact Nat.le_refl _
 exact I1.zy hb' (I1.hok.fresh hb')
theorem oJ {K:PySem.W.Frag} {a:Addr} {xs:List V} {g:TG} {tb:TS} {D:Ends} {σ:St} {H:Hp} (Pv:Nat→St→Hp→Prop) (h0:Pv 0 σ H) (hl:∀ i σ H,i ≤ xs.length→Pv i σ H→bh K H a xs)
  (hs:∀ i x σ H t,xs[i]? = some x→H t=none→Pv i σ H→g (.ref t) σ (upd H t (.tup [.int i,x])) fun σ2 H2=>tb { D with nx:=Pv (i + 1),ct:=Pv (i + 1),bk:=D.nx } σ2 H2) (hd:∀ σ H,Pv xs.length σ H→D.nx σ H) :
  ∃ W:Nat→Nat→St→Hp→Prop,(∃ m,W 0 m σ H)∧∀ i m σ H,W i m σ H →
   ((Ite K a).stop i H∧D.nx σ H)∨((Ite K a).go i H∧∃ N:St→Hp→Prop,(∀ σ' H',N σ' H'→∃ m',m' < m∧W (i + 1) m' σ' H')∧∀ x H',(Ite K a).Bh i H x H'→g x σ H' fun σ2 H2=>tb { D with nx:=N,ct:=N,bk:=D.nx } σ2 H2):=by
 refine ⟨fun i m σ H=>m=xs.length - i∧i ≤ xs.length∧Pv i σ H,⟨xs.length,by simp,Nat.zero_le _,h0⟩,?_⟩
 rintro i m σ H ⟨rfl,hi,p⟩
 have q:=hl i σ H hi p
 by_cases hlt:i < xs.length
 ·refine .inr ⟨⟨xs,xs[i],q,by simp [hlt]⟩,Pv (i + 1),fun σ' H' p'=>⟨xs.length - (i + 1),by omega,rfl,hlt,p'⟩,fun x H' y=>?_⟩
  obtain ⟨t,y,hn,e1,e2,hy⟩:=y
  subst e1 e2
  exact hs i y σ _ t (hy xs q) hn p
 ·have e:i=xs.length:=by omega
  subst e
  exact .inl ⟨⟨xs,q,Nat.le_refl _⟩,hd σ H p⟩
end
end L2
namespace L2
open PySem PySem.W PySem.Spec PySem.Calls PyProof.Rows
section
variable {X:Cx} {pins:List (Addr × Obj)} {σ:St} {H:Hp} {s:Shared} {a:Addr} {kvs:List (Key × V)}
end
theorem wy {α β:Type} {R:α→β→Prop} {xs:List α} {ys:List β} (r:Paired R xs ys):∀ {i:Nat} {x:α},xs[i]? = some x→∃ y,ys[i]? = some y∧R x y:=by
 induction r with
 | nil=>intro i x h; simp at h
 | cons h t ih =>
  intro i x e
  cases i with
  | zero =>
   have e':=Option.some.inj e
   subst e'
   exact ⟨_,rfl,h⟩
  | succ i=>exact ih (by simpa using e)
section
variable {X:Cx}
end
def u9 (x:V):Prop:=x=.non∨(∃ i,x=.int i)∨∃ t,x=.str t
theorem sk {A:Around} {s:Shared} {x:V} {u v:Value} (h:u9 x) (ru:RelV x u) (rv:RelV x v):SeqAt.EqAt A s u v true:=by
 rcases h with rfl | ⟨i,rfl⟩ | ⟨t,rfl⟩
 ·have e1:u=Value.none:=ru
  have e2:v=Value.none:=rv
  subst e1 e2
  exact SeqAt.EqAt.same _
 ·obtain ⟨t1,rfl⟩:=ru
  obtain ⟨t2,rfl⟩:=rv
  have:=SeqAt.EqAt.int_int (A:=A) (s:=s) i t1 i t2
  rwa [beq_self_eq_true] at this
 ·obtain ⟨t1,rfl⟩:=ru
  obtain ⟨t2,rfl⟩:=rv
  have:=SeqAt.EqAt.str_str (A:=A) (s:=s) t t1 t t2
  rwa [beq_self_eq_true] at this
abbrev iD (kvs:List (Int × Int)):List (Key × V):=kvs.map fun p=>(Sum.inl p.1,V.int p.2)
def RA (H:Hp) (x y:V):Prop:=∃ p q xs,x=.ref p∧y=.ref q∧H p=some (.tup xs)∧H q=some (.tup xs)∧∀ z ∈ xs,u9 z
def JP (H:Hp) (x y:V):Prop:=(x=y∧u9 x)∨RA H x y∨(∃ p q xs,x=.ref p∧y=.ref q∧H p=some (.lst xs)∧H q=some (.lst xs)∧∀ z ∈ xs,u9 z) ∨
 (∃ p q xs ys,x=.ref p∧y=.ref q∧H p=some (.lst xs)∧H q=some (.lst ys)∧xs.length=ys.length∧∀ (i:Nat) a b,xs[i]? = some a→ys[i]? = some b→RA H a b) ∨
 ∃ p q ka kb,x=.ref p∧y=.ref q∧H p=some (.dK (iD ka))∧H q=some (.dK (iD kb))∧ka.length=kb.length∧∀ c ∈ ka,c ∈ kb
theorem all_true (n:Nat):((List.range n).all fun _=>true)=true:=by simp
def qU (kv:Key × Value):Int × Value:=match kv.1 with
 | .inl i=>(i,kv.2)
 | .inr _=>(0,kv.2)
theorem B9 {P:Program} {w:World} (P':Program) (w':World) {es:List DictEntry} {vs:List (Key × Value)} (p:Pairs (cj P w) es vs):(∀ kv ∈ vs,∃ i,kv.1=Sum.inl i)→Pairs (intKind P' w') es (vs.map qU):=by
 induction p with
 | nil=>intro _; exact .nil
 | @cons e kv es vs h1 h2 t ih =>
  intro ha
  obtain ⟨i,hi⟩:=ha kv (by simp)
  rw [hi] at h1
  have e1:qU kv=(i,kv.2):=by unfold qU; rw [hi]
  rw [List.map_cons,e1]
  exact .cons h1 h2 (ih fun kv hk=>ha kv (by simp [hk]))
theorem zS {P:Program} {w:World} {es:List DictEntry} {vs:List (Key × Value)} (p:Pairs (cj P w) es vs):∀ e ∈ es,∃ kv ∈ vs,(cj P w).is kv.1 e.key=true:=by
 induction p with
 | nil=>intro e h; simp at h
 | @cons e kv es vs h1 h2 t ih =>
  intro e' he
  rcases List.mem_cons.mp he with rfl | he
  ·exact ⟨kv,by simp,h1⟩
  ·obtain ⟨kv',a,b⟩:=ih e' he
   exact ⟨kv',by simp [a],b⟩
theorem int_dict {P:Program} {w:World} {h:Heap} {a:Addr} {vs:List (Key × Value)} {kvs:List (Int × Int)} (r:KV (iD kvs) vs) (d:h.DictOf (cj P w) a vs) (P':Program) (w':World) :
  ∃ us:List (Int × Value),h.DictOf (intKind P' w') a us∧us.map (·.1)=kvs.map (·.1)∧∀ (i:Nat) p,kvs[i]? = some p→∃ t,us[i]? = some (p.1,Value.int p.2 t):=by
 obtain ⟨o,es,ep,g,ex,dt,hk,hp,hn⟩:=d
 have hl:vs.length=kvs.length:=by rw [← r.length,List.length_map]
 have hv:∀ (i:Nat) p,kvs[i]? = some p→∃ t,vs[i]? = some (Sum.inl p.1,Value.int p.2 t):=fun i p hi=>by
  obtain ⟨y,hy,h1,h2⟩:=wy r (i:=i) (x:=(Sum.inl p.1,V.int p.2)) (by rw [List.getElem?_map,hi]; rfl)
  obtain ⟨t,e⟩:=(show ∃ t,y.2=Value.int p.2 t from h2)
  exact ⟨t,by rw [hy,← e]; congr 1; exact Prod.ext h1.symm rfl⟩
 have hu:∀ (i:Nat) p,kvs[i]? = some p→∃ t,(vs.map qU)[i]? = some (p.1,Value.int p.2 t):=fun i p hi=>by
  obtain ⟨t,e⟩:=hv i p hi
  exact ⟨t,by rw [List.getElem?_map,e]; rfl⟩
 have hkeys:(vs.map qU).map (·.1)=kvs.map (·.1):=by
  apply List.ext_getElem?
  intro i
  rcases Nat.lt_or_ge i kvs.length with hi | hi
  ·obtain ⟨t,e⟩:=hu i kvs[i] (List.getElem?_eq_getElem hi)
   rw [List.getElem?_map,e,List.getElem?_map,List.getElem?_eq_getElem hi]
   rfl
  ·rw [List.getElem?_eq_none (by rw [List.length_map,List.length_map]; omega),List.getElem?_eq_none (by rw [List.length_map]; omega)]
 have hall:∀ kv ∈ vs,∃ i,kv.1=Sum.inl i:=fun kv hm=>by
  obtain ⟨i,hi,e⟩:=List.getElem_of_mem hm
  obtain ⟨t,e2⟩:=hv i kvs[i] (List.getElem?_eq_getElem (by omega))
  rw [List.getElem?_eq_getElem hi,e] at e2
  exact ⟨_,congrArg Prod.fst (Option.some.inj e2)⟩
 refine ⟨vs.map qU,⟨o,es,ep,g,ex,dt,?_,?_,?_⟩,hkeys,hu⟩
 ·intro e he
  obtain ⟨k,k1,k2⟩:=hk e he
  obtain ⟨kv,hm,h1⟩:=zS hp e (Array.mem_toList_iff.mpr he)
  obtain ⟨i,hi⟩:=hall kv hm
  have ek:k=kv.1:=(cj P w).inj _ _ _ k1 h1
  rw [ek,hi] at k1 k2
  exact ⟨i,k1,k2⟩
 ·exact B9 P' w' hp hall
 ·rw [hkeys]
  have e:vs.map (·.1)=(kvs.map (·.1)).map (Sum.inl:Int→Key):=by
   apply List.ext_getElem?
   intro i
   rcases Nat.lt_or_ge i kvs.length with hi | hi
   ·obtain ⟨t,e⟩:=hv i kvs[i] (List.getElem?_eq_getElem hi)
    rw [List.getElem?_map,e,List.getElem?_map,List.getElem?_map,List.getElem?_eq_getElem hi]
    rfl
   ·rw [List.getElem?_eq_none (by rw [List.length_map]; omega),List.getElem?_eq_none (by rw [List.length_map,List.length_map]; omega)]
  rw [e] at hn
  exact List.Pairwise.of_map (Sum.inl:Int→Key) (fun a b h=>fun z=>h (by rw [z])) hn
theorem yC {A:Around} {s:Shared} {kb:List (Int × Int)} {ub:List (Int × Value)} (hn:(ub.map (·.1)).Nodup) (hb:∀ (i:Nat) p,kb[i]? = some p→∃ t,ub[i]? = some (p.1,Value.int p.2 t)) :
  ∀ (ka:List (Int × Int)) (ua:List (Int × Value)),ua.length=ka.length→(∀ (i:Nat) p,ka[i]? = some p→∃ t,ua[i]? = some (p.1,Value.int p.2 t))→(∀ c ∈ ka,c ∈ kb)→KeqHits A s ub ua true
 | [],[],_,_,_=>.nil
 | [],_ :: _,h,_,_=>by simp at h
 | _ :: _,[],h,_,_=>by simp at h
 | c :: ka,u :: ua,hl,ha,hm=>by
  obtain ⟨t,e⟩:=ha 0 c rfl
  have eu:u=(c.1,Value.int c.2 t):=Option.some.inj e
  subst eu
  obtain ⟨j,hj,ej⟩:=List.getElem_of_mem (hm c (by simp))
  obtain ⟨t2,e2⟩:=hb j c (by rw [List.getElem?_eq_getElem hj,ej])
  have hv:valueAt ub c.1=some (Value.int c.2 t2):=by
   unfold valueAt
   have hmem:(c.1,Value.int c.2 t2) ∈ ub:=List.mem_of_getElem? e2
   have hf:∀ (l:List (Int × Value)),(l.map (·.1)).Nodup→(c.1,Value.int c.2 t2) ∈ l→l.find? (fun kv=>decide (kv.1=c.1))=some (c.1,Value.int c.2 t2):=by
    intro l
    induction l with
    | nil=>intro _ h; simp at h
    | cons x l ih =>
     intro hnd hx
     rw [List.map_cons,List.nodup_cons] at hnd
     rcases List.mem_cons.mp hx with rfl | hx
     ·simp
     ·have ne:¬ x.1=c.1:=fun z=>hnd.1 (by rw [z]; exact List.mem_map.mpr ⟨_,hx,rfl⟩)
      rw [List.find?_cons_of_neg (by simpa using ne)]
      exact ih hnd.2 hx
   rw [hf ub hn hmem]
   rfl
  have h1:=SeqAt.EqAt.int_int (A:=A) (s:=s) c.2 t c.2 t2
  rw [beq_self_eq_true] at h1
  have r:=yC (A:=A) (s:=s) hn hb ka ua (by simpa using hl) (fun i p hi=>ha (i + 1) p (by simpa using hi)) (fun c hc=>hm c (by simp [hc]))
  have:=KeqHits.hit (k:=c.1) hv h1 r
  simpa using this
section
variable {X:Cx} {pins:List (Addr × Obj)} {σ:St} {H:Hp} {s:Shared} {A:Around}
theorem Ca (hu:A.units < cLine) (I:Inv X pins σ H s) {x y:V} {u v:Value} (h:RA H x y) (ru:RelV x u) (rv:RelV y v):SeqAt.EqAt A s u v true:=by
 obtain ⟨p,q,xs,rfl,rfl,hp,hq,hs⟩:=h
 cases ru
 cases rv
 by_cases e:p=q
 ·subst e; exact SeqAt.EqAt.same _
 ·obtain ⟨_,i1,r1,t1⟩:=(show cH X.prog X.w H s.heap p (.tup xs) from I.hok p _ hp)
  obtain ⟨_,i2,r2,t2⟩:=(show cH X.prog X.w H s.heap q (.tup xs) from I.hok q _ hq)
  have l1:=r1.length
  have l2:=r2.length
  have key:=SeqAt.RcAt.tuples (A:=A) (s:=s) (e:=fun _=>true) t1 t2 hu fun j h1 h2=>by
   have j1:j < xs.length:=by simp at h1; omega
   have z1:xs[j]? = some xs[j]:=List.getElem?_eq_getElem j1
   obtain ⟨u1,w1,q1⟩:=r1.get z1
   obtain ⟨u2,w2,q2⟩:=r2.get z1
   have e1:i1.toArray[j]=u1:=by
    have:i1[j]? = some i1[j]:=List.getElem?_eq_getElem (by omega)
    rw [this] at w1
    simpa using w1
   have e2:i2.toArray[j]=u2:=by
    have:i2[j]? = some i2[j]:=List.getElem?_eq_getElem (by omega)
    rw [this] at w2
    simpa using w2
   rw [e1,e2]
   exact sk (hs _ (List.getElem_mem j1)) q1 q2
  rw [all_true] at key
  have e3:(true && i1.toArray.size == i2.toArray.size)=true:=by simp; omega
  rw [e3] at key
  exact SeqAt.EqAt.of_refs e key
theorem vd (hu:A.units < cLine) (I:Inv X pins σ H s) {p q:Addr} {xs ys:List V} (hp:H p=some (.lst xs)) (hq:H q=some (.lst ys)) (hl:xs.length=ys.length)
  (he:∀ (i:Nat) a b u v,xs[i]? = some a→ys[i]? = some b→RelV a u→RelV b v→SeqAt.EqAt A.in1 s u v true):SeqAt.RcAt A s (.ref p) (.ref q) true:=by
 obtain ⟨i1,r1,t1,_⟩:=I.list (bh.of hp)
 obtain ⟨i2,r2,t2,_⟩:=I.list (bh.of hq)
 have l1:=r1.length
 have l2:=r2.length
 have key:=SeqAt.RcAt.lists (A:=A) (s:=s) (e:=fun _=>true) t1.isList t2.isList (by simp; omega) hu fun j h1 h2=>by
  have j1:j < xs.length:=by simp at h1; omega
  have j2:j < ys.length:=by simp at h2; omega
  have z1:xs[j]? = some xs[j]:=List.getElem?_eq_getElem j1
  have z2:ys[j]? = some ys[j]:=List.getElem?_eq_getElem j2
  obtain ⟨u1,w1,q1⟩:=r1.get z1
  obtain ⟨u2,w2,q2⟩:=r2.get z2
  have e1:i1.toArray[j]=u1:=by
   have:i1[j]? = some i1[j]:=List.getElem?_eq_getElem (by omega)
   rw [this] at w1
   simpa using w1
  have e2:i2.toArray[j]=u2:=by
   have:i2[j]? = some i2[j]:=List.getElem?_eq_getElem (by omega)
   rw [this] at w2
   simpa using w2
  rw [e1,e2]
  exact he j _ _ _ _ z1 z2 q1 q2
 rw [all_true] at key
 exact key
theorem JQ (hu:A.units + 1 < cLine) (I:Inv X pins σ H s) {x y:V} {u v:Value} (h:JP H x y) (ru:RelV x u) (rv:RelV y v):SeqAt.EqAt A s u v true:=by
 have hu0:A.units < cLine:=by omega
 have hu1:A.in1.units < cLine:=hu
 rcases h with ⟨rfl,hs⟩ | h | ⟨p,q,xs,rfl,rfl,hp,hq,hs⟩ | ⟨p,q,xs,ys,rfl,rfl,hp,hq,hl,hs⟩ | ⟨p,q,ka,kb,rfl,rfl,hp,hq,hl,hs⟩
 ·exact sk hs ru rv
 ·exact Ca hu0 I h ru rv
 ·cases ru
  cases rv
  by_cases e:p=q
  ·subst e; exact SeqAt.EqAt.same _
  ·refine SeqAt.EqAt.of_refs e (vd hu0 I hp hq rfl fun i a b u v ha hb r1 r2=>?_)
   rw [ha] at hb
   cases hb
   exact sk (hs a (List.mem_of_getElem? ha)) r1 r2
 ·cases ru
  cases rv
  by_cases e:p=q
  ·subst e; exact SeqAt.EqAt.same _
  ·exact SeqAt.EqAt.of_refs e (vd hu0 I hp hq hl fun i a b u v ha hb r1 r2=>Ca hu1 I (hs i a b ha hb) r1 r2)
 ·cases ru
  cases rv
  by_cases e:p=q
  ·subst e; exact SeqAt.EqAt.same _
  ·refine SeqAt.EqAt.of_refs e fun P' w' E' Q' hQ=>?_
   obtain ⟨_,y1,vs1,r1,d1⟩:=qQ I.hok hp
   obtain ⟨_,y2,vs2,r2,d2⟩:=qQ I.hok hq
   obtain ⟨ua,da,na,va⟩:=int_dict r1 d1 P' w'
   obtain ⟨ub,db,nb,vb⟩:=int_dict r2 d2 P' w'
   have hnb:(ub.map (·.1)).Nodup:=by
    obtain ⟨_,_,_,_,_,_,_,_,hn⟩:=db
    exact hn
   have la:ua.length=ka.length:=by have:=congrArg List.length na; simpa using this
   have lb:ub.length=kb.length:=by have:=congrArg List.length nb; simpa using this
   refine keq_eq y1 y2 da db hu0 (r:=true) (fun _=>yC hnb vb ka ua la va hs) ?_
   have e3:(ua.length == ub.length && true)=true:=by simp; omega
   rw [e3]
   exact hQ
end
theorem sq:typeLookup (.type "list") "keys" = pure none:=by rw [typeLookup_type,builtinLookup_eq_fast]; kernel_rfl
theorem wA {prog:Program} {w:World} {A:Around} {E:Value→Shared→Prop} {s:Shared} {a:Addr} {xs:Array Value} {k:Nat} {Q:Option Value→Shared→Prop}
  (hx:s.heap.get? a=some { cls:=.type "list",data:=.seq xs k }) (hA:A.handled=none)
  (hq:∀ h' tk,(∀ b o,s.heap.get? b=some o→h'.get? b=some o)→Q none { s with heap:=h',toks:=tk }):wpAny (model prog w) A (getAttr? (.ref a) "keys") Q E s:=by
 obtain ⟨hp,g,d,tk,os⟩:=s
 have hT:∀ tk',(⟨hp,g,d,tk',os⟩:Shared).TypeIs (.ref a) "list" := fun _=>⟨_,hx,rfl⟩
 have g1:=sub_AttributeError
 have g3:=PySem.F.slot_list_getattribute.lookup
 have g4:=PySem.F.slot_list_getattribute.bind (.ref a)
 have g5:=am_list_getattr_none
 unfold getAttr? getAttrBy? getAttrBy
 repeat (any_goals (first | assumption | exact hT _ | ((with_reducible show wpAny _ _ (call (Value.builtin "list.__getattribute__") _ _) _ _ _); refine call_meets PySem.F.slot_list_getattribute (hT _) am_entry_list_getattribute (PySem.F.args_list_getattribute_2 _ _) (meets_getattribute_miss_list a xs k #[] "keys" _ sq (by decide +kernel) (by size_fits)) ⟨hx,hA,fun h' tk' e hy=>?_⟩) | wp_step))
 obtain ⟨t',u',he⟩:=hy.there
 have hkp:=hy.of.keeps
 (show wpAny (model prog w) _ (getattributeRaised _ _ _ _ _ _ _) _ _ _; unfold getattributeRaised; repeat (any_goals (first | assumption | wp_step)))
 exact hq _ _ hkp
theorem jl:plainId "dict.update.loop" = true:=by decide +kernel
theorem qV:entryFor table "dict.update.loop" = some Builtin.«dict.update.loop»:=entryFor_of_fast (by kernel_rfl)
section
variable {prog:Program} {w:World} {K:Type} [DecidableEq K] {knd:KeyKind prog w K} {A:Around} {R:Result→Shared→Prop}
theorem wB (hh:A.handled=none) {d it l:Addr} {items:Array Value} {ks:List (K × Value)} (hdi:d ≠ it) (Rv:l ≠ d) (hli:l ≠ it) (hkl:ks.length=items.size) (hsz:items.size ≤ 5000) :
  ∀ (n i:Nat) (s:Shared) (acc:List (K × Value)) (t:Tok),items.size - i=n→i ≤ items.size→s.heap.IsListIter it l i→s.heap.IsList l items→s.heap.DictOf knd d acc→acc.length ≤ i →
   (∀ (j:Nat) k v,ks[j]? = some (k,v)→∃ tup key,items[j]? = some (.ref tup)∧IsTup s.heap tup #[key,v]∧knd.is k key=true∧tup ≠ d∧tup ≠ it) →
   (∀ h' tk,h'.DictOf knd d (merged acc (ks.drop i))→(∀ b o,b ≠ d→b ≠ it→s.heap.get? b=some o→h'.get? b=some o)→R (.ok (.ret .none)) { s with heap:=h',toks:=tk }) →
   codeAny (model prog w) A (.builtin "dict.update.loop" ⟨[.ref d,.ref it,.int i t,.none],[]⟩) R s:=by
 intro n
 induction n with
 | zero =>
  intro i s acc t hn hi hit hl hd hal hks hR
  have e:i=items.size:=by omega
  subst e
  refine codeAny_builtin qV ?_
  rw [Around.under_plainId jl _]
  show wpAny _ A.in1 (pyNext (.ref it) >>= _) _ _ s
  refine wpAny_bind (wpAny_pyNext_list_end (A:=A.in1) hh hit hl (by simp) fun h' he=>?_)
  show wpAny _ A.in1 (Builtin.Dict.addKeywords d [] >>= _) _ _ _
  refine wpAny_bind (wpAny_pure (wpAny_pure ?_))
  have e2:ks.drop items.size=[]:=List.drop_eq_nil_of_le (by omega)
  rw [e2] at hR
  refine hR h' s.toks ?_ fun b o _ hb e=>he b o hb e
  obtain ⟨o,es,ep,ho,r⟩:=hd
  exact ⟨o,es,ep,he d o hdi ho,r⟩
 | succ n ih =>
  intro i s acc t hn hi hit hl hd hal hks hR
  have hlt:i < items.size:=by omega
  have hki:ks[i]? = some ks[i]:=List.getElem?_eq_getElem (by omega)
  obtain ⟨tup,key,hti,htup,hkey,ntd,nti⟩:=hks i ks[i].1 ks[i].2 hki
  refine codeAny_builtin qV ?_
  rw [Around.under_plainId jl _]
  show wpAny _ A.in1 (pyNext (.ref it) >>= _) _ _ s
  refine wpAny_bind (wpAny_pyNext_list_item (A:=A.in1) hit hl hti fun h1 hit1 hs1=>?_)
  have k1:∀ b o,b ≠ it→s.heap.get? b=some o→h1.get? b=some o:=fun b o hb e=>(hs1.2 b hb).trans e
  obtain ⟨ot,hot,hct,nt,hdt⟩:=htup
  have Cd:=k1 _ _ nti hot
  have hd1:h1.DictOf knd d acc:=by
   obtain ⟨o,es,ep,ho,r⟩:=hd
   exact ⟨o,es,ep,k1 d o hdi ho,r⟩
  refine wpAny_bind (wpAny_holding (wpAny_bind (wpAny_tryCatch ?_)))
  show wpAny _ A.in1 (Builtin.Dict.pairItems (.ref tup)) _ _ { s with heap:=h1 }
  unfold Builtin.Dict.pairItems
  refine wpAny_bind (wpAny_typeOf (T := "tuple") ⟨_,Cd,hct⟩ ?_)
  rw [if_pos (by decide)]
  refine wpAny_bind (wpAny_seqItems Cd hdt ?_)
  refine wpAny_pure ?_
  show wpAny _ A.in1 (holding [key,ks[i].2] (dictSet d key ks[i].2)) _ _ { s with heap:=h1 }
  refine wpAny_holding (wpAny_dictSet_pairs (hsz:=Nat.le_trans hal (Nat.le_trans hi (Nat.le_trans hsz (by rw [sizeLine_eq]; decide)))) hkey hd1 fun h2 hd2 hs2=>?_)
  have k2:∀ b o,b ≠ d→b ≠ it→s.heap.get? b=some o→h2.get? b=some o:=fun b o hb hb2 e=>(hs2.2 b hb).trans (k1 b o hb2 e)
  refine wpAny_pure ⟨plainId_quiet jl _,?_⟩
  refine ih (i + 1) { s with heap:=h2,toks:=s.toks + 1 } (stored acc ks[i].1 ks[i].2) 0 (by omega) hlt ?_ ?_ hd2 ?_ ?_ ?_
  ·obtain ⟨o,ho,r⟩:=hit1
   exact ⟨o,(hs2.2 it (Ne.symm hdi)).trans ho,r⟩
  ·obtain ⟨o,ho,r⟩:=hl
   exact ⟨o,k2 l o Rv hli ho,r⟩
  ·unfold stored
   split
   ·rw [List.length_map]; omega
   ·rw [List.length_append]
    show acc.length + 1 ≤ i + 1
    omega
  ·intro j k v hj
   obtain ⟨Mw,key',a1,⟨o,a2,a3⟩,a4,a5,a6⟩:=hks j k v hj
   exact ⟨Mw,key',a1,⟨o,k2 Mw o a5 a6 a2,a3⟩,a4,a5,a6⟩
  ·intro h' tk hd' kp
   have e3:ks.drop i=ks[i] :: ks.drop (i + 1):=List.drop_eq_getElem_cons (by omega)
   refine hR h' tk ?_ fun b o hb hb2 e=>kp b o hb hb2 (k2 b o hb hb2 e)
   rw [e3]
   exact hd'
end
end L2
namespace L2
open PySem PySem.Spec PyProof.Rows
def JR (X:Cx) (k:Nat) (te:TE) (t:TA):TE:=fun σ H Q=>te σ H fun x H1=>∃ (f:Addr) (fd:FuncData) (ps:List Str) (sp:Sp),x=.ref f∧aR X.prog X.w X.K X.mg X.base bV k f fd ps sp∧Binds X.K fd ps []∧PySem.W.keepIn X.K (.ref f)=true ∧
 t σ H1 fun vs H2=>sp (vs ++ []) H2 Q E0
section
variable {X:Cx} {k:Nat} {e a:Expr} {es:List Expr} {pos:Pos} {te:TE} {t:TA}
theorem Ce (he:PE X e te) (hr:eU k X.A) (ha:PA X (a :: es) t)
  (ht:eval (.Call e (a :: es) [] pos) X.env=(do callWith pos (← eval e X.env) [] (backTo pos (starEach (a :: es) X.env)) (backToKw pos (keywordEach [] X.env))):=by rfl)
  (hst:starEach (a :: es) X.env=(false,eval a X.env) :: starEach es X.env:=by rfl) (hpl:(backTo pos (starEach es X.env)).any (·.1)=false:=by rfl) :
  PE X (.Call e (a :: es) [] pos) (JR X k te t):=by
 intro pins s σ H Q I h
 rw [ht]
 refine wpAny_bind (cG (he pins s σ H _ I h) fun u s1 ⟨x,H1,I1,rx,f,fd,ps,sp,ex,F,hb,hk,q⟩=>?_)
 subst ex
 obtain rfl:u=Value.ref f:=rx
 refine PySem.W.callWith_K (h₀:=X.base) I1.ok.mod.LO hk (cG (ha pos pins s1 σ H1 _ I1 q) fun us s2 ⟨vs,H2,I2,r,q2⟩=>⟨I2.lz,?_⟩) hst hpl
 exact vW F hr hb .nil bp I2 r q2
end
def dE (K:PySem.W.Frag) (P:Params) (a:Addr) (x:Str) (r:Option V):Prop :=
 ∃ (es:Array DictEntry) (n:Nat),K.lookup a=some ⟨.type "dict",none,.dict es n,#[]⟩∧PySem.W.KeysLit P es.toList∧(a == sysModules)=false∧∃ q,PySem.W.nsIn K a x=some q∧iq r q
def Mx (K:PySem.W.Frag) (P:Params) (td ty:TE):TE:=fun σ H Q=>td σ H fun x H1=>ty σ H1 fun y H2=>∃ a k v,x=.ref a∧y=.str k∧dE K P a k (some v)∧Q v H2
def RB (K:PySem.W.Frag) (P:Params) (ty td:TE):TE:=fun σ H Q=>ty σ H fun y H1=>td σ H1 fun x H2=>∃ a k r,x=.ref a∧y=.str k∧dE K P a k r∧Q (.bl r.isSome) H2
section
variable {X:Cx} {o i:Expr} {pos:Pos} {td ty:TE}
theorem jm (ho:PE X o td) (hi:PE X i ty) (hs:JD i):PE X (.Subscript o i pos) (Mx X.K X.w.params td ty):=by
 intro pins s σ H Q I h
 refine yt PySem.F.slot_dict_getitem.lookup hs (cG (ho pins s σ H _ I h) fun u s1 ⟨x,H1,I1,rx,q1⟩=>cG (hi pins s1 σ H1 _ I1 q1) fun iv s2 ⟨y,H2,I2,ry,a,k,v,ex,ey,g,q2⟩=>?_)
 subst ex ey
 obtain rfl:u=Value.ref a:=rx
 obtain ⟨t,rfl⟩:=ry
 obtain ⟨es,n,hl,hk,hm,q,hq,rq⟩:=g
 obtain ⟨w',hw,qe⟩:=iq.some_of (v:=v) (o:=q) rq
 subst hw
 have mo:=PySem.W.mapOf_K (prog:=X.prog) (w:=X.w) I2.lz hl hk
 exact ⟨mo.typeIs,wpAny_getItem_of (strKind_is X.prog X.w k t) mo (PySem.W.find_K hl hq) ⟨v,H2,I2.tok _,qe,q2⟩⟩
theorem Cg (hi:PE X i ty) (ho:PE X o td):PC X .In i o (RB X.K X.w.params ty td):=by
 intro pins s σ H Q I h
 refine cG (hi pins s σ H _ I h) fun iv s1 ⟨y,H1,I1,ry,q1⟩=>cG (ho pins s1 σ H1 _ I1 q1) fun u s2 ⟨x,H2,I2,rx,a,k,r,ex,ey,g,q2⟩=>?_
 subst ex ey
 obtain rfl:u=Value.ref a:=rx
 obtain ⟨t,rfl⟩:=ry
 obtain ⟨es,n,hl,hk,hm,q,hq,rq⟩:=g
 have mo:=PySem.W.mapOf_K (prog:=X.prog) (w:=X.w) I2.lz hl hk
 refine wpAny_in_of (strKind_is X.prog X.w k t) hm mo ?_
 rw [PySem.W.find_K hl hq,← rq.iw]
 exact ⟨.bl r.isSome,H2,I2.tok _,rfl,q2⟩
end
section
variable {X:Cx} {o e f:Expr} {apos cpos:Pos} {td ty tx:TE}
end
theorem Fd {f:Nat→Bool}:∀ (bs:List Bool),(∀ i b,bs[i]? = some b→f i=b)→(List.range bs.length).all f=bs.all id:=by
 intro bs h
 rw [Bool.eq_iff_iff,List.all_eq_true,List.all_eq_true]
 constructor
 ·intro k b hb
  obtain ⟨i,hi,e⟩:=List.getElem_of_mem hb
  have:=k i (List.mem_range.mpr hi)
  rw [h i b (by rw [List.getElem?_eq_getElem hi,e])] at this
  exact this
 ·intro k i hi
  have hi:=List.mem_range.mp hi
  rw [h i bs[i] (List.getElem?_eq_getElem hi)]
  exact k _ (List.getElem_mem hi)
section
variable {X:Cx}
theorem Mz {bs:List Bool} {its:List Value} (rv:Vals (bs.map V.bl) its) {i:Nat} {v:Value} (h:its.toArray[i]? = some v):∃ b,bs[i]? = some b∧v=.bool b:=by
 have h:its[i]? = some v:=by simpa using h
 have hl:=rv.length
 rw [List.length_map] at hl
 have hi:i < bs.length:=by
  rw [hl]
  exact (List.getElem?_eq_some_iff.mp h).1
 obtain ⟨u,hu,ru⟩:=rv.get (i:=i) (x:=V.bl bs[i]) (by rw [List.getElem?_map,List.getElem?_eq_getElem hi]; rfl)
 rw [h] at hu
 cases hu
 exact ⟨bs[i],List.getElem?_eq_getElem hi,ru⟩
theorem lK (hc:X.calm=true):iU X (.builtin "all") (fun xs H Q=>∃ (a:Addr) (bs:List Bool),xs=[.ref a]∧bh X.K H a (bs.map V.bl)∧Q (.bl (bs.all id)) H):=by
 intro pins s σ H xs us Q I r h
 obtain ⟨a,bs,rfl,hq,q⟩:=h
 obtain ⟨u,rfl,ru⟩:=vals1 r
 cases ru
 obtain ⟨its,rv,p,hz⟩:=I.list hq
 have hl:=p.isList
 have hlt:a < s.heap.objs.size:=by obtain ⟨_,e,_⟩:=hl; exact Heap.lt_size e
 have hlen:=rv.length
 rw [List.length_map] at hlen
 refine call_all_walk (wpAny_pyIter_list hl ?_)
 refine ⟨s.heap.objs.size,[s.heap.objs.size,a],[s.heap.objs.size],its.toArray.size,_,_,fun i=>(bs[i]?).getD true,rfl,Walks.list (A:=X.A.in1) (I.ok.hd hc) _ a (Nat.ne_of_lt hlt) its.toArray,
  ⟨⟨_,Heap.get?_push_size _ rfl,rfl,rfl⟩,hl.push _⟩,fun i v s' Q' E' hP hQ=>?_,fun h' tk hk=>?_⟩
 ·obtain ⟨b,e,rfl⟩:=Mz rv hP
  simp only [e,Option.getD_some] at hQ
  exact wpAny_truthy_bool hQ
 ·rw [List.size_toArray,← hlen,Fd bs (fun i b e=>by rw [e]; rfl)]
  exact ⟨.bl _,H,I.kept (t':=tk) (fun b x e=>hk b x (fun hm=>by rw [List.mem_singleton.mp hm] at e; exact Nat.lt_irrefl _ (Heap.lt_size e)) (Heap.get?_push_of_some _ e)),rfl,q⟩
end
section
variable {prog:Program} {w:World} {A:Around} {E:Value→Shared→Prop} {s:Shared}
theorem vf {it t:Addr} {i:Nat} {els:Array Value} {x:Value} {Q:Value→Shared→Prop} (ti:s.heap.IsTupleIter it t i) (tt:s.heap.IsTuple t els) (gx:els[i]? = some x)
  (k:∀ h',h'.IsTupleIter it t (i + 1)→Heap.SameBut it s.heap h'→Q x { s with heap:=h' }):wpAny (model prog w) A (Builtin.SmallTypes.nextOf (.ref it)) Q E s:=by
 obtain ⟨o,go,gc,gd⟩:=id ti
 obtain ⟨ol,RD,_,nl,RE⟩:=tt
 unfold Builtin.SmallTypes.nextOf
 refine wpAny_bind (wpAny_callSpecial?_slot (name:=Str.ofString "__next__") ti.typeIs F.slot_tuple_iterator_next (wpAny_call_entry F.slot_tuple_iterator_next ti.typeIs F.entry_tuple_iterator_next ?_ (F.args_tuple_iterator_next_1 _)))
 show wpAny _ _ (field (.ref it) 0 >>= _) _ _ s; refine wpAny_bind (wpAny_field go gd (x:=.ref t) rfl ?_)
 show wpAny _ _ (if (Value.ref t == Value.none)=true then _ else _) _ _ s; rw [if_neg (show ¬ ((Value.ref t == Value.none)=true) from Bool.false_ne_true)]
 show wpAny _ _ (field (.ref it) 1 >>= _) _ _ s; refine wpAny_bind (wpAny_field go gd (x:=.int i 0) rfl ?_)
 show wpAny _ _ (seqItems? (.ref t) >>= _) _ _ s; refine wpAny_bind (wpAny_seqItems RD RE ?_); simp only [Int.toNat_natCast,gx]
 refine wpAny_bind (wpAny_setField go gd (by simp) (wpAny_pure ⟨x,rfl,wpAny_pure (k _ ?_ (Heap.SameBut.update ..))⟩))
 exact ⟨_,Heap.get?_update_self _ go (Obj.isFreed_of_fields (Obj.data_mapFields gd _)),(Obj.cls_mapFields ..).trans gc,by rw [Obj.data_mapFields gd]; simp [rawInt]⟩
theorem Fe {it t:Addr} {i:Nat} {els:Array Value} {Q:Value→Shared→Prop} (hh:A.handled=none) (ti:s.heap.IsTupleIter it t i) (tt:s.heap.IsTuple t els) (gx:els[i]? = none)
  (k:∀ h' e,Heap.ExtBut it s.heap h'→(∃ o,h'.get? e=some o∧o.cls=.type "StopIteration")→E (.ref e) { s with heap:=h' }):wpAny (model prog w) A (Builtin.SmallTypes.nextOf (.ref it)) Q E s:=by
 obtain ⟨o,go,gc,gd⟩:=id ti
 obtain ⟨ol,RD,_,nl,RE⟩:=tt
 unfold Builtin.SmallTypes.nextOf
 refine wpAny_bind (wpAny_callSpecial?_slot (name:=Str.ofString "__next__") ti.typeIs F.slot_tuple_iterator_next (wpAny_call_entry F.slot_tuple_iterator_next ti.typeIs F.entry_tuple_iterator_next ?_ (F.args_tuple_iterator_next_1 _)))
 show wpAny _ _ (field (.ref it) 0 >>= _) _ _ s; refine wpAny_bind (wpAny_field go gd (x:=.ref t) rfl ?_)
 show wpAny _ _ (if (Value.ref t == Value.none)=true then _ else _) _ _ s; rw [if_neg (show ¬ ((Value.ref t == Value.none)=true) from Bool.false_ne_true)]
 show wpAny _ _ (field (.ref it) 1 >>= _) _ _ s; refine wpAny_bind (wpAny_field go gd (x:=.int i 0) rfl ?_)
 show wpAny _ _ (seqItems? (.ref t) >>= _) _ _ s; refine wpAny_bind (wpAny_seqItems RD RE ?_); simp only [Int.toNat_natCast,gx]
 refine wpAny_bind (wpAny_rule (wpAny_bind (wpAny_setField go gd (by simp) ?_)))
 show wpAny _ _ (newExc (.type "StopIteration") [] >>= _) _ _ _; refine wpAny_bind ?_; simp only [newExc,newTuple]; refine wpAny_bind (wpAny_newObj_type ?_ (by size_fits))
 refine wpAny_bind (m:=firstArgMember _ _) (wpAny_of_eq (a:=Value.none) (by first | rfl | (simp only [firstArgMember]; rfl)) ?_); refine wpAny_newObj_type ?_ (by size_fits)
 simp only [raiseNew]; refine wpAny_bind (wpAny_handled ?_); (first | rw [show A.in1.handled=none from hh] | rw [hh]); refine wpAny_bind (wpAny_pure (wpAny_throw ?_))
 exact k _ _ (((Heap.SameBut.update ..).extBut.push _).push _) ⟨_,Heap.get?_push_size _ rfl,rfl⟩
theorem zT {z TI TO i1 i2 l1 l2:Addr} {k:Nat} {xs ys:Array Value} {x y a b:Value} {Q:Option Value→Shared→Prop} (D:ZipApart z TI TO i1 i2 l1 l2)
  (gz:IsZip s.heap z TI TO .none) (gI:IsPair s.heap TI (.ref i1) (.ref i2)) (gO:IsPair s.heap TO a b)
  (t1:s.heap.IsTupleIter i1 l1 k) (t2:s.heap.IsTupleIter i2 l2 k) (m1:s.heap.IsTuple l1 xs) (m2:s.heap.IsTuple l2 ys) (gx:xs[k]? = some x) (gy:ys[k]? = some y)
  (q:∀ h',IsZip h' z TI TO (rawInt s.heap.objs.size)→IsPair h' TO x y→h'.IsTupleIter i1 l1 (k + 1)→h'.IsTupleIter i2 l2 (k + 1)→IsPair h' s.heap.objs.size x y→h'.objs.size=s.heap.objs.size + 1 →
   (∀ c o,c ≠ z→c ≠ TO→c ≠ i1→c ≠ i2→s.heap.get? c=some o→h'.get? c=some o)→Q (some (.ref s.heap.objs.size)) { s with heap:=h' }):wpAny (model prog w) A (pyNext (.ref z)) Q E s:=by
 have hT:s.TypeIs (.ref z) "zip" := ⟨_,gz,rfl⟩
 unfold pyNext
 refine wpAny_bind (wpAny_attempt (wpAny_callSpecial?_slot (name:=Str.ofString "__next__") hT F.slot_zip_next (wpAny_call_entry F.slot_zip_next hT F.entry_zip_next ?_ (F.args_zip_next_1 _))))
 show wpAny _ _ (field (.ref z) 2 >>= _) _ _ _; refine wpAny_bind (wpAny_field gz rfl (x:=.bool false) rfl ?_)
 show wpAny _ _ (field (.ref z) 3 >>= _) _ _ _; refine wpAny_bind (wpAny_field gz rfl (x:=.ref TI) rfl ?_); refine wpAny_bind (wpAny_seqItems gI rfl ?_)
 show wpAny _ _ (Builtin.SmallTypes.ownedTupleIsFree (.ref z) >>= _) _ _ _; refine wpAny_bind ?_; unfold Builtin.SmallTypes.ownedTupleIsFree
 refine wpAny_bind (wpAny_field gz rfl (x:=.none) rfl (wpAny_pure ?_)); simp only [if_true]; refine wpAny_bind (wpAny_rule ?_); refine wpAny_bind (wpAny_field gz rfl (x:=.ref TO) rfl ?_)
 refine wpAny_bind (wpAny_setField_rec gz (by simp) fun g1 z1 e1=>?_); replace z1:IsZip g1 z TI TO .ellipsis:=z1; refine wpAny_bind ?_
 simp only [List.zipIdx_cons,List.zipIdx_nil,List.forIn_cons,List.forIn_nil]; refine wpAny_bind (wpAny_bind (wpAny_onRaise ?_))
 show wpAny _ _ (Builtin.SmallTypes.nextOf (.ref i1) >>= _) _ _ _; refine wpAny_bind (vf (t1.extBut e1.extBut D.i1z) (m1.extBut e1.extBut D.l1z) gx fun g2 t1' e2=>wpAny_pure ?_)
 have o2:IsPair g2 TO a b:=e2.extBut _ _ D.TOi1 (e1.extBut _ _ D.TOz gO)
 refine wpAny_bind (wpAny_seqItems o2 rfl ?_); refine wpAny_bind (wpAny_updateSeq_pair o2 fun g3 o3 e3=>?_); replace o3:IsPair g3 TO x b:=o3; refine wpAny_bind (wpAny_letGo (wpAny_pure ?_)); refine wpAny_bind (wpAny_bind (wpAny_onRaise ?_))
 show wpAny _ _ (Builtin.SmallTypes.nextOf (.ref i2) >>= _) _ _ _; refine wpAny_bind (vf (((t2.extBut e1.extBut D.i2z).extBut e2.extBut D.i12.symm).extBut e3.extBut D.TOi2.symm) (((m2.extBut e1.extBut D.l2z).extBut e2.extBut D.l2i1).extBut e3.extBut D.l2TO) gy fun g4 t2' e4=>wpAny_pure ?_)
 have o4:IsPair g4 TO x b:=e4.extBut _ _ D.TOi2 o3
 refine wpAny_bind (wpAny_seqItems o4 rfl ?_); refine wpAny_bind (wpAny_updateSeq_pair o4 fun g5 o5 e5=>?_); replace o5:IsPair g5 TO x y:=o5; refine wpAny_bind (wpAny_letGo (wpAny_pure (wpAny_pure ?_)))
 refine wpAny_bind (wpAny_seqItems o5 rfl ?_); refine wpAny_bind (wpAny_newTuple ?_)
 have sz:g5.objs.size=s.heap.objs.size:=by rw [e5.1,e4.1,e3.1,e2.1,e1.1]
 have z5:IsZip g5 z TI TO .ellipsis:=e5.extBut _ _ D.TOz.symm (e4.extBut _ _ D.i2z.symm (e3.extBut _ _ D.TOz.symm (e2.extBut _ _ D.i1z.symm z1)))
 have kp:∀ c o,c ≠ z→c ≠ TO→c ≠ i1→c ≠ i2→s.heap.get? c=some o→g5.get? c=some o:=fun c o c1 c2 c3 c4 e=>e5.extBut _ _ c2 (e4.extBut _ _ c4 (e3.extBut _ _ c2 (e2.extBut _ _ c3 (e1.extBut _ _ c1 e))))
 have u1:g5.IsTupleIter i1 l1 (k + 1):=((t1'.extBut e3.extBut D.TOi1.symm).extBut e4.extBut D.i12).extBut e5.extBut D.TOi1.symm
 have u2:g5.IsTupleIter i2 l2 (k + 1):=t2'.extBut e5.extBut D.TOi2.symm
 have zl:z < g5.objs.size:=Heap.lt_size z5
 show wpAny _ _ (Builtin.SmallTypes.ownedTupleHandOut (.ref z) (.ref g5.objs.size) >>= _) _ _ _; refine wpAny_bind ?_; unfold Builtin.SmallTypes.ownedTupleHandOut
 have z6:IsZip (g5.push { cls:=.type "tuple",data:=.seq #[x,y] }) z TI TO .ellipsis:=Heap.get?_push_of_some _ z5
 refine wpAny_bind (wpAny_setField_rec z6 (by simp) fun g7 z7 e7=>?_); replace z7:IsZip g7 z TI TO (rawInt g5.objs.size):=z7
 refine wpAny_setField_rec z7 (by simp) fun g8 z8 e8=>?_; replace z8:IsZip g8 z TI TO (rawInt g5.objs.size):=z8
 have up:∀ c o,c ≠ z→g5.get? c=some o→g8.get? c=some o:=fun c o c1 e=>e8.extBut _ _ c1 (e7.extBut _ _ c1 (Heap.get?_push_of_some _ e))
 have n8:IsPair g8 g5.objs.size x y:=e8.extBut _ _ (Nat.ne_of_gt zl) (e7.extBut _ _ (Nat.ne_of_gt zl) (Heap.get?_push_size _ rfl))
 have s8:g8.objs.size=g5.objs.size + 1:=by rw [e8.1,e7.1,Heap.size_push]
 rw [sz] at z8 n8 s8
 refine wpAny_pure ⟨.ref g5.objs.size,rfl,wpAny_pure ?_⟩
 rw [sz]
 exact q g8 z8 (up _ _ D.TOz o5) (u1.at fun o e=>up _ o D.i1z e) (u2.at fun o e=>up _ o D.i2z e) n8 s8 fun c o c1 c2 c3 c4 e=>up c o c1 (kp c o c1 c2 c3 c4 e)
theorem Ci {z TI TO i1 i2 l1 l2:Addr} {k:Nat} {xs:Array Value} {Q:Option Value→Shared→Prop} (hh:A.handled=none) (D:ZipApart z TI TO i1 i2 l1 l2)
  (gz:IsZip s.heap z TI TO .none) (gI:IsPair s.heap TI (.ref i1) (.ref i2)) (t1:s.heap.IsTupleIter i1 l1 k) (m1:s.heap.IsTuple l1 xs) (gx:xs[k]? = none)
  (q:∀ h',(∀ c o,c ≠ z→c ≠ TO→c ≠ i1→c ≠ i2→s.heap.get? c=some o→h'.get? c=some o)→Q none { s with heap:=h' }):wpAny (model prog w) A (pyNext (.ref z)) Q E s:=by
 have hT:s.TypeIs (.ref z) "zip" := ⟨_,gz,rfl⟩
 unfold pyNext
 refine wpAny_bind (wpAny_attempt (wpAny_callSpecial?_slot (name:=Str.ofString "__next__") hT F.slot_zip_next (wpAny_call_entry F.slot_zip_next hT F.entry_zip_next ?_ (F.args_zip_next_1 _))))
 show wpAny _ _ (field (.ref z) 2 >>= _) _ _ _; refine wpAny_bind (wpAny_field gz rfl (x:=.bool false) rfl ?_)
 show wpAny _ _ (field (.ref z) 3 >>= _) _ _ _; refine wpAny_bind (wpAny_field gz rfl (x:=.ref TI) rfl ?_); refine wpAny_bind (wpAny_seqItems gI rfl ?_)
 show wpAny _ _ (Builtin.SmallTypes.ownedTupleIsFree (.ref z) >>= _) _ _ _; refine wpAny_bind ?_; unfold Builtin.SmallTypes.ownedTupleIsFree
 refine wpAny_bind (wpAny_field gz rfl (x:=.none) rfl (wpAny_pure ?_)); simp only [if_true]; refine wpAny_bind (wpAny_rule ?_); refine wpAny_bind (wpAny_field gz rfl (x:=.ref TO) rfl ?_)
 refine wpAny_bind (wpAny_setField_rec gz (by simp) fun g1 z1 e1=>?_); replace z1:IsZip g1 z TI TO .ellipsis:=z1; refine wpAny_bind ?_
 simp only [List.zipIdx_cons,List.zipIdx_nil,List.forIn_cons,List.forIn_nil]; refine wpAny_bind (wpAny_bind (wpAny_onRaise ?_))
 show wpAny _ _ (Builtin.SmallTypes.nextOf (.ref i1) >>= _) _ _ _; refine wpAny_bind (Fe hh (t1.extBut e1.extBut D.i1z) (m1.extBut e1.extBut D.l1z) gx fun g2 e e2 he=>?_)
 obtain ⟨oe,hoe,hce⟩:=he
 have z2:IsZip g2 z TI TO .ellipsis:=e2 _ _ D.i1z.symm z1
 have ne:e ≠ z:=fun x=>by subst x; rw [z2] at hoe; cases hoe; simp at hce
 refine wpAny_setField_rec z2 (by simp) fun g3 _ e3=>?_
 refine wpAny_bind (wpAny_isInstance (T := "StopIteration") (b:=true) ⟨oe,e3.extBut _ _ ne hoe,hce⟩ isSubtype_stop ?_)
 exact wpAny_pure (q g3 fun c o c1 _ c3 _ x=>e3.extBut _ _ c1 (e2 _ _ c3 (e1.extBut _ _ c1 x)))
end
abbrev Qt (h:Heap) (a:Addr):Heap:=h.push { cls:=.type "tuple_iterator",data:=.fields #[.ref a,.int 0 0] }
abbrev Qu (h:Heap) (a b:Addr):Heap:=(Qt h a).push { cls:=.type "tuple_iterator",data:=.fields #[.ref b,.int 0 0] }
abbrev Qv (h:Heap) (a b:Addr):Heap:=(Qu h a b).push { cls:=.type "tuple",data:=.seq #[.ref h.objs.size,.ref (Qt h a).objs.size] }
abbrev Qw (h:Heap) (a b:Addr):Heap:=(Qv h a b).push { cls:=.type "tuple",data:=.seq #[.none,.none] }
abbrev Lx (h:Heap) (a b:Addr):Heap:=(Qw h a b).push { cls:=.type "zip",data:=.fields #[.none,.bool false,.bool false,.ref (Qu h a b).objs.size,.ref (Qv h a b).objs.size] }
theorem mzT (a b:Addr) (xs ys:Array Value):Meets (Builtin.«zip.__new__» ⟨[.type "zip",.ref a,.ref b],[]⟩) (fun _ R s=>s.heap.IsTuple a xs∧s.heap.IsTuple b ys∧R (.ok (.ret (.ref (Qw s.heap a b).objs.size))) { s with heap:=Lx s.heap a b }) :=
 .of_wp fun prog w A R s h=>by
  obtain ⟨hp,g,d,tk,os⟩:=s; obtain ⟨m1,m2,h⟩:=h
  have hsub:=sub_zip
  have n1:Heap.IsTuple (Shared.heap ⟨hp,g,d,tk,os⟩) a xs:=m1
  have n2:Heap.IsTuple (Shared.heap ⟨hp.push { cls:=.type "tuple_iterator",data:=.fields #[.ref a,.int 0 0] },g,d,tk,os⟩) b ys:=Heap.IsTuple.push m2 _
  wp_walk using wpAny_pyIter_tuple n1,wpAny_pyIter_tuple n2
  exact ⟨_,rfl,h⟩
section
variable {prog:Program} {w:World} {A:Around} {E:Value→Shared→Prop} {s:Shared}
theorem zU {a b:Addr} {xs ys:Array Value} {Q:Value→Shared→Prop} (m1:s.heap.IsTuple a xs) (m2:s.heap.IsTuple b ys)
  (h:∀ h',IsZip h' (s.heap.objs.size + 4) (s.heap.objs.size + 2) (s.heap.objs.size + 3) .none→IsPair h' (s.heap.objs.size + 2) (.ref s.heap.objs.size) (.ref (s.heap.objs.size + 1)) →
   IsPair h' (s.heap.objs.size + 3) .none .none→h'.IsTupleIter s.heap.objs.size a 0→h'.IsTupleIter (s.heap.objs.size + 1) b 0→(∀ c o,s.heap.get? c=some o→h'.get? c=some o)→Q (.ref (s.heap.objs.size + 4)) { s with heap:=h' }) :
  wpAny (model prog w) A (call (.type "zip") [.ref a,.ref b]) Q E s:=by
 refine callType_new F.called_zip (by decide) (F.typeCall_zip_2 _ _) (F.newCall_zip_2 _ _) (fun obj=>F.args_object_init_3 obj _ _) F.entry_zip_new (mzT a b xs ys) ⟨m1,m2,?_⟩
 have z1:(Qt s.heap a).objs.size=s.heap.objs.size + 1:=Heap.size_push ..
 have z2:(Qu s.heap a b).objs.size=s.heap.objs.size + 2:=by rw [Heap.size_push,z1]
 have z3:(Qv s.heap a b).objs.size=s.heap.objs.size + 3:=by rw [Heap.size_push,z2]
 have z4:(Qw s.heap a b).objs.size=s.heap.objs.size + 4:=by rw [Heap.size_push,z3]
 have g5:(Lx s.heap a b).get? (Qw s.heap a b).objs.size=some _:=Heap.get?_push_size _ rfl
 have g4:(Lx s.heap a b).get? (Qv s.heap a b).objs.size=some _:=Heap.get?_push_of_some _ (Heap.get?_push_size _ rfl)
 have g3:(Lx s.heap a b).get? (Qu s.heap a b).objs.size=some _:=Heap.get?_push_of_some _ (Heap.get?_push_of_some _ (Heap.get?_push_size _ rfl))
 have g2:(Lx s.heap a b).get? (Qt s.heap a).objs.size=some _:=Heap.get?_push_of_some _ (Heap.get?_push_of_some _ (Heap.get?_push_of_some _ (Heap.get?_push_size _ rfl)))
 have g1:(Lx s.heap a b).get? s.heap.objs.size=some _:=Heap.get?_push_of_some _ (Heap.get?_push_of_some _ (Heap.get?_push_of_some _ (Heap.get?_push_of_some _ (Heap.get?_push_size _ rfl))))
 show _∧_
 rw [z2,z3,z4] at g5
 rw [z1,z2] at g3
 rw [z3] at g4
 rw [z1] at g2
 rw [z4]
 refine ⟨⟨_,g5,rfl⟩,h _ g5 g3 g4 ⟨_,g1,rfl,rfl⟩ ⟨_,g2,rfl,rfl⟩ fun c o x=>?_⟩
 exact Heap.get?_push_of_some _ (Heap.get?_push_of_some _ (Heap.get?_push_of_some _ (Heap.get?_push_of_some _ (Heap.get?_push_of_some _ x))))
end
def MB (K:PySem.W.Frag) (a b:Addr):It :=
 ⟨fun i H=>∃ xs x ys y,aS K H a xs∧xs[i]? = some x∧aS K H b ys∧ys[i]? = some y,
   fun i H v H'=>∃ t x y,H t=none∧v=.ref t∧H'=upd H t (.tup [x,y])∧(∀ xs,aS K H a xs→xs[i]? = some x)∧∀ ys,aS K H b ys→ys[i]? = some y,
   fun i H=>∃ xs,aS K H a xs∧xs.length ≤ i⟩
theorem Cj {P:Program} {w:World} {K:PySem.W.Frag} {elts:List Expr} {x1} {pos:Pos} (a b z TI TO i1 i2:Addr) (D:ZipApart z TI TO i1 i2 a b) :
  Turn P w K (.Tuple elts x1 pos) (MB K a b) [z,TI,TO,i1,i2] z (fun i h=>IsZip h z TI TO .none∧IsPair h TI (.ref i1) (.ref i2)∧(∃ u v,IsPair h TO u v)∧h.IsTupleIter i1 a i∧h.IsTupleIter i2 b i) where
 mem:=by simp
 obj:=fun i h st c hc=>by
  obtain ⟨s1,s2,⟨u,v,s3⟩,⟨o4,s4,_,d4⟩,⟨o5,s5,_,d5⟩⟩:=st
  have hc':c=z∨c=TI∨c=TO∨c=i1∨c=i2:=by simpa using hc
  rcases hc' with rfl | rfl | rfl | rfl | rfl
  ·exact ⟨_,s1,fun v q=>by have q':Data.fields _=Data.cell v:=q; cases q'⟩
  ·exact ⟨_,s2,fun v q=>by have q':Data.seq _ _=Data.cell v:=q; cases q'⟩
  ·exact ⟨_,s3,fun v q=>by have q':Data.seq _ _=Data.cell v:=q; cases q'⟩
  ·exact ⟨o4,s4,fun v q=>by rw [d4] at q; cases q⟩
  ·exact ⟨o5,s5,fun v q=>by rw [d5] at q; cases q⟩
 keep:=fun i h h' st k=>⟨k z (by simp) _ st.1,k TI (by simp) _ st.2.1,st.2.2.1.elim fun u q=>q.elim fun v q=>⟨u,v,k TO (by simp) _ q⟩,st.2.2.2.1.at fun o e=>k i1 (by simp) o e,st.2.2.2.2.at fun o e=>k i2 (by simp) o e⟩
 item:=by
  intro X hP hw hK hc i pins s σ H E I hf st hg
  subst hP hw hK
  obtain ⟨xs,x,ys,y,hq,hx,hq2,hy⟩:=hg
  obtain ⟨s1,s2,⟨u,v,s3⟩,s4,s5⟩:=st
  obtain ⟨its,rv,p,hz⟩:=I.tuple hq
  obtain ⟨its2,rv2,p2,hz2⟩:=I.tuple hq2
  obtain ⟨ux,hux,rux⟩:=rv.get hx
  obtain ⟨uy,huy,ruy⟩:=rv2.get hy
  refine zT D s1 s2 s3 s4 s5 (show s.heap.IsTuple a its.toArray from p) (show s.heap.IsTuple b its2.toArray from p2) (x:=ux) (y:=uy) (by simpa using hux) (by simpa using huy) fun h1 a1 a2 a3 a4 a5 a6 k1=>?_
  refine ⟨_,rfl,wpAny_letOwnedTupleGo_zip a1 fun h2 b1 b2=>?_⟩
  have nz:s.heap.objs.size ≠ z:=Nat.ne_of_gt (Heap.lt_size s1)
  have Mu:=(b2.2 s.heap.objs.size nz).trans a5
  have hk:∀ c o,c ∉ [z,TO,i1,i2]→s.heap.get? c=some o→h2.get? c=some o:=fun c o hb e'=>by
   have hb':c ≠ z∧c ≠ TO∧c ≠ i1∧c ≠ i2:=by simpa using hb
   exact (b2.2 c hb'.1).trans (k1 c o hb'.1 hb'.2.1 hb'.2.2.1 hb'.2.2.2 e')
  have hfr:H s.heap.objs.size=none:=I.hok.fresh (Nat.le_refl _)
  refine ⟨.ref s.heap.objs.size,upd H s.heap.objs.size (.tup [x,y]),I.qT (t':=s.toks) hk (fun c hc=>hf c (by simp at hc ⊢; rcases hc with q | q | q | q <;> simp [q])) (Nat.le_refl _) ?_,rfl,
   ⟨_,x,y,hfr,rfl,rfl,fun zs hy'=>by rw [I.jj hy' hq]; exact hx,fun zs hy'=>by rw [I.jj hy' hq2]; exact hy⟩,⟨b1,?_,⟨ux,uy,?_⟩,a3.at fun o e=>(b2.2 i1 D.i1z).trans e,a4.at fun o e=>(b2.2 i2 D.i2z).trans e⟩,fun c hc=>?_⟩
  ·exact ⟨by show 2 ≤ sizeLine; decide,[ux,uy],.cons rux (.cons ruy .nil),⟨_,Mu,rfl,_,rfl⟩⟩
  ·exact hk TI _ (by simp [D.TIz,D.TITO,D.TIi1,D.TIi2]) s2
  ·exact (b2.2 TO D.TOz).trans a2
  ·have:c ≠ s.heap.objs.size:=by
    have hc':c=z∨c=TI∨c=TO∨c=i1∨c=i2:=by simpa using hc
    rcases hc' with rfl | rfl | rfl | rfl | rfl
    ·exact Ne.symm nz
    ·exact Nat.ne_of_lt (Heap.lt_size s2)
    ·exact Nat.ne_of_lt (Heap.lt_size s3)
    ·obtain ⟨o,e1,_⟩:=s4; exact Nat.ne_of_lt (Heap.lt_size e1)
    ·obtain ⟨o,e1,_⟩:=s5; exact Nat.ne_of_lt (Heap.lt_size e1)
   rw [aL this]
   exact (hf c hc).1
 done:=by
  intro X hP hw hK hc i pins s σ H E I hf st hg
  subst hP hw hK
  obtain ⟨xs,hq,hx⟩:=hg
  obtain ⟨s1,s2,s3,s4,s5⟩:=st
  obtain ⟨its,rv,p,hz⟩:=I.tuple hq
  have hl:=rv.length
  exact Ci (I.ok.hd hc) D s1 s2 s4 (show s.heap.IsTuple a its.toArray from p) (by simp; omega) fun h' eb=>⟨rfl,I.EZ (t':=s.toks) (its:=[z,TO,i1,i2]) (fun c o hb e=>by
   have hb':c ≠ z∧c ≠ TO∧c ≠ i1∧c ≠ i2:=by simpa using hb
   exact eb c o hb'.1 hb'.2.1 hb'.2.2.1 hb'.2.2.2 e) (fun c hc=>hf c (by simp at hc ⊢; rcases hc with q | q | q | q <;> simp [q]))⟩
 self:=fun _ _ _ _ _ st h=>wpAny_pyIter_zip st.1 h
section
variable {X:Cx}
def RF (K:PySem.W.Frag) (ta:TA):TI:=fun σ H R=>ta σ H fun vs H1=>∃ a b,vs=[.ref a,.ref b]∧(∃ xs,aS K H1 a xs)∧(∃ ys,aS K H1 b ys)∧R (MB K a b) H1
theorem JT:bootBuiltins "zip" = some (.type "zip"):=by decide +kernel
theorem JU {a b:Expr} {ta:TA} {p pos:Pos} {elts:List Expr} {x1} {tpos:Pos} (hg:Gl X "zip") (hm:X.mg "zip" = none) (ha:PA X [a,b] ta)
  (hs:starEach [a,b] X.env=[(false,eval a X.env),(false,eval b X.env)]:=by rfl) (hs2:starEach [b] X.env=[(false,eval b X.env)]:=by rfl):PI X (.Tuple elts x1 tpos) (.Call (.Name "zip" p) [a,b] [] pos) (RF X.K ta):=by
 intro pins s σ H R I h
 refine Call_ (jS I hg hm JT (PyProof.Rows.callWith_type1 (cG (ha pos pins s σ H _ I h) fun us s1 ⟨vs,H1,I1,r1,q1⟩=>?_) (by rw [hs,hs2]) (by rw [hs2]; rfl)))
 obtain ⟨a,b,e,⟨xs,hq⟩,⟨ys,hq2⟩,q⟩:=q1
 subst e
 obtain ⟨u,v,rfl,ru,rv⟩:=vals2 r1
 cases ru
 cases rv
 obtain ⟨its,rv,p,hz⟩:=I1.tuple hq
 obtain ⟨its2,rv2,p2,hz2⟩:=I1.tuple hq2
 have la:a < s1.heap.objs.size:=by obtain ⟨o,e,_⟩:=p; exact Heap.lt_size e
 have lb:b < s1.heap.objs.size:=by obtain ⟨o,e,_⟩:=p2; exact Heap.lt_size e
 refine zU (show s1.heap.IsTuple a its.toArray from p) (show s1.heap.IsTuple b its2.toArray from p2) fun h' g1 g2 g3 g4 g5 hk=>?_
 refine wpAny_pyIter_zip g1 ?_
 have D:ZipApart (s1.heap.objs.size + 4) (s1.heap.objs.size + 2) (s1.heap.objs.size + 3) s1.heap.objs.size (s1.heap.objs.size + 1) a b:=PySem.W.ktu_apart _ _ _ la lb
 refine ⟨s1.heap.objs.size + 4,[s1.heap.objs.size + 4,s1.heap.objs.size + 2,s1.heap.objs.size + 3,s1.heap.objs.size,s1.heap.objs.size + 1],_,_,H1,rfl,I1.kept (t':=s1.toks) hk,Cj a b _ _ _ _ _ D,⟨g1,g2,⟨_,_,g3⟩,g4,g5⟩,fun c hc=>?_,q⟩
 have hc':s1.heap.objs.size ≤ c:=by
  have hc':c=s1.heap.objs.size + 4∨c=s1.heap.objs.size + 2∨c=s1.heap.objs.size + 3∨c=s1.heap.objs.size∨c=s1.heap.objs.size + 1:=by simpa using hc
  rcases hc' with q | q | q | q | q <;> rw [q]
  ·exact Nat.le_add_right _ _
  ·exact Nat.le_add_right _ _
  ·exact Nat.le_add_right _ _
  ·exact Nat.le_refl _
  ·exact Nat.le_add_right _ _
 exact I1.zy hc' (I1.hok.fresh hc')
end
theorem Ck {K:PySem.W.Frag} {a:Addr} {xs:List V} {g:TG} {tt:TT} {te:TE} {R:Hp→Prop} {D:Addr} {σ0:St} {H0:Hp} (Pv:Nat→St→List V→Hp→Prop) (h0:Pv 0 σ0 [] H0) (hl:∀ i σ ys H,i ≤ xs.length→Pv i σ ys H→aS K H a xs)
  (hs:∀ i x σ ys H,xs[i]? = some x→Pv i σ ys H→g x σ H fun σ2 H2=>tt σ2 H2 fun b H3 =>
   if b=true then te σ2 H3 fun v H4=>H4 D=some (.lst ys)∧ys.length < sizeLine∧Pv (i + 1) σ2 (ys ++ [v]) (upd H4 D (.lst (ys ++ [v]))) else Pv (i + 1) σ2 ys H3)
  (hd:∀ σ ys H,Pv xs.length σ ys H→R H) :
  ∃ W:Nat→Nat→St→List V→Hp→Prop,(∃ m,W 0 m σ0 [] H0)∧∀ i m σ ys H,W i m σ ys H →
   ((L0 K a).stop i H∧R H)∨((L0 K a).go i H∧∃ N:St→List V→Hp→Prop,(∀ σ' ys' H',N σ' ys' H'→∃ m',m' < m∧W (i + 1) m' σ' ys' H')∧∀ x H',(L0 K a).Bh i H x H'→g x σ H' fun σ2 H2=>tt σ2 H2 fun b H3 =>
    if b=true then te σ2 H3 fun v H4=>H4 D=some (.lst ys)∧ys.length < sizeLine∧N σ2 (ys ++ [v]) (upd H4 D (.lst (ys ++ [v]))) else N σ2 ys H3):=by
 refine ⟨fun i m σ ys H=>m=xs.length - i∧i ≤ xs.length∧Pv i σ ys H,⟨xs.length,by simp,Nat.zero_le _,h0⟩,?_⟩
 rintro i m σ ys H ⟨rfl,hi,p⟩
 have q:=hl i σ ys H hi p
 by_cases hlt:i < xs.length
 ·refine .inr ⟨⟨xs,xs[i],q,by simp [hlt]⟩,Pv (i + 1),fun σ' ys' H' p'=>⟨xs.length - (i + 1),by omega,rfl,hlt,p'⟩,fun x H' y=>?_⟩
  obtain ⟨e,y⟩:=y
  subst e
  exact hs i x σ ys _ (y xs q) p
 ·have e:i=xs.length:=by omega
  subst e
  exact .inl ⟨⟨xs,q,Nat.le_refl _⟩,hd σ ys H p⟩
theorem Cm {K:PySem.W.Frag} {a b:Addr} {xs zs:List V} {g:TG} {tt:TT} {te:TE} {R:Hp→Prop} {D:Addr} {σ0:St} {H0:Hp} (hlen:xs.length=zs.length) (Pv:Nat→St→List V→Hp→Prop) (h0:Pv 0 σ0 [] H0)
  (hl:∀ i σ ys H,i ≤ xs.length→Pv i σ ys H→aS K H a xs∧aS K H b zs)
  (hs:∀ i x z σ ys H t,xs[i]? = some x→zs[i]? = some z→H t=none→Pv i σ ys H→g (.ref t) σ (upd H t (.tup [x,z])) fun σ2 H2=>tt σ2 H2 fun c H3 =>
   if c=true then te σ2 H3 fun v H4=>H4 D=some (.lst ys)∧ys.length < sizeLine∧Pv (i + 1) σ2 (ys ++ [v]) (upd H4 D (.lst (ys ++ [v]))) else Pv (i + 1) σ2 ys H3)
  (hd:∀ σ ys H,Pv xs.length σ ys H→R H) :
  ∃ W:Nat→Nat→St→List V→Hp→Prop,(∃ m,W 0 m σ0 [] H0)∧∀ i m σ ys H,W i m σ ys H →
   ((MB K a b).stop i H∧R H)∨((MB K a b).go i H∧∃ N:St→List V→Hp→Prop,(∀ σ' ys' H',N σ' ys' H'→∃ m',m' < m∧W (i + 1) m' σ' ys' H')∧∀ x H',(MB K a b).Bh i H x H'→g x σ H' fun σ2 H2=>tt σ2 H2 fun c H3 =>
    if c=true then te σ2 H3 fun v H4=>H4 D=some (.lst ys)∧ys.length < sizeLine∧N σ2 (ys ++ [v]) (upd H4 D (.lst (ys ++ [v]))) else N σ2 ys H3):=by
 refine ⟨fun i m σ ys H=>m=xs.length - i∧i ≤ xs.length∧Pv i σ ys H,⟨xs.length,by simp,Nat.zero_le _,h0⟩,?_⟩
 rintro i m σ ys H ⟨rfl,hi,p⟩
 obtain ⟨q,q2⟩:=hl i σ ys H hi p
 by_cases hlt:i < xs.length
 ·refine .inr ⟨⟨xs,xs[i],zs,zs[i]'(by omega),q,List.getElem?_eq_getElem hlt,q2,List.getElem?_eq_getElem _⟩,Pv (i + 1),fun σ' ys' H' p'=>⟨xs.length - (i + 1),by omega,rfl,hlt,p'⟩,fun v H' y=>?_⟩
  obtain ⟨t,x,z,hn,e1,e2,y1,y2⟩:=y
  subst e1 e2
  exact hs i x z σ ys _ t (y1 xs q) (y2 zs q2) hn p
 ·have e:i=xs.length:=by omega
  subst e
  exact .inl ⟨⟨xs,q,Nat.le_refl _⟩,hd σ ys H p⟩
end L2
namespace L2
open PySem PySem.W PySem.Spec PySem.Calls PyProof.Rows
section
variable {P:Program} {w:World} {K:PySem.W.Frag} {mg:Str→Option Value} {base:Heap} {N:List Str} {qual:Str} {scope:Scope} {f:Addr} {cd:Value} {A:Around} {outer:List Env} {s₀:Shared} {H₀:Hp} {E:XK}
end
section
variable {X:Cx} {pins:List (Addr × Obj)} {σ:St}
end
section
variable {X:Cx} {pins:List (Addr × Obj)} {σ:St} {H:Hp} {s:Shared}
end
section
variable {X:Cx} {k:Nat} {f C cR:Addr} {fd:FuncData} {ps:List Str} {sp:Sp} {qd:List V} {ds:List Value} {x m n:Str} {np pos apos p2 p3 p4:Pos} {o:Expr} {ta:TE} {ts:TS} {i:Nat} {b₀:Stmt} {suite:List Stmt} {L:Addr}
end
end L2
namespace L2
open PySem PySem.W PySem.Spec PySem.Calls PyProof.Rows PySem.Builtin PySem.Builtin.ObjectAttr PySem.Builtin.Getset_descriptor
section
variable {prog:Program} {w:World} {A:Around} {E:Value→Shared→Prop} {s:Shared} {K:PySem.W.Frag} {x C:Addr}
end
end L2
namespace L2
open PySem PySem.W PySem.Spec PySem.Calls PyProof.Rows
section
variable {X:Cx} {C:Addr} {Bn:String}
end
section
variable {M:Model} {A:Around} {XE:Value→Shared→Prop} {s:Shared} {B:Heap} {env:Env} {outer l:List Env} {L e:Addr} {cls a0 fl:Value} {od:Option Addr} {Q:Unit→Shared→Prop}
end
section
variable {K:PySem.W.Frag} {C R fI:Addr} {h:Heap}
variable {prog:Program} {w:World} {A:Around} {XE:Value→Shared→Prop} {s:Shared}
end
section
variable {X:Cx} {C R fI:Addr} {x:Str} {e v2:Expr} {es:List Expr} {t:TA} {te:TE} {np apos pos p1 p2 p3:Pos} {cc:Str} {j:Nat}
end
section
variable {X:Cx} {C R f:Addr} {fd:FuncData} {k:Nat}
end
section
variable {P:Program} {w:World} {K:PySem.W.Frag} {mg:Str→Option Value} {base:Heap} {N:List Str} {qual:Str} {scope:Scope} {f:Addr} {cd:Value} {A:Around} {outer:List Env} {s₀:Shared} {H₀:Hp} {E:XK}
end
section
variable {X:Cx} {pins:List (Addr × Obj)} {σ:St} {H:Hp} {s:Shared}
end
section
variable {X:Cx} {pins:List (Addr × Obj)} {σ:St}
end
section
variable {X:Cx} {k:Nat} {f cR:Addr} {fd:FuncData} {ps:List Str} {sp:Sp} {qd:List V} {ds:List Value} {x g n:Str} {np gp pos p2 p3 p4:Pos} {a:Expr} {as:List Expr} {t:TA} {ts:TS} {i:Nat} {b₀:Stmt} {suite:List Stmt} {L:Addr}
end
section
variable {X:Cx} {C R fI:Addr} {Bn:String}
end
end L2
namespace L2
open PySem PySem.Spec PyProof.Rows
def MC (t u:TS):TS:=fun D σ H=>∃ J:St→Hp→Prop,t { D with nx:=J } σ H∧∀ σ' H',J σ' H'→u D σ' H'
theorem kh {X:Cx} {st:Stmt} {rest:List Stmt} {t u:TS} (h1:PS X st t) (h2:rM X rest u):rM X (st :: rest) (MC t u):=by
 intro pins s σ H D I h
 obtain ⟨J,h,hJ⟩:=h
 refine wpAny_execs_cons (cG (h1 pins s σ H { D with nx:=J } I h) fun f s1 q=>?_)
 cases f with
 | next =>
  obtain ⟨σ',H',I',q⟩:=q
  exact h2 pins s1 σ' H' D I' (hJ _ _ q)
 | ret v=>exact q
 | brk=>exact q
 | cont=>exact q
section
variable {X:Cx}
end
section
variable {σ:St}
end
structure Ly (X:Cx) (st:Stmt) (t:TS):Prop where
 ps:PS X st t
structure sr (X:Cx) (b:List Stmt) (t:TS):Prop where
 ps:rM X b t
section
variable {X:Cx}
theorem aG {st:Stmt} {t:TS} (h:PS X st t):Ly X st t:=⟨h⟩
theorem cF {c:Expr} {a b:List Stmt} {tc:TT} {t u:TS} {pos:Pos} (hc:PT X c tc) (ha:sr X a t) (hb:sr X b u):Ly X (.If c a b pos) (LY tc t u):=⟨bU hc ha.ps hb.ps⟩
theorem bz {t:TS} (h:rM X [] t):sr X [] t:=⟨h⟩
theorem aD {st:Stmt} {b:List Stmt} {t u:TS} (h:Ly X st t) (k:sr X b u):sr X (st :: b) (Ez t u):=⟨aA h.ps k.ps⟩
theorem gg {st:Stmt} {b:List Stmt} {t u:TS} (h:Ly X st t) (k:sr X b u):sr X (st :: b) (MC t u):=⟨kh h.ps k.ps⟩
theorem aP {st:Stmt} {t:TS} (h:Ly X st t):sr X [st] t:=⟨aw h.ps⟩
theorem dG {b:List Stmt} {t:TS} {R:TS→Prop} (h:sr X b t) (hr:R t):∃ t,rM X b t∧R t:=⟨t,h.ps,hr⟩
end
section
variable {X:Cx}
end
section
variable {X:Cx}
end
section
variable {X:Cx}
end
inductive Da where
 | non | bl (b:Bool) | int (i:Int) | str (s:Str) | tup (l:List Da) | lst (l:List Da)
mutual
def Da.beq:Da→Da→Bool
 | .non,.non=>true
 | .bl a,.bl b=>a == b
 | .int a,.int b=>decide (a=b)
 | .str a,.str b=>decide (a=b)
 | .tup a,.tup b=>Da.wC a b
 | .lst a,.lst b=>Da.wC a b
 | _,_=>false
def Da.wC:List Da→List Da→Bool
 | [],[]=>true
 | a :: r,b :: t=>Da.beq a b && Da.wC r t
 | _,_=>false
end
mutual
theorem Da.beq_iff:∀ a b:Da,Da.beq a b=true↔a=b
 | .non,b=>by cases b <;> simp [Da.beq]
 | .bl x,b=>by cases b <;> simp [Da.beq]
 | .int x,b=>by cases b <;> simp [Da.beq]
 | .str x,b=>by cases b <;> simp [Da.beq]
 | .tup x,b=>by
  cases b <;> simp [Da.beq]
  exact Da.oK _ _
 | .lst x,b=>by
  cases b <;> simp [Da.beq]
  exact Da.oK _ _
theorem Da.oK:∀ a b:List Da,Da.wC a b=true↔a=b
 | [],b=>by cases b <;> simp [Da.wC]
 | x :: r,[]=>by simp [Da.wC]
 | x :: r,y :: t=>by
  simp [Da.wC]
  rw [Da.beq_iff x y,Da.oK r t]
end
instance:DecidableEq Da:=fun a b=>decidable_of_iff _ (Da.beq_iff a b)
inductive gZ (K:PySem.W.Frag) (H:Hp):V→Da→Prop
 | non:gZ K H .non .non
 | bl (b:Bool):gZ K H (.bl b) (.bl b)
 | int (i:Int):gZ K H (.int i) (.int i)
 | str (x:Str):gZ K H (.str x) (.str x)
 | tup {p:Addr} {xs:List V} {ds:List Da}:aS K H p xs→xs.length=ds.length→(∀ (i:Nat) x d,xs[i]? = some x→ds[i]? = some d→gZ K H x d)→gZ K H (.ref p) (.tup ds)
 | lst {p:Addr} {xs:List V} {ds:List Da}:bh K H p xs→xs.length=ds.length→(∀ (i:Nat) x d,xs[i]? = some x→ds[i]? = some d→gZ K H x d)→gZ K H (.ref p) (.lst ds)
inductive Da.Nb:Nat→Da→Prop
 | non {n}:Da.Nb n .non
 | int {n i}:Da.Nb n (.int i)
 | str {n i}:Da.Nb n (.str i)
 | tup {n l}:(∀ d ∈ l,Da.Nb n d)→Da.Nb (n + 1) (.tup l)
 | lst {n l}:(∀ d ∈ l,Da.Nb n d)→Da.Nb (n + 1) (.lst l)
theorem oM:∀ (a b:List Da),a.length=b.length→((List.range a.length).all fun i=>decide (a[i]? = b[i]?))=decide (a=b):=fun a b h=>by
 by_cases e:a=b
 ·subst e
  simp
 ·rw [decide_eq_false e]
  rw [Bool.eq_false_iff]
  intro z
  apply e
  apply List.ext_getElem?
  intro i
  by_cases hi:i < a.length
  ·have:=(List.all_eq_true.mp z) i (List.mem_range.mpr hi)
   exact of_decide_eq_true this
  ·rw [List.getElem?_eq_none (by omega),List.getElem?_eq_none (by omega)]
section
variable {X:Cx} {pins:List (Addr × Obj)} {σ:St} {H:Hp} {s:Shared}
theorem Cp {its:List Value} {xs:List V} (r:Vals xs its) {j:Nat} (h:j < its.toArray.size):∃ x,xs[j]? = some x∧RelV x its.toArray[j]:=by
 have l:=r.length
 have j1:j < xs.length:=by simp at h; omega
 have z1:xs[j]? = some xs[j]:=List.getElem?_eq_getElem j1
 obtain ⟨u1,w1,q1⟩:=r.get z1
 have e1:its.toArray[j]=u1:=by
  have:its[j]? = some its[j]:=List.getElem?_eq_getElem (by omega)
  rw [this] at w1
  simpa using w1
 exact ⟨_,z1,by rw [e1]; exact q1⟩
theorem kl {p:Addr} {i1 i2:Array Value} (t1:s.heap.IsTuple p i1) (t2:s.heap.IsList p i2):False:=by
 obtain ⟨o,e,c1,n,d⟩:=t1
 obtain ⟨o',e',c2,n',d'⟩:=t2
 rw [e] at e'; cases e'
 rw [c1] at c2
 exact absurd c2 (by decide)
theorem su (I:Inv X pins σ H s) {x:V} {a b:Da} (ha:gZ X.K H x a) (hb:gZ X.K H x b):a=b:=by
 induction ha generalizing b with
 | non=>cases hb; rfl
 | bl _=>cases hb; rfl
 | int _=>cases hb; rfl
 | str _=>cases hb; rfl
 | @tup p xs ds hp hl hd ih =>
  cases hb with
  | @tup q ys es hq hl2 hd2 =>
   have RG:xs=ys:=I.jj hp hq
   subst RG
   refine congrArg Da.tup ?_
   apply List.ext_getElem (by omega)
   intro j h1 h2
   have g0:xs[j]? = some xs[j]:=List.getElem?_eq_getElem (by omega)
   have g1:ds[j]? = some ds[j]:=List.getElem?_eq_getElem h1
   have g2:es[j]? = some es[j]:=List.getElem?_eq_getElem h2
   exact ih j _ _ g0 g1 (hd2 j _ _ g0 g2)
  | @lst q ys es hq hl2 hd2 =>
   obtain ⟨i1,r1,t1,_⟩:=I.tuple hp
   obtain ⟨i2,r2,t2,_⟩:=I.list hq
   exact (kl t1 t2.isList).elim
 | @lst p xs ds hp hl hd ih =>
  cases hb with
  | @lst q ys es hq hl2 hd2 =>
   have RG:xs=ys:=I.n9 hp hq
   subst RG
   refine congrArg Da.lst ?_
   apply List.ext_getElem (by omega)
   intro j h1 h2
   have g0:xs[j]? = some xs[j]:=List.getElem?_eq_getElem (by omega)
   have g1:ds[j]? = some ds[j]:=List.getElem?_eq_getElem h1
   have g2:es[j]? = some es[j]:=List.getElem?_eq_getElem h2
   exact ih j _ _ g0 g1 (hd2 j _ _ g0 g2)
  | @tup q ys es hq hl2 hd2 =>
   obtain ⟨i1,r1,t1,_⟩:=I.tuple hq
   obtain ⟨i2,r2,t2,_⟩:=I.list hp
   exact (kl t1 t2.isList).elim
theorem nK {A:Around} {m:Nat} {xs ys:List V} {ds es:List Da} {i1 i2:List Value} (r1:Vals xs i1) (r2:Vals ys i2) (hl:xs.length=ds.length) (hl2:ys.length=es.length)
  (ih:∀ (j:Nat) x d y e u v,xs[j]? = some x→ds[j]? = some d→ys[j]? = some y→es[j]? = some e→RelV x u→RelV y v→SeqAt.EqAt A s u v (decide (d=e)))
  (j:Nat) (h1:j < i1.toArray.size) (h2:j < i2.toArray.size):SeqAt.EqAt A s i1.toArray[j] i2.toArray[j] (decide (ds[j]? = es[j]?)):=by
 obtain ⟨x1,z1,q1⟩:=Cp r1 h1
 obtain ⟨x2,z2,q2⟩:=Cp r2 h2
 have k1:=(List.getElem?_eq_some_iff.mp z1).1
 have k2:=(List.getElem?_eq_some_iff.mp z2).1
 have g1:ds[j]? = some (ds[j]'(by omega)):=List.getElem?_eq_getElem (by omega)
 have g2:es[j]? = some (es[j]'(by omega)):=List.getElem?_eq_getElem (by omega)
 have r:=ih j x1 _ x2 _ _ _ z1 g1 z2 g2 q1 q2
 have e:decide (ds[j]? = es[j]?)=decide (ds[j]'(by omega)=es[j]'(by omega)):=by rw [g1,g2]; simp
 rw [e]
 exact r
theorem HS {xs ys:List V} {ds es:List Da} {i1 i2:List Value} (r1:Vals xs i1) (r2:Vals ys i2) (hl:xs.length=ds.length) (hl2:ys.length=es.length) :
  ((List.range (min i1.toArray.size i2.toArray.size)).all (fun j=>decide (ds[j]? = es[j]?)) && i1.toArray.size == i2.toArray.size)=decide (ds=es):=by
 have l1:=r1.length
 have l2:=r2.length
 by_cases z:ds.length=es.length
 ·have y:=oM ds es z
  have s1:i1.toArray.size=ds.length:=by simp; omega
  have s2:i2.toArray.size=ds.length:=by simp; omega
  rw [s1,s2,Nat.min_self,y]
  simp
 ·rw [decide_eq_false (fun y=>z (by rw [y]))]
  have:(i1.toArray.size == i2.toArray.size)=false:=by simp; omega
  rw [this,Bool.and_false]
theorem HU {xs ys:List V} {ds es:List Da} {i1 i2:List Value} (r1:Vals xs i1) (r2:Vals ys i2) (hl:xs.length=ds.length) (hl2:ys.length=es.length) (z:ds.length=es.length) :
  ((List.range i1.toArray.size).all (fun j=>decide (ds[j]? = es[j]?)))=decide (ds=es):=by
 have l1:=r1.length
 have s1:i1.toArray.size=ds.length:=by simp; omega
 rw [s1,oM ds es z]
theorem yD (ds es:List Da):decide (Da.tup ds=Da.tup es)=decide (ds=es):=decide_eq_decide.mpr ⟨Da.tup.inj,congrArg _⟩
theorem yE (ds es:List Da):decide (Da.lst ds=Da.lst es)=decide (ds=es):=decide_eq_decide.mpr ⟨Da.lst.inj,congrArg _⟩
theorem Cq {A:Around} {n:Nat} (hu:A.units + n < cLine) (I:Inv X pins σ H s) {x y:V} {a b:Da} (ha:gZ X.K H x a) (hb:gZ X.K H y b) (na:a.Nb n) (nb:b.Nb n) {u v:Value} (ru:RelV x u) (rv:RelV y v):SeqAt.EqAt A s u v (decide (a=b)):=by
 induction ha generalizing A n y b u v with
 | non =>
  obtain rfl:u=Value.none:=ru
  cases hb with
  | non=>obtain rfl:v=Value.none:=rv; exact SeqAt.EqAt.same _
  | bl _=>cases nb
  | int j=>obtain ⟨t,rfl⟩:=rv; exact SeqAt.EqAt.none_int _ _
  | str j=>obtain ⟨t,rfl⟩:=rv; exact SeqAt.EqAt.none_str _ _
  | tup hq=>cases rv; obtain ⟨its,r1,p1,_⟩:=I.tuple hq; exact SeqAt.EqAt.none_tuple p1 (by omega)
  | lst hq=>cases rv; obtain ⟨its,r1,p1,_⟩:=I.list hq; exact SeqAt.EqAt.none_list p1.isList (by omega)
 | bl _=>cases na
 | int i =>
  obtain ⟨t0,rfl⟩:=ru
  cases hb with
  | non=>obtain rfl:v=Value.none:=rv; exact SeqAt.EqAt.int_none _ _
  | bl _=>cases nb
  | int j =>
   obtain ⟨t,rfl⟩:=rv
   have:=SeqAt.EqAt.int_int (A:=A) (s:=s) i t0 j t
   have e:(i == j)=decide (Da.int i=Da.int j):=by
    by_cases z:i=j
    ·subst z; simp
    ·rw [decide_eq_false (fun y=>z (Da.int.inj y))]; simp [z]
   rwa [e] at this
  | str j=>obtain ⟨t,rfl⟩:=rv; exact SeqAt.EqAt.int_str _ _ _ _
  | tup hq=>cases rv; obtain ⟨its,r1,p1,_⟩:=I.tuple hq; exact SeqAt.EqAt.int_tuple _ _ p1 (by omega)
  | lst hq=>cases rv; obtain ⟨its,r1,p1,_⟩:=I.list hq; exact SeqAt.EqAt.int_list _ _ p1.isList (by omega)
 | str i =>
  obtain ⟨t0,rfl⟩:=ru
  cases hb with
  | non=>obtain rfl:v=Value.none:=rv; exact SeqAt.EqAt.str_none _ _
  | bl _=>cases nb
  | int j=>obtain ⟨t,rfl⟩:=rv; exact SeqAt.EqAt.str_int _ _ _ _
  | str j =>
   obtain ⟨t,rfl⟩:=rv
   have:=SeqAt.EqAt.str_str (A:=A) (s:=s) i t0 j t
   have e:(i == j)=decide (Da.str i=Da.str j):=by
    by_cases z:i=j
    ·subst z; simp
    ·rw [decide_eq_false (fun y=>z (Da.str.inj y))]; simp [z]
   rwa [e] at this
  | tup hq=>cases rv; obtain ⟨its,r1,p1,_⟩:=I.tuple hq; exact SeqAt.EqAt.str_tuple _ _ p1 (by omega)
  | lst hq=>cases rv; obtain ⟨its,r1,p1,_⟩:=I.list hq; exact SeqAt.EqAt.str_list _ _ p1.isList (by omega)
 | @tup p xs ds hp hl hd ih =>
  cases ru
  obtain ⟨i1,r1,t1,_⟩:=I.tuple hp
  cases hb with
  | non=>obtain rfl:v=Value.none:=rv; exact SeqAt.EqAt.tuple_none t1 (by omega)
  | bl _=>cases nb
  | int j=>obtain ⟨t,rfl⟩:=rv; exact SeqAt.EqAt.tuple_int _ _ t1 (by omega)
  | str j=>obtain ⟨t,rfl⟩:=rv; exact SeqAt.EqAt.tuple_str _ _ t1 (by omega)
  | @tup q ys es hq hl2 hd2 =>
   cases rv
   by_cases c:p=q
   ·subst c
    have:=su I (gZ.tup hp hl hd) (gZ.tup hq hl2 hd2)
    rw [decide_eq_true this]
    exact SeqAt.EqAt.same _
   cases na with
   | @tup m l na =>
   cases nb with
   | @tup m l nb =>
   obtain ⟨i2,r2,t2,_⟩:=I.tuple hq
   have key:=SeqAt.RcAt.tuples (A:=A) (s:=s) (e:=fun j=>decide (ds[j]? = es[j]?)) t1 t2 (by omega) (nK (m:=m) r1 r2 hl hl2 fun j x d y e u v h1 h2 h3 h4 ru rv =>
    ih j x d h1 h2 (A:=A.in1) (n:=m) (by show A.units + 1 + m < cLine; omega) (hd2 j y e h3 h4) (na _ (List.mem_of_getElem? h2)) (nb _ (List.mem_of_getElem? h4)) ru rv)
   rw [HS r1 r2 hl hl2] at key
   rw [yD]
   exact SeqAt.EqAt.of_refs c key
  | @lst q ys es hq hl2 hd2 =>
   cases rv
   obtain ⟨i2,r2,t2,_⟩:=I.list hq
   by_cases c:p=q
   ·subst c
    exact (kl t1 t2.isList).elim
   ·exact SeqAt.EqAt.of_refs c (SeqAt.RcAt.tuple_list t1 t2.isList (by omega))
 | @lst p xs ds hp hl hd ih =>
  cases ru
  obtain ⟨i1,r1,t1,_⟩:=I.list hp
  cases hb with
  | non=>obtain rfl:v=Value.none:=rv; exact SeqAt.EqAt.list_none t1.isList (by omega)
  | bl _=>cases nb
  | int j=>obtain ⟨t,rfl⟩:=rv; exact SeqAt.EqAt.list_int _ _ t1.isList (by omega)
  | str j=>obtain ⟨t,rfl⟩:=rv; exact SeqAt.EqAt.list_str _ _ t1.isList (by omega)
  | @lst q ys es hq hl2 hd2 =>
   cases rv
   by_cases c:p=q
   ·subst c
    have:=su I (gZ.lst hp hl hd) (gZ.lst hq hl2 hd2)
    rw [decide_eq_true this]
    exact SeqAt.EqAt.same _
   cases na with
   | @lst m l na =>
   cases nb with
   | @lst m l nb =>
   obtain ⟨i2,r2,t2,_⟩:=I.list hq
   have l1:=r1.length
   have l2:=r2.length
   rw [yE]
   by_cases z:ds.length=es.length
   ·have key:=SeqAt.RcAt.lists (A:=A) (s:=s) (e:=fun j=>decide (ds[j]? = es[j]?)) t1.isList t2.isList (by simp; omega) (by omega) (nK (m:=m) r1 r2 hl hl2 fun j x d y e u v h1 h2 h3 h4 ru rv =>
     ih j x d h1 h2 (A:=A.in1) (n:=m) (by show A.units + 1 + m < cLine; omega) (hd2 j y e h3 h4) (na _ (List.mem_of_getElem? h2)) (nb _ (List.mem_of_getElem? h4)) ru rv)
    rw [HU r1 r2 hl hl2 z] at key
    exact SeqAt.EqAt.of_refs c key
   ·rw [decide_eq_false (fun y=>z (by rw [y]))]
    exact SeqAt.EqAt.of_refs c (SeqAt.RcAt.lists_lengths t1.isList t2.isList (by simp; omega) (by omega))
  | @tup q ys es hq hl2 hd2 =>
   cases rv
   obtain ⟨i2,r2,t2,_⟩:=I.tuple hq
   by_cases c:p=q
   ·subst c
    exact (kl t2 t1.isList).elim
   ·exact SeqAt.EqAt.of_refs c (SeqAt.RcAt.list_tuple t1.isList t2 (by omega))
end
def JV (K:PySem.W.Frag) (ne:Bool):R2:=fun x y H Q=>∃ (n:Nat) (p q:Addr) (a b:Da),x=.ref p∧y=.ref q∧gZ K H x a∧gZ K H y b∧a.Nb n∧b.Nb n∧n ≤ 6∧Q (.bl (ne ^^ decide (a=b))) H
section
variable {X:Cx}
theorem Cr (hu:X.A.units + 6 < cLine):jU X (compareOp .Eq) (JV X.K false):=by
 intro pins s σ H x y v u Q I rx ry h
 obtain ⟨n,p,q,a,b,rfl,rfl,ha,hb,na,nb,hn,k⟩:=h
 cases rx
 cases ry
 rw [Bool.false_xor] at k
 cases ha with
 | @tup p xs ds hp hl hd =>
  obtain ⟨i1,r1,t1,_⟩:=I.tuple hp
  cases hb with
  | @tup q ys es hq hl2 hd2 =>
   cases na with
   | @tup m l na =>
   cases nb with
   | @tup m l nb =>
   obtain ⟨i2,r2,t2,_⟩:=I.tuple hq
   have key:=SeqAt.RcAt.tuples (A:=X.A) (s:=s) (e:=fun j=>decide (ds[j]? = es[j]?)) t1 t2 (by omega) (nK (m:=m) r1 r2 hl hl2 fun j x d y e u v h1 h2 h3 h4 ru rv =>
    Cq (A:=X.A.in1) (n:=m) (by show X.A.units + 1 + m < cLine; omega) I (hd j x d h1 h2) (hd2 j y e h3 h4) (na _ (List.mem_of_getElem? h2)) (nb _ (List.mem_of_getElem? h4)) ru rv)
   rw [HS r1 r2 hl hl2] at key
   rw [yD] at k
   exact key _ _ _ _ ⟨.bl _,H,I,rfl,k⟩
  | @lst q ys es hq hl2 hd2 =>
   obtain ⟨i2,r2,t2,_⟩:=I.list hq
   exact (SeqAt.RcAt.tuple_list (A:=X.A) t1 t2.isList (by omega)) _ _ _ _ ⟨.bl _,H,I,rfl,k⟩
 | @lst p xs ds hp hl hd =>
  obtain ⟨i1,r1,t1,_⟩:=I.list hp
  cases hb with
  | @lst q ys es hq hl2 hd2 =>
   cases na with
   | @lst m l na =>
   cases nb with
   | @lst m l nb =>
   obtain ⟨i2,r2,t2,_⟩:=I.list hq
   have l1:=r1.length
   have l2:=r2.length
   rw [yE] at k
   by_cases z:ds.length=es.length
   ·have key:=SeqAt.RcAt.lists (A:=X.A) (s:=s) (e:=fun j=>decide (ds[j]? = es[j]?)) t1.isList t2.isList (by simp; omega) (by omega) (nK (m:=m) r1 r2 hl hl2 fun j x d y e u v h1 h2 h3 h4 ru rv =>
     Cq (A:=X.A.in1) (n:=m) (by show X.A.units + 1 + m < cLine; omega) I (hd j x d h1 h2) (hd2 j y e h3 h4) (na _ (List.mem_of_getElem? h2)) (nb _ (List.mem_of_getElem? h4)) ru rv)
    rw [HU r1 r2 hl hl2 z] at key
    exact key _ _ _ _ ⟨.bl _,H,I,rfl,k⟩
   ·rw [decide_eq_false (fun y=>z (by rw [y]))] at k
    exact (SeqAt.RcAt.lists_lengths (A:=X.A) t1.isList t2.isList (by simp; omega) (by omega)) _ _ _ _ ⟨.bl _,H,I,rfl,k⟩
  | @tup q ys es hq hl2 hd2 =>
   obtain ⟨i2,r2,t2,_⟩:=I.tuple hq
   exact (SeqAt.RcAt.list_tuple (A:=X.A) t1.isList t2 (by omega)) _ _ _ _ ⟨.bl _,H,I,rfl,k⟩
end
section
variable {X:Cx}
end
end L2
namespace L2
open PySem PySem.W PySem.Spec PySem.Calls PyProof.Rows
def Ff (K:PySem.W.Frag) (P:Params) (a:Addr):Prop:=∃ (es:Array DictEntry) (n:Nat),K.lookup a=some ⟨.type "dict",none,.dict es n,#[]⟩∧PySem.W.KeysLit P es.toList∧(a == sysModules)=false
section
variable {X:Cx} {o i:Expr} {pos:Pos} {td ty:TE}
end
def Fg (K:PySem.W.Frag) (P:Params) (ty td:TE):TE:=fun σ H Q=>ty σ H fun y H1=>td σ H1 fun x H2=>∃ a k r,x=.ref a∧y=.str k∧dE K P a k r∧Q (.bl (!r.isSome)) H2
theorem zV {X:Cx} {o i:Expr} {td ty:TE} (hi:PE X i ty) (ho:PE X o td):PC X .NotIn i o (Fg X.K X.w.params ty td):=by
 intro pins s σ H Q I h
 refine cG (hi pins s σ H _ I h) fun iv s1 ⟨y,H1,I1,ry,q1⟩=>cG (ho pins s1 σ H1 _ I1 q1) fun u s2 ⟨x,H2,I2,rx,a,k,r,ex,ey,g,q2⟩=>?_
 subst ex ey
 obtain rfl:u=Value.ref a:=rx
 obtain ⟨t,rfl⟩:=ry
 obtain ⟨es,n,hl,hk,hm,q,hq,rq⟩:=g
 have mo:=PySem.W.mapOf_K (prog:=X.prog) (w:=X.w) I2.lz hl hk
 refine wpAny_notIn_of (strKind_is X.prog X.w k t) hm mo ?_
 rw [PySem.W.find_K hl hq,← rq.iw]
 exact ⟨.bl (!r.isSome),H2,I2.tok _,rfl,q2⟩
section
variable {X:Cx} {o i:Expr} {pos:Pos} {td ty:TE}
end
end L2
namespace L2
open PySem PySem.Spec PyProof.Rows
section
variable {X:Cx}
end
end L2
namespace SF
open PySem PySem.Calls PyProof.Rows
section
variable {prog:Program} {w:World} {A:Around} {E:Value→Shared→Prop} {s:Shared}
set_option maxHeartbeats 8000000 in
end
end SF
namespace L2
open PySem PySem.Spec PyProof.Rows
section
variable {X:Cx}
end
def iX (f:Int→Int) (j v:Int):Int→Int:=fun i=>if i=j then v else f i
structure Rep (d:List (Key × V)) (f:Int→Int):Prop where
 isI:∃ kvs:List (Int × Int),d=iD kvs∧(kvs.map (·.1)).Nodup
 val:∀ j,(cw d (Sum.inl j)).getD (.int 0)=.int (f j)
theorem Rep.nil:Rep [] (fun _=>0):=⟨⟨[],rfl,List.nodup_nil⟩,fun _=>rfl⟩
theorem JW {kvs:List (Int × Int)} {j:Int}:∀ {x:V},cw (iD kvs) (Sum.inl j)=some x→∃ v,x=.int v∧(j,v) ∈ kvs:=by
 induction kvs with
 | nil=>intro x h; cases h
 | cons p r ih =>
  intro x h
  by_cases e:p.1=j
  ·have:(Sum.inl p.1:Key)=Sum.inl j:=by rw [e]
   rw [show iD (p :: r)=(Sum.inl p.1,V.int p.2) :: iD r from rfl,dc this] at h
   have h:=Option.some.inj h
   exact ⟨p.2,h.symm,by rw [← e]; simp⟩
  ·have:¬ (Sum.inl p.1:Key)=Sum.inl j:=fun z=>e (Sum.inl.inj z)
   rw [show iD (p :: r)=(Sum.inl p.1,V.int p.2) :: iD r from rfl,df this] at h
   obtain ⟨v,a,b⟩:=ih h
   exact ⟨v,a,by simp [b]⟩
theorem wD {j v:Int}:∀ {kvs:List (Int × Int)},(kvs.map (·.1)).Nodup→(j,v) ∈ kvs→cw (iD kvs) (Sum.inl j)=some (.int v)
 | [],_,h=>by simp at h
 | p :: r,hn,h=>by
  rw [List.map_cons,List.nodup_cons] at hn
  rcases List.mem_cons.mp h with e | h
  ·rw [show iD (p :: r)=(Sum.inl p.1,V.int p.2) :: iD r from rfl,dc (by rw [← e])]
   rw [← e]
  ·have ne:¬ (Sum.inl p.1:Key)=Sum.inl j:=fun z=>hn.1 (by rw [Sum.inl.inj z]; exact List.mem_map.mpr ⟨_,h,rfl⟩)
   rw [show iD (p :: r)=(Sum.inl p.1,V.int p.2) :: iD r from rfl,df ne]
   exact wD hn.2 h
theorem Cu {kvs:List (Int × Int)} {j v:Int} (hn:(kvs.map (·.1)).Nodup):∃ kvs',putK (iD kvs) (Sum.inl j) (.int v)=iD kvs'∧(kvs'.map (·.1)).Nodup∧kvs'.length ≤ kvs.length + 1∧(v ≠ 0→(∀ p ∈ kvs,p.2 ≠ 0)→∀ p ∈ kvs',p.2 ≠ 0):=by
 by_cases h:cw (iD kvs) (Sum.inl j:Key)=none
 ·refine ⟨kvs ++ [(j,v)],?_,?_,by simp,fun hv hz p hp=>?_⟩
  ·rw [uQ _ h]
   simp [iD]
  ·rw [List.map_append,List.nodup_append]
   refine ⟨hn,by simp,fun a ha b hb e=>?_⟩
   have hb:b=j:=by simpa using hb
   subst hb
   have:=BX h
   apply this
   obtain ⟨p,hp,rfl⟩:=List.mem_map.mp ha
   exact List.mem_map.mpr ⟨(Sum.inl p.1,.int p.2),List.mem_map.mpr ⟨p,hp,rfl⟩,by rw [e]⟩
  ·rcases List.mem_append.mp hp with hp | hp
   ·exact hz p hp
   ·rw [List.mem_singleton.mp hp]
    exact hv
 ·refine ⟨kvs.map fun p=>if p.1=j then (p.1,v) else p,?_,?_,by simp,fun hv hz p hp=>?_⟩
  ·unfold putK
   rw [dQ,if_pos (by cases e:cw (iD kvs) (Sum.inl j:Key) with | none=>exact absurd e h | some _=>rfl)]
   unfold iD
   rw [List.map_map,List.map_map]
   refine List.map_congr_left fun p _=>?_
   show (if (Sum.inl p.1:Key)=Sum.inl j then ((Sum.inl p.1:Key),V.int v) else (Sum.inl p.1,V.int p.2))=(Sum.inl (if p.1=j then (p.1,v) else p).1,V.int (if p.1=j then (p.1,v) else p).2)
   by_cases e:p.1=j
   ·rw [if_pos (by rw [e]),if_pos e]
   ·rw [if_neg (fun z=>e (Sum.inl.inj z)),if_neg e]
  ·rw [List.map_map]
   have:((fun p:Int × Int=>p.1) ∘ fun p=>if p.1=j then (p.1,v) else p)=fun p=>p.1:=by
    funext p
    show (if p.1=j then (p.1,v) else p).1=p.1
    split <;> rfl
   rw [this]
   exact hn
  ·obtain ⟨q,hq,rfl⟩:=List.mem_map.mp hp
   by_cases e:q.1=j
   ·rw [if_pos e]; exact hv
   ·rw [if_neg e]; exact hz q hq
theorem Rep.put {d:List (Key × V)} {f:Int→Int} (r:Rep d f) (j v:Int):Rep (putK d (Sum.inl j) (.int v)) (iX f j v):=by
 obtain ⟨⟨kvs,rfl,hn⟩,hv⟩:=r
 obtain ⟨kvs',e,hn',_⟩:=Cu (j:=j) (v:=v) hn
 refine ⟨⟨kvs',e,hn'⟩,fun i=>?_⟩
 rw [oq]
 unfold iX
 by_cases h:i=j
 ·rw [if_pos (by rw [h]),if_pos h]
  rfl
 ·rw [if_neg (fun z=>h (Sum.inl.inj z)),if_neg h]
  exact hv i
theorem sv:∀ (a b:List Int),a.Nodup→(∀ x ∈ a,x ∈ b)→a.length ≤ b.length
 | [],_,_,_=>Nat.zero_le _
 | x :: a,b,hn,h=>by
  rw [List.nodup_cons] at hn
  have hx:=h x (by simp)
  have:=sv a (b.erase x) hn.2 fun y hy=>(List.mem_erase_of_ne (show y ≠ x from fun e=>hn.1 (by rw [← e]; exact hy))).mpr (h y (by simp [hy]))
  rw [List.length_erase_of_mem hx] at this
  have:0 < b.length:=List.length_pos_of_mem hx
  simp only [List.length_cons]
  omega
end L2
namespace L2
open PySem PySem.W PySem.Spec PySem.Calls PyProof.Rows
section
variable {X:Cx} {pins:List (Addr × Obj)} {σ:St} {H:Hp} {s:Shared}
end
theorem km {X:Cx}:iU X (.type "dict") (fun xs H Q=>∃ (p:Addr) (kvs:List (Key × V)),xs=[.ref p]∧H p=some (.dK kvs)∧∀ l,H l=none→Q (.ref l) (upd H l (.dK kvs))):=by
 intro pins s σ H xs Rx Q I r h
 obtain ⟨p,kvs,rfl,hp,q⟩:=h
 obtain ⟨u,rfl,ru⟩:=vals1 r
 cases ru
 exact BU I (.of hp) fun l s' hl I'=>⟨.ref l,_,I',rfl,q l hl⟩
theorem mQ {X:Cx} (hc:X.calm=true):iU X (.type "dict") (fun xs H Q=>∃ (p:Addr) (ts:List Addr) (kvs:List (Key × V)),xs=[.ref p]∧H p=some (.lst (ts.map V.ref))∧ts.length=kvs.length∧(∀ (i:Nat) t k v,ts[i]? = some t→kvs[i]? = some (k,v)→H t=some (.tup [kV k,v])) ∧
  kvs.length ≤ 5000∧∀ l,H l=none→Q (.ref l) (upd H l (.dK (eJ [] kvs)))):=by
 intro pins s σ H xs Rx Q I r h
 obtain ⟨p,ts,kvs,rfl,hp,hl,ht,hz,q⟩:=h
 obtain ⟨u,rfl,ru⟩:=vals1 r
 cases ru
 obtain ⟨_,its,nn,rv,hpo⟩:=(show cH X.prog X.w H s.heap p (.lst (ts.map V.ref)) from I.hok p _ hp)
 have hil:its.length=ts.length:=by rw [← rv.length,List.length_map]
 have hti:∀ (i:Nat) t,ts[i]? = some t→its[i]? = some (Value.ref t):=fun i t hi=>by
  obtain ⟨w',hw,qe⟩:=rv.get (i:=i) (x:=V.ref t) (by rw [List.getElem?_map,hi]; rfl)
  cases qe
  exact hw
 have pick:∀ (i:Nat) k v,kvs[i]? = some (k,v)→∃ t key u,ts[i]? = some t∧IsTup s.heap t #[key,u]∧RelV (kV k) key∧RelV v u:=fun i k v hi=>by
  have hlt:i < ts.length:=by rw [hl]; exact (List.getElem?_eq_some_iff.mp hi).1
  have h1:ts[i]? = some ts[i]:=List.getElem?_eq_getElem hlt
  obtain ⟨_,tis,tv,tt⟩:=(show cH X.prog X.w H s.heap ts[i] (.tup [kV k,v]) from I.hok _ _ (ht i _ k v h1 hi))
  cases tv with
  | cons a b =>
   cases b with
   | cons c d =>
    cases d
    exact ⟨ts[i],_,_,h1,tt,a,c⟩
 have hvs:∃ vs:List (Key × Value),KV kvs vs∧∀ (i:Nat) k u,vs[i]? = some (k,u)→∃ t key,ts[i]? = some t∧IsTup s.heap t #[key,u]∧RelV (kV k) key:=by
  have gen:∀ (ks:List (Key × V)) (o:Nat),(∀ (i:Nat) k v,ks[i]? = some (k,v)→kvs[o + i]? = some (k,v))→∃ vs:List (Key × Value),KV ks vs∧∀ (i:Nat) k u,vs[i]? = some (k,u)→∃ t key,ts[o + i]? = some t∧IsTup s.heap t #[key,u]∧RelV (kV k) key:=by
   intro ks
   induction ks with
   | nil=>intro o _; exact ⟨[],.nil,fun i k u h=>by simp at h⟩
   | cons c ks ih =>
    intro o ho
    obtain ⟨t,key,u,a1,a2,a3,a4⟩:=pick o c.1 c.2 (ho 0 c.1 c.2 rfl)
    obtain ⟨vs,b1,b2⟩:=ih (o + 1) fun i k v hi=>by
     have:=ho (i + 1) k v (by simpa using hi)
     rwa [show o + (i + 1)=o + 1 + i by omega] at this
    refine ⟨(c.1,u) :: vs,.cons ⟨rfl,a4⟩ b1,fun i k u' hi=>?_⟩
    cases i with
    | zero =>
     have e:=Option.some.inj hi
     cases e
     exact ⟨t,key,a1,a2,a3⟩
    | succ i =>
     obtain ⟨t',key',c1,c2,c3⟩:=b2 i k u' (by simpa using hi)
     exact ⟨t',key',by rw [show o + (i + 1)=o + 1 + i by omega]; exact c1,c2,c3⟩
  obtain ⟨vs,a,b⟩:=gen kvs 0 fun i k v hi=>by rw [Nat.zero_add]; exact hi
  exact ⟨vs,a,fun i k u hi=>by have:=b i k u hi; rwa [Nat.zero_add] at this⟩
 obtain ⟨vs,hkv,hvt⟩:=hvs
 have hvl:=hkv.length
 have hh:=I.ok.hd hc
 refine callType_codes (Q₁:=fun obj s1=>obj=.ref s.heap.objs.size∧s1={ s with heap:=s.heap.push { cls:=.type "dict",data:=.dict #[] } }) PySem.F.kt_called_dict (PySem.F.kt_typeCall_dict_1 _) PySem.F.entry_dict_init (kt_code_dict_new _ ⟨rfl,rfl⟩) (fun obj s1 hs=>?_)
 obtain ⟨rfl,rfl⟩:=hs
 have nw:(s.heap.push { cls:=.type "dict",data:=.dict #[] }).DictOf (cj X.prog X.w) s.heap.objs.size []:=Heap.DictOf.new s.heap
 have old:∀ b o,s.heap.get? b=some o→(s.heap.push { cls:=.type "dict",data:=.dict #[] }).get? b=some o:=fun b o e=>Heap.get?_push_of_some _ e
 refine ⟨nw.typeIs,PySem.F.args_dict_init_2 _ _,?_⟩
 (unfold Builtin.«dict.__init__»; refine wpAny_bind ?_; unfold Builtin.Dict.selfAndRest; refine wpAny_bind (wpAny_notOrdered_dict nw.typeIs ?_))
 (show wpAny _ _ (pure (s.heap.objs.size,[Value.ref p])) _ _ _; refine wpAny_pure ?_; show wpAny _ _ (Builtin.Dict.updateFrom "dict.__init__" s.heap.objs.size (.ref p) [] .none) _ _ _; unfold Builtin.Dict.updateFrom)
 refine wpAny_bind (wpAny_typeOf (T := "list") ⟨_,old _ _ hpo,rfl⟩ ?_)
 rw [if_pos (by decide)]
 refine wpAny_bind (wA (old _ _ hpo) hh fun h1 tk1 k1=>?_)
 rw [if_pos (show (none:Option Value).isNone=true from rfl)]
 refine wpAny_bind (wpAny_rule ?_)
 have RH:h1.IsList p its.toArray:=⟨_,k1 _ _ (old _ _ hpo),rfl,nn,rfl⟩
 refine wpAny_bind (wpAny_pyIter_list (l:=p) (items:=its.toArray) RH ?_)
 have lt:∀ b o,s.heap.get? b=some o→b < s.heap.objs.size:=fun b o e=>Heap.lt_size e
 have dN:h1.get? s.heap.objs.size=some { cls:=.type "dict",data:=.dict #[] }:=k1 _ _ (Heap.get?_push_size _ rfl)
 have Qx:@LT.lt Nat _ s.heap.objs.size h1.objs.size:=Heap.lt_size dN
 have up:∀ b o,h1.get? b=some o→(h1.push { cls:=.type "list_iterator",data:=.fields #[.ref p,.int 0 0] }).get? b=some o:=fun b o e=>Heap.get?_push_of_some _ e
 have ltp:=lt _ _ hpo
 have itr:(h1.push { cls:=.type "list_iterator",data:=.fields #[.ref p,.int 0 0] }).IsListIter h1.objs.size p 0:=⟨_,Heap.get?_push_size _ rfl,rfl,rfl⟩
 have RI:(h1.push { cls:=.type "list_iterator",data:=.fields #[.ref p,.int 0 0] }).IsList p its.toArray:=⟨_,up _ _ (k1 _ _ (old _ _ hpo)),rfl,nn,rfl⟩
 have RJ:(h1.push { cls:=.type "list_iterator",data:=.fields #[.ref p,.int 0 0] }).DictOf (cj X.prog X.w) s.heap.objs.size []:=by
  obtain ⟨o,es,ep,ho,rr⟩:=nw
  exact ⟨o,es,ep,up _ _ (k1 _ _ ho),rr⟩
 refine wpAny_pure ⟨plainId_quiet jl _,?_⟩
 refine wB (A:=X.A.in1) (knd:=cj X.prog X.w) hh (d:=s.heap.objs.size) (it:=h1.objs.size) (l:=p) (items:=its.toArray) (ks:=vs) (Nat.ne_of_lt Qx) (Nat.ne_of_lt ltp) (Nat.ne_of_lt (Nat.lt_trans ltp Qx)) (by rw [List.size_toArray,hil,hl,hvl]) (by rw [List.size_toArray,hil,hl]; exact hz) its.toArray.size 0 _ [] _ (by omega) (Nat.zero_le _) ?_ ?_ ?_ (Nat.le_refl _) ?_ ?_
 ·exact itr
 ·exact RI
 ·exact RJ
 ·intro j k v hj
  obtain ⟨t,key,a1,⟨o,a2,a3⟩,a4⟩:=hvt j k v hj
  have ltt:=lt _ _ a2
  exact ⟨t,key,by rw [List.getElem?_toArray]; exact hti j t a1,⟨o,up _ _ (k1 _ _ (old _ _ a2)),a3⟩,ou a4,Nat.ne_of_lt ltt,Nat.ne_of_lt (Nat.lt_trans ltt Qx)⟩
 ·intro h' tk hd' kp
  rw [List.drop_zero] at hd'
  have hml:=fQ kvs []
  rw [List.length_nil] at hml
  refine ⟨rfl,.ref s.heap.objs.size,_,I.laid (a:=s.heap.objs.size) (o:=.dK (eJ [] kvs)) (t':=tk) (fun b o e=>?_) (Nat.le_refl _) ?_,rfl,q _ (I.hok.fresh (Nat.le_refl _))⟩
  ·have ltb:=lt b o e
   exact kp b o (Nat.ne_of_lt ltb) (Nat.ne_of_lt (Nat.lt_trans ltb Qx)) (up _ _ (k1 _ _ (old _ _ e)))
  ·exact rW (by rw [sizeLine_eq]; omega) (beq_eq_false_iff_ne.mpr (Ne.symm (Nat.ne_of_lt I.big))) (hkv.merge .nil) hd'
end L2
namespace L2
open PySem PySem.Spec PyProof.Rows
inductive HD (H:Hp):V→Da→Prop
 | non:HD H .non .non
 | bl (b:Bool):HD H (.bl b) (.bl b)
 | int (i:Int):HD H (.int i) (.int i)
 | str (s:Str):HD H (.str s) (.str s)
 | tup {p:Addr} {xs:List V} {ds:List Da} (h:H p=some (.tup xs)) (l:xs.length=ds.length) (e:∀ (i:Nat) x d,xs[i]? = some x→ds[i]? = some d→HD H x d):HD H (.ref p) (.tup ds)
 | lst {p:Addr} {xs:List V} {ds:List Da} (h:H p=some (.lst xs)) (l:xs.length=ds.length) (e:∀ (i:Nat) x d,xs[i]? = some x→ds[i]? = some d→HD H x d):HD H (.ref p) (.lst ds)
theorem HD.da {H:Hp} {v:V} {d:Da} (K:PySem.W.Frag) (h:HD H v d):gZ K H v d:=by
 induction h with
 | non=>exact .non
 | bl b=>exact .bl b
 | int i=>exact .int i
 | str x=>exact .str x
 | tup h l e ih=>exact .tup (aS.of h) l ih
 | lst h l e ih=>exact .lst (bh.of h) l ih
inductive Fh (H:Hp):List V→List Da→Prop
 | nil:Fh H [] []
 | cons {x:V} {d:Da} {xs:List V} {ds:List Da} (h:HD H x d) (r:Fh H xs ds):Fh H (x :: xs) (d :: ds)
theorem Fh.len {H:Hp} {xs:List V} {ds:List Da} (h:Fh H xs ds):xs.length=ds.length:=by
 induction h with
 | nil=>rfl
 | cons h r ih=>rw [List.length_cons,List.length_cons,ih]
theorem Fh.get {H:Hp} {xs:List V} {ds:List Da} (h:Fh H xs ds):∀ (i:Nat) x d,xs[i]? = some x→ds[i]? = some d→HD H x d:=by
 induction h with
 | nil=>intro i x d h; simp at h
 | cons h r ih =>
  intro i x d h1 h2
  cases i with
  | zero=>cases h1; cases h2; exact h
  | succ i=>exact ih i x d (by simpa using h1) (by simpa using h2)
theorem vg {σ:St} {H:Hp} {te:TE} {g:TG} {u:TS} {D:Ends} {rt:VK} {bk ct:St→Hp→Prop} (h:te σ H fun x H1=>g x σ H1 (u D)):Ends.nx (Ends.mk (Ez (By te g) u D) rt bk ct) σ H:=h
theorem ko {i:Nat} {v:V} {σ:St} {H:Hp} {Q:St→Hp→Prop} (h:Q (σ.set i (some v)) H):hC i v σ H Q:=h
section
variable {σ:St} {H:Hp}
end
end L2
namespace L2
open PySem PySem.W PySem.Spec PySem.Calls PyProof.Rows
section
variable {X:Cx} {pins:List (Addr × Obj)} {σ:St} {H:Hp} {s:Shared} {A:Around}
end
end L2
namespace L2
open PySem PySem.Spec PyProof.Rows
open Builtin Builtin.Str
section
variable {X:Cx}
end
section
variable {X:Cx}
end
end L2
namespace L2
open PySem PySem.W PySem.Spec PySem.Calls PyProof.Rows
open Builtin Builtin.Str
section
variable {X:Cx} {pins:List (Addr × Obj)} {σ:St} {H:Hp} {s:Shared}
open Classical in
noncomputable def jL (K:PySem.W.Frag) (H:Hp) (d:Da) (w:Value):Bool:=decide (∃ a,w=.ref a∧gZ K H (.ref a) d)
theorem yF {K:PySem.W.Frag} {d:Da} {w:Value} (h:∃ a,w=.ref a∧gZ K H (.ref a) d):jL K H d w=true:=by
 unfold jL
 exact @decide_eq_true _ (Classical.propDecidable _) h
theorem yG {K:PySem.W.Frag} {d:Da} {w:Value} (h:¬ ∃ a,w=.ref a∧gZ K H (.ref a) d):jL K H d w=false:=by
 unfold jL
 exact @decide_eq_false _ (Classical.propDecidable _) h
theorem Cv (I:Inv X pins σ H s) {d:Da}:∀ {xs:List V} {us:List Value} {ds:List Da},Vals xs us→Fh H xs ds→(∀ x ∈ xs,∃ a,x=.ref a)→us.any (jL X.K H d)=decide (d ∈ ds)
 | _,_,_,.nil,.nil,_=>rfl
 | _,_,_,.cons (l₂:=us) (b:=u) r t,.cons (d:=e) (ds:=ds) h g,hr=>by
  obtain ⟨a,rfl⟩:=hr _ List.mem_cons_self
  have hu:u=Value.ref a:=r
  subst hu
  have ih:=Cv I (d:=d) t g fun x hx=>hr x (by simp [hx])
  rw [List.any_cons,ih]
  have e1:jL X.K H d (.ref a)=decide (d=e):=by
   by_cases c:d=e
   ·subst c
    rw [decide_eq_true rfl]
    exact yF ⟨a,rfl,h.da X.K⟩
   ·rw [decide_eq_false c]
    refine yG ?_
    rintro ⟨b,eb,hb⟩
    cases eb
    exact c (su I hb (h.da X.K))
  rw [e1]
  by_cases c:d=e
  ·simp [c]
  ·simp [c]
end
end L2
namespace L2
open PySem PySem.W PySem.Spec PySem.Calls PyProof.Rows
open Builtin Builtin.Str
def Fj (K:PySem.W.Frag):R2:=fun x y H Q=>∃ (q p:Addr) (xs:List V) (d:Da) (ds:List Da) (n:Nat),x=.ref q∧y=.ref p∧H p=some (.tup xs)∧HD H x d∧Fh H xs ds∧(∀ x ∈ xs,∃ a,x=.ref a)∧d.Nb n∧(∀ e ∈ ds,e.Nb n)∧n ≤ 5∧Q (.bl (decide (d ∈ ds))) H
theorem Cw {X:Cx} (hu:X.A.units + 6 < cLine):jU X (compareOp .In) (Fj X.K):=by
 intro pins s σ H x y v u Q I rx ry h
 obtain ⟨q,p,xs,d,ds,n,rfl,rfl,hp,hd,hs,hr,nd,nds,hn,k⟩:=h
 cases ry
 obtain ⟨its,r,pl,hz⟩:=I.tuple (aS.of hp)
 have key:=Cv I (d:=d) r hs hr
 refine SeqAt.in_tupleAt (jL X.K H d) pl (fun w hw=>?_) ⟨.bl _,H,I,rfl,?_⟩
 ·have hw:w ∈ its:=by simpa using hw
  obtain ⟨j,hj,ej⟩:=List.getElem_of_mem hw
  have hl:=r.length
  have hx:xs[j]? = some xs[j]:=List.getElem?_eq_getElem (by omega)
  have hdl:=hs.len
  have he:ds[j]? = some ds[j]:=List.getElem?_eq_getElem (by omega)
  obtain ⟨w',hw',qe⟩:=r.get hx
  have ew:w'=w:=by
   rw [List.getElem?_eq_getElem hj,ej] at hw'
   exact (Option.some.inj hw').symm
  subst ew
  obtain ⟨a,ea⟩:=hr xs[j] (List.getElem_mem _)
  have h1:=hs.get j _ _ hx he
  have h2:=Cq (A:=X.A.in1) (n:=n) (by show X.A.units + 1 + n < cLine; omega) I (h1.da X.K) (hd.da X.K) (nds _ (List.getElem_mem _)) nd qe rx
  have e1:jL X.K H d w'=decide (ds[j]=d):=by
   have qe:=qe
   rw [ea] at qe h1
   have ew:w'=Value.ref a:=qe
   subst ew
   by_cases c:ds[j]=d
   ·rw [decide_eq_true c]
    exact yF ⟨a,rfl,c ▸ h1.da X.K⟩
   ·rw [decide_eq_false c]
    refine yG ?_
    rintro ⟨b,eb,hb⟩
    cases eb
    exact c (su I (h1.da X.K) hb)
  rw [e1]
  exact h2
 ·rw [show its.toArray.any (jL X.K H d)=its.any (jL X.K H d) by simp,key]
  exact k
end L2
namespace L2
open PySem PySem.W PySem.Spec PySem.Calls PyProof.Rows
theorem wF {us:List (Key × Value)} (hn:(us.map (·.1)).Nodup) {k:Key} {y:Value}:∀ {j:Nat},us[j]? = some (k,y)→valueAt us k=some y:=by
 intro j hj
 have hmem:(k,y) ∈ us:=List.mem_of_getElem? hj
 unfold valueAt
 have hf:∀ (l:List (Key × Value)),(l.map (·.1)).Nodup→(k,y) ∈ l→l.find? (fun kv=>decide (kv.1=k))=some (k,y):=by
  intro l
  induction l with
  | nil=>intro _ h; simp at h
  | cons x l ih =>
   intro hnd hx
   rw [List.map_cons,List.nodup_cons] at hnd
   rcases List.mem_cons.mp hx with rfl | hx
   ·simp
   ·have ne:¬ x.1=k:=fun z=>hnd.1 (by rw [z]; exact List.mem_map.mpr ⟨_,hx,rfl⟩)
    rw [List.find?_cons_of_neg (by simpa using ne)]
    exact ih hnd.2 hx
 rw [hf us hn hmem]
 rfl
section
variable {X:Cx} {pins:List (Addr × Obj)} {σ:St} {H:Hp} {s:Shared} {A:Around}
theorem yH (hu:A.units + 1 < cLine) (I:Inv X pins σ H s) {ub:List (Key × Value)} (hn:(ub.map (·.1)).Nodup) :
  ∀ (ka kb:List (Key × V)) (ua:List (Key × Value)) (o:Nat),KV ka ua→KV kb (ub.drop o)→ka.map (·.1)=kb.map (·.1)→(∀ (i:Nat) x y,(ka.map (·.2))[i]? = some x→(kb.map (·.2))[i]? = some y→JP H x y)→KeqHits A s ub ua true
 | [],[],_,_,.nil,_,_,_=>.nil
 | [],_ :: _,_,_,_,_,h,_=>by simp at h
 | _ :: _,[],_,_,_,_,h,_=>by simp at h
 | (k,x) :: ka,(k',y) :: kb,_,o,r1,r2,hk,h1=>by
  rw [List.map_cons,List.map_cons] at hk
  obtain ⟨e1,e2⟩:=List.cons.inj hk
  simp only at e1
  subst e1
  generalize hub:ub.drop o=ud at r2
  cases r1 with
  | @cons _ u _ ua hu1 r1 =>
  cases r2 with
  | @cons _ v _ uc hv1 r2 =>
  obtain ⟨u1,u2⟩:=u
  obtain ⟨v1,v2⟩:=v
  obtain ⟨a1,a2⟩:=hu1
  obtain ⟨b1,b2⟩:=hv1
  simp only at a1 a2 b1 b2
  subst a1 b1
  have hat:ub[o]? = some (k,v2):=by
   have:(ub.drop o)[0]? = some (k,v2):=by rw [hub]; rfl
   rwa [List.getElem?_drop,Nat.add_zero] at this
  have hdr:ub.drop (o + 1)=uc:=by
   rw [← List.drop_drop,hub]; rfl
  have h3:=JQ (A:=A) hu I (h1 0 x y rfl rfl) a2 b2
  have r:=yH hu I hn ka kb ua (o + 1) r1 (by rw [hdr]; exact r2) e2 (fun i x y p q=>h1 (i + 1) x y p q)
  exact KeqHits.hit (wF hn hat) h3 r
end
def HV:R2:=fun x y H Q=>∃ (p q:Addr) (ka kb:List (Key × V)),x=.ref p∧y=.ref q∧H p=some (.dK ka)∧H q=some (.dK kb)∧ka.map (·.1)=kb.map (·.1)∧(∀ (i:Nat) x y,(ka.map (·.2))[i]? = some x→(kb.map (·.2))[i]? = some y→JP H x y)∧Q (.bl false) H
theorem Fk {X:Cx} (hu:X.A.units + 6 < cLine):jU X (compareOp .NotEq) HV:=by
 intro pins s σ H x y v u Q I rx ry h
 obtain ⟨p,q,ka,kb,rfl,rfl,hp,hq,hk,h1,k⟩:=h
 cases rx
 cases ry
 obtain ⟨_,y1,va,r1,d1⟩:=qQ I.hok hp
 obtain ⟨_,y2,vb,r2,d2⟩:=qQ I.hok hq
 have hnb:(vb.map (·.1)).Nodup:=by
  obtain ⟨_,_,_,_,_,_,_,_,hn⟩:=d2
  exact hn
 have la:=r1.length
 have lb:=r2.length
 have lk:ka.length=kb.length:=by have:=congrArg List.length hk; simpa using this
 refine keq_ne y1 y2 d1 d2 (by omega) (r:=true) (fun _=>yH (A:=X.A.in1) (by show X.A.units + 1 + 1 < cLine; omega) I hnb ka kb va 0 r1 (by rw [List.drop_zero]; exact r2) hk h1) ?_
 have e3:(va.length == vb.length && true)=true:=by simp; omega
 rw [e3]
 exact ⟨.bl false,H,I,rfl,k⟩
end L2
namespace L2
open PySem PySem.Spec PyProof.Rows
def Cy (n:Nat):It:=⟨fun i _=>i < n,fun i H x H'=>H'=H∧x=.int ((n:Int) - 1 - i),fun i _=>n ≤ i⟩
theorem zW {P:Program} {w:World} {K:PySem.W.Frag} {tg:Expr} (it:Addr) (n:Nat):Turn P w K tg (Cy n) [it] it (fun i h=>IsRangeIter h it ((n:Int) - 1 + (i:Nat) * (-1)) ((n:Int) - (i:Nat)) (-1)) where
 mem:=by simp
 obj:=fun i h st b hb=>by
  have e:b=it:=by simpa using hb
  subst e
  exact ⟨_,st,fun v z=>by
   have z':Data.fields _=Data.cell v:=z
   cases z'⟩
 keep:=fun i h h' st k=>k it (by simp) _ st
 item:=by
  intro X hP hw hK hc i pins s σ H E I hf st hg
  subst hP hw hK
  obtain ⟨f0,f1,f2,f3,f4,f5⟩:=hf it (by simp)
  have W:=Walks.range (prog:=X.prog) (w:=X.w) (I.ok.hd hc) it ((n:Int) - 1) (-1) n
  refine W.item i s _ _ hg st fun v h' tk hv st' kk=>?_
  obtain ⟨t,rfl⟩:=hv
  have I1:Inv X pins σ H { s with heap:=h',toks:=tk }:=I.turned (fun b o hb e=>kk b o (by simpa using hb) e) f0 f1 f3 f4 f5
  refine ⟨_,rfl,yk (s:={ s with heap:=h',toks:=tk }) (n := "range_iterator") st' rfl rfl (by decide) ⟨.int ((n:Int) - 1 - i),H,I1,⟨t,?_⟩,⟨rfl,rfl⟩,st',fun b hb=>(hf b hb).1⟩⟩
  rw [show (n:Int) - 1 + (i:Int) * (-1)=(n:Int) - 1 - i by omega]
 done:=by
  intro X hP hw hK hc i pins s σ H E I hf st hg
  subst hP hw hK
  obtain ⟨f0,f1,f2,f3,f4,f5⟩:=hf it (by simp)
  exact wpAny_pyNext_range_end (I.ok.hd hc) st (by have:n ≤ i:=hg; omega) fun h' eb=>⟨rfl,I.turned (t':=s.toks) (fun b o hb e=>eb b o hb e) f0 f1 f3 f4 f5⟩
 self:=fun _ _ _ _ _ st h=>wpAny_pyIter_rangeiter st h
section
variable {X:Cx} {tg:Expr}
def MD (ta:TA):TI:=fun σ H R=>ta σ H fun vs H1=>∃ j:Nat,vs=[.int (j:Int),.int (-1),.int (-1)]∧j < 1000000∧R (Cy (j + 1)) H1
theorem zX {a b c:Expr} {ta:TA} {p pos:Pos} (hg:Gl X "range") (hm:X.mg "range" = none) (ha:PA X [a,b,c] ta) (hs:starEach [a,b,c] X.env=[(false,eval a X.env),(false,eval b X.env),(false,eval c X.env)]:=by rfl) (hs2:starEach [b,c] X.env=[(false,eval b X.env),(false,eval c X.env)]:=by rfl) :
  PI X tg (.Call (.Name "range" p) [a,b,c] [] pos) (MD ta):=by
 intro pins s σ H R I h
 refine Call_ (jS I hg hm boot_range (PyProof.Rows.callWith_type1 (cG (ha pos pins s σ H _ I h) fun us s1 ⟨vs,H1,I1,r1,q1⟩=>?_) (by rw [hs,hs2]) (by rw [hs2]; rfl)))
 obtain ⟨j,e,hj,q⟩:=q1
 subst e
 cases r1 with
 | cons r rr =>
  cases rr with
  | cons r' rr =>
   cases rr with
   | cons r'' rr =>
   cases rr
   obtain ⟨t,rfl⟩:=r
   obtain ⟨t',rfl⟩:=r'
   obtain ⟨t'',rfl⟩:=r''
   refine call_range_3 (by decide) ?_ (Or.inl (PyProof.noPylong_small (by decide)))
   have eS:Builtin.Range.rangeSize (j:Int) (-1) (-1)=((j + 1:Nat):Int):=by
    unfold Builtin.Range.rangeSize
    rw [if_neg (by decide),if_pos (by omega),show (-(-1):Int)=1 by decide,Int.ediv_one]
    omega
   have hsm:Builtin.Range.small (j:Int) (-1) (-1)=true:=by
    unfold Builtin.Range.small
    rw [eS]
    simp only [Builtin.Range.rangeFitsLong,Bool.and_eq_true,Bool.or_eq_true,decide_eq_true_eq,beq_iff_eq,show ¬ ((-1:Int) > 0) by decide,if_false]
    omega
   refine wpAny_pyIter_range (IsRange.new ..) hsm ?_
   rw [eS]
   have I2:Inv X pins σ H1 { s1 with heap:=s1.heap.push { cls:=.type "range",data:=.fields #[.int (j:Int) t,.int (-1) t',.int (-1) t''] },toks:=s1.toks }:=I1.kept fun b o e=>Heap.get?_push_of_some _ e
   refine ⟨_,[(s1.heap.push { cls:=.type "range",data:=.fields #[.int (j:Int) t,.int (-1) t',.int (-1) t''] }).objs.size],_,_,H1,rfl,I2.kept (t':=s1.toks) fun b o e=>Heap.get?_push_of_some _ e,zW _ (j + 1),?_,fun b hb=>?_,q⟩
   ·show IsRangeIter _ _ (((j + 1:Nat):Int) - 1 + ((0:Nat):Int) * (-1)) (((j + 1:Nat):Int) - ((0:Nat):Int)) (-1)
    rw [show ((j + 1:Nat):Int) - 1 + ((0:Nat):Int) * (-1)=(j:Int) by omega,show ((j + 1:Nat):Int) - ((0:Nat):Int)=((j + 1:Nat):Int) by omega]
    exact Heap.get?_push_size _ rfl
   ·have e:b=(s1.heap.push { cls:=.type "range",data:=.fields #[.int (j:Int) t,.int (-1) t',.int (-1) t''] }).objs.size:=by simpa using hb
    subst e
    exact I2.zy (Nat.le_refl _) (I2.hok.fresh (Nat.le_refl _))
end
theorem Cz {n:Nat} {g:TG} {tb:TS} {D:Ends} {σ:St} {H:Hp} (Pv:Nat→St→Hp→Prop) (h0:Pv 0 σ H)
  (hs:∀ i σ H,i < n→Pv i σ H→g (.int ((n:Int) - 1 - i)) σ H fun σ2 H2=>tb { D with nx:=Pv (i + 1),ct:=Pv (i + 1),bk:=D.nx } σ2 H2) (hd:∀ σ H,Pv n σ H→D.nx σ H) :
  ∃ W:Nat→Nat→St→Hp→Prop,(∃ m,W 0 m σ H)∧∀ i m σ H,W i m σ H →
   ((Cy n).stop i H∧D.nx σ H)∨((Cy n).go i H∧∃ N:St→Hp→Prop,(∀ σ' H',N σ' H'→∃ m',m' < m∧W (i + 1) m' σ' H')∧∀ x H',(Cy n).Bh i H x H'→g x σ H' fun σ2 H2=>tb { D with nx:=N,ct:=N,bk:=D.nx } σ2 H2):=by
 refine ⟨fun i m σ H=>m=n - i∧i ≤ n∧Pv i σ H,⟨n,by simp,Nat.zero_le _,h0⟩,?_⟩
 rintro i m σ H ⟨rfl,hi,p⟩
 by_cases hlt:i < n
 ·refine .inr ⟨hlt,Pv (i + 1),fun σ' H' p'=>⟨n - (i + 1),by omega,rfl,hlt,p'⟩,fun x H' y=>?_⟩
  obtain ⟨e,y⟩:=y
  subst e y
  exact hs i σ _ hlt p
 ·have e:i=n:=by omega
  subst e
  exact .inl ⟨Nat.le_refl _,hd σ H p⟩
end L2
namespace PySem.W.Fast
def tw6714190894136173671:Nat:=0
def tw8446657144129586661:Nat:=0
def tw3133439647143346057:Nat:=0
def tw2913603179637087254:Nat:=0
def tw6467727772924736615:Nat:=0
def tw5206924130979028912:Nat:=0
def tw13804769287176094368:Nat:=0
def tw16047902905580785521:Nat:=0
def tw2152695721851845334:Nat:=0
def tw6080690266528860756:Nat:=0
def tw11873183575156854780:Nat:=0
def tw1418493988279736621:Nat:=0
def tw7703726558796914686:Nat:=0
def tw18218195411423309427:Nat:=0
def tw18431161229019742696:Nat:=0
def tw17550677518239234574:Nat:=0
def tw7119740828261477647:Nat:=0
def tw2833712915160334150:Nat:=0
def tw15308764767953224156:Nat:=0
def tw1263607765148341224:Nat:=0
def tw16732429330824009862:Nat:=0
def tw9534216703412520422:Nat:=0
def tw14736847652818476403:Nat:=0
def tw17199900391206209296:Nat:=0
def tw12468978122023029661:Nat:=0
def tw4067210376451411609:Nat:=0
def tw12600620594408532741:Nat:=0
def tw1266396053537590367:Nat:=0
def tw4943747853764143271:Nat:=0
def tw2254593643366179940:Nat:=0
def tw12782140055064305302:Nat:=0
def tw6130162382910593877:Nat:=0
def tw8709104469985977600:Nat:=0
def tw4373930236654853680:Nat:=0
def tw3139721818839547004:Nat:=0
def tw17691501726696063765:Nat:=0
def tw1241424622147152150:Nat:=0
def tw17533139042579486203:Nat:=0
def tw112231199852055736:Nat:=0
def tw1293738631655807568:Nat:=0
def tw1866701863073249744:Nat:=0
def tw15511892610023776947:Nat:=0
def tw14005032112399389592:Nat:=0
def tw1049899686292729806:Nat:=0
def tw18405015436776111060:Nat:=0
def tw4825299749424179865:Nat:=0
def tw3909270267113678684:Nat:=0
def tw11390370176263154094:Nat:=0
def tw14515229949785083745:Nat:=0
def tw13494697621927511703:Nat:=0
def tw12786860667654723132:Nat:=0
def tw11253582372209158833:Nat:=0
def tw415747551975050488:Nat:=0
def tw15125365600280365392:Nat:=0
def tw16666562069234328469:Nat:=0
def tw2802452920018157395:Nat:=0
def tw7206839016059490212:Nat:=0
def tw11818132114430582186:Nat:=0
def tw4245919739986603274:Nat:=0
def tw6377700086572451169:Nat:=0
def tw16312319675660581914:Nat:=0
def tw11035003526963799163:Nat:=0
def tw8622432893980907259:Nat:=0
def tw3931344093903872713:Nat:=0
def tw13691553407139489647:Nat:=0
def tw15637149336001179807:Nat:=0
def tw16334085014760162047:Nat:=0
def tw14078534967051128707:Nat:=0
def tw2308567889869110612:Nat:=0
def tw8089733615703438773:Nat:=0
def tw17562221094368859526:Nat:=0
def tw3763189402191292708:Nat:=0
def tw7850910727331457461:Nat:=0
def tw13443474313943969595:Nat:=0
def tw12105816316558876159:Nat:=0
def tw17730084980366312621:Nat:=0
def tw12135293772173741438:Nat:=0
def tw15905702214093293669:Nat:=0
def tw12724503686520098265:Nat:=0
def tw6563806402618862559:Nat:=0
def tw12102764291446687167:Nat:=0
def tw384310296780265678:Nat:=0
def tw14718535380493564695:Nat:=0
def tw5124523647133279997:Nat:=0
def tw9443400640949495944:Nat:=0
def tw4164239933542314792:Nat:=0
def tw8545267110552901930:Nat:=0
def tw12483070812935219771:Nat:=0
def tw970190820667701327:Nat:=0
def tw16706623166577112725:Nat:=0
def tw9083305656928568471:Nat:=0
def tw4078925230766364991:Nat:=0
def tw7468950178825024818:Nat:=0
def tw280646655579210669:Nat:=0
def tw14560600146090552547:Nat:=0
def tw3926834254032280908:Nat:=0
def tw7097204918867925271:Nat:=0
def tw8765126084034941650:Nat:=0
def tw6640101790439736040:Nat:=0
def tw17953026829126107673:Nat:=0
def tw8718249776635517161:Nat:=0
def tw13247853585197092805:Nat:=0
def tw11150605286360781388:Nat:=0
def tw9024189443745397510:Nat:=0
def tw9268890535500646743:Nat:=0
def tw9237306684776950279:Nat:=0
def tw11365970804347925328:Nat:=0
def tw8031485554239180847:Nat:=0
def tw10901383150225062872:Nat:=0
def tw11065850839528587629:Nat:=0
def tw1611530259509598042:Nat:=0
def tw2789267556081689261:Nat:=0
def tw1393916865814992188:Nat:=0
def tw2552069764490128401:Nat:=0
def tw4064905104847408569:Nat:=0
def tw12503036747016717212:Nat:=0
def tw8309182702376281193:Nat:=0
def tw16966156183396756755:Nat:=0
def tw8140829852107070332:Nat:=0
def tw491680402914901875:Nat:=0
def tw7998672731606678337:Nat:=0
def tw10090835776666028082:Nat:=0
def tw17998660516383633505:Nat:=0
def tw6462361430423120760:Nat:=0
def tw3426582267155006492:Nat:=0
def tw13310002638430117701:Nat:=0
def tw1983002217934045195:Nat:=0
def tw391927190142538330:Nat:=0
def tw11264980048854780677:Nat:=0
def tw4913318357072282044:Nat:=0
def tw6552044962881460487:Nat:=0
def tw2675639993062118856:Nat:=0
def tw15691989898906681764:Nat:=0
def tw14996755414190300946:Nat:=0
def tw10705602332488324008:Nat:=0
def tw15424344294826864647:Nat:=0
def tw11664623537944185395:Nat:=0
def tw2463614766612909144:Nat:=0
def tw13316796147558538572:Nat:=0
def tw4881094669763805159:Nat:=0
def tw14595563601384631365:Nat:=0
def tw5518560474422672219:Nat:=0
def tw16438392069385148507:Nat:=0
def tw17661600829202477010:Nat:=0
def tw2204183849135865238:Nat:=0
def tw11562223315252724811:Nat:=0
def tw14417806803723492707:Nat:=0
def tw72188203502915812:Nat:=0
def tw14332273069693291824:Nat:=0
def tw2278374670099324781:Nat:=0
def tw5501300467518880876:Nat:=0
def tw14626351141966327760:Nat:=0
def tw9349062477773420028:Nat:=0
def tw8998245228970746545:Nat:=0
def tw13940892117874902810:Nat:=0
def tw3939790990489989355:Nat:=0
def tw2506914273177476390:Nat:=0
def tw3087686214264506571:Nat:=0
def tw15370785296285872174:Nat:=0
def tw2986756250512479060:Nat:=0
def tw3830842640928392772:Nat:=0
def tw15969488404911916272:Nat:=0
end PySem.W.Fast
namespace My
open PySem L2
theorem _root_.L2.eU.u {n:Nat} {A:Around} (hr:eU n A) (k:Nat) (h:k ≤ 64:=by decide):A.units + k < cLine:=Nat.lt_of_le_of_lt (Nat.add_le_add_left h _) hr.units
abbrev KI (K:PySem.W.Frag) (f:Addr):Prop:=PySem.W.keepIn K (.ref f)=true
theorem lL:0 ≤ sizeLine:=by decide
theorem oN:1 ≤ sizeLine:=by decide
theorem cT:2 ≤ sizeLine:=by decide
theorem jX:3 ≤ sizeLine:=by decide
theorem CA:4 ≤ sizeLine:=by decide
theorem RK:5 ≤ sizeLine:=by decide
theorem RL:7 ≤ sizeLine:=by decide
theorem ME:13 ≤ sizeLine:=by decide
theorem MF:20 ≤ sizeLine:=by decide
theorem zY:(0:Int) < 2:=by decide
theorem Fl:(0:Int) < 3:=by decide
theorem vh:(0:Int) < 4:=by decide
theorem RM:(0:Int) < 5:=by decide
theorem RN:(0:Int) < 6:=by decide
theorem RO:(0:Int) < 7:=by decide
theorem zZ:(0:Int) < 8:=by decide
theorem JX:(0:Int) < 9:=by decide
theorem MH:(0:Int) < 12:=by decide
theorem MI:(0:Int) < 16:=by decide
theorem MK:(0:Int) < 19:=by decide
theorem MN:(0:Int) < 20:=by decide
theorem MO:(0:Int) < 31:=by decide
theorem Fm:(0:Int) < 2001:=by decide
theorem oO:(0:Int) < 1000001:=by decide
theorem qm:(0:Int) < 2147483629:=by decide
theorem jM:(0:Int) < 2147483647:=by decide
open List (any_cons cons_ne_nil eq_nil_or_concat filter_append length_append length_filter_le length_map length_pos_iff length_set length_take map_append map_cons map_eq_nil_iff map_map map_set map_take mem_append mem_cons mem_filter mem_map mem_singleton nodup_cons not_mem_nil replicate take_add_one take_length zip_cons_cons)
open PySem.W (Frag KeysLit OpenLaw WalkO codeIn findIn fnOf isFn kIn_of keepIn kitMeta kitOne mg_none_of mg_of nsIn)
open Option (map_eq_some_iff)
open Nat (le_of_ble_eq_true le_refl le_succ le_trans lt_of_le_of_lt lt_of_succ_lt lt_or_ge zero_le)
def top (i:Nat):Stmt:=PySem.Challenge.pw_widenrows_k52_guards_and_ends.main.body.getD i (.Pass ⟨0,0,0,0⟩)
abbrev s_end:Stmt:=top 7
abbrev jn:Stmt:=top 8
abbrev jo:Stmt:=top 9
abbrev jq:Stmt:=top 10
abbrev kr:Stmt:=top 11
abbrev jr:Stmt:=top 12
abbrev jt:Stmt:=top 13
abbrev ku:Stmt:=top 14
abbrev ju:Stmt:=top 15
abbrev jv:Stmt:=top 16
abbrev jw:Stmt:=top 17
abbrev jx:Stmt:=top 18
abbrev kx:Stmt:=top 19
abbrev ky:Stmt:=top 20
abbrev jy:Stmt:=top 21
abbrev jz:Stmt:=top 22
abbrev jA:Stmt:=top 23
abbrev iN:Stmt:=top 24
abbrev jB:Stmt:=top 25
abbrev jC:Stmt:=top 26
abbrev iO:Stmt:=top 27
abbrev gE:Stmt:=top 33
abbrev dZ:Stmt:=top 34
abbrev gF:Stmt:=top 35
abbrev fi:Stmt:=top 41
abbrev dr:Stmt:=top 42
abbrev dF:Stmt:=top 43
abbrev gG:Stmt:=top 44
abbrev dR:Stmt:=top 45
abbrev gH:Stmt:=top 46
abbrev iy:Stmt:=top 47
abbrev cO:Stmt:=top 48
abbrev d6:Stmt:=top 49
abbrev fj:Stmt:=top 54
abbrev gJ:Stmt:=top 55
abbrev gK:Stmt:=top 56
abbrev du:Stmt:=top 57
abbrev cP:Stmt:=top 58
abbrev cQ:Stmt:=top 59
abbrev cq:Stmt:=top 60
abbrev cJ:Stmt:=top 62
abbrev fq:Stmt:=top 63
abbrev eN:Stmt:=top 64
abbrev cY:Stmt:=top 65
abbrev iz:Stmt:=top 66
abbrev d7:Stmt:=top 67
abbrev eC:Stmt:=top 69
abbrev e9:Stmt:=top 70
abbrev iA:Stmt:=top 71
abbrev eE:Stmt:=top 72
abbrev gR:Stmt:=top 73
abbrev eM:Stmt:=top 74
abbrev ft:Stmt:=top 75
abbrev cn:Stmt:=top 76
abbrev eO:Stmt:=top 77
abbrev eP:Stmt:=top 78
abbrev fu:Stmt:=top 79
abbrev fz:Stmt:=top 80
abbrev dS:Stmt:=top 81
abbrev gL:Stmt:=top 82
abbrev fF:Stmt:=top 83
abbrev kF:Stmt:=top 84
theorem hU:bootBuiltins "list" = some (.type "list"):=by decide +kernel
theorem kI:bootBuiltins "tuple" = some (.type "tuple"):=by decide +kernel
theorem wG:bootBuiltins "set" = some (.type "set"):=by decide +kernel
theorem Fn:bootBuiltins "bool" = some (.type "bool"):=by decide +kernel
theorem cV:bootBuiltins "len" = some (.builtin "len"):=by decide +kernel
theorem lM:bootBuiltins "sorted" = some (.builtin "sorted"):=by decide +kernel
theorem jd:bootBuiltins "isinstance" = some (.builtin "isinstance"):=by decide +kernel
theorem at0 {α:Type} (a:α) (r:List α):lX (a :: r) 0=some a:=ck (j:=0) rfl
theorem at1 {α:Type} (a b:α) (r:List α):lX (a :: b :: r) 1=some b:=ck (j:=1) rfl
theorem at2 {α:Type} (a b c:α) (r:List α):lX (a :: b :: c :: r) 2=some c:=ck (j:=2) rfl
theorem strEq {a b:Str} (h:decide (V.str a=V.str b)=true):a=b:=V.str.inj (of_decide_eq_true h)
theorem HW {a b:Str} (h:¬ decide (V.str a=V.str b)=true):¬ a=b:=fun e=>h (by rw [e]; exact decide_eq_true rfl)
theorem d8 (w:Str):∀ ss:List Str,inV (.str w) (ss.map V.str)=decide (w ∈ ss)
 | []=>rfl
 | x :: r=>by
  have ih:=d8 w r
  unfold inV at ih ⊢
  rw [map_cons,any_cons,ih]
  show ((x == w) || _)=_
  by_cases h:x=w
  ·subst h
   simp
  ·have h':¬ w=x:=fun e=>h e.symm
   simp [h,h']
theorem aj {H:Hp} {l:Addr} {o:HO} (h:H l=none):Same H (upd H l o):=fun b u e=>by
 rw [aL (ay e h)]
 exact e
theorem CB:bootBuiltins "int" = some (.type "int"):=by decide +kernel
theorem JY:bootBuiltins "str" = some (.type "str"):=by decide +kernel
theorem wH:bootBuiltins "all" = some (.builtin "all"):=by decide +kernel
theorem ez {H:Hp} {l a:Addr} {o u:HO} (n:H l=none) (h:H a=some u):upd H l o a=some u:=by
 rw [aL (ay h n)]
 exact h
theorem cL {H H1:Hp} {l:Addr} {o:HO} (e:Same H H1) (h:H l=none):Same H (upd H1 l o):=fun b u z=>by
 rw [aL (ay z h)]
 exact e b u z
theorem JZ {K:Frag} {a b:String} {r:Bool} (h1:(Value.type a == Value.type b)=false) (h2:kitMeta b=true) (h3:(fastBuiltinMro a).map (·.contains (Value.type b))=some r):kitOne K (.type a) (.type b)=some r:=by
 unfold kitOne
 rw [if_neg (by rw [h1]; decide)]
 show (if kitMeta b=true then (fastBuiltinMro a).map (·.contains (Value.type b)) else none)=some r
 rw [if_pos h2]
 exact h3
theorem sx {K:Frag} {a:String} (h:(Value.type a == Value.type a)=true):kitOne K (.type a) (.type a)=some true:=by
 unfold kitOne
 rw [if_pos h]
theorem wI {K:Frag}:kitOne K (.type "int") (.type "bool")=some false:=JZ (by decide) (by decide +kernel) (by decide +kernel)
theorem z9 {K:Frag}:kitOne K (.type "int") (.type "int")=some true:=sx (by decide)
theorem ig {K:Frag}:kitOne K (.type "tuple") (.type "tuple")=some true:=sx (by decide)
theorem lY {K:Frag}:kitOne K (.type "list") (.type "list")=some true:=sx (by decide)
def cS:List Str:=["stop", "back", "halt", "jump"]
def eA:List Str:=["jump", "call", "mark"]
def zb:List Str:=["zero", "below"]
def Parts (H:Hp) (w:Str) (items:List V) (ts:List Int):Prop :=
 if w = "table" then ∃ (b:V) (q:Addr),items=[b,.ref q]∧H q=some (.tup (ts.map V.int))
 else if w ∈ eA then ∃ (t:Int) (f:V),items=[.int t,f]∧ts=[t]
 else if w ∈ zb then ∃ (b:V) (t:Int) (f:V),items=[b,.int t,f]∧ts=[t] else ts=[]
def lZ (H:Hp) (r:Addr) (w:Str) (ts:List Int):Prop:=∃ items,H r=some (.tup (.str w :: items))∧Parts H w items ts
theorem Parts.same {H H':Hp} {w:Str} {items:List V} {ts:List Int} (e:Same H H') (h:Parts H w items ts):Parts H' w items ts:=by
 unfold Parts at h ⊢
 split
 ·rename_i h1
  rw [if_pos h1] at h
  obtain ⟨b,q,h2,h3⟩:=h
  exact ⟨b,q,h2,e _ _ h3⟩
 ·rename_i h1
  rw [if_neg h1] at h
  exact h
theorem lZ.same {H H':Hp} {r:Addr} {w:Str} {ts:List Int} (e:Same H H') (h:lZ H r w ts):lZ H' r w ts:=by
 obtain ⟨items,h1,h2⟩:=h
 exact ⟨items,e _ _ h1,h2.same e⟩
structure Txt (K:Frag) (pr:Params) (mg:Str→Option Value):Prop where
 oP:∃ p,mg "NOT_GOING_ON" = some (.ref p)∧∀ H,aS K H p [.str "stop",.str "back",.str "halt",.str "jump"]
 vi:∃ t,mg "MOST_ROWS" = some (.int (4000) t)
 oQ:∃ t,mg "MOST_TARGETS" = some (.int (16) t)
 CC:∃ p,mg "BOUNDS" = some (.ref p)∧Ff K pr p∧(∃ q,dE K pr p "box" (some (.ref q))∧∀ H,aS K H q [.int 0,.int 7])∧(∃ q,dE K pr p "aside" (some (.ref q))∧∀ H,aS K H q [.int 0,.int 1000000])∧(∃ q,dE K pr p "target" (some (.ref q))∧∀ H,aS K H q [.int 0,.int 1000000000])∧(∃ q,dE K pr p "number" (some (.ref q))∧∀ H,aS K H q [.int 0,.int 1000000])∧(∃ q,dE K pr p "value" (some (.ref q))∧∀ H,aS K H q [.int (-1000000000),.int 1000000000])∧(∃ q,dE K pr p "far" (some (.ref q))∧∀ H,aS K H q [.int 0,.int 1])
 Fo:∃ p,mg "PARTS" = some (.ref p)∧Ff K pr p∧(∃ q,dE K pr p "stop" (some (.ref q))∧∀ H,aS K H q [])∧(∃ q,dE K pr p "back" (some (.ref q))∧∀ H,aS K H q [])∧(∃ q,dE K pr p "halt" (some (.ref q))∧∀ H,aS K H q [.str "number"])∧(∃ q,dE K pr p "set" (some (.ref q))∧∀ H,aS K H q [.str "box",.str "value"])∧(∃ q,dE K pr p "more" (some (.ref q))∧∀ H,aS K H q [.str "box",.str "value"])∧(∃ q,dE K pr p "copy" (some (.ref q))∧∀ H,aS K H q [.str "box",.str "box"])∧(∃ q,dE K pr p "add" (some (.ref q))∧∀ H,aS K H q [.str "box",.str "box"])∧(∃ q,dE K pr p "less" (some (.ref q))∧∀ H,aS K H q [.str "box",.str "box"])∧(∃ q,dE K pr p "load" (some (.ref q))∧∀ H,aS K H q [.str "box",.str "box"])∧(∃ q,dE K pr p "keep" (some (.ref q))∧∀ H,aS K H q [.str "box",.str "box"])∧(∃ q,dE K pr p "tell" (some (.ref q))∧∀ H,aS K H q [.str "box"])∧(∃ q,dE K pr p "see" (some (.ref q))∧∀ H,aS K H q [.str "box",.str "number"])∧(∃ q,dE K pr p "put" (some (.ref q))∧∀ H,aS K H q [.str "box",.str "aside"])∧(∃ q,dE K pr p "take" (some (.ref q))∧∀ H,aS K H q [.str "box",.str "aside"])∧(∃ q,dE K pr p "jump" (some (.ref q))∧∀ H,aS K H q [.str "target",.str "far"])∧(∃ q,dE K pr p "zero" (some (.ref q))∧∀ H,aS K H q [.str "box",.str "target",.str "far"])∧(∃ q,dE K pr p "below" (some (.ref q))∧∀ H,aS K H q [.str "box",.str "target",.str "far"])∧(∃ q,dE K pr p "call" (some (.ref q))∧∀ H,aS K H q [.str "target",.str "far"])∧(∃ q,dE K pr p "mark" (some (.ref q))∧∀ H,aS K H q [.str "target",.str "far"])∧(∃ q,dE K pr p "table" (some (.ref q))∧∀ H,aS K H q [.str "box",.str "targets"])
 qo:∃ t,mg "MOST_WISHES" = some (.int (12) t)
 CD:∃ p,mg "PLACES" = some (.ref p)∧Ff K pr p∧dE K pr p "before" (some (.int 2))∧dE K pr p "after" (some (.int 2))∧dE K pr p "way" (some (.int 3))
 Fp:∃ p,mg "WHATS" = some (.ref p)∧Ff K pr p∧(∃ q,dE K pr p "look" (some (.ref q))∧∀ H,aS K H q [.str "number",.str "box"])∧(∃ q,dE K pr p "count" (some (.ref q))∧∀ H,aS K H q [.str "number"])∧(∃ q,dE K pr p "guard" (some (.ref q))∧∀ H,aS K H q [.str "number",.str "box"])
 len:mg "len" = none
 list:mg "list" = none
 tuple:mg "tuple" = none
 int:mg "int" = none
 bool:mg "bool" = none
 str:mg "str" = none
 dict:mg "dict" = none
 HY:mg "isinstance" = none
 enum:mg "enumerate" = none
 range:mg "range" = none
 all:mg "all" = none
 zip:mg "zip" = none
 sorted:mg "sorted" = none
 set:mg "set" = none
def isStar:Expr→Bool
 | .Starred _ _=>true
 | _=>false
theorem Fq {e:Expr} {es:List Expr} {env:Env} (h:isStar e=false):starEach (e :: es) env=(false,eval e env) :: starEach es env:=starEach.eq_3 _ _ _ (fun e1 p h1=>by rw [h1] at h; cases h)
inductive J0 (X:Cx):List Expr→List TE→Prop where
 | nil:J0 X [] []
 | cons {e:Expr} {te:TE} {es:List Expr} {ts:List TE} (h:PE X e te) (r:J0 X es ts) (hs:isStar e=false:=by rfl):J0 X (e :: es) (te :: ts)
def Fs:List TE→TA
 | []=>qc
 | te :: ts=>qJ te (Fs ts)
theorem J0.pa {X:Cx} {es:List Expr} {ts:List TE} (h:J0 X es ts):PA X es (Fs ts):=by
 induction h with
 | nil=>exact ao
 | cons h r hs ih=>exact ae h ih (Fq hs)
theorem Ft {X:Cx} {es:List Expr} {ts:List TE} {pos:Pos} (h:J0 X es ts):PE X (.List es pos) (uN (Fs ts)):=cu h.pa
@[irreducible] def Lz (X:Cx) (e:Expr) (t:TE):Prop:=PE X e t
@[irreducible] def Qy (X:Cx) (e:Stmt) (t:TS):Prop:=PS X e t
theorem Fu {X:Cx} {es:List Expr} {ts:List TE} {pos:Pos} (h:J0 X es ts):Lz X (.List es pos) (uN (Fs ts)):=by
 unfold Lz
 exact cu h.pa
theorem yI {X:Cx} {pos:Pos} {i:Nat} {x:Str} {e:Expr} {te:TE} {pos':Pos} (hN:X.N.Nodup) (hi:X.N[i]? = some x) (hx:Loc X.env.scope x) (he:Lz X e te) (hs:swapsWith e (some (.Name x pos')) pos.line X.env=pure false:=by rfl) (hf:X.fn x=true∨X.env.scope.names.lookup x=some .local:=by first | exact .inl rfl | exact .inr rfl | assumption) :
  Qy X (.Assign [.Name x pos'] e pos) (By te (hC i)):=by
 unfold Lz at he
 unfold Qy
 exact aV hN hi hx he hs hf
theorem vj {X:Cx} {st:Stmt} {t:TS} (h:Qy X st t):Ly X st t:=by
 unfold Qy at h
 exact aG h
theorem cy {c A B:Prop} [Decidable c] (h:c) (a:A):if c then A else B:=by rw [if_pos h]; exact a
theorem aW {c A B:Prop} [Decidable c] (h:¬ c) (b:B):if c then A else B:=by rw [if_neg h]; exact b
theorem dH {n:Nat} (h:n ≤ 1000000):n < sizeLine:=lt_of_le_of_lt h (by decide)
theorem ik {X:Cx} {K:Frag} (hK:X.K=K) {i j:Nat} {x y:Str} {px py pt:Pos} {k:Nat} (hc:X.calm=true) (hN:X.N.Nodup) (hi:X.N[i]? = some x) (hx:Loc X.env.scope x) (hj:X.N[j]? = some y) (hy:Loc X.env.scope y)
  (hf:X.fn x=true∨X.env.scope.names.lookup x=some .local:=by first | exact .inl rfl | exact .inr rfl) (hf2:X.fn y=true∨X.env.scope.names.lookup y=some .local:=by first | exact .inl rfl | exact .inr rfl) :
  PG X (.Tuple [.Name x px,.Name y py] k pt) (Jp K 2 (uM (hC i) (uM (hC j) Jo))):=hK ▸ vL (n:=2) hc (fX (cD hN hi hx hf) (fX (cD hN hj hy hf2) rO))
abbrev HZ:Stmt:=eC
abbrev yJ:Stmt:=e9
abbrev MP:Stmt:=iA
abbrev Ia:Stmt:=eE
abbrev Ib:Stmt:=gR
def jN:List Str:=["stop", "back", "halt", "set", "more", "copy", "add", "less", "load", "keep", "tell", "see", "put", "take", "jump", "zero", "below", "call", "mark", "table"]
def w2:List Str:=["copy", "add", "less", "load", "keep"]
def w1:List Str:=["set", "more", "tell", "see", "put", "take", "zero", "below", "table"]
def nQ (u:Str) (items:List V):Prop:=(u ∈ w2→∃ b c:Int,items=[.int b,.int c])∧(u ∈ w1→∃ (b:Int) (r:List V),items=.int b :: r)
theorem nQ.one {u:Str} {b:Int} {r:List V} (h:¬ u ∈ w2):nQ u (.int b :: r):=⟨fun z=>absurd z h,fun _=>⟨b,r,rfl⟩⟩
def kinds:List (Str × List Str):=[("stop",[]),("back",[]),("halt",["number"]),("set",["box", "value"]),("more",["box", "value"]),("copy",["box", "box"]),("add",["box", "box"]),("less",["box", "box"]),("load",["box", "box"]),("keep",["box", "box"]),
 ("tell",["box"]),("see",["box", "number"]),("put",["box", "aside"]),("take",["box", "aside"]),("jump",["target", "far"]),("zero",["box", "target", "far"]),("below",["box", "target", "far"]),("call",["target", "far"]),("mark",["target", "far"]),("table",["box", "targets"])]
def five:List Str:=["jump", "call", "mark", "zero", "below"]
def gC (u:Str):List Str:=((kinds.find? fun x=>x.1 == u).map (·.2)).getD []
def RP (u:Str):Nat:=(gC u).length
theorem sy (w:Int):∀ ss:List Int,inV (.int w) (ss.map V.int)=decide (w ∈ ss)
 | []=>rfl
 | x :: r=>by
  have ih:=sy w r
  unfold inV at ih ⊢
  rw [map_cons,any_cons,ih]
  show ((x == w) || _)=_
  by_cases h:x=w
  ·subst h
   simp
  ·have h':¬ w=x:=fun e=>h e.symm
   simp [h,h']
theorem qW (ms:List Int):(ms.map V.int).all j7=true:=by
 rw [List.all_eq_true]
 intro x hx
 obtain ⟨i,_,rfl⟩:=mem_map.mp hx
 rfl
structure FR where
 u:Str
 is:List Int
 ts:List Int
def FR.Ok (d:FR):Prop:=d.u ∈ jN∧(d.u = "table" → ∃ b,d.is=[b]∧d.ts ≠ [])∧(d.u ∈ eA→∃ t f,d.is=[t,f]∧d.ts=[t])∧(d.u ∈ zb→∃ b t f,d.is=[b,t,f]∧d.ts=[t]) ∧
 (¬ d.u = "table" → ¬ d.u ∈ eA→¬ d.u ∈ zb→d.ts=[]∧d.is.length=RP d.u)∧(d.u ∈ w2→∃ b c,d.is=[b,c])∧(d.u ∈ w1→∃ b r,d.is=b :: r)
def RQ (H:Hp) (q:Addr) (d:FR):Prop:=(d.u = "table" ∧ ∃ b p,d.is=[b]∧H q=some (.tup [.str d.u,.int b,.ref p])∧H p=some (.tup (d.ts.map V.int)))∨(¬ d.u = "table" ∧ H q=some (.tup (.str d.u :: d.is.map V.int)))
def gh (H:Hp) (q:Addr) (d:FR):Prop:=d.Ok∧RQ H q d
theorem gh.same {H H':Hp} {q:Addr} {d:FR} (s:Same H H') (h:gh H q d):gh H' q d:=by
 obtain ⟨o,h⟩:=h
 refine ⟨o,?_⟩
 rcases h with ⟨a,b,p,e,h1,h2⟩ | ⟨a,h1⟩
 ·exact .inl ⟨a,b,p,e,s _ _ h1,s _ _ h2⟩
 ·exact .inr ⟨a,s _ _ h1⟩
theorem gh.parts {H:Hp} {q:Addr} {d:FR} (h:gh H q d):∃ items,H q=some (.tup (.str d.u :: items))∧nQ d.u items∧Parts H d.u items d.ts∧∀ (i:Nat) (b:Int),(d.u ∈ w1∨d.u ∈ w2)→i < 2→(d.u ∈ w1→i=0)→(items[i]? = some (.int b)↔d.is[i]? = some b):=by
 obtain ⟨⟨hu,h1,h2,h3,h4,h5,h6⟩,h⟩:=h
 rcases h with ⟨a,b,p,e,g1,g2⟩ | ⟨a,g1⟩
 ·refine ⟨_,g1,nQ.one (by rw [a]; decide),?_,fun i b' _ hi hw=>?_⟩
  ·unfold Parts
   rw [if_pos a]
   exact ⟨_,p,rfl,g2⟩
  ·have:i=0:=hw (by rw [a]; decide)
   subst this
   rw [e]
   simp
 ·refine ⟨_,g1,⟨fun z=>?_,fun z=>?_⟩,?_,fun i b' _ hi hw=>?_⟩
  ·obtain ⟨b,c,e⟩:=h5 z
   exact ⟨b,c,by rw [e]; rfl⟩
  ·obtain ⟨b,r,e⟩:=h6 z
   exact ⟨b,r.map V.int,by rw [e]; rfl⟩
  ·unfold Parts
   rw [if_neg a]
   split
   ·rename_i z
    obtain ⟨t,f,e1,e2⟩:=h2 z
    exact ⟨t,.int f,by rw [e1]; rfl,e2⟩
   ·rename_i z1
    split
    ·rename_i z
     obtain ⟨b,t,f,e1,e2⟩:=h3 z
     exact ⟨.int b,t,.int f,by rw [e1]; rfl,e2⟩
    ·rename_i z2
     exact (h4 a z1 z2).1
  ·rw [List.getElem?_map,map_eq_some_iff]
   exact ⟨fun ⟨y,e1,e2⟩=>by cases e2; exact e1,fun e=>⟨b',e,rfl⟩⟩
def gq (H:Hp) (lr:Addr) (ds:List FR):Prop:=∃ qs:List Addr,H lr=some (.lst (qs.map V.ref))∧qs.length=ds.length∧∀ (i:Nat) q d,qs[i]? = some q→ds[i]? = some d→gh H q d
theorem gq.same {H H':Hp} {lr:Addr} {ds:List FR} (s:Same H H') (h:gq H lr ds):gq H' lr ds:=by
 obtain ⟨qs,a,b,c⟩:=h
 exact ⟨qs,s _ _ a,b,fun i q d h1 h2=>(c i q d h1 h2).same s⟩
theorem gq.get {H:Hp} {lr:Addr} {ds:List FR} {r:Nat} {d:FR} (h:gq H lr ds) (hd:ds[r]? = some d):∃ (qs:List Addr) (q:Addr),H lr=some (.lst (qs.map V.ref))∧lX (qs.map V.ref) (r:Int)=some (.ref q)∧(qs.map V.ref)[r]? = some (.ref q)∧gh H q d:=by
 obtain ⟨qs,a,b,c⟩:=h
 have hr:=(List.getElem?_eq_some_iff.mp hd).1
 have hq:qs[r]? = some (qs[r]'(by omega)):=List.getElem?_eq_getElem _
 have hq':(qs.map V.ref)[r]? = some (.ref (qs[r]'(by omega))):=by rw [List.getElem?_map,hq]; rfl
 exact ⟨qs,_,a,ck hq',hq',c r _ d hq hd⟩
def MQ (d:FR):Int:=d.is.getLastD 0
theorem bZ {X:Cx}:jU X (binaryOp .FloorDiv) (rI (fun _ j=>0 < j∧j < 18446744073709551616) fun i j=>.int (i / j)):=Qq fun i j _ _ _ _ _ hc q=>by
 have h1:(0:Int) < j:=hc.1
 have h2:j < 18446744073709551616:=hc.2
 refine PyProof.Rows.floordiv_int (by omega) (by rw [Int.fdiv_eq_ediv_of_nonneg i (by omega)]; exact q) (.inl (PyProof.noPylong_of_log2 ?_))
 have h3:j.natAbs.log2 < 64:=(Nat.log2_lt (by omega)).mpr (by omega)
 omega
theorem oR (xs:List V) (n:Nat):gY xs none (some (n:Int))=xs.take n:=by
 unfold gY
 have h1:HT.eB xs.length 0 none=0:=rfl
 have h2:HT.eB xs.length xs.length (some (n:Int))=min n xs.length:=HT.nG ..
 rw [h1,h2,List.drop_zero,Nat.sub_zero]
 rcases Nat.le_total n xs.length with h | h
 ·rw [Nat.min_eq_left h]
 ·rw [Nat.min_eq_right h,take_length,List.take_of_length_le h]
section
variable {P:Program} {w:World} {K:Frag} {mg:Str→Option Value} {base:Heap}
def CF:Sp:=fun vs H Q _=>∃ (a:Addr) (ns:List Int) (k:Int),vs=[.ref a,.int k]∧bh K H a (ns.map V.int)∧0 ≤ k∧∀ c:Int,Q (.int c) H
theorem J1:aJ ["_law_script", "_law_k"] ["_law_script", "_law_k"] (ak HZ):=⟨rfl,rfl,rfl,by decide +kernel,rfl,by decide +kernel,by decide +kernel⟩
theorem Fv {f:Addr} {fd:FuncData} (F:dJ K "_law_cell_at" "_law_cell_at" HZ f fd) (T:Txt K w.params mg):aR P w K mg base bV 1 f fd ["_law_script", "_law_k"] (CF (K:=K)):=by
 refine F.ok J1 (fun vs H Q E h=>?_) (fun cdv A outer s H vs Q E hr h=>?_)
 ·obtain ⟨a,ns,k,rfl,_⟩:=h
  rfl
 ·obtain ⟨a,ns,k,rfl,hS,hk,q⟩:=h
  refine ⟨_,aA (bU (aF iu (pv 1) (bf aZ (by rfl) T.len cV (ae (pv 0) ao)) (aO _)) (aw (aU (au aK (pv 0) (pv 1) (fun _ _=>rfl)))) aM)
   (aw (aU ai)),?_⟩
  refine ⟨_,rfl,_,rfl,a,_,rfl,.inl hS,_,_,rfl,rfl,_,rfl,?_⟩
  refine dk (fun h1=>?_) (fun h1=>?_)
  ·have h1:=of_decide_eq_true h1
   rw [length_map] at h1
   obtain ⟨j,rfl⟩:=Int.eq_ofNat_of_zero_le hk
   have hj:j < ns.length:=by omega
   refine ⟨_,rfl,_,rfl,a,_,_,.int ns[j],rfl,rfl,hS,ck (j:=j) ?_,q _⟩
   rw [List.getElem?_map,List.getElem?_eq_getElem hj]
   rfl
  ·exact q 0
def kJ:Sp:=fun vs H Q _=>∃ (c:Int) (n:Nat),vs=[.int c,.int (n:Int)]∧n ≤ 10000∧∀ (l:Addr) (ms:List Int) (H':Hp),Same H H'→H l=none→H' l=some (.lst (ms.map V.int))→ms.length=n→(∀ x ∈ ms,0 ≤ x)→Q (.ref l) H'
theorem mh:aJ ["_law_cell", "_law_many", "_law_found", "_law_number", "_law_k"] ["_law_cell", "_law_many"] (ak yJ):=⟨rfl,rfl,rfl,by decide +kernel,rfl,by decide +kernel,by decide +kernel⟩
theorem Aa {f:Addr} {fd:FuncData} (F:dJ K "_law_stream" "_law_stream" yJ f fd) (T:Txt K w.params mg):aR P w K mg base bV 1 f fd ["_law_cell", "_law_many"] kJ:=by
 refine F.ok mh (fun vs H Q E h=>?_) (fun cdv A outer s H vs Q E hr h=>?_)
 ·obtain ⟨c,n,rfl,_⟩:=h
  rfl
 ·obtain ⟨c,n,rfl,hn,k⟩:=h
  refine dG (aD (aG (aV (i:=2) mh.nd rfl (Or.inl rfl) (cu ao)))
   (aD (aG (aV (i:=3) mh.nd rfl (Or.inl rfl) (aN bZ (pv 0) ai)))
   (gg (aG (og PassesOwn.never (dM (aF bQ (aN bq (pv 0) ai) ai (aO _)) (dM (aF qI (pv 3) ai (aO _)) (dD (aF iu (bf aZ (by rfl) T.len cV (ae (pv 2) ao)) (pv 1) (aO _))))).pt (aA (bJ (gn PySem.F.plainAttrs_list PySem.F.slot_list_append PySem.F.type_list_append cr (pv 2) (ae (aN bq (pv 3) (aN vO ai ai)) ao)))
   (aw (aV (i:=3) mh.nd rfl (Or.inl rfl) (aN bZ (pv 3) (aN vO ai ai)))))))
   (aD (aG (aV (i:=3) mh.nd rfl (Or.inl rfl) (aN bq (aN rP (aN dn (aN bZ (pv 0) ai) ai) ai) ai)))
   (aD (aG (gM PassesOwn.never rfl (lB rfl T.range (ae (pv 1) ao)) (cD (i:=4) mh.nd rfl (Or.inl rfl)) (aA (aV (i:=3) mh.nd rfl (Or.inl rfl) (aN bq (aN rP (pv 3) (aN dn (aN dn (aN bZ (pv 3) ai) ai) (pv 4))) ai))
   (aA (bJ (gn PySem.F.plainAttrs_list PySem.F.slot_list_append PySem.F.type_list_append cr (pv 2) (ae (aN bq (aN rP (pv 3) (aN dn (aN bZ (pv 3) ai) ai)) ai) ao)))
   (aw (aV (i:=3) mh.nd rfl (Or.inl rfl) (aN dn (pv 3) ai)))))))
   (aP (aG (aU (eV iK (pv 2) jk (eG (pv 1))))))))))) ?_
  refine ⟨le_of_ble_eq_true rfl,fun l nl=>?_⟩
  have s0:=aj (o:=.lst []) nl
  have h0:upd H l (.lst []) l=some (.lst (([]:List Int).map V.int)):=ah
  generalize upd H l (.lst [])=G0 at s0 h0 ⊢
  refine ⟨_,rfl,_,_,rfl,rfl,⟨by show (0:Int) < 2; decide,by show (2:Int) < _; decide⟩,?_⟩
  have cp:Jw 10 9:=⟨by decide,by decide,by decide⟩
  refine ⟨fun σ G=>∃ (x:Int) (ms:List Int),σ=[some (.int c),some (.int (n:Int)),some (.ref l),some (.int x),none]∧Same H G∧G l=some (.lst (ms.map V.int))∧(∀ y ∈ ms,0 ≤ y)∧ms.length ≤ n,?_,?_⟩
  ·refine ⟨fun mm σ G=>∃ (x:Int) (ms:List Int),σ=[some (.int c),some (.int (n:Int)),some (.ref l),some (.int x),none]∧Same H G∧G l=some (.lst (ms.map V.int))∧(∀ y ∈ ms,0 ≤ y)∧ms.length ≤ n∧mm=n - ms.length,⟨_,_,[],rfl,s0,h0,fun y hy=>(not_mem_nil hy).elim,zero_le _,rfl⟩,?_⟩
   rintro mm σ G ⟨x,ms,rfl,s1,h1,hp,hl,rfl⟩
   refine ⟨_,rfl,_,_,rfl,rfl,zY,rfl,_,rfl,?_⟩
   refine dk (fun _=>?_) (fun _=>aW (by decide) ⟨x,ms,rfl,s1,h1,hp,hl⟩)
   refine ⟨_,rfl,_,_,rfl,rfl,_,rfl,?_⟩
   refine dk (fun _=>?_) (fun _=>aW (by decide) ⟨x,ms,rfl,s1,h1,hp,hl⟩)
   refine ⟨_,rfl,l,_,rfl,.inl (bh.of h1),_,rfl,_,_,rfl,rfl,_,rfl,?_⟩
   refine dk (fun e=>?_) (fun _=>⟨x,ms,rfl,s1,h1,hp,hl⟩)
   have e:=of_decide_eq_true e
   rw [length_map] at e
   have hlt:ms.length < n:=by omega
   refine ⟨fun σ' G'=>∃ (x':Int) (Ep:List Int),σ'=[some (.int c),some (.int (n:Int)),some (.ref l),some (.int x'),none]∧Same H G'∧G' l=some (.lst (Ep.map V.int))∧(∀ y ∈ Ep,0 ≤ y)∧Ep.length=ms.length + 1,?_,?_⟩
   ·rintro σ' G' ⟨x',Ep,rfl,a1,a2,a3,a4⟩
    exact ⟨n - Ep.length,by omega,x',Ep,rfl,a1,a2,a3,by omega,rfl⟩
   refine ⟨_,rfl,.inl ⟨rfl,_,bh.of h1⟩,_,rfl,_,_,rfl,rfl,cp,_,_,rfl,rfl,(by show (0:Int) < 10 ^ (9:Int).toNat; decide),l,_,_,rfl,rfl,h1,dH (by rw [length_map]; omega),?_⟩
   refine ⟨_,rfl,_,_,rfl,rfl,cp,_,_,rfl,rfl,⟨by show (0:Int) < 10 ^ (9:Int).toNat; decide,by show (10:Int) ^ (9:Int).toNat < 18446744073709551616; decide⟩,?_⟩
   refine ⟨_,ms ++ [x % 10 ^ (9:Int).toNat],rfl,cL s1 nl,by rw [ah,map_append]; rfl,fun y hy=>?_,by rw [length_append]; rfl⟩
   rcases mem_append.mp hy with z | z
   ·exact hp y z
   ·rw [mem_singleton.mp z]
    exact Int.emod_nonneg _ (by decide)
  rintro σ G ⟨x,ms,rfl,s1,h1,hp,hl⟩
  refine ⟨_,rfl,_,_,rfl,rfl,⟨by show (0:Int) < 2; decide,by show (2:Int) < _; decide⟩,_,_,rfl,rfl,_,_,rfl,rfl,.inr ⟨by decide,by decide⟩,_,_,rfl,rfl,jM,?_⟩
  have hx0:0 ≤ (c / 2 + 7919) * 48271 % 2147483647∧(c / 2 + 7919) * 48271 % 2147483647 < 2147483647:=⟨Int.emod_nonneg _ (by decide),Int.emod_lt_of_pos _ (by decide)⟩
  refine ⟨_,rfl,_,rfl,by omega,by omega,?_⟩
  refine qH (lo:=0) (n:=((n:Nat):Int).toNat) (fun i σ G=>∃ (x:Int) (v:Option V) (ms:List Int),σ=[some (.int c),some (.int (n:Int)),some (.ref l),some (.int x),v]∧0 ≤ x∧x ≤ 2147483647∧Same H G∧G l=some (.lst (ms.map V.int))∧(∀ y ∈ ms,0 ≤ y)∧i ≤ ms.length∧ms.length ≤ n + i) ?_ ?_ ?_
  ·exact ⟨_,none,ms,rfl,hx0.1,Int.le_of_lt hx0.2,s1,h1,hp,zero_le _,by omega⟩
  ·rintro i σ G hi ⟨x,v,ms,rfl,b1,b2,s1,h1,hp,g1,g2⟩
   have e0:(0:Int) + (i:Int)=(i:Int):=by omega
   rw [e0]
   have hin:i < n:=by rw [Int.toNat_natCast] at hi; exact hi
   refine ⟨_,rfl,_,rfl,_,_,rfl,rfl,⟨by show (0:Int) < 1009; decide,by show (1009:Int) < _; decide⟩,_,_,rfl,rfl,_,rfl,_,_,rfl,rfl,_,_,rfl,rfl,.inl ⟨by omega,by omega⟩,_,_,rfl,rfl,jM,?_⟩
   have hy0:0 ≤ x * (x / 1009 + 69621 + (i:Int)) % 2147483647∧x * (x / 1009 + 69621 + (i:Int)) % 2147483647 < 2147483647:=⟨Int.emod_nonneg _ (by decide),Int.emod_lt_of_pos _ (by decide)⟩
   have hy1:x * (x / 1009 + 69621 + (i:Int)) % 2147483647 ≤ 2147483646:=by omega
   refine ⟨_,rfl,.inl ⟨rfl,_,bh.of h1⟩,_,rfl,_,rfl,_,_,rfl,rfl,⟨by show (0:Int) < 127; decide,by show (127:Int) < _; decide⟩,_,_,rfl,rfl,_,_,rfl,rfl,.inl ⟨by show -(2 ^ 64) < (x * (x / 1009 + 69621 + (i:Int)) % 2147483647); omega,by show (x * (x / 1009 + 69621 + (i:Int)) % 2147483647) < 2 ^ 64; omega⟩,_,_,rfl,rfl,qm,l,_,_,rfl,rfl,h1,dH (by rw [length_map]; omega),?_⟩
   have hz0:0 ≤ (x * (x / 1009 + 69621 + (i:Int)) % 2147483647) * ((x * (x / 1009 + 69621 + (i:Int)) % 2147483647) / 127 + 40009) % 2147483629:=Int.emod_nonneg _ (by decide)
   refine ⟨_,rfl,_,_,rfl,rfl,?_⟩
   refine ⟨(x * (x / 1009 + 69621 + (i:Int)) % 2147483647) + 1,_,ms ++ [(x * (x / 1009 + 69621 + (i:Int)) % 2147483647) * ((x * (x / 1009 + 69621 + (i:Int)) % 2147483647) / 127 + 40009) % 2147483629],rfl,by omega,by omega,cL s1 nl,by rw [ah,map_append]; rfl,fun y hy=>?_,by rw [length_append,List.length_singleton]; omega,by rw [length_append,List.length_singleton]; omega⟩
   rcases mem_append.mp hy with z | z
   ·exact hp y z
   ·rw [mem_singleton.mp z]
    exact hz0
  ·rintro σ G ⟨x,v,ms,rfl,b1,b2,s1,h1,hp,g1,g2⟩
   rw [Int.toNat_natCast] at g1
   refine ⟨_,rfl,_,rfl,(n:Int),rfl,l,_,rfl,bh.of h1,fun lc nc=>?_⟩
   have ec:gY (ms.map V.int) none (some (n:Int))=(ms.take n).map V.int:=by rw [oR,map_take]
   rw [ec]
   exact k lc (ms.take n) _ (s1.trans (aj nc)) (s1.free nc) ah (by rw [length_take]; omega) fun y hy=>hp y (List.mem_of_mem_take hy)
end
def wJ (u:Str):Prop:=u ∈ jN∧¬ u = "table" ∧ ¬ u ∈ eA∧¬ u ∈ zb
instance {u:Str}:Decidable (wJ u):=by unfold wJ; infer_instance
def je (n:Nat) (u:Str):Prop:=wJ u∧RP u=n
instance {n:Nat} {u:Str}:Decidable (je n u):=by unfold je; infer_instance
theorem sC {H:Hp} {q:Addr} {u:Str} {b c:Int} (hu:je 2 u) (h:H q=some (.tup [.str u,.int b,.int c])):gh H q ⟨u,[b,c],[]⟩ :=
 ⟨⟨hu.1.1,fun z=>absurd z hu.1.2.1,fun z=>absurd z hu.1.2.2.1,fun z=>absurd z hu.1.2.2.2,fun _ _ _=>⟨rfl,hu.2.symm⟩,fun _=>⟨b,c,rfl⟩,fun _=>⟨b,[c],rfl⟩⟩,.inr ⟨hu.1.2.1,h⟩⟩
theorem sD {H:Hp} {q:Addr} {u:Str} {b:Int} (hu:je 1 u∧¬ u ∈ w2) (h:H q=some (.tup [.str u,.int b])):gh H q ⟨u,[b],[]⟩ :=
 ⟨⟨hu.1.1.1,fun z=>absurd z hu.1.1.2.1,fun z=>absurd z hu.1.1.2.2.1,fun z=>absurd z hu.1.1.2.2.2,fun _ _ _=>⟨rfl,hu.1.2.symm⟩,fun z=>absurd z hu.2,fun _=>⟨b,[],rfl⟩⟩,.inr ⟨hu.1.1.2.1,h⟩⟩
theorem sE {H:Hp} {q:Addr} {u:Str} (hu:je 0 u∧¬ u ∈ w2∧¬ u ∈ w1) (h:H q=some (.tup [.str u])):gh H q ⟨u,[],[]⟩ :=
 ⟨⟨hu.1.1.1,fun z=>absurd z hu.1.1.2.1,fun z=>absurd z hu.1.1.2.2.1,fun z=>absurd z hu.1.1.2.2.2,fun _ _ _=>⟨rfl,hu.1.2.symm⟩,fun z=>absurd z hu.2.1,fun z=>absurd z hu.2.2⟩,.inr ⟨hu.1.1.2.1,h⟩⟩
theorem yK {H:Hp} {q:Addr} {u:Str} {t f:Int} (hu:u ∈ eA) (h:H q=some (.tup [.str u,.int t,.int f])):gh H q ⟨u,[t,f],[t]⟩:=by
 have hw:=(by decide:∀ u ∈ eA,u ∈ jN∧¬ u = "table" ∧ ¬ u ∈ zb∧¬ u ∈ w2∧¬ u ∈ w1) u hu
 exact ⟨⟨hw.1,fun z=>absurd z hw.2.1,fun _=>⟨t,f,rfl,rfl⟩,fun z=>absurd z hw.2.2.1,fun _ z=>absurd hu z,fun z=>absurd z hw.2.2.2.1,fun z=>absurd z hw.2.2.2.2⟩,.inr ⟨hw.2.1,h⟩⟩
theorem J2 {H:Hp} {q:Addr} {u:Str} {b t f:Int} (hu:u ∈ zb) (h:H q=some (.tup [.str u,.int b,.int t,.int f])):gh H q ⟨u,[b,t,f],[t]⟩:=by
 have hw:=(by decide:∀ u ∈ zb,u ∈ jN∧¬ u = "table" ∧ ¬ u ∈ eA∧¬ u ∈ w2) u hu
 exact ⟨⟨hw.1,fun z=>absurd z hw.2.1,fun z=>absurd z hw.2.2.1,fun _=>⟨b,t,f,rfl,rfl⟩,fun _ _ z=>absurd hu z,fun z=>absurd z hw.2.2.2,fun _=>⟨b,_,rfl⟩⟩,.inr ⟨hw.2.1,h⟩⟩
theorem Ab {H:Hp} {q p:Addr} {b:Int} {ts:List Int} (h:H q=some (.tup [.str "table",.int b,.ref p])) (hp:H p=some (.tup (ts.map V.int))) (hne:ts ≠ []):gh H q ⟨"table",[b],ts⟩ :=
 ⟨⟨(by decide:("table" : Str) ∈ jN),fun _=>⟨b,rfl,hne⟩,fun z=>absurd z (by decide:¬ ("table" : Str) ∈ eA),fun z=>absurd z (by decide:¬ ("table" : Str) ∈ zb),fun z=>absurd rfl z,fun z=>absurd z (by decide:¬ ("table" : Str) ∈ w2),fun _=>⟨b,[],rfl⟩⟩,.inl ⟨rfl,b,p,rfl,h,hp⟩⟩
def MR (d:FR):Prop:=d.u ∈ five→MQ d=0∨MQ d=1
def oS (k:Str):Int × Int:=if k = "box" then (0,7) else if k = "value" then (-1000000000,1000000000) else if k = "target" then (0,1000000000) else if k = "far" then (0,1) else (0,1000000)
def vJ (k:Str) (v:Int):Prop:=(oS k).1 ≤ v∧v ≤ (oS k).2
def iP (d:FR):Prop:=∀ x ∈ (gC d.u).zip d.is,vJ x.1 x.2
theorem sF {u:Str} {ts:List Int}:iP ⟨u,[],ts⟩:=fun x hx=>by
 have hx:x ∈ (gC u).zip ([]:List Int):=hx
 simp at hx
theorem sH {u k1:Str} {r:List Str} {b:Int} {ts:List Int} (h:gC u=k1 :: r) (hb:vJ k1 b):iP ⟨u,[b],ts⟩:=fun x hx=>by
 have hx:x ∈ (gC u).zip [b]:=hx
 rw [h] at hx
 rw [show x=(k1,b) by simpa using hx]
 exact hb
theorem oU {u k1 k2:Str} {b c:Int} {ts:List Int} (h:gC u=[k1,k2]) (hb:vJ k1 b) (hc:vJ k2 c):iP ⟨u,[b,c],ts⟩:=fun x hx=>by
 have hx:x ∈ (gC u).zip [b,c]:=hx
 rw [h] at hx
 rcases (show x=(k1,b)∨x=(k2,c) by simpa using hx) with rfl | rfl
 ·exact hb
 ·exact hc
theorem J3 {u k1 k2 k3:Str} {b c e:Int} {ts:List Int} (h:gC u=[k1,k2,k3]) (hb:vJ k1 b) (hc:vJ k2 c) (he:vJ k3 e):iP ⟨u,[b,c,e],ts⟩:=fun x hx=>by
 have hx:x ∈ (gC u).zip [b,c,e]:=hx
 rw [h] at hx
 rcases (show x=(k1,b)∨x=(k2,c)∨x=(k3,e) by simpa using hx) with rfl | rfl | rfl
 ·exact hb
 ·exact hc
 ·exact he
def GoodR (d:FR) (n:Int):Prop:=d.ts.length ≤ 16∧(∀ t ∈ d.ts,0 ≤ t∧t < n)∧MR d∧iP d
theorem kj:∀ u ∈ eA,gC u=(["target", "far"]:List Str):=by decide +kernel
theorem kz:∀ u ∈ zb,gC u=(["box", "target", "far"]:List Str):=by decide +kernel
theorem GoodR.plain {u:Str} {is:List Int} {n:Int} (h:¬ u ∈ five) (hp:iP ⟨u,is,[]⟩):GoodR ⟨u,is,[]⟩ n:=⟨zero_le _,fun t ht=>(not_mem_nil ht).elim,fun z=>absurd z h,hp⟩
theorem Ac (ws:List Str) (d:Int) (h0:0 ≤ d) (h1:d < ws.length):∃ u,u ∈ ws∧lX (ws.map V.str) d=some (.str u):=by
 obtain ⟨j,rfl⟩:=Int.eq_ofNat_of_zero_le h0
 have hl:j < ws.length:=by omega
 refine ⟨ws[j],List.getElem_mem hl,ck (j:=j) ?_⟩
 rw [List.getElem?_map,List.getElem?_eq_getElem hl]
 rfl
theorem vk (ws:List Int) (d:Int) (h0:0 ≤ d) (h1:d < ws.length):∃ u,u ∈ ws∧lX (ws.map V.int) d=some (.int u):=by
 obtain ⟨j,rfl⟩:=Int.eq_ofNat_of_zero_le h0
 have hl:j < ws.length:=by omega
 refine ⟨ws[j],List.getElem_mem hl,ck (j:=j) ?_⟩
 rw [List.getElem?_map,List.getElem?_eq_getElem hl]
 rfl
theorem jH (x:Int) {n:Int} (h:0 < n):0 ≤ x % n∧x % n < n:=⟨Int.emod_nonneg _ (by omega),Int.emod_lt_of_pos _ h⟩
theorem J4 (a b:V):eJ [] [((Sum.inr "tell" : Key),a),(Sum.inr "halt",b)]=([((Sum.inr "tell" : Key),a),(Sum.inr "halt",b)]:List (Key × V)):=rfl
theorem Ad (a b:V):cw [((Sum.inr "tell" : Key),a),(Sum.inr "halt",b)] (Sum.inr "tell")=some a:=rfl
theorem Ae (a b:V):cw [((Sum.inr "tell" : Key),a),(Sum.inr "halt",b)] (Sum.inr "halt")=some b:=rfl
theorem Af (a b:V):cw [((Sum.inr "tell" : Key),a),(Sum.inr "halt",b)] (Sum.inr "stop")=none:=rfl
theorem Ag (a b:V):cw [((Sum.inr "tell" : Key),a),(Sum.inr "halt",b)] (Sum.inr "back")=none:=rfl
def w20:List Str:=(["set", "more", "copy", "add", "less", "load", "keep", "tell", "see", "put", "take", "jump", "zero"]:List Str) ++ (["below", "call", "mark", "table", "stop", "back", "halt"]:List Str)
section
variable {P:Program} {w:World} {K:Frag} {mg:Str→Option Value} {base:Heap}
def Ic:Sp:=fun vs H Q _=>∃ (x n c:Int),vs=[.int x,.int n,.int c]∧0 < n∧n < 1000000∧0 < c∧c ≤ 16∧∀ (p:Addr) (ts:List Int) (H':Hp),Same H H'→H' p=some (.tup (ts.map V.int))→ts.length ≤ 16∧ts ≠ []→(∀ t ∈ ts,0 ≤ t∧t < n)→Q (.ref p) H'
theorem yL:aJ ["_law_x", "_law_many", "_law_count", "_law_found", "_law_k"] ["_law_x", "_law_many", "_law_count"] (ak Ia):=⟨rfl,rfl,rfl,by decide +kernel,rfl,by decide +kernel,by decide +kernel⟩
theorem J5 {f:Addr} {fd:FuncData} (F:dJ K "_law_targets" "_law_targets" Ia f fd) (T:Txt K w.params mg):aR P w K mg base bV 1 f fd ["_law_x", "_law_many", "_law_count"] Ic:=by
 refine F.ok yL (fun vs H Q E h=>?_) (fun cdv A outer s H vs Q E hr h=>?_)
 ·obtain ⟨x,n,c,rfl,_⟩:=h
  rfl
 ·obtain ⟨x,n,c,rfl,hn,hn2,hc,hc2,k⟩:=h
  refine dG (aD (aG (aV (i:=3) yL.nd rfl (Or.inl rfl) (cu ao)))
   (aD (aG (gM PassesOwn.never rfl (lB rfl T.range (ae (pv 2) ao)) (cD (i:=4) yL.nd rfl (Or.inl rfl)) (aA (bJ (gn PySem.F.plainAttrs_list PySem.F.slot_list_append PySem.F.type_list_append cr (pv 3) (ae (aN bq (pv 0) (pv 1)) ao)))
   (aw (aV (i:=0) yL.nd rfl (Or.inl rfl) (aN bZ (pv 0) (pv 1)))))))
   (aP (aG (aU (cI qg (by rfl) T.tuple kI (ae (pv 3) ao))))))) ?_
  refine ⟨le_of_ble_eq_true rfl,fun l nl=>?_⟩
  have s0:=aj (o:=.lst []) nl
  have h0:upd H l (.lst []) l=some (.lst (([]:List Int).map V.int)):=ah
  generalize upd H l (.lst [])=G0 at s0 h0 ⊢
  refine ⟨_,rfl,_,rfl,by omega,by omega,?_⟩
  refine qH (lo:=0) (n:=c.toNat) (fun i σ G=>∃ (x:Int) (v:Option V) (ts:List Int),σ=[some (.int x),some (.int n),some (.int c),some (.ref l),v]∧Same H G∧G l=some (.lst (ts.map V.int))∧(∀ t ∈ ts,0 ≤ t∧t < n)∧ts.length=i) ?_ ?_ ?_
  ·exact ⟨x,none,[],rfl,s0,h0,fun t ht=>(not_mem_nil ht).elim,rfl⟩
  ·rintro i σ G hi ⟨x,v,ts,rfl,s1,h1,hp,hl⟩
   refine ⟨_,rfl,.inl ⟨rfl,_,bh.of h1⟩,_,rfl,_,rfl,_,_,rfl,rfl,hn,l,_,_,rfl,rfl,h1,dH (by rw [length_map]; omega),?_⟩
   refine ⟨_,rfl,_,rfl,_,_,rfl,rfl,⟨hn,by omega⟩,?_⟩
   refine ⟨_,_,ts ++ [x % n],rfl,cL s1 nl,by rw [ah,map_append]; rfl,fun t ht=>?_,by rw [length_append,hl]; rfl⟩
   rcases mem_append.mp ht with z | z
   ·exact hp t z
   ·rw [mem_singleton.mp z]
    exact jH x hn
  ·rintro σ G ⟨x,v,ts,rfl,s1,h1,hp,hl⟩
   refine ⟨_,rfl,l,_,rfl,.inl ⟨bh.of h1,fun t nt=>?_⟩⟩
   exact k t ts _ (s1.trans (aj nt)) ah ⟨by omega,by rintro rfl; simp at hl; omega⟩ hp
def Ie:Sp:=fun vs H Q _=>∃ (x n:Int),vs=[.int x,.int n]∧0 < n∧n < 1000000∧∀ (p:Addr) (d:FR) (H':Hp),Same H H'→gh H' p d→GoodR d n→Q (.ref p) H'
theorem qX:aJ ["_law_x", "_law_many", "_law_words", "_law_word", "_law_box", "_law_target"] ["_law_x", "_law_many"] (ak MP):=⟨rfl,rfl,rfl,by decide +kernel,rfl,by decide +kernel,by decide +kernel⟩
theorem J6 {f fT:Addr} {fd CG:FuncData} (F:dJ K "_law_row" "_law_row" MP f fd) (T:Txt K w.params mg) (GT:aR P w K mg base bV 1 fT CG ["_law_x", "_law_many", "_law_count"] Ic) (kT:KI K fT) (bT:Binds K CG ["_law_x", "_law_many", "_law_count"] []) (mT:mg "_law_targets" = some (.ref fT)):aR P w K mg base bV 2 f fd ["_law_x", "_law_many"] Ie:=by
 refine F.ok qX (fun vs H Q E h=>?_) (fun cdv A outer s H vs Q E hr h=>?_)
 ·obtain ⟨x,n,rfl,_⟩:=h
  rfl
 ·obtain ⟨x,n,rfl,hn,hn2,k⟩:=h
  have hu:=hr.u 1
  refine dG (aD (vj (yI (i:=2) qX.nd rfl (Or.inl rfl) (Fu (.cons aq (.cons aq (.cons aq (.cons aq (.cons aq (.cons aq (.cons aq (.cons aq (.cons aq (.cons aq (.cons aq (.cons aq (.cons aq .nil))))))))))))))))
   (aD (aG (aV (i:=3) qX.nd rfl (Or.inl rfl) (au aK (aN wa (pv 2) (Ft (.cons aq (.cons aq (.cons aq (.cons aq (.cons aq (.cons aq (.cons aq .nil))))))))) (aN bq (pv 0) ai) (fun _ _=>rfl))))
   (aD (aG (aV (i:=4) qX.nd rfl (Or.inl rfl) (aN bq (aN bZ (pv 0) ai) ai)))
   (aD (aG (aV (i:=0) qX.nd rfl (Or.inl rfl) (aN bZ (pv 0) ai)))
   (aD (aG (aV (i:=5) qX.nd rfl (Or.inl rfl) (aN bq (pv 0) (pv 1))))
   (aD (cF (aF cX (pv 3) (aX (ae aq (ae aq ao))) rfl) (aP (aG (aU (aX (ae (pv 3) (ae (pv 4) (ae (aN rP (aN ib (aN bq (pv 0) ai) ai) (au aK (cu (ae ai (ae ai (ae (aN vO ai ai) ao)))) (aN bq (aN bZ (pv 0) ai) ai) (fun _ _=>rfl))) ao))))))) (bz aM))
   (aD (cF (aF cX (pv 3) (aX (ae aq (ae aq (ae aq (ae aq (ae aq ao)))))) rfl) (aP (aG (aU (aX (ae (pv 3) (ae (pv 4) (ae (aN bq (pv 0) ai) ao))))))) (bz aM))
   (aD (cF (aF cX (pv 3) (aX (ae aq (ae aq (ae aq ao)))) rfl) (aP (aG (aU (aX (ae (pv 3) (ae (pv 4) (ae (au aK (cu (ae (aN bq (pv 0) ai) (ae (aN bq (pv 0) ai) ao))) (aN bq (aN bZ (pv 0) ai) ai) (fun _ _=>rfl)) ao))))))) (bz aM))
   (aD (cF (aF cX (pv 3) (aX (ae aq (ae aq (ae aq ao)))) rfl) (aP (aG (aU (aX (ae (pv 3) (ae (pv 5) (ae (aN bq (aN bZ (pv 0) (pv 1)) ai) ao))))))) (bz aM))
   (aD (cF (aF cX (pv 3) (aX (ae aq (ae aq ao))) rfl) (aP (aG (aU (aX (ae (pv 3) (ae (pv 4) (ae (pv 5) (ae (aN bq (aN bZ (pv 0) (pv 1)) ai) ao)))))))) (bz aM))
   (aD (cF (aF bQ (pv 3) aq (aO _)) (aP (aG (aU (aX (ae (pv 3) (ae (pv 4) (ae (aQ GT hr (by rfl) mT kT bT .nil bp (ae (aN bZ (pv 0) ai) (ae (pv 1) (ae (aN dn ai (aN bq (pv 0) ai)) ao)))) ao))))))) (bz aM))
   (aP (aG (aU (ja hu (nJ (di aq (aX (ae (pv 3) (ae (pv 4) ao))) (di aq (aX (ae (pv 3) (ae (aN bq (pv 0) ai) ao))) nI)) rfl rfl (cons_ne_nil _ _) (le_of_ble_eq_true rfl)) (pv 3) (aX (ae (pv 3) ao)) ⟨rfl,rfl,rfl,rfl⟩))))))))))))))) ?_
  refine ⟨ME,fun lw nw=>?_⟩
  have s1:=aj (o:=.lst [V.str "set",V.str "more",V.str "copy",V.str "add",V.str "less",V.str "load",V.str "keep",V.str "tell",V.str "see",V.str "put",V.str "take",V.str "jump",V.str "zero"]) nw
  have h1:upd H lw (.lst [V.str "set",V.str "more",V.str "copy",V.str "add",V.str "less",V.str "load",V.str "keep",V.str "tell",V.str "see",V.str "put",V.str "take",V.str "jump",V.str "zero"]) lw=some (.lst ((["set", "more", "copy", "add", "less", "load", "keep", "tell", "see", "put", "take", "jump", "zero"]:List Str).map V.str)):=ah
  generalize upd H lw (.lst [V.str "set",V.str "more",V.str "copy",V.str "add",V.str "less",V.str "load",V.str "keep",V.str "tell",V.str "see",V.str "put",V.str "take",V.str "jump",V.str "zero"])=G1 at s1 h1 ⊢
  refine ⟨_,rfl,RL,fun l7 n7=>?_⟩
  have s2:=s1.trans (aj (o:=.lst [V.str "below",V.str "call",V.str "mark",V.str "table",V.str "stop",V.str "back",V.str "halt"]) n7)
  have h12:=aj (o:=.lst [V.str "below",V.str "call",V.str "mark",V.str "table",V.str "stop",V.str "back",V.str "halt"]) n7 _ _ h1
  have h2:upd G1 l7 (.lst [V.str "below",V.str "call",V.str "mark",V.str "table",V.str "stop",V.str "back",V.str "halt"]) l7=some (.lst ((["below", "call", "mark", "table", "stop", "back", "halt"]:List Str).map V.str)):=ah
  generalize upd G1 l7 (.lst [V.str "below",V.str "call",V.str "mark",V.str "table",V.str "stop",V.str "back",V.str "halt"])=G2 at s2 h12 h2 ⊢
  refine ⟨lw,l7,_,_,rfl,rfl,h12,h2,MF,fun lx nx=>?_⟩
  have s3:=s2.trans (aj (o:=.lst ((["set", "more", "copy", "add", "less", "load", "keep", "tell", "see", "put", "take", "jump", "zero"]:List Str).map V.str ++ (["below", "call", "mark", "table", "stop", "back", "halt"]:List Str).map V.str)) nx)
  have h3:upd G2 lx (.lst ((["set", "more", "copy", "add", "less", "load", "keep", "tell", "see", "put", "take", "jump", "zero"]:List Str).map V.str ++ (["below", "call", "mark", "table", "stop", "back", "halt"]:List Str).map V.str)) lx=some (.lst (w20.map V.str)):=by rw [ah]; unfold w20; rw [map_append]
  generalize upd G2 lx (.lst ((["set", "more", "copy", "add", "less", "load", "keep", "tell", "see", "put", "take", "jump", "zero"]:List Str).map V.str ++ (["below", "call", "mark", "table", "stop", "back", "halt"]:List Str).map V.str))=G3 at s3 h3 ⊢
  obtain ⟨u,MS,hat⟩:=Ac w20 (x % 20) (jH x (by decide)).1 (jH x (by decide)).2
  refine ⟨_,rfl,_,_,rfl,rfl,MN,lx,_,_,_,rfl,rfl,bh.of h3,hat,?_⟩
  have hall:u ∈ jN:=(by decide +kernel:∀ u ∈ w20,u ∈ jN) u MS
  refine ⟨_,rfl,_,_,rfl,rfl,⟨by show (0:Int) < 20; decide,by show (20:Int) < _; decide⟩,_,_,rfl,rfl,zZ,?_⟩
  refine ⟨_,rfl,_,_,rfl,rfl,⟨by show (0:Int) < 160; decide,by show (160:Int) < _; decide⟩,?_⟩
  refine ⟨_,rfl,_,rfl,_,_,rfl,rfl,hn,?_⟩
  have ht:=jH (x / 160) hn
  have hp1:Jw 10 8:=⟨by decide,by decide,by decide⟩
  have m8:=jH (x / 20) (show (0:Int) < 8 by decide)
  have m88:=jH (x / 160) (show (0:Int) < 8 by decide)
  have hbx:vJ "box" (x / 20 % 8):=⟨m8.1,show x / 20 % 8 ≤ 7 by omega⟩
  refine ⟨_,rfl,cT,fun t3 Bj=>⟨t3,(["set", "more"]:List Str).map V.str,rfl,.inr (aS.of ah),rfl,rfl,_,rfl,?_⟩⟩
  have s4:=s3.trans (aj (o:=.tup [V.str "set",V.str "more"]) Bj)
  rw [show inV (.str u) ((["set", "more"]:List Str).map V.str)=decide (u ∈ (["set", "more"]:List Str)) from d8 _ _]
  generalize upd G3 t3 (.tup [V.str "set",V.str "more"])=G4 at s4 ⊢
  refine dk (fun e3=>?_) (fun e3=>?_)
  ·have hw:=(by decide +kernel:∀ u ∈ (["set", "more"]:List Str),je 2 u∧¬ u ∈ five) u (of_decide_eq_true e3)
   obtain ⟨v,RR,hv⟩:=vk [1,1,10 ^ (8:Int).toNat] ((x / 160) / 19 % 3) (jH _ (by decide)).1 (jH _ (by decide)).2
   have h19:=jH (x / 160) (show (0:Int) < 19 by decide)
   refine ⟨_,rfl,_,rfl,_,rfl,_,_,rfl,rfl,MK,_,_,rfl,rfl,_,_,rfl,rfl,hp1,jX,fun l3 n3=>⟨_,rfl,_,_,rfl,rfl,⟨by show (0:Int) < 19; decide,by show (19:Int) < _; decide⟩,_,_,rfl,rfl,Fl,l3,_,_,.int v,rfl,rfl,bh.of (show _=some (.lst (([1,1,10 ^ (8:Int).toNat]:List Int).map V.int)) from ah),hv,_,_,rfl,rfl,.inl ⟨by show -(2 ^ 64) < (x / 160) % 19 - 9; omega,by show (x / 160) % 19 - 9 < 2 ^ 64; omega⟩,jX,fun q nq=>?_⟩⟩
   have RS:vJ "value" ((x / 160 % 19 - 9) * v):=by
    rcases (show v=1∨v=100000000 by simpa using RR) with rfl | rfl
    ·exact ⟨show -1000000000 ≤ _ by omega,show _ ≤ 1000000000 by omega⟩
    ·exact ⟨show -1000000000 ≤ _ by omega,show _ ≤ 1000000000 by omega⟩
   exact k q ⟨u,[_,_],[]⟩ _ ((s4.trans (aj n3)).trans (aj nq)) (sC hw.1 ah) (GoodR.plain hw.2 (oU ((by decide +kernel:∀ u ∈ (["set", "more"]:List Str),gC u=(["box", "value"]:List Str)) u (of_decide_eq_true e3)) hbx RS))
  refine ⟨_,rfl,RK,fun t4 nt4=>⟨t4,(["copy", "add", "less", "load", "keep"]:List Str).map V.str,rfl,.inr (aS.of ah),rfl,rfl,_,rfl,?_⟩⟩
  have s5:=s4.trans (aj (o:=.tup [V.str "copy",V.str "add",V.str "less",V.str "load",V.str "keep"]) nt4)
  rw [show inV (.str u) ((["copy", "add", "less", "load", "keep"]:List Str).map V.str)=decide (u ∈ (["copy", "add", "less", "load", "keep"]:List Str)) from d8 _ _]
  generalize upd G4 t4 (.tup [V.str "copy",V.str "add",V.str "less",V.str "load",V.str "keep"])=G5 at s5 ⊢
  refine dk (fun e4=>?_) (fun e4=>?_)
  ·have hw:=(by decide +kernel:∀ u ∈ (["copy", "add", "less", "load", "keep"]:List Str),je 2 u∧¬ u ∈ five) u (of_decide_eq_true e4)
   refine ⟨_,rfl,_,rfl,_,rfl,_,_,rfl,rfl,zZ,jX,fun q nq=>?_⟩
   exact k q ⟨u,[_,_],[]⟩ _ (s5.trans (aj nq)) (sC hw.1 ah) (GoodR.plain hw.2 (oU ((by decide +kernel:∀ u ∈ (["copy", "add", "less", "load", "keep"]:List Str),gC u=(["box", "box"]:List Str)) u (of_decide_eq_true e4)) hbx ⟨m88.1,show x / 160 % 8 ≤ 7 by omega⟩))
  refine ⟨_,rfl,jX,fun t5 nt5=>⟨t5,(["see", "put", "take"]:List Str).map V.str,rfl,.inr (aS.of ah),rfl,rfl,_,rfl,?_⟩⟩
  have s6:=s5.trans (aj (o:=.tup [V.str "see",V.str "put",V.str "take"]) nt5)
  rw [show inV (.str u) ((["see", "put", "take"]:List Str).map V.str)=decide (u ∈ (["see", "put", "take"]:List Str)) from d8 _ _]
  generalize upd G5 t5 (.tup [V.str "see",V.str "put",V.str "take"])=G6 at s6 ⊢
  refine dk (fun e5=>?_) (fun e5=>?_)
  ·have hw:=(by decide +kernel:∀ u ∈ (["see", "put", "take"]:List Str),je 2 u∧¬ u ∈ five) u (of_decide_eq_true e5)
   obtain ⟨v,RR,hv⟩:=vk [(x / 160) % 4,(x / 160) % 1000001] ((x / 160) / 4 % 2) (jH _ (by decide)).1 (jH _ (by decide)).2
   refine ⟨_,rfl,_,rfl,_,rfl,_,_,rfl,rfl,vh,_,rfl,_,_,rfl,rfl,oO,cT,fun l3 n3=>⟨_,rfl,_,_,rfl,rfl,⟨by show (0:Int) < 4; decide,by show (4:Int) < _; decide⟩,_,_,rfl,rfl,zY,l3,_,_,.int v,rfl,rfl,bh.of (show _=some (.lst (([(x / 160) % 4,(x / 160) % 1000001]:List Int).map V.int)) from ah),hv,jX,fun q nq=>?_⟩⟩
   obtain ⟨k2,ek,hk2⟩:=(by decide +kernel:∀ u ∈ (["see", "put", "take"]:List Str),∃ k ∈ (["number", "aside"]:List Str),gC u=(["box",k]:List Str)) u (of_decide_eq_true e5)
   have RS:vJ k2 v:=by
    have hv2:0 ≤ v∧v ≤ 1000000:=by
     have a1:=jH (x / 160) (show (0:Int) < 4 by decide)
     have a2:=jH (x / 160) (show (0:Int) < 1000001 by decide)
     rcases (show v=x / 160 % 4∨v=x / 160 % 1000001 by simpa using RR) with rfl | rfl
     ·omega
     ·omega
    rcases (show k2 = "number" ∨ k2 = "aside" by simpa using ek) with rfl | rfl
    ·exact hv2
    ·exact hv2
   exact k q ⟨u,[_,_],[]⟩ _ ((s6.trans (aj n3)).trans (aj nq)) (sC hw.1 ah) (GoodR.plain hw.2 (oU hk2 hbx RS))
  have h2:(x / 160) / n % 2=0∨(x / 160) / n % 2=1:=by omega
  refine ⟨_,rfl,jX,fun t6 nt6=>⟨t6,(["jump", "call", "mark"]:List Str).map V.str,rfl,.inr (aS.of ah),rfl,rfl,_,rfl,?_⟩⟩
  have s7:=s6.trans (aj (o:=.tup [V.str "jump",V.str "call",V.str "mark"]) nt6)
  rw [show inV (.str u) ((["jump", "call", "mark"]:List Str).map V.str)=decide (u ∈ (["jump", "call", "mark"]:List Str)) from d8 _ _]
  generalize upd G6 t6 (.tup [V.str "jump",V.str "call",V.str "mark"])=G7 at s7 ⊢
  refine dk (fun e6=>?_) (fun e6=>?_)
  ·refine ⟨_,rfl,_,rfl,_,rfl,_,rfl,_,_,rfl,rfl,⟨hn,by omega⟩,_,_,rfl,rfl,zY,jX,fun q nq=>?_⟩
   exact k q ⟨u,[_,_],[_]⟩ _ (s7.trans (aj nq)) (yK (of_decide_eq_true e6) ah) ⟨(by show 1 ≤ 16; decide),(fun t ht'=>by rw [mem_singleton.mp ht']; exact ht),fun _=>h2,oU (kj u (of_decide_eq_true e6)) ⟨ht.1,show _ ≤ 1000000000 by omega⟩ ⟨show 0 ≤ _ by omega,show _ ≤ 1 by omega⟩⟩
  refine ⟨_,rfl,cT,fun t7 nt7=>⟨t7,(["zero", "below"]:List Str).map V.str,rfl,.inr (aS.of ah),rfl,rfl,_,rfl,?_⟩⟩
  have s8:=s7.trans (aj (o:=.tup [V.str "zero",V.str "below"]) nt7)
  rw [show inV (.str u) ((["zero", "below"]:List Str).map V.str)=decide (u ∈ (["zero", "below"]:List Str)) from d8 _ _]
  generalize upd G7 t7 (.tup [V.str "zero",V.str "below"])=G8 at s8 ⊢
  refine dk (fun e7=>?_) (fun e7=>?_)
  ·refine ⟨_,rfl,_,rfl,_,rfl,_,rfl,_,rfl,_,_,rfl,rfl,⟨hn,by omega⟩,_,_,rfl,rfl,zY,CA,fun q nq=>?_⟩
   exact k q ⟨u,[_,_,_],[_]⟩ _ (s8.trans (aj nq)) (J2 (of_decide_eq_true e7) ah) ⟨(by show 1 ≤ 16; decide),(fun t ht'=>by rw [mem_singleton.mp ht']; exact ht),fun _=>h2,J3 (kz u (of_decide_eq_true e7)) hbx ⟨ht.1,show _ ≤ 1000000000 by omega⟩ ⟨show 0 ≤ _ by omega,show _ ≤ 1 by omega⟩⟩
  refine ⟨_,rfl,rfl,_,rfl,?_⟩
  refine dk (fun e8=>?_) (fun e8=>?_)
  ·have e8:=strEq e8
   have h4:=jH (x / 160) (show (0:Int) < 4 by decide)
   refine ⟨_,rfl,_,rfl,_,rfl,_,_,rfl,rfl,⟨by show (0:Int) < 4; decide,by show (4:Int) < _; decide⟩,_,rfl,_,rfl,_,_,rfl,rfl,vh,_,_,rfl,rfl,_,n,_,rfl,hn,hn2,(by show (0:Int) < 1 + (x / 160) % 4; omega),(by show 1 + (x / 160) % 4 ≤ 16; omega),fun p ts G9 s9 hp hl hts=>⟨jX,fun q nq=>?_⟩⟩
   subst e8
   exact k q ⟨"table",[_],ts⟩ _ ((s8.trans s9).trans (aj nq)) (Ab ah (aj nq _ _ hp) hl.2) ⟨hl.1,hts,fun z=>absurd z (by show ¬ ("table" : Str) ∈ five; decide),sH (k1 := "box") (r:=["targets"]) rfl hbx⟩
  ·have e8:=HW e8
   refine fun p0 np0=>?_
   have s9:=s8.trans (aj (o:=.dK []) np0)
   have hp9:upd G8 p0 (.dK []) p0=_:=ah
   generalize upd G8 p0 (.dK [])=G9 at s9 hp9 ⊢
   refine ⟨_,rfl,_,rfl,cT,fun t1 MU=>?_⟩
   have a1:=s9.trans (aj (o:=.tup [V.str u,V.int (x / 20 % 8)]) MU)
   have b1:=aj (o:=.tup [V.str u,V.int (x / 20 % 8)]) MU _ _ hp9
   have c1:upd G9 t1 (.tup [V.str u,V.int (x / 20 % 8)]) t1=_:=ah
   generalize upd G9 t1 (.tup [V.str u,V.int (x / 20 % 8)])=X1 at a1 b1 c1 ⊢
   refine ⟨_,rfl,_,rfl,_,_,rfl,rfl,oO,cT,fun t2 Es=>?_⟩
   have a2:=a1.trans (aj (o:=.tup [V.str u,V.int (x / 160 % 1000001)]) Es)
   have b2:=aj (o:=.tup [V.str u,V.int (x / 160 % 1000001)]) Es _ _ b1
   have c12:=aj (o:=.tup [V.str u,V.int (x / 160 % 1000001)]) Es _ _ c1
   have c2:upd X1 t2 (.tup [V.str u,V.int (x / 160 % 1000001)]) t2=_:=ah
   refine ⟨b2,[(Sum.inr "tell",.ref t1),(Sum.inr "halt",.ref t2)],rfl,(by show 2 ≤ 15; decide),?_⟩
   refine ⟨p0,rfl,.inl ⟨_,.inl ah⟩,_,rfl,_,rfl,oN,fun t3 Bj=>?_⟩
   rw [J4] at Bj ⊢
   have hp8:G8 p0=none:=np0
   have a3:Same H (upd (upd X1 t2 (.tup [V.str u,V.int (x / 160 % 1000001)])) p0 (.dK [(Sum.inr "tell",.ref t1),(Sum.inr "halt",.ref t2)])):=cL a2 (s8.free np0)
   refine ⟨_,iL.k (k:=Sum.inr u) (aj Bj _ _ ah),?_⟩
   have RT:t1 ≠ p0:=fun z=>by rw [z] at c1; rw [b1] at c1; cases c1
   have Fb:t2 ≠ p0:=fun z=>by rw [z] at Es; rw [b1] at Es; cases Es
   have r1:upd (upd X1 t2 (.tup [V.str u,V.int (x / 160 % 1000001)])) p0 (.dK [(Sum.inr "tell",.ref t1),(Sum.inr "halt",.ref t2)]) t1=some (.tup [V.str u,V.int (x / 20 % 8)]):=by rw [aL RT]; exact c12
   have r2:upd (upd X1 t2 (.tup [V.str u,V.int (x / 160 % 1000001)])) p0 (.dK [(Sum.inr "tell",.ref t1),(Sum.inr "halt",.ref t2)]) t2=some (.tup [V.str u,V.int (x / 160 % 1000001)]):=by rw [aL Fb]; exact c2
   have a4:=a3.trans (aj (o:=.tup [V.str u]) Bj)
   have hcase:=(by decide +kernel:∀ u ∈ w20,¬ u ∈ (["set", "more"]:List Str)→¬ u ∈ (["copy", "add", "less", "load", "keep"]:List Str)→¬ u ∈ (["see", "put", "take"]:List Str)→¬ u ∈ (["jump", "call", "mark"]:List Str)→¬ u ∈ (["zero", "below"]:List Str)→¬ u = "table" → u = "tell" ∨ u = "halt" ∨ u = "stop" ∨ u = "back") u MS (fun z=>e3 (decide_eq_true z)) (fun z=>e4 (decide_eq_true z)) (fun z=>e5 (decide_eq_true z)) (fun z=>e6 (decide_eq_true z)) (fun z=>e7 (decide_eq_true z)) e8
   rcases hcase with rfl | rfl | rfl | rfl
   ·rw [Ad]
    exact k t1 ⟨"tell",[_],[]⟩ _ a4 (sD (by decide) (aj Bj _ _ r1)) (GoodR.plain (by decide) (sH (k1 := "box") (r:=[]) rfl hbx))
   ·rw [Ae]
    exact k t2 ⟨"halt",[_],[]⟩ _ a4 (sD (by decide) (aj Bj _ _ r2)) (GoodR.plain (by decide) (sH (k1 := "number") (r:=[]) rfl ⟨(jH (x / 160) (show (0:Int) < 1000001 by decide)).1,show x / 160 % 1000001 ≤ 1000000 by omega⟩))
   ·rw [Af]
    exact k t3 ⟨"stop",[],[]⟩ _ a4 (sE (by decide) ah) (GoodR.plain (by decide) sF)
   ·rw [Ag]
    exact k t3 ⟨"back",[],[]⟩ _ a4 (sE (by decide) ah) (GoodR.plain (by decide) sF)
end
section
variable {P:Program} {w:World} {K:Frag} {mg:Str→Option Value} {base:Heap}
def CH:Sp:=fun vs H Q _=>∃ (p:Addr) (x n:Int) (d:FR),vs=[.ref p,.int x]∧gh H p d∧GoodR d n∧0 < n∧∀ (p:Addr) (d:FR) (H':Hp),Same H H'→gh H' p d→GoodR d n→d.u ∈ cS→Q (.ref p) H'
theorem J7:aJ ["_law_row_here", "_law_x"] ["_law_row_here", "_law_x"] (ak Ib):=⟨rfl,rfl,rfl,by decide +kernel,rfl,by decide +kernel,by decide +kernel⟩
theorem Fw {f:Addr} {fd:FuncData} (F:dJ K "_law_last" "_law_last" Ib f fd) (T:Txt K w.params mg):aR P w K mg base bV 1 f fd ["_law_row_here", "_law_x"] CH:=by
 refine F.ok J7 (fun vs H Q E h=>?_) (fun cdv A outer s H vs Q E hr h=>?_)
 ·obtain ⟨p,x,n,d,rfl,_⟩:=h
  rfl
 ·obtain ⟨p,x,n,d,rfl,hR,hg,hn,k⟩:=h
  obtain ⟨items,i1,_,_,_⟩:=hR.parts
  refine dG (aD (cF (aF cX (au az (pv 0) ai (fun _ _=>rfl)) (aX (ae aq (ae aq (ae aq (ae aq ao))))) rfl) (aP (aG (aU (pv 0)))) (bz aM))
   (aP (aG (aU (au aK (cu (ae (aX (ae aq ao)) (ae (aX (ae aq ao)) (ae (aX (ae aq (ae (aN bq (pv 1) ai) ao))) (ae (aX (ae aq (ae ai (ae (aN bq (aN bZ (pv 1) ai) ai) ao)))) ao))))) (aN bq (aN bZ (pv 1) ai) ai) (fun _ _=>rfl)))))) ?_
  refine ⟨_,rfl,p,_,0,_,rfl,rfl,aS.of i1,at0 _ _,CA,fun t nt=>⟨t,(["stop", "back", "halt", "jump"]:List Str).map V.str,rfl,.inr (aS.of ah),rfl,rfl,_,rfl,?_⟩⟩
  have s0:=aj (o:=.tup [V.str "stop",V.str "back",V.str "halt",V.str "jump"]) nt
  rw [show inV (.str d.u) ((["stop", "back", "halt", "jump"]:List Str).map V.str)=decide (d.u ∈ (["stop", "back", "halt", "jump"]:List Str)) from d8 _ _]
  generalize upd H t (.tup [V.str "stop",V.str "back",V.str "halt",V.str "jump"])=G0 at s0 ⊢
  refine dk (fun e=>?_) (fun e=>?_)
  ·exact ⟨_,rfl,k p d _ s0 (hR.same s0) hg (of_decide_eq_true e)⟩
  ·have h2:x / 9 % 2=0∨x / 9 % 2=1:=by omega
   refine ⟨oN,fun t0 nt0=>?_⟩
   have s1:=s0.trans (aj (o:=.tup [V.str "stop"]) nt0)
   have h01:upd G0 t0 (.tup [V.str "stop"]) t0=_:=ah
   generalize upd G0 t0 (.tup [V.str "stop"])=G1 at s1 h01 ⊢
   refine ⟨oN,fun t1 MU=>?_⟩
   have s2:=s1.trans (aj (o:=.tup [V.str "back"]) MU)
   have h12:upd G1 t1 (.tup [V.str "back"]) t1=_:=ah
   have h02:=aj (o:=.tup [V.str "back"]) MU _ _ h01
   generalize upd G1 t1 (.tup [V.str "back"])=G2 at s2 h02 h12 ⊢
   refine ⟨_,rfl,_,_,rfl,rfl,JX,cT,fun t2 Es=>?_⟩
   have s3:=s2.trans (aj (o:=.tup [V.str "halt",V.int (x % 9)]) Es)
   have h23:upd G2 t2 (.tup [V.str "halt",V.int (x % 9)]) t2=_:=ah
   have h03:=aj (o:=.tup [V.str "halt",V.int (x % 9)]) Es _ _ h02
   have h13:=aj (o:=.tup [V.str "halt",V.int (x % 9)]) Es _ _ h12
   generalize upd G2 t2 (.tup [V.str "halt",V.int (x % 9)])=G3 at s3 h03 h13 h23 ⊢
   refine ⟨_,rfl,_,_,rfl,rfl,⟨by show (0:Int) < 9; decide,by show (9:Int) < _; decide⟩,_,_,rfl,rfl,zY,jX,fun t3 Bj=>?_⟩
   have s4:=s3.trans (aj (o:=.tup [V.str "jump",V.int 0,V.int (x / 9 % 2)]) Bj)
   have h34:upd G3 t3 (.tup [V.str "jump",V.int 0,V.int (x / 9 % 2)]) t3=_:=ah
   have h04:=aj (o:=.tup [V.str "jump",V.int 0,V.int (x / 9 % 2)]) Bj _ _ h03
   have h14:=aj (o:=.tup [V.str "jump",V.int 0,V.int (x / 9 % 2)]) Bj _ _ h13
   have h24:=aj (o:=.tup [V.str "jump",V.int 0,V.int (x / 9 % 2)]) Bj _ _ h23
   generalize upd G3 t3 (.tup [V.str "jump",V.int 0,V.int (x / 9 % 2)])=G4 at s4 h04 h14 h24 h34 ⊢
   refine ⟨CA,fun l nl=>?_⟩
   have s5:=s4.trans (aj (o:=.lst [.ref t0,.ref t1,.ref t2,.ref t3]) nl)
   have h6:upd G4 l (.lst [.ref t0,.ref t1,.ref t2,.ref t3]) l=_:=ah
   have h05:=aj (o:=.lst [.ref t0,.ref t1,.ref t2,.ref t3]) nl _ _ h04
   have h15:=aj (o:=.lst [.ref t0,.ref t1,.ref t2,.ref t3]) nl _ _ h14
   have h25:=aj (o:=.lst [.ref t0,.ref t1,.ref t2,.ref t3]) nl _ _ h24
   have h35:=aj (o:=.lst [.ref t0,.ref t1,.ref t2,.ref t3]) nl _ _ h34
   generalize upd G4 l (.lst [.ref t0,.ref t1,.ref t2,.ref t3])=G5 at s5 h6 h05 h15 h25 h35 ⊢
   refine ⟨_,rfl,_,_,rfl,rfl,⟨by show (0:Int) < 20; decide,by show (20:Int) < _; decide⟩,_,_,rfl,rfl,vh,?_⟩
   have hc:x / 20 % 4=0∨x / 20 % 4=1∨x / 20 % 4=2∨x / 20 % 4=3:=by omega
   rcases hc with hc | hc | hc | hc
   ·exact ⟨l,_,0,_,rfl,congrArg V.int hc,bh.of h6,rfl,k t0 ⟨"stop",[],[]⟩ _ s5 (sE (by decide) h05) (GoodR.plain (by decide) sF) (by decide:("stop" : Str) ∈ cS)⟩
   ·exact ⟨l,_,1,_,rfl,congrArg V.int hc,bh.of h6,rfl,k t1 ⟨"back",[],[]⟩ _ s5 (sE (by decide) h15) (GoodR.plain (by decide) sF) (by decide:("back" : Str) ∈ cS)⟩
   ·exact ⟨l,_,2,_,rfl,congrArg V.int hc,bh.of h6,rfl,k t2 ⟨"halt",[_],[]⟩ _ s5 (sD (by decide) h25) (GoodR.plain (by decide) (sH (k1 := "number") (r:=[]) rfl ⟨show 0 ≤ x % 9 by omega,show x % 9 ≤ 1000000 by omega⟩)) (by decide:("halt" : Str) ∈ cS)⟩
   ·exact ⟨l,_,3,_,rfl,congrArg V.int hc,bh.of h6,rfl,k t3 ⟨"jump",[_,_],[_]⟩ _ s5 (yK (by decide) h35) ⟨(by show 1 ≤ 16; decide),(fun t ht=>by rw [mem_singleton.mp ht]; exact ⟨Int.le_refl _,hn⟩),fun _=>h2,oU (k1 := "target") (k2 := "far") rfl ⟨Int.le_refl _,show (0:Int) ≤ 1000000000 by decide⟩ ⟨show 0 ≤ x / 9 % 2 by omega,show x / 9 % 2 ≤ 1 by omega⟩⟩ (by decide:("jump" : Str) ∈ cS)⟩
end
def Bx (b:Int):Prop:=0 ≤ b∧b < 8
abbrev MV:Stmt:=top 7
theorem dv:∀ (ns:List Str) (vs:List V) (i:Nat) (x:Str),ns.Nodup→ns[i]? = some x→(ns.zip vs).lookup x=vs[i]?
 | [],_,i,x,_,h=>by simp at h
 | n :: ns,[],i,x,_,h=>by simp
 | n :: ns,v :: vs,0,x,_,h=>by
  have e:n=x:=by simpa using h
  subst e
  rw [zip_cons_cons,List.lookup_cons_self]
  rfl
 | n :: ns,v :: vs,i + 1,x,hn,h=>by
  have hn':=nodup_cons.mp hn
  have hm:x ∈ ns:=List.mem_of_getElem? (by simpa using h)
  have ne:¬ x=n:=fun e=>hn'.1 (e ▸ hm)
  rw [zip_cons_cons,List.lookup_cons,show (x == n)=false from beq_eq_false_iff_ne.mpr ne]
  exact dv ns vs i x hn'.2 (by simpa using h)
theorem yM:∀ (ns:List Str) (vs:List V) (x:Str),¬ x ∈ ns→(ns.zip vs).lookup x=none
 | [],_,_,_=>by simp
 | _ :: _,[],_,_=>by simp
 | n :: ns,v :: vs,x,h=>by
  have ne:¬ x=n:=fun e=>h (by simp [e])
  rw [zip_cons_cons,List.lookup_cons,show (x == n)=false from beq_eq_false_iff_ne.mpr ne]
  exact yM ns vs x fun z=>h (by simp [z])
theorem nV (y:V):∀ (ns:List Str) (vs:List V) (i:Nat) (x:Str),ns.Nodup→ns[i]? = some x→i < vs.length→dX x y (ns.zip vs)=ns.zip (vs.set i y)
 | [],_,i,x,_,h,_=>by simp at h
 | n :: ns,[],i,x,_,h,l=>by simp at l
 | n :: ns,v :: vs,0,x,_,h,_=>by
  have e:n=x:=by simpa using h
  subst e
  show (if n=n then _ else _)=_
  rw [if_pos rfl]
  rfl
 | n :: ns,v :: vs,i + 1,x,hn,h,l=>by
  have hn':=nodup_cons.mp hn
  have hm:x ∈ ns:=List.mem_of_getElem? (by simpa using h)
  have ne:¬ n=x:=fun e=>hn'.1 (e ▸ hm)
  show (if n=x then _ else (n,v) :: dX x y (ns.zip vs))=_
  rw [if_neg ne,nV y ns vs i x hn'.2 (by simpa using h) (by simpa using l)]
  rfl
theorem fc (y:V) (x:Str):∀ (ns:List Str) (vs:List V),¬ x ∈ ns→ns.length=vs.length→dX x y (ns.zip vs)=(ns ++ [x]).zip (vs ++ [y])
 | [],[],_,_=>rfl
 | [],_ :: _,_,h=>by simp at h
 | _ :: _,[],_,h=>by simp at h
 | n :: ns,v :: vs,h,l=>by
  have ne:¬ n=x:=fun e=>h (by simp [e])
  show (if n=x then _ else (n,v) :: dX x y (ns.zip vs))=_
  rw [if_neg ne,fc y x ns vs (fun z=>h (by simp [z])) (by simpa using l)]
  rfl
def names:List Str:=["program", "in_boxes", "in_cells", "in_asides", "rung", "told_numbers", "seen_numbers", "pile", "marks_done", "here", "how_ended"]
theorem dm:names.Nodup:=by decide +kernel
structure MA where
 (dx p1 p2 p3 p4 p5 p6 p7 p8:Addr)
def vals (m:MA) (k:Int) (h w:V):List V:=[.ref m.p1,.ref m.p2,.ref m.p3,.ref m.p4,.ref m.p5,.ref m.p6,.ref m.p7,.ref m.p8,.int k,h,w]
abbrev eQ (m:MA) (k:Int) (h w:V):List (Str × V):=names.zip (vals m k h w)
section
variable {m:MA} {k:Int} {h w v:V}
theorem J8:(eQ m k h w).lookup ("program" : Str)=some (V.ref m.p1):=dv names _ 0 _ dm rfl
theorem dU:(eQ m k h w).lookup ("in_boxes" : Str)=some (V.ref m.p2):=dv names _ 1 _ dm rfl
theorem CI:(eQ m k h w).lookup ("in_cells" : Str)=some (V.ref m.p3):=dv names _ 2 _ dm rfl
theorem Ig:(eQ m k h w).lookup ("in_asides" : Str)=some (V.ref m.p4):=dv names _ 3 _ dm rfl
theorem J9:(eQ m k h w).lookup ("rung" : Str)=some (V.ref m.p5):=dv names _ 4 _ dm rfl
theorem Ka:(eQ m k h w).lookup ("told_numbers" : Str)=some (V.ref m.p6):=dv names _ 5 _ dm rfl
theorem Kb:(eQ m k h w).lookup ("seen_numbers" : Str)=some (V.ref m.p7):=dv names _ 6 _ dm rfl
theorem wK:(eQ m k h w).lookup ("pile" : Str)=some (V.ref m.p8):=dv names _ 7 _ dm rfl
theorem Fx:(eQ m k h w).lookup ("marks_done" : Str)=some (V.int k):=dv names _ 8 _ dm rfl
theorem oV:(eQ m k h w).lookup ("here" : Str)=some h:=dv names _ 9 _ dm rfl
theorem wL {x:Str} (hx:¬ x ∈ names):(eQ m k h w).lookup x=none:=yM names _ x hx
theorem jf:dX "here" v (eQ m k h w)=eQ m k v w:=(nV v names (vals m k h w) 9 _ dm rfl (by show 9 < 11; decide)).trans rfl
theorem MW:dX "how_ended" v (eQ m k h w)=eQ m k h v:=(nV v names (vals m k h w) 10 _ dm rfl (by show 10 < 11; decide)).trans rfl
theorem Fy {j:Int}:dX "marks_done" (.int j) (eQ m k h w)=eQ m j h w:=(nV (.int j) names (vals m k h w) 8 _ dm rfl (by show 8 < 11; decide)).trans rfl
theorem jO:(eQ m k h w).length < 1000:=by
 show 11 < 1000
 decide
end
def Own (m:MA) (x c:Addr):Prop:=c=x∨c=m.p2∨c=m.p3∨c=m.p4∨c=m.p5∨c=m.p6∨c=m.p7∨c=m.p8
def Fr (m:MA) (x:Addr) (H H':Hp):Prop:=∀ c o,¬ Own m x c→H c=some o→H' c=some o
theorem Fr.refl {m:MA} {x:Addr} {H:Hp}:Fr m x H H:=fun _ _ _ e=>e
theorem Fr.trans {m:MA} {x:Addr} {H H1 H2:Hp} (a:Fr m x H H1) (b:Fr m x H1 H2):Fr m x H H2:=fun c o n e=>b c o n (a c o n e)
theorem Fr.same {m:MA} {x:Addr} {H H1:Hp} (e:Same H H1):Fr m x H H1:=fun c o _ h=>e c o h
theorem Fr.upd {m:MA} {x p:Addr} {H:Hp} {o:HO} (h:Own m x p):Fr m x H (upd H p o):=fun c u n e=>by
 have ne:c ≠ p:=fun z=>n (by rw [z]; exact h)
 rw [aL ne]
 exact e
structure Zt where
 here:V
 how:Option (List V)
 bs:List Int
 cf:Int→Int
 af:Int→Int
 told:List Int
 seen:List (Int × Int)
 pile:List Int
 k:Int
def iB (H:Hp) (v:V):Option (List V)→Prop
 | none=>v=.non
 | some xs=>∃ p,v=.ref p∧H p=some (.tup xs)
def fJ (H:Hp) (ps:List Addr) (sn:List (Int × Int)):Prop:=ps.length=sn.length∧∀ (i:Nat) p c,ps[i]? = some p→sn[i]? = some c→H p=some (.tup [.int c.1,.int c.2])
def cv (H H':Hp):Prop:=∀ b xs,H b=some (.tup xs)→H' b=some (.tup xs)
theorem cv.of {H H':Hp} (e:Same H H'):cv H H':=fun b xs h=>e b _ h
theorem cv.upd {H:Hp} {p:Addr} {o o':HO} (h:H p=some o) (n:∀ xs,o ≠ .tup xs):cv H (upd H p o'):=fun b xs e=>by
 rw [aL (bF e h (fun z=>n xs z.symm))]
 exact e
theorem iB.tups {H H':Hp} {v:V} {w:Option (List V)} (e:cv H H') (h:iB H v w):iB H' v w:=by
 cases w with
 | none=>exact h
 | some xs =>
  obtain ⟨p,a,b⟩:=h
  exact ⟨p,a,e _ _ b⟩
theorem fJ.tups {H H':Hp} {ps:List Addr} {sn:List (Int × Int)} (e:cv H H') (h:fJ H ps sn):fJ H' ps sn:=⟨h.1,fun i p c a b=>e _ _ (h.2 i p c a b)⟩
structure Apart (m:MA):Prop where
 (n12:m.p1 ≠ m.p2) (n16:m.p1 ≠ m.p6) (n17:m.p1 ≠ m.p7) (n18:m.p1 ≠ m.p8) (n26:m.p2 ≠ m.p6) (n27:m.p2 ≠ m.p7) (n28:m.p2 ≠ m.p8) (Qz:m.p6 ≠ m.p7) (QA:m.p6 ≠ m.p8) (QB:m.p7 ≠ m.p8)
 (n34:m.p3 ≠ m.p4) (n35:m.p3 ≠ m.p5) (n45:m.p4 ≠ m.p5)
structure MG (C:Addr) (H:Hp) (x:Addr) (m:MA) (rows:List V) (aB:List (Key × V)) (B:Nat) (z:Zt):Prop where
 obj:∃ w,H x=some (.ins C m.dx (eQ m z.k z.here w))∧iB H w z.how
 prog:H m.p1=some (.lst rows)
 box:H m.p2=some (.lst (z.bs.map V.int))
 b8:z.bs.length=8
 cell:∃ d,H m.p3=some (.dK d)∧Rep d z.cf∧d.length ≤ B
 mj:∃ d,H m.p4=some (.dK d)∧Rep d z.af∧d.length ≤ B
 rg:H m.p5=some (.dK aB)
 told:H m.p6=some (.lst (z.told.map V.int))
 seen:∃ ps,H m.p7=some (.lst (ps.map V.ref))∧fJ H ps z.seen
 gw:H m.p8=some (.lst (z.pile.map V.int))
 ap:Apart m
 lens:z.told.length ≤ B∧z.seen.length ≤ B∧z.pile.length ≤ B
 big:B ≤ 900
section
variable {C x:Addr} {H H':Hp} {m:MA} {rows:List V} {aB:List (Key × V)} {B:Nat} {z:Zt}
theorem MG.same (M:MG C H x m rows aB B z) (e:Same H H'):MG C H' x m rows aB B z:=by
 obtain ⟨w,o1,o2⟩:=M.obj
 obtain ⟨d,c1,c2⟩:=M.cell
 obtain ⟨d',a1,a2⟩:=M.mj
 obtain ⟨ps,s1,s2⟩:=M.seen
 exact ⟨⟨w,e _ _ o1,o2.tups (.of e)⟩,e _ _ M.prog,e _ _ M.box,M.b8,⟨d,e _ _ c1,c2⟩,⟨d',e _ _ a1,a2⟩,e _ _ M.rg,e _ _ M.told,⟨ps,e _ _ s1,s2.tups (.of e)⟩,e _ _ M.gw,M.ap,M.lens,M.big⟩
theorem MG.more (M:MG C H x m rows aB B z) {B':Nat} (h:B ≤ B') (hb:B' ≤ 900):MG C H x m rows aB B' z:=by
 obtain ⟨d,c1,c2,c3⟩:=M.cell
 obtain ⟨d',a1,a2,a3⟩:=M.mj
 obtain ⟨l1,l2,l3⟩:=M.lens
 exact ⟨M.obj,M.prog,M.box,M.b8,⟨d,c1,c2,by omega⟩,⟨d',a1,a2,by omega⟩,M.rg,M.told,M.seen,M.gw,M.ap,⟨by omega,by omega,by omega⟩,hb⟩
theorem MG.Kc (M:MG C H x m rows aB B z) {q:Addr} {xs:List V} (h:H q=some (.tup xs)):¬ Own m x q:=by
 obtain ⟨w,o1,o2⟩:=M.obj
 obtain ⟨d,c1,c2⟩:=M.cell
 obtain ⟨d',a1,a2⟩:=M.mj
 obtain ⟨ps,s1,s2⟩:=M.seen
 rintro (rfl | rfl | rfl | rfl | rfl | rfl | rfl | rfl)
 ·rw [o1] at h; cases h
 ·rw [M.box] at h; cases h
 ·rw [c1] at h; cases h
 ·rw [a1] at h; cases h
 ·rw [M.rg] at h; cases h
 ·rw [M.told] at h; cases h
 ·rw [s1] at h; cases h
 ·rw [M.gw] at h; cases h
theorem MG.put (M:MG C H x m rows aB B z) {k':Int} {hV w':V} {wM:Option (List V)} (hw:iB H w' wM):MG C (upd H x (.ins C m.dx (eQ m k' hV w'))) x m rows aB B { z with k:=k',here:=hV,how:=wM }:=by
 obtain ⟨w,o1,o2⟩:=M.obj
 obtain ⟨d,c1,c2⟩:=M.cell
 obtain ⟨d',a1,a2⟩:=M.mj
 obtain ⟨ps,s1,s2⟩:=M.seen
 have e:∀ {c o},H c=some o→(∀ fs,o ≠ .ins C m.dx fs)→upd H x (.ins C m.dx (eQ m k' hV w')) c=some o:=fun {c o} h n=>by
  rw [aL (bF h o1 (n _))]
  exact h
 have t:cv H (upd H x (.ins C m.dx (eQ m k' hV w'))):=.upd o1 (by intro _ z; cases z)
 exact ⟨⟨w',ah,hw.tups t⟩,e M.prog (by intro _ z; cases z),e M.box (by intro _ z; cases z),M.b8,⟨d,e c1 (by intro _ z; cases z),c2⟩,⟨d',e a1 (by intro _ z; cases z),a2⟩,e M.rg (by intro _ z; cases z),e M.told (by intro _ z; cases z),⟨ps,e s1 (by intro _ z; cases z),s2.tups t⟩,e M.gw (by intro _ z; cases z),M.ap,M.lens,M.big⟩
theorem MG.x_ (M:MG C H x m rows aB B z) {p:Addr} {o:HO} (h:H p=some o) (n:∀ fs,o ≠ .ins C m.dx fs):x ≠ p:=by
 obtain ⟨w,o1,_⟩:=M.obj
 exact bF o1 h (fun z=>n _ z.symm)
theorem MG.kQ (M:MG C H x m rows aB B z) {bs':List Int} (h8:bs'.length=8):MG C (upd H m.p2 (.lst (bs'.map V.int))) x m rows aB B { z with bs:=bs' }:=by
 obtain ⟨w,o1,o2⟩:=M.obj
 obtain ⟨d,c1,c2⟩:=M.cell
 obtain ⟨d',a1,a2⟩:=M.mj
 obtain ⟨ps,s1,s2⟩:=M.seen
 have t:cv H (upd H m.p2 (.lst (bs'.map V.int))):=.upd M.box (by intro _ z; cases z)
 have e:∀ {c o},H c=some o→c ≠ m.p2→upd H m.p2 (.lst (bs'.map V.int)) c=some o:=fun {c o} h n=>by rw [aL n]; exact h
 exact ⟨⟨w,e o1 (M.x_ M.box (by intro _ z; cases z)),o2.tups t⟩,e M.prog M.ap.n12,ah,h8,⟨d,e c1 (bF c1 M.box (by intro z; cases z)),c2⟩,⟨d',e a1 (bF a1 M.box (by intro z; cases z)),a2⟩,e M.rg (bF M.rg M.box (by intro z; cases z)),e M.told M.ap.n26.symm,⟨ps,e s1 M.ap.n27.symm,s2.tups t⟩,e M.gw M.ap.n28.symm,M.ap,M.lens,M.big⟩
theorem MG.MX (M:MG C H x m rows aB B z) {t':List Int} (hl:t'.length ≤ B):MG C (upd H m.p6 (.lst (t'.map V.int))) x m rows aB B { z with told:=t' }:=by
 obtain ⟨w,o1,o2⟩:=M.obj
 obtain ⟨d,c1,c2⟩:=M.cell
 obtain ⟨d',a1,a2⟩:=M.mj
 obtain ⟨ps,s1,s2⟩:=M.seen
 have t:cv H (upd H m.p6 (.lst (t'.map V.int))):=.upd M.told (by intro _ z; cases z)
 have e:∀ {c o},H c=some o→c ≠ m.p6→upd H m.p6 (.lst (t'.map V.int)) c=some o:=fun {c o} h n=>by rw [aL n]; exact h
 exact ⟨⟨w,e o1 (M.x_ M.told (by intro _ z; cases z)),o2.tups t⟩,e M.prog M.ap.n16,e M.box M.ap.n26,M.b8,⟨d,e c1 (bF c1 M.told (by intro z; cases z)),c2⟩,⟨d',e a1 (bF a1 M.told (by intro z; cases z)),a2⟩,e M.rg (bF M.rg M.told (by intro z; cases z)),ah,⟨ps,e s1 M.ap.Qz.symm,s2.tups t⟩,e M.gw M.ap.QA.symm,M.ap,⟨hl,M.lens.2⟩,M.big⟩
theorem MG.qY (M:MG C H x m rows aB B z) {ps:List Addr} {sn:List (Int × Int)} (hs:fJ H ps sn) (hl:sn.length ≤ B):MG C (upd H m.p7 (.lst (ps.map V.ref))) x m rows aB B { z with seen:=sn }:=by
 obtain ⟨w,o1,o2⟩:=M.obj
 obtain ⟨d,c1,c2⟩:=M.cell
 obtain ⟨d',a1,a2⟩:=M.mj
 obtain ⟨ps0,s1,s2⟩:=M.seen
 have t:cv H (upd H m.p7 (.lst (ps.map V.ref))):=.upd s1 (by intro _ z; cases z)
 have e:∀ {c o},H c=some o→c ≠ m.p7→upd H m.p7 (.lst (ps.map V.ref)) c=some o:=fun {c o} h n=>by rw [aL n]; exact h
 exact ⟨⟨w,e o1 (M.x_ s1 (by intro _ z; cases z)),o2.tups t⟩,e M.prog M.ap.n17,e M.box M.ap.n27,M.b8,⟨d,e c1 (bF c1 s1 (by intro z; cases z)),c2⟩,⟨d',e a1 (bF a1 s1 (by intro z; cases z)),a2⟩,e M.rg (bF M.rg s1 (by intro z; cases z)),e M.told M.ap.Qz,⟨ps,ah,hs.tups t⟩,e M.gw M.ap.QB.symm,M.ap,⟨M.lens.1,hl,M.lens.2.2⟩,M.big⟩
theorem MG.qZ (M:MG C H x m rows aB B z) {p':List Int} (hl:p'.length ≤ B):MG C (upd H m.p8 (.lst (p'.map V.int))) x m rows aB B { z with pile:=p' }:=by
 obtain ⟨w,o1,o2⟩:=M.obj
 obtain ⟨d,c1,c2⟩:=M.cell
 obtain ⟨d',a1,a2⟩:=M.mj
 obtain ⟨ps,s1,s2⟩:=M.seen
 have t:cv H (upd H m.p8 (.lst (p'.map V.int))):=.upd M.gw (by intro _ z; cases z)
 have e:∀ {c o},H c=some o→c ≠ m.p8→upd H m.p8 (.lst (p'.map V.int)) c=some o:=fun {c o} h n=>by rw [aL n]; exact h
 exact ⟨⟨w,e o1 (M.x_ M.gw (by intro _ z; cases z)),o2.tups t⟩,e M.prog M.ap.n18,e M.box M.ap.n28,M.b8,⟨d,e c1 (bF c1 M.gw (by intro z; cases z)),c2⟩,⟨d',e a1 (bF a1 M.gw (by intro z; cases z)),a2⟩,e M.rg (bF M.rg M.gw (by intro z; cases z)),e M.told M.ap.QA,⟨ps,e s1 M.ap.QB,s2.tups t⟩,ah,M.ap,⟨M.lens.1,M.lens.2.1,hl⟩,M.big⟩
theorem MG.cells (M:MG C H x m rows aB B z) {d0:List (Key × V)} {f:Int→Int} (r:Rep d0 f) (hl:d0.length ≤ B):MG C (upd H m.p3 (.dK d0)) x m rows aB B { z with cf:=f }:=by
 obtain ⟨w,o1,o2⟩:=M.obj
 obtain ⟨d,c1,c2⟩:=M.cell
 obtain ⟨d',a1,a2⟩:=M.mj
 obtain ⟨ps,s1,s2⟩:=M.seen
 have t:cv H (upd H m.p3 (.dK d0)):=.upd c1 (by intro _ z; cases z)
 have e:∀ {c o},H c=some o→c ≠ m.p3→upd H m.p3 (.dK d0) c=some o:=fun {c o} h n=>by rw [aL n]; exact h
 exact ⟨⟨w,e o1 (M.x_ c1 (by intro _ z; cases z)),o2.tups t⟩,e M.prog (bF M.prog c1 (by intro z; cases z)),e M.box (bF M.box c1 (by intro z; cases z)),M.b8,⟨d0,ah,r,hl⟩,⟨d',e a1 M.ap.n34.symm,a2⟩,e M.rg M.ap.n35.symm,e M.told (bF M.told c1 (by intro z; cases z)),⟨ps,e s1 (bF s1 c1 (by intro z; cases z)),s2.tups t⟩,e M.gw (bF M.gw c1 (by intro z; cases z)),M.ap,M.lens,M.big⟩
theorem MG.CJ (M:MG C H x m rows aB B z) {d0:List (Key × V)} {f:Int→Int} (r:Rep d0 f) (hl:d0.length ≤ B):MG C (upd H m.p4 (.dK d0)) x m rows aB B { z with af:=f }:=by
 obtain ⟨w,o1,o2⟩:=M.obj
 obtain ⟨d,c1,c2⟩:=M.cell
 obtain ⟨d',a1,a2⟩:=M.mj
 obtain ⟨ps,s1,s2⟩:=M.seen
 have t:cv H (upd H m.p4 (.dK d0)):=.upd a1 (by intro _ z; cases z)
 have e:∀ {c o},H c=some o→c ≠ m.p4→upd H m.p4 (.dK d0) c=some o:=fun {c o} h n=>by rw [aL n]; exact h
 exact ⟨⟨w,e o1 (M.x_ a1 (by intro _ z; cases z)),o2.tups t⟩,e M.prog (bF M.prog a1 (by intro z; cases z)),e M.box (bF M.box a1 (by intro z; cases z)),M.b8,⟨d,e c1 M.ap.n34,c2⟩,⟨d0,ah,r,hl⟩,e M.rg M.ap.n45.symm,e M.told (bF M.told a1 (by intro z; cases z)),⟨ps,e s1 (bF s1 a1 (by intro z; cases z)),s2.tups t⟩,e M.gw (bF M.gw a1 (by intro z; cases z)),M.ap,M.lens,M.big⟩
theorem MG.at (M:MG C H x m rows aB B z) {b:Int} (hb:Bx b):lX (z.bs.map V.int) b=some (.int (z.bs.getD b.toNat 0)):=by
 obtain ⟨j,rfl⟩:=Int.eq_ofNat_of_zero_le hb.1
 have hj:j < z.bs.length:=by have:=hb.2; have:=M.b8; omega
 refine ck (j:=j) ?_
 rw [List.getElem?_map,List.getElem?_eq_getElem hj,Int.toNat_natCast,List.getD_eq_getElem?_getD,List.getElem?_eq_getElem hj]
 rfl
theorem MG.ix (M:MG C H x m rows aB B z) {b:Int} (hb:Bx b):yp (z.bs.map V.int).length b=some b.toNat:=by
 obtain ⟨j,rfl⟩:=Int.eq_ofNat_of_zero_le hb.1
 rw [length_map,M.b8]
 have:=hb.2
 unfold yp
 rw [if_pos (by omega),if_pos (by omega)]
end
structure kX (K:Frag) (mg:Str→Option Value) (C:Addr):Prop where
 cl:Cls K C
 nP:dP K C "program"
 nB:dP K C "in_boxes"
 nC:dP K C "in_cells"
 nA:dP K C "in_asides"
 nR:dP K C "rung"
 nT:dP K C "told_numbers"
 nS:dP K C "seen_numbers"
 nL:dP K C "pile"
 nM:dP K C "marks_done"
 nH:dP K C "here"
 nE:dP K C "how_ended"
abbrev sI:Stmt:=top 8
abbrev sJ:Stmt:=top 9
abbrev sL:Stmt:=top 10
abbrev yN:Stmt:=top 11
abbrev sM:Stmt:=top 12
abbrev sO:Stmt:=top 13
abbrev yO:Stmt:=top 14
abbrev sP:Stmt:=top 15
abbrev sQ:Stmt:=top 16
abbrev sR:Stmt:=top 17
abbrev sS:Stmt:=top 18
abbrev yP:Stmt:=top 19
abbrev yQ:Stmt:=top 20
abbrev sU:Stmt:=top 21
abbrev sV:Stmt:=top 22
abbrev sW:Stmt:=top 23
abbrev nW:Stmt:=top 24
abbrev sY:Stmt:=top 25
abbrev sZ:Stmt:=top 26
abbrev nX:Stmt:=top 27
section
variable {P:Program} {w:World} {K:Frag} {mg:Str→Option Value} {base:Heap}
abbrev Zt.bx (z:Zt) (b:Int):Int:=z.bs.getD b.toNat 0
def Ih (C:Addr):Sp:=fun vs H Q _=>∃ (x q:Addr) (m:MA) (rows:List V) (aB:List (Key × V)) (B:Nat) (z:Zt) (h:Int) (u:Str) (b v:Int),vs=[.ref x,.ref q]∧MG C H x m rows aB B z∧B < 900∧z.here=.int h∧H q=some (.tup [.str u,.int b,.int v])∧Bx b∧∀ H',Fr m x H H'→MG C H' x m rows aB (B + 1) { z with bs:=z.bs.set b.toNat (v) }→Q .non H'
def CK (C:Addr):Sp:=fun vs H Q _=>∃ (x q:Addr) (m:MA) (rows:List V) (aB:List (Key × V)) (B:Nat) (z:Zt) (h:Int) (u:Str) (b v:Int),vs=[.ref x,.ref q]∧MG C H x m rows aB B z∧B < 900∧z.here=.int h∧H q=some (.tup [.str u,.int b,.int v])∧Bx b∧∀ H',Fr m x H H'→MG C H' x m rows aB (B + 1) { z with bs:=z.bs.set b.toNat (z.bx b + v) }→Q .non H'
def CL (C:Addr):Sp:=fun vs H Q _=>∃ (x q:Addr) (m:MA) (rows:List V) (aB:List (Key × V)) (B:Nat) (z:Zt) (h:Int) (u:Str) (b v:Int),vs=[.ref x,.ref q]∧MG C H x m rows aB B z∧B < 900∧z.here=.int h∧H q=some (.tup [.str u,.int b,.int v])∧Bx b∧Bx v∧∀ H',Fr m x H H'→MG C H' x m rows aB (B + 1) { z with bs:=z.bs.set b.toNat (z.bx v) }→Q .non H'
def Ii (C:Addr):Sp:=fun vs H Q _=>∃ (x q:Addr) (m:MA) (rows:List V) (aB:List (Key × V)) (B:Nat) (z:Zt) (h:Int) (u:Str) (b v:Int),vs=[.ref x,.ref q]∧MG C H x m rows aB B z∧B < 900∧z.here=.int h∧H q=some (.tup [.str u,.int b,.int v])∧Bx b∧Bx v∧∀ H',Fr m x H H'→MG C H' x m rows aB (B + 1) { z with bs:=z.bs.set b.toNat (z.bx b + z.bx v) }→Q .non H'
def CM (C:Addr):Sp:=fun vs H Q _=>∃ (x q:Addr) (m:MA) (rows:List V) (aB:List (Key × V)) (B:Nat) (z:Zt) (h:Int) (u:Str) (b v:Int),vs=[.ref x,.ref q]∧MG C H x m rows aB B z∧B < 900∧z.here=.int h∧H q=some (.tup [.str u,.int b,.int v])∧Bx b∧Bx v∧∀ H',Fr m x H H'→MG C H' x m rows aB (B + 1) { z with bs:=z.bs.set b.toNat (z.bx b - z.bx v) }→Q .non H'
def CN (C:Addr):Sp:=fun vs H Q _=>∃ (x q:Addr) (m:MA) (rows:List V) (aB:List (Key × V)) (B:Nat) (z:Zt) (h:Int) (u:Str) (b v:Int),vs=[.ref x,.ref q]∧MG C H x m rows aB B z∧B < 900∧z.here=.int h∧H q=some (.tup [.str u,.int b,.int v])∧Bx b∧Bx v∧∀ H',Fr m x H H'→MG C H' x m rows aB (B + 1) { z with bs:=z.bs.set b.toNat (z.cf (z.bx v)) }→Q .non H'
def CO (C:Addr):Sp:=fun vs H Q _=>∃ (x q:Addr) (m:MA) (rows:List V) (aB:List (Key × V)) (B:Nat) (z:Zt) (h:Int) (u:Str) (b v:Int),vs=[.ref x,.ref q]∧MG C H x m rows aB B z∧B < 900∧z.here=.int h∧H q=some (.tup [.str u,.int b,.int v])∧Bx b∧∀ H',Fr m x H H'→MG C H' x m rows aB (B + 1) { z with bs:=z.bs.set b.toNat (z.af v) }→Q .non H'
def CP (C:Addr):Sp:=fun vs H Q _=>∃ (x q:Addr) (m:MA) (rows:List V) (aB:List (Key × V)) (B:Nat) (z:Zt) (h:Int) (u:Str) (b v:Int),vs=[.ref x,.ref q]∧MG C H x m rows aB B z∧B < 900∧z.here=.int h∧H q=some (.tup [.str u,.int b,.int v])∧Bx b∧Bx v∧∀ H',Fr m x H H'→MG C H' x m rows aB (B + 1) { z with cf:=iX z.cf (z.bx b) (z.bx v) }→Q .non H'
def Ij (C:Addr):Sp:=fun vs H Q _=>∃ (x q:Addr) (m:MA) (rows:List V) (aB:List (Key × V)) (B:Nat) (z:Zt) (h:Int) (u:Str) (b v:Int),vs=[.ref x,.ref q]∧MG C H x m rows aB B z∧B < 900∧z.here=.int h∧H q=some (.tup [.str u,.int b,.int v])∧Bx b∧∀ H',Fr m x H H'→MG C H' x m rows aB (B + 1) { z with af:=iX z.af v (z.bx b) }→Q .non H'
def CQ (C:Addr):Sp:=fun vs H Q _=>∃ (x q:Addr) (m:MA) (rows:List V) (aB:List (Key × V)) (B:Nat) (z:Zt) (h:Int) (u:Str) (b:Int),vs=[.ref x,.ref q]∧MG C H x m rows aB B z∧B < 900∧z.here=.int h∧H q=some (.tup [.str u,.int b])∧Bx b∧∀ H',Fr m x H H'→MG C H' x m rows aB (B + 1) { z with told:=z.told ++ [z.bx b] }→Q .non H'
def Ik (C:Addr):Sp:=fun vs H Q _=>∃ (x q:Addr) (m:MA) (rows:List V) (aB:List (Key × V)) (B:Nat) (z:Zt) (h:Int) (u:Str) (b v:Int),vs=[.ref x,.ref q]∧MG C H x m rows aB B z∧B < 900∧z.here=.int h∧H q=some (.tup [.str u,.int b,.int v])∧Bx b∧∀ H',Fr m x H H'→MG C H' x m rows aB (B + 1) { z with seen:=z.seen ++ [(v,z.bx b)] }→Q .non H'
def CT (C:Addr):Sp:=fun vs H Q _=>∃ (x q:Addr) (m:MA) (rows:List V) (aB:List (Key × V)) (B:Nat) (z:Zt) (h:Int) (u:Str) (t f:Int),vs=[.ref x,.ref q]∧MG C H x m rows aB B z∧B < 900∧z.here=.int h∧H q=some (.tup [.str u,.int t,.int f])∧∀ H',Fr m x H H'→MG C H' x m rows aB (B + 1) { z with here:=.int t }→Q .non H'
def CU (C:Addr):Sp:=fun vs H Q _=>∃ (x q:Addr) (m:MA) (rows:List V) (aB:List (Key × V)) (B:Nat) (z:Zt) (h:Int) (u:Str) (b t f:Int),vs=[.ref x,.ref q]∧MG C H x m rows aB B z∧B < 900∧z.here=.int h∧H q=some (.tup [.str u,.int b,.int t,.int f])∧Bx b∧∀ H',Fr m x H H'→MG C H' x m rows aB (B + 1) { z with here:=.int (if z.bx b=0 then t else h) }→Q .non H'
def yR (C:Addr):Sp:=fun vs H Q _=>∃ (x q:Addr) (m:MA) (rows:List V) (aB:List (Key × V)) (B:Nat) (z:Zt) (h:Int) (u:Str) (b t f:Int),vs=[.ref x,.ref q]∧MG C H x m rows aB B z∧B < 900∧z.here=.int h∧H q=some (.tup [.str u,.int b,.int t,.int f])∧Bx b∧∀ H',Fr m x H H'→MG C H' x m rows aB (B + 1) { z with here:=.int (if z.bx b < 0 then t else h) }→Q .non H'
def yS (C:Addr):Sp:=fun vs H Q _=>∃ (x q:Addr) (m:MA) (rows:List V) (aB:List (Key × V)) (B:Nat) (z:Zt) (h:Int) (u:Str) (b:Int) (p:Addr) (ts:List Int),vs=[.ref x,.ref q]∧MG C H x m rows aB B z∧B < 900∧z.here=.int h∧H q=some (.tup [.str u,.int b,.ref p])∧Bx b∧H p=some (.tup (ts.map V.int))∧∀ H',Fr m x H H'→MG C H' x m rows aB (B + 1) { z with here:=.int (if 0 ≤ z.bx b∧z.bx b < ts.length then ts.getD (z.bx b).toNat 0 else h) }→Q .non H'
def wN (C:Addr):Sp:=fun vs H Q _=>∃ (x q:Addr) (m:MA) (rows:List V) (aB:List (Key × V)) (B:Nat) (z:Zt) (h:Int) (u:Str) (t f:Int),vs=[.ref x,.ref q]∧MG C H x m rows aB B z∧B < 900∧z.here=.int h∧H q=some (.tup [.str u,.int t,.int f])∧∀ H',Fr m x H H'→MG C H' x m rows aB (B + 1) { z with pile:=z.pile ++ [h],here:=.int t }→Q .non H'
def CV (C:Addr):Sp:=fun vs H Q _=>∃ (x q:Addr) (m:MA) (rows:List V) (aB:List (Key × V)) (B:Nat) (z:Zt) (h:Int) (u:Str) (items:List V),vs=[.ref x,.ref q]∧MG C H x m rows aB B z∧B < 900∧z.here=.int h∧H q=some (.tup (.str u :: items))∧∀ H',Fr m x H H'→MG C H' x m rows aB (B + 1) { z with here:=.non,how:=some [.str "stop"] }→Q .non H'
def CW (C:Addr):Sp:=fun vs H Q _=>∃ (x q:Addr) (m:MA) (rows:List V) (aB:List (Key × V)) (B:Nat) (z:Zt) (h:Int) (u:Str) (v:Int),vs=[.ref x,.ref q]∧MG C H x m rows aB B z∧B < 900∧z.here=.int h∧H q=some (.tup [.str u,.int v])∧∀ H',Fr m x H H'→MG C H' x m rows aB (B + 1) { z with here:=.non,how:=some [.str "halt",.int v] }→Q .non H'
def CY (C:Addr):Sp:=fun vs H Q _=>∃ (x q:Addr) (m:MA) (rows:List V) (aB:List (Key × V)) (B:Nat) (z:Zt) (h:Int) (u:Str) (t f:Int) (o:Option V),vs=[.ref x,.ref q]∧MG C H x m rows aB B z∧B < 900∧z.here=.int h∧H q=some (.tup [.str u,.int t,.int f])∧cw aB (Sum.inl z.k)=o∧(o.isSome=true→∀ H',Fr m x H H'→MG C H' x m rows aB (B + 1) { z with k:=z.k + 1,pile:=z.pile ++ [h],here:=.int t }→Q .non H')∧(o.isSome=false→∀ H',Fr m x H H'→MG C H' x m rows aB (B + 1) { z with k:=z.k + 1 }→Q .non H')
def CZ (C:Addr):Sp:=fun vs H Q _=>∃ (x q:Addr) (m:MA) (rows:List V) (aB:List (Key × V)) (B:Nat) (z:Zt) (h:Int) (u:Str) (items:List V),vs=[.ref x,.ref q]∧MG C H x m rows aB B z∧B < 900∧z.here=.int h∧H q=some (.tup (.str u :: items))∧(z.pile=[]→∀ H',Fr m x H H'→MG C H' x m rows aB (B + 1) { z with here:=.non,how:=some [.str "home"] }→Q .non H')∧(∀ (r:List Int) (p:Int),z.pile=r ++ [p]→∀ H',Fr m x H H'→MG C H' x m rows aB (B + 1) { z with pile:=r,here:=.int p }→Q .non H')
def yT (C:Addr):Sp:=fun vs H Q _=>∃ (x p:Addr) (xs:List V) (m:MA) (rows:List V) (aB:List (Key × V)) (B:Nat) (z:Zt),vs=[.ref x,.ref p]∧H p=some (.tup xs)∧MG C H x m rows aB B z∧∀ H',Fr m x H H'→MG C H' x m rows aB B { z with here:=.non,how:=some xs }→Q .non H'
theorem MY:aJ ["machine", "how"] ["machine", "how"] (ak MV):=⟨rfl,rfl,rfl,by decide +kernel,rfl,by decide +kernel,by decide +kernel⟩
theorem Kd {f C:Addr} {fd:FuncData} (F:dJ K "end" "end" MV f fd) (T:kX K mg C):aR P w K mg base bV 1 f fd ["machine", "how"] (yT C):=by
 refine F.ok MY (fun vs H Q E h=>?_) (fun cdv A outer s H vs Q E hr h=>?_)
 ·obtain ⟨x,p,xs,m,rows,aB,B,z,rfl,_⟩:=h
  rfl
 ·obtain ⟨x,p,xs,m,rows,aB,B,z,rfl,hp,M,k⟩:=h
  obtain ⟨w0,ho,hw⟩:=M.obj
  refine ⟨_,aA (dq (pv 0) ef rfl) (aw (dq (pv 0) (pv 1) rfl)),?_⟩
  refine ⟨_,rfl,x,C,m.dx,_,rfl,ho,T.cl,T.nH,jO,?_⟩
  rw [jf]
  have M2:=M.put (k':=z.k) (hV:=.non) hw
  refine ⟨_,rfl,_,rfl,x,C,m.dx,_,rfl,ah,T.cl,T.nE,jO,?_⟩
  rw [MW]
  have hp2:upd H x (.ins C m.dx (eQ m z.k .non w0)) p=some (.tup xs):=by
   rw [aL (bF hp ho (by intro z; cases z))]
   exact hp
  exact k _ ((Fr.upd (.inl rfl)).trans (Fr.upd (.inl rfl))) (M2.put (k':=z.k) (hV:=.non) (w':=.ref p) (wM:=some xs) ⟨p,rfl,hp2⟩)
theorem Ke:aJ ["machine", "row"] ["machine", "row"] (ak yN):=⟨rfl,rfl,rfl,by decide +kernel,rfl,by decide +kernel,by decide +kernel⟩
theorem Kf {f C:Addr} {fd:FuncData} (F:dJ K "do_set" "do_set" yN f fd) (T:kX K mg C):aR P w K mg base bV 1 f fd ["machine", "row"] (Ih C):=by
 refine F.ok Ke (fun vs H Q E h=>?_) (fun cdv A outer s H vs Q E hr h=>?_)
 ·obtain ⟨x,q,m,rows,aB,B,z,h,u,b,v,rfl,_⟩:=h
  rfl
 ·obtain ⟨x,q,m,rows,aB,B,z,h,u,b,v,rfl,M,hB,hh,hq,hb,k⟩:=h
  have hu:=cC hr
  obtain ⟨w0,ho,hw⟩:=M.obj
  have M1:=M.more (le_succ B) (by omega)
  refine ⟨_,aw (dO (au az (pv 1) ai (fun _ _=>rfl)) (eI (bu (pv 0) rfl) (au az (pv 1) ai (fun _ _=>rfl)) set_list)),?_⟩
  refine ⟨_,rfl,q,_,_,.int v,rfl,rfl,aS.of hq,at2 _ _ _ _,_,rfl,x,C,m.dx,_,_,rfl,ho,T.cl,T.nB,dU,_,rfl,q,_,_,.int b,rfl,rfl,aS.of hq,at1 _ _ _,m.p2,_,_,_,rfl,rfl,M.box,M.ix hb,?_⟩
  rw [← map_set]
  exact k _ (Fr.upd (.inr (.inl rfl))) (M1.kQ (by rw [length_set]; exact M.b8))
theorem Fz:aJ ["machine", "row"] ["machine", "row"] (ak sM):=⟨rfl,rfl,rfl,by decide +kernel,rfl,by decide +kernel,by decide +kernel⟩
theorem FA {f C:Addr} {fd:FuncData} (F:dJ K "do_more" "do_more" sM f fd) (T:kX K mg C):aR P w K mg base bV 1 f fd ["machine", "row"] (CK C):=by
 refine F.ok Fz (fun vs H Q E h=>?_) (fun cdv A outer s H vs Q E hr h=>?_)
 ·obtain ⟨x,q,m,rows,aB,B,z,h,u,b,v,rfl,_⟩:=h
  rfl
 ·obtain ⟨x,q,m,rows,aB,B,z,h,u,b,v,rfl,M,hB,hh,hq,hb,k⟩:=h
  have hu:=cC hr
  obtain ⟨w0,ho,hw⟩:=M.obj
  have M1:=M.more (le_succ B) (by omega)
  refine ⟨_,aw (dO (aN dn (au aK (bu (pv 0) rfl) (au az (pv 1) ai (fun _ _=>rfl)) (fun _ _=>rfl)) (au az (pv 1) ai (fun _ _=>rfl))) (eI (bu (pv 0) rfl) (au az (pv 1) ai (fun _ _=>rfl)) set_list)),?_⟩
  refine ⟨_,rfl,x,C,m.dx,_,_,rfl,ho,T.cl,T.nB,dU,_,rfl,q,_,_,.int b,rfl,rfl,aS.of hq,at1 _ _ _,m.p2,_,_,_,rfl,rfl,bh.of M.box,M.at hb,_,rfl,q,_,_,.int v,rfl,rfl,aS.of hq,at2 _ _ _ _,_,_,rfl,rfl,_,rfl,x,C,m.dx,_,_,rfl,ho,T.cl,T.nB,dU,_,rfl,q,_,_,.int b,rfl,rfl,aS.of hq,at1 _ _ _,m.p2,_,_,_,rfl,rfl,M.box,M.ix hb,?_⟩
  rw [← map_set]
  exact k _ (Fr.upd (.inr (.inl rfl))) (M1.kQ (by rw [length_set]; exact M.b8))
theorem FC:aJ ["machine", "row"] ["machine", "row"] (ak sO):=⟨rfl,rfl,rfl,by decide +kernel,rfl,by decide +kernel,by decide +kernel⟩
theorem FD {f C:Addr} {fd:FuncData} (F:dJ K "do_copy" "do_copy" sO f fd) (T:kX K mg C):aR P w K mg base bV 1 f fd ["machine", "row"] (CL C):=by
 refine F.ok FC (fun vs H Q E h=>?_) (fun cdv A outer s H vs Q E hr h=>?_)
 ·obtain ⟨x,q,m,rows,aB,B,z,h,u,b,v,rfl,_⟩:=h
  rfl
 ·obtain ⟨x,q,m,rows,aB,B,z,h,u,b,v,rfl,M,hB,hh,hq,hb,hv,k⟩:=h
  have hu:=cC hr
  obtain ⟨w0,ho,hw⟩:=M.obj
  have M1:=M.more (le_succ B) (by omega)
  refine ⟨_,aw (dO (au aK (bu (pv 0) rfl) (au az (pv 1) ai (fun _ _=>rfl)) (fun _ _=>rfl)) (eI (bu (pv 0) rfl) (au az (pv 1) ai (fun _ _=>rfl)) set_list)),?_⟩
  refine ⟨_,rfl,x,C,m.dx,_,_,rfl,ho,T.cl,T.nB,dU,_,rfl,q,_,_,.int v,rfl,rfl,aS.of hq,at2 _ _ _ _,m.p2,_,_,_,rfl,rfl,bh.of M.box,M.at hv,_,rfl,x,C,m.dx,_,_,rfl,ho,T.cl,T.nB,dU,_,rfl,q,_,_,.int b,rfl,rfl,aS.of hq,at1 _ _ _,m.p2,_,_,_,rfl,rfl,M.box,M.ix hb,?_⟩
  rw [← map_set]
  exact k _ (Fr.upd (.inr (.inl rfl))) (M1.kQ (by rw [length_set]; exact M.b8))
theorem Kg:aJ ["machine", "row"] ["machine", "row"] (ak yO):=⟨rfl,rfl,rfl,by decide +kernel,rfl,by decide +kernel,by decide +kernel⟩
theorem Kh {f C:Addr} {fd:FuncData} (F:dJ K "do_add" "do_add" yO f fd) (T:kX K mg C):aR P w K mg base bV 1 f fd ["machine", "row"] (Ii C):=by
 refine F.ok Kg (fun vs H Q E h=>?_) (fun cdv A outer s H vs Q E hr h=>?_)
 ·obtain ⟨x,q,m,rows,aB,B,z,h,u,b,v,rfl,_⟩:=h
  rfl
 ·obtain ⟨x,q,m,rows,aB,B,z,h,u,b,v,rfl,M,hB,hh,hq,hb,hv,k⟩:=h
  have hu:=cC hr
  obtain ⟨w0,ho,hw⟩:=M.obj
  have M1:=M.more (le_succ B) (by omega)
  refine ⟨_,aw (dO (aN dn (au aK (bu (pv 0) rfl) (au az (pv 1) ai (fun _ _=>rfl)) (fun _ _=>rfl)) (au aK (bu (pv 0) rfl) (au az (pv 1) ai (fun _ _=>rfl)) (fun _ _=>rfl))) (eI (bu (pv 0) rfl) (au az (pv 1) ai (fun _ _=>rfl)) set_list)),?_⟩
  refine ⟨_,rfl,x,C,m.dx,_,_,rfl,ho,T.cl,T.nB,dU,_,rfl,q,_,_,.int b,rfl,rfl,aS.of hq,at1 _ _ _,m.p2,_,_,_,rfl,rfl,bh.of M.box,M.at hb,_,rfl,x,C,m.dx,_,_,rfl,ho,T.cl,T.nB,dU,_,rfl,q,_,_,.int v,rfl,rfl,aS.of hq,at2 _ _ _ _,m.p2,_,_,_,rfl,rfl,bh.of M.box,M.at hv,_,_,rfl,rfl,_,rfl,x,C,m.dx,_,_,rfl,ho,T.cl,T.nB,dU,_,rfl,q,_,_,.int b,rfl,rfl,aS.of hq,at1 _ _ _,m.p2,_,_,_,rfl,rfl,M.box,M.ix hb,?_⟩
  rw [← map_set]
  exact k _ (Fr.upd (.inr (.inl rfl))) (M1.kQ (by rw [length_set]; exact M.b8))
theorem FE:aJ ["machine", "row"] ["machine", "row"] (ak sP):=⟨rfl,rfl,rfl,by decide +kernel,rfl,by decide +kernel,by decide +kernel⟩
theorem FG {f C:Addr} {fd:FuncData} (F:dJ K "do_less" "do_less" sP f fd) (T:kX K mg C):aR P w K mg base bV 1 f fd ["machine", "row"] (CM C):=by
 refine F.ok FE (fun vs H Q E h=>?_) (fun cdv A outer s H vs Q E hr h=>?_)
 ·obtain ⟨x,q,m,rows,aB,B,z,h,u,b,v,rfl,_⟩:=h
  rfl
 ·obtain ⟨x,q,m,rows,aB,B,z,h,u,b,v,rfl,M,hB,hh,hq,hb,hv,k⟩:=h
  have hu:=cC hr
  obtain ⟨w0,ho,hw⟩:=M.obj
  have M1:=M.more (le_succ B) (by omega)
  refine ⟨_,aw (dO (aN ib (au aK (bu (pv 0) rfl) (au az (pv 1) ai (fun _ _=>rfl)) (fun _ _=>rfl)) (au aK (bu (pv 0) rfl) (au az (pv 1) ai (fun _ _=>rfl)) (fun _ _=>rfl))) (eI (bu (pv 0) rfl) (au az (pv 1) ai (fun _ _=>rfl)) set_list)),?_⟩
  refine ⟨_,rfl,x,C,m.dx,_,_,rfl,ho,T.cl,T.nB,dU,_,rfl,q,_,_,.int b,rfl,rfl,aS.of hq,at1 _ _ _,m.p2,_,_,_,rfl,rfl,bh.of M.box,M.at hb,_,rfl,x,C,m.dx,_,_,rfl,ho,T.cl,T.nB,dU,_,rfl,q,_,_,.int v,rfl,rfl,aS.of hq,at2 _ _ _ _,m.p2,_,_,_,rfl,rfl,bh.of M.box,M.at hv,_,_,rfl,rfl,_,rfl,x,C,m.dx,_,_,rfl,ho,T.cl,T.nB,dU,_,rfl,q,_,_,.int b,rfl,rfl,aS.of hq,at1 _ _ _,m.p2,_,_,_,rfl,rfl,M.box,M.ix hb,?_⟩
  rw [← map_set]
  exact k _ (Fr.upd (.inr (.inl rfl))) (M1.kQ (by rw [length_set]; exact M.b8))
theorem FH:aJ ["machine", "row"] ["machine", "row"] (ak sQ):=⟨rfl,rfl,rfl,by decide +kernel,rfl,by decide +kernel,by decide +kernel⟩
theorem FI {f C:Addr} {fd:FuncData} (F:dJ K "do_load" "do_load" sQ f fd) (T:kX K mg C):aR P w K mg base bV 1 f fd ["machine", "row"] (CN C):=by
 refine F.ok FH (fun vs H Q E h=>?_) (fun cdv A outer s H vs Q E hr h=>?_)
 ·obtain ⟨x,q,m,rows,aB,B,z,h,u,b,v,rfl,_⟩:=h
  rfl
 ·obtain ⟨x,q,m,rows,aB,B,z,h,u,b,v,rfl,M,hB,hh,hq,hb,hv,k⟩:=h
  have hu:=cC hr
  obtain ⟨w0,ho,hw⟩:=M.obj
  have M1:=M.more (le_succ B) (by omega)
  refine ⟨_,aw (dO (ja hu (bu (pv 0) rfl) (au aK (bu (pv 0) rfl) (au az (pv 1) ai (fun _ _=>rfl)) (fun _ _=>rfl)) ai ⟨rfl,rfl,rfl,rfl⟩) (eI (bu (pv 0) rfl) (au az (pv 1) ai (fun _ _=>rfl)) set_list)),?_⟩
  obtain ⟨d,c1,c2,c3⟩:=M.cell
  refine ⟨_,rfl,x,C,m.dx,_,_,rfl,ho,T.cl,T.nC,CI,m.p3,rfl,.inl ⟨_,.of c1⟩,_,rfl,x,C,m.dx,_,_,rfl,ho,T.cl,T.nB,dU,_,rfl,q,_,_,.int v,rfl,rfl,aS.of hq,at2 _ _ _ _,m.p2,_,_,_,rfl,rfl,bh.of M.box,M.at hv,_,iL.k (k:=Sum.inl (z.bx v)) c1,?_⟩
  rw [c2.val]
  refine ⟨_,rfl,x,C,m.dx,_,_,rfl,ho,T.cl,T.nB,dU,_,rfl,q,_,_,.int b,rfl,rfl,aS.of hq,at1 _ _ _,m.p2,_,_,_,rfl,rfl,M.box,M.ix hb,?_⟩
  rw [← map_set]
  exact k _ (Fr.upd (.inr (.inl rfl))) (M1.kQ (by rw [length_set]; exact M.b8))
theorem FJ:aJ ["machine", "row"] ["machine", "row"] (ak sU):=⟨rfl,rfl,rfl,by decide +kernel,rfl,by decide +kernel,by decide +kernel⟩
theorem FK {f C:Addr} {fd:FuncData} (F:dJ K "do_take" "do_take" sU f fd) (T:kX K mg C):aR P w K mg base bV 1 f fd ["machine", "row"] (CO C):=by
 refine F.ok FJ (fun vs H Q E h=>?_) (fun cdv A outer s H vs Q E hr h=>?_)
 ·obtain ⟨x,q,m,rows,aB,B,z,h,u,b,v,rfl,_⟩:=h
  rfl
 ·obtain ⟨x,q,m,rows,aB,B,z,h,u,b,v,rfl,M,hB,hh,hq,hb,k⟩:=h
  have hu:=cC hr
  obtain ⟨w0,ho,hw⟩:=M.obj
  have M1:=M.more (le_succ B) (by omega)
  refine ⟨_,aw (dO (ja hu (bu (pv 0) rfl) (au az (pv 1) ai (fun _ _=>rfl)) ai ⟨rfl,rfl,rfl,rfl⟩) (eI (bu (pv 0) rfl) (au az (pv 1) ai (fun _ _=>rfl)) set_list)),?_⟩
  obtain ⟨d,c1,c2,c3⟩:=M.mj
  refine ⟨_,rfl,x,C,m.dx,_,_,rfl,ho,T.cl,T.nA,Ig,m.p4,rfl,.inl ⟨_,.of c1⟩,_,rfl,q,_,_,.int v,rfl,rfl,aS.of hq,at2 _ _ _ _,_,iL.k (k:=Sum.inl (v)) c1,?_⟩
  rw [c2.val]
  refine ⟨_,rfl,x,C,m.dx,_,_,rfl,ho,T.cl,T.nB,dU,_,rfl,q,_,_,.int b,rfl,rfl,aS.of hq,at1 _ _ _,m.p2,_,_,_,rfl,rfl,M.box,M.ix hb,?_⟩
  rw [← map_set]
  exact k _ (Fr.upd (.inr (.inl rfl))) (M1.kQ (by rw [length_set]; exact M.b8))
theorem FL:aJ ["machine", "row"] ["machine", "row"] (ak sR):=⟨rfl,rfl,rfl,by decide +kernel,rfl,by decide +kernel,by decide +kernel⟩
theorem FN {f C:Addr} {fd:FuncData} (F:dJ K "do_keep" "do_keep" sR f fd) (T:kX K mg C):aR P w K mg base bV 1 f fd ["machine", "row"] (CP C):=by
 refine F.ok FL (fun vs H Q E h=>?_) (fun cdv A outer s H vs Q E hr h=>?_)
 ·obtain ⟨x,q,m,rows,aB,B,z,h,u,b,v,rfl,_⟩:=h
  rfl
 ·obtain ⟨x,q,m,rows,aB,B,z,h,u,b,v,rfl,M,hB,hh,hq,hb,hv,k⟩:=h
  have hu:=cC hr
  obtain ⟨w0,ho,hw⟩:=M.obj
  have M1:=M.more (le_succ B) (by omega)
  refine ⟨_,aw (dh hu (bu (pv 0) rfl) (au aK (bu (pv 0) rfl) (au az (pv 1) ai (fun _ _=>rfl)) (fun _ _=>rfl)) (au aK (bu (pv 0) rfl) (au az (pv 1) ai (fun _ _=>rfl)) (fun _ _=>rfl)) rfl),?_⟩
  obtain ⟨d,c1,c2,c3⟩:=M.cell
  have hb9:=M.big
  refine ⟨_,rfl,x,C,m.dx,_,_,rfl,ho,T.cl,T.nB,dU,_,rfl,q,_,_,.int v,rfl,rfl,aS.of hq,at2 _ _ _ _,m.p2,_,_,_,rfl,rfl,bh.of M.box,M.at hv,_,rfl,x,C,m.dx,_,_,rfl,ho,T.cl,T.nC,CI,_,rfl,x,C,m.dx,_,_,rfl,ho,T.cl,T.nB,dU,_,rfl,q,_,_,.int b,rfl,rfl,aS.of hq,at1 _ _ _,m.p2,_,_,_,rfl,rfl,bh.of M.box,M.at hb,m.p3,_,rfl,ic.k (k:=Sum.inl (z.bx b)) c1 (bw (by omega)),?_⟩
  exact k _ (Fr.upd (.inr (.inr (.inl rfl)))) (M1.cells (c2.put _ _) (le_trans (dg d _ _) (by omega)))
theorem Ki:aJ ["machine", "row"] ["machine", "row"] (ak yQ):=⟨rfl,rfl,rfl,by decide +kernel,rfl,by decide +kernel,by decide +kernel⟩
theorem Kj {f C:Addr} {fd:FuncData} (F:dJ K "do_put" "do_put" yQ f fd) (T:kX K mg C):aR P w K mg base bV 1 f fd ["machine", "row"] (Ij C):=by
 refine F.ok Ki (fun vs H Q E h=>?_) (fun cdv A outer s H vs Q E hr h=>?_)
 ·obtain ⟨x,q,m,rows,aB,B,z,h,u,b,v,rfl,_⟩:=h
  rfl
 ·obtain ⟨x,q,m,rows,aB,B,z,h,u,b,v,rfl,M,hB,hh,hq,hb,k⟩:=h
  have hu:=cC hr
  obtain ⟨w0,ho,hw⟩:=M.obj
  have M1:=M.more (le_succ B) (by omega)
  refine ⟨_,aw (dh hu (bu (pv 0) rfl) (au az (pv 1) ai (fun _ _=>rfl)) (au aK (bu (pv 0) rfl) (au az (pv 1) ai (fun _ _=>rfl)) (fun _ _=>rfl)) rfl),?_⟩
  obtain ⟨d,c1,c2,c3⟩:=M.mj
  have hb9:=M.big
  refine ⟨_,rfl,x,C,m.dx,_,_,rfl,ho,T.cl,T.nB,dU,_,rfl,q,_,_,.int b,rfl,rfl,aS.of hq,at1 _ _ _,m.p2,_,_,_,rfl,rfl,bh.of M.box,M.at hb,_,rfl,x,C,m.dx,_,_,rfl,ho,T.cl,T.nA,Ig,_,rfl,q,_,_,.int v,rfl,rfl,aS.of hq,at2 _ _ _ _,m.p4,_,rfl,ic.k (k:=Sum.inl v) c1 (bw (by omega)),?_⟩
  exact k _ (Fr.upd (.inr (.inr (.inr (.inl rfl))))) (M1.CJ (c2.put _ _) (le_trans (dg d _ _) (by omega)))
theorem FO:aJ ["machine", "row"] ["machine", "row"] (ak sS):=⟨rfl,rfl,rfl,by decide +kernel,rfl,by decide +kernel,by decide +kernel⟩
theorem FP {f C:Addr} {fd:FuncData} (F:dJ K "do_tell" "do_tell" sS f fd) (T:kX K mg C):aR P w K mg base bV 1 f fd ["machine", "row"] (CQ C):=by
 refine F.ok FO (fun vs H Q E h=>?_) (fun cdv A outer s H vs Q E hr h=>?_)
 ·obtain ⟨x,q,m,rows,aB,B,z,h,u,b,rfl,_⟩:=h
  rfl
 ·obtain ⟨x,q,m,rows,aB,B,z,h,u,b,rfl,M,hB,hh,hq,hb,k⟩:=h
  have hu:=cC hr
  obtain ⟨w0,ho,hw⟩:=M.obj
  have M1:=M.more (le_succ B) (by omega)
  refine ⟨_,aw (bJ (gn PySem.F.plainAttrs_list PySem.F.slot_list_append PySem.F.type_list_append cr (bu (pv 0) rfl) (ae (au aK (bu (pv 0) rfl) (au az (pv 1) ai (fun _ _=>rfl)) (fun _ _=>rfl)) ao))),?_⟩
  have hb9:=M.big
  have hl:=M.lens
  refine ⟨_,rfl,x,C,m.dx,_,_,rfl,ho,T.cl,T.nT,Ka,.inl ⟨rfl,_,bh.of M.told⟩,_,rfl,x,C,m.dx,_,_,rfl,ho,T.cl,T.nB,dU,_,rfl,q,_,_,.int b,rfl,rfl,aS.of hq,at1 _ _ _,m.p2,_,_,_,rfl,rfl,bh.of M.box,M.at hb,m.p6,_,_,rfl,rfl,M.told,(by rw [length_map]; exact bw (by omega)),?_⟩
  rw [show z.told.map V.int ++ [V.int (z.bx b)]=(z.told ++ [z.bx b]).map V.int by simp]
  exact k _ (Fr.upd (.inr (.inr (.inr (.inr (.inr (.inl rfl))))))) (M1.MX (by rw [length_append]; show z.told.length + 1 ≤ B + 1; omega))
theorem Kk:aJ ["machine", "row"] ["machine", "row"] (ak yP):=⟨rfl,rfl,rfl,by decide +kernel,rfl,by decide +kernel,by decide +kernel⟩
theorem Kl {f C:Addr} {fd:FuncData} (F:dJ K "do_see" "do_see" yP f fd) (T:kX K mg C):aR P w K mg base bV 1 f fd ["machine", "row"] (Ik C):=by
 refine F.ok Kk (fun vs H Q E h=>?_) (fun cdv A outer s H vs Q E hr h=>?_)
 ·obtain ⟨x,q,m,rows,aB,B,z,h,u,b,v,rfl,_⟩:=h
  rfl
 ·obtain ⟨x,q,m,rows,aB,B,z,h,u,b,v,rfl,M,hB,hh,hq,hb,k⟩:=h
  have hu:=cC hr
  obtain ⟨w0,ho,hw⟩:=M.obj
  have M1:=M.more (le_succ B) (by omega)
  refine ⟨_,aw (bJ (gn PySem.F.plainAttrs_list PySem.F.slot_list_append PySem.F.type_list_append cr (bu (pv 0) rfl) (ae (aX (ae (au az (pv 1) ai (fun _ _=>rfl)) (ae (au aK (bu (pv 0) rfl) (au az (pv 1) ai (fun _ _=>rfl)) (fun _ _=>rfl)) ao))) ao))),?_⟩
  have hb9:=M.big
  have hl:=M.lens
  obtain ⟨ps,s1,s2⟩:=M.seen
  have hpl:=s2.1
  refine ⟨_,rfl,x,C,m.dx,_,_,rfl,ho,T.cl,T.nS,Kb,.inl ⟨rfl,_,bh.of s1⟩,_,rfl,q,_,_,.int v,rfl,rfl,aS.of hq,at2 _ _ _ _,_,rfl,x,C,m.dx,_,_,rfl,ho,T.cl,T.nB,dU,_,rfl,q,_,_,.int b,rfl,rfl,aS.of hq,at1 _ _ _,m.p2,_,_,_,rfl,rfl,bh.of M.box,M.at hb,cT,fun t nt=>?_⟩
  have e1:=aj (o:=.tup [.int v,.int (z.bx b)]) nt
  refine ⟨m.p7,_,_,rfl,rfl,e1 _ _ s1,(by rw [length_map]; exact bw (by omega)),?_⟩
  rw [show ps.map V.ref ++ [V.ref t]=(ps ++ [t]).map V.ref by simp]
  refine k _ ((Fr.same e1).trans (Fr.upd (.inr (.inr (.inr (.inr (.inr (.inr (.inl rfl))))))))) ((M1.same e1).qY ⟨by rw [length_append,length_append,hpl]; rfl,fun i p c hp hc=>?_⟩ (by rw [length_append]; show z.seen.length + 1 ≤ B + 1; omega))
  rcases lt_or_ge i ps.length with hi | hi
  ·rw [List.getElem?_append_left hi] at hp
   rw [List.getElem?_append_left (by omega)] at hc
   exact e1 _ _ (s2.2 i p c hp hc)
  ·rw [List.getElem?_append_right hi] at hp
   rw [List.getElem?_append_right (by omega)] at hc
   have h0:i - ps.length=0:=by
    have:=(List.getElem?_eq_some_iff.mp hp).1
    simp at this
    omega
   have h1:i - z.seen.length=0:=by omega
   rw [h0] at hp
   rw [h1] at hc
   have hp:=Option.some.inj hp
   have hc:=Option.some.inj hc
   subst hp hc
   exact ah
theorem FQ:aJ ["machine", "row"] ["machine", "row"] (ak sV):=⟨rfl,rfl,rfl,by decide +kernel,rfl,by decide +kernel,by decide +kernel⟩
theorem FT {f C:Addr} {fd:FuncData} (F:dJ K "do_jump" "do_jump" sV f fd) (T:kX K mg C):aR P w K mg base bV 1 f fd ["machine", "row"] (CT C):=by
 refine F.ok FQ (fun vs H Q E h=>?_) (fun cdv A outer s H vs Q E hr h=>?_)
 ·obtain ⟨x,q,m,rows,aB,B,z,h,u,t,f,rfl,_⟩:=h
  rfl
 ·obtain ⟨x,q,m,rows,aB,B,z,h,u,t,f,rfl,M,hB,hh,hq,k⟩:=h
  have hu:=cC hr
  obtain ⟨w0,ho,hw⟩:=M.obj
  have M1:=M.more (le_succ B) (by omega)
  refine ⟨_,aw (dq (pv 0) (au az (pv 1) ai (fun _ _=>rfl)) rfl),?_⟩
  refine ⟨_,rfl,q,_,_,.int t,rfl,rfl,aS.of hq,at1 _ _ _,_,rfl,x,C,m.dx,_,rfl,ho,T.cl,T.nH,jO,?_⟩
  rw [jf]
  exact k _ (Fr.upd (.inl rfl)) (M1.put (k':=z.k) (hV:=.int t) hw)
theorem FU:aJ ["machine", "row"] ["machine", "row"] (ak sW):=⟨rfl,rfl,rfl,by decide +kernel,rfl,by decide +kernel,by decide +kernel⟩
theorem FV {f C:Addr} {fd:FuncData} (F:dJ K "do_zero" "do_zero" sW f fd) (T:kX K mg C):aR P w K mg base bV 1 f fd ["machine", "row"] (CU C):=by
 refine F.ok FU (fun vs H Q E h=>?_) (fun cdv A outer s H vs Q E hr h=>?_)
 ·obtain ⟨x,q,m,rows,aB,B,z,h,u,b,t,f,rfl,_⟩:=h
  rfl
 ·obtain ⟨x,q,m,rows,aB,B,z,h,u,b,t,f,rfl,M,hB,hh,hq,hb,k⟩:=h
  have hu:=cC hr
  obtain ⟨w0,ho,hw⟩:=M.obj
  have M1:=M.more (le_succ B) (by omega)
  refine ⟨_,aw (bU (aF bQ (au aK (bu (pv 0) rfl) (au az (pv 1) ai (fun _ _=>rfl)) (fun _ _=>rfl)) ai (aO _)) (aw (dq (pv 0) (au az (pv 1) ai (fun _ _=>rfl)) rfl)) aM),?_⟩
  refine ⟨_,rfl,x,C,m.dx,_,_,rfl,ho,T.cl,T.nB,dU,_,rfl,q,_,_,.int b,rfl,rfl,aS.of hq,at1 _ _ _,m.p2,_,_,_,rfl,rfl,bh.of M.box,M.at hb,rfl,_,rfl,?_⟩
  refine dk (fun e=>?_) (fun e=>?_)
  ·have e:=V.int.inj (of_decide_eq_true e)
   refine ⟨_,rfl,q,_,_,.int t,rfl,rfl,aS.of hq,at2 _ _ _ _,_,rfl,x,C,m.dx,_,rfl,ho,T.cl,T.nH,jO,?_⟩
   rw [jf]
   rw [if_pos e] at k
   exact k _ (Fr.upd (.inl rfl)) (M1.put (k':=z.k) (hV:=.int t) hw)
  ·rw [if_neg (fun c=>e (decide_eq_true (congrArg V.int c))),← hh] at k
   exact k _ Fr.refl M1
theorem C0:aJ ["machine", "row"] ["machine", "row"] (ak nW):=⟨rfl,rfl,rfl,by decide +kernel,rfl,by decide +kernel,by decide +kernel⟩
theorem C1 {f C:Addr} {fd:FuncData} (F:dJ K "do_below" "do_below" nW f fd) (T:kX K mg C):aR P w K mg base bV 1 f fd ["machine", "row"] (yR C):=by
 refine F.ok C0 (fun vs H Q E h=>?_) (fun cdv A outer s H vs Q E hr h=>?_)
 ·obtain ⟨x,q,m,rows,aB,B,z,h,u,b,t,f,rfl,_⟩:=h
  rfl
 ·obtain ⟨x,q,m,rows,aB,B,z,h,u,b,t,f,rfl,M,hB,hh,hq,hb,k⟩:=h
  have hu:=cC hr
  obtain ⟨w0,ho,hw⟩:=M.obj
  have M1:=M.more (le_succ B) (by omega)
  refine ⟨_,aw (bU (aF iu (au aK (bu (pv 0) rfl) (au az (pv 1) ai (fun _ _=>rfl)) (fun _ _=>rfl)) ai (aO _)) (aw (dq (pv 0) (au az (pv 1) ai (fun _ _=>rfl)) rfl)) aM),?_⟩
  refine ⟨_,rfl,x,C,m.dx,_,_,rfl,ho,T.cl,T.nB,dU,_,rfl,q,_,_,.int b,rfl,rfl,aS.of hq,at1 _ _ _,m.p2,_,_,_,rfl,rfl,bh.of M.box,M.at hb,_,_,rfl,rfl,_,rfl,?_⟩
  refine dk (fun e=>?_) (fun e=>?_)
  ·have e:=of_decide_eq_true e
   refine ⟨_,rfl,q,_,_,.int t,rfl,rfl,aS.of hq,at2 _ _ _ _,_,rfl,x,C,m.dx,_,rfl,ho,T.cl,T.nH,jO,?_⟩
   rw [jf]
   rw [if_pos e] at k
   exact k _ (Fr.upd (.inl rfl)) (M1.put (k':=z.k) (hV:=.int t) hw)
  ·rw [if_neg (fun c=>e (decide_eq_true c)),← hh] at k
   exact k _ Fr.refl M1
theorem FW:aJ ["machine", "row"] ["machine", "row"] (ak sI):=⟨rfl,rfl,rfl,by decide +kernel,rfl,by decide +kernel,by decide +kernel⟩
theorem FX {f C:Addr} {fd:FuncData} (F:dJ K "do_stop" "do_stop" sI f fd) (T:kX K mg C)
  {fE:Addr} {Il:FuncData} (GE:aR P w K mg base bV 1 fE Il ["machine", "how"] (yT C)) (kE:KI K fE) (bE:Binds K Il ["machine", "how"] []) (mE:mg "end" = some (.ref fE)):aR P w K mg base bV 2 f fd ["machine", "row"] (CV C):=by
 refine F.ok FW (fun vs H Q E h=>?_) (fun cdv A outer s H vs Q E hr h=>?_)
 ·obtain ⟨x,q,m,rows,aB,B,z,h,u,items,rfl,_⟩:=h
  rfl
 ·obtain ⟨x,q,m,rows,aB,B,z,h,u,items,rfl,M,hB,hh,hq,k⟩:=h
  have hu:=cC hr
  obtain ⟨w0,ho,hw⟩:=M.obj
  have M1:=M.more (le_succ B) (by omega)
  refine ⟨_,aw (bJ (aQ GE hr rfl mE kE bE .nil bp (ae (pv 0) (ae (aX (ae aq ao)) ao)))),?_⟩
  refine ⟨_,rfl,oN,fun t nt=>?_⟩
  have s1:=aj (o:=.tup [.str "stop"]) nt
  exact ⟨x,t,_,m,rows,aB,B + 1,z,rfl,ah,M1.same s1,fun H' e=>k H' ((Fr.same s1).trans e)⟩
theorem FY:aJ ["machine", "row"] ["machine", "row"] (ak sJ):=⟨rfl,rfl,rfl,by decide +kernel,rfl,by decide +kernel,by decide +kernel⟩
theorem FZ {f C:Addr} {fd:FuncData} (F:dJ K "do_halt" "do_halt" sJ f fd) (T:kX K mg C)
  {fE:Addr} {Il:FuncData} (GE:aR P w K mg base bV 1 fE Il ["machine", "how"] (yT C)) (kE:KI K fE) (bE:Binds K Il ["machine", "how"] []) (mE:mg "end" = some (.ref fE)):aR P w K mg base bV 2 f fd ["machine", "row"] (CW C):=by
 refine F.ok FY (fun vs H Q E h=>?_) (fun cdv A outer s H vs Q E hr h=>?_)
 ·obtain ⟨x,q,m,rows,aB,B,z,h,u,v,rfl,_⟩:=h
  rfl
 ·obtain ⟨x,q,m,rows,aB,B,z,h,u,v,rfl,M,hB,hh,hq,k⟩:=h
  have hu:=cC hr
  obtain ⟨w0,ho,hw⟩:=M.obj
  have M1:=M.more (le_succ B) (by omega)
  refine ⟨_,aw (bJ (aQ GE hr rfl mE kE bE .nil bp (ae (pv 0) (ae (aX (ae aq (ae (au az (pv 1) ai (fun _ _=>rfl)) ao))) ao)))),?_⟩
  refine ⟨_,rfl,_,rfl,q,_,_,.int v,rfl,rfl,aS.of hq,at1 _ _ _,cT,fun t nt=>?_⟩
  have s1:=aj (o:=.tup [.str "halt",.int v]) nt
  exact ⟨x,t,_,m,rows,aB,B + 1,z,rfl,ah,M1.same s1,fun H' e=>k H' ((Fr.same s1).trans e)⟩
theorem Ga:aJ ["machine", "row"] ["machine", "row"] (ak sL):=⟨rfl,rfl,rfl,by decide +kernel,rfl,by decide +kernel,by decide +kernel⟩
theorem Gb {f C:Addr} {fd:FuncData} (F:dJ K "do_back" "do_back" sL f fd) (T:kX K mg C)
  {fE:Addr} {Il:FuncData} (GE:aR P w K mg base bV 1 fE Il ["machine", "how"] (yT C)) (kE:KI K fE) (bE:Binds K Il ["machine", "how"] []) (mE:mg "end" = some (.ref fE)) (ln:mg "len" = none):aR P w K mg base bV 2 f fd ["machine", "row"] (CZ C):=by
 refine F.ok Ga (fun vs H Q E h=>?_) (fun cdv A outer s H vs Q E hr h=>?_)
 ·obtain ⟨x,q,m,rows,aB,B,z,h,u,items,rfl,_⟩:=h
  rfl
 ·obtain ⟨x,q,m,rows,aB,B,z,h,u,items,rfl,M,hB,hh,hq,k⟩:=h
  have hu:=cC hr
  obtain ⟨w0,ho,hw⟩:=M.obj
  have M1:=M.more (le_succ B) (by omega)
  refine ⟨_,aw (bU (aF bQ (bf aZ (by rfl) ln cV (ae (bu (pv 0) rfl) ao)) ai (aO _)) (aw (bJ (aQ GE hr (by rfl) mE kE bE .nil bp (ae (pv 0) (ae (aX (ae aq ao)) ao))))) (aw (dq (pv 0) (BP PySem.F.plainAttrs_list PySem.F.slot_list_pop PySem.F.type_list_pop BQ (bu (pv 0) rfl)) rfl))),?_⟩
  refine ⟨_,rfl,x,C,m.dx,_,_,rfl,ho,T.cl,T.nL,wK,m.p8,_,rfl,.inl (bh.of M.gw),rfl,_,rfl,?_⟩
  refine dk (fun e=>?_) (fun e=>?_)
  ·have e:=V.int.inj (of_decide_eq_true e)
   rw [length_map] at e
   have e2:z.pile=[]:=List.eq_nil_of_length_eq_zero (by omega)
   refine ⟨_,rfl,oN,fun t nt=>?_⟩
   have s1:=aj (o:=.tup [.str "home"]) nt
   exact ⟨x,t,_,m,rows,aB,B + 1,z,rfl,ah,M1.same s1,fun H' e=>k.1 e2 H' ((Fr.same s1).trans e)⟩
  ·have e2:z.pile ≠ []:=fun c=>e (by rw [c]; exact decide_eq_true rfl)
   obtain ⟨r,p,e3⟩:∃ r p,z.pile=r ++ [p]:=⟨z.pile.dropLast,z.pile.getLast e2,(List.dropLast_concat_getLast e2).symm⟩
   have hl:(z.pile.map V.int)[(z.pile.map V.int).length - 1]? = some (V.int p):=by
    rw [e3]
    simp
   have hd:(z.pile.map V.int).dropLast=r.map V.int:=by
    rw [e3]
    simp
   refine ⟨_,rfl,x,C,m.dx,_,_,rfl,ho,T.cl,T.nL,wK,.inl ⟨rfl,_,bh.of M.gw⟩,m.p8,_,V.int p,rfl,rfl,M.gw,hl,?_⟩
   rw [hd]
   have M2:=M1.qZ (p':=r) (by have:=M.lens.2.2; have:z.pile.length=r.length + 1:=(by rw [e3]; simp); omega)
   obtain ⟨w2,ho2,hw2⟩:=M2.obj
   refine ⟨_,rfl,x,C,m.dx,_,rfl,ho2,T.cl,T.nH,jO,?_⟩
   rw [jf]
   exact k.2 r p e3 _ ((Fr.upd (.inr (.inr (.inr (.inr (.inr (.inr (.inr rfl)))))))).trans (Fr.upd (.inl rfl))) (M2.put (k':=z.k) (hV:=.int p) hw2)
theorem Gc:aJ ["machine", "row"] ["machine", "row"] (ak sY):=⟨rfl,rfl,rfl,by decide +kernel,rfl,by decide +kernel,by decide +kernel⟩
theorem yU {f C:Addr} {fd:FuncData} (F:dJ K "do_call" "do_call" sY f fd) (T:kX K mg C):aR P w K mg base bV 1 f fd ["machine", "row"] (wN C):=by
 refine F.ok Gc (fun vs H Q E h=>?_) (fun cdv A outer s H vs Q E hr h=>?_)
 ·obtain ⟨x,q,m,rows,aB,B,z,h,u,t,f,rfl,_⟩:=h
  rfl
 ·obtain ⟨x,q,m,rows,aB,B,z,h,u,t,f,rfl,M,hB,hh,hq,k⟩:=h
  have hu:=cC hr
  obtain ⟨w0,ho,hw⟩:=M.obj
  have M1:=M.more (le_succ B) (by omega)
  refine ⟨_,aA (bJ (gn PySem.F.plainAttrs_list PySem.F.slot_list_append PySem.F.type_list_append cr (bu (pv 0) rfl) (ae (bu (pv 0) rfl) ao))) (aw (dq (pv 0) (au az (pv 1) ai (fun _ _=>rfl)) rfl)),?_⟩
  have hb9:=M.big
  have hl:=M.lens
  have hf:(eQ m z.k z.here w0).lookup ("here" : Str)=some (V.int h):=by rw [oV,hh]
  refine ⟨_,rfl,x,C,m.dx,_,_,rfl,ho,T.cl,T.nL,wK,.inl ⟨rfl,_,bh.of M.gw⟩,_,rfl,x,C,m.dx,_,_,rfl,ho,T.cl,T.nH,hf,m.p8,_,_,rfl,rfl,M.gw,(by rw [length_map]; exact bw (by omega)),?_⟩
  rw [show z.pile.map V.int ++ [V.int h]=(z.pile ++ [h]).map V.int by simp]
  have M2:=M1.qZ (p':=z.pile ++ [h]) (by rw [length_append]; show z.pile.length + 1 ≤ B + 1; omega)
  obtain ⟨w2,ho2,hw2⟩:=M2.obj
  have hq2:upd H m.p8 (.lst ((z.pile ++ [h]).map V.int)) q=some (.tup [.str u,.int t,.int f]):=by
   rw [aL (bF hq M.gw (by intro z; cases z))]
   exact hq
  refine ⟨_,rfl,q,_,_,.int t,rfl,rfl,aS.of hq2,at1 _ _ _,_,rfl,x,C,m.dx,_,rfl,ho2,T.cl,T.nH,jO,?_⟩
  rw [jf]
  exact k _ ((Fr.upd (.inr (.inr (.inr (.inr (.inr (.inr (.inr rfl)))))))).trans (Fr.upd (.inl rfl))) (M2.put (k':=z.k) (hV:=.int t) hw2)
theorem yV:aJ ["machine", "row", "number"] ["machine", "row"] (ak sZ):=⟨rfl,rfl,rfl,by decide +kernel,rfl,by decide +kernel,by decide +kernel⟩
theorem Gd {f C:Addr} {fd:FuncData} (F:dJ K "do_mark" "do_mark" sZ f fd) (T:kX K mg C)
  {fC:Addr} {Im:FuncData} (GC:aR P w K mg base bV 1 fC Im ["machine", "row"] (wN C)) (kC:KI K fC) (bC:Binds K Im ["machine", "row"] []) (mC:mg "do_call" = some (.ref fC)):aR P w K mg base bV 2 f fd ["machine", "row"] (CY C):=by
 refine F.ok yV (fun vs H Q E h=>?_) (fun cdv A outer s H vs Q E hr h=>?_)
 ·obtain ⟨x,q,m,rows,aB,B,z,h,u,t,f,o,rfl,_⟩:=h
  rfl
 ·obtain ⟨x,q,m,rows,aB,B,z,h,u,t,f,o,rfl,M,hB,hh,hq,hv,k⟩:=h
  have hu:=cC hr
  obtain ⟨w0,ho,hw⟩:=M.obj
  have M1:=M.more (le_succ B) (by omega)
  refine ⟨_,aA (aV (i:=2) yV.nd rfl (Or.inl rfl) (bu (pv 0) rfl)) (aA (dq (pv 0) (aN dn (pv 2) ai) rfl) (aw (bU (Bv (JE hu (pv 2) (bu (pv 0) rfl))) (aw (bJ (aQ GC hr (by rfl) mC kC bC .nil bp (ae (pv 0) (ae (pv 1) ao))))) aM))),?_⟩
  refine ⟨_,rfl,x,C,m.dx,_,_,rfl,ho,T.cl,T.nM,Fx,?_⟩
  refine ⟨_,rfl,_,_,rfl,rfl,_,rfl,x,C,m.dx,_,rfl,ho,T.cl,T.nM,jO,?_⟩
  rw [Fy]
  have M2:=M.put (k':=z.k + 1) (hV:=z.here) hw
  refine ⟨_,rfl,_,rfl,x,C,m.dx,_,_,rfl,ah,T.cl,T.nR,J9,m.p5,_,rfl,iL.k (k:=Sum.inl z.k) M2.rg,_,rfl,?_⟩
  rw [hv]
  refine dk (fun e=>?_) (fun e=>?_)
  ·have hq2:upd H x (.ins C m.dx (eQ m (z.k + 1) z.here w0)) q=some (.tup [.str u,.int t,.int f]):=by
    rw [aL (bF hq ho (by intro z; cases z))]
    exact hq
   exact ⟨_,rfl,_,rfl,x,q,m,rows,aB,B,_,h,u,t,f,rfl,M2,hB,hh,hq2,fun H' e1 e2=>k.1 e H' ((Fr.upd (.inl rfl)).trans e1) e2⟩
  ·exact k.2 (by simpa using e) _ (Fr.upd (.inl rfl)) (M2.more (le_succ B) (by omega))
theorem vm:aJ ["machine", "row", "k"] ["machine", "row"] (ak nX):=⟨rfl,rfl,rfl,by decide +kernel,rfl,by decide +kernel,by decide +kernel⟩
theorem C2 {f C:Addr} {fd:FuncData} (F:dJ K "do_table" "do_table" nX f fd) (T:kX K mg C) (ln:mg "len" = none):aR P w K mg base bV 1 f fd ["machine", "row"] (yS C):=by
 refine F.ok vm (fun vs H Q E h=>?_) (fun cdv A outer s H vs Q E hr h=>?_)
 ·obtain ⟨x,q,m,rows,aB,B,z,h,u,b,p,ts,rfl,_⟩:=h
  rfl
 ·obtain ⟨x,q,m,rows,aB,B,z,h,u,b,p,ts,rfl,M,hB,hh,hq,hb,hp,k⟩:=h
  have hu:=cC hr
  obtain ⟨w0,ho,hw⟩:=M.obj
  have M1:=M.more (le_succ B) (by omega)
  refine ⟨_,aA (aV (i:=2) vm.nd rfl (Or.inl rfl) (au aK (bu (pv 0) rfl) (au az (pv 1) ai (fun _ _=>rfl)) (fun _ _=>rfl))) (aw (bU (j5 om iu ai (pv 2) (bf aZ (by rfl) ln cV (ae (au az (pv 1) ai (fun _ _=>rfl)) ao))) (aw (dq (pv 0) (au az (au az (pv 1) ai (fun _ _=>rfl)) (pv 2) (fun _ _=>rfl)) rfl)) aM)),?_⟩
  refine ⟨_,rfl,x,C,m.dx,_,_,rfl,ho,T.cl,T.nB,dU,_,rfl,q,_,_,.int b,rfl,rfl,aS.of hq,at1 _ _ _,m.p2,_,_,_,rfl,rfl,bh.of M.box,M.at hb,?_⟩
  unfold Zt.bx at k
  generalize z.bs.getD b.toNat 0=c at k
  refine ⟨_,rfl,_,_,rfl,rfl,_,rfl,?_⟩
  refine dk (fun e1=>?_) (fun e1=>?_)
  ·have e1:=of_decide_eq_true e1
   refine ⟨_,rfl,q,_,_,.ref p,rfl,rfl,aS.of hq,at2 _ _ _ _,p,_,rfl,.inr (aS.of hp),_,_,rfl,rfl,_,rfl,?_⟩
   refine dk (fun e2=>?_) (fun e2=>?_)
   ·have e2:=of_decide_eq_true e2
    rw [length_map] at e2
    obtain ⟨j,rfl⟩:=Int.eq_ofNat_of_zero_le e1
    have hj:j < ts.length:=by omega
    have hat:lX (ts.map V.int) (j:Int)=some (.int (ts.getD j 0)):=by
     refine ck (j:=j) ?_
     rw [List.getElem?_map,List.getElem?_eq_getElem hj,List.getD_eq_getElem?_getD,List.getElem?_eq_getElem hj]
     rfl
    refine ⟨_,rfl,q,_,_,.ref p,rfl,rfl,aS.of hq,at2 _ _ _ _,_,rfl,p,_,_,_,rfl,rfl,aS.of hp,hat,_,rfl,x,C,m.dx,_,rfl,ho,T.cl,T.nH,jO,?_⟩
    rw [jf]
    rw [if_pos ⟨e1,e2⟩,Int.toNat_natCast] at k
    exact k _ (Fr.upd (.inl rfl)) (M1.put (k':=z.k) (hV:=.int (ts.getD j 0)) hw)
   ·rw [if_neg (fun c=>e2 (decide_eq_true (by rw [length_map]; exact c.2))),← hh] at k
    exact k _ Fr.refl M1
  ·rw [if_neg (fun c=>e1 (decide_eq_true c.1)),← hh] at k
   exact ⟨_,rfl,ie (k _ Fr.refl M1)⟩
end
abbrev rc:Stmt:=inClass (top 30) 0
abbrev rh:Stmt:=inClass (top 30) 1
abbrev rj:Stmt:=inClass (top 30) 10
theorem tf:bootBuiltins "dict" = some (.type "dict"):=by decide +kernel
def bt (a:Addr) (H H':Hp):Prop:=∀ c o,c ≠ a→H c=some o→H' c=some o
theorem bt.refl {a:Addr} {H:Hp}:bt a H H:=fun _ _ _ e=>e
theorem bt.trans {a:Addr} {H H' H'':Hp} (e:bt a H H') (e':bt a H' H''):bt a H H'':=fun c o n h=>e' c o n (e c o n h)
theorem bt.put {a:Addr} {H:Hp} {o:HO}:bt a H (upd H a o):=fun c u n h=>by rw [aL n]; exact h
theorem bt.same {a:Addr} {H H':Hp} (e:Same H H'):bt a H H':=fun c o _ h=>e c o h
theorem bt.free {l:Addr} {H H1:Hp} {q:Addr} (x:bt l H H1) (h:q ≠ l) (n:H1 q=none):H q=none:=by
 cases e:H q with
 | none=>rfl
 | some o=>rw [x q o h e] at n; exact absurd n (by simp)
section
variable {P:Program} {w:World} {K:Frag} {mg:Str→Option Value} {base:Heap}
def z0 (bs:List Int) (cf:Int→Int):Zt:=⟨.int 0,none,bs,cf,fun _=>0,[],[],[],0⟩
def C3 (C:Addr):Sp:=fun vs H Q _=>∃ (x dx a1 a2 a3 a4:Addr) (rows:List V) (bs bells:List Int) (d0:List (Key × V)) (cf:Int→Int),vs=[.ref x,.ref a1,.ref a2,.ref a3,.ref a4]∧H x=some (.ins C dx [])∧H a1=some (.lst rows)∧H a2=some (.lst (bs.map V.int))∧bs.length=8 ∧
 H a3=some (.dK d0)∧Rep d0 cf∧d0.length ≤ 50∧H a4=some (.lst (bells.map V.int))∧bells.length ≤ 100∧∀ (m:MA) (aB:List (Key × V)) (H':Hp),(∀ j:Int,(cw aB (Sum.inl j)).isSome=decide (j ∈ bells))→MG C H' x m rows aB 50 (z0 bs cf)→bt x H H'→(∀ c,Own m x c∨c=m.p1→c ≠ x→H c=none)→Q .non H'
theorem C4:aJ ["self", "rows", "boxes", "cells", "bells", "bell"] ["self", "rows", "boxes", "cells", "bells"] (ak rc):=⟨rfl,rfl,rfl,by decide +kernel,rfl,by decide +kernel,by decide +kernel⟩
theorem Ge {f C:Addr} {fd:FuncData} (F:dJ K "__init__" "Machine.__init__" rc f fd) (TT:Txt K w.params mg) (T:kX K mg C):aR P w K mg base bV 1 f fd ["self", "rows", "boxes", "cells", "bells"] (C3 C):=by
 refine F.ok C4 (fun vs H Q E h=>?_) (fun cdv A outer s H vs Q E hr h=>?_)
 ·obtain ⟨x,dx,a1,a2,a3,a4,rows,bs,bells,d0,cf,rfl,_⟩:=h
  rfl
 ·obtain ⟨x,dx,a1,a2,a3,a4,rows,bs,bells,d0,cf,rfl,hx,h1,h2,b8,h3,hrep,hdl,h4,bl,z⟩:=h
  have hu:=cC hr
  refine ⟨_,aA (dq (pv 0) (cI dY (by rfl) TT.list hU (ae (pv 1) ao)) rfl)
   (aA (dq (pv 0) (cI dY (by rfl) TT.list hU (ae (pv 2) ao)) rfl)
   (aA (dq (pv 0) (cI km (by rfl) TT.dict tf (ae (pv 3) ao)) rfl)
   (aA (dq (pv 0) i9 rfl) (aA (dq (pv 0) i9 rfl)
   (aA (gM PassesOwn.never rfl (dI (pv 4)) (cD (i:=5) C4.nd rfl (Or.inl rfl)) (aw (dh hu (bu (pv 0) rfl) (pv 5) lT rfl)))
   (aA (dq (pv 0) (cu ao) rfl) (aA (dq (pv 0) (cu ao) rfl) (aA (dq (pv 0) (cu ao) rfl)
   (aA (dq (pv 0) ai rfl) (aA (dq (pv 0) ai rfl) (aw (dq (pv 0) ef rfl)))))))))))),?_⟩
  have xa:∀ {a o},H a=some o→(∀ fs,o ≠ .ins C dx fs)→a ≠ x:=fun {a o} e n=>bF e hx (n _)
  have x1:=xa h1 (by intro _ z; cases z)
  have x2:=xa h2 (by intro _ z; cases z)
  have x3:=xa h3 (by intro _ z; cases z)
  have x4:=xa h4 (by intro _ z; cases z)
  have S0:bt x H H:=bt.refl
  have O0:=hx
  refine ⟨_,rfl,a1,_,rfl,.inl (bh.of h1),fun p1 n1=>?_⟩
  have y1:p1 ≠ x:=(ay O0 n1).symm
  have f1:H p1=none:=S0.free y1 n1
  refine ⟨_,rfl,x,C,dx,([]:List (Str × V)),rfl,aj n1 _ _ O0,T.cl,T.nP,(by show 0 < 1000; decide),?_⟩
  rw [show dX ("program" : Str) (V.ref p1) ([]:List (Str × V))=(List.zip ["program"] [V.ref p1]:List (Str × V)) from rfl]
  obtain ⟨G1,E1⟩:∃ G,G=upd (upd H p1 (.lst rows)) x (.ins C dx (List.zip ["program"] [V.ref p1]:List (Str × V))):=⟨_,rfl⟩
  have R1:bt x H G1:=by rw [E1]; exact (bt.same (aj n1)).trans bt.put
  have K1:G1 p1=some (.lst rows):=by rw [E1,aL y1]; exact ah
  have O1:G1 x=some (.ins C dx (List.zip ["program"] [V.ref p1]:List (Str × V))):=by rw [E1]; exact ah
  have S1:bt x H G1:=S0.trans R1
  rw [← E1]
  clear E1
  refine ⟨_,rfl,a2,_,rfl,.inl (bh.of (S1 _ _ x2 h2)),fun p2 n2=>?_⟩
  have y2:p2 ≠ x:=(ay O1 n2).symm
  have f2:H p2=none:=S1.free y2 n2
  refine ⟨_,rfl,x,C,dx,(List.zip ["program"] [V.ref p1]:List (Str × V)),rfl,aj n2 _ _ O1,T.cl,T.nB,(by show 1 < 1000; decide),?_⟩
  rw [show dX ("in_boxes" : Str) (V.ref p2) (List.zip ["program"] [V.ref p1]:List (Str × V))=(List.zip ["program", "in_boxes"] [V.ref p1,V.ref p2]:List (Str × V)) from fc _ _ _ _ (by decide +kernel) rfl]
  obtain ⟨G2,E2⟩:∃ G,G=upd (upd G1 p2 (.lst (bs.map V.int))) x (.ins C dx (List.zip ["program", "in_boxes"] [V.ref p1,V.ref p2]:List (Str × V))):=⟨_,rfl⟩
  have R2:bt x G1 G2:=by rw [E2]; exact (bt.same (aj n2)).trans bt.put
  have K2:G2 p2=some (.lst (bs.map V.int)):=by rw [E2,aL y2]; exact ah
  have O2:G2 x=some (.ins C dx (List.zip ["program", "in_boxes"] [V.ref p1,V.ref p2]:List (Str × V))):=by rw [E2]; exact ah
  have S2:bt x H G2:=S1.trans R2
  rw [← E2]
  clear E2
  refine ⟨_,rfl,a3,_,rfl,S2 _ _ x3 h3,fun p3 n3=>?_⟩
  have y3:p3 ≠ x:=(ay O2 n3).symm
  have f3:H p3=none:=S2.free y3 n3
  refine ⟨_,rfl,x,C,dx,(List.zip ["program", "in_boxes"] [V.ref p1,V.ref p2]:List (Str × V)),rfl,aj n3 _ _ O2,T.cl,T.nC,(by show 2 < 1000; decide),?_⟩
  rw [show dX ("in_cells" : Str) (V.ref p3) (List.zip ["program", "in_boxes"] [V.ref p1,V.ref p2]:List (Str × V))=(List.zip ["program", "in_boxes", "in_cells"] [V.ref p1,V.ref p2,V.ref p3]:List (Str × V)) from fc _ _ _ _ (by decide +kernel) rfl]
  obtain ⟨G3,E3⟩:∃ G,G=upd (upd G2 p3 (.dK d0)) x (.ins C dx (List.zip ["program", "in_boxes", "in_cells"] [V.ref p1,V.ref p2,V.ref p3]:List (Str × V))):=⟨_,rfl⟩
  have R3:bt x G2 G3:=by rw [E3]; exact (bt.same (aj n3)).trans bt.put
  have K3:G3 p3=some (.dK d0):=by rw [E3,aL y3]; exact ah
  have O3:G3 x=some (.ins C dx (List.zip ["program", "in_boxes", "in_cells"] [V.ref p1,V.ref p2,V.ref p3]:List (Str × V))):=by rw [E3]; exact ah
  have S3:bt x H G3:=S2.trans R3
  rw [← E3]
  clear E3
  intro p4 n4
  have y4:p4 ≠ x:=(ay O3 n4).symm
  have f4:H p4=none:=S3.free y4 n4
  refine ⟨_,rfl,x,C,dx,(List.zip ["program", "in_boxes", "in_cells"] [V.ref p1,V.ref p2,V.ref p3]:List (Str × V)),rfl,aj n4 _ _ O3,T.cl,T.nA,(by show 3 < 1000; decide),?_⟩
  rw [show dX ("in_asides" : Str) (V.ref p4) (List.zip ["program", "in_boxes", "in_cells"] [V.ref p1,V.ref p2,V.ref p3]:List (Str × V))=(List.zip ["program", "in_boxes", "in_cells", "in_asides"] [V.ref p1,V.ref p2,V.ref p3,V.ref p4]:List (Str × V)) from fc _ _ _ _ (by decide +kernel) rfl]
  obtain ⟨G4,E4⟩:∃ G,G=upd (upd G3 p4 (.dK [])) x (.ins C dx (List.zip ["program", "in_boxes", "in_cells", "in_asides"] [V.ref p1,V.ref p2,V.ref p3,V.ref p4]:List (Str × V))):=⟨_,rfl⟩
  have R4:bt x G3 G4:=by rw [E4]; exact (bt.same (aj n4)).trans bt.put
  have K4:G4 p4=some (.dK []):=by rw [E4,aL y4]; exact ah
  have O4:G4 x=some (.ins C dx (List.zip ["program", "in_boxes", "in_cells", "in_asides"] [V.ref p1,V.ref p2,V.ref p3,V.ref p4]:List (Str × V))):=by rw [E4]; exact ah
  have S4:bt x H G4:=S3.trans R4
  rw [← E4]
  clear E4
  intro p5 n5
  have y5:p5 ≠ x:=(ay O4 n5).symm
  have f5:H p5=none:=S4.free y5 n5
  refine ⟨_,rfl,x,C,dx,(List.zip ["program", "in_boxes", "in_cells", "in_asides"] [V.ref p1,V.ref p2,V.ref p3,V.ref p4]:List (Str × V)),rfl,aj n5 _ _ O4,T.cl,T.nR,(by show 4 < 1000; decide),?_⟩
  rw [show dX ("rung" : Str) (V.ref p5) (List.zip ["program", "in_boxes", "in_cells", "in_asides"] [V.ref p1,V.ref p2,V.ref p3,V.ref p4]:List (Str × V))=(List.zip ["program", "in_boxes", "in_cells", "in_asides", "rung"] [V.ref p1,V.ref p2,V.ref p3,V.ref p4,V.ref p5]:List (Str × V)) from fc _ _ _ _ (by decide +kernel) rfl]
  obtain ⟨G5,E5⟩:∃ G,G=upd (upd G4 p5 (.dK [])) x (.ins C dx (List.zip ["program", "in_boxes", "in_cells", "in_asides", "rung"] [V.ref p1,V.ref p2,V.ref p3,V.ref p4,V.ref p5]:List (Str × V))):=⟨_,rfl⟩
  have R5:bt x G4 G5:=by rw [E5]; exact (bt.same (aj n5)).trans bt.put
  have K5:G5 p5=some (.dK []):=by rw [E5,aL y5]; exact ah
  have O5:G5 x=some (.ins C dx (List.zip ["program", "in_boxes", "in_cells", "in_asides", "rung"] [V.ref p1,V.ref p2,V.ref p3,V.ref p4,V.ref p5]:List (Str × V))):=by rw [E5]; exact ah
  have S5:bt x H G5:=S4.trans R5
  rw [← E5]
  clear E5
  refine ⟨_,rfl,a4,rfl,⟨_,bh.of (S5 _ _ x4 h4)⟩,i5 (xs:=bells.map V.int) (fun i σ Hc=>∃ (v:Option V) (aB:List (Key × V)),σ=[some (.ref x),some (.ref a1),some (.ref a2),some (.ref a3),some (.ref a4),v]∧(∀ c o,c ≠ p5→G5 c=some o→Hc c=some o)∧Hc p5=some (.dK aB)∧aB.length ≤ i∧∀ j:Int,(cw aB (Sum.inl j)).isSome=decide (j ∈ bells.take i)) ?_ ?_ ?_ ?_⟩
  ·exact ⟨none,[],rfl,fun _ _ _ e=>e,K5,le_refl _,fun j=>by simp [cw]⟩
  ·rintro i σ Hc _ ⟨v,aB,rfl,e5,_⟩
   have q5:a4 ≠ p5:=ay h4 f5
   exact bh.of (e5 _ _ q5 (S5 _ _ x4 h4))
  ·rintro i y σ Hc hy ⟨v,aB,rfl,e5,k5,rl,rv⟩
   rw [List.getElem?_map] at hy
   obtain ⟨b,hb,rfl⟩:=map_eq_some_iff.mp hy
   have hil:=(List.getElem?_eq_some_iff.mp hb).1
   refine ⟨_,rfl,x,C,dx,_,_,rfl,e5 _ _ y5.symm O5,T.cl,T.nR,(dv ["program", "in_boxes", "in_cells", "in_asides", "rung"] _ 4 _ (by decide +kernel) rfl),_,rfl,p5,_,rfl,ic.k (k:=Sum.inl b) k5 (bw (by omega)),?_⟩
   refine ⟨_,_,rfl,fun c o n e=>?_,ah,?_,fun j=>?_⟩
   ·rw [aL n]
    exact e5 c o n e
   ·have:=dg aB (Sum.inl b:Key) (V.bl true)
    omega
   ·rw [oq,List.take_succ,hb]
    by_cases hj:j=b
    ·subst hj
     rw [if_pos rfl]
     simp
    ·rw [if_neg (by intro e; exact hj (Sum.inl.inj e)),rv j]
     simp [hj]
  ·rintro σ QC ⟨v,aB,rfl,e5,k5,rl,rv⟩
   rw [length_map,take_length] at rv
   have O5':=e5 _ _ y5.symm O5
   have S5':bt x H QC:=fun c o n e=>by
    have hc:c ≠ p5:=ay e f5
    exact e5 c o hc (S5 c o n e)
   refine ⟨lL,fun p6 n6=>?_⟩
   have y6:p6 ≠ x:=(ay O5' n6).symm
   have f6:H p6=none:=S5'.free y6 n6
   refine ⟨_,rfl,x,C,dx,(List.zip ["program", "in_boxes", "in_cells", "in_asides", "rung"] [V.ref p1,V.ref p2,V.ref p3,V.ref p4,V.ref p5]:List (Str × V)),rfl,aj n6 _ _ O5',T.cl,T.nT,(by show 5 < 1000; decide),?_⟩
   rw [show dX ("told_numbers" : Str) (V.ref p6) (List.zip ["program", "in_boxes", "in_cells", "in_asides", "rung"] [V.ref p1,V.ref p2,V.ref p3,V.ref p4,V.ref p5]:List (Str × V))=(List.zip ["program", "in_boxes", "in_cells", "in_asides", "rung", "told_numbers"] [V.ref p1,V.ref p2,V.ref p3,V.ref p4,V.ref p5,V.ref p6]:List (Str × V)) from fc _ _ _ _ (by decide +kernel) rfl]
   obtain ⟨G6,E6⟩:∃ G,G=upd (upd QC p6 (.lst [])) x (.ins C dx (List.zip ["program", "in_boxes", "in_cells", "in_asides", "rung", "told_numbers"] [V.ref p1,V.ref p2,V.ref p3,V.ref p4,V.ref p5,V.ref p6]:List (Str × V))):=⟨_,rfl⟩
   have R6:bt x QC G6:=by rw [E6]; exact (bt.same (aj n6)).trans bt.put
   have K6:G6 p6=some (.lst []):=by rw [E6,aL y6]; exact ah
   have O6:G6 x=some (.ins C dx (List.zip ["program", "in_boxes", "in_cells", "in_asides", "rung", "told_numbers"] [V.ref p1,V.ref p2,V.ref p3,V.ref p4,V.ref p5,V.ref p6]:List (Str × V))):=by rw [E6]; exact ah
   have S6:bt x H G6:=S5'.trans R6
   rw [← E6]
   clear E6
   refine ⟨lL,fun p7 n7=>?_⟩
   have y7:p7 ≠ x:=(ay O6 n7).symm
   have f7:H p7=none:=S6.free y7 n7
   refine ⟨_,rfl,x,C,dx,(List.zip ["program", "in_boxes", "in_cells", "in_asides", "rung", "told_numbers"] [V.ref p1,V.ref p2,V.ref p3,V.ref p4,V.ref p5,V.ref p6]:List (Str × V)),rfl,aj n7 _ _ O6,T.cl,T.nS,(by show 6 < 1000; decide),?_⟩
   rw [show dX ("seen_numbers" : Str) (V.ref p7) (List.zip ["program", "in_boxes", "in_cells", "in_asides", "rung", "told_numbers"] [V.ref p1,V.ref p2,V.ref p3,V.ref p4,V.ref p5,V.ref p6]:List (Str × V))=(List.zip ["program", "in_boxes", "in_cells", "in_asides", "rung", "told_numbers", "seen_numbers"] [V.ref p1,V.ref p2,V.ref p3,V.ref p4,V.ref p5,V.ref p6,V.ref p7]:List (Str × V)) from fc _ _ _ _ (by decide +kernel) rfl]
   obtain ⟨G7,E7⟩:∃ G,G=upd (upd G6 p7 (.lst [])) x (.ins C dx (List.zip ["program", "in_boxes", "in_cells", "in_asides", "rung", "told_numbers", "seen_numbers"] [V.ref p1,V.ref p2,V.ref p3,V.ref p4,V.ref p5,V.ref p6,V.ref p7]:List (Str × V))):=⟨_,rfl⟩
   have R7:bt x G6 G7:=by rw [E7]; exact (bt.same (aj n7)).trans bt.put
   have K7:G7 p7=some (.lst []):=by rw [E7,aL y7]; exact ah
   have O7:G7 x=some (.ins C dx (List.zip ["program", "in_boxes", "in_cells", "in_asides", "rung", "told_numbers", "seen_numbers"] [V.ref p1,V.ref p2,V.ref p3,V.ref p4,V.ref p5,V.ref p6,V.ref p7]:List (Str × V))):=by rw [E7]; exact ah
   have S7:bt x H G7:=S6.trans R7
   rw [← E7]
   clear E7
   refine ⟨lL,fun p8 n8=>?_⟩
   have y8:p8 ≠ x:=(ay O7 n8).symm
   have f8:H p8=none:=S7.free y8 n8
   refine ⟨_,rfl,x,C,dx,(List.zip ["program", "in_boxes", "in_cells", "in_asides", "rung", "told_numbers", "seen_numbers"] [V.ref p1,V.ref p2,V.ref p3,V.ref p4,V.ref p5,V.ref p6,V.ref p7]:List (Str × V)),rfl,aj n8 _ _ O7,T.cl,T.nL,(by show 7 < 1000; decide),?_⟩
   rw [show dX ("pile" : Str) (V.ref p8) (List.zip ["program", "in_boxes", "in_cells", "in_asides", "rung", "told_numbers", "seen_numbers"] [V.ref p1,V.ref p2,V.ref p3,V.ref p4,V.ref p5,V.ref p6,V.ref p7]:List (Str × V))=(List.zip ["program", "in_boxes", "in_cells", "in_asides", "rung", "told_numbers", "seen_numbers", "pile"] [V.ref p1,V.ref p2,V.ref p3,V.ref p4,V.ref p5,V.ref p6,V.ref p7,V.ref p8]:List (Str × V)) from fc _ _ _ _ (by decide +kernel) rfl]
   obtain ⟨G8,E8⟩:∃ G,G=upd (upd G7 p8 (.lst [])) x (.ins C dx (List.zip ["program", "in_boxes", "in_cells", "in_asides", "rung", "told_numbers", "seen_numbers", "pile"] [V.ref p1,V.ref p2,V.ref p3,V.ref p4,V.ref p5,V.ref p6,V.ref p7,V.ref p8]:List (Str × V))):=⟨_,rfl⟩
   have R8:bt x G7 G8:=by rw [E8]; exact (bt.same (aj n8)).trans bt.put
   have K8:G8 p8=some (.lst []):=by rw [E8,aL y8]; exact ah
   have O8:G8 x=some (.ins C dx (List.zip ["program", "in_boxes", "in_cells", "in_asides", "rung", "told_numbers", "seen_numbers", "pile"] [V.ref p1,V.ref p2,V.ref p3,V.ref p4,V.ref p5,V.ref p6,V.ref p7,V.ref p8]:List (Str × V))):=by rw [E8]; exact ah
   have S8:bt x H G8:=S7.trans R8
   rw [← E8]
   clear E8
   refine ⟨_,rfl,x,C,dx,(List.zip ["program", "in_boxes", "in_cells", "in_asides", "rung", "told_numbers", "seen_numbers", "pile"] [V.ref p1,V.ref p2,V.ref p3,V.ref p4,V.ref p5,V.ref p6,V.ref p7,V.ref p8]:List (Str × V)),rfl,O8,T.cl,T.nM,(by show 8 < 1000; decide),?_⟩
   rw [show dX ("marks_done" : Str) (V.int 0) (List.zip ["program", "in_boxes", "in_cells", "in_asides", "rung", "told_numbers", "seen_numbers", "pile"] [V.ref p1,V.ref p2,V.ref p3,V.ref p4,V.ref p5,V.ref p6,V.ref p7,V.ref p8]:List (Str × V))=(List.zip ["program", "in_boxes", "in_cells", "in_asides", "rung", "told_numbers", "seen_numbers", "pile", "marks_done"] [V.ref p1,V.ref p2,V.ref p3,V.ref p4,V.ref p5,V.ref p6,V.ref p7,V.ref p8,V.int 0]:List (Str × V)) from fc _ _ _ _ (by decide +kernel) rfl]
   obtain ⟨G9,E9⟩:∃ G,G=upd G8 x (.ins C dx (List.zip ["program", "in_boxes", "in_cells", "in_asides", "rung", "told_numbers", "seen_numbers", "pile", "marks_done"] [V.ref p1,V.ref p2,V.ref p3,V.ref p4,V.ref p5,V.ref p6,V.ref p7,V.ref p8,V.int 0]:List (Str × V))):=⟨_,rfl⟩
   have R9:bt x G8 G9:=by rw [E9]; exact bt.put
   have O9:G9 x=some (.ins C dx (List.zip ["program", "in_boxes", "in_cells", "in_asides", "rung", "told_numbers", "seen_numbers", "pile", "marks_done"] [V.ref p1,V.ref p2,V.ref p3,V.ref p4,V.ref p5,V.ref p6,V.ref p7,V.ref p8,V.int 0]:List (Str × V))):=by rw [E9]; exact ah
   have S9:bt x H G9:=S8.trans R9
   rw [← E9]
   clear E9
   refine ⟨_,rfl,x,C,dx,(List.zip ["program", "in_boxes", "in_cells", "in_asides", "rung", "told_numbers", "seen_numbers", "pile", "marks_done"] [V.ref p1,V.ref p2,V.ref p3,V.ref p4,V.ref p5,V.ref p6,V.ref p7,V.ref p8,V.int 0]:List (Str × V)),rfl,O9,T.cl,T.nH,(by show 9 < 1000; decide),?_⟩
   rw [show dX ("here" : Str) (V.int 0) (List.zip ["program", "in_boxes", "in_cells", "in_asides", "rung", "told_numbers", "seen_numbers", "pile", "marks_done"] [V.ref p1,V.ref p2,V.ref p3,V.ref p4,V.ref p5,V.ref p6,V.ref p7,V.ref p8,V.int 0]:List (Str × V))=(List.zip ["program", "in_boxes", "in_cells", "in_asides", "rung", "told_numbers", "seen_numbers", "pile", "marks_done", "here"] [V.ref p1,V.ref p2,V.ref p3,V.ref p4,V.ref p5,V.ref p6,V.ref p7,V.ref p8,V.int 0,V.int 0]:List (Str × V)) from fc _ _ _ _ (by decide +kernel) rfl]
   obtain ⟨M6,E10⟩:∃ G,G=upd G9 x (.ins C dx (List.zip ["program", "in_boxes", "in_cells", "in_asides", "rung", "told_numbers", "seen_numbers", "pile", "marks_done", "here"] [V.ref p1,V.ref p2,V.ref p3,V.ref p4,V.ref p5,V.ref p6,V.ref p7,V.ref p8,V.int 0,V.int 0]:List (Str × V))):=⟨_,rfl⟩
   have M9:bt x G9 M6:=by rw [E10]; exact bt.put
   have O10:M6 x=some (.ins C dx (List.zip ["program", "in_boxes", "in_cells", "in_asides", "rung", "told_numbers", "seen_numbers", "pile", "marks_done", "here"] [V.ref p1,V.ref p2,V.ref p3,V.ref p4,V.ref p5,V.ref p6,V.ref p7,V.ref p8,V.int 0,V.int 0]:List (Str × V))):=by rw [E10]; exact ah
   have S10:bt x H M6:=S9.trans M9
   rw [← E10]
   clear E10
   refine ⟨_,rfl,x,C,dx,(List.zip ["program", "in_boxes", "in_cells", "in_asides", "rung", "told_numbers", "seen_numbers", "pile", "marks_done", "here"] [V.ref p1,V.ref p2,V.ref p3,V.ref p4,V.ref p5,V.ref p6,V.ref p7,V.ref p8,V.int 0,V.int 0]:List (Str × V)),rfl,O10,T.cl,T.nE,(by show 10 < 1000; decide),?_⟩
   rw [show dX ("how_ended" : Str) (V.non) (List.zip ["program", "in_boxes", "in_cells", "in_asides", "rung", "told_numbers", "seen_numbers", "pile", "marks_done", "here"] [V.ref p1,V.ref p2,V.ref p3,V.ref p4,V.ref p5,V.ref p6,V.ref p7,V.ref p8,V.int 0,V.int 0]:List (Str × V))=(List.zip ["program", "in_boxes", "in_cells", "in_asides", "rung", "told_numbers", "seen_numbers", "pile", "marks_done", "here", "how_ended"] [V.ref p1,V.ref p2,V.ref p3,V.ref p4,V.ref p5,V.ref p6,V.ref p7,V.ref p8,V.int 0,V.int 0,V.non]:List (Str × V)) from fc _ _ _ _ (by decide +kernel) rfl]
   obtain ⟨Nc,E11⟩:∃ G,G=upd M6 x (.ins C dx (List.zip ["program", "in_boxes", "in_cells", "in_asides", "rung", "told_numbers", "seen_numbers", "pile", "marks_done", "here", "how_ended"] [V.ref p1,V.ref p2,V.ref p3,V.ref p4,V.ref p5,V.ref p6,V.ref p7,V.ref p8,V.int 0,V.int 0,V.non]:List (Str × V))):=⟨_,rfl⟩
   have Nf:bt x M6 Nc:=by rw [E11]; exact bt.put
   have O11:Nc x=some (.ins C dx (List.zip ["program", "in_boxes", "in_cells", "in_asides", "rung", "told_numbers", "seen_numbers", "pile", "marks_done", "here", "how_ended"] [V.ref p1,V.ref p2,V.ref p3,V.ref p4,V.ref p5,V.ref p6,V.ref p7,V.ref p8,V.int 0,V.int 0,V.non]:List (Str × V))):=by rw [E11]; exact ah
   have S11:bt x H Nc:=S10.trans Nf
   rw [← E11]
   clear E11
   have Ng:bt x QC Nc:=R6.trans (R7.trans (R8.trans (R9.trans (M9.trans Nf))))
   have n15:p1 ≠ p5:=ay (R4 _ _ y1 (R3 _ _ y1 (R2 _ _ y1 K1))) n5
   have n25:p2 ≠ p5:=ay (R4 _ _ y2 (R3 _ _ y2 K2)) n5
   have n35:p3 ≠ p5:=ay (R4 _ _ y3 K3) n5
   have n45:p4 ≠ p5:=ay K4 n5
   have g1:=e5 _ _ n15 (R5 _ _ y1 (R4 _ _ y1 (R3 _ _ y1 (R2 _ _ y1 K1))))
   have g2:=e5 _ _ n25 (R5 _ _ y2 (R4 _ _ y2 (R3 _ _ y2 K2)))
   have g3:=e5 _ _ n35 (R5 _ _ y3 (R4 _ _ y3 K3))
   have g4:=e5 _ _ n45 (R5 _ _ y4 K4)
   have R67:=R6.trans R7
   have n12:p1 ≠ p2:=ay K1 n2
   have n34:p3 ≠ p4:=ay K3 n4
   have n16:p1 ≠ p6:=ay g1 n6
   have n26:p2 ≠ p6:=ay g2 n6
   have n17:p1 ≠ p7:=ay (R6 _ _ y1 g1) n7
   have n27:p2 ≠ p7:=ay (R6 _ _ y2 g2) n7
   have Qz:p6 ≠ p7:=ay K6 n7
   have n18:p1 ≠ p8:=ay (R67 _ _ y1 g1) n8
   have n28:p2 ≠ p8:=ay (R67 _ _ y2 g2) n8
   have QA:p6 ≠ p8:=ay (R7 _ _ y6 K6) n8
   have QB:p7 ≠ p8:=ay K7 n8
   refine z ⟨dx,p1,p2,p3,p4,p5,p6,p7,p8⟩ aB Nc rv ⟨⟨_,O11,rfl⟩,Ng _ _ y1 g1,Ng _ _ y2 g2,b8,⟨d0,Ng _ _ y3 g3,hrep,hdl⟩,⟨[],Ng _ _ y4 g4,Rep.nil,by simp⟩,Ng _ _ y5 k5,(R7.trans (R8.trans (R9.trans (M9.trans Nf)))) _ _ y6 K6,⟨[],(R8.trans (R9.trans (M9.trans Nf))) _ _ y7 K7,rfl,fun i p c e=>by simp at e⟩,(R9.trans (M9.trans Nf)) _ _ y8 K8,⟨n12,n16,n17,n18,n26,n27,n28,Qz,QA,QB,n34,n35,n45⟩,⟨by simp [z0],by simp [z0],by simp [z0]⟩,by omega⟩ S11 ?_
   rintro c ((rfl | rfl | rfl | rfl | rfl | rfl | rfl | rfl) | rfl) hc
   ·exact absurd rfl hc
   ·exact f2
   ·exact f3
   ·exact f4
   ·exact f5
   ·exact f6
   ·exact f7
   ·exact f8
   ·exact f1
end
inductive Rw where
 | stop | back | halt (v:Int) | two (u:Str) (b v:Int) | tell (b:Int) | eA (u:Str) (t f:Int) | zb (u:Str) (b t f:Int) | table (b:Int) (ts:List Int)
def ten:List Str:=["set", "more", "copy", "add", "less", "load", "keep", "see", "put", "take"]
def gS (H:Hp) (q:Addr) (n:Int):Rw→Prop
 | .stop=>H q=some (.tup [.str "stop"])
 | .back=>H q=some (.tup [.str "back"])
 | .halt v=>H q=some (.tup [.str "halt",.int v])
 | .two u b v=>H q=some (.tup [.str u,.int b,.int v])∧u ∈ ten∧Bx b∧(u ∈ w2→Bx v)
 | .tell b=>H q=some (.tup [.str "tell",.int b])∧Bx b
 | .eA u t f=>H q=some (.tup [.str u,.int t,.int f])∧u ∈ My.eA∧0 ≤ t∧t < n
 | .zb u b t f=>H q=some (.tup [.str u,.int b,.int t,.int f])∧u ∈ My.zb∧Bx b∧0 ≤ t∧t < n
 | .table b ts=>∃ p,H q=some (.tup [.str "table",.int b,.ref p])∧H p=some (.tup (ts.map V.int))∧Bx b∧∀ t ∈ ts,0 ≤ t∧t < n
theorem gS.tups {H H':Hp} {q:Addr} {n:Int} {r:Rw} (e:cv H H') (h:gS H q n r):gS H' q n r:=by
 cases r with
 | stop=>exact e _ _ h
 | back=>exact e _ _ h
 | halt v=>exact e _ _ h
 | two u b v=>exact ⟨e _ _ h.1,h.2⟩
 | tell b=>exact ⟨e _ _ h.1,h.2⟩
 | eA u t f=>exact ⟨e _ _ h.1,h.2⟩
 | zb u b t f=>exact ⟨e _ _ h.1,h.2⟩
 | table b ts =>
  obtain ⟨p,h1,h2,h3⟩:=h
  exact ⟨p,e _ _ h1,e _ _ h2,h3⟩
def Rw.word:Rw→Str
 | .stop => "stop" | .back => "back" | .halt _ => "halt" | .two u _ _=>u | .tell _ => "tell" | .eA u _ _=>u | .zb u _ _ _=>u | .table _ _ => "table"
def Rw.goes (r:Rw):Prop:=¬ r.word ∈ cS
def num (u:Str) (b v:Int) (z:Zt):Int :=
 if u = "set" then v else if u = "more" then z.bx b + v else if u = "copy" then z.bx v else if u = "add" then z.bx b + z.bx v else if u = "less" then z.bx b - z.bx v
 else if u = "load" then z.cf (z.bx v) else z.af v
def aY (ring:Int→Bool) (r:Rw) (h:Int) (z:Zt):Zt :=
 match r with
 | .stop=>{ z with here:=.non,how:=some [.str "stop"] }
 | .halt v=>{ z with here:=.non,how:=some [.str "halt",.int v] }
 | .back=>match z.pile.getLast? with
  | none=>{ z with here:=.non,how:=some [.str "home"] }
  | some p=>{ z with here:=.int p,pile:=z.pile.dropLast }
 | .two u b v =>
  if u = "keep" then { z with here:=.int (h + 1),cf:=iX z.cf (z.bx b) (z.bx v) }
  else if u = "put" then { z with here:=.int (h + 1),af:=iX z.af v (z.bx b) }
  else if u = "see" then { z with here:=.int (h + 1),seen:=z.seen ++ [(v,z.bx b)] }
  else { z with here:=.int (h + 1),bs:=z.bs.set b.toNat (num u b v z) }
 | .tell b=>{ z with here:=.int (h + 1),told:=z.told ++ [z.bx b] }
 | .eA u t _ =>
  if u = "jump" then { z with here:=.int t }
  else if u = "call" then { z with here:=.int t,pile:=z.pile ++ [h + 1] }
  else if ring z.k=true then { z with here:=.int t,pile:=z.pile ++ [h + 1],k:=z.k + 1 } else { z with here:=.int (h + 1),k:=z.k + 1 }
 | .zb u b t _=>{ z with here:=.int (if (u = "zero" ∧ z.bx b=0)∨(u = "below" ∧ z.bx b < 0) then t else h + 1) }
 | .table b ts=>{ z with here:=.int (if 0 ≤ z.bx b∧z.bx b < ts.length then ts.getD (z.bx b).toNat 0 else h + 1) }
theorem kZ {z:Zt} {h:Int} {ring:Int→Bool} {r:List Int} {p:Int} (e:z.pile=r ++ [p]):aY ring .back h z={ z with here:=.int p,pile:=r }:=by
 unfold aY
 have e1:z.pile.getLast? = some p:=by rw [e]; simp
 have e2:z.pile.dropLast=r:=by rw [e]; simp
 simp only [e1,e2]
theorem iC {z:Zt} {h:Int} {ring:Int→Bool} (e:z.pile=[]):aY ring .back h z={ z with here:=.non,how:=some [.str "home"] }:=by
 unfold aY
 have e1:z.pile.getLast? = none:=by rw [e]; rfl
 simp only [e1]
def iQ (n:Nat) (z:Zt):Prop:=(z.here=.non∨∃ r:Nat,z.here=.int r∧r < n)∧∀ p ∈ z.pile,0 ≤ p∧p < n
theorem iQ.step {n:Nat} {z:Zt} {ring:Int→Bool} {r:Rw} {h:Nat} {H:Hp} {q:Addr} (S:iQ n z) (hh:h < n) (hr:gS H q n r) (hg:h + 1=n→r.word ∈ cS):iQ n (aY ring r h z):=by
 have next:r.goes→∃ r':Nat,((h:Int) + 1)=r'∧r' < n:=fun g=>⟨h + 1,by omega,by
  rcases lt_or_ge (h + 1) n with l | l
  ·exact l
  ·exact absurd (hg (by omega)) g⟩
 have tgt:∀ t:Int,0 ≤ t→t < n→∃ r':Nat,t=r'∧r' < n:=fun t a b=>⟨t.toNat,by omega,by omega⟩
 cases r with
 | stop=>exact ⟨.inl rfl,S.2⟩
 | halt v=>exact ⟨.inl rfl,S.2⟩
 | back =>
  rcases eq_nil_or_concat z.pile with e | ⟨r,p,e⟩
  ·rw [iC e]
   exact ⟨.inl rfl,S.2⟩
  ·have e:z.pile=r ++ [p]:=by simpa using e
   rw [kZ e]
   have hp:=S.2 p (by rw [e]; simp)
   obtain ⟨r',e1,e2⟩:=tgt p hp.1 hp.2
   exact ⟨.inr ⟨r',by show V.int p=_; rw [e1],e2⟩,fun p' hp'=>S.2 p' (by rw [e]; exact List.mem_append_left _ hp')⟩
 | two u b v =>
  obtain ⟨r',e1,e2⟩:=next ((by decide +kernel:∀ u ∈ ten,¬ u ∈ cS) u hr.2.1)
  have e1:V.int ((h:Int) + 1)=.int r':=by rw [e1]
  simp only [aY]
  split
  ·exact ⟨.inr ⟨r',e1,e2⟩,S.2⟩
  split
  ·exact ⟨.inr ⟨r',e1,e2⟩,S.2⟩
  split
  ·exact ⟨.inr ⟨r',e1,e2⟩,S.2⟩
  ·exact ⟨.inr ⟨r',e1,e2⟩,S.2⟩
 | tell b =>
  obtain ⟨r',e1,e2⟩:=next (show ¬ ("tell" : Str) ∈ cS by decide +kernel)
  exact ⟨.inr ⟨r',by show V.int ((h:Int) + 1)=_; rw [e1],e2⟩,S.2⟩
 | eA u t f =>
  obtain ⟨t',e1,e2⟩:=tgt t hr.2.2.1 hr.2.2.2
  have e1:V.int t=.int t':=by rw [e1]
  simp only [aY]
  by_cases hj:u = "jump"
  ·simp only [if_pos hj]
   exact ⟨.inr ⟨t',e1,e2⟩,S.2⟩
  obtain ⟨r',e3,e4⟩:=next (by
   show ¬ u ∈ cS
   rcases (show u = "jump" ∨ u = "call" ∨ u = "mark" by simpa [My.eA] using hr.2.1) with rfl | rfl | rfl
   ·exact absurd rfl hj
   ·decide +kernel
   ·decide +kernel)
  have pl:∀ p ∈ z.pile ++ [(h:Int) + 1],0 ≤ p∧p < n:=fun p hp=>by
   rcases mem_append.mp hp with hp | hp
   ·exact S.2 p hp
   ·rw [mem_singleton.mp hp,e3]
    omega
  have e3:V.int ((h:Int) + 1)=.int r':=by rw [e3]
  simp only [if_neg hj]
  split
  ·exact ⟨.inr ⟨t',e1,e2⟩,pl⟩
  split
  ·exact ⟨.inr ⟨t',e1,e2⟩,pl⟩
  ·exact ⟨.inr ⟨r',e3,e4⟩,S.2⟩
 | zb u b t f =>
  obtain ⟨t',e1,e2⟩:=tgt t hr.2.2.2.1 hr.2.2.2.2
  obtain ⟨r',e3,e4⟩:=next ((by decide +kernel:∀ u ∈ My.zb,¬ u ∈ cS) u hr.2.1)
  refine ⟨.inr ?_,S.2⟩
  show ∃ r:Nat,V.int (if (u = "zero" ∧ z.bx b=0)∨(u = "below" ∧ z.bx b < 0) then t else (h:Int) + 1)=.int r∧r < n
  split
  ·exact ⟨t',by rw [e1],e2⟩
  ·exact ⟨r',by rw [e3],e4⟩
 | table b ts =>
  obtain ⟨r',e3,e4⟩:=next (show ¬ ("table" : Str) ∈ cS by decide +kernel)
  refine ⟨.inr ?_,S.2⟩
  show ∃ r:Nat,V.int (if 0 ≤ z.bx b∧z.bx b < ts.length then ts.getD (z.bx b).toNat 0 else (h:Int) + 1)=.int r∧r < n
  split
  ·rename_i c
   have hl:(z.bx b).toNat < ts.length:=by omega
   obtain ⟨p,_,_,_,ht⟩:=hr
   have hm:=ht (ts.getD (z.bx b).toNat 0) (by rw [List.getD_eq_getElem?_getD,List.getElem?_eq_getElem hl]; exact List.getElem_mem hl)
   obtain ⟨t',e1,e2⟩:=tgt _ hm.1 hm.2
   exact ⟨t',by rw [e1],e2⟩
  ·exact ⟨r',by rw [e3],e4⟩
theorem Nh {m:MA} {k:Int} {h w:V}:(eQ m k h w).lookup ("how_ended" : Str)=some w:=dv names _ 10 _ dm rfl
abbrev jD:Stmt:=inClass (top 30) 2
abbrev lN:Stmt:=inClass (top 30) 3
section
variable {P:Program} {w:World} {K:Frag} {mg:Str→Option Value} {base:Heap}
abbrev RU (C:Addr) (H:Hp) (x:Addr) (z:Zt) (B:Nat):Prop:=∃ m rows aB,MG C H x m rows aB B z
def wO (C:Addr):Sp:=fun vs H Q _=>∃ (x:Addr) (z:Zt) (B:Nat),vs=[.ref x]∧RU C H x z B∧Q z.here H
theorem Km:aJ ["self"] ["self"] (ak rh):=⟨rfl,rfl,rfl,by decide +kernel,rfl,by decide +kernel,by decide +kernel⟩
theorem yW {f C:Addr} {fd:FuncData} (F:dJ K "row" "Machine.row" rh f fd) (TT:Txt K w.params mg) (T:kX K mg C):aR P w K mg base bV 1 f fd ["self"] (wO C):=by
 refine F.ok Km (fun vs H Q E h=>?_) (fun cdv A outer s H vs Q E hr h=>?_)
 ·obtain ⟨x,z,B,rfl,_⟩:=h
  rfl
 ·obtain ⟨x,z,B,rfl,⟨m,rows,aB,M⟩,q⟩:=h
  obtain ⟨w0,ho,hw⟩:=M.obj
  refine ⟨_,aw (aU (bu (pv 0) rfl)),?_⟩
  exact ⟨_,rfl,x,C,m.dx,_,_,rfl,ho,T.cl,T.nH,oV,q⟩
def vn (C:Addr):Sp:=fun vs H Q _=>∃ (x:Addr) (z:Zt) (B:Nat),vs=[.ref x]∧RU C H x z B∧∀ v,iB H v z.how→Q v H
theorem C5:aJ ["self"] ["self"] (ak jD):=⟨rfl,rfl,rfl,by decide +kernel,rfl,by decide +kernel,by decide +kernel⟩
theorem Ah {f C:Addr} {fd:FuncData} (F:dJ K "ending" "Machine.ending" jD f fd) (TT:Txt K w.params mg) (T:kX K mg C):aR P w K mg base bV 1 f fd ["self"] (vn C):=by
 refine F.ok C5 (fun vs H Q E h=>?_) (fun cdv A outer s H vs Q E hr h=>?_)
 ·obtain ⟨x,z,B,rfl,_⟩:=h
  rfl
 ·obtain ⟨x,z,B,rfl,⟨m,rows,aB,M⟩,q⟩:=h
  obtain ⟨w0,ho,hw⟩:=M.obj
  refine ⟨_,aw (aU (bu (pv 0) rfl)),?_⟩
  exact ⟨_,rfl,x,C,m.dx,_,_,rfl,ho,T.cl,T.nE,Nh,q _ hw⟩
def tj (C:Addr):Sp:=fun vs H Q _=>∃ (x:Addr) (z:Zt) (B:Nat),vs=[.ref x]∧RU C H x z B∧∀ l,H l=none→Q (.ref l) (upd H l (.lst (z.bs.map V.int)))
theorem Gf:aJ ["self"] ["self"] (ak lN):=⟨rfl,rfl,rfl,by decide +kernel,rfl,by decide +kernel,by decide +kernel⟩
theorem vo {f C:Addr} {fd:FuncData} (F:dJ K "boxes" "Machine.boxes" lN f fd) (TT:Txt K w.params mg) (T:kX K mg C):aR P w K mg base bV 1 f fd ["self"] (tj C):=by
 refine F.ok Gf (fun vs H Q E h=>?_) (fun cdv A outer s H vs Q E hr h=>?_)
 ·obtain ⟨x,z,B,rfl,_⟩:=h
  rfl
 ·obtain ⟨x,z,B,rfl,⟨m,rows,aB,M⟩,q⟩:=h
  obtain ⟨w0,ho,hw⟩:=M.obj
  refine ⟨_,aw (aU (cI dY (by rfl) TT.list hU (ae (bu (pv 0) rfl) ao))),?_⟩
  exact ⟨_,rfl,x,C,m.dx,_,_,rfl,ho,T.cl,T.nB,dU,m.p2,_,rfl,.inl (bh.of M.box),q⟩
end
section
variable {P:Program} {w:World} {K:Frag} {mg:Str→Option Value} {base:Heap}
theorem Kn {ring:Int→Bool} {b v h:Int} {z:Zt}:aY ring (.two "set" b v) h z={ z with here:=.int (h + 1),bs:=z.bs.set b.toNat (v) }:=by
 simp only [aY,num,if_neg (show ¬ ("set" : Str) = "keep" by decide +kernel),if_neg (show ¬ ("set" : Str) = "put" by decide +kernel),if_neg (show ¬ ("set" : Str) = "see" by decide +kernel),if_pos rfl,if_true]
theorem Gg {ring:Int→Bool} {b v h:Int} {z:Zt}:aY ring (.two "more" b v) h z={ z with here:=.int (h + 1),bs:=z.bs.set b.toNat (z.bx b + v) }:=by
 simp only [aY,num,if_neg (show ¬ ("more" : Str) = "keep" by decide +kernel),if_neg (show ¬ ("more" : Str) = "put" by decide +kernel),if_neg (show ¬ ("more" : Str) = "see" by decide +kernel),if_neg (show ¬ ("more" : Str) = "set" by decide +kernel),if_pos rfl,if_true]
theorem Gh {ring:Int→Bool} {b v h:Int} {z:Zt}:aY ring (.two "copy" b v) h z={ z with here:=.int (h + 1),bs:=z.bs.set b.toNat (z.bx v) }:=by
 simp only [aY,num,if_neg (show ¬ ("copy" : Str) = "keep" by decide +kernel),if_neg (show ¬ ("copy" : Str) = "put" by decide +kernel),if_neg (show ¬ ("copy" : Str) = "see" by decide +kernel),if_neg (show ¬ ("copy" : Str) = "set" by decide +kernel),if_neg (show ¬ ("copy" : Str) = "more" by decide +kernel),if_pos rfl,if_true]
theorem Ko {ring:Int→Bool} {b v h:Int} {z:Zt}:aY ring (.two "add" b v) h z={ z with here:=.int (h + 1),bs:=z.bs.set b.toNat (z.bx b + z.bx v) }:=by
 simp only [aY,num,if_neg (show ¬ ("add" : Str) = "keep" by decide +kernel),if_neg (show ¬ ("add" : Str) = "put" by decide +kernel),if_neg (show ¬ ("add" : Str) = "see" by decide +kernel),if_neg (show ¬ ("add" : Str) = "set" by decide +kernel),if_neg (show ¬ ("add" : Str) = "more" by decide +kernel),if_neg (show ¬ ("add" : Str) = "copy" by decide +kernel),if_pos rfl,if_true]
theorem Gi {ring:Int→Bool} {b v h:Int} {z:Zt}:aY ring (.two "less" b v) h z={ z with here:=.int (h + 1),bs:=z.bs.set b.toNat (z.bx b - z.bx v) }:=by
 simp only [aY,num,if_neg (show ¬ ("less" : Str) = "keep" by decide +kernel),if_neg (show ¬ ("less" : Str) = "put" by decide +kernel),if_neg (show ¬ ("less" : Str) = "see" by decide +kernel),if_neg (show ¬ ("less" : Str) = "set" by decide +kernel),if_neg (show ¬ ("less" : Str) = "more" by decide +kernel),if_neg (show ¬ ("less" : Str) = "copy" by decide +kernel),if_neg (show ¬ ("less" : Str) = "add" by decide +kernel),if_pos rfl,if_true]
theorem Gj {ring:Int→Bool} {b v h:Int} {z:Zt}:aY ring (.two "load" b v) h z={ z with here:=.int (h + 1),bs:=z.bs.set b.toNat (z.cf (z.bx v)) }:=by
 simp only [aY,num,if_neg (show ¬ ("load" : Str) = "keep" by decide +kernel),if_neg (show ¬ ("load" : Str) = "put" by decide +kernel),if_neg (show ¬ ("load" : Str) = "see" by decide +kernel),if_neg (show ¬ ("load" : Str) = "set" by decide +kernel),if_neg (show ¬ ("load" : Str) = "more" by decide +kernel),if_neg (show ¬ ("load" : Str) = "copy" by decide +kernel),if_neg (show ¬ ("load" : Str) = "add" by decide +kernel),if_neg (show ¬ ("load" : Str) = "less" by decide +kernel),if_pos rfl,if_true]
theorem Gk {ring:Int→Bool} {b v h:Int} {z:Zt}:aY ring (.two "keep" b v) h z={ z with here:=.int (h + 1),cf:=iX z.cf (z.bx b) (z.bx v) }:=by
 simp only [aY,num,if_pos rfl,if_true]
theorem Kp {ring:Int→Bool} {b v h:Int} {z:Zt}:aY ring (.two "see" b v) h z={ z with here:=.int (h + 1),seen:=z.seen ++ [(v,z.bx b)] }:=by
 simp only [aY,num,if_neg (show ¬ ("see" : Str) = "keep" by decide +kernel),if_neg (show ¬ ("see" : Str) = "put" by decide +kernel),if_pos rfl,if_true]
theorem Kq {ring:Int→Bool} {b v h:Int} {z:Zt}:aY ring (.two "put" b v) h z={ z with here:=.int (h + 1),af:=iX z.af v (z.bx b) }:=by
 simp only [aY,num,if_neg (show ¬ ("put" : Str) = "keep" by decide +kernel),if_pos rfl,if_true]
theorem Gm {ring:Int→Bool} {b v h:Int} {z:Zt}:aY ring (.two "take" b v) h z={ z with here:=.int (h + 1),bs:=z.bs.set b.toNat (z.af v) }:=by
 simp only [aY,num,if_neg (show ¬ ("take" : Str) = "keep" by decide +kernel),if_neg (show ¬ ("take" : Str) = "put" by decide +kernel),if_neg (show ¬ ("take" : Str) = "see" by decide +kernel),if_neg (show ¬ ("take" : Str) = "set" by decide +kernel),if_neg (show ¬ ("take" : Str) = "more" by decide +kernel),if_neg (show ¬ ("take" : Str) = "copy" by decide +kernel),if_neg (show ¬ ("take" : Str) = "add" by decide +kernel),if_neg (show ¬ ("take" : Str) = "less" by decide +kernel),if_neg (show ¬ ("take" : Str) = "load" by decide +kernel)]
theorem Gn {ring:Int→Bool} {t f h:Int} {z:Zt}:aY ring (.eA "jump" t f) h z={ z with here:=.int t }:=by
 simp only [aY,if_pos rfl,if_true]
theorem Gp {ring:Int→Bool} {t f h:Int} {z:Zt}:aY ring (.eA "call" t f) h z={ z with here:=.int t,pile:=z.pile ++ [h + 1] }:=by
 simp only [aY,if_neg (show ¬ ("call" : Str) = "jump" by decide +kernel),if_pos rfl,if_true]
theorem C6 {ring:Int→Bool} {t f h:Int} {z:Zt} (c:ring z.k=true):aY ring (.eA "mark" t f) h z={ z with here:=.int t,pile:=z.pile ++ [h + 1],k:=z.k + 1 }:=by
 simp only [aY,if_neg (show ¬ ("mark" : Str) = "jump" by decide +kernel),if_neg (show ¬ ("mark" : Str) = "call" by decide +kernel),if_pos c]
theorem C7 {ring:Int→Bool} {t f h:Int} {z:Zt} (c:ring z.k=false):aY ring (.eA "mark" t f) h z={ z with here:=.int (h + 1),k:=z.k + 1 }:=by
 simp only [aY,if_neg (show ¬ ("mark" : Str) = "jump" by decide +kernel),if_neg (show ¬ ("mark" : Str) = "call" by decide +kernel),if_neg (show ¬ ring z.k=true by rw [c]; decide)]
theorem Gq {ring:Int→Bool} {b t f h:Int} {z:Zt}:aY ring (.zb "zero" b t f) h z={ z with here:=.int (if z.bx b=0 then t else h + 1) }:=by
 show ({ z with here:=.int (if (("zero" : Str) = "zero" ∧ z.bx b=0)∨(("zero" : Str) = "below" ∧ z.bx b < 0) then t else h + 1) }:Zt)=_
 by_cases c:z.bx b=0
 ·rw [if_pos (.inl ⟨rfl,c⟩),if_pos c]
 ·rw [if_neg (fun y=>y.elim (fun y=>c y.2) (fun y=>absurd y.1 (by decide +kernel))),if_neg c]
theorem C8 {ring:Int→Bool} {b t f h:Int} {z:Zt}:aY ring (.zb "below" b t f) h z={ z with here:=.int (if z.bx b < 0 then t else h + 1) }:=by
 show ({ z with here:=.int (if (("below" : Str) = "zero" ∧ z.bx b=0)∨(("below" : Str) = "below" ∧ z.bx b < 0) then t else h + 1) }:Zt)=_
 by_cases c:z.bx b < 0
 ·rw [if_pos (.inr ⟨rfl,c⟩),if_pos c]
 ·rw [if_neg (fun y=>y.elim (fun y=>absurd y.1 (by decide +kernel)) (fun y=>c y.2)),if_neg c]
def qp (P:Program) (w:World) (K:Frag) (mg:Str→Option Value) (base:Heap) (pD:Addr) (u:Str) (sp:Sp):Prop:=∃ (f:Addr) (fd:FuncData),dE K w.params pD u (some (.ref f))∧aR P w K mg base bV 2 f fd ["machine", "row"] sp∧Binds K fd ["machine", "row"] []∧KI K f
structure Io (P:Program) (w:World) (K:Frag) (mg:Str→Option Value) (base:Heap) (C pD:Addr):Prop where
 sI:qp P w K mg base pD "stop" (CV C)
 sJ:qp P w K mg base pD "halt" (CW C)
 sL:qp P w K mg base pD "back" (CZ C)
 yN:qp P w K mg base pD "set" (Ih C)
 sM:qp P w K mg base pD "more" (CK C)
 sO:qp P w K mg base pD "copy" (CL C)
 yO:qp P w K mg base pD "add" (Ii C)
 sP:qp P w K mg base pD "less" (CM C)
 sQ:qp P w K mg base pD "load" (CN C)
 sR:qp P w K mg base pD "keep" (CP C)
 sS:qp P w K mg base pD "tell" (CQ C)
 yP:qp P w K mg base pD "see" (Ik C)
 yQ:qp P w K mg base pD "put" (Ij C)
 sU:qp P w K mg base pD "take" (CO C)
 sV:qp P w K mg base pD "jump" (CT C)
 sW:qp P w K mg base pD "zero" (CU C)
 nW:qp P w K mg base pD "below" (yR C)
 sY:qp P w K mg base pD "call" (wN C)
 sZ:qp P w K mg base pD "mark" (CY C)
 nX:qp P w K mg base pD "table" (yS C)
abbrev cK (aB:List (Key × V)):Int→Bool:=fun j=>(cw aB (Sum.inl j)).isSome
def C9 (C:Addr):Sp:=fun vs H Q _=>∃ (x q:Addr) (m:MA) (rows:List V) (aB:List (Key × V)) (B:Nat) (z:Zt) (r:Nat) (n:Int) (rw:Rw),vs=[.ref x]∧MG C H x m rows aB B z∧B < 900∧z.here=.int r∧rows[r]? = some (.ref q)∧gS H q n rw ∧
 ∀ H',Fr m x H H'→MG C H' x m rows aB (B + 1) (aY (cK aB) rw r z)→Q .non H'
theorem Dc:aJ ["self", "row"] ["self"] (ak rj):=⟨rfl,rfl,rfl,by decide +kernel,rfl,by decide +kernel,by decide +kernel⟩
theorem gS.word {H:Hp} {q:Addr} {n:Int} {rw:Rw} (h:gS H q n rw):∃ items,H q=some (.tup (.str rw.word :: items)):=by
 cases rw with
 | stop=>exact ⟨_,h⟩
 | back=>exact ⟨_,h⟩
 | halt v=>exact ⟨_,h⟩
 | two u b v=>exact ⟨_,h.1⟩
 | tell b=>exact ⟨_,h.1⟩
 | eA u t f=>exact ⟨_,h.1⟩
 | zb u b t f=>exact ⟨_,h.1⟩
 | table b ts =>
  obtain ⟨p,h,_⟩:=h
  exact ⟨_,h⟩
theorem Gr {f C pD:Addr} {fd:FuncData} (F:dJ K "step" "Machine.step" rj f fd) (T:kX K mg C) (mD:mg "DEEDS" = some (.ref pD)) (D:Io P w K mg base C pD):aR P w K mg base bV 3 f fd ["self"] (C9 C):=by
 refine F.ok Dc (fun vs H Q E h=>?_) (fun cdv A outer s H vs Q E hr h=>?_)
 ·obtain ⟨x,q,m,rows,aB,B,z,r,n,rw,rfl,_⟩:=h
  rfl
 ·obtain ⟨x,q,m,rows,aB,B,z,r,n,rw,rfl,M,hB,hh,hrow,hR,zz⟩:=h
  obtain ⟨w0,ho,hw⟩:=M.obj
  obtain ⟨items,hq⟩:=hR.word
  refine ⟨_,aA (bU (aF lC (bu (pv 0) rfl) ef (aO _)) lA aM)
   (aA (aV (i:=1) Dc.nd rfl (Or.inl rfl) (au aK (bu (pv 0) rfl) (bu (pv 0) rfl) (fun _ _=>rfl)))
   (aA (dq (pv 0) (aN dn (bu (pv 0) rfl) ai) rfl)
   (aw (bJ (Ce (k:=2) (jm (dC (v:=.ref pD) (by rfl) mD rfl) (au az (pv 1) ai (fun _ _=>rfl)) (fun _ _=>rfl)) hr (ae (pv 0) (ae (pv 1) ao))))))),?_⟩
  rw [hh] at ho
  refine ⟨_,rfl,x,C,m.dx,_,_,rfl,ho,T.cl,T.nH,oV,rfl,_,rfl,?_⟩
  refine ie ?_
  refine ⟨_,rfl,x,C,m.dx,_,_,rfl,ho,T.cl,T.nP,J8,_,rfl,x,C,m.dx,_,_,rfl,ho,T.cl,T.nH,oV,m.p1,_,_,.ref q,rfl,rfl,bh.of M.prog,ck (j:=r) hrow,?_⟩
  refine ⟨_,rfl,x,C,m.dx,_,_,rfl,ho,T.cl,T.nH,oV,_,_,rfl,rfl,_,rfl,x,C,m.dx,_,rfl,ho,T.cl,T.nH,jO,?_⟩
  rw [jf]
  have M2:=M.put (k':=z.k) (hV:=.int ((r:Int) + 1)) hw
  have fr:Fr m x H (upd H x (.ins C m.dx (eQ m z.k (.int ((r:Int) + 1)) w0))):=Fr.upd (.inl rfl)
  have tt:cv H (upd H x (.ins C m.dx (eQ m z.k (.int ((r:Int) + 1)) w0))):=.upd ho (by intro _ z; cases z)
  have Dd:=hR.tups tt
  have hq2:=tt _ _ hq
  refine ⟨_,rfl,q,_,0,.str rw.word,rfl,rfl,aS.of hq2,at0 _ _,pD,rw.word,?_⟩
  suffices hs:∃ sp:Sp,qp P w K mg base pD rw.word sp∧sp ([.ref x,.ref q] ++ []) (upd H x (.ins C m.dx (eQ m z.k (.int ((r:Int) + 1)) w0))) (fun _ H1=>Q .non H1) E0 by
   obtain ⟨sp,⟨f,fd,a1,a2,a3,a4⟩,hs⟩:=hs
   exact ⟨.ref f,rfl,rfl,a1,f,fd,_,_,rfl,a2,a3,a4,_,rfl,_,rfl,hs⟩
  have fin:∀ z',z'=aY (cK aB) rw r z→∀ H',Fr m x (upd H x (.ins C m.dx (eQ m z.k (.int ((r:Int) + 1)) w0))) H'→MG C H' x m rows aB (B + 1) z'→Q .non H':=fun z' e H' e1 e2=>zz H' (fr.trans e1) (e ▸ e2)
  cases rw with
  | stop=>exact ⟨_,D.sI,x,q,m,rows,aB,B,_,_,_,_,rfl,M2,hB,rfl,Dd,fin _ rfl⟩
  | halt v=>exact ⟨_,D.sJ,x,q,m,rows,aB,B,_,_,_,v,rfl,M2,hB,rfl,Dd,fin _ rfl⟩
  | back=>exact ⟨_,D.sL,x,q,m,rows,aB,B,_,_,_,_,rfl,M2,hB,rfl,Dd,fun ep=>fin _ (iC (z:=z) (h:=r) (ring:=cK aB) ep).symm,fun r' p ep=>fin _ (kZ (z:=z) (h:=r) (ring:=cK aB) ep).symm⟩
  | tell b=>exact ⟨_,D.sS,x,q,m,rows,aB,B,_,_,_,b,rfl,M2,hB,rfl,Dd.1,Dd.2,fin _ rfl⟩
  | table b ts =>
   obtain ⟨p,h1,h2,h3,h4⟩:=Dd
   exact ⟨_,D.nX,x,q,m,rows,aB,B,_,_,_,b,p,ts,rfl,M2,hB,rfl,h1,h3,h2,fin _ rfl⟩
  | two u b v =>
   obtain ⟨h1,h2,h3,h4⟩:=Dd
   rcases (show u = "set" ∨ u = "more" ∨ u = "copy" ∨ u = "add" ∨ u = "less" ∨ u = "load" ∨ u = "keep" ∨ u = "see" ∨ u = "put" ∨ u = "take" by simpa [ten] using h2) with rfl | rfl | rfl | rfl | rfl | rfl | rfl | rfl | rfl | rfl
   ·exact ⟨_,D.yN,x,q,m,rows,aB,B,_,_,_,b,v,rfl,M2,hB,rfl,h1,h3,fin _ (Kn (z:=z) (ring:=cK aB)).symm⟩
   ·exact ⟨_,D.sM,x,q,m,rows,aB,B,_,_,_,b,v,rfl,M2,hB,rfl,h1,h3,fin _ (Gg (z:=z) (ring:=cK aB)).symm⟩
   ·exact ⟨_,D.sO,x,q,m,rows,aB,B,_,_,_,b,v,rfl,M2,hB,rfl,h1,h3,h4 (by decide +kernel),fin _ (Gh (z:=z) (ring:=cK aB)).symm⟩
   ·exact ⟨_,D.yO,x,q,m,rows,aB,B,_,_,_,b,v,rfl,M2,hB,rfl,h1,h3,h4 (by decide +kernel),fin _ (Ko (z:=z) (ring:=cK aB)).symm⟩
   ·exact ⟨_,D.sP,x,q,m,rows,aB,B,_,_,_,b,v,rfl,M2,hB,rfl,h1,h3,h4 (by decide +kernel),fin _ (Gi (z:=z) (ring:=cK aB)).symm⟩
   ·exact ⟨_,D.sQ,x,q,m,rows,aB,B,_,_,_,b,v,rfl,M2,hB,rfl,h1,h3,h4 (by decide +kernel),fin _ (Gj (z:=z) (ring:=cK aB)).symm⟩
   ·exact ⟨_,D.sR,x,q,m,rows,aB,B,_,_,_,b,v,rfl,M2,hB,rfl,h1,h3,h4 (by decide +kernel),fin _ (Gk (z:=z) (ring:=cK aB)).symm⟩
   ·exact ⟨_,D.yP,x,q,m,rows,aB,B,_,_,_,b,v,rfl,M2,hB,rfl,h1,h3,fin _ (Kp (z:=z) (ring:=cK aB)).symm⟩
   ·exact ⟨_,D.yQ,x,q,m,rows,aB,B,_,_,_,b,v,rfl,M2,hB,rfl,h1,h3,fin _ (Kq (z:=z) (ring:=cK aB)).symm⟩
   ·exact ⟨_,D.sU,x,q,m,rows,aB,B,_,_,_,b,v,rfl,M2,hB,rfl,h1,h3,fin _ (Gm (z:=z) (ring:=cK aB)).symm⟩
  | eA u t f' =>
   obtain ⟨h1,h2,h3,h4⟩:=Dd
   rcases (show u = "jump" ∨ u = "call" ∨ u = "mark" by simpa [My.eA] using h2) with rfl | rfl | rfl
   ·exact ⟨_,D.sV,x,q,m,rows,aB,B,_,_,_,t,f',rfl,M2,hB,rfl,h1,fin _ (Gn (z:=z) (ring:=cK aB)).symm⟩
   ·exact ⟨_,D.sY,x,q,m,rows,aB,B,_,_,_,t,f',rfl,M2,hB,rfl,h1,fin _ (Gp (z:=z) (ring:=cK aB)).symm⟩
   ·exact ⟨_,D.sZ,x,q,m,rows,aB,B,_,_,_,t,f',_,rfl,M2,hB,rfl,h1,rfl,fun c=>fin _ (C6 (z:=z) (ring:=cK aB) c).symm,fun c=>fin _ (C7 (z:=z) (ring:=cK aB) c).symm⟩
  | zb u b t f' =>
   obtain ⟨h1,h2,h3,h4⟩:=Dd
   rcases (show u = "zero" ∨ u = "below" by simpa [My.zb] using h2) with rfl | rfl
   ·exact ⟨_,D.sW,x,q,m,rows,aB,B,_,_,_,b,t,f',rfl,M2,hB,rfl,h1,h3,fin _ (Gq (z:=z) (ring:=cK aB)).symm⟩
   ·exact ⟨_,D.nW,x,q,m,rows,aB,B,_,_,_,b,t,f',rfl,M2,hB,rfl,h1,h3,fin _ (C8 (z:=z) (ring:=cK aB)).symm⟩
end
def Keeps (R:Addr→Prop) (H H':Hp):Prop:=∀ c o,H c=some o→(¬ R c∨∃ xs,o=.tup xs)→H' c=some o
theorem Keeps.refl {R:Addr→Prop} {H:Hp}:Keeps R H H:=fun _ _ e _=>e
theorem Keeps.trans {R:Addr→Prop} {H H1 H2:Hp} (a:Keeps R H H1) (b:Keeps R H1 H2):Keeps R H H2:=fun c o e n=>b c o (a c o e n) n
theorem Keeps.same {R:Addr→Prop} {H H':Hp} (s:Same H H'):Keeps R H H':=fun c o e _=>s c o e
theorem Keeps.more {R R':Addr→Prop} {H H':Hp} (a:Keeps R H H') (h:∀ c,R c→R' c):Keeps R' H H':=fun c o e n=>a c o e (n.imp (fun z y=>z (h c y)) id)
theorem Keeps.tups {R:Addr→Prop} {H H':Hp} (a:Keeps R H H'):cv H H':=fun b xs e=>a b _ e (.inr ⟨xs,rfl⟩)
theorem Keeps.upd {R:Addr→Prop} {H H':Hp} {p:Addr} {o o':HO} (a:Keeps R H H') (h:H' p=some o) (hn:∀ xs,o ≠ .tup xs) (hp:R p):Keeps R H (L2.upd H' p o'):=fun c u e n=>by
 have e':=a c u e n
 have:c ≠ p:=fun z=>by
  rw [z,h] at e'
  have e':=Option.some.inj e'
  rcases n with n | ⟨xs,rfl⟩
  ·exact n (z ▸ hp)
  ·exact hn xs e'
 rw [aL this]
 exact e'
section
variable {C x:Addr} {H H':Hp} {m:MA} {rows:List V} {aB:List (Key × V)} {B:Nat} {z:Zt}
theorem MG.fr (M:MG C H x m rows aB B z) (f:Fr m x H H'):Keeps (Own m x) H H':=fun c o e n=>by
 rcases n with n | ⟨xs,rfl⟩
 ·exact f c o n e
 ·exact f c _ (M.Kc e) e
def Ai (m:MA) (x c:Addr):Prop:=Own m x c∨c=m.p1
theorem MG.keeps {R:Addr→Prop} (M:MG C H x m rows aB B z) (k:Keeps R H H') (d:∀ c,Ai m x c→¬ R c):MG C H' x m rows aB B z:=by
 obtain ⟨w,o1,o2⟩:=M.obj
 obtain ⟨d1,c1,c2⟩:=M.cell
 obtain ⟨d2,a1,a2⟩:=M.mj
 obtain ⟨ps,s1,s2⟩:=M.seen
 have e:∀ {c o},Ai m x c→H c=some o→H' c=some o:=fun {c o} h g=>k c o g (.inl (d c h))
 exact ⟨⟨w,e (.inl (.inl rfl)) o1,o2.tups k.tups⟩,e (.inr rfl) M.prog,e (.inl (.inr (.inl rfl))) M.box,M.b8,⟨d1,e (.inl (.inr (.inr (.inl rfl)))) c1,c2⟩,⟨d2,e (.inl (.inr (.inr (.inr (.inl rfl))))) a1,a2⟩,
  e (.inl (.inr (.inr (.inr (.inr (.inl rfl)))))) M.rg,e (.inl (.inr (.inr (.inr (.inr (.inr (.inl rfl))))))) M.told,⟨ps,e (.inl (.inr (.inr (.inr (.inr (.inr (.inr (.inl rfl)))))))) s1,s2.tups k.tups⟩,e (.inl (.inr (.inr (.inr (.inr (.inr (.inr (.inr rfl)))))))) M.gw,M.ap,M.lens,M.big⟩
theorem MG.mn (M:MG C H x m rows aB B z):∀ c,Ai m x c→∃ o,H c=some o:=by
 obtain ⟨w,o1,o2⟩:=M.obj
 obtain ⟨d1,c1,c2⟩:=M.cell
 obtain ⟨d2,a1,a2⟩:=M.mj
 obtain ⟨ps,s1,s2⟩:=M.seen
 rintro c ((rfl | rfl | rfl | rfl | rfl | rfl | rfl | rfl) | rfl)
 ·exact ⟨_,o1⟩
 ·exact ⟨_,M.box⟩
 ·exact ⟨_,c1⟩
 ·exact ⟨_,a1⟩
 ·exact ⟨_,M.rg⟩
 ·exact ⟨_,M.told⟩
 ·exact ⟨_,s1⟩
 ·exact ⟨_,M.gw⟩
 ·exact ⟨_,M.prog⟩
end
def hZ:List Str:=["at", "boxes", "cells", "asides", "pile", "marks", "end"]
theorem dW:hZ.Nodup:=by decide +kernel
structure LA where
 (p1 p2 p3 p4:Addr)
def lvals (m:LA) (h w:V) (k:Int):List V:=[h,.ref m.p1,.ref m.p2,.ref m.p3,.ref m.p4,.int k,w]
def gm (ns:List Str) (vs:List V):List (Key × V):=(ns.zip vs).map fun p=>(Sum.inr p.1,p.2)
theorem d9:∀ (ns:List Str) (vs:List V) (i:Nat) (x:Str),ns.Nodup→ns[i]? = some x→cw (gm ns vs) (Sum.inr x:Key)=vs[i]?
 | [],_,i,x,_,h=>by simp at h
 | n :: ns,[],i,x,_,h=>by simp [gm,cw]
 | n :: ns,v :: vs,0,x,_,h=>by
  have e:n=x:=by simpa using h
  subst e
  exact dc rfl
 | n :: ns,v :: vs,i + 1,x,hn,h=>by
  have hn':=nodup_cons.mp hn
  have hm:x ∈ ns:=List.mem_of_getElem? (by simpa using h)
  have ne:¬ n=x:=fun e=>hn'.1 (e ▸ hm)
  rw [show gm (n :: ns) (v :: vs)=(Sum.inr n,v) :: gm ns vs from rfl,df (fun z=>ne (Sum.inr.inj z))]
  exact d9 ns vs i x hn'.2 (by simpa using h)
theorem lf (y:V):∀ (ns:List Str) (vs:List V) (i:Nat) (x:Str),ns.Nodup→ns[i]? = some x→i < vs.length→ns.length=vs.length→putK (gm ns vs) (Sum.inr x:Key) y=gm ns (vs.set i y):=by
 intro ns vs i x hn hi hl hlen
 have hs:(cw (gm ns vs) (Sum.inr x:Key)).isSome=true:=by
  rw [d9 ns vs i x hn hi,List.getElem?_eq_getElem hl]
  rfl
 unfold putK
 rw [dQ,if_pos hs]
 have go:∀ (ns:List Str) (vs:List V) (i:Nat),ns.Nodup→ns[i]? = some x→(gm ns vs).map (fun kv=>if kv.1=(Sum.inr x:Key) then (kv.1,y) else kv)=gm ns (vs.set i y):=by
  intro ns
  induction ns with
  | nil=>intro vs i _ h; simp at h
  | cons n ns ih =>
   intro vs i hn hi
   cases vs with
   | nil=>rfl
   | cons v vs =>
    have hn':=nodup_cons.mp hn
    cases i with
    | zero =>
     have e:n=x:=by simpa using hi
     subst e
     show (if (Sum.inr n:Key)=Sum.inr n then _ else _) :: _=(Sum.inr n,y) :: gm ns vs
     rw [if_pos rfl]
     congr 1
     have:∀ p ∈ gm ns vs,(if p.1=(Sum.inr n:Key) then (p.1,y) else p)=p:=fun p hp=>by
      unfold gm at hp
      obtain ⟨q,hq,rfl⟩:=mem_map.mp hp
      have:q.1 ∈ ns:=(List.of_mem_zip hq).1
      rw [if_neg (fun e=>hn'.1 (by rw [← Sum.inr.inj e]; exact this))]
     show (gm ns vs).map (fun kv=>if kv.1=(Sum.inr n:Key) then (kv.1,y) else kv)=gm ns vs
     rw [List.map_congr_left this,List.map_id']
    | succ i =>
     have hm:x ∈ ns:=List.mem_of_getElem? (by simpa using hi)
     have ne:¬ n=x:=fun e=>hn'.1 (e ▸ hm)
     show (if (Sum.inr n:Key)=Sum.inr x then _ else (Sum.inr n,v)) :: (gm ns vs).map _=(Sum.inr n,v) :: gm ns (vs.set i y)
     rw [if_neg (fun z=>ne (Sum.inr.inj z)),ih vs i hn'.2 (by simpa using hi)]
 exact go ns vs i hn hi
abbrev ld (m:LA) (h w:V) (k:Int):List (Key × V):=gm hZ (lvals m h w k)
theorem dw {H:Hp} {a:Addr} {kvs:List (Key × V)} {x:Str} {v:V} (h:H a=some (.dK kvs)) (e:cw kvs (Sum.inr x:Key)=some v):iL H a (.str x) (some v):=e ▸ iL.k (k:=Sum.inr x) h
section
variable {m:LA} {k:Int} {h w v:V}
theorem rm:cw (ld m h w k) (Sum.inr "at" : Key)=some (h):=d9 hZ _ 0 _ dW rfl
theorem vp:cw (ld m h w k) (Sum.inr "boxes" : Key)=some (.ref m.p1):=d9 hZ _ 1 _ dW rfl
theorem Ip:cw (ld m h w k) (Sum.inr "cells" : Key)=some (.ref m.p2):=d9 hZ _ 2 _ dW rfl
theorem Iq:cw (ld m h w k) (Sum.inr "asides" : Key)=some (.ref m.p3):=d9 hZ _ 3 _ dW rfl
theorem tD:cw (ld m h w k) (Sum.inr "pile" : Key)=some (.ref m.p4):=d9 hZ _ 4 _ dW rfl
theorem De:cw (ld m h w k) (Sum.inr "marks" : Key)=some (.int k):=d9 hZ _ 5 _ dW rfl
theorem Ni:cw (ld m h w k) (Sum.inr "end" : Key)=some (w):=d9 hZ _ 6 _ dW rfl
theorem Ir:putK (ld m h w k) (Sum.inr "at" : Key) v=ld m v w k:=lf v hZ _ 0 _ dW rfl (by show 0 < 7; decide) rfl
theorem Nj:putK (ld m h w k) (Sum.inr "end" : Key) v=ld m h v k:=lf v hZ _ 6 _ dW rfl (by show 6 < 7; decide) rfl
theorem Kr {j:Int}:putK (ld m h w k) (Sum.inr "marks" : Key) (.int j)=ld m h w j:=lf _ hZ _ 5 _ dW rfl (by show 5 < 7; decide) rfl
theorem yX:(ld m h w k).length < sizeLine:=Nat.lt_of_lt_of_le (show 7 < 1001 by decide) (by decide)
end
def iR (m:LA) (a c:Addr):Prop:=c=a∨c=m.p1∨c=m.p2∨c=m.p3∨c=m.p4
structure LS (H:Hp) (a:Addr) (m:LA) (B:Nat) (z:Zt):Prop where
 st:∃ h w,H a=some (.dK (ld m h w z.k))∧iB H w z.how∧(z.how=none→h=z.here)
 box:H m.p1=some (.lst (z.bs.map V.int))
 b8:z.bs.length=8
 cell:∃ d,H m.p2=some (.dK d)∧Rep d z.cf∧d.length ≤ B
 mj:∃ d,H m.p3=some (.dK d)∧Rep d z.af∧d.length ≤ B
 gw:H m.p4=some (.lst (z.pile.map V.int))
 n14:m.p1 ≠ m.p4
 n23:m.p2 ≠ m.p3
 Et:a ≠ m.p2
 Eu:a ≠ m.p3
 lens:z.pile.length ≤ B
 big:B ≤ 900
section
variable {H H':Hp} {a:Addr} {m:LA} {B:Nat} {z:Zt}
theorem LS.keeps {R:Addr→Prop} (M:LS H a m B z) (k:Keeps R H H') (d:∀ c,iR m a c→¬ R c):LS H' a m B z:=by
 obtain ⟨h,w,o1,o2,o3⟩:=M.st
 obtain ⟨d1,c1,c2⟩:=M.cell
 obtain ⟨d2,a1,a2⟩:=M.mj
 have e:∀ {c o},iR m a c→H c=some o→H' c=some o:=fun {c o} h g=>k c o g (.inl (d c h))
 exact ⟨⟨h,w,e (.inl rfl) o1,o2.tups k.tups,o3⟩,e (.inr (.inl rfl)) M.box,M.b8,⟨d1,e (.inr (.inr (.inl rfl))) c1,c2⟩,⟨d2,e (.inr (.inr (.inr (.inl rfl)))) a1,a2⟩,e (.inr (.inr (.inr (.inr rfl)))) M.gw,M.n14,M.n23,M.Et,M.Eu,M.lens,M.big⟩
theorem LS.same (M:LS H a m B z) (s:Same H H'):LS H' a m B z:=M.keeps (R:=fun _=>False) (.same s) (fun _ _ h=>h)
theorem LS.any (M:LS H a m B z) {t:List Int} {s:List (Int × Int)}:LS H a m B { z with told:=t,seen:=s }:=⟨M.st,M.box,M.b8,M.cell,M.mj,M.gw,M.n14,M.n23,M.Et,M.Eu,M.lens,M.big⟩
theorem LS.mn (M:LS H a m B z):∀ c,iR m a c→∃ o,H c=some o:=by
 obtain ⟨h,w,o1,o2⟩:=M.st
 obtain ⟨d1,c1,c2⟩:=M.cell
 obtain ⟨d2,a1,a2⟩:=M.mj
 rintro c (rfl | rfl | rfl | rfl | rfl)
 ·exact ⟨_,o1⟩
 ·exact ⟨_,M.box⟩
 ·exact ⟨_,c1⟩
 ·exact ⟨_,a1⟩
 ·exact ⟨_,M.gw⟩
theorem LS.more (M:LS H a m B z) {B':Nat} (h:B ≤ B') (hb:B' ≤ 900):LS H a m B' z:=by
 obtain ⟨d,c1,c2,c3⟩:=M.cell
 obtain ⟨d',a1,a2,a3⟩:=M.mj
 exact ⟨M.st,M.box,M.b8,⟨d,c1,c2,by omega⟩,⟨d',a1,a2,by omega⟩,M.gw,M.n14,M.n23,M.Et,M.Eu,le_trans M.lens h,hb⟩
theorem LS.put (M:LS H a m B z) {h' w' hh:V} {k':Int} {wM:Option (List V)} (hw:iB H w' wM) (hq:wM=none→h'=hh):LS (upd H a (.dK (ld m h' w' k'))) a m B { z with here:=hh,how:=wM,k:=k' }:=by
 obtain ⟨h,w,o1,o2,_⟩:=M.st
 obtain ⟨d1,c1,c2⟩:=M.cell
 obtain ⟨d2,a1,a2⟩:=M.mj
 have t:cv H (upd H a (.dK (ld m h' w' k'))):=.upd o1 (by intro _ z; cases z)
 have e:∀ {c o},H c=some o→c ≠ a→upd H a (.dK (ld m h' w' k')) c=some o:=fun {c o} h n=>by rw [aL n]; exact h
 exact ⟨⟨h',w',ah,hw.tups t,hq⟩,e M.box (bF M.box o1 (by intro z; cases z)),M.b8,⟨d1,e c1 M.Et.symm,c2⟩,⟨d2,e a1 M.Eu.symm,a2⟩,e M.gw (bF M.gw o1 (by intro z; cases z)),M.n14,M.n23,M.Et,M.Eu,M.lens,M.big⟩
theorem LS.a_ (M:LS H a m B z) {p:Addr} {xs:List V} (h:H p=some (.lst xs)):a ≠ p:=by
 obtain ⟨_,w,o1,_⟩:=M.st
 exact bF o1 h (by intro z; cases z)
theorem LS.kQ (M:LS H a m B z) {bs':List Int} (h8:bs'.length=8):LS (upd H m.p1 (.lst (bs'.map V.int))) a m B { z with bs:=bs' }:=by
 obtain ⟨h,w,o1,o2,o3⟩:=M.st
 obtain ⟨d1,c1,c2⟩:=M.cell
 obtain ⟨d2,a1,a2⟩:=M.mj
 have t:cv H (upd H m.p1 (.lst (bs'.map V.int))):=.upd M.box (by intro _ z; cases z)
 have e:∀ {c o},H c=some o→c ≠ m.p1→upd H m.p1 (.lst (bs'.map V.int)) c=some o:=fun {c o} h n=>by rw [aL n]; exact h
 exact ⟨⟨h,w,e o1 (M.a_ M.box),o2.tups t,o3⟩,ah,h8,⟨d1,e c1 (bF c1 M.box (by intro z; cases z)),c2⟩,⟨d2,e a1 (bF a1 M.box (by intro z; cases z)),a2⟩,e M.gw M.n14.symm,M.n14,M.n23,M.Et,M.Eu,M.lens,M.big⟩
theorem LS.qZ (M:LS H a m B z) {p':List Int} (hl:p'.length ≤ B):LS (upd H m.p4 (.lst (p'.map V.int))) a m B { z with pile:=p' }:=by
 obtain ⟨h,w,o1,o2,o3⟩:=M.st
 obtain ⟨d1,c1,c2⟩:=M.cell
 obtain ⟨d2,a1,a2⟩:=M.mj
 have t:cv H (upd H m.p4 (.lst (p'.map V.int))):=.upd M.gw (by intro _ z; cases z)
 have e:∀ {c o},H c=some o→c ≠ m.p4→upd H m.p4 (.lst (p'.map V.int)) c=some o:=fun {c o} h n=>by rw [aL n]; exact h
 exact ⟨⟨h,w,e o1 (M.a_ M.gw),o2.tups t,o3⟩,e M.box M.n14,M.b8,⟨d1,e c1 (bF c1 M.gw (by intro z; cases z)),c2⟩,⟨d2,e a1 (bF a1 M.gw (by intro z; cases z)),a2⟩,ah,M.n14,M.n23,M.Et,M.Eu,hl,M.big⟩
theorem LS.cells (M:LS H a m B z) {d:List (Key × V)} {f:Int→Int} (hz:Rep d f) (hl:d.length ≤ B):LS (upd H m.p2 (.dK d)) a m B { z with cf:=f }:=by
 obtain ⟨h,w,o1,o2,o3⟩:=M.st
 obtain ⟨d1,c1,c2⟩:=M.cell
 obtain ⟨d2,a1,a2⟩:=M.mj
 have t:cv H (upd H m.p2 (.dK d)):=.upd c1 (by intro _ z; cases z)
 have e:∀ {c o},H c=some o→c ≠ m.p2→upd H m.p2 (.dK d) c=some o:=fun {c o} h n=>by rw [aL n]; exact h
 exact ⟨⟨h,w,e o1 M.Et,o2.tups t,o3⟩,e M.box (bF M.box c1 (by intro z; cases z)),M.b8,⟨d,ah,hz,hl⟩,⟨d2,e a1 M.n23.symm,a2⟩,e M.gw (bF M.gw c1 (by intro z; cases z)),M.n14,M.n23,M.Et,M.Eu,M.lens,M.big⟩
theorem LS.CJ (M:LS H a m B z) {d:List (Key × V)} {f:Int→Int} (hz:Rep d f) (hl:d.length ≤ B):LS (upd H m.p3 (.dK d)) a m B { z with af:=f }:=by
 obtain ⟨h,w,o1,o2,o3⟩:=M.st
 obtain ⟨d1,c1,c2⟩:=M.cell
 obtain ⟨d2,a1,a2⟩:=M.mj
 have t:cv H (upd H m.p3 (.dK d)):=.upd a1 (by intro _ z; cases z)
 have e:∀ {c o},H c=some o→c ≠ m.p3→upd H m.p3 (.dK d) c=some o:=fun {c o} h n=>by rw [aL n]; exact h
 exact ⟨⟨h,w,e o1 M.Eu,o2.tups t,o3⟩,e M.box (bF M.box a1 (by intro z; cases z)),M.b8,⟨d1,e c1 M.n23,c2⟩,⟨d,ah,hz,hl⟩,e M.gw (bF M.gw a1 (by intro z; cases z)),M.n14,M.n23,M.Et,M.Eu,M.lens,M.big⟩
theorem LS.at (M:LS H a m B z) {b:Int} (hb:Bx b):lX (z.bs.map V.int) b=some (.int (z.bx b)):=by
 obtain ⟨j,rfl⟩:=Int.eq_ofNat_of_zero_le hb.1
 have hj:j < z.bs.length:=by have:=hb.2; have:=M.b8; omega
 refine ck (j:=j) ?_
 show _=some (V.int (z.bs.getD (j:Int).toNat 0))
 rw [List.getElem?_map,List.getElem?_eq_getElem hj,Int.toNat_natCast,List.getD_eq_getElem?_getD,List.getElem?_eq_getElem hj]
 rfl
theorem LS.ix (M:LS H a m B z) {b:Int} (hb:Bx b):yp (z.bs.map V.int).length b=some b.toNat:=by
 obtain ⟨j,rfl⟩:=Int.eq_ofNat_of_zero_le hb.1
 rw [length_map,M.b8]
 have:=hb.2
 unfold yp
 rw [if_pos (by omega),if_pos (by omega)]
end
theorem Gu {b v:Int} {z:Zt}:num "set" b v z=v:=by
 simp only [num,if_pos rfl,if_true]
theorem Df {b v:Int} {z:Zt}:num "more" b v z=z.bx b + v:=by
 simp only [num,if_neg (show ¬ ("more" : Str) = "set" by decide +kernel),if_pos rfl,if_true]
theorem Dg {b v:Int} {z:Zt}:num "copy" b v z=z.bx v:=by
 simp only [num,if_neg (show ¬ ("copy" : Str) = "set" by decide +kernel),if_neg (show ¬ ("copy" : Str) = "more" by decide +kernel),if_pos rfl,if_true]
theorem num_add {b v:Int} {z:Zt}:num "add" b v z=z.bx b + z.bx v:=by
 simp only [num,if_neg (show ¬ ("add" : Str) = "set" by decide +kernel),if_neg (show ¬ ("add" : Str) = "more" by decide +kernel),if_neg (show ¬ ("add" : Str) = "copy" by decide +kernel),if_pos rfl,if_true]
theorem Dh {b v:Int} {z:Zt}:num "less" b v z=z.bx b - z.bx v:=by
 simp only [num,if_neg (show ¬ ("less" : Str) = "set" by decide +kernel),if_neg (show ¬ ("less" : Str) = "more" by decide +kernel),if_neg (show ¬ ("less" : Str) = "copy" by decide +kernel),if_neg (show ¬ ("less" : Str) = "add" by decide +kernel),if_pos rfl,if_true]
theorem Di {b v:Int} {z:Zt}:num "load" b v z=z.cf (z.bx v):=by
 simp only [num,if_neg (show ¬ ("load" : Str) = "set" by decide +kernel),if_neg (show ¬ ("load" : Str) = "more" by decide +kernel),if_neg (show ¬ ("load" : Str) = "copy" by decide +kernel),if_neg (show ¬ ("load" : Str) = "add" by decide +kernel),if_neg (show ¬ ("load" : Str) = "less" by decide +kernel),if_pos rfl,if_true]
theorem Dj {b v:Int} {z:Zt}:num "take" b v z=z.af v:=by
 simp only [num,if_neg (show ¬ ("take" : Str) = "set" by decide +kernel),if_neg (show ¬ ("take" : Str) = "more" by decide +kernel),if_neg (show ¬ ("take" : Str) = "copy" by decide +kernel),if_neg (show ¬ ("take" : Str) = "add" by decide +kernel),if_neg (show ¬ ("take" : Str) = "less" by decide +kernel),if_neg (show ¬ ("take" : Str) = "load" by decide +kernel)]
theorem Ks (ts:List Int) (b:Int) (h:0 ≤ b∧b < ts.length):lX (ts.map V.int) b=some (.int (ts.getD b.toNat 0)):=by
 obtain ⟨j,rfl⟩:=Int.eq_ofNat_of_zero_le h.1
 have hj:j < ts.length:=by omega
 refine ck (j:=j) ?_
 rw [List.getElem?_map,List.getElem?_eq_getElem hj,Int.toNat_natCast,List.getD_eq_getElem?_getD,List.getElem?_eq_getElem hj]
 rfl
theorem nin {u:Str} {L:List Str} (h:¬ u ∈ L):¬ ((if false=true then !inV (.str u) (L.map V.str) else inV (.str u) (L.map V.str))=true):=by
 rw [if_neg (by decide),d8]
 simpa using h
theorem RV {u:Str} {L:List Str} (h:u ∈ L):(if false=true then !inV (.str u) (L.map V.str) else inV (.str u) (L.map V.str))=true:=by
 rw [if_neg (by decide),d8]
 exact decide_eq_true h
theorem neq {u x:Str} (h:¬ u=x):¬ decide (V.str u=V.str x)=true:=fun e=>h (strEq e)
abbrev bg (bells:List Int):Int→Bool:=fun j=>decide (j ∈ bells)
section
variable {P:Program} {w:World} {K:Frag} {mg:Str→Option Value} {base:Heap}
def seven:List Str:=["set", "more", "copy", "add", "less", "load", "take"]
def nine:List Str:=["set", "more", "copy", "add", "less", "load", "keep", "put", "take"]
def fh (r:Rw) (z:Zt):Zt:=match r with
 | .two u b v=>if u = "keep" then { z with cf:=iX z.cf (z.bx b) (z.bx v) } else if u = "put" then { z with af:=iX z.af v (z.bx b) } else if u = "see" then z else { z with bs:=z.bs.set b.toNat (num u b v z) }
 | _=>z
def Dk:Sp:=fun vs H Q _=>∃ (a q:Addr) (m:LA) (B:Nat) (z:Zt) (n:Int) (r:Rw),vs=[.ref q,.ref a]∧LS H a m B z∧B < 900∧gS H q n r ∧
 ∀ H',Keeps (iR m a) H H'→LS H' a m (B + 1) (fh r z)→Q .non H'
theorem wQ:aJ ["_law_row_here", "_law_state", "_law_boxes", "_law_word"] ["_law_row_here", "_law_state"] (ak fu):=⟨rfl,rfl,rfl,by decide +kernel,rfl,by decide +kernel,by decide +kernel⟩
theorem lO {H:Hp} {q:Addr} {n:Int} {r:Rw} (h:gS H q n r):∃ xs,H q=some (.tup (.str r.word :: xs)):=by
 cases r with
 | stop=>exact ⟨_,h⟩
 | back=>exact ⟨_,h⟩
 | halt v=>exact ⟨_,h⟩
 | two u b v=>exact ⟨_,h.1⟩
 | tell b=>exact ⟨_,h.1⟩
 | eA u t f=>exact ⟨_,h.1⟩
 | zb u b t f=>exact ⟨_,h.1⟩
 | table b ts=>obtain ⟨p,h1,_⟩:=h; exact ⟨_,h1⟩
theorem Gv {f:Addr} {fd:FuncData} (F:dJ K "_law_done" "_law_done" fu f fd) (T:Txt K w.params mg):aR P w K mg base bV 1 f fd ["_law_row_here", "_law_state"] Dk:=by
 refine F.ok wQ (fun vs H Q E h=>?_) (fun cdv A outer s H vs Q E hr h=>?_)
 ·obtain ⟨a,q,m,B,z,n,r,rfl,_⟩:=h
  rfl
 ·obtain ⟨a,q,m,B,z,n,r,rfl,M0,hB,hR,k⟩:=h
  have M:=M0.more (le_succ B) (by omega)
  have hu:=cC hr
  obtain ⟨h0,w0,ho,hw,_⟩:=M.st
  obtain ⟨xs0,Gw⟩:=lO hR
  refine ⟨_,(aA (aV (i:=2) wQ.nd rfl (Or.inl rfl) (bj hu (pv 1) aq (fun _ _=>rfl)))
   (aA (aV (i:=3) wQ.nd rfl (Or.inl rfl) (au az (pv 0) ai (fun _ _=>rfl)))
   (aA (bU (aF bQ (pv 3) aq (aO _)) (aw (dO (au az (pv 0) ai (fun _ _=>rfl)) (eI (pv 2) (au az (pv 0) ai (fun _ _=>rfl)) set_list))) aM)
   (aA (bU (aF bQ (pv 3) aq (aO _)) (aw (dO (aN dn (au aK (pv 2) (au az (pv 0) ai (fun _ _=>rfl)) (fun _ _=>rfl)) (au az (pv 0) ai (fun _ _=>rfl))) (eI (pv 2) (au az (pv 0) ai (fun _ _=>rfl)) set_list))) aM)
   (aA (bU (aF bQ (pv 3) aq (aO _)) (aw (dO (au aK (pv 2) (au az (pv 0) ai (fun _ _=>rfl)) (fun _ _=>rfl)) (eI (pv 2) (au az (pv 0) ai (fun _ _=>rfl)) set_list))) aM)
   (aA (bU (aF bQ (pv 3) aq (aO _)) (aw (dO (aN dn (au aK (pv 2) (au az (pv 0) ai (fun _ _=>rfl)) (fun _ _=>rfl)) (au aK (pv 2) (au az (pv 0) ai (fun _ _=>rfl)) (fun _ _=>rfl))) (eI (pv 2) (au az (pv 0) ai (fun _ _=>rfl)) set_list))) aM)
   (aA (bU (aF bQ (pv 3) aq (aO _)) (aw (dO (aN ib (au aK (pv 2) (au az (pv 0) ai (fun _ _=>rfl)) (fun _ _=>rfl)) (au aK (pv 2) (au az (pv 0) ai (fun _ _=>rfl)) (fun _ _=>rfl))) (eI (pv 2) (au az (pv 0) ai (fun _ _=>rfl)) set_list))) aM)
   (aA (bU (aF bQ (pv 3) aq (aO _)) (aw (dO (ja hu (bj hu (pv 1) aq (fun _ _=>rfl)) (au aK (pv 2) (au az (pv 0) ai (fun _ _=>rfl)) (fun _ _=>rfl)) ai ⟨rfl,rfl,rfl,rfl⟩) (eI (pv 2) (au az (pv 0) ai (fun _ _=>rfl)) set_list))) aM)
   (aA (bU (aF bQ (pv 3) aq (aO _)) (aw (dh hu (bj hu (pv 1) aq (fun _ _=>rfl)) (au aK (pv 2) (au az (pv 0) ai (fun _ _=>rfl)) (fun _ _=>rfl)) (au aK (pv 2) (au az (pv 0) ai (fun _ _=>rfl)) (fun _ _=>rfl)) rfl)) aM)
   (aA (bU (aF bQ (pv 3) aq (aO _)) (aw (dh hu (bj hu (pv 1) aq (fun _ _=>rfl)) (au az (pv 0) ai (fun _ _=>rfl)) (au aK (pv 2) (au az (pv 0) ai (fun _ _=>rfl)) (fun _ _=>rfl)) rfl)) aM)
   (aw (bU (aF bQ (pv 3) aq (aO _)) (aw (dO (ja hu (bj hu (pv 1) aq (fun _ _=>rfl)) (au az (pv 0) ai (fun _ _=>rfl)) ai ⟨rfl,rfl,rfl,rfl⟩) (eI (pv 2) (au az (pv 0) ai (fun _ _=>rfl)) set_list))) aM)))))))))))),?_⟩
  refine ⟨_,rfl,a,_,rfl,dw ho vp,?_⟩
  by_cases h9:r.word ∈ nine
  ·cases r with
   | stop=>exact absurd h9 (by decide +kernel)
   | back=>exact absurd h9 (by decide +kernel)
   | halt v=>exact absurd h9 (show ¬ ("halt" : Str) ∈ nine by decide +kernel)
   | tell b=>exact absurd h9 (show ¬ ("tell" : Str) ∈ nine by decide +kernel)
   | table b ts=>exact absurd h9 (show ¬ ("table" : Str) ∈ nine by decide +kernel)
   | eA u t f=>exact absurd h9 ((by decide +kernel:∀ u ∈ My.eA,¬ u ∈ nine) u hR.2.1)
   | zb u b t f=>exact absurd h9 ((by decide +kernel:∀ u ∈ My.zb,¬ u ∈ nine) u hR.2.1)
   | two u b v =>
    obtain ⟨HQ,_,hb,hv⟩:=hR
    refine ⟨_,rfl,q,_,_,.str u,rfl,rfl,aS.of HQ,at0 _ _,?_⟩
    have fin:u ∈ seven→∀ y,num u b v z=y→Q .non (upd H m.p1 (.lst ((z.bs.set b.toNat y).map V.int))):=fun h7 y e=>by
     obtain ⟨n1,n2,n3⟩:=(by decide +kernel:∀ u ∈ seven,¬ u = "keep" ∧ ¬ u = "put" ∧ ¬ u = "see") u h7
     refine k _ (Keeps.refl.upd M.box (by intro _ z; cases z) (.inr (.inl rfl))) ?_
     simp only [fh,if_neg n1,if_neg n2,if_neg n3,e]
     exact M.kQ (by rw [length_set]; exact M.b8)
    rcases (show u = "set" ∨ u = "more" ∨ u = "copy" ∨ u = "add" ∨ u = "less" ∨ u = "load" ∨ u = "take" ∨ u = "keep" ∨ u = "put" by simpa [seven,or_assoc] using (by decide +kernel:∀ u ∈ nine,u ∈ seven ++ (["keep", "put"]:List Str)) u h9) with rfl | rfl | rfl | rfl | rfl | rfl | rfl | rfl | rfl
    ·repeat refine ⟨_,rfl,rfl,_,rfl,aW (by decide +kernel) ?_⟩
     refine ⟨_,rfl,rfl,_,rfl,cy (by decide +kernel) ?_⟩
     refine ⟨_,rfl,q,_,_,.int v,rfl,rfl,aS.of HQ,at2 _ _ _ _,_,rfl,_,rfl,q,_,_,.int b,rfl,rfl,aS.of HQ,at1 _ _ _,m.p1,_,_,_,rfl,rfl,M.box,M.ix hb,?_⟩
     rw [← map_set]
     repeat refine ⟨_,rfl,rfl,_,rfl,aW (by decide +kernel) ?_⟩
     exact fin (by decide +kernel) _ Gu
    ·repeat refine ⟨_,rfl,rfl,_,rfl,aW (by decide +kernel) ?_⟩
     refine ⟨_,rfl,rfl,_,rfl,cy (by decide +kernel) ?_⟩
     refine ⟨_,rfl,_,rfl,q,_,_,.int b,rfl,rfl,aS.of HQ,at1 _ _ _,m.p1,_,_,.int (z.bx b),rfl,rfl,bh.of M.box,M.at hb,_,rfl,q,_,_,.int v,rfl,rfl,aS.of HQ,at2 _ _ _ _,_,_,rfl,rfl,_,rfl,_,rfl,q,_,_,.int b,rfl,rfl,aS.of HQ,at1 _ _ _,m.p1,_,_,_,rfl,rfl,M.box,M.ix hb,?_⟩
     rw [← map_set]
     repeat refine ⟨_,rfl,rfl,_,rfl,aW (by decide +kernel) ?_⟩
     exact fin (by decide +kernel) _ Df
    ·repeat refine ⟨_,rfl,rfl,_,rfl,aW (by decide +kernel) ?_⟩
     refine ⟨_,rfl,rfl,_,rfl,cy (by decide +kernel) ?_⟩
     refine ⟨_,rfl,_,rfl,q,_,_,.int v,rfl,rfl,aS.of HQ,at2 _ _ _ _,m.p1,_,_,.int (z.bx v),rfl,rfl,bh.of M.box,M.at (hv (by decide +kernel)),_,rfl,_,rfl,q,_,_,.int b,rfl,rfl,aS.of HQ,at1 _ _ _,m.p1,_,_,_,rfl,rfl,M.box,M.ix hb,?_⟩
     rw [← map_set]
     repeat refine ⟨_,rfl,rfl,_,rfl,aW (by decide +kernel) ?_⟩
     exact fin (by decide +kernel) _ Dg
    ·repeat refine ⟨_,rfl,rfl,_,rfl,aW (by decide +kernel) ?_⟩
     refine ⟨_,rfl,rfl,_,rfl,cy (by decide +kernel) ?_⟩
     refine ⟨_,rfl,_,rfl,q,_,_,.int b,rfl,rfl,aS.of HQ,at1 _ _ _,m.p1,_,_,.int (z.bx b),rfl,rfl,bh.of M.box,M.at hb,_,rfl,_,rfl,q,_,_,.int v,rfl,rfl,aS.of HQ,at2 _ _ _ _,m.p1,_,_,.int (z.bx v),rfl,rfl,bh.of M.box,M.at (hv (by decide +kernel)),_,_,rfl,rfl,_,rfl,_,rfl,q,_,_,.int b,rfl,rfl,aS.of HQ,at1 _ _ _,m.p1,_,_,_,rfl,rfl,M.box,M.ix hb,?_⟩
     rw [← map_set]
     repeat refine ⟨_,rfl,rfl,_,rfl,aW (by decide +kernel) ?_⟩
     exact fin (by decide +kernel) _ num_add
    ·repeat refine ⟨_,rfl,rfl,_,rfl,aW (by decide +kernel) ?_⟩
     refine ⟨_,rfl,rfl,_,rfl,cy (by decide +kernel) ?_⟩
     refine ⟨_,rfl,_,rfl,q,_,_,.int b,rfl,rfl,aS.of HQ,at1 _ _ _,m.p1,_,_,.int (z.bx b),rfl,rfl,bh.of M.box,M.at hb,_,rfl,_,rfl,q,_,_,.int v,rfl,rfl,aS.of HQ,at2 _ _ _ _,m.p1,_,_,.int (z.bx v),rfl,rfl,bh.of M.box,M.at (hv (by decide +kernel)),_,_,rfl,rfl,_,rfl,_,rfl,q,_,_,.int b,rfl,rfl,aS.of HQ,at1 _ _ _,m.p1,_,_,_,rfl,rfl,M.box,M.ix hb,?_⟩
     rw [← map_set]
     repeat refine ⟨_,rfl,rfl,_,rfl,aW (by decide +kernel) ?_⟩
     exact fin (by decide +kernel) _ Dh
    ·repeat refine ⟨_,rfl,rfl,_,rfl,aW (by decide +kernel) ?_⟩
     refine ⟨_,rfl,rfl,_,rfl,cy (by decide +kernel) ?_⟩
     obtain ⟨d,c1,c2,c3⟩:=M.cell
     refine ⟨_,rfl,a,_,rfl,dw ho Ip,m.p2,rfl,.inl ⟨_,.of c1⟩,_,rfl,_,rfl,q,_,_,.int v,rfl,rfl,aS.of HQ,at2 _ _ _ _,m.p1,_,_,.int (z.bx v),rfl,rfl,bh.of M.box,M.at (hv (by decide +kernel)),_,iL.k (k:=Sum.inl (z.bx v)) c1,?_⟩
     rw [c2.val]
     refine ⟨_,rfl,_,rfl,q,_,_,.int b,rfl,rfl,aS.of HQ,at1 _ _ _,m.p1,_,_,_,rfl,rfl,M.box,M.ix hb,?_⟩
     rw [← map_set]
     repeat refine ⟨_,rfl,rfl,_,rfl,aW (by decide +kernel) ?_⟩
     exact fin (by decide +kernel) _ Di
    ·repeat refine ⟨_,rfl,rfl,_,rfl,aW (by decide +kernel) ?_⟩
     refine ⟨_,rfl,rfl,_,rfl,cy (by decide +kernel) ?_⟩
     obtain ⟨d,c1,c2,c3⟩:=M.mj
     refine ⟨_,rfl,a,_,rfl,dw ho Iq,m.p3,rfl,.inl ⟨_,.of c1⟩,_,rfl,q,_,_,.int v,rfl,rfl,aS.of HQ,at2 _ _ _ _,_,iL.k (k:=Sum.inl v) c1,?_⟩
     rw [c2.val]
     refine ⟨_,rfl,_,rfl,q,_,_,.int b,rfl,rfl,aS.of HQ,at1 _ _ _,m.p1,_,_,_,rfl,rfl,M.box,M.ix hb,?_⟩
     rw [← map_set]
     repeat refine ⟨_,rfl,rfl,_,rfl,aW (by decide +kernel) ?_⟩
     exact fin (by decide +kernel) _ Dj
    ·repeat refine ⟨_,rfl,rfl,_,rfl,aW (by decide +kernel) ?_⟩
     refine ⟨_,rfl,rfl,_,rfl,cy (by decide +kernel) ?_⟩
     obtain ⟨d,c1,c2,c3⟩:=M0.cell
     refine ⟨_,rfl,_,rfl,q,_,_,.int v,rfl,rfl,aS.of HQ,at2 _ _ _ _,m.p1,_,_,.int (z.bx v),rfl,rfl,bh.of M.box,M.at (hv (by decide +kernel)),_,rfl,a,_,rfl,dw ho Ip,_,rfl,_,rfl,q,_,_,.int b,rfl,rfl,aS.of HQ,at1 _ _ _,m.p1,_,_,.int (z.bx b),rfl,rfl,bh.of M.box,M.at hb,m.p2,_,rfl,ic.k (k:=Sum.inl (z.bx b)) c1 (bw (by omega)),?_⟩
     repeat refine ⟨_,rfl,rfl,_,rfl,aW (by decide +kernel) ?_⟩
     exact k _ (Keeps.refl.upd c1 (by intro _ z; cases z) (.inr (.inr (.inl rfl)))) (by simp only [fh,if_true]; exact M.cells (c2.put _ _) (le_trans (dg d _ _) (by omega)))
    ·repeat refine ⟨_,rfl,rfl,_,rfl,aW (by decide +kernel) ?_⟩
     refine ⟨_,rfl,rfl,_,rfl,cy (by decide +kernel) ?_⟩
     obtain ⟨d,c1,c2,c3⟩:=M0.mj
     refine ⟨_,rfl,_,rfl,q,_,_,.int b,rfl,rfl,aS.of HQ,at1 _ _ _,m.p1,_,_,.int (z.bx b),rfl,rfl,bh.of M.box,M.at hb,_,rfl,a,_,rfl,dw ho Iq,_,rfl,q,_,_,.int v,rfl,rfl,aS.of HQ,at2 _ _ _ _,m.p3,_,rfl,ic.k (k:=Sum.inl v) c1 (bw (by omega)),?_⟩
     repeat refine ⟨_,rfl,rfl,_,rfl,aW (by decide +kernel) ?_⟩
     exact k _ (Keeps.refl.upd c1 (by intro _ z; cases z) (.inr (.inr (.inr (.inl rfl))))) (by simp only [fh,if_neg (show ¬ ("put" : Str) = "keep" by decide +kernel),if_true]; exact M.CJ (c2.put _ _) (le_trans (dg d _ _) (by omega)))
  ·have no:∀ x ∈ nine,¬ decide (V.str r.word=V.str x)=true:=fun x hx e=>h9 (strEq e ▸ hx)
   have hd:fh r z=z:=by
    cases r with
    | two u b v =>
     have:u = "see" := (by decide +kernel:∀ u ∈ ten,¬ u ∈ nine→u = "see") u hR.2.1 h9
     subst this
     rfl
    | _=>rfl
   rw [hd] at k
   refine ⟨_,rfl,q,_,_,_,rfl,rfl,aS.of Gw,at0 _ _,?_⟩
   iterate 9 refine ⟨_,rfl,rfl,_,rfl,aW (no _ (by decide +kernel)) ?_⟩
   exact k _ Keeps.refl M
end
section
variable {P:Program} {w:World} {K:Frag} {mg:Str→Option Value} {base:Heap}
def cA (ring:Int→Bool) (r:Rw) (h:Int) (z:Zt):Int × Zt:=match r with
 | .eA u t _=>if u = "jump" then (t,z) else if u = "call" then (t,{ z with pile:=z.pile ++ [h + 1] }) else if ring z.k=true then (t,{ z with pile:=z.pile ++ [h + 1],k:=z.k + 1 }) else (h + 1,{ z with k:=z.k + 1 })
 | .zb u b t _=>(if (u = "zero" ∧ z.bx b=0)∨(u = "below" ∧ z.bx b < 0) then t else h + 1,z)
 | .table b ts=>(if 0 ≤ z.bx b∧z.bx b < ts.length then ts.getD (z.bx b).toNat 0 else h + 1,z)
 | _=>(h + 1,z)
def mq:List Str:=["jump", "zero", "below", "table", "mark", "call"]
def yZ:Sp:=fun vs H Q _=>∃ (a q lb:Addr) (m:LA) (B:Nat) (z:Zt) (h n:Int) (r:Rw) (bells:List Int),vs=[.ref q,.ref a,.ref lb]∧LS H a m B z∧B < 900∧z.how=none∧z.here=.int h∧gS H q n r∧H lb=some (.lst (bells.map V.int)) ∧
 ∀ H',Keeps (iR m a) H H'→LS H' a m (B + 1) (cA (bg bells) r h z).2→Q (.int (cA (bg bells) r h z).1) H'
theorem tE:aJ ["_law_row_here", "_law_state", "_law_bells", "_law_boxes", "_law_behind"] ["_law_row_here", "_law_state", "_law_bells"] (ak eP):=⟨rfl,rfl,rfl,by decide +kernel,rfl,by decide +kernel,by decide +kernel⟩
theorem Dl {f:Addr} {fd:FuncData} (F:dJ K "_law_moved" "_law_moved" eP f fd) (T:Txt K w.params mg):aR P w K mg base bV 1 f fd ["_law_row_here", "_law_state", "_law_bells"] yZ:=by
 refine F.ok tE (fun vs H Q E h=>?_) (fun cdv A outer s H vs Q E hr h=>?_)
 ·obtain ⟨a,q,lb,m,B,z,h,n,r,bells,rfl,_⟩:=h
  rfl
 ·obtain ⟨a,q,lb,m,B,z,h,n,r,bells,rfl,M0,hB,hn,hh,hR,hlb,k⟩:=h
  have M:=M0.more (le_succ B) (by omega)
  have hu:=cC hr
  obtain ⟨h0,w0,ho,hw,hq0⟩:=M.st
  have hq0:=(hq0 hn).trans hh
  subst hq0
  obtain ⟨xs0,Gw⟩:=lO hR
  refine ⟨_,(aA (aV (i:=3) tE.nd rfl (Or.inl rfl) (bj hu (pv 1) aq (fun _ _=>rfl)))
   (aA (aV (i:=4) tE.nd rfl (Or.inl rfl) (aN dn (bj hu (pv 1) aq (fun _ _=>rfl)) ai))
   (aA (bU (j3 (aF bQ (au az (pv 0) ai (fun _ _=>rfl)) aq (aO _)) (j3 (dM (aF bQ (au az (pv 0) ai (fun _ _=>rfl)) aq (aO _)) (dD (aF bQ (au aK (pv 3) (au az (pv 0) ai (fun _ _=>rfl)) (fun _ _=>rfl)) ai (aO _)))).pt (iZ (dM (aF bQ (au az (pv 0) ai (fun _ _=>rfl)) aq (aO _)) (dD (aF iu (au aK (pv 3) (au az (pv 0) ai (fun _ _=>rfl)) (fun _ _=>rfl)) ai (aO _)))).pt))).pt (aw (aU (au az (pv 0) (i6 gN ai) (fun _ _=>rfl)))) aM)
   (aA (bU (dM (aF bQ (au az (pv 0) ai (fun _ _=>rfl)) aq (aO _)) (dD (j5 om iu ai (au aK (pv 3) (au az (pv 0) ai (fun _ _=>rfl)) (fun _ _=>rfl)) (bf aZ (by rfl) T.len cV (ae (au az (pv 0) ai (fun _ _=>rfl)) ao))))).pt (aw (aU (au az (au az (pv 0) ai (fun _ _=>rfl)) (au aK (pv 3) (au az (pv 0) ai (fun _ _=>rfl)) (fun _ _=>rfl)) (fun _ _=>rfl)))) aM)
   (aA (bU (aF bQ (au az (pv 0) ai (fun _ _=>rfl)) aq (aO _)) (aw (dh hu (pv 1) aq (aN dn (bj hu (pv 1) aq (fun _ _=>rfl)) ai) rfl)) aM)
   (aA (bU (j3 (aF bQ (au az (pv 0) ai (fun _ _=>rfl)) aq (aO _)) (iZ (dM (aF bQ (au az (pv 0) ai (fun _ _=>rfl)) aq (aO _)) (dD (aF cX (aN ib (bj hu (pv 1) aq (fun _ _=>rfl)) ai) (pv 2) rfl))).pt)).pt (aA (bJ (gn PySem.F.plainAttrs_list PySem.F.slot_list_append PySem.F.type_list_append cr (bj hu (pv 1) aq (fun _ _=>rfl)) (ae (pv 4) ao)))
   (aw (aU (au az (pv 0) (i6 gN ai) (fun _ _=>rfl))))) aM)
   (aw (aU (pv 4))))))))),?_⟩
  refine ⟨_,rfl,a,_,rfl,dw ho vp,?_⟩
  refine ⟨_,rfl,a,_,rfl,dw ho rm,_,_,rfl,rfl,?_⟩
  by_cases h6:r.word ∈ mq
  ·cases r with
   | stop=>exact absurd h6 (by decide +kernel)
   | back=>exact absurd h6 (by decide +kernel)
   | halt v=>exact absurd h6 (show ¬ ("halt" : Str) ∈ mq by decide +kernel)
   | tell b=>exact absurd h6 (show ¬ ("tell" : Str) ∈ mq by decide +kernel)
   | two u b v=>exact absurd h6 ((by decide +kernel:∀ u ∈ ten,¬ u ∈ mq) u hR.2.1)
   | eA u t f =>
    obtain ⟨HQ,h3,_⟩:=hR
    rcases (show u = "jump" ∨ u = "call" ∨ u = "mark" by simpa [My.eA] using h3) with rfl | rfl | rfl
    ·refine ⟨_,rfl,q,_,_,_,rfl,rfl,aS.of HQ,at0 _ _,rfl,_,rfl,cy (by decide +kernel) ?_⟩
     rw [show cA (bg bells) (.eA "jump" t f) h z=(t,z) by simp only [cA,if_true]] at k
     refine BW ⟨_,rfl,2,rfl,q,_,_,.int t,rfl,rfl,aS.of HQ,rfl,k _ Keeps.refl M⟩
    ·(refine ⟨_,rfl,q,_,_,_,rfl,rfl,aS.of HQ,at0 _ _,rfl,_,rfl,aW (by decide +kernel) ?_⟩; refine ⟨_,rfl,q,_,_,_,rfl,rfl,aS.of HQ,at0 _ _,rfl,_,rfl,aW (by decide +kernel) ?_⟩; refine ie ?_; refine ⟨_,rfl,q,_,_,_,rfl,rfl,aS.of HQ,at0 _ _,rfl,_,rfl,aW (by decide +kernel) ?_⟩; refine ie ?_)
     refine ⟨_,rfl,q,_,_,_,rfl,rfl,aS.of HQ,at0 _ _,rfl,_,rfl,aW (by decide +kernel) ?_⟩
     refine ⟨_,rfl,q,_,_,_,rfl,rfl,aS.of HQ,at0 _ _,rfl,_,rfl,aW (by decide +kernel) ?_⟩
     refine ⟨_,rfl,q,_,_,_,rfl,rfl,aS.of HQ,at0 _ _,rfl,_,rfl,cy (by decide +kernel) ?_⟩
     refine BW ?_
     (refine ⟨_,rfl,a,_,rfl,dw ho tD,.inl ⟨rfl,_,bh.of M.gw⟩,_,rfl,m.p4,_,_,rfl,rfl,M.gw,bw (by have:=M0.lens; rw [length_map]; show z.pile.length ≤ 1000; omega),?_⟩; rw [show z.pile.map V.int ++ [V.int (h + 1)]=(z.pile ++ [h + 1]).map V.int by simp])
     have k2:Keeps (iR m a) H _:=Keeps.refl.upd (o':=.lst ((z.pile ++ [h + 1]).map V.int)) M.gw (by intro _ z; cases z) (.inr (.inr (.inr (.inr rfl))))
     rw [show cA (bg bells) (.eA "call" t f) h z=(t,{ z with pile:=z.pile ++ [h + 1] }) by simp only [cA,if_neg (show ¬ ("call" : Str) = "jump" by decide +kernel),if_true]] at k
     exact ⟨_,rfl,2,rfl,q,_,_,.int t,rfl,rfl,aS.of (k2.tups _ _ HQ),rfl,k _ k2 (M.qZ (by have:=M0.lens; simp; omega))⟩
    ·(refine ⟨_,rfl,q,_,_,_,rfl,rfl,aS.of HQ,at0 _ _,rfl,_,rfl,aW (by decide +kernel) ?_⟩; refine ⟨_,rfl,q,_,_,_,rfl,rfl,aS.of HQ,at0 _ _,rfl,_,rfl,aW (by decide +kernel) ?_⟩; refine ie ?_; refine ⟨_,rfl,q,_,_,_,rfl,rfl,aS.of HQ,at0 _ _,rfl,_,rfl,aW (by decide +kernel) ?_⟩; refine ie ?_)
     refine ⟨_,rfl,q,_,_,_,rfl,rfl,aS.of HQ,at0 _ _,rfl,_,rfl,aW (by decide +kernel) ?_⟩
     refine ⟨_,rfl,q,_,_,_,rfl,rfl,aS.of HQ,at0 _ _,rfl,_,rfl,cy (by decide +kernel) ?_⟩
     refine ⟨_,rfl,a,_,rfl,dw ho De,_,_,rfl,rfl,_,rfl,a,_,rfl,ic.k (k:=Sum.inr "marks") ho yX,?_⟩
     rw [Kr]
     have k1:Keeps (iR m a) H _:=Keeps.refl.upd (o':=.dK (ld m (.int h) w0 (z.k + 1))) ho (by intro _ z; cases z) (.inl rfl)
     have M1:=M.put (h':=.int h) (hh:=z.here) (k':=z.k + 1) hw (fun _=>hh.symm)
     have RW:upd H a (.dK (ld m (.int h) w0 (z.k + 1))) lb=some (.lst (bells.map V.int)):=by rw [aL (bF hlb ho (by intro z; cases z))]; exact hlb
     have Gx:=k1.tups _ _ HQ
     refine ⟨_,rfl,q,_,_,_,rfl,rfl,aS.of Gx,at0 _ _,rfl,_,rfl,aW (by decide +kernel) ?_⟩
     refine ⟨_,rfl,q,_,_,_,rfl,rfl,aS.of Gx,at0 _ _,rfl,_,rfl,cy (by decide +kernel) ?_⟩
     refine ⟨_,rfl,a,_,rfl,dw ah De,_,_,rfl,rfl,_,rfl,lb,_,rfl,.inl (bh.of RW),rfl,qW _,_,rfl,?_⟩
     rw [show (if false=true then !inV (V.int (z.k + 1 - 1)) (bells.map V.int) else inV (V.int (z.k + 1 - 1)) (bells.map V.int))=decide (z.k ∈ bells) from by rw [if_neg (by decide),sy,show z.k + 1 - 1=z.k by omega]]
     have n1:¬ ("mark" : Str) = "jump" := by decide +kernel
     have n2:¬ ("mark" : Str) = "call" := by decide +kernel
     refine dk (fun c=>?_) (fun c=>?_)
     ·rw [show cA (bg bells) (.eA "mark" t f) h z=(t,{ z with pile:=z.pile ++ [h + 1],k:=z.k + 1 }) by simp only [cA,if_neg n1,if_neg n2]; exact if_pos c] at k
      (refine ⟨_,rfl,a,_,rfl,dw ah tD,.inl ⟨rfl,_,bh.of M1.gw⟩,_,rfl,m.p4,_,_,rfl,rfl,M1.gw,bw (by have:=M0.lens; rw [length_map]; show z.pile.length ≤ 1000; omega),?_⟩; rw [show z.pile.map V.int ++ [V.int (h + 1)]=(z.pile ++ [h + 1]).map V.int by simp])
      have k2:=k1.upd (o':=.lst ((z.pile ++ [h + 1]).map V.int)) M1.gw (by intro _ z; cases z) (.inr (.inr (.inr (.inr rfl))))
      exact ⟨_,rfl,2,rfl,q,_,_,.int t,rfl,rfl,aS.of (k2.tups _ _ HQ),rfl,k _ k2 (M1.qZ (by have:=M0.lens; simp; omega))⟩
     ·rw [show cA (bg bells) (.eA "mark" t f) h z=(h + 1,{ z with k:=z.k + 1 }) by simp only [cA,if_neg n1,if_neg n2]; exact if_neg c] at k
      exact ⟨_,rfl,k _ k1 M1⟩
   | zb u b t f =>
    obtain ⟨HQ,h3,hb,_⟩:=hR
    rcases (show u = "zero" ∨ u = "below" by simpa [My.zb] using h3) with rfl | rfl
    ·refine ⟨_,rfl,q,_,_,_,rfl,rfl,aS.of HQ,at0 _ _,rfl,_,rfl,aW (by decide +kernel) ?_⟩
     refine ⟨_,rfl,q,_,_,_,rfl,rfl,aS.of HQ,at0 _ _,rfl,_,rfl,cy (by decide +kernel) ?_⟩
     refine ⟨_,rfl,_,rfl,q,_,_,.int b,rfl,rfl,aS.of HQ,at1 _ _ _,m.p1,_,_,.int (z.bx b),rfl,rfl,bh.of M.box,M.at hb,rfl,_,rfl,dk (fun c=>?_) (fun c=>?_)⟩
     ·have c:z.bx b=0:=by simpa using of_decide_eq_true c
      rw [show cA (bg bells) (.zb "zero" b t f) h z=(t,z) by show (_,_)=_; rw [if_pos (.inl ⟨rfl,c⟩)]] at k
      refine BW ?_
      exact ⟨_,rfl,2,rfl,q,_,_,.int t,rfl,rfl,aS.of HQ,rfl,k _ Keeps.refl M⟩
     ·have c:¬ z.bx b=0:=fun e=>c (by rw [e]; exact decide_eq_true rfl)
      rw [show cA (bg bells) (.zb "zero" b t f) h z=(h + 1,z) by show (_,_)=_; rw [if_neg (fun y=>y.elim (fun y=>c y.2) (fun y=>absurd y.1 (by decide +kernel)))]] at k
      refine ⟨_,rfl,q,_,_,_,rfl,rfl,aS.of HQ,at0 _ _,rfl,_,rfl,aW (by decide +kernel) ?_⟩
      refine ie ?_
      refine ⟨_,rfl,q,_,_,_,rfl,rfl,aS.of HQ,at0 _ _,rfl,_,rfl,aW (by decide +kernel) ?_⟩
      (refine ⟨_,rfl,q,_,_,_,rfl,rfl,aS.of HQ,at0 _ _,rfl,_,rfl,aW (by decide +kernel) ?_⟩; refine ⟨_,rfl,q,_,_,_,rfl,rfl,aS.of HQ,at0 _ _,rfl,_,rfl,aW (by decide +kernel) ?_⟩; refine ⟨_,rfl,q,_,_,_,rfl,rfl,aS.of HQ,at0 _ _,rfl,_,rfl,aW (by decide +kernel) ?_⟩; refine ie ?_)
      exact ⟨_,rfl,k _ Keeps.refl M⟩
    ·refine ⟨_,rfl,q,_,_,_,rfl,rfl,aS.of HQ,at0 _ _,rfl,_,rfl,aW (by decide +kernel) ?_⟩
     refine ⟨_,rfl,q,_,_,_,rfl,rfl,aS.of HQ,at0 _ _,rfl,_,rfl,aW (by decide +kernel) ?_⟩
     refine ie ?_
     refine ⟨_,rfl,q,_,_,_,rfl,rfl,aS.of HQ,at0 _ _,rfl,_,rfl,cy (by decide +kernel) ?_⟩
     refine ⟨_,rfl,_,rfl,q,_,_,.int b,rfl,rfl,aS.of HQ,at1 _ _ _,m.p1,_,_,.int (z.bx b),rfl,rfl,bh.of M.box,M.at hb,_,_,rfl,rfl,_,rfl,dk (fun c=>?_) (fun c=>?_)⟩
     ·have c:z.bx b < 0:=of_decide_eq_true c
      rw [show cA (bg bells) (.zb "below" b t f) h z=(t,z) by show (_,_)=_; rw [if_pos (.inr ⟨rfl,c⟩)]] at k
      exact ⟨_,rfl,2,rfl,q,_,_,.int t,rfl,rfl,aS.of HQ,rfl,k _ Keeps.refl M⟩
     ·have c:¬ z.bx b < 0:=fun e=>c (decide_eq_true e)
      rw [show cA (bg bells) (.zb "below" b t f) h z=(h + 1,z) by show (_,_)=_; rw [if_neg (fun y=>y.elim (fun y=>absurd y.1 (by decide +kernel)) (fun y=>c y.2))]] at k
      refine ⟨_,rfl,q,_,_,_,rfl,rfl,aS.of HQ,at0 _ _,rfl,_,rfl,aW (by decide +kernel) ?_⟩
      (refine ⟨_,rfl,q,_,_,_,rfl,rfl,aS.of HQ,at0 _ _,rfl,_,rfl,aW (by decide +kernel) ?_⟩; refine ⟨_,rfl,q,_,_,_,rfl,rfl,aS.of HQ,at0 _ _,rfl,_,rfl,aW (by decide +kernel) ?_⟩; refine ⟨_,rfl,q,_,_,_,rfl,rfl,aS.of HQ,at0 _ _,rfl,_,rfl,aW (by decide +kernel) ?_⟩; refine ie ?_)
      exact ⟨_,rfl,k _ Keeps.refl M⟩
   | table b ts =>
    obtain ⟨p,HQ,hp,hb,ht⟩:=hR
    (refine ⟨_,rfl,q,_,_,_,rfl,rfl,aS.of HQ,at0 _ _,rfl,_,rfl,aW (by decide +kernel) ?_⟩; refine ⟨_,rfl,q,_,_,_,rfl,rfl,aS.of HQ,at0 _ _,rfl,_,rfl,aW (by decide +kernel) ?_⟩; refine ie ?_; refine ⟨_,rfl,q,_,_,_,rfl,rfl,aS.of HQ,at0 _ _,rfl,_,rfl,aW (by decide +kernel) ?_⟩; refine ie ?_)
    refine ⟨_,rfl,q,_,_,_,rfl,rfl,aS.of HQ,at0 _ _,rfl,_,rfl,cy (by decide +kernel) ?_⟩
    refine ⟨_,rfl,_,rfl,q,_,_,.int b,rfl,rfl,aS.of HQ,at1 _ _ _,m.p1,_,_,.int (z.bx b),rfl,rfl,bh.of M.box,M.at hb,_,_,rfl,rfl,_,rfl,dk (fun e1=>?_) (fun e1=>?_)⟩
    ·have e1:=of_decide_eq_true e1
     refine ⟨_,rfl,q,_,_,.ref p,rfl,rfl,aS.of HQ,at2 _ _ _ _,p,_,rfl,.inr (aS.of hp),_,_,rfl,rfl,_,rfl,dk (fun e2=>?_) (fun e2=>?_)⟩
     ·have e2:=of_decide_eq_true e2
      rw [length_map] at e2
      rw [show cA (bg bells) (.table b ts) h z=(ts.getD (z.bx b).toNat 0,z) by show (_,_)=_; rw [if_pos ⟨e1,e2⟩]] at k
      exact ⟨_,rfl,q,_,_,.ref p,rfl,rfl,aS.of HQ,at2 _ _ _ _,_,rfl,_,rfl,q,_,_,.int b,rfl,rfl,aS.of HQ,at1 _ _ _,m.p1,_,_,.int (z.bx b),rfl,rfl,bh.of M.box,M.at hb,p,_,_,.int (ts.getD (z.bx b).toNat 0),rfl,rfl,aS.of hp,Ks ts _ ⟨e1,e2⟩,k _ Keeps.refl M⟩
     ·rw [show cA (bg bells) (.table b ts) h z=(h + 1,z) by show (_,_)=_; rw [if_neg (fun c=>e2 (decide_eq_true (by rw [length_map]; exact c.2)))]] at k
      (refine ⟨_,rfl,q,_,_,_,rfl,rfl,aS.of HQ,at0 _ _,rfl,_,rfl,aW (by decide +kernel) ?_⟩; refine ⟨_,rfl,q,_,_,_,rfl,rfl,aS.of HQ,at0 _ _,rfl,_,rfl,aW (by decide +kernel) ?_⟩; refine ⟨_,rfl,q,_,_,_,rfl,rfl,aS.of HQ,at0 _ _,rfl,_,rfl,aW (by decide +kernel) ?_⟩; refine ie ?_)
      exact ⟨_,rfl,k _ Keeps.refl M⟩
    ·rw [show cA (bg bells) (.table b ts) h z=(h + 1,z) by show (_,_)=_; rw [if_neg (fun c=>e1 (decide_eq_true c.1))]] at k
     refine ⟨_,rfl,ie ?_⟩
     (refine ⟨_,rfl,q,_,_,_,rfl,rfl,aS.of HQ,at0 _ _,rfl,_,rfl,aW (by decide +kernel) ?_⟩; refine ⟨_,rfl,q,_,_,_,rfl,rfl,aS.of HQ,at0 _ _,rfl,_,rfl,aW (by decide +kernel) ?_⟩; refine ⟨_,rfl,q,_,_,_,rfl,rfl,aS.of HQ,at0 _ _,rfl,_,rfl,aW (by decide +kernel) ?_⟩; refine ie ?_)
     exact ⟨_,rfl,k _ Keeps.refl M⟩
  ·have no:∀ x ∈ mq,¬ decide (V.str r.word=V.str x)=true:=fun x hx e=>h6 (strEq e ▸ hx)
   rw [show cA (bg bells) r h z=(h + 1,z) by
    cases r with
    | eA u t f=>exact absurd ((by decide +kernel:∀ u ∈ My.eA,u ∈ mq) u hR.2.1) h6
    | zb u b t f=>exact absurd ((by decide +kernel:∀ u ∈ My.zb,u ∈ mq) u hR.2.1) h6
    | table b ts=>exact absurd (show ("table" : Str) ∈ mq by decide +kernel) h6
    | _=>rfl] at k
   refine ⟨_,rfl,q,_,_,_,rfl,rfl,aS.of Gw,at0 _ _,rfl,_,rfl,aW (no _ (by decide +kernel)) ?_⟩
   refine ⟨_,rfl,q,_,_,_,rfl,rfl,aS.of Gw,at0 _ _,rfl,_,rfl,aW (no _ (by decide +kernel)) ?_⟩
   refine ie ?_
   refine ⟨_,rfl,q,_,_,_,rfl,rfl,aS.of Gw,at0 _ _,rfl,_,rfl,aW (no _ (by decide +kernel)) ?_⟩
   refine ie ?_
   refine ⟨_,rfl,q,_,_,_,rfl,rfl,aS.of Gw,at0 _ _,rfl,_,rfl,aW (no _ (by decide +kernel)) ?_⟩
   refine ⟨_,rfl,q,_,_,_,rfl,rfl,aS.of Gw,at0 _ _,rfl,_,rfl,aW (no _ (by decide +kernel)) ?_⟩
   refine ⟨_,rfl,q,_,_,_,rfl,rfl,aS.of Gw,at0 _ _,rfl,_,rfl,aW (no _ (by decide +kernel)) ?_⟩
   refine ⟨_,rfl,q,_,_,_,rfl,rfl,aS.of Gw,at0 _ _,rfl,_,rfl,aW (no _ (by decide +kernel)) ?_⟩
   refine ie ?_
   exact ⟨_,rfl,k _ Keeps.refl M⟩
end
theorem wR {ring:Int→Bool} {r:Rw} {h:Int} {z:Zt} (hs:¬ r.word ∈ (["stop", "halt", "back"]:List Str)):aY ring r h z={ (cA ring r h (fh r z)).2 with here:=.int (cA ring r h (fh r z)).1,told:=(aY ring r h z).told,seen:=(aY ring r h z).seen }:=by
 cases r with
 | stop=>exact absurd (by decide +kernel) hs
 | back=>exact absurd (by decide +kernel) hs
 | halt v=>exact absurd (show ("halt" : Str) ∈ (["stop", "halt", "back"]:List Str) by decide +kernel) hs
 | two u b v =>
  simp only [aY,cA,fh]
  by_cases h1:u = "keep"
  ·simp only [if_pos h1]
  by_cases h2:u = "put"
  ·simp only [if_neg h1,if_pos h2]
  by_cases h3:u = "see"
  ·simp only [if_neg h1,if_neg h2,if_pos h3]
  ·simp only [if_neg h1,if_neg h2,if_neg h3]
 | eA u t f =>
  rw [show fh (.eA u t f) z=z from rfl]
  simp only [aY,cA]
  by_cases h1:u = "jump"
  ·simp only [if_pos h1]
  by_cases h2:u = "call"
  ·simp only [if_neg h1,if_pos h2]
  by_cases h3:ring z.k=true
  ·simp only [if_neg h1,if_neg h2,if_pos h3]
  ·simp only [if_neg h1,if_neg h2,if_neg h3]
 | _=>rfl
def oW (r:Rw) (h:Int) (z:Zt):V:=match z.how with
 | some _=>.non
 | none=>if r.word = "back" then (match z.here with | .int t=>.int (t - 1) | _=>.non) else .int h
theorem Kt {ring:Int→Bool} {r:Rw} {h:Int} {z:Zt}:(cA ring r h z).2.how=z.how:=by
 cases r with
 | eA u t f =>
  simp only [cA]
  split
  ·rfl
  split
  ·rfl
  split <;> rfl
 | _=>rfl
theorem Ku {r:Rw} {z:Zt}:(fh r z).how=z.how∧(fh r z).here=z.here:=by
 cases r with
 | two u b v =>
  simp only [fh]
  split
  ·exact ⟨rfl,rfl⟩
  split
  ·exact ⟨rfl,rfl⟩
  split
  ·exact ⟨rfl,rfl⟩
  ·exact ⟨rfl,rfl⟩
 | _=>exact ⟨rfl,rfl⟩
section
variable {P:Program} {w:World} {K:Frag} {mg:Str→Option Value} {base:Heap}
def y0:Sp:=fun vs H Q _=>∃ (lr lb a q:Addr) (m:LA) (B:Nat) (z:Zt) (r:Nat) (n:Int) (rw:Rw) (bells:List Int) (rows:List V),vs=[.ref lr,.ref a,.ref lb]∧LS H a m B z∧B + 1 < 900∧z.how=none∧z.here=.int r∧H lr=some (.lst rows)∧rows[r]? = some (.ref q)∧gS H q n rw∧H lb=some (.lst (bells.map V.int))∧¬ iR m a lb ∧
 ∀ H',Keeps (iR m a) H H'→LS H' a m (B + 2) (aY (bg bells) rw r z)→Q (oW rw r (aY (bg bells) rw r z)) H'
theorem tF:aJ ["_law_rows_here", "_law_state", "_law_bells", "_law_row_here", "_law_begin"] ["_law_rows_here", "_law_state", "_law_bells"] (ak fz):=⟨rfl,rfl,rfl,by decide +kernel,rfl,by decide +kernel,by decide +kernel⟩
theorem Dm {f fD fM:Addr} {fd Iu fdM:FuncData} (F:dJ K "_law_step" "_law_step" fz f fd) (T:Txt K w.params mg)
  (GD:aR P w K mg base bV 1 fD Iu ["_law_row_here", "_law_state"] Dk) (kD:KI K fD) (bD:Binds K Iu ["_law_row_here", "_law_state"] []) (mD:mg "_law_done" = some (.ref fD))
  (GM:aR P w K mg base bV 1 fM fdM ["_law_row_here", "_law_state", "_law_bells"] yZ) (kM:KI K fM) (bM:Binds K fdM ["_law_row_here", "_law_state", "_law_bells"] []) (mM:mg "_law_moved" = some (.ref fM)):aR P w K mg base bV 2 f fd ["_law_rows_here", "_law_state", "_law_bells"] y0:=by
 refine F.ok tF (fun vs H Q E h=>?_) (fun cdv A outer s H vs Q E hr h=>?_)
 ·obtain ⟨lr,lb,a,q,m,B,z,r,n,rw,bells,rows,rfl,_⟩:=h
  rfl
 ·obtain ⟨lr,lb,a,q,m,B,z,r,n,rw,bells,rows,rfl,M0,hB,hn,hh,hlr,hrow,hR,hlb,hlx,k⟩:=h
  have M:=M0.more (Nat.le_add_right B 2) (by omega)
  have hu:=cC hr
  have hu0:=hr.Jy
  have hr1:=hr
  obtain ⟨h0,w0,ho,hw,hq0⟩:=M.st
  have hq0:=(hq0 hn).trans hh
  subst hq0
  obtain ⟨items,HQ⟩:=lO hR
  refine ⟨_,(aA (aV (i:=3) tF.nd rfl (Or.inl rfl) (au aK (pv 0) (bj hu (pv 1) aq (fun _ _=>rfl)) (fun _ _=>rfl)))
   (aA (aV (i:=4) tF.nd rfl (Or.inl rfl) (bj hu (pv 1) aq (fun _ _=>rfl)))
   (aA (bU (j3 (aF cX (au az (pv 3) ai (fun _ _=>rfl)) (aX (ae aq (ae aq ao))) rfl) (iZ (dM (aF bQ (au az (pv 3) ai (fun _ _=>rfl)) aq (aO _)) (dD (aF (JN hu0) (bj hu (pv 1) aq (fun _ _=>rfl)) (cu ao) (aO _)))).pt)).pt (aA (dh hu (pv 1) aq (au aK (cu (ae (pv 3) (ae (aX (ae aq ao)) ao))) (cI zC (by rfl) T.int CB (ae (iJ bQ (au az (pv 3) ai (fun _ _=>rfl)) aq (aO _)) ao)) (fun _ _=>rfl)) rfl)
   (aw (aU ef))) aM)
   (aA (bU (aF bQ (au az (pv 3) ai (fun _ _=>rfl)) aq (aO _)) (aA (dh hu (pv 1) aq (BP PySem.F.plainAttrs_list PySem.F.slot_list_pop PySem.F.type_list_pop BQ (bj hu (pv 1) aq (fun _ _=>rfl))) rfl)
   (aw (aU (aN ib (bj hu (pv 1) aq (fun _ _=>rfl)) ai)))) aM)
   (aA (bJ (aQ GD hr1 (by rfl) mD kD bD .nil bp (ae (pv 3) (ae (pv 1) ao))))
   (aA (dh hu (pv 1) aq (aQ GM hr1 (by rfl) mM kM bM .nil bp (ae (pv 3) (ae (pv 1) (ae (pv 2) ao)))) rfl)
   (aw (aU (pv 4))))))))),?_⟩
  refine ⟨_,rfl,_,rfl,a,_,rfl,dw ho rm,lr,_,_,.ref q,rfl,rfl,bh.of hlr,ck (j:=r) hrow,?_⟩
  refine ⟨_,rfl,a,_,rfl,dw ho rm,?_⟩
  refine ⟨_,rfl,q,_,_,.str rw.word,rfl,rfl,aS.of HQ,at0 _ _,cT,fun t1 n1=>⟨t1,(["stop", "halt"]:List Str).map V.str,rfl,.inr (aS.of ah),rfl,rfl,_,rfl,?_⟩⟩
  have s1:=aj (o:=.tup [V.str "stop",V.str "halt"]) n1
  have M1:=M.same s1
  have ho1:=s1 _ _ ho
  have Gx:=s1 _ _ HQ
  have hw1:=hw.tups (.of s1)
  have k1:Keeps (iR m a) H _:=.same s1
  generalize upd H t1 (.tup [V.str "stop",V.str "halt"])=H1 at s1 M1 ho1 Gx hw1 k1 ⊢
  have ends:∀ (H2:Hp),Same H1 H2→∀ (xs:List V),((rw.word = "back" ∧ xs=[.str "home"])∨(¬ rw.word = "back" ∧ H q=some (.tup xs)))→{ z with here:=.non,how:=some xs }=aY (bg bells) rw r z →
    Ez (HR (zx 1) (tC (.str "end")) (Js (EI K) (uN (qJ (zx 3) (qJ (L7 (qJ (tC (.str "home")) qc)) qc))) (Q8 (fun xs H Q=>(∃ i,xs=[.int i]∧Q (.int i) H)∨∃ k,xs=[.bl k]∧Q (.int (if k then 1 else 0)) H) (qJ (Js rEq (Js (EJ K) (zx 3) (tC (.int 0))) (tC (.str "back"))) qc)))) (LW (tC .non)) { nx:=fun _ H'=>Q .non H',rt:=Q } [some (.ref lr),some (.ref a),some (.ref lb),some (.ref q),some (.int r)] H2:=by
   intro H2 s2 xs hx e2
   have M2:=M1.same s2
   refine ⟨_,rfl,oN,fun th nh=>⟨cT,fun ll nl=>?_⟩⟩
   have s4:=s2.trans ((aj (o:=.tup [V.str "home"]) nh).trans (aj (o:=.lst [V.ref q,V.ref th]) nl))
   refine ⟨_,rfl,q,_,_,.str rw.word,rfl,rfl,aS.of (s4 _ _ Gx),at0 _ _,rfl,.inr ⟨_,rfl,ll,_,_,.ref (if rw.word = "back" then th else q),rfl,rfl,bh.of ah,?_,_,rfl,a,_,rfl,ic.k (k:=Sum.inr "end") (s4 _ _ ho1) yX,?_⟩⟩
   ·by_cases c:rw.word = "back"
    ·rw [if_pos c,if_pos (by rw [c]; exact decide_eq_true rfl)]
     exact at1 _ _ _
    ·rw [if_neg c,if_neg (neq c)]
     exact at0 _ _
   ·rw [Nj]
    have hv:iB (upd (upd H2 th (.tup [V.str "home"])) ll (.lst [V.ref q,V.ref th])) (.ref (if rw.word = "back" then th else q)) (some xs):=by
     rcases hx with ⟨hb,rfl⟩ | ⟨hb,hq⟩
     ·rw [if_pos hb]
      exact ⟨th,rfl,ez nl ah⟩
     ·rw [if_neg hb]
      exact ⟨q,rfl,s4 _ _ (s1 _ _ hq)⟩
    have M5:=(M1.same s4).put (h':=.int r) (hh:=.non) (k':=z.k) hv (by intro z; cases z)
    have kk:=k _ ((k1.trans (.same s4)).upd (o':=.dK (ld m (.int r) (.ref (if rw.word = "back" then th else q)) z.k)) (s4 _ _ ho1) (by intro _ z; cases z) (.inl rfl)) (e2 ▸ M5)
    rw [← e2] at kk
    exact kk
  by_cases h3:rw.word ∈ (["stop", "halt", "back"]:List Str)
  ·cases rw with
   | stop =>
    refine cy (RV (by decide +kernel)) ?_
    refine BW ?_
    exact ends _ (Same.refl _) [.str "stop"] (.inr ⟨by decide +kernel,hR⟩) rfl
   | halt v =>
    refine cy (RV (show ("halt" : Str) ∈ (["stop", "halt"]:List Str) from by decide +kernel)) ?_
    refine BW ?_
    exact ends _ (Same.refl _) [.str "halt",.int v] (.inr ⟨show ¬ ("halt" : Str) = "back" by decide +kernel,hR⟩) rfl
   | back =>
    refine aW (nin (by decide +kernel)) ?_
    refine ⟨_,rfl,q,_,_,_,rfl,rfl,aS.of Gx,at0 _ _,rfl,_,rfl,cy (by decide +kernel) ?_⟩
    refine ⟨_,rfl,a,_,rfl,dw ho1 tD,lL,fun le ne=>?_⟩
    have s2:=aj (o:=.lst []) ne
    have M2:=M1.same s2
    refine ⟨m.p4,le,_,_,rfl,rfl,bh.of M2.gw,bh.of ah,(fun i x y hx hy=>by simp at hy),_,rfl,?_⟩
    refine dk (fun c=>?_) (fun c=>?_)
    ·have c:z.pile=[]:=by simpa using of_decide_eq_true c
     exact ends _ s2 [.str "home"] (.inl ⟨rfl,rfl⟩) (iC (z:=z) c).symm
    ·have c:¬ z.pile=[]:=fun e=>c (by rw [e]; exact decide_eq_true rfl)
     obtain ⟨p',y,e⟩:∃ p' y,z.pile=p' ++ [y]:=by
      rcases eq_nil_or_concat z.pile with e | ⟨p',y,e⟩
      ·exact absurd e c
      ·exact ⟨p',y,by simpa using e⟩
     have Kv:=s2 _ _ Gx
     refine ⟨_,rfl,q,_,_,_,rfl,rfl,aS.of Kv,at0 _ _,rfl,_,rfl,cy (by decide +kernel) ?_⟩
     refine ⟨_,rfl,a,_,rfl,dw (s2 _ _ ho1) tD,.inl ⟨rfl,_,bh.of M2.gw⟩,m.p4,_,.int y,rfl,rfl,M2.gw,?_,?_⟩
     ·rw [e]
      simp
     ·have k2:Keeps (iR m a) H _:=(k1.trans (.same s2)).upd (o':=.lst (z.pile.map V.int).dropLast) M2.gw (by intro _ z; cases z) (.inr (.inr (.inr (.inr rfl))))
      have e3:(z.pile.map V.int).dropLast=p'.map V.int:=by rw [e]; simp
      rw [e3] at k2 ⊢
      have M3:=M2.qZ (p':=p') (by have:=M0.lens; rw [e] at this; simp at this; omega)
      obtain ⟨h3,w3,QD,hw3,hq3⟩:=M3.st
      refine ⟨_,rfl,a,_,rfl,ic.k (k:=Sum.inr "at") QD yX,?_⟩
      rw [Ir]
      have M4:=M3.put (h':=.int y) (hh:=.int y) (k':=z.k) hw3 (fun _=>rfl)
      refine ⟨_,rfl,a,_,rfl,dw ah rm,_,_,rfl,rfl,?_⟩
      have kk:=k _ (k2.upd (o':=.dK (ld m (.int y) w3 z.k)) QD (by intro _ z; cases z) (.inl rfl))
      rw [kZ (z:=z) e] at kk
      have kk:=kk M4
      rw [show oW .back r { z with here:=.int y,pile:=p' }=.int (y - 1) by simp only [oW,hn]; exact if_pos rfl] at kk
      exact kk
   | tell b=>exact absurd h3 (show ¬ ("tell" : Str) ∈ (["stop", "halt", "back"]:List Str) by decide +kernel)
   | table b ts=>exact absurd h3 (show ¬ ("table" : Str) ∈ (["stop", "halt", "back"]:List Str) by decide +kernel)
   | two u b v=>exact absurd h3 ((by decide +kernel:∀ u ∈ ten,¬ u ∈ (["stop", "halt", "back"]:List Str)) u hR.2.1)
   | eA u b v=>exact absurd h3 ((by decide +kernel:∀ u ∈ My.eA,¬ u ∈ (["stop", "halt", "back"]:List Str)) u hR.2.1)
   | zb u b t v=>exact absurd h3 ((by decide +kernel:∀ u ∈ My.zb,¬ u ∈ (["stop", "halt", "back"]:List Str)) u hR.2.1)
  ·have h2:¬ rw.word = "back" := fun e=>h3 (by rw [e]; decide +kernel)
   have h1:¬ rw.word ∈ (["stop", "halt"]:List Str):=fun e=>h3 (by
    rcases mem_cons.mp e with e | e
    ·rw [e]; decide +kernel
    ·rw [mem_singleton.mp e]; decide +kernel)
   refine aW (nin h1) ?_
   refine ⟨_,rfl,q,_,_,.str rw.word,rfl,rfl,aS.of Gx,at0 _ _,rfl,_,rfl,aW (neq h2) ?_⟩
   refine ie ?_
   refine ⟨_,rfl,q,_,_,.str rw.word,rfl,rfl,aS.of Gx,at0 _ _,rfl,_,rfl,aW (neq h2) ?_⟩
   refine ⟨_,rfl,_,rfl,a,q,m,B,z,n,rw,rfl,M0.same s1,by omega,hR.tups (.of s1),fun H2 k2 M2=>?_⟩
   have RX:H2 lb=some (.lst (bells.map V.int)):=k2 _ _ (s1 _ _ hlb) (.inl hlx)
   have k3:=k1.trans k2
   have hd:=Ku (r:=rw) (z:=z)
   refine ⟨_,rfl,_,rfl,_,rfl,a,q,lb,m,B + 1,fh rw z,r,n,rw,bells,rfl,M2,by omega,hd.1.trans hn,hd.2.trans hh,hR.tups k3.tups,RX,fun H4 k4 M4=>?_⟩
   obtain ⟨h5,w5,ho5,Bk,hq5⟩:=M4.st
   refine ⟨_,rfl,a,_,rfl,ic.k (k:=Sum.inr "at") ho5 yX,?_⟩
   rw [Ir]
   have M5:=M4.put (h':=.int (cA (bg bells) rw r (fh rw z)).1) (hh:=.int (cA (bg bells) rw r (fh rw z)).1) (k':=(cA (bg bells) rw r (fh rw z)).2.k) Bk (fun _=>rfl)
   have sm:=wR (ring:=bg bells) (r:=rw) (h:=r) (z:=z) h3
   have kk:=k _ ((k3.trans k4).upd (o':=.dK (ld m (.int (cA (bg bells) rw r (fh rw z)).1) w5 (cA (bg bells) rw r (fh rw z)).2.k)) ho5 (by intro _ z; cases z) (.inl rfl)) (sm ▸ M5.any)
   have hq:(aY (bg bells) rw r z).how=none:=by rw [sm]; exact Kt.trans (hd.1.trans hn)
   rw [show oW rw r (aY (bg bells) rw r z)=.int r by simp only [oW,hq]; exact if_neg h2] at kk
   exact ⟨_,rfl,kk⟩
end
theorem Aj {kvs:List (Key × V)} {k:Key} (h:¬ k ∈ kvs.map (·.1)):cw kvs k=none:=by
 cases e:cw kvs k with
 | none=>rfl
 | some v =>
  exfalso
  have h2:(kvs.any fun kv=>decide (kv.1=k))=true:=by rw [dQ,e]; rfl
  obtain ⟨p,hp,hk⟩:=List.any_eq_true.mp h2
  exact h (mem_map.mpr ⟨p,hp,of_decide_eq_true hk⟩)
theorem rA:∀ (more acc:List (Key × V)),((acc ++ more).map (·.1)).Nodup→eJ acc more=acc ++ more
 | [],acc,_=>by show acc=acc ++ []; simp
 | p :: r,acc,h=>by
  have h1:¬ p.1 ∈ acc.map (·.1):=by
   rw [map_append,List.nodup_append] at h
   intro z
   exact h.2.2 p.1 z p.1 (by simp) rfl
  show eJ (putK acc p.1 p.2) r=_
  rw [uQ _ (Aj h1)]
  have:acc ++ p :: r=acc ++ [(p.1,p.2)] ++ r:=by simp
  rw [this] at h ⊢
  exact rA r _ h
theorem lP {ns:List Str} {vs:List V} (h:ns.Nodup) (hl:ns.length ≤ vs.length):eJ [] (gm ns vs)=gm ns vs:=by
 have e:(gm ns vs).map (·.1)=ns.map Sum.inr:=by
  unfold gm
  rw [map_map]
  have:((fun x:Key × V=>x.1) ∘ fun p:Str × V=>((Sum.inr p.1:Key),p.2))=Sum.inr ∘ Prod.fst:=rfl
  rw [this,← map_map,List.map_fst_zip hl]
 rw [rA _ [] (by rw [List.nil_append,e]; exact h.map _ (fun a b n z=>n (Sum.inr.inj z)))]
 rfl
section
variable {P:Program} {w:World} {K:Frag} {mg:Str→Option Value} {base:Heap}
def y9:Sp:=fun vs H Q _=>∃ (lb lc:Addr) (bs:List Int) (d:List (Key × V)) (cf:Int→Int),vs=[.ref lb,.ref lc]∧H lb=some (.lst (bs.map V.int))∧bs.length=8∧H lc=some (.dK d)∧Rep d cf∧d.length ≤ 50 ∧
 ∀ (a:Addr) (m:LA) (H':Hp),Same H H'→(∀ c,iR m a c→H c=none)→LS H' a m 50 (z0 bs cf)→Q (.ref a) H'
theorem Gy:aJ ["_law_boxes", "_law_cells"] ["_law_boxes", "_law_cells"] (ak eO):=⟨rfl,rfl,rfl,by decide +kernel,rfl,by decide +kernel,by decide +kernel⟩
theorem Dn {f:Addr} {fd:FuncData} (F:dJ K "_law_start" "_law_start" eO f fd) (T:Txt K w.params mg):aR P w K mg base bV 1 f fd ["_law_boxes", "_law_cells"] y9:=by
 refine F.ok Gy (fun vs H Q E h=>?_) (fun cdv A outer s H vs Q E hr h=>?_)
 ·obtain ⟨lb,lc,bs,d,cf,rfl,_⟩:=h
  rfl
 ·obtain ⟨lb,lc,bs,d,cf,rfl,hlb,b8,za,hrep,hdl,k⟩:=h
  have hu:=cC hr
  refine ⟨_,(aw (aU (nJ (di aq ai (di aq (cI dY (by rfl) T.list hU (ae (pv 0) ao)) (di aq (cI km (by rfl) T.dict tf (ae (pv 1) ao)) (di aq i9 (di aq (cu ao) (di aq ai (di aq ef nI))))))) rfl rfl (cons_ne_nil _ _) (le_of_ble_eq_true rfl)))),?_⟩
  refine fun a na=>?_
  refine ⟨_,rfl,lb,_,rfl,.inl (bh.of (ez na hlb)),fun l1 n1=>?_⟩
  refine ⟨_,rfl,lc,_,rfl,ez n1 (ez na za),fun l2 n2=>?_⟩
  refine fun l3 n3=>?_
  refine ⟨lL,fun l4 n4=>?_⟩
  have s0:=aj (o:=.dK []) na
  have s1:=aj (o:=.lst (bs.map V.int)) n1
  have s2:=aj (o:=.dK d) n2
  have s3:=aj (o:=.dK []) n3
  have s4:=aj (o:=.lst []) n4
  have a4:=((s1.trans s2).trans (s3.trans s4)) a _ ah
  refine ⟨a4,gm hZ (lvals ⟨l1,l2,l3,l4⟩ (.int 0) .non 0),rfl,(show 7 ≤ 15 by decide),?_⟩
  have e7:hZ.length ≤ (lvals ⟨l1,l2,l3,l4⟩ (.int 0) .non 0).length:=le_refl 7
  rw [lP dW e7]
  have g1:=((s2.trans s3).trans s4) l1 _ ah
  have g2:=(s3.trans s4) l2 _ ah
  have g3:=s4 l3 _ ah
  have e1:l1 ≠ a:=(ay ah n1).symm
  have e2:l2 ≠ a:=(ay (s1 _ _ ah) n2).symm
  have e3:l3 ≠ a:=(ay ((s1.trans s2) _ _ ah) n3).symm
  have e4:l4 ≠ a:=(ay ((s1.trans (s2.trans s3)) _ _ ah) n4).symm
  have t4:=s0.trans ((s1.trans s2).trans (s3.trans s4))
  refine k a ⟨l1,l2,l3,l4⟩ _ (fun c o e=>?_) ?_ ⟨⟨.int 0,.non,ah,rfl,fun _=>rfl⟩,?_,b8,⟨d,?_,hrep,hdl⟩,⟨[],?_,Rep.nil,zero_le _⟩,?_,?_,?_,e2.symm,e3.symm,zero_le _,by decide⟩
  ·rw [aL (ay e na)]
   exact t4 _ _ e
  ·rintro c (rfl | rfl | rfl | rfl | rfl)
   ·exact na
   ·exact s0.free n1
   ·exact (s0.trans s1).free n2
   ·exact (s0.trans (s1.trans s2)).free n3
   ·exact (s0.trans (s1.trans (s2.trans s3))).free n4
  ·rw [aL e1]
   exact g1
  ·rw [aL e2]
   exact g2
  ·rw [aL e3]
   exact g3
  ·rw [aL e4]
   exact ah
  ·exact ay ((s2.trans s3) _ _ ah) n4
  ·exact ay ah n3
end
theorem fJ.snoc {H:Hp} {ts:List Addr} {ps:List (Int × Int)} {t:Addr} {p:Int × Int} (h:fJ H ts ps) (ht:H t=some (.tup [.int p.1,.int p.2])):fJ H (ts ++ [t]) (ps ++ [p]):=by
 refine ⟨by simp [h.1],fun i t' p' a b=>?_⟩
 rcases lt_or_ge i ts.length with z | z
 ·rw [List.getElem?_append_left z] at a
  rw [List.getElem?_append_left (by have:=h.1; omega)] at b
  exact h.2 i t' p' a b
 ·rw [List.getElem?_append_right z] at a
  rw [List.getElem?_append_right (by have:=h.1; omega)] at b
  cases hz:i - ts.length with
  | zero =>
   have hz2:i - ps.length=0:=by have:=h.1; omega
   rw [hz] at a
   rw [hz2] at b
   simp at a b
   subst a
   subst b
   exact ht
  | succ d=>rw [hz] at a; simp at a
theorem at4 (a b c d i:Int) (h:0 ≤ i∧i < 4):∃ v:Int,lX [V.int a,.int b,.int c,.int d] i=some (.int v):=by
 rcases (show i=0∨i=1∨i=2∨i=3 by omega) with rfl | rfl | rfl | rfl
 ·exact ⟨a,rfl⟩
 ·exact ⟨b,rfl⟩
 ·exact ⟨c,rfl⟩
 ·exact ⟨d,rfl⟩
theorem tG (ns:List Int) (lo hi:Option Int):∃ cs:List Int,gY (ns.map V.int) lo hi=cs.map V.int∧cs.length ≤ ns.length:=by
 refine ⟨(ns.drop (HT.eB ns.length 0 lo)).take (HT.eB ns.length ns.length hi - HT.eB ns.length 0 lo),?_,?_⟩
 ·unfold gY
  rw [length_map,map_take,List.map_drop]
 ·rw [length_take,List.length_drop]
  omega
theorem Nk (ns:List Int) (h:ns.length=14):gY (ns.map V.int) none (some 8)=(ns.take 8).map V.int:=by
 unfold gY
 rw [show (some (8:Int))=some ((8:Nat):Int) from rfl,HT.nG,HT.BJ,List.drop_zero,Nat.sub_zero,length_map,h,map_take]
 rfl
theorem rB:∀ (ps:List (Int × Int)) (acc:List (Key × V)) (f:Int→Int),Rep acc f→∃ f',Rep (eJ acc (iD ps)) f'
 | [],acc,f,r=>⟨f,r⟩
 | p :: ps,acc,f,r=>rB ps _ _ (r.put p.1 p.2)
section
variable {P:Program} {w:World} {K:Frag} {mg:Str→Option Value} {base:Heap}
def Iv:Sp:=fun vs H Q _=>∃ c:Int,vs=[.int c]∧∀ (t pb pc pl:Addr) (bs bells:List Int) (d:List (Key × V)) (cf:Int→Int) (H':Hp),Same H H'→H' t=some (.tup [.ref pb,.ref pc,.ref pl])→H' pb=some (.lst (bs.map V.int))→bs.length=8 →
 H' pc=some (.dK d)→Rep d cf→d.length ≤ 50→H' pl=some (.lst (bells.map V.int))→bells.length ≤ 100→Q (.ref t) H'
theorem zc:aJ ["_law_cell", "_law_xs", "_law_boxes", "_law_cells"] ["_law_cell"] (ak cn):=⟨rfl,rfl,rfl,by decide +kernel,rfl,by decide +kernel,by decide +kernel⟩
def Gz:Scope:={ kind:=.function,names:=[(".0",.local),("_law_x",.local)],isGenerator:=false,isCoroutine:=false,more:=[] }
theorem zf:er (ak cn) Gz ["_law_cell", "_law_xs", "_law_boxes", "_law_cells"] ["_law_x"] [none]:=⟨rfl,by decide +kernel,by decide +kernel,by decide +kernel,by decide +kernel,by decide +kernel⟩
def GF:Scope:={ kind:=.function,names:=[(".0",.local),("_law_x",.local)],isGenerator:=false,isCoroutine:=false,more:=[] }
theorem zg:er (ak cn) GF ["_law_cell", "_law_xs", "_law_boxes", "_law_cells"] ["_law_x"] [none]:=⟨rfl,by decide +kernel,by decide +kernel,by decide +kernel,by decide +kernel,by decide +kernel⟩
def GJ:Scope:={ kind:=.function,names:=[(".0",.local),("_law_x",.local)],isGenerator:=false,isCoroutine:=false,more:=[] }
theorem zh:er (ak cn) GJ ["_law_cell", "_law_xs", "_law_boxes", "_law_cells"] ["_law_x"] [none]:=⟨rfl,by decide +kernel,by decide +kernel,by decide +kernel,by decide +kernel,by decide +kernel⟩
theorem Kw {f fS:Addr} {fd rC:FuncData} (F:dJ K "_law_beginning" "_law_beginning" cn f fd) (T:Txt K w.params mg)
  (GS:aR P w K mg base bV 1 fS rC ["_law_cell", "_law_many"] kJ) (kS:KI K fS) (bS:Binds K rC ["_law_cell", "_law_many"] []) (mS:mg "_law_stream" = some (.ref fS)):aR P w K mg base bV 2 f fd ["_law_cell"] Iv:=by
 refine F.ok zc (fun vs H Q E h=>?_) (fun cdv A outer s H vs Q E hr h=>?_)
 ·obtain ⟨c,rfl,_⟩:=h
  rfl
 ·obtain ⟨c,rfl,k⟩:=h
  have hu:=cC hr
  refine ⟨_,(aA (aV (i:=1) zc.nd rfl (Or.inl rfl) (aQ GS hr (by rfl) mS kS bS .nil bp (ae (pv 0) (ae ai ao))))
   (aA (rZ (i:=2) (N':=["_law_x"]) (fr:=[none]) zc.nd rfl rfl zf rfl (dI (eV iK (pv 1) jk (eG ai))) (fun C s0 H0 fp=>(cD (i:=0) zf.nd rfl (Or.inl rfl))) (fun C s0 H0 fp=>iM) (fun C s0 H0 fp=>(au (r:=EI K) aK (cu (ae (aN ib (aN bq (pv 0) ai) ai) (ae (aN bq (pv 0) ai) (ae (aN ib (aN bq (pv 0) ai) ai) (ae (aN bq (pv 0) ai) ao))))) (aN bq (aN bZ (pv 0) ai) ai) (fun _ _=>rfl))))
   (aA (aV (i:=3) zc.nd rfl (Or.inl rfl) (cI (mQ rfl) (by rfl) T.dict tf (ae (gA (N':=["_law_x"]) (fr:=[none]) zg rfl (dI (eV iK (pv 1) (eG ai) (eG (aN dn ai (aN bq (au aK (pv 1) ai (fun _ _=>rfl)) ai))))) (fun C s0 H0 fp=>(cD (i:=0) zg.nd rfl (Or.inl rfl))) (fun C s0 H0 fp=>iM) (fun C s0 H0 fp=>(aX (ae (aN ib (aN bq (pv 0) ai) ai) (ae (aN ib (aN bq (aN bZ (pv 0) ai) ai) ai) ao))))) ao)))
   (aw (aU (aX (ae (pv 2) (ae (pv 3) (ae (gA (N':=["_law_x"]) (fr:=[none]) zh rfl (dI (eV iK (pv 1) (eG ai) (eG (aN dn ai (aN bq (au aK (pv 1) ai (fun _ _=>rfl)) ai))))) (fun C s0 H0 fp=>(cD (i:=0) zh.nd rfl (Or.inl rfl))) (fun C s0 H0 fp=>iM) (fun C s0 H0 fp=>(aN bq (pv 0) ai))) ao))))))))),?_⟩
  refine ⟨_,rfl,c,14,rfl,(by decide),fun l ms H1 s1 nl hl h14 _=>?_⟩
  refine ⟨_,rfl,_,rfl,l,_,rfl,bh.of hl,fun l2 n2=>?_⟩
  rw [Nk ms h14]
  have s2:=aj (o:=.lst ((ms.take 8).map V.int)) n2
  have h2:upd H1 l2 (.lst ((ms.take 8).map V.int)) l2=_:=ah
  generalize upd H1 l2 (.lst ((ms.take 8).map V.int))=H2 at s2 h2 ⊢
  refine ⟨l2,rfl,⟨_,bh.of h2⟩,fun D nD=>gD (K:=K) (a:=l2) (xs:=(ms.take 8).map V.int) (fun j σ ys G=>∃ (v:Option V) (zs:List Int),σ=[v]∧ys=zs.map V.int∧zs.length=j∧Same H2 G∧G D=some (.lst ys)) ?_ ?_ ?_ ?_⟩
  ·exact ⟨none,[],rfl,rfl,rfl,aj nD,ah⟩
  ·rintro j σ ys G _ ⟨v,zs,rfl,rfl,_,s3,_⟩
   exact bh.of (s3 _ _ h2)
  ·rintro j x σ ys G hx ⟨v,zs,rfl,rfl,hz,s3,hD⟩
   have hjl:=(List.getElem?_eq_some_iff.mp hx).1
   rw [List.getElem?_map] at hx
   obtain ⟨y,_,rfl⟩:=map_eq_some_iff.mp hx
   rw [length_map,length_take] at hjl
   obtain ⟨u,hat⟩:=at4 (y % 5 - 2) (y % 16) (y % 2001 - 1000) (y % 4) (y / 2001 % 4) (jH _ (by decide))
   refine ⟨_,rfl,_,_,rfl,rfl,RM,_,_,rfl,rfl,_,rfl,_,_,rfl,rfl,MI,_,rfl,_,_,rfl,rfl,Fm,_,_,rfl,rfl,_,rfl,_,_,rfl,rfl,vh,CA,fun l4 n4=>⟨_,rfl,_,_,rfl,rfl,⟨by show (0:Int) < 2001; decide,by show (2001:Int) < _; decide⟩,_,_,rfl,rfl,vh,l4,_,_,.int u,rfl,rfl,bh.of ah,hat,ez n4 hD,dH (by rw [length_map]; omega),_,zs ++ [u],rfl,by simp,by simp [hz],cL (s3.trans (aj n4)) nD,ah⟩⟩
  rintro σ ys H3 ⟨v,bs,rfl,rfl,b8,s3,hD⟩
  rw [length_map,length_take,h14] at b8
  have hl3:=s3 _ _ (s2 _ _ hl)
  have a11:∀ (i:Nat) (hi:i < 14),lX (ms.map V.int) (i:Int)=some (.int (ms[i]'(by omega))):=fun i hi=>ck (by rw [List.getElem?_map,List.getElem?_eq_getElem (by omega)]; rfl)
  refine ⟨_,rfl,_,rfl,_,rfl,l,_,_,_,rfl,rfl,bh.of hl3,a11 11 (by decide),_,_,rfl,rfl,vh,_,_,rfl,rfl,_,rfl,l,_,rfl,bh.of hl3,fun l5 n5=>?_⟩
  obtain ⟨cs,ec,lc⟩:=tG ms (some 8) (some ((8:Int) + ms[11]'(by omega) % 4))
  rw [show gY (ms.map V.int) (some 8) (some ((8:Int) + ms[11]'(by omega) % 4))=cs.map V.int from ec]
  have s5:=aj (o:=.lst (cs.map V.int)) n5
  have h5:upd H3 l5 (.lst (cs.map V.int)) l5=_:=ah
  generalize upd H3 l5 (.lst (cs.map V.int))=H5 at s5 h5 ⊢
  refine ⟨l5,rfl,⟨_,bh.of h5⟩,fun D2 QE=>gD (K:=K) (a:=l5) (xs:=cs.map V.int) (fun j σ ys G=>∃ (v:Option V) (ts:List Addr) (ps:List (Int × Int)),σ=[v]∧ys=ts.map V.ref∧ps.length=j∧fJ G ts ps∧Same H5 G∧G D2=some (.lst ys)) ?_ ?_ ?_ ?_⟩
  ·exact ⟨none,[],[],rfl,rfl,rfl,⟨rfl,fun i p c e=>by simp at e⟩,aj QE,ah⟩
  ·rintro j σ ys G _ ⟨v,ts,ps,rfl,rfl,_,_,s6,_⟩
   exact bh.of (s6 _ _ h5)
  ·rintro j x σ ys G hx ⟨v,ts,ps,rfl,rfl,hz,hS,s6,hD2⟩
   have hjl:=(List.getElem?_eq_some_iff.mp hx).1
   rw [List.getElem?_map] at hx
   obtain ⟨y,_,rfl⟩:=map_eq_some_iff.mp hx
   rw [length_map] at hjl
   refine ⟨_,rfl,_,_,rfl,rfl,JX,_,_,rfl,rfl,_,rfl,_,_,rfl,rfl,⟨by show (0:Int) < 9; decide,by show (9:Int) < _; decide⟩,_,_,rfl,rfl,RO,_,_,rfl,rfl,cT,fun t nt=>⟨ez nt hD2,dH (by rw [length_map,hS.1]; omega),_,ts ++ [t],ps ++ [(y % 9 - 3,y / 9 % 7 - 3)],rfl,by simp,by simp [hz],?_,cL (s6.trans (aj nt)) QE,ah⟩⟩
   have t2:t ≠ D2:=(ay hD2 nt).symm
   refine (hS.tups (fun b xs e=>?_)).snoc (p:=(y % 9 - 3,y / 9 % 7 - 3)) ?_
   ·rw [aL (bF e hD2 (by intro z; cases z))]
    exact ez nt e
   ·rw [aL t2]
    exact ah
  rintro σ ys H6 ⟨v,ts,ps,rfl,rfl,hpl,hS,s6,hD2⟩
  rw [length_map] at hpl
  have il:(iD ps).length=ps.length:=by unfold iD; rw [length_map]
  refine ⟨D2,ts,iD ps,rfl,hD2,by rw [il]; exact hS.1,fun i t kk v a b=>?_,by rw [il]; omega,fun l7 n7=>?_⟩
  ·unfold iD at b
   rw [List.getElem?_map] at b
   obtain ⟨p,hp,hpe⟩:=map_eq_some_iff.mp b
   have hk:kk=Sum.inl p.1:=(congrArg Prod.fst hpe).symm
   have hy:v=V.int p.2:=(congrArg Prod.snd hpe).symm
   subst hk hy
   exact hS.2 i t p a hp
  obtain ⟨cf,hrep⟩:=rB ps [] _ Rep.nil
  have hml:=fQ (iD ps) []
  rw [il,List.length_nil] at hml
  have s7:=aj (o:=.dK (eJ [] (iD ps))) n7
  have h7:upd H6 l7 (.dK (eJ [] (iD ps))) l7=_:=ah
  generalize upd H6 l7 (.dK (eJ [] (iD ps)))=H7 at s7 h7 ⊢
  have Kx:=s5.trans (s6.trans s7)
  have hl7:=Kx _ _ hl3
  refine ⟨_,rfl,_,rfl,_,rfl,_,rfl,_,rfl,l,_,_,_,rfl,rfl,bh.of hl7,a11 12 (by decide),_,_,rfl,rfl,vh,_,_,rfl,rfl,_,rfl,l,_,rfl,bh.of hl7,fun l8 n8=>?_⟩
  obtain ⟨Nm,ec3,lc3⟩:=tG ms (some 11) (some ((11:Int) + ms[12]'(by omega) % 4))
  rw [show gY (ms.map V.int) (some 11) (some ((11:Int) + ms[12]'(by omega) % 4))=Nm.map V.int from ec3]
  have s8:=aj (o:=.lst (Nm.map V.int)) n8
  have h8:upd H7 l8 (.lst (Nm.map V.int)) l8=_:=ah
  generalize upd H7 l8 (.lst (Nm.map V.int))=H8 at s8 h8 ⊢
  refine ⟨l8,rfl,⟨_,bh.of h8⟩,fun D3 nD3=>gD (K:=K) (a:=l8) (xs:=Nm.map V.int) (fun j σ ys G=>∃ (v:Option V) (zs:List Int),σ=[v]∧ys=zs.map V.int∧zs.length=j∧Same H8 G∧G D3=some (.lst ys)) ?_ ?_ ?_ ?_⟩
  ·exact ⟨none,[],rfl,rfl,rfl,aj nD3,ah⟩
  ·rintro j σ ys G _ ⟨v,zs,rfl,rfl,_,s9,_⟩
   exact bh.of (s9 _ _ h8)
  ·rintro j x σ ys G hx ⟨v,zs,rfl,rfl,hz,s9,RY⟩
   have hjl:=(List.getElem?_eq_some_iff.mp hx).1
   rw [List.getElem?_map] at hx
   obtain ⟨y,_,rfl⟩:=map_eq_some_iff.mp hx
   rw [length_map] at hjl
   exact ⟨_,rfl,_,_,rfl,rfl,RN,RY,dH (by rw [length_map]; omega),_,zs ++ [y % 6],rfl,by simp,by simp [hz],cL s9 nD3,ah⟩
  rintro σ ys H9 ⟨v,bells,rfl,rfl,hbl,s9,RY⟩
  rw [length_map] at hbl
  refine ⟨jX,fun t nt=>?_⟩
  have RZ:=s8.trans (s9.trans (aj (o:=.tup [V.ref D,.ref l7,.ref D3]) nt))
  exact k t D l7 D3 bs bells _ cf _ ((s1.trans (s2.trans s3)).trans (Kx.trans RZ)) ah ((Kx.trans RZ) _ _ hD) b8 (RZ _ _ h7) hrep (by omega) (ez nt RY) (by omega)
end
def Ew:Da→V
 | .int i=>.int i
 | .str s=>.str s
 | _=>.non
def Flat (l:List Da):Prop:=∀ d ∈ l,(∃ i,d=.int i)∨∃ s,d=.str s
def oX (r:Int):List Da:=[.str "before",.int r]
def tH (r:Int):List Da:=[.str "after",.int r]
def tI (r s:Int):List Da:=[.str "way",.int r,.int s]
structure Wi where
 (p:List Da) (u:Str) (n b:Int)
def Wi.vs (x:Wi):List V:=if x.u = "count" then [.str x.u,.int x.n] else [.str x.u,.int x.n,.int x.b]
theorem oY {H:Hp} {p:Addr}:∀ {ds:List Da},Flat ds→H p=some (.tup (ds.map Ew))→HD H (.ref p) (.tup ds):=fun {ds} f h=>.tup h (by simp) fun i x d hx hd=>by
 rw [List.getElem?_map,hd] at hx
 cases hx
 rcases f d (List.mem_of_getElem? hd) with ⟨i,rfl⟩ | ⟨s,rfl⟩
 ·exact .int i
 ·exact .str s
theorem oZ {ds:List Da} (f:Flat ds):Da.Nb 1 (.tup ds):=.tup fun d hd=>by
 rcases f d hd with ⟨i,rfl⟩ | ⟨s,rfl⟩
 ·exact .int
 ·exact .str
theorem o8 (r:Int):Flat (oX r):=fun d h=>by
 rcases (show d=.str "before" ∨ d=.int r by simpa [oX] using h) with rfl | rfl
 ·exact .inr ⟨_,rfl⟩
 ·exact .inl ⟨_,rfl⟩
theorem wU (r:Int):Flat (tH r):=fun d h=>by
 rcases (show d=.str "after" ∨ d=.int r by simpa [tH] using h) with rfl | rfl
 ·exact .inr ⟨_,rfl⟩
 ·exact .inl ⟨_,rfl⟩
theorem wV (r s:Int):Flat (tI r s):=fun d h=>by
 rcases (show d=.str "way" ∨ d=.int r∨d=.int s by simpa [tI] using h) with rfl | rfl | rfl
 ·exact .inr ⟨_,rfl⟩
 ·exact .inl ⟨_,rfl⟩
 ·exact .inl ⟨_,rfl⟩
def qq (H:Hp) (q:Addr) (x:Wi):Prop:=∃ p h,H q=some (.tup [.ref p,.ref h])∧H p=some (.tup (x.p.map Ew))∧Flat x.p∧H h=some (.tup x.vs)
theorem qq.tups {H H':Hp} {q:Addr} {x:Wi} (h:qq H q x) (e:cv H H'):qq H' q x:=by
 obtain ⟨p,w,a,b,c,d⟩:=h
 exact ⟨p,w,e _ _ a,e _ _ b,c,e _ _ d⟩
def jg (H:Hp) (lw:Addr) (xs:List Wi):Prop:=∃ qs:List Addr,H lw=some (.lst (qs.map V.ref))∧qs.length=xs.length∧∀ (i:Nat) q x,qs[i]? = some q→xs[i]? = some x→qq H q x
theorem jg.keeps {R:Addr→Prop} {H H':Hp} {lw:Addr} {xs:List Wi} (h:jg H lw xs) (k:Keeps R H H') (n:¬ R lw):jg H' lw xs:=by
 obtain ⟨qs,a,b,c⟩:=h
 exact ⟨qs,k _ _ a (.inl n),b,fun i q x h1 h2=>(c i q x h1 h2).tups k.tups⟩
theorem jg.same {H H':Hp} {lw:Addr} {xs:List Wi} (h:jg H lw xs) (s:Same H H'):jg H' lw xs:=h.keeps (R:=fun _=>False) (.same s) id
def uE (H:Hp) (hs:List Addr) (ws:List Wi):Prop:=hs.length=ws.length∧∀ (i:Nat) h x,hs[i]? = some h→ws[i]? = some x→H h=some (.tup x.vs)
theorem uE.tups {H H':Hp} {hs:List Addr} {ws:List Wi} (h:uE H hs ws) (e:cv H H'):uE H' hs ws:=⟨h.1,fun i a x h1 h2=>e _ _ (h.2 i a x h1 h2)⟩
theorem tJ {α β:Type} {R:α→β→Prop} {as:List α} {bs:List β} {cs:List α} {ds:List β} (hl:as.length=bs.length) (h:∀ (i:Nat) x y,as[i]? = some x→bs[i]? = some y→R x y) (h2:∀ (i:Nat) x y,cs[i]? = some x→ds[i]? = some y→R x y):∀ (i:Nat) x y,(as ++ cs)[i]? = some x→(bs ++ ds)[i]? = some y→R x y:=fun i x y a b=>by
 rcases lt_or_ge i as.length with z | z
 ·rw [List.getElem?_append_left z] at a
  rw [List.getElem?_append_left (by omega)] at b
  exact h i x y a b
 ·rw [List.getElem?_append_right z] at a
  rw [List.getElem?_append_right (by omega),← hl] at b
  exact h2 _ x y a b
theorem uE.app {H:Hp} {hs gs:List Addr} {ws vs:List Wi} (h:uE H hs ws) (k:uE H gs vs):uE H (hs ++ gs) (ws ++ vs):=⟨by simp [h.1,k.1],tJ (R:=fun a x=>H a=some (.tup (Wi.vs x))) h.1 h.2 k.2⟩
theorem uE.one {H:Hp} {h:Addr} {x:Wi} (e:H h=some (.tup x.vs)):uE H [h] [x]:=⟨rfl,fun i a y h1 h2=>by
 cases i with
 | zero=>cases h1; cases h2; exact e
 | succ i=>simp at h1⟩
theorem nY {K:Frag} {lw D:Addr} {qs:List Addr} {xs:List Wi} {c:Wi→Bool} {tt:TT} {R:Hp→Prop} {σr:St} {H:Hp} (h0:H lw=some (.lst (qs.map V.ref))) (hl:qs.length=xs.length) (hw:∀ (i:Nat) q x,qs[i]? = some q→xs[i]? = some x→qq H q x) (h100:xs.length ≤ 100) (nD:H D=none)
  (ht:∀ (x:Wi) (p h:Addr) (G:Hp) (Q:Bool→Hp→Prop),x ∈ xs→Same H G→G p=some (.tup (x.p.map Ew))→Flat x.p→(∀ G',Same G G'→Q (c x) G')→tt (some (.ref p) :: some (.ref h) :: σr) G Q)
  (hR:∀ (hs:List Addr) (G:Hp),Same H G→G D=some (.lst (hs.map V.ref))→uE G hs (xs.filter c)→R G) :
  ∃ W:Nat→Nat→St→List V→Hp→Prop,(∃ m,W 0 m (none :: none :: σr) [] (upd H D (.lst [])))∧∀ i m σ ys H,W i m σ ys H →
   ((Bz K lw).stop i H∧R H)∨((Bz K lw).go i H∧∃ N:St→List V→Hp→Prop,(∀ σ' ys' H',N σ' ys' H'→∃ m',m' < m∧W (i + 1) m' σ' ys' H')∧∀ x H',(Bz K lw).Bh i H x H'→Jp K 2 (uM (hC 0) (uM (hC 1) Jo)) x σ H' fun σ2 H2=>tt σ2 H2 fun b H3 =>
    if b=true then zx 1 σ2 H3 fun v H4=>H4 D=some (.lst ys)∧ys.length < sizeLine∧N σ2 (ys ++ [v]) (upd H4 D (.lst (ys ++ [v]))) else N σ2 ys H3):=by
 refine gD (K:=K) (a:=lw) (xs:=qs.map V.ref) (fun j σ ys G=>∃ (v1 v2:Option V) (hs:List Addr),σ=v1 :: v2 :: σr∧ys=hs.map V.ref∧Same H G∧G D=some (.lst ys)∧uE G hs ((xs.take j).filter c)) ?_ ?_ ?_ ?_
 ·exact ⟨none,none,[],rfl,rfl,aj nD,ah,rfl,fun i h x e=>by simp at e⟩
 ·rintro j σ ys G _ ⟨v1,v2,hs,rfl,rfl,s,_⟩
  exact bh.of (s _ _ h0)
 ·rintro j x σ ys G hx ⟨v1,v2,hs,rfl,rfl,s,hD,hW⟩
  rw [List.getElem?_map] at hx
  obtain ⟨q,hq,rfl⟩:=map_eq_some_iff.mp hx
  have hjl:j < xs.length:=by have:=(List.getElem?_eq_some_iff.mp hq).1; omega
  have hx:xs[j]? = some xs[j]:=List.getElem?_eq_getElem hjl
  obtain ⟨p,h,a1,a2,a3,a4⟩:=hw j q _ hq hx
  have hm:=List.getElem_mem hjl
  generalize xs[j]=x at hx a2 a3 a4 hm
  refine ⟨q,_,rfl,aS.of (s _ _ a1),rfl,_,_,rfl,_,_,rfl,rfl,ht x p h G _ hm s (s _ _ a2) a3 fun G' s'=>?_⟩
  have tk:(xs.take (j + 1)).filter c=(xs.take j).filter c ++ [x].filter c:=by rw [take_add_one,hx,filter_append]; rfl
  have hl2:hs.length ≤ 100:=by
   rw [hW.1]
   exact le_trans (length_filter_le _ _) (by rw [length_take]; omega)
  have sT:=s.trans s'
  refine dk (fun e=>?_) (fun e=>?_)
  ·refine ⟨_,rfl,s' _ _ hD,dH (by rw [length_map]; omega),_,_,hs ++ [h],rfl,by simp,cL sT nD,ah,?_⟩
   rw [tk,show [x].filter c=[x] by simp [e]]
   have T2:cv G (upd G' D (.lst (hs.map V.ref ++ [V.ref h]))):=fun b ys e=>by
    rw [aL (bF e hD (by intro z; cases z))]
    exact s' _ _ e
   exact (hW.tups T2).app (.one (T2 _ _ (s _ _ a4)))
  ·refine ⟨_,_,hs,rfl,rfl,sT,s' _ _ hD,?_⟩
   rw [tk,show [x].filter c=[] by simp [e],List.append_nil]
   exact hW.tups (.of s')
 ·rintro σ ys G ⟨v1,v2,hs,rfl,rfl,s,hD,hW⟩
  rw [length_map,hl,take_length] at hW
  exact hR hs G s hD hW
def iY (r:Int) (x:Wi):Bool:=decide (x.p=oX r)
def o9 (r s:Int) (x:Wi):Bool:=decide (x.p=tH r) || decide (x.p=tI r s)
theorem GQ {r s:Int} {x:Wi}:decide (Da.tup x.p ∈ [Da.tup (tH r),Da.tup (tI r s)])=o9 r s x:=by
 unfold o9
 rw [← Bool.decide_or]
 exact decide_eq_decide.mpr (by simp)
section
variable {P:Program} {w:World} {K:Frag} {mg:Str→Option Value} {base:Heap}
def Ky:Sp:=fun vs H Q _=>∃ (lw:Addr) (xs:List Wi) (r:Int),vs=[.ref lw,.int r]∧jg H lw xs∧xs.length ≤ 100∧∀ (l:Addr) (hs:List Addr) (H':Hp),Same H H'→H l=none→H' l=some (.lst (hs.map V.ref))→uE H' hs (xs.filter (iY r))→Q (.ref l) H'
theorem R0:aJ ["wishes", "r"] ["wishes", "r"] (ak cP):=⟨rfl,rfl,rfl,by decide +kernel,rfl,by decide +kernel,by decide +kernel⟩
def Kz:Scope:={ kind:=.function,names:=[(".0",.local),("place",.local),("what",.local),("r",.free)],isGenerator:=false,isCoroutine:=false,more:=[] }
theorem Dp:er (ak cP) Kz ["wishes", "r"] ["place", "what", "r"] [none,none,some 1]:=⟨rfl,by decide +kernel,by decide +kernel,by decide +kernel,by decide +kernel,by decide +kernel⟩
theorem Nn {f:Addr} {fd:FuncData} (F:dJ K "whats_before" "whats_before" cP f fd) (T:Txt K w.params mg):aR P w K mg base bV 1 f fd ["wishes", "r"] Ky:=by
 refine F.ok R0 (fun vs H Q E h=>?_) (fun cdv A outer s H vs Q E hr h=>?_)
 ·obtain ⟨lw,xs,r,rfl,_⟩:=h
  rfl
 ·obtain ⟨lw,xs,r,rfl,⟨qs,h0,hl,hw⟩,h100,k⟩:=h
  have Iw:=lt_of_le_of_lt (Nat.add_le_add_left (by decide:6 ≤ 64) _) hr.units
  refine ⟨_,(aw (aU (gA (N':=["place", "what", "r"]) (fr:=[none,none,some 1]) Dp rfl (dI (pv 0)) (fun C s0 H0 fp=>(ik (K:=K) (i:=0) (j:=1) rfl rfl Dp.nd rfl (Or.inl rfl) rfl (Or.inl rfl))) (fun C s0 H0 fp=>(ke (aF (r:=JV K false) (Cr Iw) (pv 0) (aX (ae aq (ae (pv 2) ao))) (aO _)))) (fun C s0 H0 fp=>(pv 1))))),?_⟩
  refine ⟨_,rfl,lw,rfl,⟨_,bh.of h0⟩,fun D nD=>nY (K:=K) (σr:=[some (.int r)]) (c:=iY r) h0 hl hw h100 nD (fun x p h G Q' _ sG hp fl kk=>?_) (fun hs G sG hD hW=>k D hs G sG nD hD hW)⟩
  refine ⟨_,rfl,_,rfl,cT,fun t nt=>?_⟩
  have s2:=aj (o:=.tup [V.str "before",V.int r]) nt
  refine ⟨1,p,t,.tup x.p,.tup (oX r),rfl,rfl,(oY fl (s2 _ _ hp)).da K,(oY (o8 r) ah).da K,oZ fl,oZ (o8 r),by decide,_,rfl,?_⟩
  rw [show (false ^^ decide (Da.tup x.p=Da.tup (oX r)))=iY r x by rw [Bool.false_xor]; exact decide_eq_decide.mpr ⟨fun e=>Da.tup.inj e,fun e=>congrArg _ e⟩]
  exact kk _ s2
def Np:Sp:=fun vs H Q _=>∃ (lw:Addr) (xs:List Wi) (r s:Int),vs=[.ref lw,.int r,.int s]∧jg H lw xs∧xs.length ≤ 100∧∀ (l:Addr) (hs:List Addr) (H':Hp),Same H H'→H l=none→H' l=some (.lst (hs.map V.ref))→uE H' hs (xs.filter (o9 r s))→Q (.ref l) H'
theorem Sb:aJ ["wishes", "r", "s"] ["wishes", "r", "s"] (ak cQ):=⟨rfl,rfl,rfl,by decide +kernel,rfl,by decide +kernel,by decide +kernel⟩
def KA:Scope:={ kind:=.function,names:=[(".0",.local),("place",.local),("what",.local),("r",.free),("s",.free)],isGenerator:=false,isCoroutine:=false,more:=[] }
theorem Dq:er (ak cQ) KA ["wishes", "r", "s"] ["place", "what", "r", "s"] [none,none,some 1,some 2]:=⟨rfl,by decide +kernel,by decide +kernel,by decide +kernel,by decide +kernel,by decide +kernel⟩
theorem Dr {H:Hp} {x:Wi} {r s:Int} {p t1 t2 t3:Addr} {Q:V→Hp→Prop} (fl:Flat x.p) (hp:H p=some (.tup (x.p.map Ew))) (h1:H t1=some (.tup ((tH r).map Ew))) (h2:H t2=some (.tup ((tI r s).map Ew))) (h3:H t3=some (.tup [.ref t1,.ref t2])) (k:Q (.bl (o9 r s x)) H):Fj K (.ref p) (.ref t3) H Q:=by
 refine ⟨p,t3,_,.tup x.p,[.tup (tH r),.tup (tI r s)],1,rfl,rfl,h3,oY fl hp,.cons (oY (wU r) h1) (.cons (oY (wV r s) h2) .nil),fun y hy=>?_,oZ fl,fun e he=>?_,by decide,GQ ▸ k⟩
 ·rcases (show y=.ref t1∨y=.ref t2 by simpa using hy) with rfl | rfl
  ·exact ⟨_,rfl⟩
  ·exact ⟨_,rfl⟩
 ·rcases (show e=.tup (tH r)∨e=.tup (tI r s) by simpa using he) with rfl | rfl
  ·exact oZ (wU r)
  ·exact oZ (wV r s)
theorem Nq {f:Addr} {fd:FuncData} (F:dJ K "whats_on_way" "whats_on_way" cQ f fd) (T:Txt K w.params mg):aR P w K mg base bV 1 f fd ["wishes", "r", "s"] Np:=by
 refine F.ok Sb (fun vs H Q E h=>?_) (fun cdv A outer s H vs Q E hr h=>?_)
 ·obtain ⟨lw,xs,r,s,rfl,_⟩:=h
  rfl
 ·obtain ⟨lw,xs,r,s',rfl,⟨qs,h0,hl,hw⟩,h100,k⟩:=h
  have Iw:=lt_of_le_of_lt (Nat.add_le_add_left (by decide:6 ≤ 64) _) hr.units
  refine ⟨_,(aw (aU (gA (N':=["place", "what", "r", "s"]) (fr:=[none,none,some 1,some 2]) Dq rfl (dI (pv 0)) (fun C s0 H0 fp=>(ik (K:=K) (i:=0) (j:=1) rfl rfl Dq.nd rfl (Or.inl rfl) rfl (Or.inl rfl))) (fun C s0 H0 fp=>(ke (aF (r:=Fj K) (Cw Iw) (pv 0) (aX (ae (aX (ae aq (ae (pv 2) ao))) (ae (aX (ae aq (ae (pv 2) (ae (pv 3) ao)))) ao))) rfl))) (fun C s0 H0 fp=>(pv 1))))),?_⟩
  refine ⟨_,rfl,lw,rfl,⟨_,bh.of h0⟩,fun D nD=>nY (K:=K) (σr:=[some (.int r),some (.int s')]) (c:=o9 r s') h0 hl hw h100 nD (fun x p h G Q' _ sG hp fl kk=>?_) (fun hs G sG hD hW=>k D hs G sG nD hD hW)⟩
  refine ⟨_,rfl,_,rfl,cT,fun t1 n1=>⟨_,rfl,_,rfl,jX,fun t2 n2=>⟨cT,fun t3 n3=>?_⟩⟩⟩
  have s1:=aj (o:=.tup [V.str "after",V.int r]) n1
  have s2:=aj (o:=.tup [V.str "way",V.int r,V.int s']) n2
  have s3:=aj (o:=.tup [V.ref t1,V.ref t2]) n3
  exact Dr fl ((s1.trans (s2.trans s3)) _ _ hp) ((s2.trans s3) _ _ ah) (s3 _ _ ah) ah ⟨_,rfl,kk _ (s1.trans (s2.trans s3))⟩
end
structure CR (d:List (Key × V)) (ks:List Int) (f:Int→Int):Prop where
 isI:∃ kvs:List (Int × Int),d=iD kvs∧(kvs.map (·.1)).Nodup
 val:∀ j:Int,cw d (Sum.inl j:Key)=if j ∈ ks then some (.int (f j)) else none
theorem CR.nil {f:Int→Int}:CR [] [] f:=⟨⟨[],rfl,List.nodup_nil⟩,fun _=>rfl⟩
theorem CR.put {d:List (Key × V)} {ks ks':List Int} {f:Int→Int} (r:CR d ks f) (j v:Int) (h:∀ i,i ∈ ks'↔i=j∨i ∈ ks):CR (putK d (Sum.inl j) (.int v)) ks' (iX f j v):=by
 obtain ⟨⟨kvs,rfl,hn⟩,hv⟩:=r
 obtain ⟨kvs',e,hn',_⟩:=Cu (j:=j) (v:=v) hn
 refine ⟨⟨kvs',e,hn'⟩,fun i=>?_⟩
 rw [oq]
 unfold iX
 by_cases c:i=j
 ·rw [if_pos (by rw [c]),if_pos ((h i).mpr (.inl c)),if_pos c]
 ·rw [if_neg (fun z=>c (Sum.inl.inj z)),if_neg c,hv i]
  by_cases c2:i ∈ ks
  ·rw [if_pos c2,if_pos ((h i).mpr (.inr c2))]
  ·rw [if_neg c2,if_neg (fun z=>((h i).mp z).elim c c2)]
def jh:List Str:=["seen", "counts", "rows", "ending"]
theorem gT:jh.Nodup:=by decide +kernel
structure TA where
 (s c r:Addr)
abbrev td (m:TA) (w:V):List (Key × V):=gm jh [.ref m.s,.ref m.c,.ref m.r,w]
section
variable {m:TA} {w v:V}
theorem tK:cw (td m w) (Sum.inr "seen" : Key)=some (.ref m.s):=d9 jh _ 0 _ gT rfl
theorem vq:cw (td m w) (Sum.inr "counts" : Key)=some (.ref m.c):=d9 jh _ 1 _ gT rfl
theorem pd:cw (td m w) (Sum.inr "rows" : Key)=some (.ref m.r):=d9 jh _ 2 _ gT rfl
theorem zi:cw (td m w) (Sum.inr "ending" : Key)=some (w):=d9 jh _ 3 _ gT rfl
theorem tL:putK (td m w) (Sum.inr "ending" : Key) v=td m v:=lf v jh _ 3 _ gT rfl (by show 3 < 4; decide) rfl
theorem zj:(td m w).length < sizeLine:=Nat.lt_of_lt_of_le (show 4 < 1001 by decide) (by decide)
end
structure Tl where
 (sn:List (Int × Int)) (ks:List Int) (cf:Int→Int) (rows:List Int) (en:Option (List V))
def cU (m:TA) (a c:Addr):Prop:=c=a∨c=m.s∨c=m.c∨c=m.r
structure TS (H:Hp) (a:Addr) (m:TA) (B:Nat) (t:Tl):Prop where
 st:∃ w,H a=some (.dK (td m w))∧iB H w t.en
 seen:∃ ps,H m.s=some (.lst (ps.map V.ref))∧fJ H ps t.sn
 cnt:∃ d,H m.c=some (.dK d)∧CR d t.ks t.cf∧d.length ≤ 100
 rws:H m.r=some (.lst (t.rows.map V.int))
 Iy:m.s ≠ m.r
 Iz:a ≠ m.c
 lens:t.sn.length ≤ B∧t.rows.length ≤ B
 big:B ≤ 900
section
variable {H H':Hp} {a:Addr} {m:TA} {B:Nat} {t:Tl}
theorem TS.keeps {R:Addr→Prop} (M:TS H a m B t) (k:Keeps R H H') (d:∀ c,cU m a c→¬ R c):TS H' a m B t:=by
 obtain ⟨w,o1,o2⟩:=M.st
 obtain ⟨ps,s1,s2⟩:=M.seen
 obtain ⟨d1,c1,c2⟩:=M.cnt
 have e:∀ {c o},cU m a c→H c=some o→H' c=some o:=fun {c o} h g=>k c o g (.inl (d c h))
 exact ⟨⟨w,e (.inl rfl) o1,o2.tups k.tups⟩,⟨ps,e (.inr (.inl rfl)) s1,s2.tups k.tups⟩,⟨d1,e (.inr (.inr (.inl rfl))) c1,c2⟩,e (.inr (.inr (.inr rfl))) M.rws,M.Iy,M.Iz,M.lens,M.big⟩
theorem TS.same (M:TS H a m B t) (s:Same H H'):TS H' a m B t:=M.keeps (R:=fun _=>False) (.same s) (fun _ _ h=>h)
theorem TS.more (M:TS H a m B t) {B':Nat} (h:B ≤ B') (hb:B' ≤ 900):TS H a m B' t:=⟨M.st,M.seen,M.cnt,M.rws,M.Iy,M.Iz,⟨le_trans M.lens.1 h,le_trans M.lens.2 h⟩,hb⟩
theorem TS.a_ (M:TS H a m B t) {p:Addr} {xs:List V} (h:H p=some (.lst xs)):a ≠ p:=by
 obtain ⟨w,o1,_⟩:=M.st
 exact bF o1 h (by intro z; cases z)
theorem TS.put (M:TS H a m B t) {w':V} {en':Option (List V)} (hw:iB H w' en'):TS (upd H a (.dK (td m w'))) a m B { t with en:=en' }:=by
 obtain ⟨w,o1,o2⟩:=M.st
 obtain ⟨ps,s1,s2⟩:=M.seen
 obtain ⟨d1,c1,c2⟩:=M.cnt
 have tt:cv H (upd H a (.dK (td m w'))):=.upd o1 (by intro _ z; cases z)
 have e:∀ {c o},H c=some o→c ≠ a→upd H a (.dK (td m w')) c=some o:=fun {c o} h n=>by rw [aL n]; exact h
 exact ⟨⟨w',ah,hw.tups tt⟩,⟨ps,e s1 (M.a_ s1).symm,s2.tups tt⟩,⟨d1,e c1 M.Iz.symm,c2⟩,e M.rws (M.a_ M.rws).symm,M.Iy,M.Iz,M.lens,M.big⟩
theorem TS.qY (M:TS H a m B t) {ps:List Addr} {sn:List (Int × Int)} (hs:fJ H ps sn) (hl:sn.length ≤ B):TS (upd H m.s (.lst (ps.map V.ref))) a m B { t with sn:=sn }:=by
 obtain ⟨w,o1,o2⟩:=M.st
 obtain ⟨ps0,s1,s2⟩:=M.seen
 obtain ⟨d1,c1,c2⟩:=M.cnt
 have tt:cv H (upd H m.s (.lst (ps.map V.ref))):=.upd s1 (by intro _ z; cases z)
 have e:∀ {c o},H c=some o→c ≠ m.s→upd H m.s (.lst (ps.map V.ref)) c=some o:=fun {c o} h n=>by rw [aL n]; exact h
 exact ⟨⟨w,e o1 (M.a_ s1),o2.tups tt⟩,⟨ps,ah,hs.tups tt⟩,⟨d1,e c1 (bF c1 s1 (by intro z; cases z)),c2⟩,e M.rws M.Iy.symm,M.Iy,M.Iz,⟨hl,M.lens.2⟩,M.big⟩
theorem TS.IA (M:TS H a m B t) {rs:List Int} (hl:rs.length ≤ B):TS (upd H m.r (.lst (rs.map V.int))) a m B { t with rows:=rs }:=by
 obtain ⟨w,o1,o2⟩:=M.st
 obtain ⟨ps,s1,s2⟩:=M.seen
 obtain ⟨d1,c1,c2⟩:=M.cnt
 have tt:cv H (upd H m.r (.lst (rs.map V.int))):=.upd M.rws (by intro _ z; cases z)
 have e:∀ {c o},H c=some o→c ≠ m.r→upd H m.r (.lst (rs.map V.int)) c=some o:=fun {c o} h n=>by rw [aL n]; exact h
 exact ⟨⟨w,e o1 (M.a_ M.rws),o2.tups tt⟩,⟨ps,e s1 M.Iy,s2.tups tt⟩,⟨d1,e c1 (bF c1 M.rws (by intro z; cases z)),c2⟩,ah,M.Iy,M.Iz,⟨M.lens.1,hl⟩,M.big⟩
theorem TS.KC (M:TS H a m B t) {d:List (Key × V)} {ks:List Int} {f:Int→Int} (hz:CR d ks f) (hl:d.length ≤ 100):TS (upd H m.c (.dK d)) a m B { t with ks:=ks,cf:=f }:=by
 obtain ⟨w,o1,o2⟩:=M.st
 obtain ⟨ps,s1,s2⟩:=M.seen
 obtain ⟨d1,c1,c2⟩:=M.cnt
 have tt:cv H (upd H m.c (.dK d)):=.upd c1 (by intro _ z; cases z)
 have e:∀ {c o},H c=some o→c ≠ m.c→upd H m.c (.dK d) c=some o:=fun {c o} h n=>by rw [aL n]; exact h
 exact ⟨⟨w,e o1 M.Iz,o2.tups tt⟩,⟨ps,e s1 (bF s1 c1 (by intro z; cases z)),s2.tups tt⟩,⟨d,ah,hz,hl⟩,e M.rws (bF M.rws c1 (by intro z; cases z)),M.Iy,M.Iz,M.lens,M.big⟩
end
def qt (bs:List Int) (b:Int):Int:=bs.getD b.toNat 0
theorem rD {bs:List Int} (h8:bs.length=8) {b:Int} (hb:Bx b):lX (bs.map V.int) b=some (.int (qt bs b)):=by
 obtain ⟨j,rfl⟩:=Int.eq_ofNat_of_zero_le hb.1
 have hj:j < bs.length:=by have:=hb.2; omega
 refine ck (j:=j) ?_
 unfold qt
 rw [List.getElem?_map,List.getElem?_eq_getElem hj,Int.toNat_natCast,List.getD_eq_getElem?_getD,List.getElem?_eq_getElem hj]
 rfl
def iS (bs:List Int) (t:Tl) (x:Wi):Tl :=
 if x.u = "look" then { t with sn:=t.sn ++ [(x.n,qt bs x.b)] } else if x.u = "count" then { t with cf:=iX t.cf x.n (t.cf x.n + 1) }
 else if qt bs x.b < 0 then { t with en:=some [.str "halt",.int x.n] } else t
def cg (bs:List Int):Tl→List Wi→Tl
 | t,[]=>t
 | t,x :: r=>cg bs (if t.en=none then iS bs t x else t) r
theorem jE (bs:List Int):∀ (a b:List Wi) (t:Tl),cg bs t (a ++ b)=cg bs (cg bs t a) b
 | [],b,t=>rfl
 | x :: a,b,t=>jE bs a b _
theorem rE (bs:List Int):∀ (a:List Wi) (t:Tl),¬ t.en=none→cg bs t a=t
 | [],t,h=>rfl
 | x :: a,t,h=>by
  show cg bs (if t.en=none then iS bs t x else t) a=t
  rw [if_neg h]
  exact rE bs a t h
structure pe (ks:List Int) (x:Wi):Prop where
 u:x.u = "look" ∨ x.u = "count" ∨ x.u = "guard"
 b:Bx x.b
 k:x.u = "count" → x.n ∈ ks
theorem GU {bs:List Int} {t:Tl} {x:Wi}:(iS bs t x).ks=t.ks∧(iS bs t x).rows=t.rows:=by
 unfold iS
 split
 ·exact ⟨rfl,rfl⟩
 split
 ·exact ⟨rfl,rfl⟩
 split
 ·exact ⟨rfl,rfl⟩
 ·exact ⟨rfl,rfl⟩
theorem gi {bs:List Int}:∀ {a:List Wi} {t:Tl},(cg bs t a).ks=t.ks∧(cg bs t a).rows=t.rows
 | [],t=>⟨rfl,rfl⟩
 | x :: a,t=>by
  have h:=gi (bs:=bs) (a:=a) (t:=if t.en=none then iS bs t x else t)
  have e:(if t.en=none then iS bs t x else t).ks=t.ks∧(if t.en=none then iS bs t x else t).rows=t.rows:=by
   split
   ·exact GU
   ·exact ⟨rfl,rfl⟩
  exact ⟨h.1.trans e.1,h.2.trans e.2⟩
section
variable {P:Program} {w:World} {K:Frag} {mg:Str→Option Value} {base:Heap}
def Nr:Sp:=fun vs H Q _=>∃ (a h pb:Addr) (m:TA) (B:Nat) (t:Tl) (x:Wi) (bs:List Int),vs=[.ref a,.ref h,.ref pb]∧TS H a m B t∧B < 900∧H h=some (.tup x.vs)∧pe t.ks x∧H pb=some (.lst (bs.map V.int))∧bs.length=8 ∧
 ∀ H',Keeps (cU m a) H H'→TS H' a m (B + 1) (iS bs t x)→Q .non H'
theorem KD:aJ ["reading", "what", "boxes", "word", "number"] ["reading", "what", "boxes"] (ak fq):=⟨rfl,rfl,rfl,by decide +kernel,rfl,by decide +kernel,by decide +kernel⟩
theorem Nt {f:Addr} {fd:FuncData} (F:dJ K "see_what" "see_what" fq f fd) (T:Txt K w.params mg):aR P w K mg base bV 1 f fd ["reading", "what", "boxes"] Nr:=by
 refine F.ok KD (fun vs H Q E h=>?_) (fun cdv A outer s H vs Q E hr h=>?_)
 ·obtain ⟨a,h,pb,m,B,t,x,bs,rfl,_⟩:=h
  rfl
 ·obtain ⟨a,h,pb,m,B,t,x,bs,rfl,M0,hB,hh,g,hpb,b8,k⟩:=h
  have M:=M0.more (le_succ B) (by omega)
  have hu:=cC hr
  obtain ⟨w0,ho,hw⟩:=M.st
  obtain ⟨ps,s1,s2⟩:=M.seen
  obtain ⟨d,c1,c2,c3⟩:=M.cnt
  obtain ⟨xp,xu,xn,xb⟩:=x
  obtain ⟨gu,gb,gk⟩:=g
  have lm:=M0.lens
  refine ⟨_,(aA (aV (i:=3) KD.nd rfl (Or.inl rfl) (au az (pv 1) ai (fun _ _=>rfl)))
   (aA (aV (i:=4) KD.nd rfl (Or.inl rfl) (au az (pv 1) ai (fun _ _=>rfl)))
   (aw (bU (aF bQ (pv 3) aq (aO _)) (aw (bJ (gn PySem.F.plainAttrs_list PySem.F.slot_list_append PySem.F.type_list_append cr (bj hu (pv 0) aq (fun _ _=>rfl)) (ae (aX (ae (pv 4) (ae (au aK (pv 2) (au az (pv 1) ai (fun _ _=>rfl)) (fun _ _=>rfl)) ao))) ao)))) (aw (bU (aF bQ (pv 3) aq (aO _)) (aw (dh hu (bj hu (pv 0) aq (fun _ _=>rfl)) (pv 4) (aN dn (bj hu (bj hu (pv 0) aq (fun _ _=>rfl)) (pv 4) (fun _ _=>rfl)) ai) rfl)) (aw (bU (aF iu (au aK (pv 2) (au az (pv 1) ai (fun _ _=>rfl)) (fun _ _=>rfl)) ai (aO _)) (aw (dh hu (pv 0) aq (aX (ae aq (ae (pv 4) ao))) rfl)) aM)))))))),?_⟩
  rcases gu with rfl | rfl | rfl
  ·have hh:H h=some (.tup [.str "look",.int xn,.int xb]):=hh
   refine ⟨_,rfl,h,_,_,_,rfl,rfl,aS.of hh,at0 _ _,?_⟩
   refine ⟨_,rfl,h,_,_,.int xn,rfl,rfl,aS.of hh,at1 _ _ _,?_⟩
   refine ⟨_,rfl,rfl,_,rfl,cy (by decide +kernel) ?_⟩
   refine ⟨_,rfl,a,_,rfl,dw ho tK,.inl ⟨rfl,_,bh.of s1⟩,_,rfl,_,rfl,_,rfl,h,_,_,.int xb,rfl,rfl,aS.of hh,at2 _ _ _ _,pb,_,_,_,rfl,rfl,bh.of hpb,rD b8 gb,cT,fun t1 n1=>⟨m.s,_,_,rfl,rfl,ez n1 s1,bw (by rw [length_map,s2.1]; omega),?_⟩⟩
   have sN:=aj (o:=.tup [V.int xn,V.int (qt bs xb)]) n1
   rw [show ps.map V.ref ++ [V.ref t1]=(ps ++ [t1]).map V.ref by simp]
   refine k _ ((Keeps.same sN).upd (sN _ _ s1) (by intro _ z; cases z) (.inr (.inl rfl))) ?_
   rw [show iS bs t ⟨xp, "look",xn,xb⟩={ t with sn:=t.sn ++ [(xn,qt bs xb)] } from if_pos rfl]
   exact (M.same sN).qY ((s2.tups (.of sN)).snoc (p:=(xn,qt bs xb)) ah) (by simp; omega)
  ·have hh:H h=some (.tup [.str "count",.int xn]):=hh
   have kn:cw d (Sum.inl xn:Key)=some (.int (t.cf xn)):=by rw [c2.val,if_pos (gk rfl)]
   refine ⟨_,rfl,h,_,_,_,rfl,rfl,aS.of hh,at0 _ _,?_⟩
   refine ⟨_,rfl,h,_,_,.int xn,rfl,rfl,aS.of hh,at1 _ _ _,?_⟩
   refine ⟨_,rfl,rfl,_,rfl,aW (by decide +kernel) ?_⟩
   refine ⟨_,rfl,rfl,_,rfl,cy (by decide +kernel) ?_⟩
   refine ⟨_,rfl,a,_,rfl,dw ho vq,_,rfl,m.c,_,rfl,kn ▸ iL.k (k:=Sum.inl xn) c1,_,_,rfl,rfl,_,rfl,a,_,rfl,dw ho vq,_,rfl,m.c,_,rfl,ic.k (k:=Sum.inl xn) c1 (bw (by omega)),?_⟩
   refine k _ (Keeps.refl.upd c1 (by intro _ z; cases z) (.inr (.inr (.inl rfl)))) ?_
   rw [show iS bs t ⟨xp, "count",xn,xb⟩={ t with cf:=iX t.cf xn (t.cf xn + 1) } from (if_neg (show ¬ ("count" : Str) = "look" by decide +kernel)).trans (if_pos rfl)]
   refine M.KC (c2.put xn _ fun i=>⟨.inr,fun z=>z.elim (fun e=>e ▸ gk rfl) id⟩) ?_
   have hs:(cw d (Sum.inl xn:Key)).isSome=true:=by rw [kn]; rfl
   unfold putK
   rw [dQ,if_pos hs,length_map]
   exact c3
  ·have hh:H h=some (.tup [.str "guard",.int xn,.int xb]):=hh
   refine ⟨_,rfl,h,_,_,_,rfl,rfl,aS.of hh,at0 _ _,?_⟩
   refine ⟨_,rfl,h,_,_,.int xn,rfl,rfl,aS.of hh,at1 _ _ _,?_⟩
   refine ⟨_,rfl,rfl,_,rfl,aW (by decide +kernel) ?_⟩
   refine ⟨_,rfl,rfl,_,rfl,aW (by decide +kernel) ?_⟩
   refine ⟨_,rfl,_,rfl,h,_,_,.int xb,rfl,rfl,aS.of hh,at2 _ _ _ _,pb,_,_,_,rfl,rfl,bh.of hpb,rD b8 gb,_,_,rfl,rfl,_,rfl,?_⟩
   have e0:iS bs t ⟨xp, "guard",xn,xb⟩=if qt bs xb < 0 then { t with en:=some [.str "halt",.int xn] } else t:=(if_neg (show ¬ ("guard" : Str) = "look" by decide +kernel)).trans (if_neg (show ¬ ("guard" : Str) = "count" by decide +kernel))
   rw [e0] at k
   refine dk (fun c=>?_) (fun c=>?_)
   ·have c:qt bs xb < 0:=of_decide_eq_true c
    rw [if_pos c] at k
    refine ⟨_,rfl,cT,fun t1 n1=>⟨_,rfl,a,_,rfl,ic.k (k:=Sum.inr "ending") (ez n1 ho) zj,?_⟩⟩
    rw [tL]
    have sN:=aj (o:=.tup [V.str "halt",V.int xn]) n1
    exact k _ ((Keeps.same sN).upd (ez n1 ho) (by intro _ z; cases z) (.inl rfl)) ((M.same sN).put ⟨t1,rfl,ah⟩)
   ·rw [if_neg (fun z=>c (decide_eq_true z))] at k
    exact k _ Keeps.refl M
def Nu:Sp:=fun vs H Q _=>∃ (a lh pb:Addr) (m:TA) (B:Nat) (t:Tl) (hs:List Addr) (ws:List Wi) (bs:List Int),vs=[.ref a,.ref lh,.ref pb]∧TS H a m B t∧B + ws.length ≤ 900∧H lh=some (.lst (hs.map V.ref))∧uE H hs ws∧(∀ x ∈ ws,pe t.ks x)∧H pb=some (.lst (bs.map V.int))∧bs.length=8∧¬ cU m a lh∧¬ cU m a pb ∧
 ∀ H',Keeps (cU m a) H H'→TS H' a m (B + ws.length) (cg bs t ws)→Q .non H'
theorem Nv:aJ ["reading", "whats", "boxes", "what"] ["reading", "whats", "boxes"] (ak eN):=⟨rfl,rfl,rfl,by decide +kernel,rfl,by decide +kernel,by decide +kernel⟩
theorem Nw {f fW:Addr} {fd rF:FuncData} (F:dJ K "see_whats" "see_whats" eN f fd) (T:Txt K w.params mg)
  (GW:aR P w K mg base bV 1 fW rF ["reading", "what", "boxes"] Nr) (kW:KI K fW) (bW:Binds K rF ["reading", "what", "boxes"] []) (mW:mg "see_what" = some (.ref fW)):aR P w K mg base bV 2 f fd ["reading", "whats", "boxes"] Nu:=by
 refine F.ok Nv (fun vs H Q E h=>?_) (fun cdv A outer s H vs Q E hr h=>?_)
 ·obtain ⟨a,lh,pb,m,B,t,hs,ws,bs,rfl,_⟩:=h
  rfl
 ·obtain ⟨a,lh,pb,m,B,t,hs,ws,bs,rfl,M,hB,GV,hW,g,hpb,b8,n1,n2,k⟩:=h
  have hu:=cC hr
  refine ⟨_,(aw (gM PassesOwn.never rfl (dI (pv 1)) (cD (i:=3) Nv.nd rfl (Or.inl rfl)) (aw (bU (aF lC (bj hu (pv 0) aq (fun _ _=>rfl)) ef (aO _)) (aw (bJ (aQ GW hr (by rfl) mW kW bW .nil bp (ae (pv 0) (ae (pv 3) (ae (pv 2) ao)))))) aM)))),?_⟩
  refine ⟨_,rfl,lh,rfl,⟨_,bh.of GV⟩,i5 (K:=K) (a:=lh) (xs:=hs.map V.ref) (fun j σ G=>∃ v:Option V,σ=[some (.ref a),some (.ref lh),some (.ref pb),v]∧Keeps (cU m a) H G∧TS G a m (B + j) (cg bs t (ws.take j))) ?_ ?_ ?_ ?_⟩
  ·exact ⟨none,rfl,Keeps.refl,M⟩
  ·rintro j σ G _ ⟨v,rfl,kp,_⟩
   exact bh.of (kp _ _ GV (.inl n1))
  ·rintro j x σ G hx ⟨v,rfl,kp,MT⟩
   rw [List.getElem?_map] at hx
   obtain ⟨q,hq,rfl⟩:=map_eq_some_iff.mp hx
   have hjl:j < ws.length:=by have:=(List.getElem?_eq_some_iff.mp hq).1; have:=hW.1; omega
   have hx:ws[j]? = some ws[j]:=List.getElem?_eq_getElem hjl
   have hh:=hW.2 j q _ hq hx
   have gx:=g _ (List.getElem_mem hjl)
   generalize ws[j]=x at hx hh gx
   have tk:ws.take (j + 1)=ws.take j ++ [x]:=by rw [take_add_one,hx]; rfl
   have eS:cg bs t (ws.take (j + 1))=if (cg bs t (ws.take j)).en=none then iS bs (cg bs t (ws.take j)) x else cg bs t (ws.take j):=by rw [tk,jE]; rfl
   obtain ⟨w0,ho,hw⟩:=MT.st
   refine ⟨_,rfl,a,_,rfl,dw ho zi,?_⟩
   cases he:(cg bs t (ws.take j)).en with
   | none =>
    rw [he] at hw
    have hw:w0=.non:=hw
    subst hw
    refine ⟨rfl,_,rfl,cy (by decide) ?_⟩
    refine ⟨_,rfl,_,rfl,_,rfl,a,q,pb,m,B + j,_,x,bs,rfl,MT,by omega,kp.tups _ _ hh,by rw [gi.1]; exact gx,kp _ _ hpb (.inl n2),b8,fun H' k' M'=>⟨_,rfl,kp.trans k',?_⟩⟩
    rw [eS,if_pos he]
    exact M'
   | some zs =>
    rw [he] at hw
    obtain ⟨p,rfl,_⟩:=hw
    refine ⟨rfl,_,rfl,aW (fun z=>by cases of_decide_eq_true z) ?_⟩
    refine ⟨_,rfl,kp,?_⟩
    rw [eS,if_neg (by rw [he]; intro z; cases z)]
    exact MT.more (by omega) (by omega)
  ·rintro σ G ⟨v,rfl,kp,MT⟩
   rw [length_map,hW.1,take_length] at MT
   exact k _ kp MT
end
theorem wW:¬ ("row" : Str) ∈ names:=by decide +kernel
theorem Ak:¬ ("ending" : Str) ∈ names:=by decide +kernel
theorem vt:¬ ("boxes" : Str) ∈ names:=by decide +kernel
theorem GX:¬ ("step" : Str) ∈ names:=by decide +kernel
theorem Ds {ring:Int→Bool} {r:Rw} {h:Int} {z:Zt} (hn:z.how=none):((aY ring r h z).here=.non∧∃ xs,(aY ring r h z).how=some xs)∨((∃ t,(aY ring r h z).here=.int t)∧(aY ring r h z).how=none):=by
 cases r with
 | stop=>exact .inl ⟨rfl,_,rfl⟩
 | halt v=>exact .inl ⟨rfl,_,rfl⟩
 | back =>
  rcases eq_nil_or_concat z.pile with e | ⟨r,p,e⟩
  ·rw [iC e]
   exact .inl ⟨rfl,_,rfl⟩
  ·have e:z.pile=r ++ [p]:=by simpa using e
   rw [kZ e]
   exact .inr ⟨⟨_,rfl⟩,hn⟩
 | two u b v =>
  simp only [aY]
  split
  ·exact .inr ⟨⟨_,rfl⟩,hn⟩
  split
  ·exact .inr ⟨⟨_,rfl⟩,hn⟩
  split
  ·exact .inr ⟨⟨_,rfl⟩,hn⟩
  ·exact .inr ⟨⟨_,rfl⟩,hn⟩
 | eA u t f =>
  simp only [aY]
  split
  ·exact .inr ⟨⟨_,rfl⟩,hn⟩
  split
  ·exact .inr ⟨⟨_,rfl⟩,hn⟩
  split
  ·exact .inr ⟨⟨_,rfl⟩,hn⟩
  ·exact .inr ⟨⟨_,rfl⟩,hn⟩
 | _=>exact .inr ⟨⟨_,rfl⟩,hn⟩
def GZ (r:Rw) (h s:Int):Int:=if r.word = "back" then s - 1 else h
def vv (xs:List Wi) (l s:Int):List Wi:=xs.filter (o9 l s) ++ xs.filter (iY s)
def ji (r:Rw) (bs:List Int) (t:Tl):Tl:=match r with
 | .two u b v=>if u = "see" then { t with sn:=t.sn ++ [(v,qt bs b)] } else t
 | _=>t
section
variable {P:Program} {w:World} {K:Frag} {mg:Str→Option Value} {base:Heap}
def Nx:Sp:=fun vs H Q _=>∃ (lr lw q:Addr) (rows:List V) (xs:List Wi) (r:Nat) (s n:Int) (rw:Rw),vs=[.ref lr,.ref lw,.int (r:Int),.int s]∧H lr=some (.lst rows)∧rows[r]? = some (.ref q)∧gS H q n rw∧jg H lw xs∧xs.length ≤ 100 ∧
 ∀ (l:Addr) (hs:List Addr) (H':Hp),Same H H'→H l=none→H' l=some (.lst (hs.map V.ref))→uE H' hs (vv xs (GZ rw r s) s)→Q (.ref l) H'
theorem Ny:aJ ["rows", "wishes", "r", "s", "leaving"] ["rows", "wishes", "r", "s"] (ak cY):=⟨rfl,rfl,rfl,by decide +kernel,rfl,by decide +kernel,by decide +kernel⟩
theorem Nz {f fY fB:Addr} {fd NA IB:FuncData} (F:dJ K "whats_between" "whats_between" cY f fd) (T:Txt K w.params mg)
  (GY:aR P w K mg base bV 1 fY NA ["wishes", "r", "s"] Np) (kY:KI K fY) (bY:Binds K NA ["wishes", "r", "s"] []) (mY:mg "whats_on_way" = some (.ref fY))
  (GB:aR P w K mg base bV 1 fB IB ["wishes", "r"] Ky) (kB:KI K fB) (bB:Binds K IB ["wishes", "r"] []) (mB:mg "whats_before" = some (.ref fB)):aR P w K mg base bV 2 f fd ["rows", "wishes", "r", "s"] Nx:=by
 refine F.ok Ny (fun vs H Q E h=>?_) (fun cdv A outer s H vs Q E hr h=>?_)
 ·obtain ⟨lr,lw,q,rows,xs,r,s,n,rw,rfl,_⟩:=h
  rfl
 ·obtain ⟨lr,lw,q,rows,xs,r,s',n,rw,rfl,hlr,hrow,hR,hW,h100,k⟩:=h
  have hu:=cC hr
  obtain ⟨items,HQ⟩:=lO hR
  refine ⟨_,(aA (aV (i:=4) Ny.nd rfl (Or.inl rfl) (uL (aF bQ (au az (au aK (pv 0) (pv 2) (fun _ _=>rfl)) ai (fun _ _=>rfl)) aq (aO _)) (aN ib (pv 3) ai) (pv 2)))
   (aw (aU (aN wa (aQ GY hr (by rfl) mY kY bY .nil bp (ae (pv 1) (ae (pv 4) (ae (pv 3) ao)))) (aQ GB hr (by rfl) mB kB bB .nil bp (ae (pv 1) (ae (pv 3) ao))))))),?_⟩
  refine ⟨_,rfl,_,rfl,lr,_,_,.ref q,rfl,rfl,bh.of hlr,ck (j:=r) hrow,q,_,_,.str rw.word,rfl,rfl,aS.of HQ,at0 _ _,rfl,_,rfl,?_⟩
  refine dk (fun c=>?_) (fun c=>?_)
  ·have e:GZ rw r s'=s' - 1:=if_pos (strEq c)
   rw [e] at k
   refine ⟨_,rfl,_,_,rfl,rfl,?_⟩
   refine ⟨_,rfl,_,rfl,_,rfl,lw,xs,(s' - 1),s',rfl,hW,h100,fun l1 hs1 H1 s1 n1 h1 w1=>⟨_,rfl,_,rfl,lw,xs,s',rfl,hW.same s1,h100,fun l2 hs2 H2 s2 n2 h2 w2=>⟨l1,l2,_,_,rfl,rfl,s2 _ _ h1,h2,?_,fun l3 n3=>?_⟩⟩⟩
   ·have e1:=w1.1
    have e2:=w2.1
    have e3:=length_filter_le (o9 (s' - 1) s') xs
    have e4:=length_filter_le (iY s') xs
    rw [length_map,length_map]
    exact le_trans (show _ ≤ 200 by omega) (by decide)
   ·rw [← map_append]
    have s3:=aj (o:=.lst ((hs1 ++ hs2).map V.ref)) n3
    exact k l3 (hs1 ++ hs2) _ (s1.trans (s2.trans s3)) ((s1.trans s2).free n3) ah (((w1.tups (.of s2)).app w2).tups (.of s3))
  ·have e:GZ rw r s'=r:=if_neg (fun z=>c (by rw [z]; exact decide_eq_true rfl))
   rw [e] at k
   refine ⟨_,rfl,?_⟩
   refine ⟨_,rfl,_,rfl,_,rfl,lw,xs,r,s',rfl,hW,h100,fun l1 hs1 H1 s1 n1 h1 w1=>⟨_,rfl,_,rfl,lw,xs,s',rfl,hW.same s1,h100,fun l2 hs2 H2 s2 n2 h2 w2=>⟨l1,l2,_,_,rfl,rfl,s2 _ _ h1,h2,?_,fun l3 n3=>?_⟩⟩⟩
   ·have e1:=w1.1
    have e2:=w2.1
    have e3:=length_filter_le (o9 r s') xs
    have e4:=length_filter_le (iY s') xs
    rw [length_map,length_map]
    exact le_trans (show _ ≤ 200 by omega) (by decide)
   ·rw [← map_append]
    have s3:=aj (o:=.lst ((hs1 ++ hs2).map V.ref)) n3
    exact k l3 (hs1 ++ hs2) _ (s1.trans (s2.trans s3)) ((s1.trans s2).free n3) ah (((w1.tups (.of s2)).app w2).tups (.of s3))
def NB (C:Addr):Sp:=fun vs H Q _=>∃ (a lr lw x q:Addr) (mt:TA) (Bt:Nat) (t:Tl) (m:MA) (rows:List V) (aB:List (Key × V)) (B:Nat) (z:Zt) (r:Nat) (n:Int) (rw:Rw) (xs:List Wi),vs=[.ref a,.ref lr,.ref lw,.ref x]∧TS H a mt Bt t∧Bt < 900∧H lr=some (.lst rows)∧MG C H x m rows aB B z∧B < 900∧z.here=.int r∧z.how=none ∧
 rows[r]? = some (.ref q)∧gS H q n rw∧jg H lw xs∧xs.length ≤ 100∧(∀ c,cU mt a c→¬ Ai m x c)∧¬ cU mt a lr∧¬ Own m x lr∧¬ cU mt a lw∧¬ Own m x lw ∧
 ∀ (l:Addr) (hs:List Addr) (H':Hp),Keeps (fun c=>cU mt a c∨Own m x c) H H'→TS H' a mt (Bt + 1) { ji rw z.bs t with en:=(aY (cK aB) rw r z).how }→MG C H' x m rows aB (B + 1) (aY (cK aB) rw r z)→H l=none→H' l=some (.lst (hs.map V.ref)) →
  uE H' hs (match (aY (cK aB) rw r z).here with | .int s=>vv xs (GZ rw r s) s | _=>[])→Q (.ref l) H'
theorem KG:aJ ["reading", "rows", "wishes", "machine", "r", "s"] ["reading", "rows", "wishes", "machine"] (ak iz):=⟨rfl,rfl,rfl,by decide +kernel,rfl,by decide +kernel,by decide +kernel⟩
theorem NC {f fT C f0 f1 f2 fs:Addr} {fd CG ND fd1 fd2 fds:FuncData} (F:dJ K "do_row" "do_row" iz f fd) (T:Txt K w.params mg) (TM:kX K mg C)
  (M0:Meth K C "row" f0) (G0:aR P w K mg base bV 1 f0 ND ["self"] (wO C)) (b0:Binds K ND ["self"] [])
  (M1:Meth K C "ending" f1) (G1:aR P w K mg base bV 1 f1 fd1 ["self"] (vn C)) (b1:Binds K fd1 ["self"] [])
  (M2:Meth K C "boxes" f2) (G2:aR P w K mg base bV 1 f2 fd2 ["self"] (tj C)) (b2:Binds K fd2 ["self"] [])
  (Ms:Meth K C "step" fs) (Gs:aR P w K mg base bV 3 fs fds ["self"] (C9 C)) (bs_:Binds K fds ["self"] [])
  (GT:aR P w K mg base bV 2 fT CG ["rows", "wishes", "r", "s"] Nx) (kT:KI K fT) (bT:Binds K CG ["rows", "wishes", "r", "s"] []) (mT:mg "whats_between" = some (.ref fT)):aR P w K mg base bV 4 f fd ["reading", "rows", "wishes", "machine"] (NB C):=by
 refine F.ok KG (fun vs H Q E h=>?_) (fun cdv A outer s H vs Q E hr h=>?_)
 ·obtain ⟨a,lr,lw,x,q,mt,Bt,t,m,rows,aB,B,z,r,n,rw,xs,rfl,_⟩:=h
  rfl
 ·obtain ⟨a,lr,lw,x,q,mt,Bt,t,m,rows,aB,B,z,r,n,rw,xs,rfl,IC,hBt,hlr,M,hB,hh,hn,hrow,hR,hW,h100,dj,t1,o1,t2,o2,k⟩:=h
  have hu:=cC hr
  have hr1:=hr.mono (show 1 ≤ 3 by decide)
  have hr2:=hr.mono (show 2 ≤ 3 by decide)
  have MT:=IC.more (le_succ Bt) (by omega)
  obtain ⟨w0,ho,hw⟩:=M.obj
  obtain ⟨wt,hot,vw⟩:=MT.st
  obtain ⟨ps,ps1,ps2⟩:=MT.seen
  obtain ⟨items,HQ⟩:=lO hR
  have lm:=IC.lens
  refine ⟨_,(aA (aV (i:=4) KG.nd rfl (Or.inl rfl) (gP (pv 3) TM.cl M0 G0 hr1 b0 .nil bp))
   (kh (bU (aF bQ (au az (au aK (pv 1) (pv 4) (fun _ _=>rfl)) ai (fun _ _=>rfl)) aq (aO _)) (aw (bJ (gn PySem.F.plainAttrs_list PySem.F.slot_list_append PySem.F.type_list_append cr (bj hu (pv 0) aq (fun _ _=>rfl)) (ae (aX (ae (au az (au aK (pv 1) (pv 4) (fun _ _=>rfl)) ai (fun _ _=>rfl)) (ae (au aK (gP (pv 3) TM.cl M2 G2 hr1 b2 .nil bp) (au az (au aK (pv 1) (pv 4) (fun _ _=>rfl)) ai (fun _ _=>rfl)) (fun _ _=>rfl)) ao))) ao)))) aM)
   (aA (bJ (gP (pv 3) TM.cl Ms Gs hr bs_ .nil bp))
   (aA (dh hu (pv 0) aq (gP (pv 3) TM.cl M1 G1 hr1 b1 .nil bp) rfl)
   (aA (aV (i:=5) KG.nd rfl (Or.inl rfl) (gP (pv 3) TM.cl M0 G0 hr1 b0 .nil bp))
   (aw (aU (uL (aF lC (pv 5) ef (aO _)) (cu ao) (aQ GT hr2 (by rfl) mT kT bT .nil bp (ae (pv 1) (ae (pv 2) (ae (pv 4) (ae (pv 5) ao))))))))))))),?_⟩
  refine ⟨_,rfl,x,m.dx,_,rfl,ho,wL wW,x,z,B,rfl,⟨m,rows,aB,M⟩,?_⟩
  refine ⟨fun σ G=>σ=[some (.ref a),some (.ref lr),some (.ref lw),some (.ref x),some z.here,none]∧Keeps (cU mt a) H G∧TS G a mt (Bt + 1) (ji rw z.bs t),?_,?_⟩
  ·refine ⟨_,rfl,_,rfl,lr,_,_,.ref q,rfl,hh,bh.of hlr,ck (j:=r) hrow,q,_,_,.str rw.word,rfl,rfl,aS.of HQ,at0 _ _,rfl,_,rfl,?_⟩
   refine dk (fun c=>?_) (fun c=>?_)
   ·have c:rw.word = "see" := strEq c
    obtain ⟨b,v,rfl⟩:∃ b v,rw=.two "see" b v:=by
     cases rw with
     | two u b v=>exact ⟨b,v,by rw [show u = "see" from c]⟩
     | stop=>exact absurd c (by decide +kernel)
     | back=>exact absurd c (by decide +kernel)
     | halt v=>exact absurd c (show ¬ ("halt" : Str) = "see" by decide +kernel)
     | tell v=>exact absurd c (show ¬ ("tell" : Str) = "see" by decide +kernel)
     | table b ts=>exact absurd c (show ¬ ("table" : Str) = "see" by decide +kernel)
     | eA u t f=>exact absurd c ((by decide +kernel:∀ u ∈ My.eA,¬ u = "see") u hR.2.1)
     | zb u b t f=>exact absurd c ((by decide +kernel:∀ u ∈ My.zb,¬ u = "see") u hR.2.1)
    obtain ⟨Kv,_,hb,_⟩:=hR
    refine ⟨_,rfl,a,_,rfl,dw hot tK,.inl ⟨rfl,_,bh.of ps1⟩,_,rfl,_,rfl,lr,_,_,.ref q,rfl,hh,bh.of hlr,ck (j:=r) hrow,q,_,_,.int v,rfl,rfl,aS.of Kv,at2 _ _ _ _,?_⟩
    refine ⟨_,rfl,x,m.dx,_,rfl,ho,wL vt,x,z,B,rfl,⟨m,rows,aB,M⟩,fun lb nb=>?_⟩
    have sb:=aj (o:=.lst (z.bs.map V.int)) nb
    refine ⟨_,rfl,_,rfl,lr,_,_,.ref q,rfl,hh,bh.of (sb _ _ hlr),ck (j:=r) hrow,q,_,_,.int b,rfl,rfl,aS.of (sb _ _ Kv),at1 _ _ _,lb,_,_,_,rfl,rfl,bh.of ah,rD M.b8 hb,cT,fun t3 n3=>⟨mt.s,_,_,rfl,rfl,ez n3 (sb _ _ ps1),bw (by rw [length_map,ps2.1]; omega),?_⟩⟩
    have sN:=sb.trans (aj (o:=.tup [V.int v,V.int (qt z.bs b)]) n3)
    rw [show ps.map V.ref ++ [V.ref t3]=(ps ++ [t3]).map V.ref by simp]
    refine ⟨rfl,(Keeps.same sN).upd (sN _ _ ps1) (by intro _ z; cases z) (.inr (.inl rfl)),?_⟩
    rw [show ji (.two "see" b v) z.bs t={ t with sn:=t.sn ++ [(v,qt z.bs b)] } by simp only [ji,if_true]]
    exact (MT.same sN).qY ((ps2.tups (.of sN)).snoc (p:=(v,qt z.bs b)) ah) (by simp; omega)
   ·have e:ji rw z.bs t=t:=by
     cases rw with
     | two u b v=>exact if_neg (fun e=>c (decide_eq_true (congrArg V.str e)))
     | _=>rfl
    rw [e]
    exact ⟨rfl,Keeps.refl,MT⟩
  rintro σ G ⟨rfl,k1,zk⟩
  have M1:=M.keeps k1 (fun c hc ht=>dj c ht hc)
  obtain ⟨w1,ho1,hw1⟩:=M1.obj
  refine ⟨_,rfl,x,m.dx,_,rfl,ho1,wL GX,x,q,m,rows,aB,B,z,r,n,rw,rfl,M1,hB,hh,hrow,hR.tups k1.tups,fun G2 fr M2=>?_⟩
  have k2:=M1.fr fr
  have Al:=zk.keeps k2 (fun c hc hm=>dj c hc (.inl hm))
  obtain ⟨w2,ho2,hw2⟩:=M2.obj
  obtain ⟨wt2,wX,NF⟩:=Al.st
  refine ⟨_,rfl,x,m.dx,_,rfl,ho2,wL Ak,x,_,B + 1,rfl,⟨m,rows,aB,M2⟩,fun v hv=>⟨_,rfl,a,_,rfl,ic.k (k:=Sum.inr "ending") wX zj,?_⟩⟩
  rw [tL]
  have uF:=Al.put hv
  have k3:Keeps (cU mt a) G2 (upd G2 a (.dK (td mt v))):=Keeps.refl.upd wX (by intro _ z; cases z) (.inl rfl)
  generalize upd G2 a (.dK (td mt v))=G3 at uF k3 ⊢
  have M3:=M2.keeps k3 (fun c hc ht=>dj c ht hc)
  obtain ⟨w3,QD,hw3⟩:=M3.obj
  have kA:Keeps (fun c=>cU mt a c∨Own m x c) H G3:=(k1.more fun _=>.inl).trans ((k2.more fun _=>.inr).trans (k3.more fun _=>.inl))
  refine ⟨_,rfl,x,m.dx,_,rfl,QD,wL wW,x,_,B + 1,rfl,⟨m,rows,aB,M3⟩,?_⟩
  have fresh:∀ l,G3 l=none→H l=none:=fun l hl=>by
   cases e:H l with
   | none=>rfl
   | some o =>
    by_cases c:cU mt a l∨Own m x l
    ·rcases c with c | c
     ·have:∃ o,G3 l=some o:=by
       obtain ⟨wz,oz,_⟩:=uF.st
       obtain ⟨pz,sz,_⟩:=uF.seen
       obtain ⟨dz,cz,_⟩:=uF.cnt
       rcases c with rfl | rfl | rfl | rfl
       ·exact ⟨_,oz⟩
       ·exact ⟨_,sz⟩
       ·exact ⟨_,cz⟩
       ·exact ⟨_,uF.rws⟩
      obtain ⟨o',e'⟩:=this
      rw [hl] at e'
      cases e'
     ·obtain ⟨o',e'⟩:=M3.mn l (.inl c)
      rw [hl] at e'
      cases e'
    ·have:=kA l o e (.inl c)
     rw [hl] at this
     cases this
  have Sd:=kA _ _ hlr (.inl (fun z=>z.elim t1 o1))
  have hW3:=hW.keeps kA (fun z=>z.elim t2 o2)
  have kk:=fun l hs H'=>k l hs H'
  rcases Ds (ring:=cK aB) (r:=rw) (h:=r) (z:=z) hn with ⟨e,_⟩ | ⟨⟨s',e⟩,_⟩
  ·refine ⟨_,rfl,?_⟩
   rw [e] at kk ⊢
   refine ⟨rfl,_,rfl,cy (by decide) ?_⟩
   refine ⟨lL,fun l nl=>?_⟩
   have s4:=aj (o:=.lst []) nl
   exact kk l [] _ (kA.trans (.same s4)) (uF.same s4) (M3.same s4) (fresh l nl) ah ⟨rfl,fun i h x e=>by simp at e⟩
  ·refine ⟨_,rfl,?_⟩
   rw [e] at kk ⊢
   refine ⟨rfl,_,rfl,aW (fun z=>by cases of_decide_eq_true z) ?_⟩
   refine ⟨_,rfl,_,rfl,_,rfl,_,rfl,lr,lw,q,rows,xs,r,s',n,rw,?_,Sd,hrow,hR.tups kA.tups,hW3,h100,fun l hs H' s4 nl hl hw=>?_⟩
   ·rw [hh]; rfl
   ·exact kk l hs H' (kA.trans (.same s4)) (uF.same s4) (M3.same s4) (fresh l nl) hl hw
end
def tM (xs:List Wi) (b:V) (s:Int):List Wi:=(match b with | .int l=>xs.filter (o9 l s) | _=>[]) ++ xs.filter (iY s)
def come (bs:List Int) (ws:List Wi) (s:Int) (t:Tl):Tl:=if (cg bs t ws).en=none then { cg bs t ws with rows:=(cg bs t ws).rows ++ [s] } else cg bs t ws
def KH (b:V) (s:Int) (x:Wi):Bool:=match b with
 | .int l=>o9 l s x
 | _=>false
theorem wY {xs:List Wi} {b:V} {s:Int}:xs.filter (KH b s) ++ xs.filter (iY s)=tM xs b s:=by
 cases b with
 | int l=>rfl
 | _ =>
  show xs.filter (fun _=>false) ++ _=[] ++ _
  simp
section
variable {P:Program} {w:World} {K:Frag} {mg:Str→Option Value} {base:Heap}
def Dt:Sp:=fun vs H Q _=>∃ (lw a at_:Addr) (b:V) (ml:LA) (B:Nat) (z:Zt) (s:Int) (mt:TA) (Bt:Nat) (t:Tl) (xs:List Wi),vs=[.ref lw,b,.ref a,.ref at_]∧LS H a ml B z∧z.how=none∧z.here=.int s∧TS H at_ mt Bt t∧t.en=none∧jg H lw xs∧xs.length ≤ 100∧(∀ x ∈ xs,pe t.ks x)∧(∀ c,cU mt at_ c→¬ iR ml a c)∧(b=.non∨∃ l,b=.int l)∧Bt + (tM xs b s).length + 1 ≤ 900 ∧
 ∀ H',Keeps (cU mt at_) H H'→TS H' at_ mt (Bt + (tM xs b s).length + 1) (come z.bs (tM xs b s) s t)→Q .non H'
theorem Ha:aJ ["_law_wishes", "_law_begin", "_law_state", "_law_tale", "_law_here", "_law_some", "_law_what"] ["_law_wishes", "_law_begin", "_law_state", "_law_tale"] (ak dS):=⟨rfl,rfl,rfl,by decide +kernel,rfl,by decide +kernel,by decide +kernel⟩
def KJ:Scope:={ kind:=.function,names:=[(".0",.local),("_law_place",.local),("_law_what",.local),("_law_begin",.free),("_law_here",.free)],isGenerator:=false,isCoroutine:=false,more:=[] }
theorem Du:er (ak dS) KJ ["_law_wishes", "_law_begin", "_law_state", "_law_tale", "_law_here", "_law_some", "_law_what"] ["_law_place", "_law_what", "_law_begin", "_law_here"] [none,none,some 1,some 4]:=⟨rfl,by decide +kernel,by decide +kernel,by decide +kernel,by decide +kernel,by decide +kernel⟩
def KL:Scope:={ kind:=.function,names:=[(".0",.local),("_law_place",.local),("_law_what",.local),("_law_here",.free)],isGenerator:=false,isCoroutine:=false,more:=[] }
theorem Dv:er (ak dS) KL ["_law_wishes", "_law_begin", "_law_state", "_law_tale", "_law_here", "_law_some", "_law_what"] ["_law_place", "_law_what", "_law_here"] [none,none,some 4]:=⟨rfl,by decide +kernel,by decide +kernel,by decide +kernel,by decide +kernel,by decide +kernel⟩
theorem Hb {f:Addr} {fd:FuncData} (F:dJ K "_law_come" "_law_come" dS f fd) (T:Txt K w.params mg):aR P w K mg base bV 1 f fd ["_law_wishes", "_law_begin", "_law_state", "_law_tale"] Dt:=by
 refine F.ok Ha (fun vs H Q E h=>?_) (fun cdv A outer s H vs Q E hr h=>?_)
 ·obtain ⟨lw,a,at_,b,ml,B,z,s,mt,Bt,t,xs,rfl,_⟩:=h
  rfl
 ·obtain ⟨lw,a,at_,b,ml,B,z,s',mt,Bt,t,xs,rfl,ML0,hn,hz,IC,ht,hW,h100,hg,dj,hb,hBt,k⟩:=h
  have hu:=cC hr
  have Iw:=lt_of_le_of_lt (Nat.add_le_add_left (by decide:6 ≤ 64) _) hr.units
  obtain ⟨h0,w0,ho,hw,hq0⟩:=ML0.st
  have hq0:=(hq0 hn).trans hz
  subst hq0
  refine ⟨_,(aA (aV (i:=4) Ha.nd rfl (Or.inr rfl) (bj hu (pv 2) aq (fun _ _=>rfl)))
   (aA (rZ (i:=5) (N':=["_law_place", "_law_what", "_law_begin", "_law_here"]) (fr:=[none,none,some 1,some 4]) Ha.nd rfl rfl Du rfl (dI (pv 0)) (fun C s0 H0 fp=>(ik (K:=K) (i:=0) (j:=1) rfl rfl Du.nd rfl (Or.inl rfl) rfl (Or.inl rfl))) (fun C s0 H0 fp=>(ke (dM (aF ym (pv 2) ef (aO _)) (dD (aF (r:=Fj K) (Cw Iw) (pv 0) (aX (ae (aX (ae aq (ae (pv 2) ao))) (ae (aX (ae aq (ae (pv 2) (ae (pv 3) ao)))) ao))) rfl))).pt)) (fun C s0 H0 fp=>(pv 1)))
   (aA (gM PassesOwn.never rfl (dI (aN wa (pv 5) (gA (N':=["_law_place", "_law_what", "_law_here"]) (fr:=[none,none,some 4]) Dv rfl (dI (pv 0)) (fun C s0 H0 fp=>(ik (K:=K) (i:=0) (j:=1) rfl rfl Dv.nd rfl (Or.inl rfl) rfl (Or.inl rfl))) (fun C s0 H0 fp=>(ke (aF (r:=JV K false) (Cr Iw) (pv 0) (aX (ae aq (ae (pv 2) ao))) (aO _)))) (fun C s0 H0 fp=>(pv 1))))) (cD (i:=6) Ha.nd rfl (Or.inl rfl)) (aw (bU (aF bQ (au az (pv 6) ai (fun _ _=>rfl)) aq (aO _)) (aw (bJ (gn PySem.F.plainAttrs_list PySem.F.slot_list_append PySem.F.type_list_append cr (bj hu (pv 3) aq (fun _ _=>rfl)) (ae (aX (ae (au az (pv 6) ai (fun _ _=>rfl)) (ae (au aK (bj hu (pv 2) aq (fun _ _=>rfl)) (au az (pv 6) ai (fun _ _=>rfl)) (fun _ _=>rfl)) ao))) ao)))) (aw (bU (aF bQ (au az (pv 6) ai (fun _ _=>rfl)) aq (aO _)) (aw (dh hu (bj hu (pv 3) aq (fun _ _=>rfl)) (au az (pv 6) ai (fun _ _=>rfl)) (aN dn (bj hu (bj hu (pv 3) aq (fun _ _=>rfl)) (au az (pv 6) ai (fun _ _=>rfl)) (fun _ _=>rfl)) ai) rfl)) (aw (bU (aF iu (au aK (bj hu (pv 2) aq (fun _ _=>rfl)) (au az (pv 6) ai (fun _ _=>rfl)) (fun _ _=>rfl)) ai (aO _)) (aA (dh hu (pv 3) aq (aX (ae aq (ae (au az (pv 6) ai (fun _ _=>rfl)) ao))) rfl)
   (aw EA)) aM)))))))
   (aw (bJ (gn PySem.F.plainAttrs_list PySem.F.slot_list_append PySem.F.type_list_append cr (bj hu (pv 3) aq (fun _ _=>rfl)) (ae (pv 4) ao))))))),?_⟩
  refine ⟨_,rfl,a,_,rfl,dw ho rm,?_⟩
  obtain ⟨qs,hq,hql,zm⟩:=id hW
  refine ⟨_,rfl,lw,rfl,⟨_,bh.of hq⟩,fun D1 nD1=>nY (K:=K) (σr:=[some b,some (.int s')]) (c:=KH b s') hq hql zm h100 nD1 (fun x p h G Q' _ sG hp fl kk=>?_) (fun hs1 G1 NG hD1 hW1=>?_)⟩
  ·rcases hb with rfl | ⟨l,rfl⟩
   ·exact ⟨_,rfl,rfl,_,rfl,aW (by decide) (kk G (Same.refl _))⟩
   ·refine ⟨_,rfl,rfl,_,rfl,cy rfl ?_⟩
    refine ⟨_,rfl,_,rfl,cT,fun t1 n1=>⟨_,rfl,_,rfl,jX,fun t2 n2=>⟨cT,fun t3 n3=>?_⟩⟩⟩
    have s1:=aj (o:=.tup [V.str "after",V.int l]) n1
    have s2:=aj (o:=.tup [V.str "way",V.int l,V.int s']) n2
    have s3:=aj (o:=.tup [V.ref t1,V.ref t2]) n3
    exact Dr fl ((s1.trans (s2.trans s3)) _ _ hp) ((s2.trans s3) _ _ ah) (s3 _ _ ah) ah ⟨_,rfl,kk _ (s1.trans (s2.trans s3))⟩
  refine ⟨_,rfl,_,rfl,lw,rfl,⟨_,bh.of (NG _ _ hq)⟩,fun D2 QE=>nY (K:=K) (σr:=[some (.int s')]) (c:=iY s') (NG _ _ hq) hql (fun i q x h1 h2=>(zm i q x h1 h2).tups (.of NG)) h100 QE (fun x p h G Q' _ sG hp fl kk=>?_) (fun hs2 G2 QF hD2 hW2=>?_)⟩
  ·refine ⟨_,rfl,_,rfl,cT,fun t nt=>?_⟩
   have s2:=aj (o:=.tup [V.str "before",V.int s']) nt
   refine ⟨1,p,t,.tup x.p,.tup (oX s'),rfl,rfl,(oY fl (s2 _ _ hp)).da K,(oY (o8 s') ah).da K,oZ fl,oZ (o8 s'),by decide,_,rfl,?_⟩
   rw [show (false ^^ decide (Da.tup x.p=Da.tup (oX s')))=iY s' x by rw [Bool.false_xor]; exact decide_eq_decide.mpr ⟨fun e=>Da.tup.inj e,fun e=>congrArg _ e⟩]
   exact kk _ s2
  have IE:=(hW1.tups (.of QF)).app hW2
  rw [wY] at IE
  have gW:∀ x ∈ tM xs b s',pe t.ks x:=fun x hx=>by
   rw [← wY] at hx
   rcases mem_append.mp hx with hx | hx
   ·exact hg x (mem_filter.mp hx).1
   ·exact hg x (mem_filter.mp hx).1
  generalize tM xs b s'=ws at IE gW hBt k
  have KN:(hs1 ++ hs2).length=ws.length:=IE.1
  refine ⟨D1,D2,_,_,rfl,rfl,QF _ _ hD1,hD2,?_,fun l3 n3=>?_⟩
  ·rw [length_map,length_map,← length_append,KN]
   exact le_trans (show _ ≤ 900 by omega) (by decide)
  rw [← map_append]
  have s3:=aj (o:=.lst ((hs1 ++ hs2).map V.ref)) n3
  have h3:upd G2 l3 (.lst ((hs1 ++ hs2).map V.ref)) l3=_:=ah
  have sA:=NG.trans (QF.trans s3)
  have hl3:H l3=none:=(NG.trans QF).free n3
  have IE:=IE.tups (.of s3)
  generalize upd G2 l3 (.lst ((hs1 ++ hs2).map V.ref))=H3 at s3 h3 sA IE ⊢
  generalize hs1 ++ hs2=hs at IE h3 KN
  have Se:=ML0.same sA
  have zk:=IC.same sA
  have n3t:¬ cU mt at_ l3:=fun c=>by
   obtain ⟨wz,oz,_⟩:=IC.st
   obtain ⟨pz,sz,_⟩:=IC.seen
   obtain ⟨dz,cz,_⟩:=IC.cnt
   rcases c with rfl | rfl | rfl | rfl
   ·rw [hl3] at oz; cases oz
   ·rw [hl3] at sz; cases sz
   ·rw [hl3] at cz; cases cz
   ·have:=IC.rws
    rw [hl3] at this; cases this
  refine ⟨l3,rfl,⟨_,bh.of h3⟩,i5 (K:=K) (a:=l3) (xs:=hs.map V.ref) (fun j σ G=>∃ v:Option V,σ=[some (.ref lw),some b,some (.ref a),some (.ref at_),some (.int s'),some (.ref D1),v]∧Keeps (cU mt at_) H3 G∧TS G at_ mt (Bt + j) (cg z.bs t (ws.take j))∧(cg z.bs t (ws.take j)).en=none) ?_ ?_ ?_ ?_⟩
  ·exact ⟨none,rfl,Keeps.refl,zk,ht⟩
  ·rintro j σ G _ ⟨v,rfl,kp,_⟩
   exact bh.of (kp _ _ h3 (.inl n3t))
  ·rintro j x σ G hx ⟨v,rfl,kp,MT,he⟩
   rw [List.getElem?_map] at hx
   obtain ⟨q,hq,rfl⟩:=map_eq_some_iff.mp hx
   have hjl:j < ws.length:=by have:=(List.getElem?_eq_some_iff.mp hq).1; omega
   have hx:ws[j]? = some ws[j]:=List.getElem?_eq_getElem hjl
   have hh:=kp.tups _ _ (IE.2 j q _ hq hx)
   have gx:=gW _ (List.getElem_mem hjl)
   generalize ws[j]=x at hx hh gx
   have tk:ws.take (j + 1)=ws.take j ++ [x]:=by rw [take_add_one,hx]; rfl
   have tk2:ws=ws.take (j + 1) ++ ws.drop (j + 1):=(List.take_append_drop _ _).symm
   have eS:cg z.bs t (ws.take (j + 1))=iS z.bs (cg z.bs t (ws.take j)) x:=by rw [tk,jE]; exact if_pos he
   have eK:=gi (bs:=z.bs) (a:=ws.take j) (t:=t)
   generalize cg z.bs t (ws.take j)=u at MT he eS eK
   have ML:=Se.keeps kp (fun c hc ht=>dj c ht hc)
   obtain ⟨hl_,wl,hol,_⟩:=ML.st
   have M:=MT.more (le_succ (Bt + j)) (by omega)
   obtain ⟨wt,hot,vw⟩:=M.st
   obtain ⟨ps,s1,s2⟩:=M.seen
   obtain ⟨d,c1,c2,c3⟩:=M.cnt
   obtain ⟨xp,xu,xn,xb⟩:=x
   obtain ⟨gu,gb,gk⟩:=gx
   have lm:=MT.lens
   rcases gu with rfl | rfl | rfl
   ·have hh:G q=some (.tup [.str "look",.int xn,.int xb]):=hh
    rw [show iS z.bs u ⟨xp, "look",xn,xb⟩={ u with sn:=u.sn ++ [(xn,qt z.bs xb)] } from if_pos rfl] at eS
    refine ⟨_,rfl,q,_,_,_,rfl,rfl,aS.of hh,at0 _ _,rfl,_,rfl,cy (by decide +kernel) ?_⟩
    refine ⟨_,rfl,at_,_,rfl,dw hot tK,.inl ⟨rfl,_,bh.of s1⟩,_,rfl,q,_,_,.int xn,rfl,rfl,aS.of hh,at1 _ _ _,_,rfl,a,_,rfl,dw hol vp,_,rfl,q,_,_,.int xb,rfl,rfl,aS.of hh,at2 _ _ _ _,ml.p1,_,_,_,rfl,rfl,bh.of ML.box,rD ML.b8 gb,cT,fun t1 n1=>⟨mt.s,_,_,rfl,rfl,ez n1 s1,bw (by rw [length_map,s2.1]; omega),?_⟩⟩
    have sN:=aj (o:=.tup [V.int xn,V.int (qt z.bs xb)]) n1
    rw [show ps.map V.ref ++ [V.ref t1]=(ps ++ [t1]).map V.ref by simp]
    refine ⟨_,rfl,kp.trans ((Keeps.same sN).upd (sN _ _ s1) (by intro _ z; cases z) (.inr (.inl rfl))),?_,by rw [eS]; exact he⟩
    rw [eS]
    exact (M.same sN).qY ((s2.tups (.of sN)).snoc (p:=(xn,qt z.bs xb)) ah) (by simp; omega)
   ·have hh:G q=some (.tup [.str "count",.int xn]):=hh
    rw [show iS z.bs u ⟨xp, "count",xn,xb⟩={ u with cf:=iX u.cf xn (u.cf xn + 1) } from (if_neg (show ¬ ("count" : Str) = "look" by decide +kernel)).trans (if_pos rfl)] at eS
    have gk':xn ∈ u.ks:=by rw [eK.1]; exact gk rfl
    have kn:cw d (Sum.inl xn:Key)=some (.int (u.cf xn)):=by rw [c2.val,if_pos gk']
    refine ⟨_,rfl,q,_,_,_,rfl,rfl,aS.of hh,at0 _ _,rfl,_,rfl,aW (by decide +kernel) ?_⟩
    refine ⟨_,rfl,q,_,_,_,rfl,rfl,aS.of hh,at0 _ _,rfl,_,rfl,cy (by decide +kernel) ?_⟩
    refine ⟨_,rfl,at_,_,rfl,dw hot vq,_,rfl,q,_,_,.int xn,rfl,rfl,aS.of hh,at1 _ _ _,mt.c,_,rfl,kn ▸ iL.k (k:=Sum.inl xn) c1,_,_,rfl,rfl,_,rfl,at_,_,rfl,dw hot vq,_,rfl,q,_,_,.int xn,rfl,rfl,aS.of hh,at1 _ _ _,mt.c,_,rfl,ic.k (k:=Sum.inl xn) c1 (bw (by omega)),?_⟩
    refine ⟨_,rfl,kp.trans (Keeps.refl.upd c1 (by intro _ z; cases z) (.inr (.inr (.inl rfl)))),?_,by rw [eS]; exact he⟩
    rw [eS]
    refine M.KC (c2.put xn _ fun i=>⟨.inr,fun z=>z.elim (fun e=>e ▸ gk') id⟩) ?_
    have hs:(cw d (Sum.inl xn:Key)).isSome=true:=by rw [kn]; rfl
    unfold putK
    rw [dQ,if_pos hs,length_map]
    exact c3
   ·have hh:G q=some (.tup [.str "guard",.int xn,.int xb]):=hh
    rw [show iS z.bs u ⟨xp, "guard",xn,xb⟩=if qt z.bs xb < 0 then { u with en:=some [.str "halt",.int xn] } else u from (if_neg (show ¬ ("guard" : Str) = "look" by decide +kernel)).trans (if_neg (show ¬ ("guard" : Str) = "count" by decide +kernel))] at eS
    refine ⟨_,rfl,q,_,_,_,rfl,rfl,aS.of hh,at0 _ _,rfl,_,rfl,aW (by decide +kernel) ?_⟩
    refine ⟨_,rfl,q,_,_,_,rfl,rfl,aS.of hh,at0 _ _,rfl,_,rfl,aW (by decide +kernel) ?_⟩
    refine ⟨_,rfl,a,_,rfl,dw hol vp,_,rfl,q,_,_,.int xb,rfl,rfl,aS.of hh,at2 _ _ _ _,ml.p1,_,_,_,rfl,rfl,bh.of ML.box,rD ML.b8 gb,_,_,rfl,rfl,_,rfl,?_⟩
    refine dk (fun c=>?_) (fun c=>?_)
    ·have c:qt z.bs xb < 0:=of_decide_eq_true c
     rw [if_pos c] at eS
     refine ⟨_,rfl,q,_,_,.int xn,rfl,rfl,aS.of hh,at1 _ _ _,cT,fun t1 n1=>⟨_,rfl,at_,_,rfl,ic.k (k:=Sum.inr "ending") (ez n1 hot) zj,?_⟩⟩
     rw [tL]
     have sN:=aj (o:=.tup [V.str "halt",V.int xn]) n1
     have MZ:=(M.same sN).put (w':=.ref t1) (en':=some [.str "halt",.int xn]) ⟨t1,rfl,ah⟩
     rw [← eS] at MZ
     have en1:¬ (cg z.bs t (ws.take (j + 1))).en=none:=by rw [eS]; intro z; cases z
     have e1:cg z.bs t ws=cg z.bs t (ws.take (j + 1)):=by
      rw [tk2,jE,← tk2]
      exact rE _ _ _ en1
     have e2:come z.bs ws s' t=cg z.bs t (ws.take (j + 1)):=by
      unfold come
      rw [e1,if_neg en1]
     exact k _ ((Keeps.same sA).trans (kp.trans ((Keeps.same sN).upd (ez n1 hot) (by intro _ z; cases z) (.inl rfl)))) (e2 ▸ MZ.more (by omega) (by omega))
    ·rw [if_neg (fun z=>c (decide_eq_true z))] at eS
     exact ⟨_,rfl,kp,eS ▸ M,by rw [eS]; exact he⟩
  ·rintro σ G ⟨v,rfl,kp,MT,he⟩
   rw [length_map,KN,take_length] at MT he
   have e2:come z.bs ws s' t={ cg z.bs t ws with rows:=(cg z.bs t ws).rows ++ [s'] }:=by unfold come; rw [if_pos he]
   obtain ⟨wt,hot,vw⟩:=MT.st
   have lm:=MT.lens
   refine ⟨_,rfl,at_,_,rfl,dw hot pd,.inl ⟨rfl,_,bh.of MT.rws⟩,_,rfl,mt.r,_,_,rfl,rfl,MT.rws,bw (by rw [length_map]; omega),?_⟩
   rw [show (cg z.bs t ws).rows.map V.int ++ [V.int s']=((cg z.bs t ws).rows ++ [s']).map V.int by simp]
   refine k _ ((Keeps.same sA).trans (kp.upd MT.rws (by intro _ z; cases z) (.inr (.inr (.inr rfl))))) ?_
   rw [e2]
   exact (MT.more (le_succ _) (by omega)).IA (by simp; omega)
end
def mr (H:Hp) (lr:Addr) (rws:List Rw):Prop:=∃ qs:List Addr,H lr=some (.lst (qs.map V.ref))∧qs.length=rws.length∧∀ (i:Nat) q rw,qs[i]? = some q→rws[i]? = some rw→gS H q (rws.length:Nat) rw
theorem mr.keeps {R:Addr→Prop} {H H':Hp} {lr:Addr} {rws:List Rw} (h:mr H lr rws) (k:Keeps R H H') (n:¬ R lr):mr H' lr rws:=by
 obtain ⟨qs,a,b,c⟩:=h
 exact ⟨qs,k _ _ a (.inl n),b,fun i q x h1 h2=>(c i q x h1 h2).tups k.tups⟩
theorem mr.same {H H':Hp} {lr:Addr} {rws:List Rw} (h:mr H lr rws) (s:Same H H'):mr H' lr rws:=h.keeps (R:=fun _=>False) (.same s) id
def dB (z:Zt):Int:=match z.here with
 | .int i=>i
 | _=>0
def qu (rws:List Rw) (z:Zt):Rw:=rws.getD (dB z).toNat .stop
def gU (ring:Int→Bool) (rws:List Rw) (z:Zt):Zt:=aY ring (qu rws z) (dB z) z
def nextT (ring:Int→Bool) (rws:List Rw) (z:Zt) (t:Tl):Tl:={ ji (qu rws z) z.bs t with en:=(gU ring rws z).how }
def mw (ring:Int→Bool) (rws:List Rw) (xs:List Wi) (z:Zt):List Wi:=vv xs (GZ (qu rws z) (dB z) (dB (gU ring rws z))) (dB (gU ring rws z))
def mU (ring:Int→Bool) (rws:List Rw) (xs:List Wi):Nat→Zt→Tl→List Wi→Tl
 | 0,_,t,_=>t
 | n + 1,z,t,ws=>if (come z.bs ws (dB z) t).en=none∧n ≠ 0 then (if (gU ring rws z).how=none then mU ring rws xs n (gU ring rws z) (nextT ring rws z (come z.bs ws (dB z) t)) (mw ring rws xs z) else nextT ring rws z (come z.bs ws (dB z) t)) else come z.bs ws (dB z) t
def IG (ring:Int→Bool) (rws:List Rw) (xs:List Wi) (n:Nat) (z:Zt) (t:Tl):Tl :=
 if t.en=none∧n ≠ 0 then (if (gU ring rws z).how=none then mU ring rws xs n (gU ring rws z) (nextT ring rws z t) (mw ring rws xs z) else nextT ring rws z t) else t
theorem ph {ring:Int→Bool} {rws:List Rw} {xs:List Wi} {n:Nat} {z:Zt} {t:Tl} {ws:List Wi}:mU ring rws xs (n + 1) z t ws=IG ring rws xs n z (come z.bs ws (dB z) t):=rfl
def lQ (xs:List Wi):List Int:=(xs.filter fun x=>decide (x.u=("count" : Str))).map (·.n)
def Bl (xs:List Wi):Tl:=⟨[],lQ xs,fun _=>0,[],none⟩
theorem CR.len {d:List (Key × V)} {ks:List Int} {f:Int→Int} (r:CR d ks f):d.length ≤ ks.length:=by
 obtain ⟨⟨kvs,rfl,hn⟩,hv⟩:=r
 have e:(iD kvs).length=(kvs.map (·.1)).length:=by unfold iD; rw [length_map,length_map]
 rw [e]
 refine sv _ _ hn fun x hx=>?_
 obtain ⟨p,hp,rfl⟩:=mem_map.mp hx
 have h1:=wD hn (show (p.1,p.2) ∈ kvs from hp)
 have h2:=hv p.1
 rw [h1] at h2
 by_cases c:p.1 ∈ ks
 ·exact c
 ·rw [if_neg c] at h2
  cases h2
theorem IH (j:Int):iX (fun _=>0) j 0=fun _=>0:=by
 funext i
 unfold iX
 split <;> rfl
theorem rG {bs:List Int} {ws:List Wi} {s:Int} {t:Tl} (h:(come bs ws s t).en=none):(come bs ws s t).rows=t.rows ++ [s]:=by
 unfold come at h ⊢
 by_cases c:(cg bs t ws).en=none
 ·rw [if_pos c]
  show (cg bs t ws).rows ++ [s]=_
  rw [gi.2]
 ·rw [if_neg c] at h
  exact absurd h c
theorem zp {bs:List Int} {ws:List Wi} {s:Int} {t:Tl}:(come bs ws s t).ks=t.ks:=by
 unfold come
 split
 ·exact gi.1
 ·exact gi.1
theorem nZ {r:Rw} {bs:List Int} {t:Tl}:(ji r bs t).ks=t.ks∧(ji r bs t).rows=t.rows:=by
 cases r with
 | two u b v =>
  simp only [ji]
  split
  ·exact ⟨rfl,rfl⟩
  ·exact ⟨rfl,rfl⟩
 | _=>exact ⟨rfl,rfl⟩
theorem zq {xs:List Wi} {b:V} {s:Int}:(tM xs b s).length ≤ 2 * xs.length:=by
 rw [← wY,length_append]
 have h1:=length_filter_le (KH b s) xs
 have h2:=length_filter_le (iY s) xs
 omega
theorem Dw {ring:Int→Bool} {rws:List Rw} {xs:List Wi} {z:Zt} {s:Int} (hn:(gU ring rws z).how=none) (hs:(gU ring rws z).here=.int s):tM xs (oW (qu rws z) (dB z) (gU ring rws z)) s=mw ring rws xs z:=by
 have e:dB (gU ring rws z)=s:=by unfold dB; rw [hs]
 unfold mw oW
 rw [e,hn,hs]
 unfold GZ
 by_cases c:(qu rws z).word = "back"
 ·simp only [if_pos c]
  rfl
 ·simp only [if_neg c]
  rfl
def Up (rws:List Rw) (z:Zt):Prop:=z.how=none∧∃ r:Nat,z.here=.int r∧r < rws.length
def KO (ring:Int→Bool) (rws:List Rw) (xs:List Wi) (most:Nat) (F:Tl) (H:Hp) (a:Addr) (ml:LA) (at_:Addr) (mt:TA) (i:Nat) (G:Hp):Prop:=∃ (z:Zt) (t:Tl),i ≤ most∧Keeps (fun c=>cU mt at_ c∨iR ml a c) H G∧LS G a ml (50 + 2 * i) z∧TS G at_ mt (26 * i) t∧t.ks=lQ xs∧(t.en=none→t.rows.length=i∧Up rws z∧iQ rws.length z)∧F=IG ring rws xs (most - i) z t
theorem Keeps.Dx {R:Addr→Prop} {H H':Hp} (k:Keeps R H H') (n:∀ c,R c→H c=none):Same H H':=fun c o e=>k c o e (.inl fun r=>by rw [n c r] at e; cases e)
theorem Am {σ:St} {H1:Hp} {Q:V→Hp→Prop} (k:∀ (at_:Addr) (mt:TA) (H2:Hp),Same H1 H2→(∀ c,cU mt at_ c→H1 c=none)→TS H2 at_ mt 0 ⟨[],[],fun _=>0,[],none⟩→Q (.ref at_) H2) :
  yu [(tC (.str "seen"),uN qc),(tC (.str "counts"),BR),(tC (.str "rows"),uN qc),(tC (.str "ending"),tC .non)] σ H1 Q:=by
 refine fun at_ na=>?_
 refine ⟨lL,fun l1 n1=>?_⟩
 refine fun l2 n2=>?_
 refine ⟨lL,fun l3 n3=>?_⟩
 have q0:=aj (o:=.dK []) na
 have q1:=aj (o:=.lst []) n1
 have q2:=aj (o:=.dK []) n2
 have q3:=aj (o:=.lst []) n3
 refine ⟨(q1.trans (q2.trans q3)) at_ _ ah,gm jh [.ref l1,.ref l2,.ref l3,.non],rfl,(show 4 ≤ 15 by decide),?_⟩
 have e4:jh.length ≤ ([.ref l1,.ref l2,.ref l3,.non]:List V).length:=le_refl 4
 rw [lP gT e4]
 have f1:=(q2.trans q3) l1 _ ah
 have f2:=q3 l2 _ ah
 have d1:l1 ≠ at_:=(ay ah n1).symm
 have d2:l2 ≠ at_:=(ay (q1 _ _ ah) n2).symm
 have d3:l3 ≠ at_:=(ay ((q1.trans q2) _ _ ah) n3).symm
 have qA:=q0.trans (q1.trans (q2.trans q3))
 refine k at_ ⟨l1,l2,l3⟩ _ (fun c o e=>?_) ?_ ⟨⟨.non,ah,rfl⟩,⟨[],?_,rfl,fun i p c e=>by simp at e⟩,⟨[],?_,CR.nil,zero_le _⟩,?_,ay (q2 _ _ ah) n3,d2.symm,⟨le_refl _,le_refl _⟩,by decide⟩
 ·rw [aL (ay e na)]
  exact qA _ _ e
 ·rintro c (rfl | rfl | rfl | rfl)
  ·exact na
  ·exact q0.free n1
  ·exact (q0.trans q1).free n2
  ·exact (q0.trans (q1.trans q2)).free n3
 ·rw [aL d1]
  exact f1
 ·rw [aL d2]
  exact f2
 ·rw [aL d3]
  exact ah
section
variable {P:Program} {w:World} {K:Frag} {mg:Str→Option Value} {base:Heap}
def II:Sp:=fun vs H Q _=>∃ (lr lw tb pb pc pl:Addr) (most:Nat) (rws:List Rw) (xs:List Wi) (bs bells:List Int) (d:List (Key × V)) (cf:Int→Int),vs=[.ref lr,.ref lw,.ref tb,.int (most:Int)]∧most ≤ 31∧mr H lr rws∧1 ≤ rws.length∧(∀ rw,rws[rws.length - 1]? = some rw→rw.word ∈ cS)∧jg H lw xs∧xs.length ≤ 12∧(∀ x ∈ xs,pe (lQ xs) x) ∧
 H tb=some (.tup [.ref pb,.ref pc,.ref pl])∧H pb=some (.lst (bs.map V.int))∧bs.length=8∧H pc=some (.dK d)∧Rep d cf∧d.length ≤ 50∧H pl=some (.lst (bells.map V.int)) ∧
 ∀ (a:Addr) (mt:TA) (H':Hp),Same H H'→(∀ c,cU mt a c→H c=none)→TS H' a mt 900 (mU (bg bells) rws xs most (z0 bs cf) (Bl xs) (xs.filter (iY 0)))→Q (.ref a) H'
theorem tN:aJ ["_law_rows_here", "_law_wishes", "_law_beginning_here", "_law_most", "_law_boxes", "_law_cells", "_law_bells", "_law_state", "_law_tale", "_law_place", "_law_what", "_law_row_here", "_law_begin"] ["_law_rows_here", "_law_wishes", "_law_beginning_here", "_law_most"] (ak gL):=⟨rfl,rfl,rfl,by decide +kernel,rfl,by decide +kernel,by decide +kernel⟩
theorem KP {f fS fC fP:Addr} {fd rC Im IJ:FuncData} (F:dJ K "_law_due" "_law_due" gL f fd) (T:Txt K w.params mg)
  (GS:aR P w K mg base bV 1 fS rC ["_law_boxes", "_law_cells"] y9) (kS:KI K fS) (bS:Binds K rC ["_law_boxes", "_law_cells"] []) (mS:mg "_law_start" = some (.ref fS))
  (GC:aR P w K mg base bV 1 fC Im ["_law_wishes", "_law_begin", "_law_state", "_law_tale"] Dt) (kC:KI K fC) (bC:Binds K Im ["_law_wishes", "_law_begin", "_law_state", "_law_tale"] []) (mC:mg "_law_come" = some (.ref fC))
  (GP:aR P w K mg base bV 2 fP IJ ["_law_rows_here", "_law_state", "_law_bells"] y0) (kP:KI K fP) (bP:Binds K IJ ["_law_rows_here", "_law_state", "_law_bells"] []) (mP:mg "_law_step" = some (.ref fP)):aR P w K mg base bV 3 f fd ["_law_rows_here", "_law_wishes", "_law_beginning_here", "_law_most"] II:=by
 refine F.ok tN (fun vs H Q E h=>?_) (fun cdv A outer s H vs Q E hr h=>?_)
 ·obtain ⟨lr,lw,tb,pb,pc,pl,most,rws,xs,bs,bells,d,cf,rfl,_⟩:=h
  rfl
 ·obtain ⟨lr,lw,tb,pb,pc,pl,most,rws,xs,bs,bells,d,cf,rfl,hmo,hR,Dy,LB,hW,hx12,hg,htb,hpb,b8,hpc,hrep,hdl,hpl,k⟩:=h
  have hu:=cC hr
  have hr1:=hr.mono (show 1 ≤ 2 by decide)
  refine dG (aD (aG (dO (pv 2) (vL (n:=3) rfl (fX (cD (i:=4) tN.nd rfl (Or.inl rfl)) (fX (cD (i:=5) tN.nd rfl (Or.inl rfl)) (fX (cD (i:=6) tN.nd rfl (Or.inl rfl)) rO))))))
   (aD (aG (aV (i:=7) tN.nd rfl (Or.inl rfl) (aQ GS hr1 (by rfl) mS kS bS .nil bp (ae (pv 4) (ae (pv 5) ao)))))
   (aD (aG (aV (i:=8) tN.nd rfl (Or.inl rfl) (nJ (di aq (cu ao) (di aq i9 (di aq (cu ao) (di aq ef nI)))) rfl rfl (cons_ne_nil _ _) (le_of_ble_eq_true rfl))))
   (aD (aG (gM PassesOwn.never rfl (dI (pv 1)) (ik (K:=K) (i:=9) (j:=10) rfl rfl tN.nd rfl (Or.inl rfl) rfl (Or.inl rfl)) (aw (bU (aF bQ (au az (pv 10) ai (fun _ _=>rfl)) aq (aO _)) (aw (dh hu (bj hu (pv 8) aq (fun _ _=>rfl)) (au az (pv 10) ai (fun _ _=>rfl)) ai rfl)) aM))))
   (gg (cF (aF qI (pv 3) ai (aO _)) (aP (aG (bJ (aQ GC hr1 (by rfl) mC kC bC .nil bp (ae (pv 1) (ae ef (ae (pv 7) (ae (pv 8) ao)))))))) (bz aM))
   (aD (aG (og PassesOwn.never (dM (aF iu (bf aZ (by rfl) T.len cV (ae (bj hu (pv 8) aq (fun _ _=>rfl)) ao)) (pv 3) (aO _)) (dD (aF lC (bj hu (pv 8) aq (fun _ _=>rfl)) ef (aO _)))).pt (aA (aV (i:=11) tN.nd rfl (Or.inl rfl) (au aK (pv 0) (bj hu (pv 7) aq (fun _ _=>rfl)) (fun _ _=>rfl)))
   (kh (bU (aF bQ (au az (pv 11) ai (fun _ _=>rfl)) aq (aO _)) (aw (bJ (gn PySem.F.plainAttrs_list PySem.F.slot_list_append PySem.F.type_list_append cr (bj hu (pv 8) aq (fun _ _=>rfl)) (ae (aX (ae (au az (pv 11) ai (fun _ _=>rfl)) (ae (au aK (bj hu (pv 7) aq (fun _ _=>rfl)) (au az (pv 11) ai (fun _ _=>rfl)) (fun _ _=>rfl)) ao))) ao)))) aM)
   (aA (aV (i:=12) tN.nd rfl (Or.inl rfl) (aQ GP hr (by rfl) mP kP bP .nil bp (ae (pv 0) (ae (pv 7) (ae (pv 6) ao)))))
   (aA (dh hu (pv 8) aq (bj hu (pv 7) aq (fun _ _=>rfl)) rfl)
   (aw (bU (aF ym (pv 12) ef (aO _)) (aw (bJ (aQ GC hr1 (by rfl) mC kC bC .nil bp (ae (pv 1) (ae (pv 12) (ae (pv 7) (ae (pv 8) ao))))))) aM))))))))
   (aP (aG (aU (pv 8)))))))))) ?_
  refine ⟨_,rfl,tb,_,rfl,aS.of htb,rfl,_,_,rfl,_,_,rfl,_,_,rfl,rfl,?_⟩
  refine ⟨_,rfl,_,rfl,pb,pc,bs,d,cf,rfl,hpb,b8,hpc,hrep,hdl,fun a ml H1 s1 nw ML=>?_⟩
  show hC _ _ _ _ _
  refine ko (vg ?_)
  refine Am fun at_ mt H2 s2 LC MT=>?_
  show hC _ _ _ _ _
  refine ko ?_
  have sA:=s1.trans s2
  have nT:∀ c,cU mt at_ c→H c=none:=fun c hc=>s1.free (LC c hc)
  have dj:∀ c,cU mt at_ c→¬ iR ml a c:=fun c hc hl=>by
   obtain ⟨o,e⟩:=ML.mn c hl
   rw [LC c hc] at e
   cases e
  have Sf:¬ cU mt at_ lw:=fun c=>by
   obtain ⟨qs,e,_⟩:=hW
   rw [nT _ c] at e
   cases e
  obtain ⟨qs,hq,hql,zm⟩:=hW.same sA
  refine ⟨_,rfl,lw,rfl,⟨_,bh.of hq⟩,i5 (K:=K) (a:=lw) (xs:=qs.map V.ref) (fun j σ G=>∃ v1 v2:Option V,σ=[some (.ref lr),some (.ref lw),some (.ref tb),some (.int (most:Int)),some (.ref pb),some (.ref pc),some (.ref pl),some (.ref a),some (.ref at_),v1,v2,none,none]∧Keeps (cU mt at_) H2 G∧TS G at_ mt 0 (Bl (xs.take j))) ?_ ?_ ?_ ?_⟩
  ·exact ⟨none,none,rfl,Keeps.refl,MT⟩
  ·rintro j σ G _ ⟨v1,v2,rfl,kp,_⟩
   exact bh.of (kp _ _ hq (.inl Sf))
  ·rintro j x σ G hx ⟨v1,v2,rfl,kp,MJ⟩
   rw [List.getElem?_map] at hx
   obtain ⟨q,NH,rfl⟩:=map_eq_some_iff.mp hx
   have hjl:j < xs.length:=by have:=(List.getElem?_eq_some_iff.mp NH).1; omega
   have hx:xs[j]? = some xs[j]:=List.getElem?_eq_getElem hjl
   obtain ⟨p,h,a1,a2,a3,a4⟩:=(zm j q _ NH hx).tups kp.tups
   have gx:=hg _ (List.getElem_mem hjl)
   generalize xs[j]=x at hx a2 a3 a4 gx
   obtain ⟨wt,hot,vw⟩:=MJ.st
   obtain ⟨dd,c1,c2,c3⟩:=MJ.cnt
   have tk:xs.take (j + 1)=xs.take j ++ [x]:=by rw [take_add_one,hx]; rfl
   have cl:=c2.len
   have cl2:(lQ (xs.take j)).length ≤ 12:=by
    unfold lQ
    rw [length_map]
    exact le_trans (length_filter_le _ _) (by rw [length_take]; omega)
   refine ⟨q,_,rfl,aS.of a1,rfl,_,_,rfl,_,_,rfl,rfl,?_⟩
   have hv:∃ r,x.vs=.str x.u :: .int x.n :: r:=by unfold Wi.vs; split <;> exact ⟨_,rfl⟩
   obtain ⟨r,hv⟩:=hv
   rw [hv] at a4
   refine ⟨_,rfl,h,_,_,.str x.u,rfl,rfl,aS.of a4,at0 _ _,rfl,_,rfl,dk (fun c=>?_) (fun c=>?_)⟩
   ·have c:x.u = "count" := strEq c
    refine ⟨_,rfl,at_,_,rfl,dw hot vq,_,rfl,h,_,_,.int x.n,rfl,rfl,aS.of a4,at1 _ _ _,mt.c,_,rfl,ic.k (k:=Sum.inl x.n) c1 (bw (by omega)),?_⟩
    refine ⟨_,_,rfl,kp.trans (Keeps.refl.upd c1 (by intro _ z; cases z) (.inr (.inr (.inl rfl)))),?_⟩
    have ec:lQ (xs.take (j + 1))=lQ (xs.take j) ++ [x.n]:=by
     unfold lQ
     rw [tk,filter_append,map_append]
     simp [c]
    have h9:=c2.put (ks':=lQ (xs.take (j + 1))) x.n 0 (fun i=>by rw [ec,mem_append,mem_singleton]; exact or_comm)
    rw [show iX (Bl (xs.take j)).cf x.n 0=fun _=>0 from IH _] at h9
    exact MJ.KC h9 (le_trans (dg dd _ _) (by have:dd.length ≤ 12:=le_trans cl cl2; omega))
   ·have ec:lQ (xs.take (j + 1))=lQ (xs.take j):=by
     have c:¬ x.u = "count" := fun e=>c (decide_eq_true (congrArg V.str e))
     unfold lQ
     rw [tk,filter_append,map_append]
     simp [c]
    refine ⟨_,_,rfl,kp,?_⟩
    unfold Bl
    rw [ec]
    exact MJ
  rintro σ G ⟨v1,v2,rfl,kp,MJ⟩
  rw [length_map,hql,take_length] at MJ
  have IK:=(ML.same s2).keeps kp (fun c hc ht=>dj c ht hc)
  have kG:Keeps (fun c=>cU mt at_ c∨iR ml a c) H G:=(Keeps.same sA).trans (kp.more fun _=>.inl)
  have nU:∀ c,(cU mt at_ c∨iR ml a c)→H c=none:=fun c hc=>hc.elim (nT c) (nw c)
  have nr:∀ c o,H c=some o→¬ (cU mt at_ c∨iR ml a c):=fun c o e z=>by rw [nU c z] at e; cases e
  generalize hF:mU (bg bells) rws xs most (z0 bs cf) (Bl xs) (xs.filter (iY 0))=F at k
  have nrl:∀ c o,H c=some o→¬ cU mt at_ c∧¬ iR ml a c:=fun c o e=>⟨fun z=>nr c o e (.inl z),fun z=>nr c o e (.inr z)⟩
  have Hd:iQ rws.length (z0 bs cf):=⟨.inr ⟨0,rfl,Dy⟩,fun p hp=>absurd hp (by simp [z0])⟩
  refine ⟨fun σ G'=>∃ v1 v2 v3 v4 i,σ=[some (.ref lr),some (.ref lw),some (.ref tb),some (.int (most:Int)),some (.ref pb),some (.ref pc),some (.ref pl),some (.ref a),some (.ref at_),v1,v2,v3,v4]∧KO (bg bells) rws xs most F H a ml at_ mt i G',?_,?_⟩
  ·refine ⟨_,rfl,_,_,rfl,rfl,_,rfl,dk (fun c=>?_) (fun c=>?_)⟩
   ·have c:(0:Int) < (most:Int):=of_decide_eq_true c
    obtain ⟨n0,rfl⟩:∃ n0,most=n0 + 1:=⟨most - 1,by omega⟩
    have wl:=zq (xs:=xs) (b:=.non) (s:=0)
    have ew:tM xs .non 0=xs.filter (iY 0):=rfl
    refine ⟨_,rfl,_,rfl,_,rfl,lw,a,at_,.non,ml,50,z0 bs cf,0,mt,0,Bl xs,xs,rfl,IK,rfl,rfl,MJ,rfl,?_,by omega,hg,dj,.inl rfl,by omega,fun H' k' M'=>?_⟩
    ·obtain ⟨KQ,e0,_⟩:=id hW
     exact hW.keeps kG (nr lw _ e0)
    refine ⟨v1,v2,none,none,1,rfl,z0 bs cf,_,by omega,kG.trans (k'.more fun _=>.inl),(IK.keeps k' (fun c hc ht=>dj c ht hc)).more (by omega) (by omega),M'.more (by omega) (by omega),zp,fun he=>⟨?_,⟨rfl,0,rfl,Dy⟩,Hd⟩,?_⟩
    ·rw [rG he]
     rfl
    ·rw [← hF,ph,ew]
     rfl
   ·have c:most=0:=by
     have:¬ (0:Int) < (most:Int):=fun z=>c (decide_eq_true z)
     omega
    subst c
    refine ⟨v1,v2,none,none,0,rfl,z0 bs cf,Bl xs,le_refl _,kG,IK,MJ,rfl,fun _=>⟨rfl,⟨rfl,0,rfl,Dy⟩,Hd⟩,?_⟩
    rw [← hF]
    exact (if_neg (fun z=>z.2 rfl)).symm
  rintro σ G' ⟨v1,v2,v3,v4,i,rfl,hI⟩
  clear IK MJ kp kG
  refine ⟨fun n σ G=>∃ v1 v2 v3 v4 i,σ=[some (.ref lr),some (.ref lw),some (.ref tb),some (.int (most:Int)),some (.ref pb),some (.ref pc),some (.ref pl),some (.ref a),some (.ref at_),v1,v2,v3,v4]∧n=most - i∧KO (bg bells) rws xs most F H a ml at_ mt i G,⟨_,v1,v2,v3,v4,i,rfl,rfl,hI⟩,?_⟩
  rintro n σ G ⟨v1,v2,v3,v4,i,rfl,rfl,z,t,hi,kG,ML,MT,hks,hup,hFF⟩
  obtain ⟨wt,hot,vw⟩:=MT.st
  have fin:F=t→Q (.ref at_) G:=fun e=>k at_ mt G (kG.Dx nU) nT (e ▸ MT.more (by omega) (by decide))
  refine ⟨_,rfl,at_,_,rfl,dw hot pd,mt.r,_,rfl,.inl (bh.of MT.rws),_,rfl,_,_,rfl,rfl,_,rfl,dk (fun c1=>?_) (fun c1=>?_)⟩
  ·refine ⟨_,rfl,at_,_,rfl,dw hot zi,?_⟩
   cases he:t.en with
   | some zs =>
    rw [he] at vw
    obtain ⟨p,rfl,_⟩:=vw
    refine ⟨rfl,_,rfl,aW (fun z=>by cases of_decide_eq_true z) ⟨_,rfl,fin ?_⟩⟩
    rw [hFF]
    exact if_neg (fun z=>by rw [he] at z; cases z.1)
   | none =>
   rw [he] at vw
   have vw:wt=.non:=vw
   subst vw
   obtain ⟨hrl,⟨hn,r,IL,hrn⟩,hst⟩:=hup he
   have c1:t.rows.length < most:=by have:=of_decide_eq_true c1; rw [length_map] at this; omega
   have hne:most - i ≠ 0:=by omega
   refine ⟨rfl,_,rfl,cy (by decide) ⟨fun σ' G'=>∃ v1 v2 v3 v4,σ'=[some (.ref lr),some (.ref lw),some (.ref tb),some (.int (most:Int)),some (.ref pb),some (.ref pc),some (.ref pl),some (.ref a),some (.ref at_),v1,v2,v3,v4]∧KO (bg bells) rws xs most F H a ml at_ mt (i + 1) G',?_,?_⟩⟩
   ·rintro σ' G' ⟨v1,v2,v3,v4,rfl,h⟩
    exact ⟨most - (i + 1),by omega,v1,v2,v3,v4,i + 1,rfl,rfl,h⟩
   obtain ⟨KQ,e0,_⟩:=id hR
   obtain ⟨qs,hq,hql,zm⟩:=hR.keeps kG (nr lr _ e0)
   have hqr:qs[r]? = some qs[r]:=List.getElem?_eq_getElem (by omega)
   have hwr:rws[r]? = some rws[r]:=List.getElem?_eq_getElem hrn
   have Ao:=zm r _ _ hqr hwr
   have hI:dB z=r:=by unfold dB; rw [IL]
   have hOf:qu rws z=rws[r]:=by unfold qu; rw [hI,Int.toNat_natCast,List.getD_eq_getElem?_getD,hwr]; rfl
   have vx:r + 1=rws.length→rws[r].word ∈ cS:=fun e=>LB _ (by rw [show rws.length - 1=r by omega]; exact hwr)
   generalize rws[r]=rw at hwr Ao hOf vx
   generalize qs[r]=q at hqr Ao
   have hrow:(qs.map V.ref)[r]? = some (.ref q):=by rw [List.getElem?_map,hqr]; rfl
   obtain ⟨h0,wl,hol,hwl,Sg⟩:=ML.st
   have Sg:=(Sg hn).trans IL
   subst Sg
   refine ⟨_,rfl,_,rfl,a,_,rfl,dw hol rm,lr,_,_,.ref q,rfl,rfl,bh.of hq,ck (j:=r) hrow,?_⟩
   obtain ⟨items,HQ⟩:=lO Ao
   have Sh:=MT.more (le_succ (26 * i)) (by omega)
   obtain ⟨ps,ps1,ps2⟩:=Sh.seen
   have lm:=MT.lens
   refine ⟨fun σ' G'=>σ'=[some (.ref lr),some (.ref lw),some (.ref tb),some (.int (most:Int)),some (.ref pb),some (.ref pc),some (.ref pl),some (.ref a),some (.ref at_),v1,v2,some (.ref q),v4]∧Keeps (cU mt at_) G G'∧TS G' at_ mt (26 * i + 1) (ji rw z.bs t),?_,?_⟩
   ·refine ⟨_,rfl,q,_,_,.str rw.word,rfl,rfl,aS.of HQ,at0 _ _,rfl,_,rfl,dk (fun c=>?_) (fun c=>?_)⟩
    ·have c:rw.word = "see" := strEq c
     obtain ⟨b,v,rfl⟩:∃ b v,rw=.two "see" b v:=by
      cases rw with
      | two u b v=>exact ⟨b,v,by rw [show u = "see" from c]⟩
      | stop=>exact absurd c (by decide +kernel)
      | back=>exact absurd c (by decide +kernel)
      | halt v=>exact absurd c (show ¬ ("halt" : Str) = "see" by decide +kernel)
      | tell v=>exact absurd c (show ¬ ("tell" : Str) = "see" by decide +kernel)
      | table b ts=>exact absurd c (show ¬ ("table" : Str) = "see" by decide +kernel)
      | eA u t f=>exact absurd c ((by decide +kernel:∀ u ∈ My.eA,¬ u = "see") u Ao.2.1)
      | zb u b t f=>exact absurd c ((by decide +kernel:∀ u ∈ My.zb,¬ u = "see") u Ao.2.1)
     obtain ⟨Kv,_,hb,_⟩:=Ao
     refine ⟨_,rfl,at_,_,rfl,dw hot tK,.inl ⟨rfl,_,bh.of ps1⟩,_,rfl,q,_,_,.int v,rfl,rfl,aS.of Kv,at2 _ _ _ _,_,rfl,a,_,rfl,dw hol vp,_,rfl,q,_,_,.int b,rfl,rfl,aS.of Kv,at1 _ _ _,ml.p1,_,_,_,rfl,rfl,bh.of ML.box,rD ML.b8 hb,cT,fun t3 n3=>⟨mt.s,_,_,rfl,rfl,ez n3 ps1,bw (by rw [length_map,ps2.1]; omega),?_⟩⟩
     have sN:=aj (o:=.tup [V.int v,V.int (qt z.bs b)]) n3
     rw [show ps.map V.ref ++ [V.ref t3]=(ps ++ [t3]).map V.ref by simp]
     refine ⟨rfl,(Keeps.same sN).upd (sN _ _ ps1) (by intro _ z; cases z) (.inr (.inl rfl)),?_⟩
     rw [show ji (.two "see" b v) z.bs t={ t with sn:=t.sn ++ [(v,qt z.bs b)] } by simp only [ji,if_true]]
     exact (Sh.same sN).qY ((ps2.tups (.of sN)).snoc (p:=(v,qt z.bs b)) ah) (by simp; omega)
    ·have e:ji rw z.bs t=t:=by
      cases rw with
      | two u b v=>exact if_neg (fun e=>c (decide_eq_true (congrArg V.str e)))
      | _=>rfl
     rw [e]
     exact ⟨rfl,Keeps.refl,Sh⟩
   rintro σ' G1 ⟨rfl,k1,zk⟩
   have Se:=ML.keeps k1 (fun c hc ht=>dj c ht hc)
   have NI:=kG.trans (k1.more fun _=>Or.inl)
   refine ⟨_,rfl,_,rfl,_,rfl,lr,pl,a,q,ml,50 + 2 * i,z,r,_,rw,bells,qs.map V.ref,rfl,Se,by omega,hn,IL,k1 _ _ hq (.inl (nrl lr _ e0).1),hrow,Ao.tups k1.tups,NI _ _ hpl (.inl (nr pl _ hpl)),(nrl pl _ hpl).2,fun G2 k2 IK=>?_⟩
   have KR:=NI.trans (k2.more fun _=>Or.inr)
   have Al:=zk.keeps k2 (fun c hc hl=>dj c hc hl)
   have eZ:gU (bg bells) rws z=aY (bg bells) rw r z:=by unfold gU; rw [hOf,hI]
   have eT:nextT (bg bells) rws z t={ ji rw z.bs t with en:=(aY (bg bells) rw r z).how }:=by unfold nextT; rw [hOf,eZ]
   have hst':iQ rws.length (aY (bg bells) rw r z):=hst.step hrn Ao vx
   have rn:=Ds (ring:=bg bells) (r:=rw) (h:=r) (z:=z) hn
   have eF:F=if (aY (bg bells) rw r z).how=none then mU (bg bells) rws xs (most - i) (aY (bg bells) rw r z) (nextT (bg bells) rws z t) (mw (bg bells) rws xs z) else nextT (bg bells) rws z t:=by
    rw [hFF,← eZ]
    exact if_pos ⟨he,hne⟩
   have wn:=fun (s:Int)=>Dw (ring:=bg bells) (rws:=rws) (xs:=xs) (z:=z) (s:=s)
   rw [eZ,hOf,hI] at wn
   generalize hz':aY (bg bells) rw r z=z' at IK eZ eT hst' rn eF wn
   obtain ⟨h2,w2,hol2,Si,_⟩:=IK.st
   obtain ⟨wt2,wX,NF⟩:=Al.st
   refine ⟨_,rfl,a,_,rfl,dw hol2 Ni,_,rfl,at_,_,rfl,ic.k (k:=Sum.inr "ending") wX zj,?_⟩
   rw [tL]
   have uF:=Al.put Si
   have k3:Keeps (cU mt at_) G2 (upd G2 at_ (.dK (td mt w2))):=Keeps.refl.upd wX (by intro _ z; cases z) (.inl rfl)
   generalize upd G2 at_ (.dK (td mt w2))=G3 at uF k3 ⊢
   rw [← eT] at uF
   have Sl:=IK.keeps k3 (fun c hc ht=>dj c ht hc)
   have LD:=KR.trans (k3.more fun _=>Or.inl)
   have hk3:(nextT (bg bells) rws z t).ks=lQ xs:=by rw [eT]; exact nZ.1.trans hks
   have Sn:(nextT (bg bells) rws z t).rows.length=i:=by rw [eT]; show (ji rw z.bs t).rows.length=i; rw [nZ.2]; exact hrl
   have LG:(nextT (bg bells) rws z t).en=z'.how:=by rw [eT]
   rcases rn with ⟨e1,ys,e2⟩ | ⟨⟨s',e1⟩,e2⟩
   ·have eb:oW rw r z'=.non:=by unfold oW; rw [e2]
    refine ⟨_,rfl,?_⟩
    rw [eb]
    refine ⟨rfl,_,rfl,aW (by decide) ?_⟩
    refine ⟨v1,v2,_,_,rfl,z',nextT (bg bells) rws z t,by omega,LD,Sl.more (by omega) (by omega),uF.more (by omega) (by omega),hk3,(fun e=>by rw [LG,e2] at e; cases e),?_⟩
    rw [eF,if_neg (by rw [e2]; intro z; cases z)]
    exact (if_neg (fun y=>by rw [LG,e2] at y; cases y.1)).symm
   ·have wn:=wn s' e2 e1
    have eb:∃ l,oW rw r z'=.int l:=by unfold oW; rw [e2,e1]; by_cases c:rw.word = "back"; exact ⟨_,if_pos c⟩; exact ⟨_,if_neg c⟩
    obtain ⟨l,eb⟩:=eb
    have wl:=zq (xs:=xs) (b:=.int l) (s:=s')
    refine ⟨_,rfl,?_⟩
    rw [eb] at wn ⊢
    refine ⟨rfl,_,rfl,cy rfl ?_⟩
    obtain ⟨qsw,ew,_⟩:=id hW
    refine ⟨_,rfl,_,rfl,_,rfl,_,rfl,lw,a,at_,.int l,ml,50 + 2 * i + 2,z',s',mt,26 * i + 1,nextT (bg bells) rws z t,xs,rfl,Sl,e2,e1,uF,LG.trans e2,hW.keeps LD (nr lw _ ew),by omega,by rw [hk3]; exact hg,dj,.inr ⟨l,rfl⟩,by omega,fun G4 k4 M4=>?_⟩
    refine ⟨v1,v2,_,_,rfl,z',_,by omega,LD.trans (k4.more fun _=>.inl),(Sl.keeps k4 (fun c hc ht=>dj c ht hc)).more (by omega) (by omega),M4.more (by omega) (by omega),zp.trans hk3,fun e=>⟨?_,⟨e2,?_⟩,hst'⟩,?_⟩
    ·rw [rG e,length_append,Sn]
     rfl
    ·rcases hst'.1 with y | ⟨r',y1,y2⟩
     ·rw [e1] at y
      cases y
     ·exact ⟨r',y1,y2⟩
    ·obtain ⟨n0,hn0⟩:∃ n0,most - i=n0 + 1:=⟨most - i - 1,by omega⟩
     have hs':dB z'=s':=by unfold dB; rw [e1]
     rw [eF,if_pos e2,hn0,ph,hs',wn,show most - (i + 1)=n0 by omega]
  ·refine ie ⟨_,rfl,fin ?_⟩
   have c1:¬ (t.rows.length:Int) < (most:Int):=fun z=>c1 (decide_eq_true (by rw [length_map]; exact z))
   rw [hFF]
   refine if_neg (fun z=>z.2 ?_)
   have:=(hup z.1).1
   omega
end
section
variable {P:Program} {w:World} {K:Frag} {mg:Str→Option Value} {base:Heap}
def wZ:Sp:=fun vs H Q _=>∃ (r:Addr) (w:Str) (items:List V),vs=[.ref r]∧H r=some (.tup (.str w :: items))∧Q (.bl (!decide (w ∈ cS))) H
theorem KS:aJ ["row"] ["row"] (ak gE):=⟨rfl,rfl,rfl,by decide +kernel,rfl,by decide +kernel,by decide +kernel⟩
theorem w4 {f:Addr} {fd:FuncData} (F:dJ K "goes_on" "goes_on" gE f fd) (T:Txt K w.params mg):aR P w K mg base bV 1 f fd ["row"] wZ:=by
 refine F.ok KS (fun vs H Q E h=>?_) (fun cdv A outer s H vs Q E hr h=>?_)
 ·obtain ⟨r,w,items,rfl,_⟩:=h
  rfl
 ·obtain ⟨r,w',items,rfl,hR,k⟩:=h
  obtain ⟨p,hp,hq⟩:=T.oP
  refine ⟨_,aw (aU (iJ j9 (au az (pv 0) ai (fun _ _=>rfl)) (dC (v:=.ref p) rfl hp rfl) rfl)),?_⟩
  refine ⟨_,rfl,r,_,0,.str w',rfl,rfl,aS.of hR,at0 _ _,p,_,rfl,.inr (hq _),rfl,rfl,?_⟩
  show Q (.bl (!inV (.str w') (cS.map V.str))) H
  rw [d8]
  exact k
def lR:Sp:=fun vs H Q _=>∃ (r:Addr) (w:Str) (ts:List Int),vs=[.ref r]∧lZ H r w ts∧∀ (l:Addr) (H':Hp),Same H H'→H l=none→H' l=some (.lst (ts.map V.int))→Q (.ref l) H'
theorem rH:aJ ["row", "word"] ["row"] (ak dZ):=⟨rfl,rfl,rfl,by decide +kernel,rfl,by decide +kernel,by decide +kernel⟩
theorem qv {f:Addr} {fd:FuncData} (F:dJ K "targets_of" "targets_of" dZ f fd) (T:Txt K w.params mg):aR P w K mg base bV 1 f fd ["row"] lR:=by
 refine F.ok rH (fun vs H Q E h=>?_) (fun cdv A outer s H vs Q E hr h=>?_)
 ·obtain ⟨r,w,ts,rfl,_⟩:=h
  rfl
 ·obtain ⟨r,w',ts,rfl,⟨items,hR,hP⟩,k⟩:=h
  refine ⟨_,aA (aV (i:=1) rH.nd rfl (Or.inl rfl) (au az (pv 0) ai (fun _ _=>rfl)))
   (aA (bU (aF bQ (pv 1) aq (aO _)) (aw (aU (cI dY (by rfl) T.list hU (ae (au az (pv 0) ai (fun _ _=>rfl)) ao)))) aM)
   (aA (bU (aF cX (pv 1) (aX (ae aq (ae aq (ae aq ao)))) rfl) (aw (aU (cu (ae (au az (pv 0) ai (fun _ _=>rfl)) ao)))) aM)
   (aA (bU (aF cX (pv 1) (aX (ae aq (ae aq ao))) rfl) (aw (aU (cu (ae (au az (pv 0) ai (fun _ _=>rfl)) ao)))) aM)
   (aw (aU (cu ao)))))),?_⟩
  refine ⟨_,rfl,r,_,0,.str w',rfl,rfl,aS.of hR,at0 _ _,_,rfl,rfl,_,rfl,?_⟩
  refine dk (fun h1=>?_) (fun h1=>?_)
  ·have h1:=strEq h1
   unfold Parts at hP
   rw [if_pos h1] at hP
   obtain ⟨b,q,rfl,hq⟩:=hP
   refine ⟨_,rfl,r,_,2,.ref q,rfl,rfl,aS.of hR,at2 _ _ _ _,q,_,rfl,.inr (aS.of hq),fun l hl=>?_⟩
   exact k l _ (aj hl) hl ah
  ·have h1:=HW h1
   unfold Parts at hP
   rw [if_neg h1] at hP
   refine ⟨_,rfl,jX,fun t ht=>⟨t,eA.map V.str,rfl,.inr (aS.of ah),rfl,rfl,_,rfl,?_⟩⟩
   have s1:=aj (o:=.tup (eA.map V.str)) ht
   have Dy:=s1 _ _ hR
   rw [show inV (.str w') (eA.map V.str)=decide (w' ∈ eA) from d8 _ _]
   refine dk (fun h2=>?_) (fun h2=>?_)
   ·have h2:=of_decide_eq_true h2
    rw [if_pos h2] at hP
    obtain ⟨t',f',rfl,rfl⟩:=hP
    refine ⟨_,rfl,r,_,1,.int t',rfl,rfl,aS.of Dy,at1 _ _ _,oN,fun l hl=>?_⟩
    exact k l _ (s1.trans (aj hl)) (s1.free hl) ah
   ·have h2:¬ w' ∈ eA:=fun e=>h2 (decide_eq_true e)
    rw [if_neg h2] at hP
    refine ⟨_,rfl,cT,fun t2 Mu=>⟨t2,zb.map V.str,rfl,.inr (aS.of ah),rfl,rfl,_,rfl,?_⟩⟩
    have s2:=s1.trans (aj (o:=.tup (zb.map V.str)) Mu)
    have Dd:=s2 _ _ hR
    rw [show inV (.str w') (zb.map V.str)=decide (w' ∈ zb) from d8 _ _]
    refine dk (fun h3=>?_) (fun h3=>?_)
    ·have h3:=of_decide_eq_true h3
     rw [if_pos h3] at hP
     obtain ⟨b,t',f',rfl,rfl⟩:=hP
     refine ⟨_,rfl,r,_,2,.int t',rfl,rfl,aS.of Dd,at2 _ _ _ _,oN,fun l hl=>?_⟩
     exact k l _ (s2.trans (aj hl)) (s2.free hl) ah
    ·have h3:¬ w' ∈ zb:=fun e=>h3 (decide_eq_true e)
     rw [if_neg h3] at hP
     subst hP
     refine ⟨lL,fun l hl=>?_⟩
     exact k l _ (s2.trans (aj hl)) (s2.free hl) ah
def Dz:Sp:=fun vs H Q _=>∃ (p q:Addr) (rows:List V) (r:Nat) (w:Str) (ts:List Int),vs=[.ref p,.int r]∧bh K H p rows∧rows[r]? = some (.ref q)∧lZ H q w ts∧ts.length ≤ 16 ∧
 ∀ (l:Addr) (ms:List Int) (H':Hp),Same H H'→H l=none→H' l=some (.lst (ms.map V.int))→ms.Pairwise (· ≤ ·)→ms.Nodup→(∀ j,j ∈ ms↔j ∈ ts∨(¬ w ∈ cS∧j=r + 1))→Q (.ref l) H'
theorem DA:aJ ["rows", "r", "ways"] ["rows", "r"] (ak gF):=⟨rfl,rfl,rfl,by decide +kernel,rfl,by decide +kernel,by decide +kernel⟩
theorem w6 {f fG fT:Addr} {fd NJ CG:FuncData} (F:dJ K "ways_of" "ways_of" gF f fd) (T:Txt K w.params mg) (GG:aR P w K mg base bV 1 fG NJ ["row"] wZ) (kG:KI K fG) (bG:Binds K NJ ["row"] []) (mG:mg "goes_on" = some (.ref fG)) (GT:aR P w K mg base bV 1 fT CG ["row"] lR) (kT:KI K fT) (bT:Binds K CG ["row"] []) (mT:mg "targets_of" = some (.ref fT)):aR P w K mg base bV 2 f fd ["rows", "r"] (Dz (K:=K)):=by
 refine F.ok DA (fun vs H Q E h=>?_) (fun cdv A outer s H vs Q E hr h=>?_)
 ·obtain ⟨p,q,rows,r,w,ts,rfl,_⟩:=h
  rfl
 ·obtain ⟨p,q,rows,r,w',ts,rfl,hS,hq,hR,hlen,k⟩:=h
  refine ⟨_,aA (aV (i:=2) DA.nd rfl (Or.inl rfl) (aQ GT hr (by rfl) mT kT bT .nil bp (ae (au aK (pv 0) (pv 1) (fun _ _=>rfl)) ao)))
   (aA (bU (gj (aQ GG hr (by rfl) mG kG bG .nil bp (ae (au aK (pv 0) (pv 1) (fun _ _=>rfl)) ao)))
    (aw (bJ (gn PySem.F.plainAttrs_list PySem.F.slot_list_append PySem.F.type_list_append cr (pv 2) (ae (aN dn (pv 1) ai) ao)))) aM)
   (aw (aU (bf (gQ rfl) (by rfl) T.sorted lM (ae (cI (jc rfl) (by rfl) T.set wG (ae (pv 2) ao)) ao))))),?_⟩
  refine ⟨_,rfl,_,rfl,p,rows,r,.ref q,rfl,rfl,hS,ck hq,q,w',ts,rfl,hR,fun l H1 s1 nl hl=>?_⟩
  have hS1:=s1.seq hS
  obtain ⟨items,hq1,_⟩:=hR.same s1
  refine ⟨_,rfl,_,rfl,p,rows,r,.ref q,rfl,rfl,hS1,ck hq,q,w',items,rfl,hq1,_,rfl,?_⟩
  have fin:∀ (ns:List Int) (H2:Hp),Same H H2→H2 l=some (.lst (ns.map V.int))→ns.length ≤ 17→(∀ j,j ∈ ns↔j ∈ ts∨(¬ w' ∈ cS∧j=r + 1)) →
    ∃ v,[some (V.ref p),some (V.int r),some (V.ref l)][2]? = some (some v)∧∃ (p':Addr) (ns':List Int),[v]=[V.ref p']∧bh K H2 p' (ns'.map V.int)∧ns'.length < 4000∧∀ (l':Addr) (us:List Int),H2 l'=none→us.length ≤ ns'.length→us.Nodup→(∀ j,j ∈ us↔j ∈ ns') →
     ∃ (p2:Addr) (Mr:List Int),[V.ref l']=[V.ref p2]∧(upd H2 l' (oI P w l' us)) p2=some (oI P w p2 Mr)∧Mr.length < 64∧∀ (l2:Addr) (ms:List Int),(upd H2 l' (oI P w l' us)) l2=none→ms.Perm Mr→ms.Pairwise (· ≤ ·)→Q (.ref l2) (upd (upd H2 l' (oI P w l' us)) l2 (.lst (ms.map V.int))):=by
   intro ns H2 s2 h2 hl2 hm
   refine ⟨_,rfl,l,ns,rfl,bh.of h2,by omega,fun l' us NK hu hnd NM=>⟨l',us,rfl,ah,by omega,fun l2 ms IQ hp Er=>?_⟩⟩
   have s3:=s2.trans (aj (o:=oI P w l' us) NK)
   exact k l2 ms _ (s3.trans (aj IQ)) (s3.free IQ) ah Er (hp.nodup_iff.mpr hnd) (fun j=>by rw [hp.mem_iff,NM,hm])
  refine dk (fun h1=>?_) (fun h1=>?_)
  ·have h1:¬ w' ∈ cS:=by simpa using h1
   refine ⟨_,rfl,.inl ⟨rfl,_,bh.of hl⟩,_,rfl,_,_,rfl,rfl,l,_,_,rfl,rfl,hl,?_,?_⟩
   ·rw [length_map]
    exact bw (by omega)
   ·have e:(ts.map V.int ++ [V.int ((r:Int) + 1)])=(ts ++ [(r:Int) + 1]).map V.int:=by simp
    rw [e]
    refine fin (ts ++ [(r:Int) + 1]) _ ?_ ah (by simp; omega) (fun j=>?_)
    ·intro b o z
     rw [aL (ay z nl)]
     exact s1 b o z
    ·rw [mem_append,mem_singleton]
     exact ⟨fun z=>z.imp id fun e=>⟨h1,e⟩,fun z=>z.imp id fun e=>e.2⟩
  ·have h1:w' ∈ cS:=by simpa using h1
   refine fin ts _ s1 hl (by omega) (fun j=>⟨.inl,fun z=>z.elim id fun e=>absurd h1 e.1⟩)
end
def kdN:List Str:=["box", "aside", "target", "number", "value", "far"]
def He (H:Hp) (kd:Str) (v:V):Prop:=(kd = "targets" ∧ ∃ (p:Addr) (ts:List Int),v=.ref p∧H p=some (.tup (ts.map V.int))∧ts ≠ []∧ts.length ≤ 16∧∀ t ∈ ts,0 ≤ t∧t ≤ 1000000000)∨(kd ∈ kdN∧∃ i,v=.int i∧vJ kd i)
theorem He.same {H H':Hp} {kd:Str} {v:V} (h:He H kd v) (s:Same H H'):He H' kd v:=by
 rcases h with ⟨a,p,ts,b,c,d⟩ | h
 ·exact .inl ⟨a,p,ts,b,s _ _ c,d⟩
 ·exact .inr h
theorem pj (n:Nat):(replicate n true).map V.bl ++ [V.bl true]=(replicate (n + 1) true).map V.bl:=by
 rw [List.replicate_succ',map_append]
 rfl
theorem tO (n:Nat):(replicate n true).all id=true:=by simp
theorem IU (a:V) (l:List V):gY (a :: l) (some 1) none=l:=by
 unfold gY
 simp [HT.eB]
section
variable {P:Program} {w:World} {K:Frag} {mg:Str→Option Value} {base:Heap}
def KU:Sp:=fun vs H Q _=>∃ i:Int,vs=[.int i]∧Q (.bl true) H
theorem Sq:aJ ["thing"] ["thing"] (ak fi):=⟨rfl,rfl,rfl,by decide +kernel,rfl,by decide +kernel,by decide +kernel⟩
theorem vy {f:Addr} {fd:FuncData} (F:dJ K "is_whole" "is_whole" fi f fd) (T:Txt K w.params mg)  : aR P w K mg base bV 1 f fd ["thing"] KU:=by
 refine F.ok Sq (fun vs H Q E h=>?_) (fun cdv A outer s H vs Q E hr h=>?_)
 ·obtain ⟨i,rfl,_⟩:=h
  rfl
 ·obtain ⟨i,rfl,k⟩:=h
  refine dG (aP (aG (aU (iH (bf dA (by rfl) T.HY jd (ae (pv 0) (ae (g9 (v:=.ty "int") (by rfl) T.int CB rfl) ao))) (jT (Jk (bf dA (by rfl) T.HY jd (ae (pv 0) (ae (g9 (v:=.ty "bool") (by rfl) T.bool Fn rfl) ao))))))))) ?_
  exact ⟨_,rfl,_,_,_,_,rfl,.int _,z9,_,rfl,cy rfl ⟨_,rfl,_,_,_,_,rfl,.int _,wI,_,rfl,k⟩⟩
def Hf:Sp:=fun vs H Q _=>∃ (q:Addr) (u:Str) (r:List V),vs=[.ref q]∧H q=some (.tup (.str u :: r))∧Q (.str u) H
theorem Sr:aJ ["thing"] ["thing"] (ak gH):=⟨rfl,rfl,rfl,by decide +kernel,rfl,by decide +kernel,by decide +kernel⟩
theorem w8 {f:Addr} {fd:FuncData} (F:dJ K "word_of" "word_of" gH f fd) (T:Txt K w.params mg)  : aR P w K mg base bV 1 f fd ["thing"] Hf:=by
 refine F.ok Sr (fun vs H Q E h=>?_) (fun cdv A outer s H vs Q E hr h=>?_)
 ·obtain ⟨q,u,r,rfl,_⟩:=h
  rfl
 ·obtain ⟨q,u,r,rfl,hq,k⟩:=h
  refine dG (aD (cF (dM (gj (bf dA (by rfl) T.HY jd (ae (pv 0) (ae (g9 (v:=.ty "tuple") (by rfl) T.tuple kI rfl) ao)))) (dM (aF qI (bf aZ (by rfl) T.len cV (ae (pv 0) ao)) ai (aO _)) (dD (gj (bf dA (by rfl) T.HY jd (ae (au az (pv 0) ai (fun _ _=>rfl)) (ae (g9 (v:=.ty "str") (by rfl) T.str JY rfl) ao))))))).pt (aP (aG (aU (au az (pv 0) ai (fun _ _=>rfl))))) (bz aM))
   (aP (aG (aU ef)))) ?_
  refine ⟨_,rfl,_,_,_,_,rfl,.tup hq,ig,_,rfl,cy rfl ?_⟩
  refine ⟨_,rfl,q,_,rfl,.inr (aS.of hq),_,_,rfl,rfl,_,rfl,cy (decide_eq_true (by rw [List.length_cons]; omega)) ?_⟩
  exact ⟨_,rfl,q,_,0,_,rfl,rfl,aS.of hq,at0 _ _,_,_,_,_,rfl,.str _,sx (by decide),_,rfl,cy rfl ⟨_,rfl,q,_,0,_,rfl,rfl,aS.of hq,at0 _ _,k⟩⟩
def KW:Sp:=fun vs H Q _=>∃ (kd:Str) (i:Int),vs=[.str kd,.int i]∧kd ∈ kdN∧vJ kd i∧Q (.bl true) H
theorem Txt.bnd {pr:Params} (T:Txt K pr mg):∃ p,mg "BOUNDS" = some (.ref p)∧∀ kd ∈ kdN,∃ q,dE K pr p kd (some (.ref q))∧∀ H,aS K H q [.int (oS kd).1,.int (oS kd).2]:=by
 obtain ⟨p,hp,_,h0,h1,h2,h3,h4,h5⟩:=T.CC
 refine ⟨p,hp,fun kd hk=>?_⟩
 rcases (by decide +kernel:∀ kd:Str,kd ∈ kdN→(kd=("box" : Str)∧oS kd=(0,7))∨(kd=("aside" : Str)∧oS kd=(0,1000000))∨(kd=("target" : Str)∧oS kd=(0,1000000000))∨(kd=("number" : Str)∧oS kd=(0,1000000))∨(kd=("value" : Str)∧oS kd=(-1000000000,1000000000))∨(kd=("far" : Str)∧oS kd=(0,1))) kd hk with ⟨rfl,e⟩ | ⟨rfl,e⟩ | ⟨rfl,e⟩ | ⟨rfl,e⟩ | ⟨rfl,e⟩ | ⟨rfl,e⟩ <;> rw [e] <;> assumption
theorem Ss:aJ ["kind", "thing"] ["kind", "thing"] (ak dr):=⟨rfl,rfl,rfl,by decide +kernel,rfl,by decide +kernel,by decide +kernel⟩
theorem mV {f fW:Addr} {fd rF:FuncData} (F:dJ K "is_number_of" "is_number_of" dr f fd) (T:Txt K w.params mg) (GW:aR P w K mg base bV 1 fW rF ["thing"] KU) (kW:KI K fW) (bW:Binds K rF ["thing"] []) (mW:mg "is_whole" = some (.ref fW)):aR P w K mg base bV 2 f fd ["kind", "thing"] KW:=by
 refine F.ok Ss (fun vs H Q E h=>?_) (fun cdv A outer s H vs Q E hr h=>?_)
 ·obtain ⟨kd,i,rfl,_⟩:=h
  rfl
 ·obtain ⟨kd,i,rfl,hk,hi,k⟩:=h
  obtain ⟨pb,hpb,hpk⟩:=T.bnd
  obtain ⟨q,hq,hS⟩:=hpk kd hk
  refine dG (aP (aG (aU (iH (aQ GW hr (by rfl) mW kW bW .nil bp (ae (pv 1) ao)) (jT (BF om om (au az (jm (dC (v:=.ref pb) (by rfl) hpb rfl) (pv 0) (fun _ _=>rfl)) ai (fun _ _=>rfl)) (pv 1) (au az (jm (dC (v:=.ref pb) (by rfl) hpb rfl) (pv 0) (fun _ _=>rfl)) ai (fun _ _=>rfl)))))))) ?_
  refine ⟨_,rfl,i,rfl,_,rfl,cy rfl ?_⟩
  refine ⟨_,rfl,pb,kd,_,rfl,rfl,hq,q,_,0,_,rfl,rfl,hS _,at0 _ _,_,rfl,_,_,rfl,rfl,_,rfl,cy (decide_eq_true hi.1) ?_⟩
  refine ⟨_,rfl,pb,kd,_,rfl,rfl,hq,q,_,1,_,rfl,rfl,hS _,at1 _ _ _,_,_,rfl,rfl,?_⟩
  show Q (.bl (decide (i ≤ (oS kd).2))) H
  rw [decide_eq_true hi.2]
  exact k
def NN:Sp:=fun vs H Q _=>∃ (p:Addr) (ts:List Int),vs=[.ref p]∧H p=some (.tup (ts.map V.int))∧ts ≠ []∧ts.length ≤ 16∧(∀ t ∈ ts,0 ≤ t∧t ≤ 1000000000)∧∀ H',Same H H'→Q (.bl true) H'
theorem Sv:aJ ["thing"] ["thing"] (ak dF):=⟨rfl,rfl,rfl,by decide +kernel,rfl,by decide +kernel,by decide +kernel⟩
def KY:Scope:={ kind:=.function,names:=[(".0",.local),("target",.local),("is_number_of",.globalImplicit)],isGenerator:=false,isCoroutine:=false,more:=[] }
theorem DB:er (ak dF) KY ["thing"] ["target"] [none]:=⟨rfl,by decide +kernel,by decide +kernel,by decide +kernel,by decide +kernel,by decide +kernel⟩
theorem qw {f fN:Addr} {fd DC:FuncData} (F:dJ K "is_targets" "is_targets" dF f fd) (T:Txt K w.params mg) (GN:aR P w K mg base bV 2 fN DC ["kind", "thing"] KW) (kN:KI K fN) (bN:Binds K DC ["kind", "thing"] []) (mN:mg "is_number_of" = some (.ref fN)):aR P w K mg base bV 3 f fd ["thing"] NN:=by
 refine F.ok Sv (fun vs H Q E h=>?_) (fun cdv A outer s H vs Q E hr h=>?_)
 ·obtain ⟨p,ts,rfl,_⟩:=h
  rfl
 ·obtain ⟨p,ts,rfl,hp,c1,c2,hts,k⟩:=h
  obtain ⟨tm,hmt⟩:=T.oQ
  have c1:0 < ts.length:=length_pos_iff.mpr c1
  refine dG (aD (cF (j3 (iG (gj (bf dA (by rfl) T.HY jd (ae (pv 0) (ae (g9 (v:=.ty "tuple") (by rfl) T.tuple kI rfl) ao))))) (iZ (iG (j5 om om ai (bf aZ (by rfl) T.len cV (ae (pv 0) ao)) (dC (v:=.int 16) (by rfl) hmt ⟨_,rfl⟩))))).pt (aP (aG (aU lT))) (bz aM))
   (aP (aG (aU (bf (lK rfl) (by rfl) T.all wH (ae (gA (N':=["target"]) (fr:=[none]) DB rfl (Jr (pv 0)) (fun C s0 H0 fp=>(cD (i:=0) DB.nd rfl (Or.inl rfl))) (fun C s0 H0 fp=>iM) (fun C s0 H0 fp=>(aQ GN hr (by rfl) mN kN bN .nil bp (ae aq (ae (pv 0) ao))))) ao)))))) ?_
  refine ⟨_,rfl,_,_,_,_,rfl,.tup hp,ig,_,rfl,aW (by decide) ?_⟩
  refine ⟨_,rfl,p,_,rfl,.inr (aS.of hp),_,_,rfl,rfl,_,rfl,cy (decide_eq_true (by rw [length_map]; omega)) ⟨_,_,rfl,rfl,_,rfl,aW (by rw [decide_eq_true (by rw [length_map]; omega)]; decide) ?_⟩⟩
  refine ⟨_,rfl,p,rfl,⟨_,aS.of hp⟩,fun D nD=>Ck (K:=K) (a:=p) (xs:=ts.map V.int) (fun i σ ys G=>∃ v:Option V,σ=[v]∧i ≤ 16∧ys=(replicate i true).map V.bl∧Same H G∧G D=some (.lst ys)) ?_ ?_ ?_ ?_⟩
  ·exact ⟨none,rfl,zero_le _,rfl,aj nD,ah⟩
  ·rintro i σ ys G _ ⟨v,rfl,_,_,s2,_⟩
   exact aS.of (s2 _ _ hp)
  ·rintro i x σ ys G hx ⟨v,rfl,Sw,rfl,s2,hD⟩
   rw [List.getElem?_map] at hx
   obtain ⟨t,ht,rfl⟩:=map_eq_some_iff.mp hx
   have hi:=(List.getElem?_eq_some_iff.mp ht).1
   refine ⟨_,rfl, "target",t,rfl,by decide +kernel,hts t (List.mem_of_getElem? ht),hD,dH (by rw [length_map,List.length_replicate]; omega),_,rfl,by omega,pj i,cL s2 nD,ah⟩
  rintro σ ys G ⟨v,rfl,_,rfl,s2,hD⟩
  refine ⟨D,_,rfl,bh.of hD,?_⟩
  rw [tO]
  exact k G s2
def NP:Sp:=fun vs H Q _=>∃ (kd:Str) (v:V),vs=[.str kd,v]∧He H kd v∧∀ H',Same H H'→Q (.bl true) H'
theorem Sx:aJ ["kind", "thing"] ["kind", "thing"] (ak gG):=⟨rfl,rfl,rfl,by decide +kernel,rfl,by decide +kernel,by decide +kernel⟩
theorem xc {f fN fS:Addr} {fd DC rC:FuncData} (F:dJ K "is_part" "is_part" gG f fd) (T:Txt K w.params mg) (GN:aR P w K mg base bV 2 fN DC ["kind", "thing"] KW) (kN:KI K fN) (bN:Binds K DC ["kind", "thing"] []) (mN:mg "is_number_of" = some (.ref fN)) (GS:aR P w K mg base bV 3 fS rC ["thing"] NN) (kS:KI K fS) (bS:Binds K rC ["thing"] []) (mS:mg "is_targets" = some (.ref fS)):aR P w K mg base bV 4 f fd ["kind", "thing"] NP:=by
 refine F.ok Sx (fun vs H Q E h=>?_) (fun cdv A outer s H vs Q E hr h=>?_)
 ·obtain ⟨kd,v,rfl,_⟩:=h
  rfl
 ·obtain ⟨kd,v,rfl,h,k⟩:=h
  refine dG (aD (cF (aF bQ (pv 0) aq (aO _)) (aP (aG (aU (aQ GS hr (by rfl) mS kS bS .nil bp (ae (pv 1) ao))))) (bz aM))
   (aP (aG (aU (aQ GN (hr.mono (by decide)) (by rfl) mN kN bN .nil bp (ae (pv 0) (ae (pv 1) ao))))))) ?_
  refine ⟨_,rfl,rfl,_,rfl,?_⟩
  rcases h with ⟨rfl,p,ts,rfl,hp,c1,c2,hts⟩ | ⟨hk,i,rfl,hi⟩
  ·exact cy (decide_eq_true rfl) ⟨_,rfl,p,ts,rfl,hp,c1,c2,hts,k⟩
  ·refine aW (fun z=>?_) ⟨_,rfl,_,rfl,kd,i,rfl,hk,hi,k _ (.refl _)⟩
   rw [strEq z] at hk
   exact absurd hk (by decide +kernel)
def KZ:Sp:=fun vs H Q _=>∃ (q p1:Addr) (ks:List Str) (xs:List V),vs=[.ref q,.ref p1]∧(∀ H,aS K H q (ks.map V.str))∧H p1=some (.tup xs)∧ks.length ≤ 3∧xs.length=ks.length∧(∀ (i:Nat) kd x,ks[i]? = some kd→xs[i]? = some x→He H kd x)∧∀ H',Same H H'→Q (.bl true) H'
theorem Sy:aJ ["kinds", "things"] ["kinds", "things"] (ak dR):=⟨rfl,rfl,rfl,by decide +kernel,rfl,by decide +kernel,by decide +kernel⟩
def K0:Scope:={ kind:=.function,names:=[(".0",.local),("kind",.local),("thing",.local),("is_part",.globalImplicit)],isGenerator:=false,isCoroutine:=false,more:=[] }
theorem DE:er (ak dR) K0 ["kinds", "things"] ["kind", "thing"] [none,none]:=⟨rfl,by decide +kernel,by decide +kernel,by decide +kernel,by decide +kernel,by decide +kernel⟩
theorem tP {f fP:Addr} {fd IJ:FuncData} (F:dJ K "are_parts" "are_parts" dR f fd) (T:Txt K w.params mg) (GP:aR P w K mg base bV 4 fP IJ ["kind", "thing"] NP) (kP:KI K fP) (bP:Binds K IJ ["kind", "thing"] []) (mP:mg "is_part" = some (.ref fP)):aR P w K mg base bV 5 f fd ["kinds", "things"] (KZ (K:=K)):=by
 refine F.ok Sy (fun vs H Q E h=>?_) (fun cdv A outer s H vs Q E hr h=>?_)
 ·obtain ⟨q,p1,ks,xs,rfl,_⟩:=h
  rfl
 ·obtain ⟨q,p1,ks,xs,rfl,hq,hp1,h3,hlen,hg,k⟩:=h
  refine dG (aP (aG (aU (iH (iJ bQ (bf aZ (by rfl) T.len cV (ae (pv 1) ao)) (bf aZ (by rfl) T.len cV (ae (pv 0) ao)) (aO _)) (jT (bf (lK rfl) (by rfl) T.all wH (ae (gA (N':=["kind", "thing"]) (fr:=[none,none]) DE rfl (JU rfl T.zip (ae (pv 0) (ae (pv 1) ao))) (fun C s0 H0 fp=>(ik (K:=K) (i:=0) (j:=1) rfl rfl DE.nd rfl (Or.inl rfl) rfl (Or.inl rfl))) (fun C s0 H0 fp=>iM) (fun C s0 H0 fp=>(aQ GP hr (by rfl) mP kP bP .nil bp (ae (pv 0) (ae (pv 1) ao))))) ao))))))) ?_
  refine ⟨_,rfl,p1,_,rfl,.inr (aS.of hp1),_,rfl,q,_,rfl,.inr (hq _),rfl,_,rfl,cy (decide_eq_true (by rw [length_map,hlen])) ?_⟩
  refine ⟨_,rfl,_,rfl,q,p1,rfl,⟨_,hq _⟩,⟨_,aS.of hp1⟩,fun D nD=>Cm (K:=K) (a:=q) (b:=p1) (xs:=ks.map V.str) (zs:=xs) (by rw [length_map,hlen])
    (fun i σ ys H1=>∃ (v1 v2:Option V),σ=[v1,v2]∧ys=(replicate i true).map V.bl∧Same H H1∧H1 D=some (.lst ys)) ?_ ?_ ?_ ?_⟩
  ·exact ⟨none,none,rfl,rfl,aj nD,ah⟩
  ·rintro i σ ys H1 _ ⟨v1,v2,rfl,rfl,s1,_⟩
   exact ⟨hq _,aS.of (s1 _ _ hp1)⟩
  ·rintro i y z σ ys H1 t hy hz nt ⟨v1,v2,rfl,rfl,s1,hD⟩
   rw [List.getElem?_map] at hy
   obtain ⟨kd,hkd,rfl⟩:=map_eq_some_iff.mp hy
   have hil:=(List.getElem?_eq_some_iff.mp hkd).1
   have s3:=aj (o:=.tup [.str kd,z]) nt
   refine ⟨t,_,rfl,aS.of ah,rfl,_,_,rfl,_,_,rfl,rfl,?_⟩
   exact ⟨_,rfl,_,rfl,kd,z,rfl,(hg i kd z hkd hz).same (s1.trans s3),fun H5 s5=>⟨s5 _ _ (s3 _ _ hD),dH (by rw [length_map,List.length_replicate]; omega),_,_,rfl,pj i,cL ((s1.trans s3).trans s5) nD,ah⟩⟩
  ·rintro σ ys H1 ⟨v1,v2,rfl,rfl,s1,hD⟩
   refine ⟨D,_,rfl,bh.of hD,?_⟩
   rw [tO]
   exact k H1 s1
theorem Txt.prt {pr:Params} (T:Txt K pr mg):∃ p,mg "PARTS" = some (.ref p)∧∀ x ∈ kinds,∃ q,dE K pr p x.1 (some (.ref q))∧∀ H,aS K H q (x.2.map V.str):=by
 obtain ⟨p,hp,hl,h0,h1,h2,h3,h4,h5,h6,h7,h8,h9,h10,h11,h12,h13,h14,h15,Sw,h17,h18,h19⟩:=T.Fo
 refine ⟨p,hp,fun x hx=>?_⟩
 unfold kinds at hx
 iterate 19 (rcases mem_cons.mp hx with rfl | hx; · assumption)
 rw [mem_singleton.mp hx]
 assumption
theorem NQ:∀ u ∈ jN,(u,gC u) ∈ kinds:=by decide +kernel
theorem DF:∀ u ∈ jN,(gC u).length ≤ 3∧(¬ u = "table" → ∀ k ∈ gC u,k ∈ kdN):=by decide +kernel
theorem Ap {H:Hp} {q:Addr} {d:FR} {n:Int} (h:gh H q d) (g:GoodR d n) (hn:n ≤ 1000):∃ items,H q=some (.tup (.str d.u :: items))∧items.length=(gC d.u).length∧∀ (i:Nat) kd x,(gC d.u)[i]? = some kd→items[i]? = some x→He H kd x:=by
 obtain ⟨⟨o1,o2,o3,o4,o5,_⟩,hA⟩:=h
 rcases hA with ⟨hu,b,p,e,h1,h2⟩ | ⟨hu,h1⟩
 ·obtain ⟨_,_,hne⟩:=o2 hu
  have hk:gC d.u=(["box", "targets"]:List Str):=by rw [hu]; rfl
  refine ⟨_,h1,by rw [hk]; rfl,fun i kd x a1 a2=>?_⟩
  rw [hk] at a1
  match i with
  | 0 =>
   cases a1; cases a2
   refine .inr ⟨by decide +kernel,b,rfl,?_⟩
   exact g.2.2.2 ("box",b) (by rw [hk,e]; simp)
  | 1 =>
   cases a1; cases a2
   exact .inl ⟨rfl,p,d.ts,rfl,h2,hne,g.1,fun t ht=>⟨(g.2.1 t ht).1,by have:=(g.2.1 t ht).2; omega⟩⟩
  | i + 2=>simp at a1
 ·have hl:d.is.length=(gC d.u).length:=by
   by_cases c1:d.u ∈ eA
   ·obtain ⟨t,f,e,_⟩:=o3 c1
    rw [e,kj _ c1]; rfl
   by_cases c2:d.u ∈ zb
   ·obtain ⟨b,t,f,e,_⟩:=o4 c2
    rw [e,kz _ c2]; rfl
   exact (o5 hu c1 c2).2
  refine ⟨_,h1,by rw [length_map,hl],fun i kd x a1 a2=>?_⟩
  rw [List.getElem?_map] at a2
  obtain ⟨v,hv,rfl⟩:=map_eq_some_iff.mp a2
  exact .inr ⟨(DF _ o1).2 hu kd (List.mem_of_getElem? a1),v,rfl,g.2.2.2 (kd,v) (List.mem_of_getElem? (i:=i) (List.getElem?_zip_eq_some.mpr ⟨a1,hv⟩))⟩
def NR:Sp:=fun vs H Q _=>∃ (q:Addr) (d:FR) (n:Int),vs=[.ref q]∧gh H q d∧GoodR d n∧n ≤ 1000∧∀ H',Same H H'→Q (.bl true) H'
theorem NS:aJ ["row", "word"] ["row"] (ak iy):=⟨rfl,rfl,rfl,by decide +kernel,rfl,by decide +kernel,by decide +kernel⟩
theorem Aq {f fO fA:Addr} {fd IV NT:FuncData} (F:dJ K "is_row" "is_row" iy f fd) (T:Txt K w.params mg) (GO:aR P w K mg base bV 1 fO IV ["thing"] Hf) (kO:KI K fO) (bO:Binds K IV ["thing"] []) (mO:mg "word_of" = some (.ref fO)) (GA:aR P w K mg base bV 5 fA NT ["kinds", "things"] (KZ (K:=K))) (kA:KI K fA) (bA:Binds K NT ["kinds", "things"] []) (mA:mg "are_parts" = some (.ref fA)):aR P w K mg base bV 6 f fd ["row"] NR:=by
 refine F.ok NS (fun vs H Q E h=>?_) (fun cdv A outer s H vs Q E hr h=>?_)
 ·obtain ⟨q,d,n,rfl,_⟩:=h
  rfl
 ·obtain ⟨q,d,n,rfl,hR,hg,hn,k⟩:=h
  obtain ⟨pp,hpp,h1⟩:=T.prt
  obtain ⟨items,hq,hl,hgp⟩:=Ap hR hg hn
  obtain ⟨qk,NU,hS⟩:=h1 _ (NQ _ hR.1.1)
  refine dG (aD (aG (aV (i:=1) NS.nd rfl (Or.inl rfl) (aQ GO (hr.mono (by decide)) (by rfl) mO kO bO .nil bp (ae (pv 0) ao))))
   (aP (aG (aU (iH (Bs (Cg (pv 1) (dC (v:=.ref pp) (by rfl) hpp rfl)) rfl) (jT (aQ GA hr (by rfl) mA kA bA .nil bp (ae (jm (dC (v:=.ref pp) (by rfl) hpp rfl) (pv 1) (fun _ _=>rfl)) (ae (eV BL (pv 0) (eG ai) jk) ao))))))))) ?_
  refine ⟨_,rfl,q,d.u,items,rfl,hq,?_⟩
  refine ⟨_,rfl,pp,d.u,_,rfl,rfl,NU,_,rfl,cy rfl ?_⟩
  refine ⟨_,rfl,pp,d.u,_,rfl,rfl,NU,_,rfl,1,rfl,q,_,rfl,aS.of hq,?_,fun t nt=>?_⟩
  ·intro z
   have:HT.eB (V.str d.u :: items).length 0 (some 1)=0:=z.1
   simp [HT.eB] at this
  rw [IU]
  exact ⟨qk,t,gC d.u,items,rfl,hS,ah,(DF _ hR.1.1).1,hl,fun i kd x a1 a2=>(hgp i kd x a1 a2).same (aj nt),fun H' s'=>k H' ((aj nt).trans s')⟩
def NV:Sp:=fun vs H Q _=>∃ (q:Addr) (u:Str) (ts:List Int) (n:Int),vs=[.ref q,.int n]∧lZ H q u ts∧ts.length ≤ 16∧(∀ t ∈ ts,0 ≤ t∧t < n)∧∀ H',Same H H'→Q (.bl true) H'
theorem Sz:aJ ["row", "how_many"] ["row", "how_many"] (ak cO):=⟨rfl,rfl,rfl,by decide +kernel,rfl,by decide +kernel,by decide +kernel⟩
def K9:Scope:={ kind:=.function,names:=[(".0",.local),("target",.local),("how_many",.free)],isGenerator:=false,isCoroutine:=false,more:=[] }
theorem DG:er (ak cO) K9 ["row", "how_many"] ["target", "how_many"] [none,some 1]:=⟨rfl,by decide +kernel,by decide +kernel,by decide +kernel,by decide +kernel,by decide +kernel⟩
theorem mX {f fT:Addr} {fd CG:FuncData} (F:dJ K "stays_within" "stays_within" cO f fd) (T:Txt K w.params mg) (GT:aR P w K mg base bV 1 fT CG ["row"] lR) (kT:KI K fT) (bT:Binds K CG ["row"] []) (mT:mg "targets_of" = some (.ref fT)):aR P w K mg base bV 2 f fd ["row", "how_many"] NV:=by
 refine F.ok Sz (fun vs H Q E h=>?_) (fun cdv A outer s H vs Q E hr h=>?_)
 ·obtain ⟨q,u,ts,n,rfl,_⟩:=h
  rfl
 ·obtain ⟨q,u,ts,n,rfl,hR,Sw,hts,k⟩:=h
  refine dG (aP (aG (aU (bf (lK rfl) (by rfl) T.all wH (ae (gA (N':=["target", "how_many"]) (fr:=[none,some 1]) DG rfl (dI (aQ GT hr (by rfl) mT kT bT .nil bp (ae (pv 0) ao))) (fun C s0 H0 fp=>(cD (i:=0) DG.nd rfl (Or.inl rfl))) (fun C s0 H0 fp=>iM) (fun C s0 H0 fp=>(iJ iu (pv 0) (pv 1) (aO _)))) ao))))) ?_
  refine ⟨_,rfl,q,u,ts,rfl,hR,fun l G1 s1 nl hl=>?_⟩
  refine ⟨l,rfl,⟨_,bh.of hl⟩,fun D nD=>gD (K:=K) (a:=l) (xs:=ts.map V.int) (fun i σ ys G=>∃ v:Option V,σ=[v,some (.int n)]∧i ≤ 16∧ys=(replicate i true).map V.bl∧Same G1 G∧G D=some (.lst ys)) ?_ ?_ ?_ ?_⟩
  ·exact ⟨none,rfl,zero_le _,rfl,aj nD,ah⟩
  ·rintro i σ ys G _ ⟨v,rfl,_,_,s2,_⟩
   exact bh.of (s2 _ _ hl)
  ·rintro i x σ ys G hx ⟨v,rfl,_,rfl,s2,hD⟩
   rw [List.getElem?_map] at hx
   obtain ⟨t,ht,rfl⟩:=map_eq_some_iff.mp hx
   have hi:=(List.getElem?_eq_some_iff.mp ht).1
   refine ⟨_,rfl,_,rfl,_,_,rfl,rfl,hD,dH (by rw [length_map,List.length_replicate]; omega),_,rfl,by omega,?_,cL s2 nD,ah⟩
   show _ ++ [V.bl (decide (t < n))]=_
   rw [decide_eq_true (hts t (List.mem_of_getElem? ht)).2]
   exact pj i
  rintro σ ys G ⟨v,rfl,_,rfl,s2,hD⟩
  refine ⟨D,_,rfl,bh.of hD,?_⟩
  rw [tO]
  exact k G (s1.trans s2)
end
def IW (d:FR) (r s:Int):Prop:=s ∈ d.ts∨(¬ d.u ∈ cS∧s=r + 1)
def NW (ds:List FR) (p:List Da):Prop:=∃ (r:Nat) (d:FR),ds[r]? = some d∧(p=oX r∨(p=tH r∧∃ s,IW d r s)∨∃ s,p=tI r s∧IW d r s)
def SA (x:Wi):Prop:=(x.u = "look" ∨ x.u = "count" ∨ x.u = "guard")∧vJ "number" x.n∧vJ "box" x.b
def LH (u:Str):List Str:=if u = "count" then ["number"] else ["number", "box"]
theorem gh.at_ {H:Hp} {q:Addr} {d:FR} (h:gh H q d):lZ H q d.u d.ts:=by
 obtain ⟨items,h1,_,h2,_⟩:=h.parts
 exact ⟨items,h1,h2⟩
theorem lg {xs:List V} {v:V} {n:Nat} (hl:xs.length=n + 1) (h:xs[n]? = some v):lX xs (-1)=some v:=by
 unfold lX yp
 rw [if_neg (by decide),if_pos (by omega)]
 show xs[((-1:Int) + (xs.length:Int)).toNat]? = _
 rw [show ((-1:Int) + (xs.length:Int)).toNat=n by omega]
 exact h
section
variable {P:Program} {w:World} {K:Frag} {mg:Str→Option Value} {base:Heap}
def my (ds:List FR):Prop:=0 < ds.length∧ds.length ≤ 1000∧(∀ d ∈ ds,GoodR d (ds.length:Nat))∧∃ d,ds[ds.length - 1]? = some d∧d.u ∈ cS
def NX:Sp:=fun vs H Q _=>∃ (lr:Addr) (ds:List FR),vs=[.ref lr]∧gq H lr ds∧my ds∧∀ H',Same H H'→Q .non H'
theorem NY:aJ ["rows", "at", "row"] ["rows"] (ak d6):=⟨rfl,rfl,rfl,by decide +kernel,rfl,by decide +kernel,by decide +kernel⟩
theorem qx {f fR fS fG:Addr} {fd IY rC NJ:FuncData} (F:dJ K "check_rows" "check_rows" d6 f fd) (T:Txt K w.params mg) (GR:aR P w K mg base bV 6 fR IY ["row"] NR) (kR:KI K fR) (bR:Binds K IY ["row"] []) (mR:mg "is_row" = some (.ref fR)) (GS:aR P w K mg base bV 2 fS rC ["row", "how_many"] NV) (kS:KI K fS) (bS:Binds K rC ["row", "how_many"] []) (mS:mg "stays_within" = some (.ref fS)) (GG:aR P w K mg base bV 1 fG NJ ["row"] wZ) (kG:KI K fG) (bG:Binds K NJ ["row"] []) (mG:mg "goes_on" = some (.ref fG)):aR P w K mg base bV 7 f fd ["rows"] NX:=by
 refine F.ok NY (fun vs H Q E h=>?_) (fun cdv A outer s H vs Q E hr h=>?_)
 ·obtain ⟨lr,ds,rfl,_⟩:=h
  rfl
 ·obtain ⟨lr,ds,rfl,hR,hG,k⟩:=h
  obtain ⟨tm,hmr⟩:=T.vi
  obtain ⟨hl0,hl1,hgd,dl,hdl,hno⟩:=hG
  obtain ⟨qs,h0,hql,hqr⟩:=id hR
  have LI:(qs.map V.ref).length=ds.length:=by rw [length_map,hql]
  refine dG (aD (cF (j3 (iG (gj (bf dA (by rfl) T.HY jd (ae (pv 0) (ae (g9 (v:=.ty "list") (by rfl) T.list hU rfl) ao))))) (iZ (aF bQ (bf aZ (by rfl) T.len cV (ae (pv 0) ao)) ai (aO _)))).pt (aP (aG i3)) (bz aM))
   (aD (aG (gM PassesOwn.never rfl (sj rfl T.enum (ae (eV iK (pv 0) jk (eG (dC (v:=.int 4000) (by rfl) hmr ⟨_,rfl⟩))) ao)) (ik (K:=K) (i:=1) (j:=2) rfl rfl NY.nd rfl (Or.inl rfl) rfl (Or.inl rfl)) (aw (bU (j3 (iG (gj (aQ GR hr (by rfl) mR kR bR .nil bp (ae (pv 2) ao)))) (iZ (iG (gj (aQ GS (hr.mono (by decide)) (by rfl) mS kS bS .nil bp (ae (pv 2) (ae (bf aZ (by rfl) T.len cV (ae (pv 0) ao)) ao))))))).pt lA aM))))
   (aD (cF (aF qI (bf aZ (by rfl) T.len cV (ae (pv 0) ao)) (dC (v:=.int 4000) (by rfl) hmr ⟨_,rfl⟩) (aO _)) (aP (aG i3)) (bz aM))
   (aP (cF (gj (aQ GG (hr.mono (by decide)) (by rfl) mG kG bG .nil bp (ae (au aK (pv 0) (i6 gN ai) (fun _ _=>rfl)) ao))) (aP (aG i3)) (bz aM)))))) ?_
  refine ⟨_,rfl,_,_,_,_,rfl,.lst h0,lY,_,rfl,aW (by decide) ?_⟩
  refine ⟨_,rfl,lr,_,rfl,.inl (bh.of h0),rfl,_,rfl,aW (fun z=>?_) ?_⟩
  ·have:=V.int.inj (of_decide_eq_true z)
   omega
  refine ⟨_,rfl,_,rfl,lr,_,rfl,bh.of h0,fun lc IZ=>?_⟩
  rw [show gY (qs.map V.ref) none (some 4000)=(qs.map V.ref).take 4000 from oR _ 4000,List.take_of_length_le (by omega)]
  have s1:=aj (o:=.lst (qs.map V.ref)) IZ
  have za:upd H lc (.lst (qs.map V.ref)) lc=_:=ah
  generalize upd H lc (.lst (qs.map V.ref))=G1 at s1 za ⊢
  refine ⟨lc,rfl,⟨_,bh.of za⟩,oJ (K:=K) (xs:=qs.map V.ref) (fun i σ G=>∃ v2 v3:Option V,σ=[some (.ref lr),v2,v3]∧Same G1 G) ?_ ?_ ?_ ?_⟩
  ·exact ⟨none,none,rfl,.refl _⟩
  ·rintro i σ G _ ⟨v2,v3,rfl,s2⟩
   exact bh.of (s2 _ _ za)
  ·rintro i x σ G tt hx NZ ⟨v2,v3,rfl,s2⟩
   rw [List.getElem?_map] at hx
   obtain ⟨q,hq,rfl⟩:=map_eq_some_iff.mp hx
   have hil:i < ds.length:=by have:=(List.getElem?_eq_some_iff.mp hq).1; omega
   have hd:ds[i]? = some ds[i]:=List.getElem?_eq_getElem hil
   have hg:=hgd _ (List.getElem_mem hil)
   generalize ds[i]=d at hd hg
   have s3:=s2.trans (aj (o:=.tup [V.int i,.ref q]) NZ)
   have htt:upd G tt (.tup [V.int i,.ref q]) tt=_:=ah
   generalize upd G tt (.tup [V.int i,.ref q])=G3 at s3 htt ⊢
   have Hg:=s1.trans s3
   refine ⟨tt,_,rfl,aS.of htt,rfl,_,_,rfl,_,_,rfl,rfl,?_⟩
   have hF:=(hqr i q d hq hd).same Hg
   refine ⟨_,rfl,q,d,_,rfl,hF,hg,by omega,fun G4 s4=>⟨_,rfl,aW (by decide) ?_⟩⟩
   refine ⟨_,rfl,_,rfl,lr,_,rfl,.inl (bh.of (s4 _ _ (Hg _ _ h0))),q,d.u,d.ts,(ds.length:Nat),by rw [LI]; rfl,(hF.same s4).at_,hg.1,hg.2.1,fun G5 s5=>⟨_,rfl,aW (by decide) ?_⟩⟩
   exact ⟨_,_,rfl,(s3.trans s4).trans s5⟩
  ·rintro σ G ⟨v2,v3,rfl,s2⟩
   have s3:=s1.trans s2
   have h3:=s3 _ _ h0
   refine ⟨_,rfl,lr,_,rfl,.inl (bh.of h3),_,_,rfl,rfl,_,rfl,aW (fun z=>by have:=of_decide_eq_true z; omega) ?_⟩
   have La:qs[ds.length - 1]? = some (qs[ds.length - 1]'(by omega)):=List.getElem?_eq_getElem _
   generalize (qs[ds.length - 1]'(by omega))=q at La
   obtain ⟨items,hq,_⟩:=((hqr _ q dl La hdl).same s3).parts
   have hat:lX (qs.map V.ref) (-1)=some (.ref q):=lg (n:=ds.length - 1) (by omega) (by rw [List.getElem?_map,La]; rfl)
   refine ⟨_,rfl,_,rfl,lr,_,_,.ref q,rfl,rfl,bh.of h3,hat,q,dl.u,items,rfl,hq,_,rfl,?_⟩
   rw [decide_eq_true hno]
   exact aW (by decide) (k _ s3)
def N0:Sp:=fun vs H Q _=>∃ (lr p:Addr) (ds:List FR) (pl:List Da),vs=[.ref lr,.ref p]∧gq H lr ds∧my ds∧H p=some (.tup (pl.map Ew))∧NW ds pl∧∀ H',Same H H'→Q (.bl true) H'
theorem Hh:aJ ["rows", "place", "word", "r", "ways"] ["rows", "place"] (ak fj):=⟨rfl,rfl,rfl,by decide +kernel,rfl,by decide +kernel,by decide +kernel⟩
theorem vz {f fO fH fW:Addr} {fd IV fdH rF:FuncData} (F:dJ K "is_place" "is_place" fj f fd) (T:Txt K w.params mg) (GO:aR P w K mg base bV 1 fO IV ["thing"] Hf) (kO:KI K fO) (bO:Binds K IV ["thing"] []) (mO:mg "word_of" = some (.ref fO)) (GH:aR P w K mg base bV 1 fH fdH ["thing"] KU) (kH:KI K fH) (bH:Binds K fdH ["thing"] []) (mH:mg "is_whole" = some (.ref fH)) (GW:aR P w K mg base bV 2 fW rF ["rows", "r"] (Dz (K:=K))) (kW:KI K fW) (bW:Binds K rF ["rows", "r"] []) (mW:mg "ways_of" = some (.ref fW)):aR P w K mg base bV 3 f fd ["rows", "place"] N0:=by
 refine F.ok Hh (fun vs H Q E h=>?_) (fun cdv A outer s H vs Q E hr h=>?_)
 ·obtain ⟨lr,p,ds,pl,rfl,_⟩:=h
  rfl
 ·obtain ⟨lr,p,ds,pl,rfl,hR,hG,hp,hpl,k⟩:=h
  have SD:=hr.mono (show 1 ≤ _ by decide)
  obtain ⟨pp,hpp,_,h1,h2,h3⟩:=T.CD
  obtain ⟨qs,g1,g2,g3⟩:=id hR
  obtain ⟨r,d,hd,hpl⟩:=hpl
  have hrl:=(List.getElem?_eq_some_iff.mp hd).1
  have hgd:=hG.2.2.1 d (List.mem_of_getElem? hd)
  obtain ⟨qs',q,y1,y2,y3,y4⟩:=hR.get hd
  refine dG (aD (aG (aV (i:=2) Hh.nd rfl (Or.inl rfl) (aQ GO SD (by rfl) mO kO bO .nil bp (ae (pv 1) ao))))
   (aD (cF (j3 (Bv (zV (pv 2) (dC (v:=.ref pp) (by rfl) hpp rfl)) rfl) (iZ (aF L6 (bf aZ (by rfl) T.len cV (ae (pv 1) ao)) (jm (dC (v:=.ref pp) (by rfl) hpp rfl) (pv 2) (fun _ _=>rfl)) (aO _)))).pt (aP (aG (aU lT))) (bz aM))
   (aD (aG (aV (i:=3) Hh.nd rfl (Or.inl rfl) (au az (pv 1) ai (fun _ _=>rfl))))
   (aD (cF (j3 (iG (gj (aQ GH SD (by rfl) mH kH bH .nil bp (ae (pv 3) ao)))) (iZ (iG (j5 om iu ai (pv 3) (bf aZ (by rfl) T.len cV (ae (pv 0) ao)))))).pt (aP (aG (aU lT))) (bz aM))
   (aD (cF (aF bQ (pv 2) aq (aO _)) (aP (aG (aU lT))) (bz aM))
   (aD (aG (aV (i:=4) Hh.nd rfl (Or.inl rfl) (aQ GW hr (by rfl) mW kW bW .nil bp (ae (pv 0) (ae (pv 3) ao)))))
   (aD (cF (aF bQ (pv 2) aq (aO _)) (aP (aG (aU (iJ qI (bf aZ (by rfl) T.len cV (ae (pv 4) ao)) ai (aO _))))) (bz aM))
   (aP (aG (aU (iH (aQ GH SD (by rfl) mH kH bH .nil bp (ae (au az (pv 1) ai (fun _ _=>rfl)) ao)) (jT (iJ cX (au az (pv 1) ai (fun _ _=>rfl)) (pv 4) rfl))))))))))))) ?_
  rcases hpl with rfl | ⟨rfl,sw,hsw⟩ | ⟨sw,rfl,hsw⟩
  ·skip
   have hp':H p=some (.tup [.str "before",.int (r:Int)]):=hp
   refine ⟨_,rfl,p, "before",_,rfl,hp',?_⟩
   refine ⟨_,rfl,pp, "before",_,rfl,rfl,h1,_,rfl,aW Bool.false_ne_true ?_⟩
   refine ⟨_,rfl,p,_,rfl,.inr (aS.of hp'),_,rfl,pp, "before",_,rfl,rfl,h1,rfl,_,rfl,aW (by show ¬ ((!decide (V.int 2=V.int 2))=true); decide) ?_⟩
   refine ⟨_,rfl,p,_,1,_,rfl,rfl,aS.of hp',at1 _ _ _,?_⟩
   refine ⟨_,rfl,_,rfl,_,rfl,aW Bool.false_ne_true ?_⟩
   refine ⟨_,rfl,_,_,rfl,rfl,_,rfl,cy (decide_eq_true (by omega)) ?_⟩
   refine ⟨_,rfl,lr,_,rfl,.inl (bh.of g1),_,_,rfl,rfl,_,rfl,aW (by rw [decide_eq_true (by rw [length_map,g2]; omega)]; decide) ?_⟩
   exact ⟨_,rfl,rfl,_,rfl,cy (decide_eq_true rfl) (k _ (.refl _))⟩
  ·skip
   have hp':H p=some (.tup [.str "after",.int (r:Int)]):=hp
   refine ⟨_,rfl,p, "after",_,rfl,hp',?_⟩
   refine ⟨_,rfl,pp, "after",_,rfl,rfl,h2,_,rfl,aW Bool.false_ne_true ?_⟩
   refine ⟨_,rfl,p,_,rfl,.inr (aS.of hp'),_,rfl,pp, "after",_,rfl,rfl,h2,rfl,_,rfl,aW (by show ¬ ((!decide (V.int 2=V.int 2))=true); decide) ?_⟩
   refine ⟨_,rfl,p,_,1,_,rfl,rfl,aS.of hp',at1 _ _ _,?_⟩
   refine ⟨_,rfl,_,rfl,_,rfl,aW Bool.false_ne_true ?_⟩
   refine ⟨_,rfl,_,_,rfl,rfl,_,rfl,cy (decide_eq_true (by omega)) ?_⟩
   refine ⟨_,rfl,lr,_,rfl,.inl (bh.of g1),_,_,rfl,rfl,_,rfl,aW (by rw [decide_eq_true (by rw [length_map,g2]; omega)]; decide) ?_⟩
   refine ⟨_,rfl,rfl,_,rfl,aW (by decide) ?_⟩
   refine ⟨_,rfl,_,rfl,lr,q,_,r,d.u,d.ts,rfl,bh.of y1,y3,y4.at_,hgd.1,fun l ms H1 s1 nl hl' Er hnd hmem=>?_⟩
   refine ⟨_,rfl,rfl,_,rfl,cy (decide_eq_true rfl) ?_⟩
   refine ⟨_,rfl,l,_,rfl,.inl (bh.of hl'),_,_,rfl,rfl,?_⟩
   have hm:sw ∈ ms:=(hmem sw).mpr hsw
   have:=List.length_pos_of_mem hm
   show Q (.bl (decide ((0:Int) < ((ms.map V.int).length:Nat)))) H1
   rw [decide_eq_true (show (0:Int) < ((ms.map V.int).length:Nat) by rw [length_map]; omega)]
   exact k _ s1
  ·skip
   have hp':H p=some (.tup [.str "way",.int (r:Int),.int sw]):=hp
   refine ⟨_,rfl,p, "way",_,rfl,hp',?_⟩
   refine ⟨_,rfl,pp, "way",_,rfl,rfl,h3,_,rfl,aW Bool.false_ne_true ?_⟩
   refine ⟨_,rfl,p,_,rfl,.inr (aS.of hp'),_,rfl,pp, "way",_,rfl,rfl,h3,rfl,_,rfl,aW (by show ¬ ((!decide (V.int 3=V.int 3))=true); decide) ?_⟩
   refine ⟨_,rfl,p,_,1,_,rfl,rfl,aS.of hp',at1 _ _ _,?_⟩
   refine ⟨_,rfl,_,rfl,_,rfl,aW Bool.false_ne_true ?_⟩
   refine ⟨_,rfl,_,_,rfl,rfl,_,rfl,cy (decide_eq_true (by omega)) ?_⟩
   refine ⟨_,rfl,lr,_,rfl,.inl (bh.of g1),_,_,rfl,rfl,_,rfl,aW (by rw [decide_eq_true (by rw [length_map,g2]; omega)]; decide) ?_⟩
   refine ⟨_,rfl,rfl,_,rfl,aW (by decide) ?_⟩
   refine ⟨_,rfl,_,rfl,lr,q,_,r,d.u,d.ts,rfl,bh.of y1,y3,y4.at_,hgd.1,fun l ms H1 s1 nl hl' Er hnd hmem=>?_⟩
   refine ⟨_,rfl,rfl,_,rfl,aW (by decide) ?_⟩
   have hp1:=s1 _ _ hp'
   refine ⟨_,rfl,p,_,2,_,rfl,rfl,aS.of hp1,at2 _ _ _ _,sw,rfl,_,rfl,cy rfl ?_⟩
   refine ⟨_,rfl,p,_,2,.int sw,rfl,rfl,aS.of hp1,at2 _ _ _ _,_,rfl,l,_,rfl,.inl (bh.of hl'),rfl,qW _,?_⟩
   show Q (.bl (inV (.int sw) (ms.map V.int))) H1
   rw [sy,decide_eq_true ((hmem sw).mpr hsw)]
   exact k _ s1
theorem Txt.whs {pr:Params} (T:Txt K pr mg):∃ p,mg "WHATS" = some (.ref p)∧∀ u:Str,(u = "look" ∨ u = "count" ∨ u = "guard")→∃ q,dE K pr p u (some (.ref q))∧∀ H,aS K H q ((LH u).map V.str):=by
 obtain ⟨p,hp,hl,h0,h1,h2⟩:=T.Fp
 refine ⟨p,hp,fun u hu=>?_⟩
 rcases hu with rfl | rfl | rfl
 ·exact h0
 ·exact h1
 ·exact h2
theorem vA {H:Hp} {x:Wi} (g:SA x):∃ items,x.vs=.str x.u :: items∧(LH x.u).length ≤ 3∧items.length=(LH x.u).length∧∀ (i:Nat) kd v,(LH x.u)[i]? = some kd→items[i]? = some v→He H kd v:=by
 have h0:He H "number" (.int x.n):=.inr ⟨by decide +kernel,_,rfl,g.2.1⟩
 have h1:He H "box" (.int x.b):=.inr ⟨by decide +kernel,_,rfl,g.2.2⟩
 unfold Wi.vs LH
 split
 ·refine ⟨_,rfl,by decide,rfl,fun i kd v a b=>?_⟩
  match i with
  | 0=>cases a; cases b; exact h0
  | i + 1=>simp at a
 ·refine ⟨_,rfl,by decide,rfl,fun i kd v a b=>?_⟩
  match i with
  | 0=>cases a; cases b; exact h0
  | 1=>cases a; cases b; exact h1
  | i + 2=>simp at a
def N2:Sp:=fun vs H Q _=>∃ (h:Addr) (x:Wi),vs=[.ref h]∧H h=some (.tup x.vs)∧SA x∧∀ H',Same H H'→Q (.bl true) H'
theorem N3:aJ ["what", "word"] ["what"] (ak gJ):=⟨rfl,rfl,rfl,by decide +kernel,rfl,by decide +kernel,by decide +kernel⟩
theorem xg {f fO fA:Addr} {fd IV NT:FuncData} (F:dJ K "is_what" "is_what" gJ f fd) (T:Txt K w.params mg) (GO:aR P w K mg base bV 1 fO IV ["thing"] Hf) (kO:KI K fO) (bO:Binds K IV ["thing"] []) (mO:mg "word_of" = some (.ref fO)) (GA:aR P w K mg base bV 5 fA NT ["kinds", "things"] (KZ (K:=K))) (kA:KI K fA) (bA:Binds K NT ["kinds", "things"] []) (mA:mg "are_parts" = some (.ref fA)):aR P w K mg base bV 6 f fd ["what"] N2:=by
 refine F.ok N3 (fun vs H Q E h=>?_) (fun cdv A outer s H vs Q E hr h=>?_)
 ·obtain ⟨h,x,rfl,_⟩:=h
  rfl
 ·obtain ⟨h,x,rfl,hh,hx,k⟩:=h
  obtain ⟨pw,Er,h1⟩:=T.whs
  obtain ⟨qk,NU,hS⟩:=h1 _ hx.1
  obtain ⟨items,e,h3,hl,_⟩:=vA (H:=H) hx
  rw [e] at hh
  refine dG (aD (aG (aV (i:=1) N3.nd rfl (Or.inl rfl) (aQ GO (hr.mono (by decide)) (by rfl) mO kO bO .nil bp (ae (pv 0) ao))))
   (aP (aG (aU (iH (Bs (Cg (pv 1) (dC (v:=.ref pw) (by rfl) Er rfl)) rfl) (jT (aQ GA hr (by rfl) mA kA bA .nil bp (ae (jm (dC (v:=.ref pw) (by rfl) Er rfl) (pv 1) (fun _ _=>rfl)) (ae (eV BL (pv 0) (eG ai) jk) ao))))))))) ?_
  refine ⟨_,rfl,h,x.u,items,rfl,hh,?_⟩
  refine ⟨_,rfl,pw,x.u,_,rfl,rfl,NU,_,rfl,cy rfl ?_⟩
  refine ⟨_,rfl,pw,x.u,_,rfl,rfl,NU,_,rfl,1,rfl,h,_,rfl,aS.of hh,?_,fun t nt=>?_⟩
  ·intro z
   have:HT.eB (V.str x.u :: items).length 0 (some 1)=0:=z.1
   simp [HT.eB] at this
  rw [IU]
  refine ⟨qk,t,LH x.u,items,rfl,hS,ah,h3,hl,?_,fun H' s'=>k H' ((aj nt).trans s')⟩
  obtain ⟨items',e',_,_,hp⟩:=vA (H:=upd H t (.tup items)) hx
  rw [e] at e'
  cases e'
  exact hp
def I0 (ds:List FR) (x:Wi):Prop:=NW ds x.p∧SA x
def N4:Sp:=fun vs H Q _=>∃ (lr q:Addr) (ds:List FR) (x:Wi),vs=[.ref lr,.ref q]∧gq H lr ds∧my ds∧qq H q x∧I0 ds x∧∀ H',Same H H'→Q (.bl true) H'
theorem SE:aJ ["rows", "wish"] ["rows", "wish"] (ak gK):=⟨rfl,rfl,rfl,by decide +kernel,rfl,by decide +kernel,by decide +kernel⟩
theorem xh {f fL fW:Addr} {fd N5 rF:FuncData} (F:dJ K "is_wish" "is_wish" gK f fd) (T:Txt K w.params mg) (GL:aR P w K mg base bV 3 fL N5 ["rows", "place"] N0) (kL:KI K fL) (bL:Binds K N5 ["rows", "place"] []) (mL:mg "is_place" = some (.ref fL)) (GW:aR P w K mg base bV 6 fW rF ["what"] N2) (kW:KI K fW) (bW:Binds K rF ["what"] []) (mW:mg "is_what" = some (.ref fW)):aR P w K mg base bV 7 f fd ["rows", "wish"] N4:=by
 refine F.ok SE (fun vs H Q E h=>?_) (fun cdv A outer s H vs Q E hr h=>?_)
 ·obtain ⟨lr,q,ds,x,rfl,_⟩:=h
  rfl
 ·obtain ⟨lr,q,ds,x,rfl,hR,hG,hW,hx,k⟩:=h
  obtain ⟨p,h,hq,hp,fl,hh⟩:=hW
  refine dG (aP (aG (aU (iH (bf dA (by rfl) T.HY jd (ae (pv 1) (ae (g9 (v:=.ty "tuple") (by rfl) T.tuple kI rfl) ao))) (iH (iJ bQ (bf aZ (by rfl) T.len cV (ae (pv 1) ao)) ai (aO _)) (iH (aQ GL (hr.mono (by decide)) (by rfl) mL kL bL .nil bp (ae (pv 0) (ae (au az (pv 1) ai (fun _ _=>rfl)) ao))) (jT (aQ GW hr (by rfl) mW kW bW .nil bp (ae (au az (pv 1) ai (fun _ _=>rfl)) ao))))))))) ?_
  refine ⟨_,rfl,_,_,_,_,rfl,.tup hq,ig,_,rfl,cy rfl ?_⟩
  refine ⟨_,rfl,q,_,rfl,.inr (aS.of hq),rfl,_,rfl,cy (decide_eq_true rfl) ?_⟩
  refine ⟨_,rfl,_,rfl,q,_,0,_,rfl,rfl,aS.of hq,at0 _ _,lr,p,ds,x.p,rfl,hR,hG,hp,hx.1,fun H1 s1=>⟨_,rfl,cy rfl ?_⟩⟩
  exact ⟨_,rfl,q,_,1,_,rfl,rfl,aS.of (s1 _ _ hq),at1 _ _ _,h,x,rfl,s1 _ _ hh,hx.2,fun H2 s2=>k H2 (s1.trans s2)⟩
def N6:Sp:=fun vs H Q _=>∃ (lr lw:Addr) (ds:List FR) (xs:List Wi),vs=[.ref lr,.ref lw]∧gq H lr ds∧my ds∧jg H lw xs∧xs.length ≤ 12∧(∀ x ∈ xs,I0 ds x)∧∀ H',Same H H'→Q .non H'
theorem N7:aJ ["rows", "wishes", "at", "wish"] ["rows", "wishes"] (ak du):=⟨rfl,rfl,rfl,by decide +kernel,rfl,by decide +kernel,by decide +kernel⟩
theorem mZ {f fW:Addr} {fd rF:FuncData} (F:dJ K "check_wishes" "check_wishes" du f fd) (T:Txt K w.params mg) (GW:aR P w K mg base bV 7 fW rF ["rows", "wish"] N4) (kW:KI K fW) (bW:Binds K rF ["rows", "wish"] []) (mW:mg "is_wish" = some (.ref fW)):aR P w K mg base bV 8 f fd ["rows", "wishes"] N6:=by
 refine F.ok N7 (fun vs H Q E h=>?_) (fun cdv A outer s H vs Q E hr h=>?_)
 ·obtain ⟨lr,lw,ds,xs,rfl,_⟩:=h
  rfl
 ·obtain ⟨lr,lw,ds,xs,rfl,hR,hG,hW,h12,hx,k⟩:=h
  obtain ⟨tm,hm⟩:=T.qo
  obtain ⟨qs,h0,hql,zm⟩:=hW
  have LI:(qs.map V.ref).length=xs.length:=by rw [length_map,hql]
  refine dG (aD (cF (iG (gj (bf dA (by rfl) T.HY jd (ae (pv 1) (ae (g9 (v:=.ty "list") (by rfl) T.list hU rfl) ao))))) (aP (aG i3)) (bz aM))
   (aD (aG (gM PassesOwn.never rfl (sj rfl T.enum (ae (eV iK (pv 1) jk (eG (dC (v:=.int 12) (by rfl) hm ⟨_,rfl⟩))) ao)) (ik (K:=K) (i:=2) (j:=3) rfl rfl N7.nd rfl (Or.inl rfl) rfl (Or.inl rfl)) (aw (bU (iG (gj (aQ GW hr (by rfl) mW kW bW .nil bp (ae (pv 0) (ae (pv 3) ao))))) lA aM))))
   (aP (cF (aF qI (bf aZ (by rfl) T.len cV (ae (pv 1) ao)) (dC (v:=.int 12) (by rfl) hm ⟨_,rfl⟩) (aO _)) (aP (aG i3)) (bz aM))))) ?_
  refine ⟨_,rfl,_,_,_,_,rfl,.lst h0,lY,_,rfl,aW (by decide) ?_⟩
  refine ⟨_,rfl,_,rfl,lw,_,rfl,bh.of h0,fun lc IZ=>?_⟩
  rw [show gY (qs.map V.ref) none (some 12)=(qs.map V.ref).take 12 from oR _ 12,List.take_of_length_le (by omega)]
  have s1:=aj (o:=.lst (qs.map V.ref)) IZ
  have za:upd H lc (.lst (qs.map V.ref)) lc=_:=ah
  generalize upd H lc (.lst (qs.map V.ref))=G1 at s1 za ⊢
  refine ⟨lc,rfl,⟨_,bh.of za⟩,oJ (K:=K) (xs:=qs.map V.ref) (fun i σ G=>∃ v2 v3:Option V,σ=[some (.ref lr),some (.ref lw),v2,v3]∧Same G1 G) ?_ ?_ ?_ ?_⟩
  ·exact ⟨none,none,rfl,.refl _⟩
  ·rintro i σ G _ ⟨v2,v3,rfl,s2⟩
   exact bh.of (s2 _ _ za)
  ·rintro i x σ G tt hx' NZ ⟨v2,v3,rfl,s2⟩
   rw [List.getElem?_map] at hx'
   obtain ⟨q,hq,rfl⟩:=map_eq_some_iff.mp hx'
   have hil:i < xs.length:=by have:=(List.getElem?_eq_some_iff.mp hq).1; omega
   have hd:xs[i]? = some xs[i]:=List.getElem?_eq_getElem hil
   have hg:=hx _ (List.getElem_mem hil)
   generalize xs[i]=d at hd hg
   have s3:=s2.trans (aj (o:=.tup [V.int i,.ref q]) NZ)
   have htt:upd G tt (.tup [V.int i,.ref q]) tt=_:=ah
   generalize upd G tt (.tup [V.int i,.ref q])=G3 at s3 htt ⊢
   have Hg:=s1.trans s3
   refine ⟨tt,_,rfl,aS.of htt,rfl,_,_,rfl,_,_,rfl,rfl,?_⟩
   exact ⟨_,rfl,_,rfl,lr,q,ds,d,rfl,hR.same Hg,hG,(zm i q d hq hd).tups (.of Hg),hg,fun G4 s4=>⟨_,rfl,aW (by decide) ⟨_,_,rfl,s3.trans s4⟩⟩⟩
  ·rintro σ G ⟨v2,v3,rfl,s2⟩
   have s3:=s1.trans s2
   exact ⟨_,rfl,lw,_,rfl,.inl (bh.of (s3 _ _ h0)),_,_,rfl,rfl,_,rfl,aW (fun z=>by have:=of_decide_eq_true z; omega) (k _ s3)⟩
end
theorem CR.congr {d:List (Key × V)} {ks ks':List Int} {f:Int→Int} (r:CR d ks f) (h:∀ i,i ∈ ks'↔i ∈ ks):CR d ks' f:=⟨r.isI,fun j=>by
 rw [r.val j]
 by_cases c:j ∈ ks
 ·rw [if_pos c,if_pos ((h j).mpr c)]
 ·rw [if_neg c,if_neg fun z=>c ((h j).mp z)]⟩
theorem tQ (xs:List Wi):(lQ xs).length ≤ xs.length:=by
 unfold lQ
 rw [length_map]
 exact length_filter_le _ _
theorem Lb (x:Wi):∃ r,x.vs=.str x.u :: .int x.n :: r:=by unfold Wi.vs; split <;> exact ⟨_,rfl⟩
section
variable {P:Program} {w:World} {K:Frag} {mg:Str→Option Value} {base:Heap}
def N8:Sp:=fun vs H Q _=>∃ (lw:Addr) (xs:List Wi),vs=[.ref lw,.str "count"]∧jg H lw xs∧xs.length ≤ 12∧∀ (l:Addr) (ms:List Int) (H':Hp),Same H H'→H l=none→H' l=some (.lst (ms.map V.int))→ms.length ≤ 12→(∀ j,j ∈ lQ xs↔j ∈ ms)→Q (.ref l) H'
theorem SG:aJ ["wishes", "word"] ["wishes", "word"] (ak cq):=⟨rfl,rfl,rfl,by decide +kernel,rfl,by decide +kernel,by decide +kernel⟩
def Lc:Scope:={ kind:=.function,names:=[(".0",.local),("place",.local),("what",.local),("word",.free)],isGenerator:=false,isCoroutine:=false,more:=[] }
theorem DH:er (ak cq) Lc ["wishes", "word"] ["place", "what", "word"] [none,none,some 1]:=⟨rfl,by decide +kernel,by decide +kernel,by decide +kernel,by decide +kernel,by decide +kernel⟩
theorem N9 {f:Addr} {fd:FuncData} (F:dJ K "numbers_of_whats" "numbers_of_whats" cq f fd) (T:Txt K w.params mg)  : aR P w K mg base bV 1 f fd ["wishes", "word"] N8:=by
 refine F.ok SG (fun vs H Q E h=>?_) (fun cdv A outer s H vs Q E hr h=>?_)
 ·obtain ⟨lw,xs,rfl,_⟩:=h
  rfl
 ·obtain ⟨lw,xs,rfl,hW,h12,k⟩:=h
  obtain ⟨qs,h0,hql,zm⟩:=hW
  refine dG (aP (aG (aU (bf (gQ rfl) (by rfl) T.sorted lM (ae (cI (jc rfl) (by rfl) T.set wG (ae (gA (N':=["place", "what", "word"]) (fr:=[none,none,some 1]) DH rfl (dI (pv 0)) (fun C s0 H0 fp=>(ik (K:=K) (i:=0) (j:=1) rfl rfl DH.nd rfl (Or.inl rfl) rfl (Or.inl rfl))) (fun C s0 H0 fp=>(ke (aF bQ (au (r:=EJ K) az (pv 1) ai (fun _ _=>rfl)) (pv 2) (aO _)))) (fun C s0 H0 fp=>(au (r:=EJ K) az (pv 1) ai (fun _ _=>rfl)))) ao)) ao))))) ?_
  refine ⟨_,rfl,lw,rfl,⟨_,bh.of h0⟩,fun D nD=>gD (K:=K) (a:=lw) (xs:=qs.map V.ref) (fun j σ ys G=>∃ v1 v2:Option V,σ=[v1,v2,some (.str "count")]∧ys=(lQ (xs.take j)).map V.int∧Same H G∧G D=some (.lst ys)) ?_ ?_ ?_ ?_⟩
  ·exact ⟨none,none,rfl,rfl,aj nD,ah⟩
  ·rintro j σ ys G _ ⟨v1,v2,rfl,rfl,s,_⟩
   exact bh.of (s _ _ h0)
  ·rintro j x σ ys G hx ⟨v1,v2,rfl,rfl,s,hD⟩
   rw [List.getElem?_map] at hx
   obtain ⟨q,NH,rfl⟩:=map_eq_some_iff.mp hx
   have hjl:j < xs.length:=by have:=(List.getElem?_eq_some_iff.mp NH).1; omega
   have hx:xs[j]? = some xs[j]:=List.getElem?_eq_getElem hjl
   obtain ⟨p,h,a1,a2,a3,a4⟩:=(zm j q _ NH hx).tups (.of s)
   generalize xs[j]=x at hx a2 a3 a4
   have tk:xs.take (j + 1)=xs.take j ++ [x]:=by rw [take_add_one,hx]; rfl
   have cl:=tQ (xs.take j)
   rw [length_take] at cl
   obtain ⟨r,hv⟩:=Lb x
   rw [hv] at a4
   refine ⟨q,_,rfl,aS.of a1,rfl,_,_,rfl,_,_,rfl,rfl,?_⟩
   refine ⟨_,rfl,h,_,0,.str x.u,rfl,rfl,aS.of a4,at0 _ _,_,rfl,rfl,_,rfl,dk (fun c=>?_) (fun c=>?_)⟩
   ·have c:x.u = "count" := strEq c
    refine ⟨_,rfl,h,_,1,.int x.n,rfl,rfl,aS.of a4,at1 _ _ _,hD,bw (by rw [length_map]; omega),_,_,rfl,?_,cL s nD,ah⟩
    unfold lQ
    rw [tk,filter_append,map_append,map_append]
    simp [c]
   ·have c:¬ x.u = "count" := fun e=>c (decide_eq_true (congrArg V.str e))
    refine ⟨_,_,rfl,?_,s,hD⟩
    unfold lQ
    rw [tk,filter_append,map_append,map_append]
    simp [c]
  rintro σ ys G ⟨v1,v2,rfl,rfl,s,hD⟩
  rw [length_map,hql,take_length] at hD
  have cl:=tQ xs
  refine ⟨D,_,rfl,bh.of hD,by omega,fun l' us NK hu hnd NM=>⟨l',us,rfl,ah,by omega,fun l2 ms IQ hp Er=>?_⟩⟩
  have s3:=s.trans (aj (o:=oI P w l' us) NK)
  exact k l2 ms _ (s3.trans (aj IQ)) (s3.free IQ) ah (by rw [hp.length_eq]; omega) (fun j=>by rw [hp.mem_iff,NM])
def Oa:Sp:=fun vs H Q _=>∃ (lw:Addr) (xs:List Wi),vs=[.ref lw]∧jg H lw xs∧xs.length ≤ 12∧∀ (l:Addr) (d:List (Key × V)) (H':Hp),Same H H'→H l=none→H' l=some (.dK d)→CR d (lQ xs) (fun _=>0)→Q (.ref l) H'
theorem Ld:aJ ["wishes", "counts", "number"] ["wishes"] (ak cJ):=⟨rfl,rfl,rfl,by decide +kernel,rfl,by decide +kernel,by decide +kernel⟩
theorem Ob {f fN:Addr} {fd DC:FuncData} (F:dJ K "nothing_counted" "nothing_counted" cJ f fd) (T:Txt K w.params mg) (GN:aR P w K mg base bV 1 fN DC ["wishes", "word"] N8) (kN:KI K fN) (bN:Binds K DC ["wishes", "word"] []) (mN:mg "numbers_of_whats" = some (.ref fN)):aR P w K mg base bV 2 f fd ["wishes"] Oa:=by
 refine F.ok Ld (fun vs H Q E h=>?_) (fun cdv A outer s H vs Q E hr h=>?_)
 ·obtain ⟨lw,xs,rfl,_⟩:=h
  rfl
 ·obtain ⟨lw,xs,rfl,hW,h12,k⟩:=h
  have hu:=cC hr
  refine dG (aD (aG (aV (i:=1) Ld.nd rfl (Or.inl rfl) i9))
   (aD (aG (gM PassesOwn.never rfl (dI (aQ GN hr (by rfl) mN kN bN .nil bp (ae (pv 0) (ae aq ao)))) (cD (i:=2) Ld.nd rfl (Or.inl rfl)) (aw (dh hu (pv 1) (pv 2) ai rfl))))
   (aP (aG (aU (pv 1)))))) ?_
  refine fun ld nd=>?_
  have s0:=aj (o:=.dK []) nd
  have hd0:upd H ld (.dK []) ld=some (.dK []):=ah
  generalize upd H ld (.dK [])=G0 at s0 hd0 ⊢
  refine ⟨_,rfl,lw,xs,rfl,hW.same s0,h12,fun ln ms G1 s1 nn hln hm12 hmem=>?_⟩
  have nld:ld ≠ ln:=ay hd0 nn
  refine ⟨ln,rfl,⟨_,bh.of hln⟩,i5 (K:=K) (a:=ln) (xs:=ms.map V.int) (fun j σ G=>∃ (v:Option V) (d:List (Key × V)),σ=[some (.ref lw),some (.ref ld),v]∧Same H G∧G ln=some (.lst (ms.map V.int))∧G ld=some (.dK d)∧CR d (ms.take j) (fun _=>0)) ?_ ?_ ?_ ?_⟩
  ·exact ⟨none,[],rfl,s0.trans s1,hln,s1 _ _ hd0,CR.nil⟩
  ·rintro j σ G _ ⟨v,d,rfl,s,hn,_⟩
   exact bh.of hn
  ·rintro j x σ G hx ⟨v,d,rfl,s,hn,hd,hc⟩
   rw [List.getElem?_map] at hx
   obtain ⟨n,hnj,rfl⟩:=map_eq_some_iff.mp hx
   have cl:=hc.len
   rw [length_take] at cl
   refine ⟨_,rfl,_,rfl,ld,_,rfl,ic.k (k:=Sum.inl n) hd (bw (by omega)),_,_,rfl,cL s nd,by rw [aL nld.symm]; exact hn,ah,?_⟩
   have h9:=hc.put (ks':=ms.take (j + 1)) n 0 (fun i=>by rw [take_add_one,hnj,mem_append]; simp [or_comm])
   rw [IH] at h9
   exact h9
  rintro σ G ⟨v,d,rfl,s,hn,hd,hc⟩
  rw [length_map,take_length] at hc
  exact ⟨_,rfl,k ld d G s nd hd (hc.congr hmem)⟩
end
def g6 (d:FR):Rw :=
 if d.u = "stop" then .stop else if d.u = "back" then .back else if d.u = "halt" then .halt (d.is.getD 0 0) else if d.u = "tell" then .tell (d.is.getD 0 0) else if d.u = "table" then .table (d.is.getD 0 0) d.ts
 else if d.u ∈ eA then .eA d.u (d.is.getD 0 0) (d.is.getD 1 0) else if d.u ∈ zb then .zb d.u (d.is.getD 0 0) (d.is.getD 1 0) (d.is.getD 2 0) else .two d.u (d.is.getD 0 0) (d.is.getD 1 0)
theorem DI {d:FR} (h:d.u ∈ eA):g6 d=.eA d.u (d.is.getD 0 0) (d.is.getD 1 0):=by
 have a:=(by decide +kernel:∀ u ∈ eA,¬ u = "stop" ∧ ¬ u = "back" ∧ ¬ u = "halt" ∧ ¬ u = "tell" ∧ ¬ u = "table") _ h
 unfold g6
 rw [if_neg a.1,if_neg a.2.1,if_neg a.2.2.1,if_neg a.2.2.2.1,if_neg a.2.2.2.2,if_pos h]
theorem Hi {d:FR} (h:d.u ∈ zb):g6 d=.zb d.u (d.is.getD 0 0) (d.is.getD 1 0) (d.is.getD 2 0):=by
 have a:=(by decide +kernel:∀ u ∈ zb,¬ u = "stop" ∧ ¬ u = "back" ∧ ¬ u = "halt" ∧ ¬ u = "tell" ∧ ¬ u = "table" ∧ ¬ u ∈ eA) _ h
 unfold g6
 rw [if_neg a.1,if_neg a.2.1,if_neg a.2.2.1,if_neg a.2.2.2.1,if_neg a.2.2.2.2.1,if_neg a.2.2.2.2.2,if_pos h]
theorem DJ {d:FR} (h:d.u ∈ ten):g6 d=.two d.u (d.is.getD 0 0) (d.is.getD 1 0):=by
 have a:=(by decide +kernel:∀ u ∈ ten,¬ u = "stop" ∧ ¬ u = "back" ∧ ¬ u = "halt" ∧ ¬ u = "tell" ∧ ¬ u = "table" ∧ ¬ u ∈ eA∧¬ u ∈ zb) _ h
 unfold g6
 rw [if_neg a.1,if_neg a.2.1,if_neg a.2.2.1,if_neg a.2.2.2.1,if_neg a.2.2.2.2.1,if_neg a.2.2.2.2.2.1,if_neg a.2.2.2.2.2.2]
theorem tR {d:FR} {b:Int} {r:List Int} {ks:List Str} (hp:iP d) (h:d.is=b :: r) (hk:gC d.u=("box" : Str) :: ks):Bx b:=by
 have:=hp ("box",b) (by rw [hk,h,zip_cons_cons]; exact List.mem_cons_self)
 have h1:(0:Int) ≤ b:=this.1
 have h2:b ≤ 7:=this.2
 exact ⟨h1,by omega⟩
theorem rw_is {H:Hp} {q:Addr} {d:FR} {n:Int} (h:gh H q d) (g:GoodR d n):gS H q n (g6 d)∧(g6 d).word=d.u:=by
 have ht:=g.2.1
 have hp:=g.2.2.2
 obtain ⟨⟨o1,o2,o3,o4,o5,o6,o7⟩,hA⟩:=h
 have Le:¬ d.u = "table" → H q=some (.tup (.str d.u :: d.is.map V.int)):=fun z=>by
  rcases hA with ⟨a,_⟩ | ⟨_,a⟩
  ·exact absurd a z
  ·exact a
 have cls:=(by decide +kernel:∀ u ∈ jN,u = "stop" ∨ u = "back" ∨ u = "halt" ∨ u = "tell" ∨ u = "table" ∨ u ∈ eA∨u ∈ zb∨u ∈ ten) _ o1
 rcases cls with hu | hu | hu | hu | hu | hu | hu | hu
 ·have l:=(o5 (by rw [hu]; decide) (by rw [hu]; decide) (by rw [hu]; decide)).2
  rw [hu] at l
  have e1:d.is=[]:=List.length_eq_zero_iff.mp (l.trans rfl)
  have hq:=Le (by rw [hu]; decide)
  rw [e1,hu] at hq
  unfold g6
  rw [if_pos hu]
  exact ⟨hq,hu.symm⟩
 ·have l:=(o5 (by rw [hu]; decide) (by rw [hu]; decide) (by rw [hu]; decide)).2
  rw [hu] at l
  have e1:d.is=[]:=List.length_eq_zero_iff.mp (l.trans rfl)
  have hq:=Le (by rw [hu]; decide)
  rw [e1,hu] at hq
  unfold g6
  rw [if_neg (by rw [hu]; decide),if_pos hu]
  exact ⟨hq,hu.symm⟩
 ·have l:=(o5 (by rw [hu]; decide) (by rw [hu]; decide) (by rw [hu]; decide)).2
  rw [hu] at l
  obtain ⟨v,e1⟩:=List.length_eq_one_iff.mp (l.trans rfl)
  have hq:=Le (by rw [hu]; decide)
  rw [e1,hu] at hq
  unfold g6
  rw [if_neg (by rw [hu]; decide),if_neg (by rw [hu]; decide),if_pos hu,e1]
  exact ⟨hq,hu.symm⟩
 ·have l:=(o5 (by rw [hu]; decide) (by rw [hu]; decide) (by rw [hu]; decide)).2
  rw [hu] at l
  obtain ⟨v,e1⟩:=List.length_eq_one_iff.mp (l.trans rfl)
  have hq:=Le (by rw [hu]; decide)
  have hb:=tR (ks:=[]) hp e1 (by rw [hu]; rfl)
  rw [e1,hu] at hq
  unfold g6
  rw [if_neg (by rw [hu]; decide),if_neg (by rw [hu]; decide),if_neg (by rw [hu]; decide),if_pos hu,e1]
  exact ⟨⟨hq,hb⟩,hu.symm⟩
 ·rcases hA with ⟨_,b,p,e1,h1,h2⟩ | ⟨a,_⟩
  ·have hb:=tR (ks:=["targets"]) hp e1 (by rw [hu]; rfl)
   unfold g6
   rw [if_neg (by rw [hu]; decide),if_neg (by rw [hu]; decide),if_neg (by rw [hu]; decide),if_neg (by rw [hu]; decide),if_pos hu,e1]
   rw [hu] at h1
   exact ⟨⟨p,h1,h2,hb,ht⟩,hu.symm⟩
  ·exact absurd hu a
 ·obtain ⟨t,f,e1,e2⟩:=o3 hu
  have hq:=Le ((by decide +kernel:∀ u ∈ eA,¬ u = "table") _ hu)
  rw [e1] at hq
  rw [DI hu,e1]
  rw [e2] at ht
  exact ⟨⟨hq,hu,(ht t (by simp)).1,(ht t (by simp)).2⟩,rfl⟩
 ·obtain ⟨b,t,f,e1,e2⟩:=o4 hu
  have hq:=Le ((by decide +kernel:∀ u ∈ zb,¬ u = "table") _ hu)
  have hb:=tR hp e1 (kz _ hu)
  rw [e1] at hq
  rw [Hi hu,e1]
  rw [e2] at ht
  exact ⟨⟨hq,hu,hb,(ht t (by simp)).1,(ht t (by simp)).2⟩,rfl⟩
 ·have a:=(by decide +kernel:∀ u ∈ ten,RP u=2∧¬ u = "table" ∧ ¬ u ∈ eA∧¬ u ∈ zb∧(∃ k ∈ (["box", "value", "number", "aside"]:List Str),gC u=(["box",k]:List Str)∧(u ∈ w2→k = "box"))) _ hu
  obtain ⟨k2,_,ek,ew⟩:=a.2.2.2.2
  obtain ⟨b,v,e1⟩:∃ b v,d.is=[b,v]:=by
   match hh:d.is,(o5 a.2.1 a.2.2.1 a.2.2.2.1).2.trans a.1 with
   | [b,v],_=>exact ⟨b,v,rfl⟩
  have hq:=Le a.2.1
  have hb:=tR hp e1 ek
  have hv:d.u ∈ w2→Bx v:=fun z=>by
   have hk:=ew z
   subst hk
   have:=hp ("box",v) (by rw [ek,e1]; simp)
   have h1:(0:Int) ≤ v:=this.1
   have h2:v ≤ 7:=this.2
   exact ⟨h1,by omega⟩
  rw [e1] at hq
  rw [DJ hu,e1]
  exact ⟨⟨hq,hu,hb,hv⟩,rfl⟩
theorem vB {H:Hp} {lr:Addr} {ds:List FR} (h:gq H lr ds) (g:∀ d ∈ ds,GoodR d (ds.length:Nat)):mr H lr (ds.map g6):=by
 obtain ⟨qs,a,b,c⟩:=h
 refine ⟨qs,a,by rw [length_map,b],fun i q rw h1 h2=>?_⟩
 rw [List.getElem?_map] at h2
 obtain ⟨d,hd,rfl⟩:=map_eq_some_iff.mp h2
 rw [length_map]
 exact (rw_is (c i q d h1 hd) (g d (List.mem_of_getElem? hd))).1
theorem rJ {H:Hp} {lr:Addr} {ds:List FR} (h:gq H lr ds) (g:my ds):∀ rw,(ds.map g6)[(ds.map g6).length - 1]? = some rw→rw.word ∈ cS:=fun rw hrw=>by
 obtain ⟨qs,a,b,c⟩:=h
 obtain ⟨g0,_,g1,d,hd,hn⟩:=g
 rw [length_map,List.getElem?_map,hd] at hrw
 cases hrw
 have hq:qs[ds.length - 1]? = some (qs[ds.length - 1]'(by omega)):=List.getElem?_eq_getElem _
 rw [(rw_is (c _ _ d hq hd) (g1 d (List.mem_of_getElem? hd))).2]
 exact hn
theorem TS.mn {H:Hp} {a:Addr} {m:TA} {B:Nat} {t:Tl} (M:TS H a m B t):∀ c,cU m a c→∃ o,H c=some o:=by
 obtain ⟨wz,oz,_⟩:=M.st
 obtain ⟨pz,sz,_⟩:=M.seen
 obtain ⟨dz,cz,_⟩:=M.cnt
 rintro c (rfl | rfl | rfl | rfl)
 ·exact ⟨_,oz⟩
 ·exact ⟨_,sz⟩
 ·exact ⟨_,cz⟩
 ·exact ⟨_,M.rws⟩
theorem Ar {σ:St} {H1:Hp} {Q:V→Hp→Prop} {te:TE} {xs:List Wi} (h12:xs.length ≤ 12) (hte:∀ (G:Hp) (Q':V→Hp→Prop),Same H1 G→(∀ (l2:Addr) (d:List (Key × V)) (G':Hp),Same G G'→G l2=none→G' l2=some (.dK d)→CR d (lQ xs) (fun _=>0)→Q' (.ref l2) G')→te σ G Q')
  (k:∀ (at_:Addr) (mt:TA) (H2:Hp),Same H1 H2→(∀ c,cU mt at_ c→H1 c=none)→TS H2 at_ mt 0 (Bl xs)→Q (.ref at_) H2) :
  yu [(tC (.str "seen"),uN qc),(tC (.str "counts"),te),(tC (.str "rows"),uN qc),(tC (.str "ending"),tC .non)] σ H1 Q:=by
 refine fun at_ na=>?_
 refine ⟨lL,fun l1 n1=>?_⟩
 have q0:=aj (o:=.dK []) na
 have q1:=aj (o:=.lst []) n1
 have SJ:=q0.trans q1
 refine hte _ _ SJ fun l2 d G2 q2 n2 hd2 hc2=>?_
 refine ⟨lL,fun l3 n3=>?_⟩
 have q3:=aj (o:=.lst []) n3
 refine ⟨(q1.trans (q2.trans q3)) at_ _ ah,gm jh [.ref l1,.ref l2,.ref l3,.non],rfl,(show 4 ≤ 15 by decide),?_⟩
 have e4:jh.length ≤ ([.ref l1,.ref l2,.ref l3,.non]:List V).length:=le_refl 4
 rw [lP gT e4]
 have f1:=(q2.trans q3) l1 _ ah
 have f2:=q3 l2 _ hd2
 have d1:l1 ≠ at_:=(ay ah n1).symm
 have d2:l2 ≠ at_:=(ay (q1 _ _ ah) n2).symm
 have d3:l3 ≠ at_:=(ay ((q1.trans q2) _ _ ah) n3).symm
 have qA:=q0.trans (q1.trans (q2.trans q3))
 refine k at_ ⟨l1,l2,l3⟩ _ (fun c o e=>?_) ?_ ⟨⟨.non,ah,rfl⟩,⟨[],?_,rfl,fun i p c e=>by simp at e⟩,⟨d,?_,hc2,?_⟩,?_,ay (q2 _ _ ah) n3,d2.symm,⟨le_refl _,le_refl _⟩,by decide⟩
 ·rw [aL (ay e na)]
  exact qA _ _ e
 ·rintro c (rfl | rfl | rfl | rfl)
  ·exact na
  ·exact q0.free n1
  ·exact SJ.free n2
  ·exact (SJ.trans q2).free n3
 ·rw [aL d1]
  exact f1
 ·rw [aL d2]
  exact f2
 ·have a:=hc2.len
  have b:=tQ xs
  omega
 ·rw [aL d3]
  exact ah
inductive LJ (X:Cx) (pos:Pos):List (Option Expr)→List Expr→List (TE × TE)→Prop where
 | nil:LJ X pos [] [] []
 | cons {k v:Expr} {ks:List (Option Expr)} {vs:List Expr} {tk tv:TE} {uD:List (TE × TE)} (hk:PE X k tk) (hv:PE X v tv) (hr:LJ X pos ks vs uD):LJ X pos (some k :: ks) (v :: vs) ((tk,tv) :: uD)
theorem LJ.pps {X:Cx} {pos:Pos} {ks:List (Option Expr)} {vs:List Expr} {uD:List (TE × TE)} (h:LJ X pos ks vs uD):Mq X pos ks vs uD:=by
 induction h with
 | nil=>exact nI
 | cons hk hv _ ih=>exact di hk hv ih
theorem DK {X:Cx} {pos:Pos} {keys:List (Option Expr)} {values:List Expr} {uD:List (TE × TE)} (h:LJ X pos keys values uD) (hall:keys.all (·.isSome)=true) (hl:keys.length=values.length) (h0:keys ≠ []) (h15:keys.length ≤ 15):Lz X (.Dict keys values pos) (yu uD):=by
 unfold Lz
 exact nJ h.pps hall hl h0 h15
def PsI (C:Addr) (ring:Int→Bool) (rws:List Rw) (xs:List Wi) (most:Nat) (F:Tl) (H:Hp) (x:Addr) (m:MA) (rows:List V) (aB:List (Key × V)) (at_:Addr) (mt:TA) (lh:Addr) (i:Nat) (G:Hp):Prop:=∃ (z:Zt) (t:Tl) (ws:List Wi) (hs:List Addr),i ≤ most∧Keeps (fun c=>cU mt at_ c∨Own m x c) H G∧MG C G x m rows aB (50 + i) z∧TS G at_ mt (26 * i) t∧t.ks=lQ xs∧G lh=some (.lst (hs.map V.ref))∧uE G hs ws∧¬ cU mt at_ lh∧ws.length ≤ 24∧(∀ y ∈ ws,y ∈ xs)∧(t.en=none→t.rows.length=i∧Up rws z∧iQ rws.length z∧F=mU ring rws xs (most - i) z t ws)∧(¬ t.en=none→F=t)
theorem Hj {xs:List Wi} {l s:Int}:(vv xs l s).length ≤ 2 * xs.length∧∀ y ∈ vv xs l s,y ∈ xs:=by
 unfold vv
 refine ⟨?_,fun y hy=>?_⟩
 ·rw [length_append]
  have h1:=length_filter_le (o9 l s) xs
  have h2:=length_filter_le (iY s) xs
  omega
 ·rcases mem_append.mp hy with z | z
  ·exact (mem_filter.mp z).1
  ·exact (mem_filter.mp z).1
theorem Hk {bs:List Int} {ws:List Wi} {s:Int} {t:Tl} (h:(cg bs t ws).en=none):come bs ws s t={ cg bs t ws with rows:=(cg bs t ws).rows ++ [s] }:=if_pos h
theorem Hl {bs:List Int} {ws:List Wi} {s:Int} {t:Tl} (h:¬ (cg bs t ws).en=none):come bs ws s t=cg bs t ws:=if_neg h
section
variable {P:Program} {w:World} {K:Frag} {mg:Str→Option Value} {base:Heap}
def Oc:Sp:=fun vs H Q _=>∃ (lr lw pb pc pl:Addr) (most:Nat) (ds:List FR) (xs:List Wi) (bs bells:List Int) (d:List (Key × V)) (cf:Int→Int),vs=[.ref lr,.ref lw,.ref pb,.ref pc,.ref pl,.int (most:Int)]∧most ≤ 31∧gq H lr ds∧my ds∧jg H lw xs∧xs.length ≤ 12∧(∀ x ∈ xs,I0 ds x)∧(∀ x ∈ xs,pe (lQ xs) x) ∧
 H pb=some (.lst (bs.map V.int))∧bs.length=8∧H pc=some (.dK d)∧Rep d cf∧d.length ≤ 50∧H pl=some (.lst (bells.map V.int))∧bells.length ≤ 100 ∧
 ∀ (a:Addr) (mt:TA) (H':Hp),Same H H'→(∀ c,cU mt a c→H c=none)→TS H' a mt 900 (mU (bg bells) (ds.map g6) xs most (z0 bs cf) (Bl xs) (xs.filter (iY 0)))→Q (.ref a) H'
theorem DL:aJ ["rows", "wishes", "boxes", "cells", "bells", "most", "machine", "reading", "whats"] ["rows", "wishes", "boxes", "cells", "bells", "most"] (ak d7):=⟨rfl,rfl,rfl,by decide +kernel,rfl,by decide +kernel,by decide +kernel⟩
theorem Od {f fK fW fN fB fS fD C fI f0 f2:Addr} {fd fdK rF DC IB rC Iu fdI ND fd2:FuncData} (F:dJ K "plain_seen" "plain_seen" d7 f fd) (T:Txt K w.params mg)
  (GK:aR P w K mg base bV 7 fK fdK ["rows"] NX) (kK:KI K fK) (bK:Binds K fdK ["rows"] []) (mK:mg "check_rows" = some (.ref fK))
  (GW:aR P w K mg base bV 8 fW rF ["rows", "wishes"] N6) (kW:KI K fW) (bW:Binds K rF ["rows", "wishes"] []) (mW:mg "check_wishes" = some (.ref fW))
  (GN:aR P w K mg base bV 2 fN DC ["wishes"] Oa) (kN:KI K fN) (bN:Binds K DC ["wishes"] []) (mN:mg "nothing_counted" = some (.ref fN))
  (GB:aR P w K mg base bV 1 fB IB ["wishes", "r"] Ky) (kB:KI K fB) (bB:Binds K IB ["wishes", "r"] []) (mB:mg "whats_before" = some (.ref fB))
  (GS:aR P w K mg base bV 2 fS rC ["reading", "whats", "boxes"] Nu) (kS:KI K fS) (bS:Binds K rC ["reading", "whats", "boxes"] []) (mS:mg "see_whats" = some (.ref fS))
  (GD:aR P w K mg base bV 4 fD Iu ["reading", "rows", "wishes", "machine"] (NB C)) (kD:KI K fD) (bD:Binds K Iu ["reading", "rows", "wishes", "machine"] []) (mD:mg "do_row" = some (.ref fD))
  (TM:kX K mg C) (mMc:mg "Machine" = some (.ref C)) (Mk:Mk K C fI) (GI:aR P w K mg base bV 1 fI fdI ["self", "rows", "boxes", "cells", "bells"] (C3 C)) (bI:Binds K fdI ["self", "rows", "boxes", "cells", "bells"] [])
  (M0:Meth K C "row" f0) (G0:aR P w K mg base bV 1 f0 ND ["self"] (wO C)) (b0:Binds K ND ["self"] [])
  (M2:Meth K C "boxes" f2) (G2:aR P w K mg base bV 1 f2 fd2 ["self"] (tj C)) (b2:Binds K fd2 ["self"] []):aR P w K mg base bV 9 f fd ["rows", "wishes", "boxes", "cells", "bells", "most"] Oc:=by
 refine F.ok DL (fun vs H Q E h=>?_) (fun cdv A outer s H vs Q E hr h=>?_)
 ·obtain ⟨lr,lw,pb,pc,pl,most,ds,xs,bs,bells,d,cf,rfl,_⟩:=h
  rfl
 ·obtain ⟨lr,lw,pb,pc,pl,most,ds,xs,bs,bells,d,cf,rfl,hmo,Oe,hG,hW,h12,Bm,hg,hpb,b8,hpc,hrep,hdl,hpl,Og,k⟩:=h
  have hu:=cC hr
  have hr2:=hr.mono (show 2 ≤ 8 by decide)
  have hr1:=hr.mono (show 1 ≤ 8 by decide)
  refine dG (aD (aG (bJ (aQ GK (hr.mono (by decide)) (by rfl) mK kK bK .nil bp (ae (pv 0) ao))))
   (aD (aG (bJ (aQ GW hr (by rfl) mW kW bW .nil bp (ae (pv 0) (ae (pv 1) ao)))))
   (aD (aG (aV (i:=6) DL.nd rfl (Or.inl rfl) (EF Mk GI hr2 rfl mMc bI .nil bp (ae (pv 0) (ae (pv 2) (ae (pv 3) (ae (pv 4) ao)))))))
   (aD (vj (yI (i:=7) DL.nd rfl (Or.inl rfl) (DK (.cons aq (cu ao) (.cons aq (aQ GN (hr.mono (by decide)) (by rfl) mN kN bN .nil bp (ae (pv 1) ao)) (.cons aq (cu ao) (.cons aq ef .nil)))) rfl rfl (cons_ne_nil _ _) (le_of_ble_eq_true rfl))))
   (aD (aG (aV (i:=8) DL.nd rfl (Or.inl rfl) (aQ GB (hr.mono (by decide)) (by rfl) mB kB bB .nil bp (ae (pv 1) (ae ai ao)))))
   (aD (aG (og PassesOwn.never (dM (aF iu (bf aZ (by rfl) T.len cV (ae (bj hu (pv 7) aq (fun _ _=>rfl)) ao)) (pv 5) (aO _)) (dD (aF lC (bj hu (pv 7) aq (fun _ _=>rfl)) ef (aO _)))).pt (aA (bJ (aQ GS (hr.mono (by decide)) (by rfl) mS kS bS .nil bp (ae (pv 7) (ae (pv 8) (ae (gP (pv 6) TM.cl M2 G2 hr1 b2 .nil bp) ao)))))
   (aw (bU (aF lC (bj hu (pv 7) aq (fun _ _=>rfl)) ef (aO _)) (aA (bJ (gn PySem.F.plainAttrs_list PySem.F.slot_list_append PySem.F.type_list_append cr (bj hu (pv 7) aq (fun _ _=>rfl)) (ae (gP (pv 6) TM.cl M0 G0 hr1 b0 .nil bp) ao)))
   (aw (bU (aF iu (bf aZ (by rfl) T.len cV (ae (bj hu (pv 7) aq (fun _ _=>rfl)) ao)) (pv 5) (aO _)) (aw (aV (i:=8) DL.nd rfl (Or.inl rfl) (aQ GD (hr.mono (by decide)) (by rfl) mD kD bD .nil bp (ae (pv 7) (ae (pv 0) (ae (pv 1) (ae (pv 6) ao))))))) aM))) aM)))))
   (aP (aG (aU (pv 7)))))))))) ?_
  refine ⟨_,rfl,lr,ds,rfl,Oe,hG,fun H1 s1=>?_⟩
  refine ⟨_,rfl,_,rfl,lr,lw,ds,xs,rfl,Oe.same s1,hG,hW.same s1,h12,Bm,fun H2 s2=>?_⟩
  have sA:=s1.trans s2
  obtain ⟨qs,g1,g2,g3⟩:=id Oe
  refine ⟨_,rfl,_,rfl,_,rfl,_,rfl,fun x dx nx ndx nex=>?_⟩
  have u1:∀ {c o},H2 c=some o→upd (upd H2 dx (.own x)) x (.ins C dx []) c=some o:=fun {c o} h=>by
   rw [aL (ay h nx),aL (ay h ndx)]
   exact h
  refine ⟨x,dx,lr,pb,pc,pl,qs.map V.ref,bs,bells,d,cf,rfl,ah,u1 (sA _ _ g1),u1 (sA _ _ hpb),b8,u1 (sA _ _ hpc),hrep,hdl,u1 (sA _ _ hpl),Og,fun m aB HX hrg M SX own=>⟨rfl,?_⟩⟩
  have eR:cK aB=bg bells:=funext hrg
  have tX:Same H2 HX:=fun c o h=>SX _ _ (ay h nx) (u1 h)
  have sX:=sA.trans tX
  have nO:∀ c,Ai m x c→H c=none:=fun c hc=>by
   cases e:H c with
   | none=>rfl
   | some o =>
    have e2:=sA _ _ e
    have:=own c hc (ay e2 nx)
    rw [u1 e2] at this
    cases this
  clear u1 SX own nx ndx nex
  show hC _ _ _ _ _
  refine ko (vg ?_)
  refine Ar (xs:=xs) h12 (fun G Q' sG kk=>⟨_,rfl,lw,xs,rfl,hW.same (sX.trans sG),h12,kk⟩) fun at_ mt H3 s3 LC MT=>?_
  show hC _ _ _ _ _
  refine ko ?_
  have nT:∀ c,cU mt at_ c→H c=none:=fun c hc=>sX.free (LC c hc)
  have dj:∀ c,cU mt at_ c→¬ Ai m x c:=fun c hc hl=>by
   obtain ⟨o,e⟩:=M.mn c hl
   rw [LC c hc] at e
   cases e
  have nR:∀ c,(cU mt at_ c∨Own m x c)→H c=none:=fun c hc=>hc.elim (nT c) fun z=>nO c (.inl z)
  have nr:∀ c o,H c=some o→¬ (cU mt at_ c∨Own m x c):=fun c o e z=>by rw [nR c z] at e; cases e
  refine ⟨_,rfl,lw,xs,0,rfl,hW.same (sX.trans s3),by omega,fun lh hs H4 s4 nlh GV LK=>?_⟩
  have sT:¬ cU mt at_ lh:=fun z=>by
   obtain ⟨o,e⟩:=MT.mn lh z
   rw [nlh] at e
   cases e
  generalize hF:mU (bg bells) (ds.map g6) xs most (z0 bs cf) (Bl xs) (xs.filter (iY 0))=Fi at k
  have QG:=vB Oe hG.2.2.1
  have LB:=rJ Oe hG
  have Dy:1 ≤ (ds.map g6).length:=by rw [length_map]; exact hG.1
  generalize ds.map g6=rws at hF QG LB Dy
  have Hd:iQ rws.length (z0 bs cf):=⟨.inr ⟨0,rfl,Dy⟩,fun p hp=>absurd hp (by simp [z0])⟩
  have wl0:=length_filter_le (iY 0) xs
  refine ⟨fun n σ G=>∃ lh i,σ=[some (.ref lr),some (.ref lw),some (.ref pb),some (.ref pc),some (.ref pl),some (.int (most:Int)),some (.ref x),some (.ref at_),some (.ref lh)]∧n=most - i∧PsI C (bg bells) rws xs most Fi H x m (qs.map V.ref) aB at_ mt lh i G,⟨_,lh,0,rfl,rfl,z0 bs cf,Bl xs,_,hs,zero_le _,.same (sX.trans (s3.trans s4)),(M.same s3).same s4,MT.same s4,rfl,GV,LK,sT,by omega,fun y hy=>(mem_filter.mp hy).1,fun _=>⟨rfl,⟨rfl,0,rfl,Dy⟩,Hd,hF.symm⟩,fun z=>absurd rfl z⟩,?_⟩
  clear hF MT M GV LK sT wl0 nlh s4 s3 LC
  rintro n σ G ⟨lh,i,rfl,rfl,z,t,ws,hs,hi,kG,M,MT,hks,GV,LK,sT,hwl,hwi,hup,hdn⟩
  obtain ⟨wt,hot,vw⟩:=MT.st
  have fin:Fi=t→Q (.ref at_) G:=fun e=>k at_ mt G (kG.Dx nR) nT (e ▸ MT.more (by omega) (by decide))
  refine ⟨_,rfl,at_,_,rfl,dw hot pd,mt.r,_,rfl,.inl (bh.of MT.rws),_,rfl,_,_,rfl,rfl,_,rfl,dk (fun c1=>?_) (fun c1=>?_)⟩
  ·refine ⟨_,rfl,at_,_,rfl,dw hot zi,?_⟩
   cases he:t.en with
   | some zs =>
    rw [he] at vw
    obtain ⟨p,rfl,_⟩:=vw
    exact ⟨rfl,_,rfl,aW (fun z=>by cases of_decide_eq_true z) ⟨_,rfl,fin (hdn (by rw [he]; intro z; cases z))⟩⟩
   | none =>
   rw [he] at vw
   have vw:wt=.non:=vw
   subst vw
   obtain ⟨hrl,⟨hn,r,IL,hrn⟩,hst,hFF⟩:=hup he
   have c1:t.rows.length < most:=by have:=of_decide_eq_true c1; rw [length_map] at this; omega
   refine ⟨rfl,_,rfl,cy (by decide) ⟨fun σ' G'=>∃ lh,σ'=[some (.ref lr),some (.ref lw),some (.ref pb),some (.ref pc),some (.ref pl),some (.int (most:Int)),some (.ref x),some (.ref at_),some (.ref lh)]∧PsI C (bg bells) rws xs most Fi H x m (qs.map V.ref) aB at_ mt lh (i + 1) G',?_,?_⟩⟩
   ·rintro σ' G' ⟨lh,rfl,h⟩
    exact ⟨most - (i + 1),by omega,lh,i + 1,rfl,rfl,h⟩
   have QH:dB z=r:=by unfold dB; rw [IL]
   obtain ⟨n0,hn0⟩:∃ n0,most - i=n0 + 1:=⟨most - i - 1,by omega⟩
   have hn1:most - (i + 1)=n0:=by omega
   rw [hn0,ph,QH] at hFF
   obtain ⟨w0,ho,hw0⟩:=M.obj
   refine ⟨_,rfl,_,rfl,_,rfl,x,m.dx,_,rfl,ho,wL vt,x,z,50 + i,rfl,⟨m,_,aB,M⟩,fun lb nb=>?_⟩
   have sb:=aj (o:=.lst (z.bs.map V.int)) nb
   have sTb:¬ cU mt at_ lb:=fun y=>by
    obtain ⟨o,e⟩:=MT.mn lb y
    rw [nb] at e
    cases e
   refine ⟨at_,lh,lb,mt,26 * i,t,hs,ws,z.bs,rfl,MT.same sb,by omega,sb _ _ GV,LK.tups (.of sb),fun y hy=>by rw [hks]; exact hg y (hwi y hy),ah,M.b8,sT,sTb,fun G1 k1 zk=>?_⟩
   have k1:=(Keeps.same (R:=cU mt at_) sb).trans k1
   have M1:=M.keeps k1 (fun c hc ht=>dj c ht hc)
   have NI:=kG.trans (k1.more fun _=>Or.inl)
   have SK:(cg z.bs t ws).ks=lQ xs:=gi.1.trans hks
   have QI:(cg z.bs t ws).rows=t.rows:=gi.2
   have cN:=Hl (bs:=z.bs) (ws:=ws) (s:=(r:Int)) (t:=t)
   have cE:=Hk (bs:=z.bs) (ws:=ws) (s:=(r:Int)) (t:=t)
   generalize cg z.bs t ws=t1 at zk SK QI cN cE
   obtain ⟨wt1,Cd,Au⟩:=zk.st
   refine ⟨_,rfl,at_,_,rfl,dw Cd zi,?_⟩
   cases JO:t1.en with
   | some zs =>
    rw [JO] at Au
    obtain ⟨p,rfl,_⟩:=Au
    have hne:¬ t1.en=none:=by rw [JO]; intro z; cases z
    rw [cN hne] at hFF
    refine ⟨rfl,_,rfl,aW (fun z=>by cases of_decide_eq_true z) ⟨lh,rfl,z,t1,ws,hs,by omega,NI,M1.more (by omega) (by omega),zk.more (by omega) (by omega),SK,k1 _ _ GV (.inl sT),LK.tups k1.tups,sT,hwl,hwi,fun e=>absurd e hne,fun _=>?_⟩⟩
    rw [hFF]
    exact if_neg (fun y=>hne y.1)
   | none =>
   rw [JO] at Au
   have Au:wt1=.non:=Au
   subst Au
   rw [cE JO] at hFF
   obtain ⟨w1,ho1,hw1⟩:=M1.obj
   have lm:=zk.lens
   refine ⟨rfl,_,rfl,cy (by decide) ?_⟩
   refine ⟨_,rfl,at_,_,rfl,dw Cd pd,.inl ⟨rfl,_,bh.of zk.rws⟩,_,rfl,x,m.dx,_,rfl,ho1,wL wW,x,z,50 + i,rfl,⟨m,_,aB,M1⟩,mt.r,_,_,rfl,rfl,zk.rws,bw (by rw [length_map,QI]; omega),?_⟩
   rw [IL,show t1.rows.map V.int ++ [V.int (r:Int)]=(t1.rows ++ [(r:Int)]).map V.int by simp]
   have Al:=(zk.more (show 26 * i + ws.length ≤ 26 * i + 25 by omega) (by omega)).IA (rs:=t1.rows ++ [(r:Int)]) (by rw [length_append,QI]; simp; omega)
   have k2:Keeps (cU mt at_) G1 (upd G1 mt.r (.lst ((t1.rows ++ [(r:Int)]).map V.int))):=Keeps.refl.upd zk.rws (by intro _ z; cases z) (.inr (.inr (.inr rfl)))
   generalize upd G1 mt.r (.lst ((t1.rows ++ [(r:Int)]).map V.int))=G2 at Al k2 ⊢
   have M2:=M1.keeps k2 (fun c hc ht=>dj c ht hc)
   have KR:=NI.trans (k2.more fun _=>Or.inl)
   have SL:=k2 _ _ (k1 _ _ GV (.inl sT)) (.inl sT)
   have SM:=(LK.tups k1.tups).tups k2.tups
   have rl2:(t1.rows ++ [(r:Int)]).length=i + 1:=by rw [length_append,QI,hrl]; rfl
   obtain ⟨t2,Oh⟩:∃ t2:Tl,t2={ t1 with rows:=t1.rows ++ [(r:Int)] }:=⟨_,rfl⟩
   rw [← Oh] at Al hFF
   have ks2:t2.ks=lQ xs:=by rw [Oh]; exact SK
   have en2:t2.en=none:=by rw [Oh]; exact JO
   have rw2:t2.rows.length=i + 1:=by rw [Oh]; exact rl2
   clear Oh
   obtain ⟨wt2,wX,NF⟩:=Al.st
   refine ⟨_,rfl,at_,_,rfl,dw wX pd,mt.r,_,rfl,.inl (bh.of Al.rws),_,rfl,_,_,rfl,rfl,_,rfl,dk (fun c2=>?_) (fun c2=>?_)⟩
   rotate_left
   ·have c2:¬ (t2.rows.length:Int) < (most:Int):=fun z=>c2 (decide_eq_true (by rw [length_map]; exact z))
    have e0:n0=0:=by omega
    refine ⟨lh,rfl,z,t2,ws,hs,by omega,KR,M2.more (by omega) (by omega),Al.more (by omega) (by omega),ks2,SL,SM,sT,hwl,hwi,fun _=>⟨rw2,⟨hn,r,IL,hrn⟩,hst,?_⟩,fun e=>absurd en2 e⟩
    rw [hFF,hn1,e0]
    exact if_neg (fun y=>y.2 rfl)
   have c2:t2.rows.length < most:=by have:=of_decide_eq_true c2; rw [length_map] at this; omega
   have hne:n0 ≠ 0:=by omega
   obtain ⟨KQ,e0,e0l,e0r⟩:=QG.keeps KR (nr lr _ g1)
   have hq0:KQ=qs:=by
    rw [KR _ _ g1 (.inl (nr lr _ g1))] at e0
    exact (List.map_inj_right (fun a b h=>V.ref.inj h)).mp (HO.lst.inj (Option.some.inj e0)).symm
   subst hq0
   have hqr:KQ[r]? = some KQ[r]:=List.getElem?_eq_getElem (by omega)
   have hwr:rws[r]? = some rws[r]:=List.getElem?_eq_getElem hrn
   have Ao:=e0r r _ _ hqr hwr
   have hOf:qu rws z=rws[r]:=by unfold qu; rw [QH,Int.toNat_natCast,List.getD_eq_getElem?_getD,hwr]; rfl
   have vx:r + 1=rws.length→rws[r].word ∈ cS:=fun e=>LB _ (by rw [show rws.length - 1=r by omega]; exact hwr)
   generalize rws[r]=rw at hwr Ao hOf vx
   generalize KQ[r]=q at hqr Ao
   have hrow:(KQ.map V.ref)[r]? = some (.ref q):=by rw [List.getElem?_map,hqr]; rfl
   obtain ⟨qsw,ew,_⟩:=id hW
   have SN:=nr lr _ g1
   have Ja:=nr lw _ ew
   refine ⟨_,rfl,_,rfl,_,rfl,_,rfl,at_,lr,lw,x,q,mt,26 * i + 25,t2,m,_,aB,50 + i,z,r,_,rw,xs,rfl,Al,by omega,e0,M2,by omega,IL,hn,hrow,Ao,hW.keeps KR Ja,by omega,dj,fun y=>SN (.inl y),fun y=>SN (.inr y),fun y=>Ja (.inl y),fun y=>Ja (.inr y),fun l hs' G3 k3 uF M3 nl hl' hw'=>?_⟩
   rw [eR] at uF M3 hw'
   have eZ:gU (bg bells) rws z=aY (bg bells) rw r z:=by unfold gU; rw [hOf,QH]
   have eT:nextT (bg bells) rws z t2={ ji rw z.bs t2 with en:=(aY (bg bells) rw r z).how }:=by unfold nextT; rw [hOf,eZ]
   have hst':iQ rws.length (aY (bg bells) rw r z):=hst.step hrn Ao vx
   have rn:=Ds (ring:=bg bells) (r:=rw) (h:=r) (z:=z) hn
   have eF:Fi=if (aY (bg bells) rw r z).how=none then mU (bg bells) rws xs n0 (aY (bg bells) rw r z) (nextT (bg bells) rws z t2) (mw (bg bells) rws xs z) else nextT (bg bells) rws z t2:=by
    rw [hFF,← eZ]
    exact if_pos ⟨en2,hne⟩
   have eW:mw (bg bells) rws xs z=vv xs (GZ rw r (dB (aY (bg bells) rw r z))) (dB (aY (bg bells) rw r z)):=by unfold mw; rw [hOf,QH,eZ]
   rw [← eT] at uF
   generalize aY (bg bells) rw r z=z' at uF M3 hw' eZ eT hst' rn eF eW
   have hk3:(nextT (bg bells) rws z t2).ks=lQ xs:=by rw [eT]; exact nZ.1.trans ks2
   have Sn:(nextT (bg bells) rws z t2).rows.length=i + 1:=by rw [eT]; show (ji rw z.bs t2).rows.length=i + 1; rw [nZ.2]; exact rw2
   have LG:(nextT (bg bells) rws z t2).en=z'.how:=by rw [eT]
   have LD:=KR.trans k3
   have sT3:¬ cU mt at_ l:=fun y=>by
    obtain ⟨o,e⟩:=Al.mn l y
    rw [nl] at e
    cases e
   rcases rn with ⟨e1,ys,e2⟩ | ⟨⟨s',e1⟩,e2⟩
   ·rw [e1] at hw'
    refine ⟨l,rfl,z',_,[],hs',by omega,LD,M3.more (by omega) (by omega),uF.more (by omega) (by omega),hk3,hl',hw',sT3,by simp,fun y hy=>absurd hy (by simp),(fun e=>by rw [LG,e2] at e; cases e),fun _=>?_⟩
    rw [eF,if_neg (by rw [e2]; intro z; cases z)]
   ·rw [e1] at hw'
    have hw':uE G3 hs' (vv xs (GZ rw r s') s'):=hw'
    have hs2:dB z'=s':=by unfold dB; rw [e1]
    rw [hs2] at eW
    have bl:=Hj (xs:=xs) (l:=GZ rw r s') (s:=s')
    refine ⟨l,rfl,z',_,_,hs',by omega,LD,M3.more (by omega) (by omega),uF.more (by omega) (by omega),hk3,hl',hw',sT3,by have:=bl.1; omega,bl.2,fun _=>⟨Sn,⟨e2,?_⟩,hst',?_⟩,fun e=>absurd (LG.trans e2) e⟩
    ·rcases hst'.1 with y | ⟨r',y1,y2⟩
     ·rw [e1] at y
      cases y
     ·exact ⟨r',y1,y2⟩
    ·rw [eF,if_pos e2,hn1,← eW]
  ·refine ie ⟨_,rfl,fin ?_⟩
   have c1:¬ (t.rows.length:Int) < (most:Int):=fun z=>c1 (decide_eq_true (by rw [length_map]; exact z))
   cases he:t.en with
   | some zs=>exact hdn (by rw [he]; intro z; cases z)
   | none =>
    obtain ⟨hrl,_,_,hFF⟩:=hup he
    rw [hFF,show most - i=0 by omega]
    rfl
end
theorem DM:∀ u ∈ (["jump", "zero", "below", "call", "mark"]:List Str),u ≠ "table" ∧ (u ∈ eA∨(¬ u ∈ eA∧u ∈ zb)):=by decide +kernel
theorem Lf {u:Str} (h:¬ u ∈ (["jump", "zero", "below", "call", "mark"]:List Str)):¬ u ∈ eA∧¬ u ∈ zb:=by
 unfold eA zb
 simp at h ⊢
 exact ⟨⟨h.1,h.2.2.2.1,h.2.2.2.2⟩,h.2.1,h.2.2.1⟩
theorem Hm (a:Int) {n:Nat} (h:0 < n):∃ k:Nat,a % (n:Int)=(k:Int)∧k < n:=by
 have h1:=Int.emod_nonneg a (show (n:Int) ≠ 0 by omega)
 have h2:=Int.emod_lt_of_pos a (show (0:Int) < n by omega)
 obtain ⟨k,hk⟩:=Int.eq_ofNat_of_zero_le h1
 exact ⟨k,hk,by omega⟩
theorem Hn (n:Nat):yp (n + 1) (-1)=some n:=by
 unfold yp
 rw [if_neg (by decide),if_pos (by omega)]
 congr 1
 omega
theorem gh.tups {H H':Hp} {q:Addr} {d:FR} (h:gh H q d) (s:cv H H'):gh H' q d:=by
 obtain ⟨o,h⟩:=h
 refine ⟨o,?_⟩
 rcases h with ⟨a,b,p,e,h1,h2⟩ | ⟨a,h1⟩
 ·exact .inl ⟨a,b,p,e,s _ _ h1,s _ _ h2⟩
 ·exact .inr ⟨a,s _ _ h1⟩
theorem pq {H:Hp} {l:Addr} {xs:List V} {o:HO} (h:H l=some (.lst xs)):cv H (upd H l o):=fun b ys e=>by
 rw [aL (bF e h (by intro z; cases z))]
 exact e
theorem SO {ms:List Int} (h:ms.length=5):∃ a b c d e,ms=[a,b,c,d,e]:=by
 match ms,h with
 | [a,b,c,d,e],_=>exact ⟨a,b,c,d,e,rfl⟩
section
variable {P:Program} {w:World} {K:Frag} {mg:Str→Option Value} {base:Heap}
def Oi:Sp:=fun vs H Q _=>∃ (c:Int) (n:Nat),vs=[.int c,.int (n:Int)]∧0 < n∧n ≤ 1000∧∀ (lr:Addr) (ds:List FR) (H':Hp),Same H H'→H lr=none→gq H' lr ds→my ds→ds.length=n→Q (.ref lr) H'
theorem Lg:aJ ["_law_cell", "_law_many", "_law_xs", "_law_rows_here"] ["_law_cell", "_law_many"] (ak eM):=⟨rfl,rfl,rfl,by decide +kernel,rfl,by decide +kernel,by decide +kernel⟩
def Lh:Scope:={ kind:=.function,names:=[(".0",.local),("_law_k",.local),("_law_row",.globalImplicit),("_law_many",.free),("_law_xs",.free)],isGenerator:=false,isCoroutine:=false,more:=[] }
theorem DN:er (ak eM) Lh ["_law_cell", "_law_many", "_law_xs", "_law_rows_here"] ["_law_k", "_law_many", "_law_xs"] [none,some 1,some 2]:=⟨rfl,by decide +kernel,by decide +kernel,by decide +kernel,by decide +kernel,by decide +kernel⟩
theorem vC {f fS fR fL:Addr} {fd rC IY N5:FuncData} (F:dJ K "_law_rows" "_law_rows" eM f fd) (T:Txt K w.params mg) (GS:aR P w K mg base bV 1 fS rC ["_law_cell", "_law_many"] kJ) (kS:KI K fS) (bS:Binds K rC ["_law_cell", "_law_many"] []) (mS:mg "_law_stream" = some (.ref fS)) (GR:aR P w K mg base bV 2 fR IY ["_law_x", "_law_many"] Ie) (kR:KI K fR) (bR:Binds K IY ["_law_x", "_law_many"] []) (mR:mg "_law_row" = some (.ref fR)) (GL:aR P w K mg base bV 1 fL N5 ["_law_row_here", "_law_x"] CH) (kL:KI K fL) (bL:Binds K N5 ["_law_row_here", "_law_x"] []) (mL:mg "_law_last" = some (.ref fL)):aR P w K mg base bV 3 f fd ["_law_cell", "_law_many"] Oi:=by
 refine F.ok Lg (fun vs H Q E h=>?_) (fun cdv A outer s H vs Q E hr h=>?_)
 ·obtain ⟨c,n,rfl,_⟩:=h
  rfl
 ·obtain ⟨c,n,rfl,hn0,hn1,k⟩:=h
  refine dG (aD (aG (aV (i:=2) Lg.nd rfl (Or.inr rfl) (aQ GS (hr.mono (by decide)) (by rfl) mS kS bS .nil bp (ae (pv 0) (ae (pv 1) ao)))))
   (aD (aG (rZ (i:=3) (N':=["_law_k", "_law_many", "_law_xs"]) (fr:=[none,some 1,some 2]) Lg.nd rfl rfl DN rfl (lB rfl T.range (ae (pv 1) ao)) (fun C s0 H0 fp=>(cD (i:=0) DN.nd rfl (Or.inl rfl))) (fun C s0 H0 fp=>iM) (fun C s0 H0 fp=>(aQ GR hr (by rfl) mR kR bR .nil bp (ae (au (r:=EI K) aK (pv 2) (pv 0) (fun _ _=>rfl)) (ae (pv 1) ao))))))
   (aD (aG (dO (aQ GL (hr.mono (by decide)) (by rfl) mL kL bL .nil bp (ae (au aK (pv 3) (i6 gN ai) (fun _ _=>rfl)) (ae (au aK (pv 2) (i6 gN ai) (fun _ _=>rfl)) ao))) (eI (pv 3) (i6 gN ai) set_list)))
   (aP (aG (aU (pv 3))))))) ?_
  refine ⟨_,rfl,_,rfl,c,n,rfl,by omega,fun lx ms H1 s1 nlx hlx hml _=>?_⟩
  refine ⟨_,rfl,_,rfl,by omega,by omega,fun D nD=>?_⟩
  have nDx:D ≠ lx:=fun z=>by rw [z,hlx] at nD; cases nD
  refine wg (lo:=0) (n:=((n:Nat):Int).toNat) (fun i σ ys G=>∃ (v:Option V) (qs:List Addr) (ds:List FR),σ=[v,some (.int (n:Int)),some (.ref lx)]∧ys=qs.map V.ref∧qs.length=i∧ds.length=i∧(∀ (j:Nat) q d,qs[j]? = some q→ds[j]? = some d→gh G q d)∧(∀ d ∈ ds,GoodR d (n:Int))∧Same H1 G∧G D=some (.lst ys)) ?_ ?_ ?_
  ·exact ⟨none,[],[],rfl,rfl,rfl,rfl,(fun j q d e=>by simp at e),fun d hd=>absurd hd not_mem_nil,aj nD,ah⟩
  ·rintro i σ ys G hi ⟨v,qs,ds,rfl,rfl,hq,hd,hR,hg,s2,hD⟩
   rw [Int.toNat_natCast] at hi
   have hmi:ms[i]? = some (ms[i]'(by omega)):=List.getElem?_eq_getElem _
   generalize ms[i]'(by omega)=mi at hmi
   have hat:lX (ms.map V.int) (0 + (i:Int))=some (.int mi):=by rw [Int.zero_add]; exact ck (j:=i) (by rw [List.getElem?_map,hmi]; rfl)
   refine ⟨_,rfl,_,rfl,lx,_,_,.int mi,rfl,rfl,bh.of (s2 _ _ hlx),hat,_,rfl,mi,n,rfl,by omega,by omega,fun p d G' s' SQ hgd=>⟨s' _ _ hD,dH (by rw [length_map]; omega),_,qs ++ [p],ds ++ [d],rfl,by simp,by simp [hq],by simp [hd],?_,fun e he=>?_,cL (s2.trans s') nD,ah⟩⟩
   ·have T:=pq (o:=.lst (qs.map V.ref ++ [V.ref p])) (s' _ _ hD)
    refine tJ (as:=qs) (bs:=ds) (cs:=[p]) (ds:=[d]) (R:=gh (upd G' D (.lst (qs.map V.ref ++ [V.ref p])))) (by omega) (fun j q d a b=>((hR j q d a b).same s').tups T) (fun j q d a b=>?_)
    cases j with
    | zero=>cases a; cases b; exact SQ.tups T
    | succ j=>simp at a
   ·rcases mem_append.mp he with z | z
    ·exact hg e z
    ·rw [mem_singleton.mp z]; exact hgd
  rintro σ ys G ⟨v,qs,ds,rfl,rfl,hq,hd,hR,hg,s2,hD⟩
  rw [Int.toNat_natCast] at hq hd
  obtain ⟨n,rfl⟩:∃ n0,n=n0 + 1:=⟨n - 1,by omega⟩
  have La:qs[n]? = some (qs[n]'(by omega)):=List.getElem?_eq_getElem _
  generalize (qs[n]'(by omega))=q at La
  have hdi:ds[n]? = some (ds[n]'(by omega)):=List.getElem?_eq_getElem _
  generalize (ds[n]'(by omega))=d at hdi
  have hmi:ms[n]? = some (ms[n]'(by omega)):=List.getElem?_eq_getElem _
  generalize (ms[n]'(by omega))=mi at hmi
  refine ⟨_,rfl,_,rfl,D,_,_,.ref q,rfl,rfl,bh.of hD,lg (n:=n) (by rw [length_map,hq]) (by rw [List.getElem?_map,La]; rfl),?_⟩
  refine ⟨_,rfl,_,rfl,lx,_,_,.int mi,rfl,rfl,bh.of (s2 _ _ hlx),lg (n:=n) (by rw [length_map,hml]) (by rw [List.getElem?_map,hmi]; rfl),?_⟩
  refine ⟨q,mi,((n + 1:Nat):Int),d,rfl,hR n q d La hdi,hg d (List.mem_of_getElem? hdi),by omega,fun p d' G' s' SQ hgd hno=>?_⟩
  have hD':=s' _ _ hD
  refine ⟨_,rfl,_,rfl,D,_,_,n,rfl,rfl,hD',?_,?_⟩
  ·rw [length_map,hq]
   exact Hn n
  have T:=pq (o:=.lst ((qs.map V.ref).set n (.ref p))) hD'
  have sA:Same H (upd G' D (.lst ((qs.map V.ref).set n (.ref p)))):=s1.trans (cL (s2.trans s') nD)
  have hDn:upd G' D (.lst ((qs.map V.ref).set n (.ref p))) D=_:=ah
  generalize upd G' D (.lst ((qs.map V.ref).set n (.ref p)))=G9 at T sA hDn ⊢
  refine ⟨_,rfl,k D (ds.set n d') G9 sA (s1.free nD) ⟨qs.set n p,by rw [hDn,map_set],by rw [length_set,length_set,hq,hd],fun i q1 d1 a b=>?_⟩ ⟨by rw [length_set]; omega,by rw [length_set]; omega,fun e he=>?_,d',?_,hno⟩ (by rw [length_set,hd])⟩
  ·rw [List.getElem?_set] at a b
   by_cases c:n=i
   ·rw [if_pos c,if_pos (by omega)] at a
    rw [if_pos c,if_pos (by omega)] at b
    cases a; cases b
    exact SQ.tups T
   ·rw [if_neg c] at a b
    exact ((hR i q1 d1 a b).same s').tups T
  ·rw [length_set,hd]
   rcases List.mem_or_eq_of_mem_set he with z | z
   ·exact hg e z
   ·rw [z]; exact hgd
  ·rw [length_set,hd,show n + 1 - 1=n by omega,List.getElem?_set,if_pos rfl,if_pos (by omega)]
def Oj:Sp:=fun vs H Q _=>∃ (p q:Addr) (rows:List V) (r:Nat) (u:Str) (ts:List Int),vs=[.ref p,.int r]∧H p=some (.lst rows)∧rows[r]? = some (.ref q)∧lZ H q u ts∧ts.length ≤ 16 ∧
 ∀ (l:Addr) (ms:List Int) (H':Hp),Same H H'→H l=none→H' l=some (.lst (ms.map V.int))→(∀ j,j ∈ ms↔j ∈ ts∨(¬ u ∈ cS∧j=r + 1))→ms.length ≤ 17→Q (.ref l) H'
theorem DO:aJ ["_law_rows_here", "_law_r", "_law_row_here", "_law_found"] ["_law_rows_here", "_law_r"] (ak ft):=⟨rfl,rfl,rfl,by decide +kernel,rfl,by decide +kernel,by decide +kernel⟩
theorem vD {f:Addr} {fd:FuncData} (F:dJ K "_law_ways" "_law_ways" ft f fd) (T:Txt K w.params mg)  : aR P w K mg base bV 1 f fd ["_law_rows_here", "_law_r"] Oj:=by
 refine F.ok DO (fun vs H Q E h=>?_) (fun cdv A outer s H vs Q E hr h=>?_)
 ·obtain ⟨p,q,rows,r,u,ts,rfl,_⟩:=h
  rfl
 ·obtain ⟨p,q,rows,r,u,ts,rfl,hp,hrq,hR,Sw,k⟩:=h
  obtain ⟨items,hq0,hP⟩:=id hR
  refine dG (aD (aG (aV (i:=2) DO.nd rfl (Or.inl rfl) (au aK (pv 0) (pv 1) (fun _ _=>rfl))))
   (aD (aG (aV (i:=3) DO.nd rfl (Or.inl rfl) (cu ao)))
   (gg (cF (aF bQ (au az (pv 2) ai (fun _ _=>rfl)) aq (aO _)) (aP (aG (aV (i:=3) DO.nd rfl (Or.inl rfl) (cI dY (by rfl) T.list hU (ae (au az (pv 2) ai (fun _ _=>rfl)) ao))))) (bz aM))
   (gg (cF (aF cX (au az (pv 2) ai (fun _ _=>rfl)) (aX (ae aq (ae aq (ae aq (ae aq (ae aq ao)))))) rfl) (aP (aG (aV (i:=3) DO.nd rfl (Or.inl rfl) (cu (ae (au az (pv 2) (i6 gN ai) (fun _ _=>rfl)) ao))))) (bz aM))
   (gg (cF (aF j9 (au az (pv 2) ai (fun _ _=>rfl)) (aX (ae aq (ae aq (ae aq (ae aq ao))))) rfl) (aP (aG (bJ (gn PySem.F.plainAttrs_list PySem.F.slot_list_append PySem.F.type_list_append cr (pv 3) (ae (aN dn (pv 1) ai) ao))))) (bz aM))
   (aP (aG (aU (bf (gQ rfl) (by rfl) T.sorted lM (ae (cI (jc rfl) (by rfl) T.set wG (ae (pv 3) ao)) ao)))))))))) ?_
  refine ⟨_,rfl,_,rfl,p,rows,r,.ref q,rfl,rfl,bh.of hp,ck hrq,le_of_ble_eq_true rfl,fun l nl=>?_⟩
  have S1:=aj (o:=.lst []) nl
  have hl1:upd H l (.lst []) l=some (.lst (([]:List Int).map V.int)):=ah
  have hq1:=S1 _ _ hq0
  generalize upd H l (.lst [])=G1 at S1 hl1 hq1 ⊢
  refine ⟨fun σ G=>∃ (l:Addr) (ms:List Int),σ=[some (.ref p),some (.int (r:Int)),some (.ref q),some (.ref l)]∧Same H G∧H l=none∧G l=some (.lst (ms.map V.int))∧(u = "table" → ms=ts)∧(¬ u = "table" → ms=[]),?_,?_⟩
  ·refine ⟨_,rfl,q,_,0,_,rfl,rfl,aS.of hq1,at0 _ _,rfl,_,rfl,?_⟩
   by_cases hu:u = "table"
   ·refine cy (decide_eq_true (by rw [hu])) ?_
    unfold Parts at hP
    rw [if_pos hu] at hP
    obtain ⟨b,q2,rfl,hq2⟩:=hP
    refine ⟨_,rfl,q,_,2,.ref q2,rfl,rfl,aS.of hq1,rfl,q2,_,rfl,.inr (aS.of (S1 _ _ hq2)),fun l3 n3=>?_⟩
    exact ⟨l3,ts,rfl,S1.trans (aj n3),S1.free n3,ah,fun _=>rfl,fun z=>absurd hu z⟩
   ·exact aW (fun z=>hu (V.str.inj (of_decide_eq_true z))) ⟨l,[],rfl,S1,nl,hl1,fun z=>absurd z hu,fun _=>rfl⟩
  clear S1 hl1 hq1 nl
  rintro σ G1 ⟨l,ms,rfl,S1,nl,hl1,m1,m2⟩
  have hq1:=S1 _ _ hq0
  refine ⟨fun σ G=>∃ (l:Addr),σ=[some (.ref p),some (.int (r:Int)),some (.ref q),some (.ref l)]∧Same H G∧H l=none∧G l=some (.lst (ts.map V.int)),?_,?_⟩
  ·refine ⟨_,rfl,q,_,0,_,rfl,rfl,aS.of hq1,at0 _ _,le_of_ble_eq_true rfl,fun t2 n2=>?_⟩
   have v2:=aj (o:=.tup [V.str "jump",V.str "zero",V.str "below",V.str "call",V.str "mark"]) n2
   refine ⟨t2,(["jump", "zero", "below", "call", "mark"]:List Str).map V.str,rfl,.inr (aS.of ah),rfl,rfl,_,rfl,?_⟩
   have hl2:=v2 _ _ hl1
   have hq2:=v2 _ _ hq1
   have S2:=S1.trans v2
   generalize upd G1 t2 (.tup [V.str "jump",V.str "zero",V.str "below",V.str "call",V.str "mark"])=G2 at hl2 hq2 S2 ⊢
   by_cases hu:u ∈ (["jump", "zero", "below", "call", "mark"]:List Str)
   ·refine cy (RV hu) ?_
    obtain ⟨ht,hc⟩:=DM u hu
    obtain ⟨t,rfl,hat⟩:∃ t,ts=[t]∧lX (V.str u :: items) (-2)=some (.int t):=by
     unfold Parts at hP
     rw [if_neg ht] at hP
     rcases hc with hc | ⟨hc,hz⟩
     ·rw [if_pos hc] at hP
      obtain ⟨t,fv,rfl,rfl⟩:=hP
      exact ⟨t,rfl,rfl⟩
     ·rw [if_neg hc,if_pos hz] at hP
      obtain ⟨b,t,fv,rfl,rfl⟩:=hP
      exact ⟨t,rfl,rfl⟩
    refine ⟨_,rfl,_,rfl,q,_,-2,.int t,rfl,rfl,aS.of hq2,hat,le_of_ble_eq_true rfl,fun l3 n3=>?_⟩
    exact ⟨l3,rfl,S2.trans (aj n3),S2.free n3,ah⟩
   ·refine aW (nin hu) ⟨l,rfl,S2,nl,?_⟩
    by_cases ht:u = "table"
    ·rw [m1 ht] at hl2
     exact hl2
    ·obtain ⟨c1,c2⟩:=Lf hu
     unfold Parts at hP
     rw [if_neg ht,if_neg c1,if_neg c2] at hP
     rw [m2 ht] at hl2
     rw [hP]
     exact hl2
  clear S1 hl1 hq1 m1 m2 nl
  rintro σ G1 ⟨l,rfl,S1,nl,hl1⟩
  have hq1:=S1 _ _ hq0
  refine ⟨fun σ G=>∃ (ms:List Int),σ=[some (.ref p),some (.int (r:Int)),some (.ref q),some (.ref l)]∧Same H G∧G l=some (.lst (ms.map V.int))∧ms.length ≤ 17∧∀ j,j ∈ ms↔j ∈ ts∨(¬ u ∈ cS∧j=r + 1),?_,?_⟩
  ·refine ⟨_,rfl,q,_,0,_,rfl,rfl,aS.of hq1,at0 _ _,le_of_ble_eq_true rfl,fun t1 n1=>?_⟩
   have v1:=aj (o:=.tup [V.str "stop",V.str "back",V.str "halt",V.str "jump"]) n1
   refine ⟨t1,cS.map V.str,rfl,.inr (aS.of ah),rfl,rfl,_,rfl,?_⟩
   have hl2:=v1 _ _ hl1
   have S2:=S1.trans v1
   generalize upd G1 t1 (.tup [V.str "stop",V.str "back",V.str "halt",V.str "jump"])=G2 at hl2 S2 ⊢
   have ein:(if true=true then !inV (.str u) (cS.map V.str) else inV (.str u) (cS.map V.str))=!decide (u ∈ cS):=by rw [if_pos rfl,d8]
   rw [ein]
   by_cases hu:u ∈ cS
   ·exact aW (by rw [decide_eq_true hu]; decide) ⟨ts,rfl,S2,hl2,by omega,fun j=>⟨.inl,fun z=>z.elim id fun e=>absurd hu e.1⟩⟩
   ·refine cy (by rw [decide_eq_false hu]; rfl) ?_
    refine ⟨_,rfl,.inl ⟨rfl,_,bh.of hl2⟩,_,rfl,_,_,rfl,rfl,l,_,_,rfl,rfl,hl2,dH (by rw [length_map]; omega),ts ++ [(r:Int) + 1],rfl,cL S2 nl,?_,by simp; omega,fun j=>?_⟩
    ·rw [map_append]
     exact ah
    ·rw [mem_append,mem_singleton]
     exact ⟨fun z=>z.imp id fun e=>⟨hu,e⟩,fun z=>z.imp id fun e=>e.2⟩
  clear S1 hl1 hq1
  rintro σ G1 ⟨ms,rfl,S1,hl1,hml,hmm⟩
  refine ⟨_,rfl,l,ms,rfl,bh.of hl1,by omega,fun l' us NK hu hnd NM=>⟨l',us,rfl,ah,by omega,fun l2 ms2 IQ hp2 Er=>?_⟩⟩
  have s3:=S1.trans (aj (o:=oI P w l' us) NK)
  exact k l2 ms2 _ (s3.trans (aj IQ)) (s3.free IQ) ah (fun j=>by rw [hp2.mem_iff,NM,hmm]) (by rw [hp2.length_eq]; omega)
def Ol:Sp:=fun vs H Q _=>∃ (lr:Addr) (c nb:Int) (g:Bool) (ds:List FR),vs=[.ref lr,.int c,.int nb,.bl g]∧gq H lr ds∧my ds∧vJ "number" nb∧∀ (q:Addr) (x:Wi) (H':Hp),Same H H'→qq H' q x→I0 ds x→Q (.ref q) H'
theorem xj:aJ ["_law_rows_here", "_law_cell", "_law_number", "_law_guards", "_law_xs", "_law_r", "_law_ways_here", "_law_place"] ["_law_rows_here", "_law_cell", "_law_number", "_law_guards"] (ak fF):=⟨rfl,rfl,rfl,by decide +kernel,rfl,by decide +kernel,by decide +kernel⟩
theorem vE {f fS fY:Addr} {fd rC NA:FuncData} (F:dJ K "_law_wish" "_law_wish" fF f fd) (T:Txt K w.params mg) (GS:aR P w K mg base bV 1 fS rC ["_law_cell", "_law_many"] kJ) (kS:KI K fS) (bS:Binds K rC ["_law_cell", "_law_many"] []) (mS:mg "_law_stream" = some (.ref fS)) (GY:aR P w K mg base bV 1 fY NA ["_law_rows_here", "_law_r"] Oj) (kY:KI K fY) (bY:Binds K NA ["_law_rows_here", "_law_r"] []) (mY:mg "_law_ways" = some (.ref fY)):aR P w K mg base bV 2 f fd ["_law_rows_here", "_law_cell", "_law_number", "_law_guards"] Ol:=by
 refine F.ok xj (fun vs H Q E h=>?_) (fun cdv A outer s H vs Q E hr h=>?_)
 ·obtain ⟨lr,c,nb,g,ds,rfl,_⟩:=h
  rfl
 ·obtain ⟨lr,c,nb,g,ds,rfl,hR,hG,hnb,k⟩:=h
  have hu:=cC hr
  obtain ⟨qs,g1,g2,g3⟩:=id hR
  refine dG (aD (aG (aV (i:=4) xj.nd rfl (Or.inl rfl) (aQ GS hr (by rfl) mS kS bS .nil bp (ae (pv 1) (ae ai ao)))))
   (aD (aG (aV (i:=5) xj.nd rfl (Or.inl rfl) (aN bq (au aK (pv 4) ai (fun _ _=>rfl)) (bf aZ (by rfl) T.len cV (ae (pv 0) ao)))))
   (aD (aG (aV (i:=6) xj.nd rfl (Or.inl rfl) (aQ GY hr (by rfl) mY kY bY .nil bp (ae (pv 0) (ae (pv 5) ao)))))
   (aD (aG (aV (i:=7) xj.nd rfl (Or.inl rfl) (aX (ae aq (ae (pv 5) ao)))))
   (gg (cF (dM (aF (si (lt_of_succ_lt hu)) (pv 6) (cu ao) (aO _)) (dD (aF bQ (aN bq (au aK (pv 4) ai (fun _ _=>rfl)) ai) ai (aO _)))).pt (aP (aG (aV (i:=7) xj.nd rfl (Or.inl rfl) (aX (ae aq (ae (pv 5) ao)))))) (bz aM))
   (gg (cF (dM (aF (si (lt_of_succ_lt hu)) (pv 6) (cu ao) (aO _)) (dD (aF bQ (aN bq (au aK (pv 4) ai (fun _ _=>rfl)) ai) ai (aO _)))).pt (aP (aG (aV (i:=7) xj.nd rfl (Or.inl rfl) (aX (ae aq (ae (pv 5) (ae (au aK (pv 6) (aN bq (au aK (pv 4) ai (fun _ _=>rfl)) (bf aZ (by rfl) T.len cV (ae (pv 6) ao))) (fun _ _=>rfl)) ao))))))) (bz aM))
   (gg (cF (dM (gj (pv 3)) (dD (aF bQ (aN bq (au aK (pv 4) ai (fun _ _=>rfl)) ai) ai (aO _)))).pt (aP (aG (aU (aX (ae (pv 7) (ae (aX (ae aq (ae (pv 2) (ae (aN bq (au aK (pv 4) ai (fun _ _=>rfl)) ai) ao)))) ao)))))) (bz aM))
   (aP (aG (aU (aX (ae (pv 7) (ae (au aK (cu (ae (aX (ae aq (ae (pv 2) (ae (aN bq (au aK (pv 4) ai (fun _ _=>rfl)) ai) ao)))) (ae (aX (ae aq (ae (pv 2) ao))) ao))) (aN bq (au aK (pv 4) ai (fun _ _=>rfl)) ai) (fun _ _=>rfl)) ao))))))))))))) ?_
  refine ⟨_,rfl,c,5,rfl,by omega,fun lx ms H1 s1 nlx hlx hml _=>?_⟩
  obtain ⟨m0,m1,m2,m3,m4,rfl⟩:=SO hml
  refine ⟨_,rfl,lx,_,0,.int m0,rfl,rfl,bh.of hlx,rfl,_,rfl,lr,_,rfl,.inl (bh.of (s1 _ _ g1)),_,_,rfl,rfl,(by have:=hG.1; rw [length_map]; omega),?_⟩
  obtain ⟨r,hrr,hrl⟩:=Hm m0 hG.1
  show hC _ (.int (m0 % (((qs.map V.ref).length:Nat):Int))) _ _ _
  rw [length_map,g2,hrr]
  have hdr:ds[r]? = some ds[r]:=List.getElem?_eq_getElem hrl
  generalize ds[r]=d at hdr
  obtain ⟨qs',q,y1,y2,y3,y4⟩:=hR.get hdr
  have hgd:=hG.2.2.1 d (List.mem_of_getElem? hdr)
  refine ⟨_,rfl,_,rfl,lr,q,_,r,d.u,d.ts,rfl,s1 _ _ y1,y3,(y4.same s1).at_,hgd.1,fun lw ws H2 s2 Ja hw0 hwm hwl=>?_⟩
  refine ⟨_,rfl,le_of_ble_eq_true rfl,fun tp ntp=>?_⟩
  have v0:=aj (o:=.tup [V.str "before",.int (r:Int)]) ntp
  have S1:=(s1.trans s2).trans v0
  have hp1:upd H2 tp (.tup [V.str "before",.int (r:Int)]) tp=some (.tup ((oX r).map Ew)):=ah
  have hw0:=v0 _ _ hw0
  have hx0:=v0 _ _ (s2 _ _ hlx)
  generalize upd H2 tp (.tup [V.str "before",.int (r:Int)])=G0 at S1 hp1 hw0 hx0 ⊢
  have hfl:=o8 r
  have hpl:NW ds (oX r):=⟨r,d,hdr,.inl rfl⟩
  generalize oX r=pl at hp1 hfl hpl
  have S0:=S1
  obtain ⟨G1,SR⟩:∃ G,G=G0:=⟨_,rfl⟩
  have S1:Same G0 G1:=by rw [SR]; exact .refl _
  rw [← SR] at hp1 ⊢
  clear SR
  refine ⟨fun σ G=>∃ (tp:Addr) (pl:List Da),σ=[some (.ref lr),some (.int c),some (.int nb),some (.bl g),some (.ref lx),some (.int (r:Int)),some (.ref lw),some (.ref tp)]∧Same G0 G∧G tp=some (.tup (pl.map Ew))∧Flat pl∧NW ds pl,?_,?_⟩
  ·have hw1:=S1 _ _ hw0
   have hx1:=S1 _ _ hx0
   refine ⟨_,rfl,le_of_ble_eq_true rfl,fun l1 n1=>?_⟩
   have v1:=aj (o:=.lst []) n1
   refine ⟨lw,l1,_,[],rfl,rfl,bh.of (v1 _ _ hw1),bh.of ah,fun i a b _ z=>by simp at z,_,rfl,?_⟩
   have hw2:=v1 _ _ hw1
   have hx2:=v1 _ _ hx1
   have hp2:=v1 _ _ hp1
   have S2:=S1.trans v1
   generalize upd G1 l1 (.lst [])=G2 at hw2 hx2 hp2 S2 ⊢
   by_cases xk:ws=[]
   ·refine aW (by rw [decide_eq_true (by rw [xk]; rfl)]; decide) (aW (by decide) ?_)
    exact ⟨tp,pl,rfl,S2,hp2,hfl,hpl⟩
   refine cy (by rw [decide_eq_false (fun z=>xk (map_eq_nil_iff.mp z))]; rfl) ?_
   refine ⟨_,rfl,lx,_,1,.int m1,rfl,rfl,bh.of hx2,rfl,_,_,rfl,rfl,Fl,rfl,_,rfl,dk (fun _=>?_) (fun _=>?_)⟩
   rotate_left
   ·exact ⟨tp,pl,rfl,S2,hp2,hfl,hpl⟩
   ·refine ⟨_,rfl,le_of_ble_eq_true rfl,fun tn Li=>?_⟩
    obtain ⟨s',hs'⟩:=List.exists_mem_of_ne_nil ws xk
    exact ⟨tn,tH r,rfl,S2.trans (aj Li),ah,wU _,r,d,hdr,.inr (.inl ⟨rfl,s',(hwm s').mp hs'⟩)⟩
  clear S1 hp1 hfl hpl
  rintro σ G1 ⟨tp,pl,rfl,S1,hp1,hfl,hpl⟩
  refine ⟨fun σ G=>∃ (tp:Addr) (pl:List Da),σ=[some (.ref lr),some (.int c),some (.int nb),some (.bl g),some (.ref lx),some (.int (r:Int)),some (.ref lw),some (.ref tp)]∧Same G0 G∧G tp=some (.tup (pl.map Ew))∧Flat pl∧NW ds pl,?_,?_⟩
  ·have hw1:=S1 _ _ hw0
   have hx1:=S1 _ _ hx0
   refine ⟨_,rfl,le_of_ble_eq_true rfl,fun l1 n1=>?_⟩
   have v1:=aj (o:=.lst []) n1
   refine ⟨lw,l1,_,[],rfl,rfl,bh.of (v1 _ _ hw1),bh.of ah,fun i a b _ z=>by simp at z,_,rfl,?_⟩
   have hw2:=v1 _ _ hw1
   have hx2:=v1 _ _ hx1
   have hp2:=v1 _ _ hp1
   have S2:=S1.trans v1
   generalize upd G1 l1 (.lst [])=G2 at hw2 hx2 hp2 S2 ⊢
   by_cases xk:ws=[]
   ·refine aW (by rw [decide_eq_true (by rw [xk]; rfl)]; decide) (aW (by decide) ?_)
    exact ⟨tp,pl,rfl,S2,hp2,hfl,hpl⟩
   refine cy (by rw [decide_eq_false (fun z=>xk (map_eq_nil_iff.mp z))]; rfl) ?_
   refine ⟨_,rfl,lx,_,1,.int m1,rfl,rfl,bh.of hx2,rfl,_,_,rfl,rfl,Fl,rfl,_,rfl,dk (fun _=>?_) (fun _=>?_)⟩
   rotate_left
   ·exact ⟨tp,pl,rfl,S2,hp2,hfl,hpl⟩
   ·have hwl:0 < ws.length:=length_pos_iff.mpr xk
    obtain ⟨j,hj,hjl⟩:=Hm m2 hwl
    have SU:ws[j]? = some ws[j]:=List.getElem?_eq_getElem hjl
    generalize ws[j]=s' at SU
    refine ⟨_,rfl,_,rfl,_,rfl,lx,_,2,.int m2,rfl,rfl,bh.of hx2,rfl,_,rfl,lw,_,rfl,.inl (bh.of hw2),_,_,rfl,rfl,(by rw [length_map]; omega),lw,_,_,.int s',rfl,rfl,bh.of hw2,?_,le_of_ble_eq_true rfl,fun tn Li=>?_⟩
    ·rw [length_map,hj]
     exact ck (j:=j) (by rw [List.getElem?_map,SU]; rfl)
    ·exact ⟨tn,tI r s',rfl,S2.trans (aj Li),ah,wV _ _,r,d,hdr,.inr (.inr ⟨s',rfl,(hwm s').mp (List.mem_of_getElem? SU)⟩)⟩
  clear S1 hp1 hfl hpl
  rintro σ G1 ⟨tp,pl,rfl,S1,hp1,hfl,hpl⟩
  have hx1:=S1 _ _ hx0
  have h8:vJ "box" (m4 % 8):=⟨show 0 ≤ _ by omega,show _ ≤ 7 by omega⟩
  have S0:=S0.trans S1
  refine ⟨fun σ G=>σ=[some (.ref lr),some (.int c),some (.int nb),some (.bl g),some (.ref lx),some (.int (r:Int)),some (.ref lw),some (.ref tp)]∧G=G1,?_,?_⟩
  ·refine ⟨_,rfl,_,rfl,?_⟩
   cases g with
   | true =>
    refine cy rfl ?_
    refine ⟨_,rfl,lx,_,3,.int m3,rfl,rfl,bh.of hx1,rfl,_,_,rfl,rfl,vh,rfl,_,rfl,dk (fun _=>?_) (fun _=>⟨rfl,rfl⟩)⟩
    refine ⟨_,rfl,_,rfl,_,rfl,lx,_,4,.int m4,rfl,rfl,bh.of hx1,rfl,_,_,rfl,rfl,zZ,le_of_ble_eq_true rfl,fun tw Sf=>⟨le_of_ble_eq_true rfl,fun tq Om=>?_⟩⟩
    have v1:=aj (o:=.tup [V.str "guard",.int nb,.int (m4 % 8)]) Sf
    have v2:=aj (o:=.tup [V.ref tp,.ref tw]) Om
    exact k tq ⟨pl, "guard",nb,m4 % 8⟩ _ (S0.trans (v1.trans v2)) ⟨tp,tw,ah,(v1.trans v2) _ _ hp1,hfl,v2 _ _ ah⟩ ⟨hpl,.inr (.inr rfl),hnb,h8⟩
   | false=>exact aW (by decide) (aW (by decide) ⟨rfl,rfl⟩)
  rintro σ G ⟨rfl,rfl⟩
  refine ⟨_,rfl,_,rfl,_,rfl,lx,_,4,.int m4,rfl,rfl,bh.of hx1,rfl,_,_,rfl,rfl,zZ,le_of_ble_eq_true rfl,fun t1 n1=>?_⟩
  have v1:=aj (o:=.tup [V.str "look",.int nb,.int (m4 % 8)]) n1
  have h11:upd G t1 (.tup [V.str "look",.int nb,.int (m4 % 8)]) t1=_:=ah
  have hx2:=v1 _ _ hx1
  have hp2:=v1 _ _ hp1
  have S2:=S0.trans v1
  generalize upd G t1 (.tup [V.str "look",.int nb,.int (m4 % 8)])=G2 at h11 hx2 hp2 S2 ⊢
  refine ⟨_,rfl,le_of_ble_eq_true rfl,fun t2 n2=>⟨le_of_ble_eq_true rfl,fun l3 n3=>?_⟩⟩
  have v2:=aj (o:=.tup [V.str "count",.int nb]) n2
  have v3:=aj (o:=.lst [V.ref t1,V.ref t2]) n3
  have h12:=(v2.trans v3) _ _ h11
  have h22:=v3 _ _ (ah (H:=G2) (a:=t2) (o:=.tup [V.str "count",.int nb]))
  have hl2:upd (upd G2 t2 (.tup [V.str "count",.int nb])) l3 (.lst [V.ref t1,V.ref t2]) l3=_:=ah
  have hx3:=(v2.trans v3) _ _ hx2
  have hp3:=(v2.trans v3) _ _ hp2
  have S3:=S2.trans (v2.trans v3)
  generalize upd (upd G2 t2 (.tup [V.str "count",.int nb])) l3 (.lst [V.ref t1,V.ref t2])=G3 at h12 h22 hl2 hx3 hp3 S3 ⊢
  refine ⟨_,rfl,lx,_,3,.int m3,rfl,rfl,bh.of hx3,rfl,_,_,rfl,rfl,zY,?_⟩
  rcases (show m3 % 2=0∨m3 % 2=1 by omega) with z | z
  ·refine ⟨l3,_,_,.ref t1,rfl,rfl,bh.of hl2,by rw [z]; rfl,le_of_ble_eq_true rfl,fun tq Om=>?_⟩
   have v4:=aj (o:=.tup [V.ref tp,.ref t1]) Om
   exact k tq ⟨pl, "look",nb,m4 % 8⟩ _ (S3.trans v4) ⟨tp,t1,ah,v4 _ _ hp3,hfl,v4 _ _ h12⟩ ⟨hpl,.inl rfl,hnb,h8⟩
  ·refine ⟨l3,_,_,.ref t2,rfl,rfl,bh.of hl2,by rw [z]; rfl,le_of_ble_eq_true rfl,fun tq Om=>?_⟩
   have v4:=aj (o:=.tup [V.ref tp,.ref t2]) Om
   exact k tq ⟨pl, "count",nb,m4 % 8⟩ _ (S3.trans v4) ⟨tp,t2,ah,v4 _ _ hp3,hfl,v4 _ _ h22⟩ ⟨hpl,.inr (.inl rfl),hnb,h8⟩
end
theorem Av (l:List Int):∀ z ∈ l.map V.int,u9 z:=fun z h=>by
 obtain ⟨i,_,rfl⟩:=mem_map.mp h
 exact .inr (.inl ⟨i,rfl⟩)
theorem Ho {H:Hp} {p q:Addr} {l:List Int} (h1:H p=some (.lst (l.map V.int))) (h2:H q=some (.lst (l.map V.int))):JP H (.ref p) (.ref q):=.inr (.inr (.inl ⟨p,q,_,rfl,rfl,h1,h2,Av l⟩))
theorem Hq {H:Hp} {p q:Addr} {ps qs:List Addr} {sn:List (Int × Int)} (h1:H p=some (.lst (ps.map V.ref))) (h2:H q=some (.lst (qs.map V.ref))) (z1:fJ H ps sn) (z2:fJ H qs sn):JP H (.ref p) (.ref q):=by
 refine .inr (.inr (.inr (.inl ⟨p,q,_,_,rfl,rfl,h1,h2,by rw [length_map,length_map,z1.1,z2.1],fun i a b ha hb=>?_⟩)))
 rw [List.getElem?_map] at ha hb
 obtain ⟨t,ht,rfl⟩:=map_eq_some_iff.mp ha
 obtain ⟨u,hu,rfl⟩:=map_eq_some_iff.mp hb
 have hi:i < sn.length:=by rw [← z1.1]; exact (List.getElem?_eq_some_iff.mp ht).1
 have hc:=List.getElem?_eq_getElem hi
 refine ⟨t,u,_,rfl,rfl,z1.2 i t _ ht hc,z2.2 i u _ hu hc,fun y hy=>?_⟩
 rcases (show y=V.int sn[i].1∨y=V.int sn[i].2 by simpa using hy) with rfl | rfl
 ·exact .inr (.inl ⟨_,rfl⟩)
 ·exact .inr (.inl ⟨_,rfl⟩)
def Bo (t:Tl):Prop:=∀ xs,t.en=some xs→∀ z ∈ xs,u9 z
theorem Hr {bs:List Int} {t:Tl} {x:Wi} (h:Bo t):Bo (iS bs t x):=by
 unfold iS
 split
 ·exact h
 split
 ·exact h
 split
 ·intro xs e z hz
  cases e
  rcases (show z=.str "halt" ∨ z=.int x.n by simpa using hz) with rfl | rfl
  ·exact .inr (.inr ⟨_,rfl⟩)
  ·exact .inr (.inl ⟨_,rfl⟩)
 ·exact h
theorem pA {bs:List Int}:∀ (ws:List Wi) (t:Tl),Bo t→Bo (cg bs t ws)
 | [],_,h=>h
 | x :: r,t,h=>pA r _ (by
  split
  ·exact Hr h
  ·exact h)
theorem Hs {bs:List Int} {ws:List Wi} {s:Int} {t:Tl} (h:Bo t):Bo (come bs ws s t):=by
 unfold come
 split
 ·exact pA ws t h
 ·exact pA ws t h
theorem Oo {ring:Int→Bool} {r:Rw} {h:Int} {z:Zt} (hn:z.how=none):∀ xs,(aY ring r h z).how=some xs→∀ y ∈ xs,u9 y:=by
 have no:∀ xs,z.how=some xs→∀ y ∈ xs,u9 y:=fun xs e=>by rw [hn] at e; cases e
 cases r with
 | stop =>
  intro xs e y hy
  cases e
  rw [mem_singleton.mp hy]
  exact .inr (.inr ⟨_,rfl⟩)
 | halt v =>
  intro xs e y hy
  cases e
  rcases (show y=.str "halt" ∨ y=.int v by simpa using hy) with rfl | rfl
  ·exact .inr (.inr ⟨_,rfl⟩)
  ·exact .inr (.inl ⟨_,rfl⟩)
 | back =>
  rcases eq_nil_or_concat z.pile with e | ⟨r,p,e⟩
  ·rw [iC e]
   intro xs e y hy
   cases e
   rw [mem_singleton.mp hy]
   exact .inr (.inr ⟨_,rfl⟩)
  ·have e:z.pile=r ++ [p]:=by simpa using e
   rw [kZ e]
   exact no
 | two u b v =>
  simp only [aY]
  split
  ·exact no
  split
  ·exact no
  split
  ·exact no
  ·exact no
 | eA u t f =>
  simp only [aY]
  split
  ·exact no
  split
  ·exact no
  split
  ·exact no
  ·exact no
 | _=>exact no
theorem DP {ring:Int→Bool} {rws:List Rw} {xs:List Wi}:∀ (n:Nat) (z:Zt) (t:Tl) (ws:List Wi),z.how=none→Bo t→Bo (mU ring rws xs n z t ws)
 | 0,_,_,_,_,h=>h
 | n + 1,z,t,ws,hz,h=>by
  have h1:=Hs (bs:=z.bs) (ws:=ws) (s:=dB z) h
  have h2:Bo (nextT ring rws z (come z.bs ws (dB z) t)):=Oo (ring:=ring) (r:=qu rws z) (h:=dB z) hz
  unfold mU
  split
  ·split
   ·rename_i c
    exact DP n _ _ _ c h2
   ·exact h2
  ·exact h1
theorem Lj {H:Hp} {p q:Addr} {d e:List (Key × V)} {ks:List Int} {f:Int→Int} (h1:H p=some (.dK d)) (h2:H q=some (.dK e)) (a:CR d ks f) (b:CR e ks f):JP H (.ref p) (.ref q):=by
 obtain ⟨⟨ka,rfl,na⟩,va⟩:=a
 obtain ⟨⟨kb,rfl,nb⟩,vb⟩:=b
 have sub:∀ {ka kb:List (Int × Int)},(ka.map (·.1)).Nodup→(∀ j:Int,cw (iD ka) (Sum.inl j:Key)=if j ∈ ks then some (.int (f j)) else none)→(∀ j:Int,cw (iD kb) (Sum.inl j:Key)=if j ∈ ks then some (.int (f j)) else none)→∀ c ∈ ka,c ∈ kb:=by
  intro ka kb na va vb c hc
  have h1:=wD na (show (c.1,c.2) ∈ ka from hc)
  obtain ⟨v,e1,hm⟩:=JW ((vb c.1).trans ((va c.1).symm.trans h1))
  rw [← V.int.inj e1] at hm
  exact hm
 have s1:=sub na va vb
 have s2:=sub nb vb va
 refine .inr (.inr (.inr (.inr ⟨p,q,ka,kb,rfl,rfl,h1,h2,?_,s1⟩)))
 have l1:=sv (ka.map (·.1)) (kb.map (·.1)) na fun x hx=>by
  obtain ⟨c,hc,rfl⟩:=mem_map.mp hx
  exact mem_map.mpr ⟨c,s1 c hc,rfl⟩
 have l2:=sv (kb.map (·.1)) (ka.map (·.1)) nb fun x hx=>by
  obtain ⟨c,hc,rfl⟩:=mem_map.mp hx
  exact mem_map.mpr ⟨c,s2 c hc,rfl⟩
 rw [length_map,length_map] at l1 l2
 omega
theorem Lk {H:Hp} {v w:V} {t:Tl} (hz:Bo t) (h1:iB H v t.en) (h2:iB H w t.en):JP H v w:=by
 cases e:t.en with
 | none =>
  rw [e] at h1 h2
  cases h1
  cases h2
  exact .inl ⟨rfl,.inl rfl⟩
 | some xs =>
  rw [e] at h1 h2
  obtain ⟨p,rfl,hp⟩:=h1
  obtain ⟨q,rfl,hq⟩:=h2
  exact .inr (.inl ⟨p,q,xs,rfl,rfl,hp,hq,hz xs e⟩)
theorem Ht {H:Hp} {a b:Addr} {m n:TA} {B C:Nat} {t:Tl} {Q:V→Hp→Prop} (M:TS H a m B t) (N:TS H b n C t) (hz:Bo t) (k:Q (.bl false) H):HV (.ref a) (.ref b) H Q:=by
 obtain ⟨w1,o1,e1⟩:=M.st
 obtain ⟨w2,o2,e2⟩:=N.st
 obtain ⟨p1,s1,t1⟩:=M.seen
 obtain ⟨p2,s2,t2⟩:=N.seen
 obtain ⟨d1,c1,r1,_⟩:=M.cnt
 obtain ⟨d2,c2,r2,_⟩:=N.cnt
 refine ⟨a,b,_,_,rfl,rfl,o1,o2,rfl,fun i x y hx hy=>?_,k⟩
 have hx:([.ref m.s,.ref m.c,.ref m.r,w1]:List V)[i]? = some x:=hx
 have hy:([.ref n.s,.ref n.c,.ref n.r,w2]:List V)[i]? = some y:=hy
 match i with
 | 0=>cases hx; cases hy; exact Hq s1 s2 t1 t2
 | 1=>cases hx; cases hy; exact Lj c1 c2 r1 r2
 | 2=>cases hx; cases hy; exact Ho M.rws N.rws
 | 3=>cases hx; cases hy; exact Lk hz e1 e2
 | i + 4=>simp at hx
theorem SV (xs:List V):(gY xs (some 4) (some 13)).length ≤ 9:=by
 unfold gY
 rw [length_take]
 have e1:HT.eB xs.length xs.length (some 13)=min 13 xs.length:=HT.nG _ _ 13
 have e2:HT.eB xs.length 0 (some 4)=min 4 xs.length:=HT.nG _ _ 4
 rw [e1,e2]
 omega
theorem Hu {ds:List FR} {xs:List Wi} (h:∀ x ∈ xs,I0 ds x):∀ x ∈ xs,pe (lQ xs) x:=fun x hx=>by
 obtain ⟨_,hu,_,hb⟩:=h x hx
 have b1:(0:Int) ≤ x.b:=hb.1
 have b2:x.b ≤ 7:=hb.2
 exact ⟨hu,⟨b1,by omega⟩,fun e=>mem_map.mpr ⟨x,mem_filter.mpr ⟨hx,decide_eq_true e⟩,rfl⟩⟩
theorem Ln {xs:List Wi}:Bo (Bl xs):=fun _ e=>by cases e
section
variable {P:Program} {w:World} {K:Frag} {mg:Str→Option Value} {base:Heap}
def zr:Sp:=fun vs H Q _=>∃ (a:Addr) (ns:List Int),vs=[.ref a]∧bh K H a (ns.map V.int)∧ns.length ≤ 63∧∀ H',Q (.bl true) H'
theorem iE:aJ ["_law_script", "_law_first", "_law_rows_here", "_law_wishes", "_law_k", "_law_cell", "_law_wish_here", "_law_boxes", "_law_cells", "_law_bells", "_law_most", "_law_due_here"] ["_law_script"] (ak kF):=⟨rfl,rfl,rfl,by decide +kernel,rfl,by decide +kernel,by decide +kernel⟩
theorem Lp {f fC fR fW fB fD fP:Addr} {fd Im IY rF IB Iu IJ:FuncData} (F:dJ K "law" "law" kF f fd) (T:Txt K w.params mg) (GC:aR P w K mg base bV 1 fC Im ["_law_script", "_law_k"] (CF (K:=K))) (kC:KI K fC) (bC:Binds K Im ["_law_script", "_law_k"] []) (mC:mg "_law_cell_at" = some (.ref fC)) (GR:aR P w K mg base bV 3 fR IY ["_law_cell", "_law_many"] Oi) (kR:KI K fR) (bR:Binds K IY ["_law_cell", "_law_many"] []) (mR:mg "_law_rows" = some (.ref fR)) (GW:aR P w K mg base bV 2 fW rF ["_law_rows_here", "_law_cell", "_law_number", "_law_guards"] Ol) (kW:KI K fW) (bW:Binds K rF ["_law_rows_here", "_law_cell", "_law_number", "_law_guards"] []) (mW:mg "_law_wish" = some (.ref fW)) (GB:aR P w K mg base bV 2 fB IB ["_law_cell"] Iv) (kB:KI K fB) (bB:Binds K IB ["_law_cell"] []) (mB:mg "_law_beginning" = some (.ref fB)) (GD:aR P w K mg base bV 3 fD Iu ["_law_rows_here", "_law_wishes", "_law_beginning_here", "_law_most"] II) (kD:KI K fD) (bD:Binds K Iu ["_law_rows_here", "_law_wishes", "_law_beginning_here", "_law_most"] []) (mD:mg "_law_due" = some (.ref fD)) (GP:aR P w K mg base bV 9 fP IJ ["rows", "wishes", "boxes", "cells", "bells", "most"] Oc) (kP:KI K fP) (bP:Binds K IJ ["rows", "wishes", "boxes", "cells", "bells", "most"] []) (mP:mg "plain_seen" = some (.ref fP)):aR P w K mg base bV 10 f fd ["_law_script"] (zr (K:=K)):=by
 refine F.ok iE (fun vs H Q E h=>?_) (fun cdv A outer s H vs Q E hr h=>?_)
 ·obtain ⟨a,ns,rfl,_⟩:=h
  rfl
 ·obtain ⟨a,ns,rfl,hS,hn,k⟩:=h
  have hu:=cC hr
  have Iw:=lt_of_le_of_lt (Nat.add_le_add_left (by decide:6 ≤ 64) _) hr.units
  refine dG (aD (aG (aV (i:=1) iE.nd rfl (Or.inl rfl) (aQ GC (hr.mono (by decide)) (by rfl) mC kC bC .nil bp (ae (pv 0) (ae ai ao)))))
   (aD (aG (aV (i:=2) iE.nd rfl (Or.inl rfl) (aQ GR (hr.mono (by decide)) (by rfl) mR kR bR .nil bp (ae (aQ GC (hr.mono (by decide)) (by rfl) mC kC bC .nil bp (ae (pv 0) (ae ai ao))) (ae (aN dn ai (aN bq (pv 1) ai)) ao)))))
   (aD (aG (aV (i:=3) iE.nd rfl (Or.inl rfl) (cu ao)))
   (aD (aG (gM PassesOwn.never rfl (sj rfl T.enum (ae (eV iK (pv 0) (eG ai) (eG ai)) ao)) (ik (K:=K) (i:=4) (j:=5) rfl rfl iE.nd rfl (Or.inl rfl) rfl (Or.inl rfl)) (aA (aV (i:=6) iE.nd rfl (Or.inl rfl) (aQ GW (hr.mono (by decide)) (by rfl) mW kW bW .nil bp (ae (pv 2) (ae (pv 5) (ae (aN bq (pv 5) ai) (ae lT ao))))))
   (kh (bU (dM (aF (si (lt_of_succ_lt hu)) (pv 3) (cu ao) (aO _)) (dD (aF bQ (aN bq (aN bZ (pv 5) ai) ai) ai (aO _)))).pt (aw (aV (i:=6) iE.nd rfl (Or.inl rfl) (aX (ae (au az (au aK (pv 3) (i6 gN ai) (fun _ _=>rfl)) ai (fun _ _=>rfl)) (ae (au az (pv 6) ai (fun _ _=>rfl)) ao))))) aM)
   (kh (bU (dM (aF (si (lt_of_succ_lt hu)) (pv 3) (cu ao) (aO _)) (dD (aF bQ (aN bq (aN bZ (pv 5) ai) ai) ai (aO _)))).pt (aw (aV (i:=6) iE.nd rfl (Or.inl rfl) (aX (ae (au az (au aK (pv 3) (i6 gN ai) (fun _ _=>rfl)) ai (fun _ _=>rfl)) (ae (aX (ae aq (ae (pv 4) (ae (aN bq (aN bZ (pv 5) ai) ai) ao)))) ao))))) aM)
   (aw (bJ (gn PySem.F.plainAttrs_list PySem.F.slot_list_append PySem.F.type_list_append cr (pv 3) (ae (pv 6) ao)))))))))
   (aD (aG (dO (aQ GB (hr.mono (by decide)) (by rfl) mB kB bB .nil bp (ae (aQ GC (hr.mono (by decide)) (by rfl) mC kC bC .nil bp (ae (pv 0) (ae ai ao))) ao)) (vL (n:=3) rfl (fX (cD (i:=7) iE.nd rfl (Or.inl rfl)) (fX (cD (i:=8) iE.nd rfl (Or.inl rfl)) (fX (cD (i:=9) iE.nd rfl (Or.inl rfl)) rO))))))
   (aD (aG (gM PassesOwn.never rfl (zX rfl T.range (ae (aN bq (aN bZ (pv 1) ai) ai) (ae (i6 gN ai) (ae (i6 gN ai) ao)))) (cD (i:=10) iE.nd rfl (Or.inl rfl)) (aA (aV (i:=11) iE.nd rfl (Or.inl rfl) (aQ GD (hr.mono (by decide)) (by rfl) mD kD bD .nil bp (ae (pv 2) (ae (pv 3) (ae (aX (ae (pv 7) (ae (pv 8) (ae (pv 9) ao)))) (ae (pv 10) ao))))))
   (aw (bU (aF (Fk Iw) (aQ GP hr (by rfl) mP kP bP .nil bp (ae (pv 2) (ae (pv 3) (ae (pv 7) (ae (pv 8) (ae (pv 9) (ae (pv 10) ao))))))) (pv 11) (aO _)) (aw (aU lT)) aM)))))
   (aP (aG (aU lT))))))))) ?_
  refine ⟨_,rfl,a,ns,1,rfl,hS,by decide,fun c1=>?_⟩
  refine ⟨_,rfl,a,ns,0,rfl,hS,by decide,fun c0=>?_⟩
  obtain ⟨n0,hn0,hnl⟩:=Hm c1 (n:=12) (by decide)
  refine ⟨_,rfl,_,_,rfl,rfl,MH,_,_,rfl,rfl,c0,n0 + 2,?_,by omega,by omega,fun lr ds H1 s1 SN hR hG hdn=>?_⟩
  ·have e:(2:Int) + c1 % 12=((n0 + 2:Nat):Int):=by omega
   show ([V.int c0,V.int (2 + c1 % 12)]:List V)=_
   rw [e]
  refine ⟨le_of_ble_eq_true rfl,fun lw Ja=>?_⟩
  have s2:=aj (o:=.lst []) Ja
  have QJ:upd H1 lw (.lst []) lw=some (.lst ([]:List V)):=ah
  generalize upd H1 lw (.lst [])=H2 at s2 QJ ⊢
  refine ⟨_,rfl,4,rfl,13,rfl,a,_,rfl,(s1.trans s2).seq hS,fun lc IZ=>?_⟩
  obtain ⟨cs,ec,_⟩:=tG ns (some 4) (some 13)
  have h9:=SV (ns.map V.int)
  rw [ec,length_map] at h9
  rw [show gY (ns.map V.int) (some 4) (some 13)=cs.map V.int from ec]
  have s3:=aj (o:=.lst (cs.map V.int)) IZ
  have za:upd H2 lc (.lst (cs.map V.int)) lc=some (.lst (cs.map V.int)):=ah
  have Lq:=s3 _ _ QJ
  have ncw:lc ≠ lw:=fun z=>by rw [z,QJ] at IZ; cases IZ
  have QK:=hR.same (s2.trans s3)
  have Hg:=s1.trans (s2.trans s3)
  have nrw:¬ lr=lw:=fun z=>by
   obtain ⟨_,e,_⟩:=hR
   rw [z,Ja] at e
   cases e
  generalize upd H2 lc (.lst (cs.map V.int))=H3 at za Lq QK Hg ⊢
  clear s2 s3 QJ IZ
  have nw0:H lw=none:=s1.free Ja
  refine ⟨lc,rfl,⟨_,bh.of za⟩,oJ (K:=K) (xs:=cs.map V.int) (fun i σ G=>∃ (v1 v2 v3:Option V) (xs:List Wi),σ=[some (.ref a),some (.int c1),some (.ref lr),some (.ref lw),v1,v2,v3,none,none,none,none,none]∧Keeps (fun c=>c=lw) H3 G∧jg G lw xs∧xs.length=i∧∀ x ∈ xs,I0 ds x) ?_ ?_ ?_ ?_⟩
  ·exact ⟨none,none,none,[],rfl,Keeps.refl,⟨[],Lq,rfl,fun i q x e=>by simp at e⟩,rfl,fun x hx=>absurd hx not_mem_nil⟩
  ·rintro i σ G _ ⟨v1,v2,v3,xs,rfl,kp,_⟩
   exact bh.of (kp _ _ za (.inl ncw))
  ·rintro i y σ G tt hy NZ ⟨v1,v2,v3,xs,rfl,kp,⟨qs,hw,hql,zm⟩,LI,LL⟩
   rw [List.getElem?_map] at hy
   obtain ⟨cl,hcl,rfl⟩:=map_eq_some_iff.mp hy
   have hi9:i < 9:=by have:=(List.getElem?_eq_some_iff.mp hcl).1; omega
   have s3:=aj (o:=.tup [V.int i,.int cl]) NZ
   have htt:upd G tt (.tup [V.int i,.int cl]) tt=_:=ah
   generalize upd G tt (.tup [V.int i,.int cl])=G3 at s3 htt ⊢
   refine ⟨tt,_,rfl,aS.of htt,rfl,_,_,rfl,_,_,rfl,rfl,?_⟩
   have SW:=kp.trans (.same s3)
   have Oq:gq G3 lr ds:=by
    obtain ⟨qr,e1,e2,e3⟩:=QK
    exact ⟨qr,SW _ _ e1 (.inl nrw),e2,fun i q d h1 h2=>(e3 i q d h1 h2).tups SW.tups⟩
   refine ⟨_,rfl,_,rfl,_,rfl,_,_,rfl,rfl,zZ,lr,cl,cl % 8,true,ds,rfl,Oq,hG,⟨show 0 ≤ _ by omega,show _ ≤ 1000000 by omega⟩,fun q x G4 s4 hwi Bm=>?_⟩
   have SY:=s4 _ _ (s3 _ _ hw)
   obtain ⟨G5,SZ⟩:∃ G,G=G4:=⟨_,rfl⟩
   have S5:Same G4 G5:=by rw [SZ]; exact .refl _
   rw [← SZ] at hwi ⊢
   clear SZ
   refine ⟨fun σ G=>∃ (q:Addr) (x:Wi),σ=[some (.ref a),some (.int c1),some (.ref lr),some (.ref lw),some (.int (i:Int)),some (.int cl),some (.ref q),none,none,none,none,none]∧Same G4 G∧qq G q x∧I0 ds x,?_,?_⟩
   ·have Bk:=S5 _ _ SY
    refine ⟨_,rfl,le_of_ble_eq_true rfl,fun l1 n1=>⟨lw,l1,_,[],rfl,rfl,bh.of (aj n1 _ _ Bk),bh.of ah,fun i a b _ z=>by simp at z,_,rfl,?_⟩⟩
    have v1:=aj (o:=.lst []) n1
    have Ot:=v1 _ _ Bk
    have S6:=S5.trans v1
    have tS:=hwi.tups (.of v1)
    generalize upd G5 l1 (.lst [])=G6 at Ot S6 tS ⊢
    by_cases hne:qs=[]
    ·exact aW (by rw [decide_eq_true (by rw [hne]; rfl)]; decide) (aW (by decide) ⟨q,x,rfl,S6,tS,Bm⟩)
    refine cy (by rw [decide_eq_false (fun z=>hne (map_eq_nil_iff.mp z))]; rfl) ?_
    refine ⟨_,rfl,_,_,rfl,rfl,⟨by show (0:Int) < 8; decide,by show (8:Int) < _; decide⟩,_,_,rfl,rfl,Fl,rfl,_,rfl,dk (fun _=>?_) (fun _=>⟨q,x,rfl,S6,tS,Bm⟩)⟩
    have hql:0 < qs.length:=length_pos_iff.mpr hne
    obtain ⟨m,hm⟩:∃ m,qs.length=m + 1:=⟨qs.length - 1,by omega⟩
    have Lr:qs[m]? = some (qs[m]'(by omega)):=List.getElem?_eq_getElem _
    have Ou:xs[m]? = some (xs[m]'(by omega)):=List.getElem?_eq_getElem _
    have Ov:=LL _ (List.getElem_mem (show m < xs.length by omega))
    obtain ⟨p1,h1,b1,b2,b3,b4⟩:=((zm m _ _ Lr Ou).tups (.of (s3.trans s4))).tups (.of S6)
    generalize (qs[m]'(by omega))=ql at Lr b1
    generalize (xs[m]'(by omega))=xl at Ou Ov b2 b3 b4
    have hat:lX (qs.map V.ref) (-1)=some (.ref ql):=lg (n:=m) (by rw [length_map,hm]) (by rw [List.getElem?_map,Lr]; rfl)
    obtain ⟨p2,h2,y1,y2,y3,y4⟩:=tS
    refine ⟨_,rfl,_,rfl,lw,_,_,.ref ql,rfl,rfl,bh.of Ot,hat,ql,_,0,_,rfl,rfl,aS.of b1,at0 _ _,_,rfl,q,_,1,_,rfl,rfl,aS.of y1,at1 _ _ _,le_of_ble_eq_true rfl,fun tn Li=>?_⟩
    have v7:=aj (o:=.tup [V.ref p1,.ref h2]) Li
    exact ⟨tn,⟨xl.p,x.u,x.n,x.b⟩,rfl,S6.trans v7,⟨p1,h2,ah,v7 _ _ b2,b3,v7 _ _ y4⟩,Ov.1,Bm.2⟩
   clear S5 hwi Bm
   rintro σ G5 ⟨q,x,rfl,S5,hwi,Bm⟩
   refine ⟨fun σ G=>∃ (q:Addr) (x:Wi),σ=[some (.ref a),some (.int c1),some (.ref lr),some (.ref lw),some (.int (i:Int)),some (.int cl),some (.ref q),none,none,none,none,none]∧Same G4 G∧qq G q x∧I0 ds x,?_,?_⟩
   ·have Bk:=S5 _ _ SY
    refine ⟨_,rfl,le_of_ble_eq_true rfl,fun l1 n1=>⟨lw,l1,_,[],rfl,rfl,bh.of (aj n1 _ _ Bk),bh.of ah,fun i a b _ z=>by simp at z,_,rfl,?_⟩⟩
    have v1:=aj (o:=.lst []) n1
    have Ot:=v1 _ _ Bk
    have S6:=S5.trans v1
    have tS:=hwi.tups (.of v1)
    generalize upd G5 l1 (.lst [])=G6 at Ot S6 tS ⊢
    by_cases hne:qs=[]
    ·exact aW (by rw [decide_eq_true (by rw [hne]; rfl)]; decide) (aW (by decide) ⟨q,x,rfl,S6,tS,Bm⟩)
    refine cy (by rw [decide_eq_false (fun z=>hne (map_eq_nil_iff.mp z))]; rfl) ?_
    refine ⟨_,rfl,_,_,rfl,rfl,⟨by show (0:Int) < 8; decide,by show (8:Int) < _; decide⟩,_,_,rfl,rfl,JX,rfl,_,rfl,dk (fun _=>?_) (fun _=>⟨q,x,rfl,S6,tS,Bm⟩)⟩
    have hql:0 < qs.length:=length_pos_iff.mpr hne
    obtain ⟨m,hm⟩:∃ m,qs.length=m + 1:=⟨qs.length - 1,by omega⟩
    have Lr:qs[m]? = some (qs[m]'(by omega)):=List.getElem?_eq_getElem _
    have Ou:xs[m]? = some (xs[m]'(by omega)):=List.getElem?_eq_getElem _
    have Ov:=LL _ (List.getElem_mem (show m < xs.length by omega))
    obtain ⟨p1,h1,b1,b2,b3,b4⟩:=((zm m _ _ Lr Ou).tups (.of (s3.trans s4))).tups (.of S6)
    generalize (qs[m]'(by omega))=ql at Lr b1
    generalize (xs[m]'(by omega))=xl at Ou Ov b2 b3 b4
    have hat:lX (qs.map V.ref) (-1)=some (.ref ql):=lg (n:=m) (by rw [length_map,hm]) (by rw [List.getElem?_map,Lr]; rfl)
    obtain ⟨p2,h2,y1,y2,y3,y4⟩:=tS
    refine ⟨_,rfl,_,rfl,lw,_,_,.ref ql,rfl,rfl,bh.of Ot,hat,ql,_,0,_,rfl,rfl,aS.of b1,at0 _ _,_,rfl,_,rfl,_,_,rfl,rfl,⟨by show (0:Int) < 72; decide,by show (72:Int) < _; decide⟩,_,_,rfl,rfl,zZ,le_of_ble_eq_true rfl,fun tg ntg=>⟨le_of_ble_eq_true rfl,fun tn Li=>?_⟩⟩
    have v7:=aj (o:=.tup [V.str "guard",.int (i:Int),.int (cl / 72 % 8)]) ntg
    have v8:=aj (o:=.tup [V.ref p1,.ref tg]) Li
    exact ⟨tn,⟨xl.p, "guard",i,cl / 72 % 8⟩,rfl,S6.trans (v7.trans v8),⟨p1,tg,ah,(v7.trans v8) _ _ b2,b3,v8 _ _ ah⟩,Ov.1,.inr (.inr rfl),⟨show (0:Int) ≤ (i:Int) by omega,show (i:Int) ≤ 1000000 by omega⟩,⟨show (0:Int) ≤ cl / 72 % 8 by omega,show cl / 72 % 8 ≤ 7 by omega⟩⟩
   clear S5 hwi Bm
   rintro σ G5 ⟨q,x,rfl,S5,hwi,Bm⟩
   have Bk:=S5 _ _ SY
   refine ⟨_,rfl,.inl ⟨rfl,_,bh.of Bk⟩,_,rfl,lw,_,_,rfl,rfl,Bk,bw (by rw [length_map]; omega),?_⟩
   have T:=pq (o:=.lst (qs.map V.ref ++ [V.ref q])) Bk
   refine ⟨_,_,_,xs ++ [x],rfl,(SW.trans (.same (s4.trans S5))).upd Bk (by intro _ z; cases z) rfl,⟨qs ++ [q],by rw [ah,map_append]; rfl,by rw [length_append,length_append,hql]; rfl,?_⟩,by rw [length_append,LI]; rfl,fun y hy=>?_⟩
   ·refine tJ (as:=qs) (bs:=xs) (cs:=[q]) (ds:=[x]) (R:=qq (upd G5 lw (.lst (qs.map V.ref ++ [V.ref q])))) (by omega) (fun j q d a b=>((zm j q d a b).tups (.of (s3.trans (s4.trans S5)))).tups T) (fun j q d a b=>?_)
    cases j with
    | zero=>cases a; cases b; exact hwi.tups T
    | succ j=>simp at a
   ·rcases mem_append.mp hy with z | z
    ·exact LL y z
    ·rw [mem_singleton.mp z]; exact Bm
  rintro σ G ⟨v1,v2,v3,xs,rfl,kp,hW,LI,LL⟩
  rw [length_map] at LI
  have SH:Same H G:=fun c o e=>kp c o (Hg _ _ e) (.inl fun z=>by rw [z,nw0] at e; cases e)
  have Oq:gq G lr ds:=by
   obtain ⟨qr,e1,e2,e3⟩:=QK
   exact ⟨qr,kp _ _ e1 (.inl nrw),e2,fun i q d h1 h2=>(e3 i q d h1 h2).tups kp.tups⟩
  clear kp QK hR Hg za Lq
  have hgw:=Hu LL
  refine ⟨_,rfl,a,ns,2,rfl,SH.seq hS,by decide,fun c2=>⟨c2,rfl,fun tb pb pc pl bs bells d cf G5 s5 ht hpb b8 hpc hrep hdl hpl hb=>?_⟩⟩
  refine ⟨tb,_,rfl,aS.of ht,rfl,_,_,rfl,_,_,rfl,_,_,rfl,rfl,?_⟩
  obtain ⟨j,hj,hjl⟩:=Hm (c1 / 12) (n:=31) (by decide)
  have QG:=vB Oq hG.2.2.1
  have LB:=rJ Oq hG
  have Dy:1 ≤ (ds.map g6).length:=by rw [length_map]; exact hG.1
  refine ⟨_,rfl,_,_,rfl,rfl,⟨by show (0:Int) < 12; decide,by show (12:Int) < _; decide⟩,_,_,rfl,rfl,MO,_,rfl,_,rfl,j,?_,by omega,?_⟩
  ·have e:c1 / 12 % 31=(j:Int):=hj
   show ([V.int (c1 / 12 % 31),V.int (-1),V.int (-1)]:List V)=_
   rw [e]
  refine Cz (n:=j + 1) (fun i σ G'=>∃ v7 v8:Option V,σ=[some (.ref a),some (.int c1),some (.ref lr),some (.ref lw),v1,v2,v3,some (.ref pb),some (.ref pc),some (.ref pl),v7,v8]∧Same G5 G') ?_ ?_ ?_
  ·exact ⟨none,none,rfl,.refl _⟩
  ·rintro i σ G' hi ⟨v7,v8,rfl,s6⟩
   have e:((j + 1:Nat):Int) - 1 - (i:Nat)=((j - i:Nat):Int):=by omega
   rw [e]
   have hmo:j - i ≤ 31:=by omega
   generalize j - i=most at hmo
   have s56:=s5.trans s6
   refine ⟨_,rfl,_,rfl,_,rfl,_,rfl,_,rfl,le_of_ble_eq_true rfl,fun tu ntu=>?_⟩
   have v1':=aj (o:=.tup [V.ref pb,.ref pc,.ref pl]) ntu
   have Kx:=s56.trans v1'
   have QL:=s6.trans v1'
   refine ⟨_,rfl,lr,lw,tu,pb,pc,pl,most,ds.map g6,xs,bs,bells,d,cf,rfl,hmo,QG.same Kx,Dy,LB,hW.same Kx,by omega,hgw,ah,QL _ _ hpb,b8,QL _ _ hpc,hrep,hdl,QL _ _ hpl,fun a1 mt1 G7 s7 _ M7=>?_⟩
   have s58:=Kx.trans s7
   have QM:=QL.trans s7
   refine ⟨_,rfl,_,rfl,_,rfl,_,rfl,_,rfl,_,rfl,lr,lw,pb,pc,pl,most,ds,xs,bs,bells,d,cf,rfl,hmo,Oq.same s58,hG,hW.same s58,by omega,LL,hgw,QM _ _ hpb,b8,QM _ _ hpc,hrep,hdl,QM _ _ hpl,hb,fun a2 mt2 G8 s8 _ M8=>?_⟩
   exact ⟨_,rfl,Ht M8 (M7.same s8) (DP _ _ _ _ rfl Ln) ⟨_,rfl,aW (by decide) ⟨_,_,rfl,QM.trans s8⟩⟩⟩
  ·rintro σ G' ⟨v7,v8,rfl,s6⟩
   exact k _
end
set_option maxHeartbeats 8000000
theorem all_mk {l:OpenLaw} {w:World} {K:Frag} {h:Heap} {mg:Str→Option Value} {fa f0 f1 f2 f3 f4 f5 f6 f7 f8 f9 Ow f11 Ox Oy Oz OB OD OG OI OJ OL Ta Tb Tc Td Te Tf Tg Ti Tj Tn Tp f32 Tq Tr Ts Tt Tv Tw Tx Tz TB TF TH TJ TK TL TN TQ TU TV TX TY T3 T4 T5 T6 T7 T8 T9 Ua Ub:Addr} (X:K.In h) (G:h.Ns mainGlobals mg) (hfa:mg "law" = some (.ref fa))
  {od0 an0 od1 an1 od2 an2 od3 an3 od4 an4 od5 an5 od6 an6 od7 an7 od8 an8 od9 an9 Uc Ud Ue Ug Uh Ui Uj Uk Ul Um Uo Uq Ur Us Ut Uu Uv Uw Ux Uy Uz UA UB UC UD UE UG UH UI UJ UK UL UM UN UO UP UQ UR US UT UU UW UX UY UZ U0 U1 U2 U3 U4 U5 U6 U7 U8 U9 Va Vb Vc Vd Ve Vf Vg Vh Vi Vj Vk Vl Vm Vn Vo Vp Vq Vr Vs Vt Vu Vv Vw Vx Vy Vz VA VB VC VD VE VF VG VH VI VJ VL VM VN VO VP VQ VR VT VU VW VX VY OM:Option Addr} {sl0 sl1 sl2 sl3 sl4 sl5 sl6 sl7 sl8 sl9 VZ V0 V1 V2 V3 V4 V5 V6 V7 V8 V9 Wa Wb Wc Wd Wf Wg Wh Wj Wk Wl Wm Wn Wo Wp Wq Wr Ws Wt Wu Wv Ww Wx Wy Wz WB WC WD WG WH WK WL WM WN WO WQ WR WT WU WV WW WX:Array (Option Value)} {oc0 kV0 dc0 pm0 cd0 ct0 oc1 kV1 dc1 pm1 cd1 ct1 oc2 kV2 dc2 pm2 cd2 ct2 oc3 kV3 dc3 pm3 cd3 ct3 oc4 kV4 dc4 pm4 cd4 ct4 oc5 kV5 dc5 pm5 cd5 ct5 oc6 kV6 dc6 pm6 cd6 ct6 oc7 kV7 dc7 pm7 cd7 ct7 oc8 kV8 dc8 pm8 cd8 ct8 oc9 kV9 dc9 pm9 cd9 ct9 WY WZ W0 W1 OO W2 W3 W4 W5 W6 OQ W7 W8 W9 Xa Xb OS Xc Xd Xe Xf Xg OU Xh Xi Xj Xk Xl OV Xm Xn Xo Xp Xq OW Xr Xt Xu Xv Xw OX Xx Xy Xz XA XB OY XC XD XF XG XH OZ XI XJ XM XO XQ Pa XR XS XT XU XW Pb XY XZ X0 X2 X3 Pg X4 X5 X6 X7 X8 Ph X9 Ya Yb Yc Yd Pj Ye Yf Yg Yh Yi Pk Yj Yk Yl Ym Yn Pl Yo Yp Yq Yr Ys Pm Yt Yu Yv Yw Yx Pn Yy Yz YB YC YD Pp YF YG YH YJ YK Pq YL YM YN YQ YR Pr YS YT YV YW YX Pt YZ Y0 Y1 Y2 Y3 Pu Y4 Y5 Y6 Y7 Y8 Pw Y9 Za Zb Zc Zd Px Ze Zf Zg Zh Zi Py Zj Zk Zm Zn Zo Pz Zq Zr Zu Zv Zw PB Zx Zy Zz ZA ZC PD ZD ZE ZF ZG ZI PF ZJ ZK ZL ZM ZO PH ZP ZQ ZR ZS ZU PJ ZV ZW ZX ZY Z0 PK Z1 Z2 Z3 Z4 Z5 PL Z6 Z7 Z8 Z9 aac PN aad aae aaf aag aah PR aai aaj aak aal aam PU aan aao aap aaq aar PV aas aat aau aav aaw PX aax aay aaz aaA aaB PY aaC aaD aaE aaF aaG PZ aaH aaI aaJ aaK aaL P0 aaM aaN aaO aaP aaQ P1 aaR aaS aaT aaU aaV P2 aaW aaX aaY aaZ aa0 P4 aa1 aa2 aa3 aa4 aa5 P5 aa6 aa7 aa8 aa9 abb P6 abd abe abf abg abh P7 abi abj abk abl abm P8 abn abo abp abq abr P9 abt abu abv abw abx Qa aby abz Qb Qc Qd Ls Qe:Value}
  (a0:nsIn K mainGlobals "end" = some (some (.ref f0))) (l0:K.lookup f0=some ⟨oc0,od0,.func (fnOf "end" "end" (aI s_end) (aH s_end) (ak s_end) .none kV0 dc0 pm0 an0 cd0 ct0),sl0⟩) (c0:codeIn K cd0 "end" = true) (k0:keepIn K (.ref f0)=true)
  (a1:nsIn K mainGlobals "do_stop" = some (some (.ref f1))) (l1:K.lookup f1=some ⟨oc1,od1,.func (fnOf "do_stop" "do_stop" (aI jn) (aH jn) (ak jn) .none kV1 dc1 pm1 an1 cd1 ct1),sl1⟩) (c1:codeIn K cd1 "do_stop" = true) (k1:keepIn K (.ref f1)=true)
  (a2:nsIn K mainGlobals "do_halt" = some (some (.ref f2))) (l2:K.lookup f2=some ⟨oc2,od2,.func (fnOf "do_halt" "do_halt" (aI jo) (aH jo) (ak jo) .none kV2 dc2 pm2 an2 cd2 ct2),sl2⟩) (c2:codeIn K cd2 "do_halt" = true) (k2:keepIn K (.ref f2)=true)
  (a3:nsIn K mainGlobals "do_back" = some (some (.ref f3))) (l3:K.lookup f3=some ⟨oc3,od3,.func (fnOf "do_back" "do_back" (aI jq) (aH jq) (ak jq) .none kV3 dc3 pm3 an3 cd3 ct3),sl3⟩) (c3:codeIn K cd3 "do_back" = true) (k3:keepIn K (.ref f3)=true)
  (a4:nsIn K mainGlobals "do_set" = some (some (.ref f4))) (l4:K.lookup f4=some ⟨oc4,od4,.func (fnOf "do_set" "do_set" (aI kr) (aH kr) (ak kr) .none kV4 dc4 pm4 an4 cd4 ct4),sl4⟩) (c4:codeIn K cd4 "do_set" = true) (k4:keepIn K (.ref f4)=true)
  (a5:nsIn K mainGlobals "do_more" = some (some (.ref f5))) (l5:K.lookup f5=some ⟨oc5,od5,.func (fnOf "do_more" "do_more" (aI jr) (aH jr) (ak jr) .none kV5 dc5 pm5 an5 cd5 ct5),sl5⟩) (c5:codeIn K cd5 "do_more" = true) (k5:keepIn K (.ref f5)=true)
  (a6:nsIn K mainGlobals "do_copy" = some (some (.ref f6))) (l6:K.lookup f6=some ⟨oc6,od6,.func (fnOf "do_copy" "do_copy" (aI jt) (aH jt) (ak jt) .none kV6 dc6 pm6 an6 cd6 ct6),sl6⟩) (c6:codeIn K cd6 "do_copy" = true) (k6:keepIn K (.ref f6)=true)
  (a7:nsIn K mainGlobals "do_add" = some (some (.ref f7))) (l7:K.lookup f7=some ⟨oc7,od7,.func (fnOf "do_add" "do_add" (aI ku) (aH ku) (ak ku) .none kV7 dc7 pm7 an7 cd7 ct7),sl7⟩) (c7:codeIn K cd7 "do_add" = true) (k7:keepIn K (.ref f7)=true)
  (a8:nsIn K mainGlobals "do_less" = some (some (.ref f8))) (l8:K.lookup f8=some ⟨oc8,od8,.func (fnOf "do_less" "do_less" (aI ju) (aH ju) (ak ju) .none kV8 dc8 pm8 an8 cd8 ct8),sl8⟩) (c8:codeIn K cd8 "do_less" = true) (k8:keepIn K (.ref f8)=true)
  (a9:nsIn K mainGlobals "do_load" = some (some (.ref f9))) (l9:K.lookup f9=some ⟨oc9,od9,.func (fnOf "do_load" "do_load" (aI jv) (aH jv) (ak jv) .none kV9 dc9 pm9 an9 cd9 ct9),sl9⟩) (c9:codeIn K cd9 "do_load" = true) (k9:keepIn K (.ref f9)=true)
  (a10:nsIn K mainGlobals "do_keep" = some (some (.ref Ow))) (l10:K.lookup Ow=some ⟨WY,Uc,.func (fnOf "do_keep" "do_keep" (aI jw) (aH jw) (ak jw) .none WZ W0 W1 Ud OO W2),VZ⟩) (c10:codeIn K OO "do_keep" = true) (k10:keepIn K (.ref Ow)=true)
  (a11:nsIn K mainGlobals "do_tell" = some (some (.ref f11))) (l11:K.lookup f11=some ⟨W3,Ue,.func (fnOf "do_tell" "do_tell" (aI jx) (aH jx) (ak jx) .none W4 W5 W6 Ug OQ W7),V0⟩) (c11:codeIn K OQ "do_tell" = true) (k11:keepIn K (.ref f11)=true)
  (a12:nsIn K mainGlobals "do_see" = some (some (.ref Ox))) (l12:K.lookup Ox=some ⟨W8,Uh,.func (fnOf "do_see" "do_see" (aI kx) (aH kx) (ak kx) .none W9 Xa Xb Ui OS Xc),V1⟩) (c12:codeIn K OS "do_see" = true) (k12:keepIn K (.ref Ox)=true)
  (a13:nsIn K mainGlobals "do_put" = some (some (.ref Oy))) (l13:K.lookup Oy=some ⟨Xd,Uj,.func (fnOf "do_put" "do_put" (aI ky) (aH ky) (ak ky) .none Xe Xf Xg Uk OU Xh),V2⟩) (c13:codeIn K OU "do_put" = true) (k13:keepIn K (.ref Oy)=true)
  (a14:nsIn K mainGlobals "do_take" = some (some (.ref Oz))) (l14:K.lookup Oz=some ⟨Xi,Ul,.func (fnOf "do_take" "do_take" (aI jy) (aH jy) (ak jy) .none Xj Xk Xl Um OV Xm),V3⟩) (c14:codeIn K OV "do_take" = true) (k14:keepIn K (.ref Oz)=true)
  (a15:nsIn K mainGlobals "do_jump" = some (some (.ref OB))) (l15:K.lookup OB=some ⟨Xn,Uo,.func (fnOf "do_jump" "do_jump" (aI jz) (aH jz) (ak jz) .none Xo Xp Xq Uq OW Xr),V4⟩) (c15:codeIn K OW "do_jump" = true) (k15:keepIn K (.ref OB)=true)
  (a16:nsIn K mainGlobals "do_zero" = some (some (.ref OD))) (l16:K.lookup OD=some ⟨Xt,Ur,.func (fnOf "do_zero" "do_zero" (aI jA) (aH jA) (ak jA) .none Xu Xv Xw Us OX Xx),V5⟩) (c16:codeIn K OX "do_zero" = true) (k16:keepIn K (.ref OD)=true)
  (a17:nsIn K mainGlobals "do_below" = some (some (.ref OG))) (l17:K.lookup OG=some ⟨Xy,Ut,.func (fnOf "do_below" "do_below" (aI iN) (aH iN) (ak iN) .none Xz XA XB Uu OY XC),V6⟩) (c17:codeIn K OY "do_below" = true) (k17:keepIn K (.ref OG)=true)
  (a18:nsIn K mainGlobals "do_call" = some (some (.ref OI))) (l18:K.lookup OI=some ⟨XD,Uv,.func (fnOf "do_call" "do_call" (aI jB) (aH jB) (ak jB) .none XF XG XH Uw OZ XI),V7⟩) (c18:codeIn K OZ "do_call" = true) (k18:keepIn K (.ref OI)=true)
  (a19:nsIn K mainGlobals "do_mark" = some (some (.ref OJ))) (l19:K.lookup OJ=some ⟨XJ,Ux,.func (fnOf "do_mark" "do_mark" (aI jC) (aH jC) (ak jC) .none XM XO XQ Uy Pa XR),V8⟩) (c19:codeIn K Pa "do_mark" = true) (k19:keepIn K (.ref OJ)=true)
  (a20:nsIn K mainGlobals "do_table" = some (some (.ref OL))) (l20:K.lookup OL=some ⟨XS,Uz,.func (fnOf "do_table" "do_table" (aI iO) (aH iO) (ak iO) .none XT XU XW UA Pb XY),V9⟩) (c20:codeIn K Pb "do_table" = true) (k20:keepIn K (.ref OL)=true)
  (a21:nsIn K mainGlobals "goes_on" = some (some (.ref Ta))) (l21:K.lookup Ta=some ⟨XZ,UB,.func (fnOf "goes_on" "goes_on" (aI gE) (aH gE) (ak gE) .none X0 X2 X3 UC Pg X4),Wa⟩) (c21:codeIn K Pg "goes_on" = true) (k21:keepIn K (.ref Ta)=true)
  (a22:nsIn K mainGlobals "targets_of" = some (some (.ref Tb))) (l22:K.lookup Tb=some ⟨X5,UD,.func (fnOf "targets_of" "targets_of" (aI dZ) (aH dZ) (ak dZ) .none X6 X7 X8 UE Ph X9),Wb⟩) (c22:codeIn K Ph "targets_of" = true) (k22:keepIn K (.ref Tb)=true)
  (a23:nsIn K mainGlobals "ways_of" = some (some (.ref Tc))) (l23:K.lookup Tc=some ⟨Ya,UG,.func (fnOf "ways_of" "ways_of" (aI gF) (aH gF) (ak gF) .none Yb Yc Yd UH Pj Ye),Wc⟩) (c23:codeIn K Pj "ways_of" = true) (k23:keepIn K (.ref Tc)=true)
  (a24:nsIn K mainGlobals "is_whole" = some (some (.ref Td))) (l24:K.lookup Td=some ⟨Yf,UI,.func (fnOf "is_whole" "is_whole" (aI fi) (aH fi) (ak fi) .none Yg Yh Yi UJ Pk Yj),Wd⟩) (c24:codeIn K Pk "is_whole" = true) (k24:keepIn K (.ref Td)=true)
  (a25:nsIn K mainGlobals "is_number_of" = some (some (.ref Te))) (l25:K.lookup Te=some ⟨Yk,UK,.func (fnOf "is_number_of" "is_number_of" (aI dr) (aH dr) (ak dr) .none Yl Ym Yn UL Pl Yo),Wf⟩) (c25:codeIn K Pl "is_number_of" = true) (k25:keepIn K (.ref Te)=true)
  (a26:nsIn K mainGlobals "is_targets" = some (some (.ref Tf))) (l26:K.lookup Tf=some ⟨Yp,UM,.func (fnOf "is_targets" "is_targets" (aI dF) (aH dF) (ak dF) .none Yq Yr Ys UN Pm Yt),Wg⟩) (c26:codeIn K Pm "is_targets" = true) (k26:keepIn K (.ref Tf)=true)
  (a27:nsIn K mainGlobals "is_part" = some (some (.ref Tg))) (l27:K.lookup Tg=some ⟨Yu,UO,.func (fnOf "is_part" "is_part" (aI gG) (aH gG) (ak gG) .none Yv Yw Yx UP Pn Yy),Wh⟩) (c27:codeIn K Pn "is_part" = true) (k27:keepIn K (.ref Tg)=true)
  (a28:nsIn K mainGlobals "are_parts" = some (some (.ref Ti))) (l28:K.lookup Ti=some ⟨Yz,UQ,.func (fnOf "are_parts" "are_parts" (aI dR) (aH dR) (ak dR) .none YB YC YD UR Pp YF),Wj⟩) (c28:codeIn K Pp "are_parts" = true) (k28:keepIn K (.ref Ti)=true)
  (a29:nsIn K mainGlobals "word_of" = some (some (.ref Tj))) (l29:K.lookup Tj=some ⟨YG,US,.func (fnOf "word_of" "word_of" (aI gH) (aH gH) (ak gH) .none YH YJ YK UT Pq YL),Wk⟩) (c29:codeIn K Pq "word_of" = true) (k29:keepIn K (.ref Tj)=true)
  (a30:nsIn K mainGlobals "is_row" = some (some (.ref Tn))) (l30:K.lookup Tn=some ⟨YM,UU,.func (fnOf "is_row" "is_row" (aI iy) (aH iy) (ak iy) .none YN YQ YR UW Pr YS),Wl⟩) (c30:codeIn K Pr "is_row" = true) (k30:keepIn K (.ref Tn)=true)
  (a31:nsIn K mainGlobals "stays_within" = some (some (.ref Tp))) (l31:K.lookup Tp=some ⟨YT,UX,.func (fnOf "stays_within" "stays_within" (aI cO) (aH cO) (ak cO) .none YV YW YX UY Pt YZ),Wm⟩) (c31:codeIn K Pt "stays_within" = true) (k31:keepIn K (.ref Tp)=true)
  (a32:nsIn K mainGlobals "check_rows" = some (some (.ref f32))) (l32:K.lookup f32=some ⟨Y0,UZ,.func (fnOf "check_rows" "check_rows" (aI d6) (aH d6) (ak d6) .none Y1 Y2 Y3 U0 Pu Y4),Wn⟩) (c32:codeIn K Pu "check_rows" = true) (k32:keepIn K (.ref f32)=true)
  (a33:nsIn K mainGlobals "is_place" = some (some (.ref Tq))) (l33:K.lookup Tq=some ⟨Y5,U1,.func (fnOf "is_place" "is_place" (aI fj) (aH fj) (ak fj) .none Y6 Y7 Y8 U2 Pw Y9),Wo⟩) (c33:codeIn K Pw "is_place" = true) (k33:keepIn K (.ref Tq)=true)
  (a34:nsIn K mainGlobals "is_what" = some (some (.ref Tr))) (l34:K.lookup Tr=some ⟨Za,U3,.func (fnOf "is_what" "is_what" (aI gJ) (aH gJ) (ak gJ) .none Zb Zc Zd U4 Px Ze),Wp⟩) (c34:codeIn K Px "is_what" = true) (k34:keepIn K (.ref Tr)=true)
  (a35:nsIn K mainGlobals "is_wish" = some (some (.ref Ts))) (l35:K.lookup Ts=some ⟨Zf,U5,.func (fnOf "is_wish" "is_wish" (aI gK) (aH gK) (ak gK) .none Zg Zh Zi U6 Py Zj),Wq⟩) (c35:codeIn K Py "is_wish" = true) (k35:keepIn K (.ref Ts)=true)
  (a36:nsIn K mainGlobals "check_wishes" = some (some (.ref Tt))) (l36:K.lookup Tt=some ⟨Zk,U7,.func (fnOf "check_wishes" "check_wishes" (aI du) (aH du) (ak du) .none Zm Zn Zo U8 Pz Zq),Wr⟩) (c36:codeIn K Pz "check_wishes" = true) (k36:keepIn K (.ref Tt)=true)
  (a37:nsIn K mainGlobals "whats_before" = some (some (.ref Tv))) (l37:K.lookup Tv=some ⟨Zr,U9,.func (fnOf "whats_before" "whats_before" (aI cP) (aH cP) (ak cP) .none Zu Zv Zw Va PB Zx),Ws⟩) (c37:codeIn K PB "whats_before" = true) (k37:keepIn K (.ref Tv)=true)
  (a38:nsIn K mainGlobals "whats_on_way" = some (some (.ref Tw))) (l38:K.lookup Tw=some ⟨Zy,Vb,.func (fnOf "whats_on_way" "whats_on_way" (aI cQ) (aH cQ) (ak cQ) .none Zz ZA ZC Vc PD ZD),Wt⟩) (c38:codeIn K PD "whats_on_way" = true) (k38:keepIn K (.ref Tw)=true)
  (a39:nsIn K mainGlobals "numbers_of_whats" = some (some (.ref Tx))) (l39:K.lookup Tx=some ⟨ZE,Vd,.func (fnOf "numbers_of_whats" "numbers_of_whats" (aI cq) (aH cq) (ak cq) .none ZF ZG ZI Ve PF ZJ),Wu⟩) (c39:codeIn K PF "numbers_of_whats" = true) (k39:keepIn K (.ref Tx)=true)
  (a40:nsIn K mainGlobals "nothing_counted" = some (some (.ref Tz))) (l40:K.lookup Tz=some ⟨ZK,Vf,.func (fnOf "nothing_counted" "nothing_counted" (aI cJ) (aH cJ) (ak cJ) .none ZL ZM ZO Vg PH ZP),Wv⟩) (c40:codeIn K PH "nothing_counted" = true) (k40:keepIn K (.ref Tz)=true)
  (a41:nsIn K mainGlobals "see_what" = some (some (.ref TB))) (l41:K.lookup TB=some ⟨ZQ,Vh,.func (fnOf "see_what" "see_what" (aI fq) (aH fq) (ak fq) .none ZR ZS ZU Vi PJ ZV),Ww⟩) (c41:codeIn K PJ "see_what" = true) (k41:keepIn K (.ref TB)=true)
  (a42:nsIn K mainGlobals "see_whats" = some (some (.ref TF))) (l42:K.lookup TF=some ⟨ZW,Vj,.func (fnOf "see_whats" "see_whats" (aI eN) (aH eN) (ak eN) .none ZX ZY Z0 Vk PK Z1),Wx⟩) (c42:codeIn K PK "see_whats" = true) (k42:keepIn K (.ref TF)=true)
  (a43:nsIn K mainGlobals "whats_between" = some (some (.ref TH))) (l43:K.lookup TH=some ⟨Z2,Vl,.func (fnOf "whats_between" "whats_between" (aI cY) (aH cY) (ak cY) .none Z3 Z4 Z5 Vm PL Z6),Wy⟩) (c43:codeIn K PL "whats_between" = true) (k43:keepIn K (.ref TH)=true)
  (a44:nsIn K mainGlobals "do_row" = some (some (.ref TJ))) (l44:K.lookup TJ=some ⟨Z7,Vn,.func (fnOf "do_row" "do_row" (aI iz) (aH iz) (ak iz) .none Z8 Z9 aac Vo PN aad),Wz⟩) (c44:codeIn K PN "do_row" = true) (k44:keepIn K (.ref TJ)=true)
  (a45:nsIn K mainGlobals "plain_seen" = some (some (.ref TK))) (l45:K.lookup TK=some ⟨aae,Vp,.func (fnOf "plain_seen" "plain_seen" (aI d7) (aH d7) (ak d7) .none aaf aag aah Vq PR aai),WB⟩) (c45:codeIn K PR "plain_seen" = true) (k45:keepIn K (.ref TK)=true)
  (a46:nsIn K mainGlobals "_law_cell_at" = some (some (.ref TL))) (l46:K.lookup TL=some ⟨aaj,Vr,.func (fnOf "_law_cell_at" "_law_cell_at" (aI eC) (aH eC) (ak eC) .none aak aal aam Vs PU aan),WC⟩) (c46:codeIn K PU "_law_cell_at" = true) (k46:keepIn K (.ref TL)=true)
  (a47:nsIn K mainGlobals "_law_stream" = some (some (.ref TN))) (l47:K.lookup TN=some ⟨aao,Vt,.func (fnOf "_law_stream" "_law_stream" (aI e9) (aH e9) (ak e9) .none aap aaq aar Vu PV aas),WD⟩) (c47:codeIn K PV "_law_stream" = true) (k47:keepIn K (.ref TN)=true)
  (a48:nsIn K mainGlobals "_law_row" = some (some (.ref TQ))) (l48:K.lookup TQ=some ⟨aat,Vv,.func (fnOf "_law_row" "_law_row" (aI iA) (aH iA) (ak iA) .none aau aav aaw Vw PX aax),WG⟩) (c48:codeIn K PX "_law_row" = true) (k48:keepIn K (.ref TQ)=true)
  (a49:nsIn K mainGlobals "_law_targets" = some (some (.ref TU))) (l49:K.lookup TU=some ⟨aay,Vx,.func (fnOf "_law_targets" "_law_targets" (aI eE) (aH eE) (ak eE) .none aaz aaA aaB Vy PY aaC),WH⟩) (c49:codeIn K PY "_law_targets" = true) (k49:keepIn K (.ref TU)=true)
  (a50:nsIn K mainGlobals "_law_last" = some (some (.ref TV))) (l50:K.lookup TV=some ⟨aaD,Vz,.func (fnOf "_law_last" "_law_last" (aI gR) (aH gR) (ak gR) .none aaE aaF aaG VA PZ aaH),WK⟩) (c50:codeIn K PZ "_law_last" = true) (k50:keepIn K (.ref TV)=true)
  (a51:nsIn K mainGlobals "_law_rows" = some (some (.ref TX))) (l51:K.lookup TX=some ⟨aaI,VB,.func (fnOf "_law_rows" "_law_rows" (aI eM) (aH eM) (ak eM) .none aaJ aaK aaL VC P0 aaM),WL⟩) (c51:codeIn K P0 "_law_rows" = true) (k51:keepIn K (.ref TX)=true)
  (a52:nsIn K mainGlobals "_law_ways" = some (some (.ref TY))) (l52:K.lookup TY=some ⟨aaN,VD,.func (fnOf "_law_ways" "_law_ways" (aI ft) (aH ft) (ak ft) .none aaO aaP aaQ VE P1 aaR),WM⟩) (c52:codeIn K P1 "_law_ways" = true) (k52:keepIn K (.ref TY)=true)
  (a53:nsIn K mainGlobals "_law_beginning" = some (some (.ref T3))) (l53:K.lookup T3=some ⟨aaS,VF,.func (fnOf "_law_beginning" "_law_beginning" (aI cn) (aH cn) (ak cn) .none aaT aaU aaV VG P2 aaW),WN⟩) (c53:codeIn K P2 "_law_beginning" = true) (k53:keepIn K (.ref T3)=true)
  (a54:nsIn K mainGlobals "_law_start" = some (some (.ref T4))) (l54:K.lookup T4=some ⟨aaX,VH,.func (fnOf "_law_start" "_law_start" (aI eO) (aH eO) (ak eO) .none aaY aaZ aa0 VI P4 aa1),WO⟩) (c54:codeIn K P4 "_law_start" = true) (k54:keepIn K (.ref T4)=true)
  (a55:nsIn K mainGlobals "_law_moved" = some (some (.ref T5))) (l55:K.lookup T5=some ⟨aa2,VJ,.func (fnOf "_law_moved" "_law_moved" (aI eP) (aH eP) (ak eP) .none aa3 aa4 aa5 VL P5 aa6),WQ⟩) (c55:codeIn K P5 "_law_moved" = true) (k55:keepIn K (.ref T5)=true)
  (a56:nsIn K mainGlobals "_law_done" = some (some (.ref T6))) (l56:K.lookup T6=some ⟨aa7,VM,.func (fnOf "_law_done" "_law_done" (aI fu) (aH fu) (ak fu) .none aa8 aa9 abb VN P6 abd),WR⟩) (c56:codeIn K P6 "_law_done" = true) (k56:keepIn K (.ref T6)=true)
  (a57:nsIn K mainGlobals "_law_step" = some (some (.ref T7))) (l57:K.lookup T7=some ⟨abe,VO,.func (fnOf "_law_step" "_law_step" (aI fz) (aH fz) (ak fz) .none abf abg abh VP P7 abi),WT⟩) (c57:codeIn K P7 "_law_step" = true) (k57:keepIn K (.ref T7)=true)
  (a58:nsIn K mainGlobals "_law_come" = some (some (.ref T8))) (l58:K.lookup T8=some ⟨abj,VQ,.func (fnOf "_law_come" "_law_come" (aI dS) (aH dS) (ak dS) .none abk abl abm VR P8 abn),WU⟩) (c58:codeIn K P8 "_law_come" = true) (k58:keepIn K (.ref T8)=true)
  (a59:nsIn K mainGlobals "_law_due" = some (some (.ref T9))) (l59:K.lookup T9=some ⟨abo,VT,.func (fnOf "_law_due" "_law_due" (aI gL) (aH gL) (ak gL) .none abp abq abr VU P9 abt),WV⟩) (c59:codeIn K P9 "_law_due" = true) (k59:keepIn K (.ref T9)=true)
  (a60:nsIn K mainGlobals "_law_wish" = some (some (.ref Ua))) (l60:K.lookup Ua=some ⟨abu,VW,.func (fnOf "_law_wish" "_law_wish" (aI fF) (aH fF) (ak fF) .none abv abw abx VX Qa aby),WW⟩) (c60:codeIn K Qa "_law_wish" = true) (k60:keepIn K (.ref Ua)=true)
  (a61:nsIn K mainGlobals "law" = some (some (.ref Ub))) (l61:K.lookup Ub=some ⟨abz,VY,.func (fnOf "law" "law" (aI kF) (aH kF) (ak kF) .none Qb Qc Qd OM Ls Qe),WX⟩) (c61:codeIn K Ls "law" = true) (k61:keepIn K (.ref Ub)=true)
  (z_len:nsIn K mainGlobals "len" = some none)
  (z_list:nsIn K mainGlobals "list" = some none)
  (z_tuple:nsIn K mainGlobals "tuple" = some none)
  (z_int:nsIn K mainGlobals "int" = some none)
  (z_bool:nsIn K mainGlobals "bool" = some none)
  (z_str:nsIn K mainGlobals "str" = some none)
  (z_dict:nsIn K mainGlobals "dict" = some none)
  (z_isinstance:nsIn K mainGlobals "isinstance" = some none)
  (z_enumerate:nsIn K mainGlobals "enumerate" = some none)
  (z_range:nsIn K mainGlobals "range" = some none)
  (z_all:nsIn K mainGlobals "all" = some none)
  (z_zip:nsIn K mainGlobals "zip" = some none)
  (z_sorted:nsIn K mainGlobals "sorted" = some none)
  (z_set:nsIn K mainGlobals "set" = some none)
  {ip:Addr} {pB:Option Addr} {pC:Array (Option Value)} {qy:Nat} {pF pG pH pI:Tok} (aNOT_GOING_ON:nsIn K mainGlobals "NOT_GOING_ON" = some (some (.ref ip))) (lNOT_GOING_ON:K.lookup ip=some ⟨.type "tuple",pB,.seq #[.str "stop" pF,.str "back" pG,.str "halt" pH,.str "jump" pI] qy,pC⟩)
  {pJ:Tok} (aMOST_ROWS:nsIn K mainGlobals "MOST_ROWS" = some (some (.int (4000) pJ)))
  {jP:Tok} (aMOST_TARGETS:nsIn K mainGlobals "MOST_TARGETS" = some (some (.int (16) jP)))
  {fV:Addr} {fe:Array DictEntry} {ia:Nat} (aBOUNDS:nsIn K mainGlobals "BOUNDS" = some (some (.ref fV))) (lBOUNDS:K.lookup fV=some ⟨.type "dict",none,.dict fe ia,#[]⟩) (kBOUNDS:KeysLit w.params fe.toList) (oBOUNDS:(fV == sysModules)=false)
  {pK:Addr} {Aw:Array (Option Value)} {DQ:Nat} {xm xq:Tok} (eBOUNDS0:nsIn K fV "box" = some (some (.ref pK))) (lBOUNDS0:K.lookup pK=some ⟨.type "tuple",none,.seq #[.int (0) xm,.int (7) xq] DQ,Aw⟩)
  {pL:Addr} {Ax:Array (Option Value)} {DR:Nat} {xr xt:Tok} (eBOUNDS1:nsIn K fV "aside" = some (some (.ref pL))) (lBOUNDS1:K.lookup pL=some ⟨.type "tuple",none,.seq #[.int (0) xr,.int (1000000) xt] DR,Ax⟩)
  {pM:Addr} {Ay:Array (Option Value)} {DS:Nat} {xv xA:Tok} (eBOUNDS2:nsIn K fV "target" = some (some (.ref pM))) (lBOUNDS2:K.lookup pM=some ⟨.type "tuple",none,.seq #[.int (0) xv,.int (1000000000) xA] DS,Ay⟩)
  {pN:Addr} {Az:Array (Option Value)} {DT:Nat} {xB xC:Tok} (eBOUNDS3:nsIn K fV "number" = some (some (.ref pN))) (lBOUNDS3:K.lookup pN=some ⟨.type "tuple",none,.seq #[.int (0) xB,.int (1000000) xC] DT,Az⟩)
  {pO:Addr} {AA:Array (Option Value)} {DU:Nat} {xD xE:Tok} (eBOUNDS4:nsIn K fV "value" = some (some (.ref pO))) (lBOUNDS4:K.lookup pO=some ⟨.type "tuple",none,.seq #[.int (-1000000000) xD,.int (1000000000) xE] DU,AA⟩)
  {pP:Addr} {AB:Array (Option Value)} {DV:Nat} {xF xG:Tok} (eBOUNDS5:nsIn K fV "far" = some (some (.ref pP))) (lBOUNDS5:K.lookup pP=some ⟨.type "tuple",none,.seq #[.int (0) xF,.int (1) xG] DV,AB⟩)
  {cM:Addr} {cB:Array DictEntry} {cW:Nat} (aPARTS:nsIn K mainGlobals "PARTS" = some (some (.ref cM))) (lPARTS:K.lookup cM=some ⟨.type "dict",none,.dict cB cW,#[]⟩) (kPARTS:KeysLit w.params cB.toList) (oPARTS:(cM == sysModules)=false)
  {tT:Addr} {DW:Array (Option Value)} {Hv:Nat} (ePARTS0:nsIn K cM "stop" = some (some (.ref tT))) (lPARTS0:K.lookup tT=some ⟨.type "tuple",none,.seq #[] Hv,DW⟩)
  {tU:Addr} {DX:Array (Option Value)} {Hw:Nat} (ePARTS1:nsIn K cM "back" = some (some (.ref tU))) (lPARTS1:K.lookup tU=some ⟨.type "tuple",none,.seq #[] Hw,DX⟩)
  {tV:Addr} {DY:Array (Option Value)} {Hx:Nat} {AF:Tok} (ePARTS2:nsIn K cM "halt" = some (some (.ref tV))) (lPARTS2:K.lookup tV=some ⟨.type "tuple",none,.seq #[.str "number" AF] Hx,DY⟩)
  {tW:Addr} {DZ:Array (Option Value)} {Hy:Nat} {AG AH:Tok} (ePARTS3:nsIn K cM "set" = some (some (.ref tW))) (lPARTS3:K.lookup tW=some ⟨.type "tuple",none,.seq #[.str "box" AG,.str "value" AH] Hy,DZ⟩)
  {tY:Addr} {D0:Array (Option Value)} {Hz:Nat} {AI AJ:Tok} (ePARTS4:nsIn K cM "more" = some (some (.ref tY))) (lPARTS4:K.lookup tY=some ⟨.type "tuple",none,.seq #[.str "box" AI,.str "value" AJ] Hz,D0⟩)
  {tZ:Addr} {D4:Array (Option Value)} {HA:Nat} {AK AO:Tok} (ePARTS5:nsIn K cM "copy" = some (some (.ref tZ))) (lPARTS5:K.lookup tZ=some ⟨.type "tuple",none,.seq #[.str "box" AK,.str "box" AO] HA,D4⟩)
  {t8:Addr} {D5:Array (Option Value)} {HB:Nat} {AQ AR:Tok} (ePARTS6:nsIn K cM "add" = some (some (.ref t8))) (lPARTS6:K.lookup t8=some ⟨.type "tuple",none,.seq #[.str "box" AQ,.str "box" AR] HB,D5⟩)
  {t9:Addr} {D6:Array (Option Value)} {HC:Nat} {AT AU:Tok} (ePARTS7:nsIn K cM "less" = some (some (.ref t9))) (lPARTS7:K.lookup t9=some ⟨.type "tuple",none,.seq #[.str "box" AT,.str "box" AU] HC,D6⟩)
  {uf:Addr} {D7:Array (Option Value)} {HE:Nat} {AV AW:Tok} (ePARTS8:nsIn K cM "load" = some (some (.ref uf))) (lPARTS8:K.lookup uf=some ⟨.type "tuple",none,.seq #[.str "box" AV,.str "box" AW] HE,D7⟩)
  {ug:Addr} {D8:Array (Option Value)} {HF:Nat} {AX AY:Tok} (ePARTS9:nsIn K cM "keep" = some (some (.ref ug))) (lPARTS9:K.lookup ug=some ⟨.type "tuple",none,.seq #[.str "box" AX,.str "box" AY] HF,D8⟩)
  {pQ:Addr} {AZ:Array (Option Value)} {D9:Nat} {xH:Tok} (ePARTS10:nsIn K cM "tell" = some (some (.ref pQ))) (lPARTS10:K.lookup pQ=some ⟨.type "tuple",none,.seq #[.str "box" xH] D9,AZ⟩)
  {pR:Addr} {A0:Array (Option Value)} {Ea:Nat} {xI xJ:Tok} (ePARTS11:nsIn K cM "see" = some (some (.ref pR))) (lPARTS11:K.lookup pR=some ⟨.type "tuple",none,.seq #[.str "box" xI,.str "number" xJ] Ea,A0⟩)
  {pS:Addr} {A1:Array (Option Value)} {Eb:Nat} {xK xM:Tok} (ePARTS12:nsIn K cM "put" = some (some (.ref pS))) (lPARTS12:K.lookup pS=some ⟨.type "tuple",none,.seq #[.str "box" xK,.str "aside" xM] Eb,A1⟩)
  {pT:Addr} {A2:Array (Option Value)} {Ec:Nat} {xN xO:Tok} (ePARTS13:nsIn K cM "take" = some (some (.ref pT))) (lPARTS13:K.lookup pT=some ⟨.type "tuple",none,.seq #[.str "box" xN,.str "aside" xO] Ec,A2⟩)
  {pU:Addr} {A3:Array (Option Value)} {Ed:Nat} {xP xQ:Tok} (ePARTS14:nsIn K cM "jump" = some (some (.ref pU))) (lPARTS14:K.lookup pU=some ⟨.type "tuple",none,.seq #[.str "target" xP,.str "far" xQ] Ed,A3⟩)
  {pV:Addr} {A4:Array (Option Value)} {Ee:Nat} {xR xS xT:Tok} (ePARTS15:nsIn K cM "zero" = some (some (.ref pV))) (lPARTS15:K.lookup pV=some ⟨.type "tuple",none,.seq #[.str "box" xR,.str "target" xS,.str "far" xT] Ee,A4⟩)
  {pW:Addr} {A5:Array (Option Value)} {Ef:Nat} {xU xV xW:Tok} (ePARTS16:nsIn K cM "below" = some (some (.ref pW))) (lPARTS16:K.lookup pW=some ⟨.type "tuple",none,.seq #[.str "box" xU,.str "target" xV,.str "far" xW] Ef,A5⟩)
  {pX:Addr} {A6:Array (Option Value)} {Eg:Nat} {xX xY:Tok} (ePARTS17:nsIn K cM "call" = some (some (.ref pX))) (lPARTS17:K.lookup pX=some ⟨.type "tuple",none,.seq #[.str "target" xX,.str "far" xY] Eg,A6⟩)
  {pY:Addr} {A7:Array (Option Value)} {Eh:Nat} {xZ ya:Tok} (ePARTS18:nsIn K cM "mark" = some (some (.ref pY))) (lPARTS18:K.lookup pY=some ⟨.type "tuple",none,.seq #[.str "target" xZ,.str "far" ya] Eh,A7⟩)
  {pZ:Addr} {A8:Array (Option Value)} {Ei:Nat} {yb yc:Tok} (ePARTS19:nsIn K cM "table" = some (some (.ref pZ))) (lPARTS19:K.lookup pZ=some ⟨.type "tuple",none,.seq #[.str "box" yb,.str "targets" yc] Ei,A8⟩)
  {lj:Tok} (aMOST_WISHES:nsIn K mainGlobals "MOST_WISHES" = some (some (.int (12) lj)))
  {iT:Addr} {iF:Array DictEntry} {lq:Nat} (aPLACES:nsIn K mainGlobals "PLACES" = some (some (.ref iT))) (lPLACES:K.lookup iT=some ⟨.type "dict",none,.dict iF lq,#[]⟩) (kPLACES:KeysLit w.params iF.toList) (oPLACES:(iT == sysModules)=false)
  {Ej:Tok} (ePLACES0:nsIn K iT "before" = some (some (.int 2 Ej)))
  {Ek:Tok} (ePLACES1:nsIn K iT "after" = some (some (.int 2 Ek)))
  {El:Tok} (ePLACES2:nsIn K iT "way" = some (some (.int 3 El)))
  {jY:Addr} {jF:Array DictEntry} {p9:Nat} (aWHATS:nsIn K mainGlobals "WHATS" = some (some (.ref jY))) (lWHATS:K.lookup jY=some ⟨.type "dict",none,.dict jF p9,#[]⟩) (kWHATS:KeysLit w.params jF.toList) (oWHATS:(jY == sysModules)=false)
  {uh:Addr} {Em:Array (Option Value)} {HG:Nat} {A9 Ba:Tok} (eWHATS0:nsIn K jY "look" = some (some (.ref uh))) (lWHATS0:K.lookup uh=some ⟨.type "tuple",none,.seq #[.str "number" A9,.str "box" Ba] HG,Em⟩)
  {ui:Addr} {En:Array (Option Value)} {HI:Nat} {Bb:Tok} (eWHATS1:nsIn K jY "count" = some (some (.ref ui))) (lWHATS1:K.lookup ui=some ⟨.type "tuple",none,.seq #[.str "number" Bb] HI,En⟩)
  {uj:Addr} {Eo:Array (Option Value)} {HJ:Nat} {Bc Bd:Tok} (eWHATS2:nsIn K jY "guard" = some (some (.ref uj))) (lWHATS2:K.lookup uj=some ⟨.type "tuple",none,.seq #[.str "number" Bc,.str "box" Bd] HJ,Eo⟩)
  {C:Addr} (aC:nsIn K mainGlobals "Machine" = some (some (.ref C)))
  {g0:Addr} {abA abB:Option Addr} {abC:Array (Option Value)} {abD abE abF abG Qf abH:Value} (ag0:findIn K (.ref C) "__init__" = some (some (.ref g0))) (ig0:isFn K (.ref g0)=true) (lg0:K.lookup g0=some ⟨abD,abA,.func (fnOf "__init__" "Machine.__init__" (aI rc) (aH rc) (ak rc) .none abE abF abG abB Qf abH),abC⟩) (cg0:codeIn K Qf "Machine.__init__" = true) (kg0:keepIn K (.ref g0)=true)
  {g1:Addr} {abI abJ:Option Addr} {abK:Array (Option Value)} {abL abM abN abO Qg abP:Value} (ag1:findIn K (.ref C) "row" = some (some (.ref g1))) (ig1:isFn K (.ref g1)=true) (lg1:K.lookup g1=some ⟨abL,abI,.func (fnOf "row" "Machine.row" (aI rh) (aH rh) (ak rh) .none abM abN abO abJ Qg abP),abK⟩) (cg1:codeIn K Qg "Machine.row" = true) (kg1:keepIn K (.ref g1)=true)
  {g2:Addr} {abQ abR:Option Addr} {abS:Array (Option Value)} {abT abU abV abW Qh abX:Value} (ag2:findIn K (.ref C) "ending" = some (some (.ref g2))) (ig2:isFn K (.ref g2)=true) (lg2:K.lookup g2=some ⟨abT,abQ,.func (fnOf "ending" "Machine.ending" (aI jD) (aH jD) (ak jD) .none abU abV abW abR Qh abX),abS⟩) (cg2:codeIn K Qh "Machine.ending" = true) (kg2:keepIn K (.ref g2)=true)
  {g3:Addr} {abY abZ:Option Addr} {ab0:Array (Option Value)} {ab1 ab2 ab3 ab4 Qi ab5:Value} (ag3:findIn K (.ref C) "boxes" = some (some (.ref g3))) (ig3:isFn K (.ref g3)=true) (lg3:K.lookup g3=some ⟨ab1,abY,.func (fnOf "boxes" "Machine.boxes" (aI lN) (aH lN) (ak lN) .none ab2 ab3 ab4 abZ Qi ab5),ab0⟩) (cg3:codeIn K Qi "Machine.boxes" = true) (kg3:keepIn K (.ref g3)=true)
  {g4:Addr} {ab6 ab7:Option Addr} {ab8:Array (Option Value)} {ab9 aca acb acd Qj ace:Value} (ag4:findIn K (.ref C) "step" = some (some (.ref g4))) (ig4:isFn K (.ref g4)=true) (lg4:K.lookup g4=some ⟨ab9,ab6,.func (fnOf "step" "Machine.step" (aI rj) (aH rj) (ak rj) .none aca acb acd ab7 Qj ace),ab8⟩) (cg4:codeIn K Qj "Machine.step" = true) (kg4:keepIn K (.ref g4)=true)
  (pg:PySem.W.plainGet K C Str.empty=true) (hd:PySem.W.hasDictIn K C=true) (po:PySem.W.plainOver K C=true) (sa:findIn K (.ref C) "__setattr__" = some (some (.builtin "object.__setattr__"))) (mkc:PySem.W.makesIn K C=true) (kc:keepIn K (.ref C)=true)
  (n_program:findIn K (.ref C) "program" = some none)
  (n_in_boxes:findIn K (.ref C) "in_boxes" = some none)
  (n_in_cells:findIn K (.ref C) "in_cells" = some none)
  (n_in_asides:findIn K (.ref C) "in_asides" = some none)
  (n_rung:findIn K (.ref C) "rung" = some none)
  (n_told_numbers:findIn K (.ref C) "told_numbers" = some none)
  (n_seen_numbers:findIn K (.ref C) "seen_numbers" = some none)
  (n_pile:findIn K (.ref C) "pile" = some none)
  (n_marks_done:findIn K (.ref C) "marks_done" = some none)
  (n_here:findIn K (.ref C) "here" = some none)
  (n_how_ended:findIn K (.ref C) "how_ended" = some none)
  {pE:Addr} {qb:Array DictEntry} {nE:Nat} (aE:nsIn K mainGlobals "DEEDS" = some (some (.ref pE))) (lE:K.lookup pE=some ⟨.type "dict",none,.dict qb nE,#[]⟩) (kE:KeysLit w.params qb.toList) (oE:(pE == sysModules)=false)
  (e_stop:nsIn K pE "stop" = some (some (.ref f1)))
  (e_halt:nsIn K pE "halt" = some (some (.ref f2)))
  (e_back:nsIn K pE "back" = some (some (.ref f3)))
  (e_set:nsIn K pE "set" = some (some (.ref f4)))
  (e_more:nsIn K pE "more" = some (some (.ref f5)))
  (e_copy:nsIn K pE "copy" = some (some (.ref f6)))
  (e_add:nsIn K pE "add" = some (some (.ref f7)))
  (e_less:nsIn K pE "less" = some (some (.ref f8)))
  (e_load:nsIn K pE "load" = some (some (.ref f9)))
  (e_keep:nsIn K pE "keep" = some (some (.ref Ow)))
  (e_tell:nsIn K pE "tell" = some (some (.ref f11)))
  (e_see:nsIn K pE "see" = some (some (.ref Ox)))
  (e_put:nsIn K pE "put" = some (some (.ref Oy)))
  (e_take:nsIn K pE "take" = some (some (.ref Oz)))
  (e_jump:nsIn K pE "jump" = some (some (.ref OB)))
  (e_zero:nsIn K pE "zero" = some (some (.ref OD)))
  (e_below:nsIn K pE "below" = some (some (.ref OG)))
  (e_call:nsIn K pE "call" = some (some (.ref OI)))
  (e_mark:nsIn K pE "mark" = some (some (.ref OJ)))
  (e_table:nsIn K pE "table" = some (some (.ref OL)))
  : ∃ fd:FuncData,(∀ (s:Shared) (v:Value),BindsTo s fd ⟨[v],[]⟩ [("_law_script",v)])∧∀ base:Heap,K.In base→base.Ns mainGlobals mg→aR l.prog w K mg base bV 10 fa fd ["_law_script"] (zr (K:=K)):=by
 have e:=hfa.symm.trans (mg_of X G a61)
 cases e
 have F0:=aT (st:=s_end) l0 c0 k0
 have b0:=F0.binds (ps:=["machine", "how"]) fun _ _ _ _ _ _ us hl=>match us,hl with | [_,_],_=>rfl
 have m0:=mg_of X G a0
 have F1:=aT (st:=jn) l1 c1 k1
 have b1:=F1.binds (ps:=["machine", "row"]) fun _ _ _ _ _ _ us hl=>match us,hl with | [_,_],_=>rfl
 have m1:=mg_of X G a1
 have F2:=aT (st:=jo) l2 c2 k2
 have b2:=F2.binds (ps:=["machine", "row"]) fun _ _ _ _ _ _ us hl=>match us,hl with | [_,_],_=>rfl
 have m2:=mg_of X G a2
 have F3:=aT (st:=jq) l3 c3 k3
 have b3:=F3.binds (ps:=["machine", "row"]) fun _ _ _ _ _ _ us hl=>match us,hl with | [_,_],_=>rfl
 have m3:=mg_of X G a3
 have F4:=aT (st:=kr) l4 c4 k4
 have b4:=F4.binds (ps:=["machine", "row"]) fun _ _ _ _ _ _ us hl=>match us,hl with | [_,_],_=>rfl
 have m4:=mg_of X G a4
 have F5:=aT (st:=jr) l5 c5 k5
 have b5:=F5.binds (ps:=["machine", "row"]) fun _ _ _ _ _ _ us hl=>match us,hl with | [_,_],_=>rfl
 have m5:=mg_of X G a5
 have F6:=aT (st:=jt) l6 c6 k6
 have b6:=F6.binds (ps:=["machine", "row"]) fun _ _ _ _ _ _ us hl=>match us,hl with | [_,_],_=>rfl
 have m6:=mg_of X G a6
 have F7:=aT (st:=ku) l7 c7 k7
 have b7:=F7.binds (ps:=["machine", "row"]) fun _ _ _ _ _ _ us hl=>match us,hl with | [_,_],_=>rfl
 have m7:=mg_of X G a7
 have F8:=aT (st:=ju) l8 c8 k8
 have b8:=F8.binds (ps:=["machine", "row"]) fun _ _ _ _ _ _ us hl=>match us,hl with | [_,_],_=>rfl
 have m8:=mg_of X G a8
 have F9:=aT (st:=jv) l9 c9 k9
 have b9:=F9.binds (ps:=["machine", "row"]) fun _ _ _ _ _ _ us hl=>match us,hl with | [_,_],_=>rfl
 have m9:=mg_of X G a9
 have F10:=aT (st:=jw) l10 c10 k10
 have b10:=F10.binds (ps:=["machine", "row"]) fun _ _ _ _ _ _ us hl=>match us,hl with | [_,_],_=>rfl
 have m10:=mg_of X G a10
 have F11:=aT (st:=jx) l11 c11 k11
 have b11:=F11.binds (ps:=["machine", "row"]) fun _ _ _ _ _ _ us hl=>match us,hl with | [_,_],_=>rfl
 have m11:=mg_of X G a11
 have F12:=aT (st:=kx) l12 c12 k12
 have b12:=F12.binds (ps:=["machine", "row"]) fun _ _ _ _ _ _ us hl=>match us,hl with | [_,_],_=>rfl
 have m12:=mg_of X G a12
 have F13:=aT (st:=ky) l13 c13 k13
 have b13:=F13.binds (ps:=["machine", "row"]) fun _ _ _ _ _ _ us hl=>match us,hl with | [_,_],_=>rfl
 have m13:=mg_of X G a13
 have F14:=aT (st:=jy) l14 c14 k14
 have b14:=F14.binds (ps:=["machine", "row"]) fun _ _ _ _ _ _ us hl=>match us,hl with | [_,_],_=>rfl
 have m14:=mg_of X G a14
 have F15:=aT (st:=jz) l15 c15 k15
 have b15:=F15.binds (ps:=["machine", "row"]) fun _ _ _ _ _ _ us hl=>match us,hl with | [_,_],_=>rfl
 have m15:=mg_of X G a15
 have F16:=aT (st:=jA) l16 c16 k16
 have b16:=F16.binds (ps:=["machine", "row"]) fun _ _ _ _ _ _ us hl=>match us,hl with | [_,_],_=>rfl
 have m16:=mg_of X G a16
 have F17:=aT (st:=iN) l17 c17 k17
 have b17:=F17.binds (ps:=["machine", "row"]) fun _ _ _ _ _ _ us hl=>match us,hl with | [_,_],_=>rfl
 have m17:=mg_of X G a17
 have F18:=aT (st:=jB) l18 c18 k18
 have b18:=F18.binds (ps:=["machine", "row"]) fun _ _ _ _ _ _ us hl=>match us,hl with | [_,_],_=>rfl
 have m18:=mg_of X G a18
 have F19:=aT (st:=jC) l19 c19 k19
 have b19:=F19.binds (ps:=["machine", "row"]) fun _ _ _ _ _ _ us hl=>match us,hl with | [_,_],_=>rfl
 have m19:=mg_of X G a19
 have F20:=aT (st:=iO) l20 c20 k20
 have b20:=F20.binds (ps:=["machine", "row"]) fun _ _ _ _ _ _ us hl=>match us,hl with | [_,_],_=>rfl
 have m20:=mg_of X G a20
 have F21:=aT (st:=gE) l21 c21 k21
 have b21:=F21.binds (ps:=["row"]) fun _ _ _ _ _ _ us hl=>match us,hl with | [_],_=>rfl
 have m21:=mg_of X G a21
 have F22:=aT (st:=dZ) l22 c22 k22
 have b22:=F22.binds (ps:=["row"]) fun _ _ _ _ _ _ us hl=>match us,hl with | [_],_=>rfl
 have m22:=mg_of X G a22
 have F23:=aT (st:=gF) l23 c23 k23
 have b23:=F23.binds (ps:=["rows", "r"]) fun _ _ _ _ _ _ us hl=>match us,hl with | [_,_],_=>rfl
 have m23:=mg_of X G a23
 have F24:=aT (st:=fi) l24 c24 k24
 have b24:=F24.binds (ps:=["thing"]) fun _ _ _ _ _ _ us hl=>match us,hl with | [_],_=>rfl
 have m24:=mg_of X G a24
 have F25:=aT (st:=dr) l25 c25 k25
 have b25:=F25.binds (ps:=["kind", "thing"]) fun _ _ _ _ _ _ us hl=>match us,hl with | [_,_],_=>rfl
 have m25:=mg_of X G a25
 have F26:=aT (st:=dF) l26 c26 k26
 have b26:=F26.binds (ps:=["thing"]) fun _ _ _ _ _ _ us hl=>match us,hl with | [_],_=>rfl
 have m26:=mg_of X G a26
 have F27:=aT (st:=gG) l27 c27 k27
 have b27:=F27.binds (ps:=["kind", "thing"]) fun _ _ _ _ _ _ us hl=>match us,hl with | [_,_],_=>rfl
 have m27:=mg_of X G a27
 have F28:=aT (st:=dR) l28 c28 k28
 have b28:=F28.binds (ps:=["kinds", "things"]) fun _ _ _ _ _ _ us hl=>match us,hl with | [_,_],_=>rfl
 have m28:=mg_of X G a28
 have F29:=aT (st:=gH) l29 c29 k29
 have b29:=F29.binds (ps:=["thing"]) fun _ _ _ _ _ _ us hl=>match us,hl with | [_],_=>rfl
 have m29:=mg_of X G a29
 have F30:=aT (st:=iy) l30 c30 k30
 have b30:=F30.binds (ps:=["row"]) fun _ _ _ _ _ _ us hl=>match us,hl with | [_],_=>rfl
 have m30:=mg_of X G a30
 have F31:=aT (st:=cO) l31 c31 k31
 have b31:=F31.binds (ps:=["row", "how_many"]) fun _ _ _ _ _ _ us hl=>match us,hl with | [_,_],_=>rfl
 have m31:=mg_of X G a31
 have F32:=aT (st:=d6) l32 c32 k32
 have b32:=F32.binds (ps:=["rows"]) fun _ _ _ _ _ _ us hl=>match us,hl with | [_],_=>rfl
 have m32:=mg_of X G a32
 have F33:=aT (st:=fj) l33 c33 k33
 have b33:=F33.binds (ps:=["rows", "place"]) fun _ _ _ _ _ _ us hl=>match us,hl with | [_,_],_=>rfl
 have m33:=mg_of X G a33
 have F34:=aT (st:=gJ) l34 c34 k34
 have b34:=F34.binds (ps:=["what"]) fun _ _ _ _ _ _ us hl=>match us,hl with | [_],_=>rfl
 have m34:=mg_of X G a34
 have F35:=aT (st:=gK) l35 c35 k35
 have b35:=F35.binds (ps:=["rows", "wish"]) fun _ _ _ _ _ _ us hl=>match us,hl with | [_,_],_=>rfl
 have m35:=mg_of X G a35
 have F36:=aT (st:=du) l36 c36 k36
 have b36:=F36.binds (ps:=["rows", "wishes"]) fun _ _ _ _ _ _ us hl=>match us,hl with | [_,_],_=>rfl
 have m36:=mg_of X G a36
 have F37:=aT (st:=cP) l37 c37 k37
 have b37:=F37.binds (ps:=["wishes", "r"]) fun _ _ _ _ _ _ us hl=>match us,hl with | [_,_],_=>rfl
 have m37:=mg_of X G a37
 have F38:=aT (st:=cQ) l38 c38 k38
 have b38:=F38.binds (ps:=["wishes", "r", "s"]) fun _ _ _ _ _ _ us hl=>match us,hl with | [_,_,_],_=>rfl
 have m38:=mg_of X G a38
 have F39:=aT (st:=cq) l39 c39 k39
 have b39:=F39.binds (ps:=["wishes", "word"]) fun _ _ _ _ _ _ us hl=>match us,hl with | [_,_],_=>rfl
 have m39:=mg_of X G a39
 have F40:=aT (st:=cJ) l40 c40 k40
 have b40:=F40.binds (ps:=["wishes"]) fun _ _ _ _ _ _ us hl=>match us,hl with | [_],_=>rfl
 have m40:=mg_of X G a40
 have F41:=aT (st:=fq) l41 c41 k41
 have b41:=F41.binds (ps:=["reading", "what", "boxes"]) fun _ _ _ _ _ _ us hl=>match us,hl with | [_,_,_],_=>rfl
 have m41:=mg_of X G a41
 have F42:=aT (st:=eN) l42 c42 k42
 have b42:=F42.binds (ps:=["reading", "whats", "boxes"]) fun _ _ _ _ _ _ us hl=>match us,hl with | [_,_,_],_=>rfl
 have m42:=mg_of X G a42
 have F43:=aT (st:=cY) l43 c43 k43
 have b43:=F43.binds (ps:=["rows", "wishes", "r", "s"]) fun _ _ _ _ _ _ us hl=>match us,hl with | [_,_,_,_],_=>rfl
 have m43:=mg_of X G a43
 have F44:=aT (st:=iz) l44 c44 k44
 have b44:=F44.binds (ps:=["reading", "rows", "wishes", "machine"]) fun _ _ _ _ _ _ us hl=>match us,hl with | [_,_,_,_],_=>rfl
 have m44:=mg_of X G a44
 have F45:=aT (st:=d7) l45 c45 k45
 have b45:=F45.binds (ps:=["rows", "wishes", "boxes", "cells", "bells", "most"]) fun _ _ _ _ _ _ us hl=>match us,hl with | [_,_,_,_,_,_],_=>rfl
 have m45:=mg_of X G a45
 have F46:=aT (st:=eC) l46 c46 k46
 have b46:=F46.binds (ps:=["_law_script", "_law_k"]) fun _ _ _ _ _ _ us hl=>match us,hl with | [_,_],_=>rfl
 have m46:=mg_of X G a46
 have F47:=aT (st:=e9) l47 c47 k47
 have b47:=F47.binds (ps:=["_law_cell", "_law_many"]) fun _ _ _ _ _ _ us hl=>match us,hl with | [_,_],_=>rfl
 have m47:=mg_of X G a47
 have F48:=aT (st:=iA) l48 c48 k48
 have b48:=F48.binds (ps:=["_law_x", "_law_many"]) fun _ _ _ _ _ _ us hl=>match us,hl with | [_,_],_=>rfl
 have m48:=mg_of X G a48
 have F49:=aT (st:=eE) l49 c49 k49
 have b49:=F49.binds (ps:=["_law_x", "_law_many", "_law_count"]) fun _ _ _ _ _ _ us hl=>match us,hl with | [_,_,_],_=>rfl
 have m49:=mg_of X G a49
 have F50:=aT (st:=gR) l50 c50 k50
 have b50:=F50.binds (ps:=["_law_row_here", "_law_x"]) fun _ _ _ _ _ _ us hl=>match us,hl with | [_,_],_=>rfl
 have m50:=mg_of X G a50
 have F51:=aT (st:=eM) l51 c51 k51
 have b51:=F51.binds (ps:=["_law_cell", "_law_many"]) fun _ _ _ _ _ _ us hl=>match us,hl with | [_,_],_=>rfl
 have m51:=mg_of X G a51
 have F52:=aT (st:=ft) l52 c52 k52
 have b52:=F52.binds (ps:=["_law_rows_here", "_law_r"]) fun _ _ _ _ _ _ us hl=>match us,hl with | [_,_],_=>rfl
 have m52:=mg_of X G a52
 have F53:=aT (st:=cn) l53 c53 k53
 have b53:=F53.binds (ps:=["_law_cell"]) fun _ _ _ _ _ _ us hl=>match us,hl with | [_],_=>rfl
 have m53:=mg_of X G a53
 have F54:=aT (st:=eO) l54 c54 k54
 have b54:=F54.binds (ps:=["_law_boxes", "_law_cells"]) fun _ _ _ _ _ _ us hl=>match us,hl with | [_,_],_=>rfl
 have m54:=mg_of X G a54
 have F55:=aT (st:=eP) l55 c55 k55
 have b55:=F55.binds (ps:=["_law_row_here", "_law_state", "_law_bells"]) fun _ _ _ _ _ _ us hl=>match us,hl with | [_,_,_],_=>rfl
 have m55:=mg_of X G a55
 have F56:=aT (st:=fu) l56 c56 k56
 have b56:=F56.binds (ps:=["_law_row_here", "_law_state"]) fun _ _ _ _ _ _ us hl=>match us,hl with | [_,_],_=>rfl
 have m56:=mg_of X G a56
 have F57:=aT (st:=fz) l57 c57 k57
 have b57:=F57.binds (ps:=["_law_rows_here", "_law_state", "_law_bells"]) fun _ _ _ _ _ _ us hl=>match us,hl with | [_,_,_],_=>rfl
 have m57:=mg_of X G a57
 have F58:=aT (st:=dS) l58 c58 k58
 have b58:=F58.binds (ps:=["_law_wishes", "_law_begin", "_law_state", "_law_tale"]) fun _ _ _ _ _ _ us hl=>match us,hl with | [_,_,_,_],_=>rfl
 have m58:=mg_of X G a58
 have F59:=aT (st:=gL) l59 c59 k59
 have b59:=F59.binds (ps:=["_law_rows_here", "_law_wishes", "_law_beginning_here", "_law_most"]) fun _ _ _ _ _ _ us hl=>match us,hl with | [_,_,_,_],_=>rfl
 have m59:=mg_of X G a59
 have F60:=aT (st:=fF) l60 c60 k60
 have b60:=F60.binds (ps:=["_law_rows_here", "_law_cell", "_law_number", "_law_guards"]) fun _ _ _ _ _ _ us hl=>match us,hl with | [_,_,_,_],_=>rfl
 have m60:=mg_of X G a60
 have F61:=aT (st:=kF) l61 c61 k61
 have T:Txt K w.params mg:=⟨⟨ip,mg_of X G aNOT_GOING_ON,fun H=>.inr ⟨_,_,_,lNOT_GOING_ON,rfl,rfl,CA,.cons ⟨_,rfl⟩ (.cons ⟨_,rfl⟩ (.cons ⟨_,rfl⟩ (.cons ⟨_,rfl⟩ (.nil))))⟩⟩,
  ⟨pJ,mg_of X G aMOST_ROWS⟩,
  ⟨jP,mg_of X G aMOST_TARGETS⟩,
  ⟨fV,mg_of X G aBOUNDS,⟨fe,ia,lBOUNDS,kBOUNDS,oBOUNDS⟩,⟨pK,⟨fe,ia,lBOUNDS,kBOUNDS,oBOUNDS,_,eBOUNDS0,rfl⟩,fun H=>.inr ⟨_,_,_,lBOUNDS0,rfl,rfl,cT,.cons ⟨_,rfl⟩ (.cons ⟨_,rfl⟩ (.nil))⟩⟩,
   ⟨pL,⟨fe,ia,lBOUNDS,kBOUNDS,oBOUNDS,_,eBOUNDS1,rfl⟩,fun H=>.inr ⟨_,_,_,lBOUNDS1,rfl,rfl,cT,.cons ⟨_,rfl⟩ (.cons ⟨_,rfl⟩ (.nil))⟩⟩,
   ⟨pM,⟨fe,ia,lBOUNDS,kBOUNDS,oBOUNDS,_,eBOUNDS2,rfl⟩,fun H=>.inr ⟨_,_,_,lBOUNDS2,rfl,rfl,cT,.cons ⟨_,rfl⟩ (.cons ⟨_,rfl⟩ (.nil))⟩⟩,
   ⟨pN,⟨fe,ia,lBOUNDS,kBOUNDS,oBOUNDS,_,eBOUNDS3,rfl⟩,fun H=>.inr ⟨_,_,_,lBOUNDS3,rfl,rfl,cT,.cons ⟨_,rfl⟩ (.cons ⟨_,rfl⟩ (.nil))⟩⟩,
   ⟨pO,⟨fe,ia,lBOUNDS,kBOUNDS,oBOUNDS,_,eBOUNDS4,rfl⟩,fun H=>.inr ⟨_,_,_,lBOUNDS4,rfl,rfl,cT,.cons ⟨_,rfl⟩ (.cons ⟨_,rfl⟩ (.nil))⟩⟩,
   ⟨pP,⟨fe,ia,lBOUNDS,kBOUNDS,oBOUNDS,_,eBOUNDS5,rfl⟩,fun H=>.inr ⟨_,_,_,lBOUNDS5,rfl,rfl,cT,.cons ⟨_,rfl⟩ (.cons ⟨_,rfl⟩ (.nil))⟩⟩⟩,
  ⟨cM,mg_of X G aPARTS,⟨cB,cW,lPARTS,kPARTS,oPARTS⟩,⟨tT,⟨cB,cW,lPARTS,kPARTS,oPARTS,_,ePARTS0,rfl⟩,fun H=>.inr ⟨_,_,_,lPARTS0,rfl,rfl,lL,.nil⟩⟩,
   ⟨tU,⟨cB,cW,lPARTS,kPARTS,oPARTS,_,ePARTS1,rfl⟩,fun H=>.inr ⟨_,_,_,lPARTS1,rfl,rfl,lL,.nil⟩⟩,
   ⟨tV,⟨cB,cW,lPARTS,kPARTS,oPARTS,_,ePARTS2,rfl⟩,fun H=>.inr ⟨_,_,_,lPARTS2,rfl,rfl,oN,.cons ⟨_,rfl⟩ (.nil)⟩⟩,
   ⟨tW,⟨cB,cW,lPARTS,kPARTS,oPARTS,_,ePARTS3,rfl⟩,fun H=>.inr ⟨_,_,_,lPARTS3,rfl,rfl,cT,.cons ⟨_,rfl⟩ (.cons ⟨_,rfl⟩ (.nil))⟩⟩,
   ⟨tY,⟨cB,cW,lPARTS,kPARTS,oPARTS,_,ePARTS4,rfl⟩,fun H=>.inr ⟨_,_,_,lPARTS4,rfl,rfl,cT,.cons ⟨_,rfl⟩ (.cons ⟨_,rfl⟩ (.nil))⟩⟩,
   ⟨tZ,⟨cB,cW,lPARTS,kPARTS,oPARTS,_,ePARTS5,rfl⟩,fun H=>.inr ⟨_,_,_,lPARTS5,rfl,rfl,cT,.cons ⟨_,rfl⟩ (.cons ⟨_,rfl⟩ (.nil))⟩⟩,
   ⟨t8,⟨cB,cW,lPARTS,kPARTS,oPARTS,_,ePARTS6,rfl⟩,fun H=>.inr ⟨_,_,_,lPARTS6,rfl,rfl,cT,.cons ⟨_,rfl⟩ (.cons ⟨_,rfl⟩ (.nil))⟩⟩,
   ⟨t9,⟨cB,cW,lPARTS,kPARTS,oPARTS,_,ePARTS7,rfl⟩,fun H=>.inr ⟨_,_,_,lPARTS7,rfl,rfl,cT,.cons ⟨_,rfl⟩ (.cons ⟨_,rfl⟩ (.nil))⟩⟩,
   ⟨uf,⟨cB,cW,lPARTS,kPARTS,oPARTS,_,ePARTS8,rfl⟩,fun H=>.inr ⟨_,_,_,lPARTS8,rfl,rfl,cT,.cons ⟨_,rfl⟩ (.cons ⟨_,rfl⟩ (.nil))⟩⟩,
   ⟨ug,⟨cB,cW,lPARTS,kPARTS,oPARTS,_,ePARTS9,rfl⟩,fun H=>.inr ⟨_,_,_,lPARTS9,rfl,rfl,cT,.cons ⟨_,rfl⟩ (.cons ⟨_,rfl⟩ (.nil))⟩⟩,
   ⟨pQ,⟨cB,cW,lPARTS,kPARTS,oPARTS,_,ePARTS10,rfl⟩,fun H=>.inr ⟨_,_,_,lPARTS10,rfl,rfl,oN,.cons ⟨_,rfl⟩ (.nil)⟩⟩,
   ⟨pR,⟨cB,cW,lPARTS,kPARTS,oPARTS,_,ePARTS11,rfl⟩,fun H=>.inr ⟨_,_,_,lPARTS11,rfl,rfl,cT,.cons ⟨_,rfl⟩ (.cons ⟨_,rfl⟩ (.nil))⟩⟩,
   ⟨pS,⟨cB,cW,lPARTS,kPARTS,oPARTS,_,ePARTS12,rfl⟩,fun H=>.inr ⟨_,_,_,lPARTS12,rfl,rfl,cT,.cons ⟨_,rfl⟩ (.cons ⟨_,rfl⟩ (.nil))⟩⟩,
   ⟨pT,⟨cB,cW,lPARTS,kPARTS,oPARTS,_,ePARTS13,rfl⟩,fun H=>.inr ⟨_,_,_,lPARTS13,rfl,rfl,cT,.cons ⟨_,rfl⟩ (.cons ⟨_,rfl⟩ (.nil))⟩⟩,
   ⟨pU,⟨cB,cW,lPARTS,kPARTS,oPARTS,_,ePARTS14,rfl⟩,fun H=>.inr ⟨_,_,_,lPARTS14,rfl,rfl,cT,.cons ⟨_,rfl⟩ (.cons ⟨_,rfl⟩ (.nil))⟩⟩,
   ⟨pV,⟨cB,cW,lPARTS,kPARTS,oPARTS,_,ePARTS15,rfl⟩,fun H=>.inr ⟨_,_,_,lPARTS15,rfl,rfl,jX,.cons ⟨_,rfl⟩ (.cons ⟨_,rfl⟩ (.cons ⟨_,rfl⟩ (.nil)))⟩⟩,
   ⟨pW,⟨cB,cW,lPARTS,kPARTS,oPARTS,_,ePARTS16,rfl⟩,fun H=>.inr ⟨_,_,_,lPARTS16,rfl,rfl,jX,.cons ⟨_,rfl⟩ (.cons ⟨_,rfl⟩ (.cons ⟨_,rfl⟩ (.nil)))⟩⟩,
   ⟨pX,⟨cB,cW,lPARTS,kPARTS,oPARTS,_,ePARTS17,rfl⟩,fun H=>.inr ⟨_,_,_,lPARTS17,rfl,rfl,cT,.cons ⟨_,rfl⟩ (.cons ⟨_,rfl⟩ (.nil))⟩⟩,
   ⟨pY,⟨cB,cW,lPARTS,kPARTS,oPARTS,_,ePARTS18,rfl⟩,fun H=>.inr ⟨_,_,_,lPARTS18,rfl,rfl,cT,.cons ⟨_,rfl⟩ (.cons ⟨_,rfl⟩ (.nil))⟩⟩,
   ⟨pZ,⟨cB,cW,lPARTS,kPARTS,oPARTS,_,ePARTS19,rfl⟩,fun H=>.inr ⟨_,_,_,lPARTS19,rfl,rfl,cT,.cons ⟨_,rfl⟩ (.cons ⟨_,rfl⟩ (.nil))⟩⟩⟩,
  ⟨lj,mg_of X G aMOST_WISHES⟩,
  ⟨iT,mg_of X G aPLACES,⟨iF,lq,lPLACES,kPLACES,oPLACES⟩,⟨iF,lq,lPLACES,kPLACES,oPLACES,_,ePLACES0,⟨_,rfl⟩⟩,
   ⟨iF,lq,lPLACES,kPLACES,oPLACES,_,ePLACES1,⟨_,rfl⟩⟩,
   ⟨iF,lq,lPLACES,kPLACES,oPLACES,_,ePLACES2,⟨_,rfl⟩⟩⟩,
  ⟨jY,mg_of X G aWHATS,⟨jF,p9,lWHATS,kWHATS,oWHATS⟩,⟨uh,⟨jF,p9,lWHATS,kWHATS,oWHATS,_,eWHATS0,rfl⟩,fun H=>.inr ⟨_,_,_,lWHATS0,rfl,rfl,cT,.cons ⟨_,rfl⟩ (.cons ⟨_,rfl⟩ (.nil))⟩⟩,
   ⟨ui,⟨jF,p9,lWHATS,kWHATS,oWHATS,_,eWHATS1,rfl⟩,fun H=>.inr ⟨_,_,_,lWHATS1,rfl,rfl,oN,.cons ⟨_,rfl⟩ (.nil)⟩⟩,
   ⟨uj,⟨jF,p9,lWHATS,kWHATS,oWHATS,_,eWHATS2,rfl⟩,fun H=>.inr ⟨_,_,_,lWHATS2,rfl,rfl,cT,.cons ⟨_,rfl⟩ (.cons ⟨_,rfl⟩ (.nil))⟩⟩⟩,
  mg_none_of X G z_len,
  mg_none_of X G z_list,
  mg_none_of X G z_tuple,
  mg_none_of X G z_int,
  mg_none_of X G z_bool,
  mg_none_of X G z_str,
  mg_none_of X G z_dict,
  mg_none_of X G z_isinstance,
  mg_none_of X G z_enumerate,
  mg_none_of X G z_range,
  mg_none_of X G z_all,
  mg_none_of X G z_zip,
  mg_none_of X G z_sorted,
  mg_none_of X G z_set⟩
 refine ⟨fnOf "law" "law" (aI kF) (aH kF) (ak kF) .none Qb Qc Qd OM Ls Qe,fun s v=>.of_eq rfl,fun base _ _=>?_⟩
 have FM0:=aT (st:=rc) lg0 cg0 kg0
 have bm0:=FM0.binds (ps:=["self", "rows", "boxes", "cells", "bells"]) fun _ _ _ _ _ _ us hl=>match us,hl with | [_,_,_,_,_],_=>rfl
 have FM1:=aT (st:=rh) lg1 cg1 kg1
 have bm1:=FM1.binds (ps:=["self"]) fun _ _ _ _ _ _ us hl=>match us,hl with | [_],_=>rfl
 have FM2:=aT (st:=jD) lg2 cg2 kg2
 have bm2:=FM2.binds (ps:=["self"]) fun _ _ _ _ _ _ us hl=>match us,hl with | [_],_=>rfl
 have FM3:=aT (st:=lN) lg3 cg3 kg3
 have bm3:=FM3.binds (ps:=["self"]) fun _ _ _ _ _ _ us hl=>match us,hl with | [_],_=>rfl
 have FM4:=aT (st:=rj) lg4 cg4 kg4
 have bm4:=FM4.binds (ps:=["self"]) fun _ _ _ _ _ _ us hl=>match us,hl with | [_],_=>rfl
 have MT:kX K mg C:=⟨⟨pg,hd,po,sa⟩,n_program,n_in_boxes,n_in_cells,n_in_asides,n_rung,n_told_numbers,n_seen_numbers,n_pile,n_marks_done,n_here,n_how_ended⟩
 have GE:=Kd (P:=l.prog) (w:=w) (base:=base) F0 MT
 have GCa:=yU (P:=l.prog) (w:=w) (base:=base) F18 MT
 have DD:Io l.prog w K mg base C pE:=⟨⟨f1,_,⟨qb,nE,lE,kE,oE,_,e_stop,rfl⟩,FX F1 MT GE F0.kp b0 m0,b1,F1.kp⟩,⟨f2,_,⟨qb,nE,lE,kE,oE,_,e_halt,rfl⟩,FZ F2 MT GE F0.kp b0 m0,b2,F2.kp⟩,⟨f3,_,⟨qb,nE,lE,kE,oE,_,e_back,rfl⟩,Gb F3 MT GE F0.kp b0 m0 T.len,b3,F3.kp⟩,⟨f4,_,⟨qb,nE,lE,kE,oE,_,e_set,rfl⟩,(Kf (P:=l.prog) (base:=base) F4 MT).mono (by decide),b4,F4.kp⟩,⟨f5,_,⟨qb,nE,lE,kE,oE,_,e_more,rfl⟩,(FA (P:=l.prog) (base:=base) F5 MT).mono (by decide),b5,F5.kp⟩,⟨f6,_,⟨qb,nE,lE,kE,oE,_,e_copy,rfl⟩,(FD (P:=l.prog) (base:=base) F6 MT).mono (by decide),b6,F6.kp⟩,⟨f7,_,⟨qb,nE,lE,kE,oE,_,e_add,rfl⟩,(Kh (P:=l.prog) (base:=base) F7 MT).mono (by decide),b7,F7.kp⟩,⟨f8,_,⟨qb,nE,lE,kE,oE,_,e_less,rfl⟩,(FG (P:=l.prog) (base:=base) F8 MT).mono (by decide),b8,F8.kp⟩,⟨f9,_,⟨qb,nE,lE,kE,oE,_,e_load,rfl⟩,(FI (P:=l.prog) (base:=base) F9 MT).mono (by decide),b9,F9.kp⟩,⟨Ow,_,⟨qb,nE,lE,kE,oE,_,e_keep,rfl⟩,(FN (P:=l.prog) (base:=base) F10 MT).mono (by decide),b10,F10.kp⟩,⟨f11,_,⟨qb,nE,lE,kE,oE,_,e_tell,rfl⟩,(FP (P:=l.prog) (base:=base) F11 MT).mono (by decide),b11,F11.kp⟩,⟨Ox,_,⟨qb,nE,lE,kE,oE,_,e_see,rfl⟩,(Kl (P:=l.prog) (base:=base) F12 MT).mono (by decide),b12,F12.kp⟩,⟨Oy,_,⟨qb,nE,lE,kE,oE,_,e_put,rfl⟩,(Kj (P:=l.prog) (base:=base) F13 MT).mono (by decide),b13,F13.kp⟩,⟨Oz,_,⟨qb,nE,lE,kE,oE,_,e_take,rfl⟩,(FK (P:=l.prog) (base:=base) F14 MT).mono (by decide),b14,F14.kp⟩,⟨OB,_,⟨qb,nE,lE,kE,oE,_,e_jump,rfl⟩,(FT (P:=l.prog) (base:=base) F15 MT).mono (by decide),b15,F15.kp⟩,⟨OD,_,⟨qb,nE,lE,kE,oE,_,e_zero,rfl⟩,(FV (P:=l.prog) (base:=base) F16 MT).mono (by decide),b16,F16.kp⟩,⟨OG,_,⟨qb,nE,lE,kE,oE,_,e_below,rfl⟩,(C1 (P:=l.prog) (base:=base) F17 MT).mono (by decide),b17,F17.kp⟩,⟨OI,_,⟨qb,nE,lE,kE,oE,_,e_call,rfl⟩,(yU (P:=l.prog) (base:=base) F18 MT).mono (by decide),b18,F18.kp⟩,⟨OJ,_,⟨qb,nE,lE,kE,oE,_,e_mark,rfl⟩,Gd F19 MT GCa F18.kp b18 m18,b19,F19.kp⟩,⟨OL,_,⟨qb,nE,lE,kE,oE,_,e_table,rfl⟩,(C2 (P:=l.prog) (base:=base) F20 MT T.len).mono (by decide),b20,F20.kp⟩⟩
 have ng:=Fv (P:=l.prog) (w:=w) (base:=base) F46 T
 have gX:=Aa (P:=l.prog) (w:=w) (base:=base) F47 T
 have ni:=J5 (P:=l.prog) (w:=w) (base:=base) F49 T
 have vF:=J6 (P:=l.prog) (w:=w) (base:=base) F48 T ni F49.kp b49 m49
 have uk:=Fw (P:=l.prog) (w:=w) (base:=base) F50 T
 have um:=Gv (P:=l.prog) (w:=w) (base:=base) F56 T
 have qz:=Dl (P:=l.prog) (w:=w) (base:=base) F55 T
 have uo:=Dm (P:=l.prog) (w:=w) (base:=base) F57 T um F56.kp b56 m56 qz F55.kp b55 m55
 have qB:=Dn (P:=l.prog) (w:=w) (base:=base) F54 T
 have lu:=Kw (P:=l.prog) (w:=w) (base:=base) F53 T gX F47.kp b47 m47
 have iV:=Nn (P:=l.prog) (w:=w) (base:=base) F37 T
 have nj:=Nq (P:=l.prog) (w:=w) (base:=base) F38 T
 have vG:=Nt (P:=l.prog) (w:=w) (base:=base) F41 T
 have uq:=Nw (P:=l.prog) (w:=w) (base:=base) F42 T vG F41.kp b41 m41
 have lS:=Nz (P:=l.prog) (w:=w) (base:=base) F43 T nj F38.kp b38 m38 iV F37.kp b37 m37
 have Be:=NC (P:=l.prog) (w:=w) (base:=base) F44 T MT ⟨ag1,ig1,kg1⟩ (yW FM1 T MT) bm1 ⟨ag2,ig2,kg2⟩ (Ah FM2 T MT) bm2 ⟨ag3,ig3,kg3⟩ (vo FM3 T MT) bm3 ⟨ag4,ig4,kg4⟩ (Gr FM4 MT (mg_of X G aE) DD) bm4 lS F43.kp b43 m43
 have ur:=Hb (P:=l.prog) (w:=w) (base:=base) F58 T
 have vH:=KP (P:=l.prog) (w:=w) (base:=base) F59 T qB F54.kp b54 m54 ur F58.kp b58 m58 uo F57.kp b57 m57
 have qa:=w4 (P:=l.prog) (w:=w) (base:=base) F21 T
 have jQ:=qv (P:=l.prog) (w:=w) (base:=base) F22 T
 have yd:=w6 (P:=l.prog) (w:=w) (base:=base) F23 T qa F21.kp b21 m21 jQ F22.kp b22 m22
 have mz:=vy (P:=l.prog) (w:=w) (base:=base) F24 T
 have jZ:=w8 (P:=l.prog) (w:=w) (base:=base) F29 T
 have iW:=mV (P:=l.prog) (w:=w) (base:=base) F25 T mz F24.kp b24 m24
 have qC:=qw (P:=l.prog) (w:=w) (base:=base) F26 T iW F25.kp b25 m25
 have ye:=xc (P:=l.prog) (w:=w) (base:=base) F27 T iW F25.kp b25 m25 qC F26.kp b26 m26
 have ly:=tP (P:=l.prog) (w:=w) (base:=base) F28 T ye F27.kp b27 m27
 have Bf:=Aq (P:=l.prog) (w:=w) (base:=base) F30 T jZ F29.kp b29 m29 ly F28.kp b28 m28
 have nu:=mX (P:=l.prog) (w:=w) (base:=base) F31 T jQ F22.kp b22 m22
 have qD:=qx (P:=l.prog) (w:=w) (base:=base) F32 T Bf F30.kp b30 m30 nu F31.kp b31 m31 qa F21.kp b21 m21
 have vI:=vz (P:=l.prog) (w:=w) (base:=base) F33 T jZ F29.kp b29 m29 mz F24.kp b24 m24 yd F23.kp b23 m23
 have yf:=xg (P:=l.prog) (w:=w) (base:=base) F34 T jZ F29.kp b29 m29 ly F28.kp b28 m28
 have yg:=xh (P:=l.prog) (w:=w) (base:=base) F35 T vI F33.kp b33 m33 yf F34.kp b34 m34
 have ny:=mZ (P:=l.prog) (w:=w) (base:=base) F36 T yg F35.kp b35 m35
 have jI:=N9 (P:=l.prog) (w:=w) (base:=base) F39 T
 have j0:=Ob (P:=l.prog) (w:=w) (base:=base) F40 T jI F39.kp b39 m39
 have qE:=Od (P:=l.prog) (w:=w) (base:=base) F45 T qD F32.kp b32 m32 ny F36.kp b36 m36 j0 F40.kp b40 m40 iV F37.kp b37 m37 uq F42.kp b42 m42 Be F44.kp b44 m44 MT (mg_of X G aC) ⟨mkc,ag0,ig0,kc⟩ (Ge FM0 T MT) bm0 ⟨ag1,ig1,kg1⟩ (yW FM1 T MT) bm1 ⟨ag3,ig3,kg3⟩ (vo FM3 T MT) bm3
 have uv:=vC (P:=l.prog) (w:=w) (base:=base) F51 T gX F47.kp b47 m47 vF F48.kp b48 m48 uk F50.kp b50 m50
 have uw:=vD (P:=l.prog) (w:=w) (base:=base) F52 T
 have uz:=vE (P:=l.prog) (w:=w) (base:=base) F60 T gX F47.kp b47 m47 uw F52.kp b52 m52
 exact Lp F61 T ng F46.kp b46 m46 uv F51.kp b51 m51 uz F60.kp b60 m60 lu F53.kp b53 m53 vH F59.kp b59 m59 qE F45.kp b45 m45
theorem walk {l:OpenLaw} {q:Program} {loose:List Str} {XP:(Str→Option Value)→Heap→Prop} {YP:World→Heap→Prop} {d:DefRec} {K:Params→Frag} (hn:l.most=some 63) (hdf:d.params.defaults=[])
  (hY:∀ (w:World) (h:Heap),YP w h→(K w.params).In h)
  (F:∀ (w:World) (mg:Str→Option Value) (fa:Addr) (h:Heap),(K w.params).In h→h.Ns mainGlobals mg→mg d.name=some (.ref fa) →
   ∃ fd:FuncData,(∀ (s:Shared) (u:Value),BindsTo s fd ⟨[u],[]⟩ [("_law_script",u)])∧∀ base:Heap,(K w.params).In base→base.Ns mainGlobals mg→aR l.prog w (K w.params) mg base bV 10 fa fd ["_law_script"] (zr (K:=K w.params))) :
  WalkO q loose XP YP l.row.toRowW d [] (fun f vs=>PySem.call f vs) :=
 L2.yw (n:=63) (k:=10) (x := "_law_script") (CX:=fun _=>bV) (sp:=fun w=>zr (K:=K w.params)) hn (by decide) hdf ⟨rfl,by decide,by decide⟩ hY F (fun _ _ a ns hl _ hS=>⟨a,ns,rfl,hS,hl,fun _=>rfl⟩) fun _ _ _ _ _ z=>z
end My
open PySem PySem.W PyProof.Rows
set_option maxRecDepth 100000 in
set_option maxHeartbeats 0 in
theorem PySem.Challenge.cw_widenrows_k52_guards_and_ends_holds : PySem.Challenge.rw_widenrows_k52_guards_and_ends.Holds := by
 w_on; o_law; k_head; (case hw=>w_witness2)
 k_fill
 refine My.walk (l:=PySem.Challenge.rw_widenrows_k52_guards_and_ends) rfl rfl (fun w h Y=>kIn_of Y) ?F
 case F =>
  intro w mg fa h KX G hmg
  refine' My.all_mk KX G hmg ?a0 ?l0 ?c0 ?k0 ?a1 ?l1 ?c1 ?k1 ?a2 ?l2 ?c2 ?k2 ?a3 ?l3 ?c3 ?k3 ?a4 ?l4 ?c4 ?k4 ?a5 ?l5 ?c5 ?k5 ?a6 ?l6 ?c6 ?k6 ?a7 ?l7 ?c7 ?k7 ?a8 ?l8 ?c8 ?k8 ?a9 ?l9 ?c9 ?k9 ?a10 ?l10 ?c10 ?k10 ?a11 ?l11 ?c11 ?k11 ?a12 ?l12 ?c12 ?k12 ?a13 ?l13 ?c13 ?k13 ?a14 ?l14 ?c14 ?k14 ?a15 ?l15 ?c15 ?k15 ?a16 ?l16 ?c16 ?k16 ?a17 ?l17 ?c17 ?k17 ?a18 ?l18 ?c18 ?k18 ?a19 ?l19 ?c19 ?k19 ?a20 ?l20 ?c20 ?k20 ?a21 ?l21 ?c21 ?k21 ?a22 ?l22 ?c22 ?k22 ?a23 ?l23 ?c23 ?k23 ?a24 ?l24 ?c24 ?k24 ?a25 ?l25 ?c25 ?k25 ?a26 ?l26 ?c26 ?k26 ?a27 ?l27 ?c27 ?k27 ?a28 ?l28 ?c28 ?k28 ?a29 ?l29 ?c29 ?k29 ?a30 ?l30 ?c30 ?k30 ?a31 ?l31 ?c31 ?k31 ?a32 ?l32 ?c32 ?k32 ?a33 ?l33 ?c33 ?k33 ?a34 ?l34 ?c34 ?k34 ?a35 ?l35 ?c35 ?k35 ?a36 ?l36 ?c36 ?k36 ?a37 ?l37 ?c37 ?k37 ?a38 ?l38 ?c38 ?k38 ?a39 ?l39 ?c39 ?k39 ?a40 ?l40 ?c40 ?k40 ?a41 ?l41 ?c41 ?k41 ?a42 ?l42 ?c42 ?k42 ?a43 ?l43 ?c43 ?k43 ?a44 ?l44 ?c44 ?k44 ?a45 ?l45 ?c45 ?k45 ?a46 ?l46 ?c46 ?k46 ?a47 ?l47 ?c47 ?k47 ?a48 ?l48 ?c48 ?k48 ?a49 ?l49 ?c49 ?k49 ?a50 ?l50 ?c50 ?k50 ?a51 ?l51 ?c51 ?k51 ?a52 ?l52 ?c52 ?k52 ?a53 ?l53 ?c53 ?k53 ?a54 ?l54 ?c54 ?k54 ?a55 ?l55 ?c55 ?k55 ?a56 ?l56 ?c56 ?k56 ?a57 ?l57 ?c57 ?k57 ?a58 ?l58 ?c58 ?k58 ?a59 ?l59 ?c59 ?k59 ?a60 ?l60 ?c60 ?k60 ?a61 ?l61 ?c61 ?k61 ?z_len ?z_list ?z_tuple ?z_int ?z_bool ?z_str ?z_dict ?z_isinstance ?z_enumerate ?z_range ?z_all ?z_zip ?z_sorted ?z_set ?aNOT_GOING_ON ?lNOT_GOING_ON ?aMOST_ROWS ?aMOST_TARGETS ?aBOUNDS ?lBOUNDS ?kBOUNDS ?oBOUNDS ?eBOUNDS0 ?lBOUNDS0 ?eBOUNDS1 ?lBOUNDS1 ?eBOUNDS2 ?lBOUNDS2 ?eBOUNDS3 ?lBOUNDS3 ?eBOUNDS4 ?lBOUNDS4 ?eBOUNDS5 ?lBOUNDS5 ?aPARTS ?lPARTS ?kPARTS ?oPARTS ?ePARTS0 ?lPARTS0 ?ePARTS1 ?lPARTS1 ?ePARTS2 ?lPARTS2 ?ePARTS3 ?lPARTS3 ?ePARTS4 ?lPARTS4 ?ePARTS5 ?lPARTS5 ?ePARTS6 ?lPARTS6 ?ePARTS7 ?lPARTS7 ?ePARTS8 ?lPARTS8 ?ePARTS9 ?lPARTS9 ?ePARTS10 ?lPARTS10 ?ePARTS11 ?lPARTS11 ?ePARTS12 ?lPARTS12 ?ePARTS13 ?lPARTS13 ?ePARTS14 ?lPARTS14 ?ePARTS15 ?lPARTS15 ?ePARTS16 ?lPARTS16 ?ePARTS17 ?lPARTS17 ?ePARTS18 ?lPARTS18 ?ePARTS19 ?lPARTS19 ?aMOST_WISHES ?aPLACES ?lPLACES ?kPLACES ?oPLACES ?ePLACES0 ?ePLACES1 ?ePLACES2 ?aWHATS ?lWHATS ?kWHATS ?oWHATS ?eWHATS0 ?lWHATS0 ?eWHATS1 ?lWHATS1 ?eWHATS2 ?lWHATS2 ?aC ?ag0 ?ig0 ?lg0 ?cg0 ?kg0 ?ag1 ?ig1 ?lg1 ?cg1 ?kg1 ?ag2 ?ig2 ?lg2 ?cg2 ?kg2 ?ag3 ?ig3 ?lg3 ?cg3 ?kg3 ?ag4 ?ig4 ?lg4 ?cg4 ?kg4 ?pg ?hd ?po ?sa ?mkc ?kc ?n_program ?n_in_boxes ?n_in_cells ?n_in_asides ?n_rung ?n_told_numbers ?n_seen_numbers ?n_pile ?n_marks_done ?n_here ?n_how_ended ?aE ?lE ?kE ?oE ?e_stop ?e_halt ?e_back ?e_set ?e_more ?e_copy ?e_add ?e_less ?e_load ?e_keep ?e_tell ?e_see ?e_put ?e_take ?e_jump ?e_zero ?e_below ?e_call ?e_mark ?e_table
  (case a0=>k_is)
  (case l0=>k_is)
  (case c0=>k_is)
  (case k0=>k_is)
  (case a1=>k_is)
  (case l1=>k_is)
  (case c1=>k_is)
  (case k1=>k_is)
  (case a2=>k_is)
  (case l2=>k_is)
  (case c2=>k_is)
  (case k2=>k_is)
  (case a3=>k_is)
  (case l3=>k_is)
  (case c3=>k_is)
  (case k3=>k_is)
  (case a4=>k_is)
  (case l4=>k_is)
  (case c4=>k_is)
  (case k4=>k_is)
  (case a5=>k_is)
  (case l5=>k_is)
  (case c5=>k_is)
  (case k5=>k_is)
  (case a6=>k_is)
  (case l6=>k_is)
  (case c6=>k_is)
  (case k6=>k_is)
  (case a7=>k_is)
  (case l7=>k_is)
  (case c7=>k_is)
  (case k7=>k_is)
  (case a8=>k_is)
  (case l8=>k_is)
  (case c8=>k_is)
  (case k8=>k_is)
  (case a9=>k_is)
  (case l9=>k_is)
  (case c9=>k_is)
  (case k9=>k_is)
  (case a10=>k_is)
  (case l10=>k_is)
  (case c10=>k_is)
  (case k10=>k_is)
  (case a11=>k_is)
  (case l11=>k_is)
  (case c11=>k_is)
  (case k11=>k_is)
  (case a12=>k_is)
  (case l12=>k_is)
  (case c12=>k_is)
  (case k12=>k_is)
  (case a13=>k_is)
  (case l13=>k_is)
  (case c13=>k_is)
  (case k13=>k_is)
  (case a14=>k_is)
  (case l14=>k_is)
  (case c14=>k_is)
  (case k14=>k_is)
  (case a15=>k_is)
  (case l15=>k_is)
  (case c15=>k_is)
  (case k15=>k_is)
  (case a16=>k_is)
  (case l16=>k_is)
  (case c16=>k_is)
  (case k16=>k_is)
  (case a17=>k_is)
  (case l17=>k_is)
  (case c17=>k_is)
  (case k17=>k_is)
  (case a18=>k_is)
  (case l18=>k_is)
  (case c18=>k_is)
  (case k18=>k_is)
  (case a19=>k_is)
  (case l19=>k_is)
  (case c19=>k_is)
  (case k19=>k_is)
  (case a20=>k_is)
  (case l20=>k_is)
  (case c20=>k_is)
  (case k20=>k_is)
  (case a21=>k_is)
  (case l21=>k_is)
  (case c21=>k_is)
  (case k21=>k_is)
  (case a22=>k_is)
  (case l22=>k_is)
  (case c22=>k_is)
  (case k22=>k_is)
  (case a23=>k_is)
  (case l23=>k_is)
  (case c23=>k_is)
  (case k23=>k_is)
  (case a24=>k_is)
  (case l24=>k_is)
  (case c24=>k_is)
  (case k24=>k_is)
  (case a25=>k_is)
  (case l25=>k_is)
  (case c25=>k_is)
  (case k25=>k_is)
  (case a26=>k_is)
  (case l26=>k_is)
  (case c26=>k_is)
  (case k26=>k_is)
  (case a27=>k_is)
  (case l27=>k_is)
  (case c27=>k_is)
  (case k27=>k_is)
  (case a28=>k_is)
  (case l28=>k_is)
  (case c28=>k_is)
  (case k28=>k_is)
  (case a29=>k_is)
  (case l29=>k_is)
  (case c29=>k_is)
  (case k29=>k_is)
  (case a30=>k_is)
  (case l30=>k_is)
  (case c30=>k_is)
  (case k30=>k_is)
  (case a31=>k_is)
  (case l31=>k_is)
  (case c31=>k_is)
  (case k31=>k_is)
  (case a32=>k_is)
  (case l32=>k_is)
  (case c32=>k_is)
  (case k32=>k_is)
  (case a33=>k_is)
  (case l33=>k_is)
  (case c33=>k_is)
  (case k33=>k_is)
  (case a34=>k_is)
  (case l34=>k_is)
  (case c34=>k_is)
  (case k34=>k_is)
  (case a35=>k_is)
  (case l35=>k_is)
  (case c35=>k_is)
  (case k35=>k_is)
  (case a36=>k_is)
  (case l36=>k_is)
  (case c36=>k_is)
  (case k36=>k_is)
  (case a37=>k_is)
  (case l37=>k_is)
  (case c37=>k_is)
  (case k37=>k_is)
  (case a38=>k_is)
  (case l38=>k_is)
  (case c38=>k_is)
  (case k38=>k_is)
  (case a39=>k_is)
  (case l39=>k_is)
  (case c39=>k_is)
  (case k39=>k_is)
  (case a40=>k_is)
  (case l40=>k_is)
  (case c40=>k_is)
  (case k40=>k_is)
  (case a41=>k_is)
  (case l41=>k_is)
  (case c41=>k_is)
  (case k41=>k_is)
  (case a42=>k_is)
  (case l42=>k_is)
  (case c42=>k_is)
  (case k42=>k_is)
  (case a43=>k_is)
  (case l43=>k_is)
  (case c43=>k_is)
  (case k43=>k_is)
  (case a44=>k_is)
  (case l44=>k_is)
  (case c44=>k_is)
  (case k44=>k_is)
  (case a45=>k_is)
  (case l45=>k_is)
  (case c45=>k_is)
  (case k45=>k_is)
  (case a46=>k_is)
  (case l46=>k_is)
  (case c46=>k_is)
  (case k46=>k_is)
  (case a47=>k_is)
  (case l47=>k_is)
  (case c47=>k_is)
  (case k47=>k_is)
  (case a48=>k_is)
  (case l48=>k_is)
  (case c48=>k_is)
  (case k48=>k_is)
  (case a49=>k_is)
  (case l49=>k_is)
  (case c49=>k_is)
  (case k49=>k_is)
  (case a50=>k_is)
  (case l50=>k_is)
  (case c50=>k_is)
  (case k50=>k_is)
  (case a51=>k_is)
  (case l51=>k_is)
  (case c51=>k_is)
  (case k51=>k_is)
  (case a52=>k_is)
  (case l52=>k_is)
  (case c52=>k_is)
  (case k52=>k_is)
  (case a53=>k_is)
  (case l53=>k_is)
  (case c53=>k_is)
  (case k53=>k_is)
  (case a54=>k_is)
  (case l54=>k_is)
  (case c54=>k_is)
  (case k54=>k_is)
  (case a55=>k_is)
  (case l55=>k_is)
  (case c55=>k_is)
  (case k55=>k_is)
  (case a56=>k_is)
  (case l56=>k_is)
  (case c56=>k_is)
  (case k56=>k_is)
  (case a57=>k_is)
  (case l57=>k_is)
  (case c57=>k_is)
  (case k57=>k_is)
  (case a58=>k_is)
  (case l58=>k_is)
  (case c58=>k_is)
  (case k58=>k_is)
  (case a59=>k_is)
  (case l59=>k_is)
  (case c59=>k_is)
  (case k59=>k_is)
  (case a60=>k_is)
  (case l60=>k_is)
  (case c60=>k_is)
  (case k60=>k_is)
  (case a61=>k_is)
  (case l61=>k_is)
  (case c61=>k_is)
  (case k61=>k_is)
  (case z_len=>k_is)
  (case z_list=>k_is)
  (case z_tuple=>k_is)
  (case z_int=>k_is)
  (case z_bool=>k_is)
  (case z_str=>k_is)
  (case z_dict=>k_is)
  (case z_isinstance=>k_is)
  (case z_enumerate=>k_is)
  (case z_range=>k_is)
  (case z_all=>k_is)
  (case z_zip=>k_is)
  (case z_sorted=>k_is)
  (case z_set=>k_is)
  (case aNOT_GOING_ON=>k_is)
  (case lNOT_GOING_ON=>k_is)
  (case aMOST_ROWS=>k_is)
  (case aMOST_TARGETS=>k_is)
  (case aBOUNDS=>k_is)
  (case lBOUNDS=>k_is)
  (case kBOUNDS=>k_keys)
  (case oBOUNDS=>first | exact rfl | decide | k_is)
  (case eBOUNDS0=>k_is)
  (case lBOUNDS0=>k_is)
  (case eBOUNDS1=>k_is)
  (case lBOUNDS1=>k_is)
  (case eBOUNDS2=>k_is)
  (case lBOUNDS2=>k_is)
  (case eBOUNDS3=>k_is)
  (case lBOUNDS3=>k_is)
  (case eBOUNDS4=>k_is)
  (case lBOUNDS4=>k_is)
  (case eBOUNDS5=>k_is)
  (case lBOUNDS5=>k_is)
  (case aPARTS=>k_is)
  (case lPARTS=>k_is)
  (case kPARTS=>k_keys)
  (case oPARTS=>first | exact rfl | decide | k_is)
  (case ePARTS0=>k_is)
  (case lPARTS0=>k_is)
  (case ePARTS1=>k_is)
  (case lPARTS1=>k_is)
  (case ePARTS2=>k_is)
  (case lPARTS2=>k_is)
  (case ePARTS3=>k_is)
  (case lPARTS3=>k_is)
  (case ePARTS4=>k_is)
  (case lPARTS4=>k_is)
  (case ePARTS5=>k_is)
  (case lPARTS5=>k_is)
  (case ePARTS6=>k_is)
  (case lPARTS6=>k_is)
  (case ePARTS7=>k_is)
  (case lPARTS7=>k_is)
  (case ePARTS8=>k_is)
  (case lPARTS8=>k_is)
  (case ePARTS9=>k_is)
  (case lPARTS9=>k_is)
  (case ePARTS10=>k_is)
  (case lPARTS10=>k_is)
  (case ePARTS11=>k_is)
  (case lPARTS11=>k_is)
  (case ePARTS12=>k_is)
  (case lPARTS12=>k_is)
  (case ePARTS13=>k_is)
  (case lPARTS13=>k_is)
  (case ePARTS14=>k_is)
  (case lPARTS14=>k_is)
  (case ePARTS15=>k_is)
  (case lPARTS15=>k_is)
  (case ePARTS16=>k_is)
  (case lPARTS16=>k_is)
  (case ePARTS17=>k_is)
  (case lPARTS17=>k_is)
  (case ePARTS18=>k_is)
  (case lPARTS18=>k_is)
  (case ePARTS19=>k_is)
  (case lPARTS19=>k_is)
  (case aMOST_WISHES=>k_is)
  (case aPLACES=>k_is)
  (case lPLACES=>k_is)
  (case kPLACES=>k_keys)
  (case oPLACES=>first | exact rfl | decide | k_is)
  (case ePLACES0=>k_is)
  (case ePLACES1=>k_is)
  (case ePLACES2=>k_is)
  (case aWHATS=>k_is)
  (case lWHATS=>k_is)
  (case kWHATS=>k_keys)
  (case oWHATS=>first | exact rfl | decide | k_is)
  (case eWHATS0=>k_is)
  (case lWHATS0=>k_is)
  (case eWHATS1=>k_is)
  (case lWHATS1=>k_is)
  (case eWHATS2=>k_is)
  (case lWHATS2=>k_is)
  (case aC=>k_is)
  (case ag0=>k_is)
  (case ig0=>k_is)
  (case lg0=>k_is)
  (case cg0=>k_is)
  (case kg0=>k_is)
  (case ag1=>k_is)
  (case ig1=>k_is)
  (case lg1=>k_is)
  (case cg1=>k_is)
  (case kg1=>k_is)
  (case ag2=>k_is)
  (case ig2=>k_is)
  (case lg2=>k_is)
  (case cg2=>k_is)
  (case kg2=>k_is)
  (case ag3=>k_is)
  (case ig3=>k_is)
  (case lg3=>k_is)
  (case cg3=>k_is)
  (case kg3=>k_is)
  (case ag4=>k_is)
  (case ig4=>k_is)
  (case lg4=>k_is)
  (case cg4=>k_is)
  (case kg4=>k_is)
  (case pg=>k_is)
  (case hd=>k_is)
  (case po=>k_is)
  (case sa=>k_is)
  (case mkc=>k_is)
  (case kc=>k_is)
  (case n_program=>k_is)
  (case n_in_boxes=>k_is)
  (case n_in_cells=>k_is)
  (case n_in_asides=>k_is)
  (case n_rung=>k_is)
  (case n_told_numbers=>k_is)
  (case n_seen_numbers=>k_is)
  (case n_pile=>k_is)
  (case n_marks_done=>k_is)
  (case n_here=>k_is)
  (case n_how_ended=>k_is)
  (case aE=>k_is)
  (case lE=>k_is)
  (case kE=>k_keys)
  (case oE=>first | exact rfl | decide | k_is)
  (case e_stop=>k_is)
  (case e_halt=>k_is)
  (case e_back=>k_is)
  (case e_set=>k_is)
  (case e_more=>k_is)
  (case e_copy=>k_is)
  (case e_add=>k_is)
  (case e_less=>k_is)
  (case e_load=>k_is)
  (case e_keep=>k_is)
  (case e_tell=>k_is)
  (case e_see=>k_is)
  (case e_put=>k_is)
  (case e_take=>k_is)
  (case e_jump=>k_is)
  (case e_zero=>k_is)
  (case e_below=>k_is)
  (case e_call=>k_is)
  (case e_mark=>k_is)
  (case e_table=>k_is)
#print axioms PySem.Challenge.cw_widenrows_k52_guards_and_ends_holds
