import PyProof.Rows.All
import Wide.All
import OpenK.AllK
import Wide.FinOn
import Lean
import PyProof.EqAt
import PyProof.EqKinds
import PyProof.TupleCall
import PyProof.NeKinds
import PyProof.ListRange
import KE.KDictSum
import Wide.Seal
import PyProof.EnumIter
import PyProof.EnumFor
import PyProof.EnumMake
import PyProof.EnumStmt
import PyProof.ConsumeWalk
import KE.KPairComp
import PyProof.DictItemsLoops
import KE.KEqDict
import PyProof.AttrMissSeq
import PyProof.CollectWalk
import OpenK.KTop
import PyProof.TupleOps
import PyProof.ListMulRoad
import PyProof.FactsAll.tuple_2
import PyProof.ZipIter
import PyProof.TupleIter
import PyProof.WalksMore
import KE.KTurns
import PyProof.StationsW
import PyProof.Rows.OwnQ
import OpenK.KOwn
import KE.KTryMore
import PyProof.NsDelKeeps
import PyProof.ExcArgsOwn
import PyProof.ExcAttrAll.ValueError
import PyProof.InstStoreFacts
import PyProof.ExcBaseAll.ValueError
import PyProof.Rows.FStr
import OpenK.KCls
import PyProof.StrBlock2
import PyProof.Rows.SortWalk
import KE.KFind
import PyProof.Rows.TupAdd
import PyProof.FactsAll.subtypes_4
import KE.KIntText
import PyProof.Rows.SortStr
import KE.LcSums
import PySem.Challenge.RW_widenrows_k54_whole_places_add_up
set_option Elab.async false
set_option linter.all false
set_option maxRecDepth 100000
namespace L2
open PySem PySem.Spec PyProof.Rows
abbrev Key:=Sum Int Str
def qJ:Key→Value→Bool
 | .inl k,v=>Value.isInt k v
 | .inr x,v=>Value.isStrOf x v
def Ro (w:World):Key→Int
 | .inl k=>hashInt k
 | .inr x=>hashStr w x
theorem cX:∀ {k:Key} {v:Value},qJ k v=true→(∃ i t,k=Sum.inl i∧v=Value.int i t)∨(∃ x t,k=Sum.inr x∧v=Value.str x t)
 | .inl i,v,h=>by
  obtain ⟨t,e⟩:=Value.isInt_shape (k:=i) (v:=v) h
  exact .inl ⟨i,t,rfl,e⟩
 | .inr x,v,h=>by
  obtain ⟨t,e⟩:=Value.isStrOf_shape (x:=x) (v:=v) h
  exact .inr ⟨x,t,rfl,e⟩
theorem zQ (i:Int) (t:Tok):qJ (.inl i) (.int i t)=true:=by simp [qJ,Value.isInt]
theorem zR (x:Str) (t:Tok):qJ (.inr x) (.str x t)=true:=by simp [qJ,Value.isStrOf]
theorem Jm (a b:Int):decide ((Sum.inl a:Key)=Sum.inl b)=(a == b):=by
 by_cases e:a=b
 ·subst e; simp
 ·have h:¬ (Sum.inl a:Key)=Sum.inl b:=fun q=>e (Sum.inl.inj q)
  rw [decide_eq_false h]
  exact (beq_eq_false_iff_ne.mpr e).symm
theorem Jo (a b:Str):decide ((Sum.inr a:Key)=Sum.inr b)=decide (a=b):=by
 by_cases e:a=b
 ·subst e; simp
 ·have h:¬ (Sum.inr a:Key)=Sum.inr b:=fun q=>e (Sum.inr.inj q)
  rw [decide_eq_false h,decide_eq_false e]
theorem Jp (a:Int) (b:Str):decide ((Sum.inl a:Key)=Sum.inr b)=false:=decide_eq_false (fun q=>nomatch q)
theorem Jq (a:Str) (b:Int):decide ((Sum.inr a:Key)=Sum.inl b)=false:=decide_eq_false (fun q=>nomatch q)
def bF (prog:Program) (w:World):PySem.KeyKind prog w Key where
 is:=qJ
 hash:=Ro w
 inj:=fun v a b ha hb=>by
  rcases cX ha with ⟨i,t,rfl,rfl⟩ | ⟨x,t,rfl,rfl⟩
  ·rcases cX hb with ⟨j,u,rfl,e⟩ | ⟨y,u,rfl,e⟩
   ·injection e with e1 _; rw [e1]
   ·exact nomatch e
  ·rcases cX hb with ⟨j,u,rfl,e⟩ | ⟨y,u,rfl,e⟩
   ·exact nomatch e
   ·injection e with e1 _; rw [e1]
 byValue:=fun k v h=>by
  rcases cX h with ⟨i,t,rfl,rfl⟩ | ⟨x,t,rfl,rfl⟩ <;> rfl
 pyHash:=fun hv h=>by
  rcases cX hv with ⟨i,t,rfl,rfl⟩ | ⟨x,t,rfl,rfl⟩
  ·exact wpAny_pyHash_int h
  ·exact wpAny_pyHash_str h
 eqBool:=fun hu hv h=>by
  rcases cX hu with ⟨i,t,rfl,rfl⟩ | ⟨x,t,rfl,rfl⟩
  ·rcases cX hv with ⟨j,u,rfl,rfl⟩ | ⟨y,u,rfl,rfl⟩
   ·rw [Jm] at h; exact wpAny_eqBool_int h
   ·rw [Jp] at h; exact SeqAt.EqAt.int_str i t y u _ _ _ _ h
  ·rcases cX hv with ⟨j,u,rfl,rfl⟩ | ⟨y,u,rfl,rfl⟩
   ·rw [Jq] at h; exact SeqAt.EqAt.str_int x t j u _ _ _ _ h
   ·rw [Jo] at h; exact wpAny_eqBool_str h
 «strs»:=fun k x t v h=>by
  rcases cX h with ⟨i,u,rfl,e⟩ | ⟨y,u,rfl,e⟩
  ·exact nomatch e
  ·injection e with e1 _
   subst e1
   cases v <;> rfl
theorem uw (prog:Program) (w:World) (i:Int) (t:Tok):(bF prog w).is (.inl i) (.int i t)=true:=zQ i t
theorem uz (prog:Program) (w:World) (x:Str) (t:Tok):(bF prog w).is (.inr x) (.str x t)=true:=zR x t
inductive V where
 | non | bl (b:Bool) | int (i:Int) | str (x:Str) | BG (b:Array UInt8) | flt (b:UInt64) | ref (a:Addr) | ty (n:String)
 deriving DecidableEq
def RelV:V→Value→Prop
 | .non,u=>u=Value.none
 | .bl b,u=>u=Value.bool b
 | .int i,u=>∃ t,u=Value.int i t
 | .str x,u=>∃ t,u=Value.str x t
 | .BG b,u=>∃ t,u=Value.bytes b t
 | .flt b,u=>∃ t,u=Value.float b t
 | .ref a,u=>u=Value.ref a
 | .ty n,u=>u=Value.type n
abbrev Vals:List V→List Value→Prop:=Paired RelV
theorem Vals.length {xs:List V} {us:List Value} (r:Vals xs us):xs.length=us.length:=Paired.length r
theorem Vals.get:∀ {xs:List V} {us:List Value} {i:Nat} {x:V},Vals xs us→xs[i]? = some x→∃ u,us[i]? = some u∧RelV x u
 | _,_,_,_,.nil,e=>by simp at e
 | _,_,0,_,.cons r _,e=>by simp at e; subst e; exact ⟨_,rfl,r⟩
 | _,_,i + 1,x,.cons _ t,e=>by
  obtain ⟨u,h1,h2⟩:=Vals.get (i:=i) (x:=x) t (by simpa using e)
  exact ⟨u,by simpa using h1,h2⟩
theorem Vals.set {x:V} {u:Value} (r:RelV x u):∀ {xs:List V} {us:List Value} (i:Nat),Vals xs us→Vals (xs.set i x) (us.set i u)
 | _,_,_,.nil=>.nil
 | _,_,0,.cons _ t=>.cons r t
 | _,_,i + 1,.cons q t=>.cons q (Vals.set r i t)
theorem Vals.append:∀ {xs ys:List V} {us ws:List Value},Vals xs us→Vals ys ws→Vals (xs ++ ys) (us ++ ws)
 | _,_,_,_,.nil,s=>s
 | _,_,_,_,.cons r t,s=>.cons r (Vals.append t s)
theorem Vals.take:∀ {xs:List V} {us:List Value} (n:Nat),Vals xs us→Vals (xs.take n) (us.take n)
 | _,_,0,_=>.nil
 | _,_,_ + 1,.nil=>.nil
 | _,_,n + 1,.cons r t=>.cons r (Vals.take n t)
theorem Vals.drop:∀ {xs:List V} {us:List Value} (n:Nat),Vals xs us→Vals (xs.drop n) (us.drop n)
 | _,_,0,r=>r
 | _,_,_ + 1,.nil=>.nil
 | _,_,n + 1,.cons _ t=>Vals.drop n t
def g9:Option V→Option Value→Prop
 | some v,some u=>RelV v u
 | none,none=>True
 | _,_=>False
def KV {κ:Type}:List (κ × V)→List (κ × Value)→Prop:=Paired fun (p:κ × V) (q:κ × Value)=>p.1=q.1∧RelV p.2 q.2
def kV:Key→V
 | .inl i=>.int i
 | .inr x=>.str x
inductive HO where
 | lst (xs:List V)
 | tup (xs:List V)
 | dK (kvs:List (Key × V)) | dT (kvs:List (List Key × V))
 | set (S:Int→Bool) (n:Nat)
 | ins (C dx:Addr) (fs:List (Str × V))
 | own (x:Addr)
 | xd (fs:List (Str × V))
 | met (f x:Addr)
 | rng (lo hi:Int)
 | yl (o:Obj) (u:HO)
 | Jr (ps:Array Value)
 | ext (φ:Heap→Prop)
abbrev Hp:=Addr→Option HO
def upd (H:Hp) (a:Addr) (o:HO):Hp:=fun b=>if b=a then some o else H b
theorem ah {H:Hp} {a:Addr} {o:HO}:upd H a o a=some o:=by unfold upd; rw [if_pos rfl]
theorem aK {H:Hp} {a b:Addr} {o:HO} (h:b ≠ a):upd H a o b=H b:=by unfold upd; rw [if_neg h]
theorem cm {H:Hp} {a b:Addr} {o u:HO} (h:H a=some o) (h':H b=some u) (d:o ≠ u):a ≠ b:=by
 intro e; subst e; rw [h] at h'; exact d (Option.some.inj h')
theorem aw {H:Hp} {a b:Addr} {o:HO} (h:H a=some o) (h':H b=none):a ≠ b:=by
 intro e; subst e; rw [h] at h'; cases h'
section
variable (P:Program) (w:World)
def cv (H:Hp) (h:Heap) (a:Addr):HO→Prop
 | .lst xs=>xs.length ≤ sizeLine∧∃ (its:List Value) (n:Nat),Vals xs its∧h.get? a=some { cls:=.type "list",data:=.seq its.toArray n }
 | .tup xs=>xs.length ≤ sizeLine∧∃ its:List Value,Vals xs its∧IsTup h a its.toArray
 | .dK kvs=>kvs.length ≤ sizeLine∧(a == sysModules)=false∧∃ vs,KV kvs vs∧h.DictOf (bF P w) a vs
 | .dT kvs=>kvs.length ≤ sizeLine∧(a == sysModules)=false∧∃ xs:List (List Key × Addr × Value),
   Paired (fun (p:List Key × V) (q:List Key × Addr × Value)=>p.1=q.1∧H q.2.1=some (.tup (p.1.map kV))∧RelV p.2 q.2.2) kvs xs ∧
   ∃ o es ep,h.get? a=some o∧o.ExactDict∧o.data=.dict es ep∧es.toList=xs.map (entryOfKey (tupleKind (bF P w)))∧(xs.map (·.1)).Nodup
 | .set S n=>h.SetOf (intKind P w) a S n
 | .ins C dx fs=>H dx=some (.own a)∧fs.length ≤ 1000∧dx ≠ a∧h.get? a=some (PySem.W.instObj C dx) ∧
   ∃ mA,h.Ns1 dx mA∧(∀ f,g9 (fs.lookup f) (mA f))∧PySem.Within mA (fs.map (·.1))
 | .own _=>∃ o,h.get? a=some o
 | .xd fs=>∃ mA,h.Ns1 a mA∧∀ f,g9 (fs.lookup f) (mA f)
 | .rng lo hi=>∃ t u v,h.get? a=some { cls:=.type "range",data:=.fields #[.int lo t,.int hi u,.int 1 v] }
 | .yl o u=>h.get? a=some o∧cv H h a u
 | .Jr ps=>h.get? a=some { cls:=.none,data:=.fields ps }
 | .met f x=>h.get? a=some (PySem.W.methodObj (.ref f) (.ref x))
 | .ext φ=>φ h∧(∃ o,h.get? a=some o)∧∀ h1 h2:Heap,φ h1→(∀ o,h1.get? a=some o→h2.get? a=some o)→φ h2
def jO (H:Hp) (h:Heap):Prop:=∀ a o,H a=some o→cv P w H h a o
end
section
variable {P:Program} {w:World} {H H':Hp} {h h':Heap} {a:Addr} {o:HO}
theorem cv.lt (x:cv P w H h a o):a < h.objs.size:=by
 cases o with
 | lst xs=>obtain ⟨_,_,_,_,e⟩:=x; exact Heap.lt_size e
 | tup xs=>obtain ⟨_,_,_,p⟩:=x; exact p.lt
 | dK kvs=>obtain ⟨_,_,_,_,o,_,_,e,_⟩:=x; exact Heap.lt_size e
 | dT kvs=>obtain ⟨_,_,_,_,o,_,_,e,_⟩:=x; exact Heap.lt_size e
 | set S n=>obtain ⟨o,_,_,_,e,_⟩:=x; exact Heap.lt_size e
 | ins C dx fs=>obtain ⟨_,_,_,e,_⟩:=x; exact Heap.lt_size e
 | own y=>obtain ⟨_,e⟩:=x; exact Heap.lt_size e
 | xd fs=>obtain ⟨_,⟨_,_,_,e,_⟩,_⟩:=x; exact Heap.lt_size e
 | rng lo hi=>obtain ⟨_,_,_,e⟩:=x; exact Heap.lt_size e
 | yl ob u=>obtain ⟨e,_⟩:=x; exact Heap.lt_size e
 | Jr ps=>exact Heap.lt_size (show h.get? a=some _ from x)
 | met f y=>exact Heap.lt_size (show h.get? a=some _ from x)
 | ext φ=>obtain ⟨_,⟨_,e⟩,_⟩:=x; exact Heap.lt_size e
theorem Paired.Js {α β:Type} {F G:α→β→Prop}:∀ {l₁:List α} {l₂:List β},Paired F l₁ l₂→(∀ a b,F a b→G a b)→Paired G l₁ l₂
 | _,_,.nil,_=>.nil
 | _,_,.cons r t,f=>.cons (f _ _ r) (Paired.Js t f)
theorem cv.stay (x:cv P w H h a o) (k:∀ b u,(b=a∨H b=some (.own a))→h.get? b=some u→h'.get? b=some u)
  (ho:∀ b,H b=some (.own a)→H' b=some (.own a)) (ht:∀ b xs,H b=some (.tup xs)→H' b=some (.tup xs)):cv P w H' h' a o:=by
 induction o with
 | lst xs=>obtain ⟨z,its,n,r,e⟩:=x; exact ⟨z,its,n,r,k _ _ (.inl rfl) e⟩
 | tup xs=>obtain ⟨z,its,r,ob,e,c⟩:=x; exact ⟨z,its,r,ob,k _ _ (.inl rfl) e,c⟩
 | dK kvs=>obtain ⟨z,y,vs,r,ob,es,ep,e,c⟩:=x; exact ⟨z,y,vs,r,ob,es,ep,k _ _ (.inl rfl) e,c⟩
 | dT kvs =>
  obtain ⟨z,y,xs,r,ob,es,ep,e,c⟩:=x
  exact ⟨z,y,xs,Paired.Js r fun p q z=>⟨z.1,ht _ _ z.2.1,z.2.2⟩,ob,es,ep,k _ _ (.inl rfl) e,c⟩
 | set S n=>obtain ⟨ob,es,ep,t,e,c⟩:=x; exact ⟨ob,es,ep,t,k _ _ (.inl rfl) e,c⟩
 | ins C dx fs =>
  obtain ⟨d,z,ne,e,mA,⟨od,es,ep,e2,c⟩,r⟩:=x
  exact ⟨ho _ d,z,ne,k _ _ (.inl rfl) e,mA,⟨od,es,ep,k _ _ (.inr d) e2,c⟩,r⟩
 | own y=>obtain ⟨ob,e⟩:=x; exact ⟨ob,k _ _ (.inl rfl) e⟩
 | xd fs=>obtain ⟨mA,⟨od,es,ep,e,c⟩,r⟩:=x; exact ⟨mA,⟨od,es,ep,k _ _ (.inl rfl) e,c⟩,r⟩
 | rng lo hi=>obtain ⟨t,u,v,e⟩:=x; exact ⟨t,u,v,k _ _ (.inl rfl) e⟩
 | yl ob u ih=>obtain ⟨e,q⟩:=x; exact ⟨k _ _ (.inl rfl) e,ih q⟩
 | Jr ps =>
  have e:h.get? a=some { cls:=.none,data:=.fields ps }:=x
  show h'.get? a=some { cls:=.none,data:=.fields ps }
  exact k a _ (.inl rfl) e
 | met f y =>
  have e:h.get? a=some (PySem.W.methodObj (.ref f) (.ref y)):=x
  show h'.get? a=some (PySem.W.methodObj (.ref f) (.ref y))
  exact k a _ (.inl rfl) e
 | ext φ=>obtain ⟨p,⟨o,e⟩,st⟩:=x; exact ⟨st _ _ p fun o q=>k _ _ (.inl rfl) q,⟨o,k _ _ (.inl rfl) e⟩,st⟩
theorem jO.lt (x:jO P w H h) (e:H a=some o):a < h.objs.size:=(x a o e).lt
theorem jO.fresh (x:jO P w H h) (e:h.objs.size ≤ a):H a=none:=by
 cases q:H a with
 | none=>rfl
 | some u=>exact absurd (Nat.lt_of_lt_of_le (x.lt q) e) (Nat.lt_irrefl _)
theorem jO.kept (x:jO P w H h) (k:∀ b u,h.get? b=some u→h'.get? b=some u):jO P w H h':=fun a o e =>
 (x a o e).stay (fun b u _ q=>k b u q) (fun _ q=>q) fun _ _ q=>q
theorem jO.laid (x:jO P w H h) (k:∀ b u,h.get? b=some u→h'.get? b=some u) (hp:h.objs.size ≤ a) (new:cv P w (upd H a o) h' a o):jO P w (upd H a o) h':=fun b u e=>by
 have hn:=x.fresh hp
 by_cases hb:b=a
 ·subst hb; rw [ah] at e; cases e; exact new
 ·rw [aK hb] at e
  exact (x b u e).stay (fun c v _ q=>k c v q) (fun c q=>by rw [aK (aw q hn)]; exact q) fun c xs q=>by rw [aK (aw q hn)]; exact q
end
def Rd (H:Hp) (a:Addr) (u:HO):Prop:=H a=some u∨∃ o,H a=some (.yl o u)
theorem Rd.of {H:Hp} {a:Addr} {u:HO} (h:H a=some u):Rd H a u:=.inl h
theorem Rd.ok {P:Program} {w:World} {H:Hp} {h:Heap} {a:Addr} {u:HO} (r:Rd H a u) (x:jO P w H h):cv P w H h a u:=by
 rcases r with r | ⟨o,r⟩
 ·exact x a u r
 ·obtain ⟨_,q⟩:=x a _ r
  exact q
def L8:Option HO→Prop
 | some (.lst _)=>True
 | some (.dK _)=>True
 | some (.dT _)=>True
 | some (.set _ _)=>True
 | some (.ins _ _ _)=>True
 | some (.ext _)=>True
 | _=>False
section
variable {P:Program} {w:World} {H:Hp} {h h':Heap} {x e:Addr} {o':HO}
theorem jO.write (ok:jO P w H h) (mu:L8 (H x)) (he:e=x∨H e=some (.own x)) (k:∀ b u,b ≠ e→h.get? b=some u→h'.get? b=some u) (heo:∃ u,h'.get? e=some u)
  (new:cv P w (upd H x o') h' x o'):jO P w (upd H x o') h':=fun b u q=>by
 have Ma:∀ c y,H c=some (.own y)→c ≠ x:=fun c y r z=>by subst z; rw [r] at mu; exact mu
 have Rp:∀ c xs,H c=some (.tup xs)→c ≠ x:=fun c xs r z=>by subst z; rw [r] at mu; exact mu
 by_cases hb:b=x
 ·subst hb; rw [ah] at q; cases q; exact new
 ·rw [aK hb] at q
  by_cases hbe:b=e
  ·have q':H b=some (.own x):=by
    rcases he with z | z
    ·exact absurd (hbe.trans z) hb
    ·rw [hbe]; exact z
   rw [q] at q'; cases q'
   obtain ⟨v,hv⟩:=heo
   exact ⟨v,by rw [hbe]; exact hv⟩
  ·refine (ok b u q).stay (fun c v hc r=>k c v ?_ r) (fun c r=>by rw [aK (Ma c b r)]; exact r) fun c xs r=>by rw [aK (Rp c xs r)]; exact r
   rcases hc with rfl | hc
   ·exact hbe
   ·rintro rfl
    rcases he with z | z
    ·exact Ma c b hc z
    ·rw [hc] at z; cases z; exact hb rfl
end
structure Un (fs ex:List Addr) (H H':Hp) (h h':Heap):Prop where
 keep:∀ b o,h.get? b=some o→H b=none→b ∉ fs→b ∉ ex→h'.get? b=some o
 slot:∀ b o,h.get? b=some o→H b=none→b ∈ fs→b ∉ ex→∃ sl,h'.get? b=some { o with slots:=sl }
 free:∀ b o,h.get? b=some o→H b=none→b ∉ ex→H' b=none
 there:∀ b o,h.get? b=some o→b ∉ ex→∃ o',h'.get? b=some o'
 tups:∀ b xs,H b=some (.tup xs)→H' b=some (.tup xs)
 rL:∀ b o u,H b=some (.yl o u)→H' b=some (.yl o u)
 uD:∀ b ps,H b=some (.Jr ps)→∃ more,H' b=some (.Jr (ps ++ more))
section
variable {fs fs' ex ex':List Addr} {H H1 H2:Hp} {h h1 h2 h':Heap} {a x e:Addr} {o:HO}
theorem Un.any (u:Un fs ex H H1 h h1) {b:Addr} {ob:Obj} (q:h.get? b=some ob) (n:H b=none) (hx:b ∉ ex):∃ sl,h1.get? b=some { ob with slots:=sl }:=by
 by_cases hb:b ∈ fs
 ·exact u.slot b ob q n hb hx
 ·exact ⟨ob.slots,u.keep b ob q n hb hx⟩
theorem Un.kept (k:∀ b u,h.get? b=some u→h'.get? b=some u):Un fs ex H H h h' :=
 ⟨fun b ob q _ _ _=>k b ob q,fun b ob q _ _ _=>⟨ob.slots,k b ob q⟩,fun _ _ _ n _=>n,fun b ob q _=>⟨ob,k b ob q⟩,fun _ _ q=>q,fun _ _ _ q=>q,fun _ ps q=>⟨#[],by rw [q]; simp⟩⟩
theorem Un.refl:Un fs ex H H h h:=Un.kept fun _ _ q=>q
theorem Un.laid (k:∀ b u,h.get? b=some u→h'.get? b=some u) (hp:h.objs.size ≤ a) (hn:H a=none):Un fs ex H (upd H a o) h h' where
 keep:=fun b u q _ _ _=>k b u q
 slot:=fun b u q _ _ _=>⟨u.slots,k b u q⟩
 free:=fun b u q n _=>by rw [aK (Nat.ne_of_lt (Nat.lt_of_lt_of_le (Heap.lt_size q) hp))]; exact n
 there:=fun b u q _=>⟨u,k b u q⟩
 tups:=fun b xs q=>by rw [aK (aw q hn)]; exact q
 rL:=fun b u xs q=>by rw [aK (aw q hn)]; exact q
 uD:=fun b ps q=>⟨#[],by rw [aK (aw q hn),q]; simp⟩
theorem Un.write (mu:L8 (H x)) (he:e=x∨H e=some (.own x)) (k:∀ b u,b ≠ e→h.get? b=some u→h'.get? b=some u) (heo:∃ u,h'.get? e=some u):Un fs ex H (upd H x o) h h':=by
 have hx:∀ b,H b=none→b ≠ x:=fun b n z=>by subst z; rw [n] at mu; exact mu
 have hb:∀ b,H b=none→b ≠ e:=fun b n z=>by
  subst z
  rcases he with r | r
  ·exact hx b n r
  ·rw [n] at r; cases r
 have hm:∀ b u,H b=some u→¬ L8 (some u)→b ≠ x:=fun b u q nm z=>by subst z; rw [q] at mu; exact nm mu
 refine ⟨fun b u q n _ _=>k b u (hb b n) q,fun b u q n _ _=>⟨u.slots,k b u (hb b n) q⟩,fun b u q n _=>by rw [aK (hx b n)]; exact n,fun b u q _=>?_,
  fun b xs q=>by rw [aK (hm b _ q fun z=>z)]; exact q,fun b u xs q=>by rw [aK (hm b _ q fun z=>z)]; exact q,fun b ps q=>⟨#[],by rw [aK (hm b _ q fun z=>z),q]; simp⟩⟩
 by_cases hbe:b=e
 ·subst hbe; exact heo
 ·exact ⟨u,k b u hbe q⟩
end
def QK (h:Heap) (H:Hp):List Addr:=(List.range h.objs.size).filter fun a=>(H a).isSome
def rM (h:Heap) (H:Hp):Heap:=PySem.W.hideAll h (QK h H)
theorem zS (h:Heap) (H:Hp):(rM h H).objs.size=h.objs.size:=PySem.W.hideAll_size _ _
theorem BM {h:Heap} {H:Hp} {b:Addr} {o:Obj} (e:h.get? b=some o) (n:H b=none):(rM h H).get? b=some o :=
 PySem.W.hideAll_get _ e fun hm=>by
  have q:(H b).isSome=true:=(List.mem_filter.mp hm).2
  rw [n] at q; simp at q
theorem Fc {h:Heap} {H:Hp} {b:Addr} {o:Obj} (e:(rM h H).get? b=some o):h.get? b=some o∧H b=none:=by
 have e':h.get? b=some o:=PySem.W.of_hideAll (QK h H) e
 refine ⟨e',?_⟩
 cases q:H b with
 | none=>rfl
 | some x =>
  have hm:b ∈ QK h H:=List.mem_filter.mpr ⟨List.mem_range.mpr (Heap.lt_size e'),by simp [q]⟩
  have z:(rM h H).get? b=none:=PySem.W.hideAll_none (QK h H) hm
  rw [z] at e; cases e
structure Mod (K:PySem.W.Frag) (mg:Str→Option Value) (base:Heap):Prop where
 Mb:K.In base
 glob:base.Ns mainGlobals mg
 blt:∃ mb,base.Ns builtinsNs mb∧∀ x:Str,x ≠ "__name__" → mb x=bootBuiltins x
 nolimit:base.NoLimit
structure Cx where
 prog:Program
 w:World
 K:PySem.W.Frag
 mg:Str→Option Value
 base:Heap
 A:Around
 N:List Str
 s₀:Shared
 H₀:Hp
 env:Env
 outer:List Env
 stack:List Env
 ex:List Addr
 fn:Str→Bool
 calm:Bool
 pn:List (Addr × Obj)
 xe:Value→Shared→Prop
def frs (l:List Env):List Addr:=l.filterMap (·.frame)
abbrev Cx.fs (X:Cx):List Addr:=frs X.outer
def Rq (sc:Scope) (x:Str):Prop:=sc.names.lookup x=some .local∨sc.names.lookup x=some .cell∨sc.names.lookup x=some .free
def Loc (sc:Scope) (x:Str):Prop:=sc.names.lookup x=some .local∨sc.names.lookup x=some .cell
def Look (env:Env) (h:Heap) (m:Str→Option Value) (x:Str) (u:Value):Prop :=
 (env.kindOf x=some .local∧m x=some u)∨((env.kindOf x=some .cell∨env.kindOf x=some .free)∧∃ c,env.cells.lookup x=some c∧h.IsCell c (some u))
structure Cx.Ok (X:Cx):Prop where
 mod:Mod X.K X.mg X.base
 kind:X.env.scope.kind=.function
 glob:X.env.globals=mainGlobals
 blt:X.env.builtins=builtinsNs
 above:X.s₀.heap.objs.size ≤ X.env.locals
 inj:∀ x y c,X.env.cells.lookup x=some c→X.env.cells.lookup y=some c→x=y
 has:∀ x,(X.env.kindOf x=some .cell∨X.env.kindOf x=some .free)→∃ c,X.env.cells.lookup x=some c
 cab:∀ x c,X.fn x=true→X.env.cells.lookup x=some c→X.s₀.heap.objs.size ≤ c
 hd:X.calm=true→X.A.handled=none
 frames:X.A.frames=some X.stack
 stk:X.stack=X.outer∨(X.stack=X.env :: X.outer∧X.env.frame=some X.env.locals)
 Rr:∀ b ∈ X.ex,b ≠ X.env.locals∧∀ x c,X.env.cells.lookup x=some c→c ≠ b
 bs:∀ b o,X.base.get? b=some o→X.s₀.heap.get? b=some o∧X.H₀ b=none
 Fd:X.base.objs.size ≤ X.s₀.heap.objs.size
 BO:∀ b o,X.base.get? b=some o→b ∉ X.ex
 BP:∀ b ∈ X.ex,b ∉ X.fs
 mr:X.s₀.heap.FunFrames X.base X.outer
 Jt:∀ b ∈ X.fs,X.H₀ b=none
structure Inv (X:Cx) (pins:List (Addr × Obj)) (σ:List (Option V)) (H:Hp) (s:Shared):Prop where
 ok:X.Ok
 os:s.os=X.s₀.os
 bare:AllBare s.gens
 base:Un X.fs X.ex X.H₀ H X.s₀.heap s.heap
 loc:∃ m,s.heap.Ns X.env.locals m∧∀ (i:Nat) (x:Str) (v:V),X.N[i]? = some x→σ[i]? = some (some v)→Rq X.env.scope x→∃ u,RelV v u∧Look X.env s.heap m x u
 cell:∀ x c,X.env.cells.lookup x=some c→∃ v,s.heap.IsCell c v
 free:H X.env.locals=none
 jF:∀ x c,X.env.cells.lookup x=some c→H c=none
 pin:∀ p ∈ X.pn ++ pins,s.heap.get? p.1=some p.2∧H p.1=none∧p.1 ≠ X.env.locals∧p.1 ∉ X.fs∧∀ v,p.2.data ≠ .cell v
 hok:jO X.prog X.w H s.heap
 len:σ.length=X.N.length
section
variable {X:Cx} {pins:List (Addr × Obj)} {σ:List (Option V)} {H H':Hp} {s:Shared} {h':Heap}
theorem Cx.Ok.Rt (ok:X.Ok) {b:Addr} {o:Obj} (e:X.base.get? b=some o):b ∉ X.fs:=fun hb=>by
 have:=(ok.mr.mem hb).1
 rw [e] at this; cases this
theorem Inv.bs (I:Inv X pins σ H s):∀ b o,X.base.get? b=some o→s.heap.get? b=some o∧H b=none:=fun b o e =>
 ⟨I.base.keep b o (I.ok.bs b o e).1 (I.ok.bs b o e).2 (I.ok.Rt e) (I.ok.BO b o e),I.base.free b o (I.ok.bs b o e).1 (I.ok.bs b o e).2 (I.ok.BO b o e)⟩
theorem Inv.bk (I:Inv X pins σ H s):∀ b o,X.base.get? b=some o→s.heap.get? b=some o:=fun b o e=>(I.bs b o e).1
theorem Inv.mod (I:Inv X pins σ H s):Mod X.K X.mg X.base:=I.ok.mod
theorem Inv.lq (I:Inv X pins σ H s):X.K.In s.heap:=I.ok.mod.Mb.keeps I.bk
theorem Inv.lt (I:Inv X pins σ H s):X.env.locals < s.heap.objs.size:=let ⟨_,hn,_⟩:=I.loc; hn.lt
theorem Inv.sz (I:Inv X pins σ H s):X.s₀.heap.objs.size ≤ s.heap.objs.size:=Nat.le_trans I.ok.above (Nat.le_of_lt I.lt)
theorem Inv.Ru (I:Inv X pins σ H s) {a:Addr} (h:s.heap.objs.size ≤ a):a ∉ X.fs:=fun hb=>by
 obtain ⟨_,o,ho,_⟩:=I.ok.mr.mem hb
 exact absurd (Nat.lt_of_lt_of_le (Heap.lt_size ho) (Nat.le_trans I.sz h)) (Nat.lt_irrefl _)
theorem Inv.Ju (I:Inv X pins σ H s):∀ x c,X.env.cells.lookup x=some c→c ≠ X.env.locals:=fun x c e z=>by
 obtain ⟨v,o,ho,hd⟩:=I.cell x c e
 obtain ⟨m,⟨o',es,ep,ho',hd',_⟩,_⟩:=I.loc
 rw [z,ho'] at ho; cases ho; rw [hd'] at hd; cases hd
theorem Inv.mr (I:Inv X pins σ H s):s.heap.FunFrames X.base X.outer:=by
 have all:∀ (l:List Env),(∀ b ∈ frs l,b ∈ X.fs)→X.s₀.heap.FunFrames X.base l→s.heap.FunFrames X.base l:=by
  intro l
  induction l with
  | nil=>intro _ _; trivial
  | cons env r ih =>
   intro hs hl
   obtain ⟨hk,⟨L,o,hf,hn,ho,hd⟩,hr⟩:=hl
   have hL:L ∈ X.fs:=hs L (by unfold frs; rw [List.filterMap_cons,hf]; exact List.mem_cons_self)
   obtain ⟨sl,e⟩:=I.base.slot L o ho (I.ok.Jt L hL) hL fun z=>I.ok.BP L z hL
   exact ⟨hk,⟨L,_,hf,hn,e,hd⟩,ih (fun b hb=>hs b (by unfold frs; rw [List.filterMap_cons,hf]; exact List.mem_cons_of_mem _ hb)) hr⟩
 exact all X.outer (fun _ hb=>hb) I.ok.mr
theorem Inv.stack (I:Inv X pins σ H s):s.heap.FunFrames X.base X.stack:=by
 rcases I.ok.stk with e | ⟨e,hf⟩
 ·rw [e]; exact I.mr
 ·rw [e]
  obtain ⟨m,hn,_⟩:=I.loc
  refine .cons (by rw [I.ok.kind]; decide) hf hn ?_ I.mr
  exact Heap.get?_none_of_le (Nat.le_trans I.ok.Fd I.ok.above)
theorem Inv.vM (I:Inv X pins σ H s):∀ b ∈ frs X.stack,b ∈ X.env.locals :: X.fs:=fun b hb=>by
 rcases I.ok.stk with e | ⟨e,hf⟩
 ·rw [e] at hb; exact List.mem_cons_of_mem _ hb
 ·rw [e] at hb
  unfold frs at hb
  rw [List.filterMap_cons,hf] at hb
  exact hb
theorem Inv.ym (I:Inv X pins σ H s):∀ b ∈ frs X.stack,H b=none:=fun b hb=>by
 rcases List.mem_cons.mp (I.vM b hb) with e | hb
 ·rw [e]; exact I.free
 ·obtain ⟨_,o,ho,_⟩:=I.ok.mr.mem hb
  exact I.base.free b o ho (I.ok.Jt b hb) fun z=>I.ok.BP b z hb
theorem Inv.step {g':Array GenState} {t':Nat} {d':Drawn} {ch:List Addr} (I:Inv X pins σ H s)
  (hch:∀ b ∈ ch,(b ∈ X.ex∨X.s₀.heap.objs.size ≤ b)∧b ≠ X.env.locals∧(∀ x c,X.env.cells.lookup x=some c→c ≠ b)∧∀ p ∈ X.pn ++ pins,p.1 ≠ b)
  (keep:∀ b o,b ≠ X.env.locals→b ∉ X.fs→b ∉ ch→s.heap.get? b=some o→H b=none→h'.get? b=some o)
  (slot:∀ b o,b ≠ X.env.locals→b ∈ X.fs→b ∉ ch→s.heap.get? b=some o→H b=none→∃ sl,h'.get? b=some { o with slots:=sl }) (free:∀ b o,b ∉ ch→s.heap.get? b=some o→H b=none→H' b=none)
  (there:∀ b o,b ∉ ch→s.heap.get? b=some o→∃ o',h'.get? b=some o')
  (tups:∀ b xs,H b=some (.tup xs)→H' b=some (.tup xs)) (rL:∀ b o u,H b=some (.yl o u)→H' b=some (.yl o u)) (uD:∀ b ps,H b=some (.Jr ps)→∃ more,H' b=some (.Jr (ps ++ more)))
  (ns:∀ m,s.heap.Ns X.env.locals m→h'.Ns X.env.locals m) (hok:jO X.prog X.w H' h') (hg:AllBare g') :
  Inv X pins σ H' { s with heap:=h',gens:=g',drawn:=d',toks:=t' }:=by
 have neL:∀ b o,X.s₀.heap.get? b=some o→b ≠ X.env.locals:=fun b o e=>Nat.ne_of_lt (Nat.lt_of_lt_of_le (Heap.lt_size e) I.ok.above)
 have QL:∀ b o,X.s₀.heap.get? b=some o→b ∉ X.ex→b ∉ ch:=fun b o e hx hb=>by
  rcases (hch b hb).1 with z | z
  ·exact hx z
  ·exact absurd (Nat.lt_of_lt_of_le (Heap.lt_size e) z) (Nat.lt_irrefl _)
 have cellK:∀ x c,X.env.cells.lookup x=some c→∀ v,s.heap.IsCell c v→h'.IsCell c v:=fun x c e v ⟨o,ho,hd⟩=>by
  have Md:c ∉ ch:=fun z=>(hch c z).2.2.1 x c e rfl
  by_cases hc:c ∈ X.fs
  ·obtain ⟨sl,q⟩:=slot c o (I.Ju x c e) hc Md ho (I.jF x c e)
   exact ⟨_,q,hd⟩
  ·exact ⟨o,keep c o (I.Ju x c e) hc Md ho (I.jF x c e),hd⟩
 refine ⟨I.ok,I.os,hg,⟨fun b o e n hb hx=>?_,fun b o e n hb hx=>?_,fun b o e n hx=>?_,fun b o e hx=>?_,fun b xs e=>tups b xs (I.base.tups b xs e),fun b o xs e=>rL b o xs (I.base.rL b o xs e),fun b ps e=>?_⟩,?_,fun x c e=>?_,?_,fun x c e=>?_,fun p hp=>?_,hok,I.len⟩
 ·exact keep b o (neL b o e) hb (QL b o e hx) (I.base.keep b o e n hb hx) (I.base.free b o e n hx)
 ·obtain ⟨sl,e1⟩:=I.base.slot b o e n hb hx
  obtain ⟨sl',e2⟩:=slot b _ (neL b o e) hb (QL b o e hx) e1 (I.base.free b o e n hx)
  exact ⟨sl',e2⟩
 ·obtain ⟨o',e1⟩:=I.base.there b o e hx
  exact free b o' (QL b o e hx) e1 (I.base.free b o e n hx)
 ·obtain ⟨o',e1⟩:=I.base.there b o e hx
  exact there b o' (QL b o e hx) e1
 ·obtain ⟨m1,e1⟩:=I.base.uD b ps e
  obtain ⟨m2,e2⟩:=uD b _ e1
  exact ⟨m1 ++ m2,by rw [e2,Array.append_assoc]⟩
 ·obtain ⟨m,hn,hl⟩:=I.loc
  refine ⟨m,ns m hn,fun i x v e1 e2 e3=>?_⟩
  obtain ⟨u,r,l⟩:=hl i x v e1 e2 e3
  refine ⟨u,r,?_⟩
  rcases l with l | ⟨k,c,e,z⟩
  ·exact .inl l
  ·exact .inr ⟨k,c,e,cellK x c e _ z⟩
 ·obtain ⟨v,z⟩:=I.cell x c e
  exact ⟨v,cellK x c e v z⟩
 ·obtain ⟨m,⟨o,_,_,ho,_⟩,_⟩:=I.loc
  exact free _ o (fun z=>(hch _ z).2.1 rfl) ho I.free
 ·obtain ⟨v,o,ho,hd⟩:=I.cell x c e
  exact free c o (fun z=>(hch c z).2.2.1 x c e rfl) ho (I.jF x c e)
 ·obtain ⟨e,n,ne,nf,d⟩:=I.pin p hp
  have Md:p.1 ∉ ch:=fun z=>(hch p.1 z).2.2.2 p hp rfl
  exact ⟨keep p.1 p.2 ne nf Md e n,free p.1 p.2 Md e n,ne,nf,d⟩
theorem Inv.un {t':Nat} (I:Inv X pins σ H s) (u:Un X.fs [] H H' s.heap h') (hok:jO X.prog X.w H' h'):Inv X pins σ H' { s with heap:=h',toks:=t' }:=by
 obtain ⟨m,⟨o,es,ep,ho,r⟩,_⟩:=id I.loc
 obtain ⟨sl,hL⟩:=u.any ho I.free (by simp)
 exact I.step (g':=s.gens) (d':=s.drawn) (ch:=[]) (fun _ z=>nomatch z) (fun b o _ hb _ e n=>u.keep b o e n hb (by simp)) (fun b o _ hb _ e n=>u.slot b o e n hb (by simp)) (fun b o _ e n=>u.free b o e n (by simp)) (fun b o _ e=>u.there b o e (by simp)) u.tups u.rL u.uD (fun m' hm=>by
  obtain ⟨o',es',ep',ho',r'⟩:=hm
  rw [ho] at ho'; cases ho'
  exact ⟨_,es',ep',hL,r'⟩) hok I.bare
theorem Inv.call {g':Array GenState} {t':Nat} {d':Drawn} {ch:List Addr} (I:Inv X pins σ H s) (u:Un (frs X.stack) ch H H' s.heap h') (hok:jO X.prog X.w H' h') (hg:AllBare g')
  (hch:∀ b ∈ ch,(b ∈ X.ex∨X.s₀.heap.objs.size ≤ b)∧b ≠ X.env.locals∧(∀ x c,X.env.cells.lookup x=some c→c ≠ b)∧∀ p ∈ X.pn ++ pins,p.1 ≠ b) :
  Inv X pins σ H' { s with heap:=h',gens:=g',drawn:=d',toks:=t' }:=by
 obtain ⟨m,⟨o,es,ep,ho,r⟩,_⟩:=id I.loc
 obtain ⟨sl,hL⟩:=u.any ho I.free fun z=>(hch _ z).2.1 rfl
 exact I.step (ch:=ch) hch (fun b o hL hb hc e n=>u.keep b o e n (fun z=>(List.mem_cons.mp (I.vM b z)).elim hL hb) hc) (fun b o _ _ hc e n=>u.any e n hc) (fun b o hc e n=>u.free b o e n hc) (fun b o hc e=>u.there b o e hc) u.tups u.rL u.uD (fun m' hm=>by
  obtain ⟨o',es',ep',ho',r'⟩:=hm
  rw [ho] at ho'; cases ho'
  exact ⟨_,es',ep',hL,r'⟩) hok hg
theorem Inv.turned {t':Nat} {it:Addr} (I:Inv X pins σ H s) (k:∀ b o,b ≠ it→s.heap.get? b=some o→h'.get? b=some o) (hn:H it=none) (hL:it ≠ X.env.locals)
  (h1:it ∈ X.ex∨X.s₀.heap.objs.size ≤ it) (h2:∀ x c,X.env.cells.lookup x=some c→c ≠ it) (h3:∀ p ∈ X.pn ++ pins,p.1 ≠ it):Inv X pins σ H { s with heap:=h',toks:=t' }:=by
 have Im:∀ b u,H b=some u→b ≠ it:=fun b u e z=>by rw [z,hn] at e; cases e
 refine I.step (g':=s.gens) (d':=s.drawn) (ch:=[it]) (fun b hb=>?_) (fun b o _ _ hc e _=>k b o (fun z=>hc (by simp [z])) e) (fun b o _ _ hc e _=>⟨o.slots,k b o (fun z=>hc (by simp [z])) e⟩) (fun _ _ _ _ n=>n)
  (fun b o hc e=>⟨o,k b o (fun z=>hc (by simp [z])) e⟩) (fun _ _ e=>e) (fun _ _ _ e=>e) (fun b ps e=>⟨#[],by rw [e]; simp⟩) (fun m hm=>?_) (fun b u e=>?_) I.bare
 ·have e:b=it:=by simpa using hb
  subst e
  exact ⟨h1,hL,h2,h3⟩
 ·obtain ⟨o,es,ep,ho,r⟩:=hm
  exact ⟨o,es,ep,k _ o (Ne.symm hL) ho,r⟩
 ·refine (I.hok b u e).stay (fun c v hc q=>k c v ?_ q) (fun _ q=>q) fun _ _ q=>q
  rcases hc with z | z
  ·rw [z]; exact Im b u e
  ·exact Im c _ z
theorem Inv.tok (I:Inv X pins σ H s) (t:Nat):Inv X pins σ H { s with toks:=t }:=I.un (h':=s.heap) (t':=t) Un.refl I.hok
theorem Inv.kept {t':Nat} (I:Inv X pins σ H s) (k:∀ b u,s.heap.get? b=some u→h'.get? b=some u):Inv X pins σ H { s with heap:=h',toks:=t' }:=I.un (Un.kept k) (I.hok.kept k)
theorem Inv.laid {a:Addr} {o:HO} {t':Nat} (I:Inv X pins σ H s) (k:∀ b u,s.heap.get? b=some u→h'.get? b=some u) (hp:s.heap.objs.size ≤ a) (new:cv X.prog X.w (upd H a o) h' a o) :
  Inv X pins σ (upd H a o) { s with heap:=h',toks:=t' }:=I.un (Un.laid k hp (I.hok.fresh hp)) (I.hok.laid k hp new)
theorem Inv.write {x e:Addr} {o:HO} {t':Nat} (I:Inv X pins σ H s) (mu:L8 (H x)) (he:e=x∨H e=some (.own x)) (k:∀ b u,b ≠ e→s.heap.get? b=some u→h'.get? b=some u) (heo:∃ u,h'.get? e=some u)
  (new:cv X.prog X.w (upd H x o) h' x o):Inv X pins σ (upd H x o) { s with heap:=h',toks:=t' }:=I.un (Un.write mu he k heo) (I.hok.write mu he k heo new)
theorem Inv.yn {Io:List (Addr × Obj)} (I:Inv X pins σ H s) (h:∀ p ∈ Io,s.heap.get? p.1=some p.2∧H p.1=none∧p.1 ≠ X.env.locals∧p.1 ∉ X.fs∧∀ v,p.2.data ≠ .cell v):Inv X Io σ H s :=
 ⟨I.ok,I.os,I.bare,I.base,I.loc,I.cell,I.free,I.jF,fun p hp=>(List.mem_append.mp hp).elim (fun z=>I.pin p (List.mem_append_left _ z)) (h p),I.hok,I.len⟩
theorem uE {N:List Str} (hN:N.Nodup) {i j:Nat} {x:Str} (a:N[i]? = some x) (b:N[j]? = some x):i=j:=by
 obtain ⟨h1,e1⟩:=List.getElem?_eq_some_iff.mp a
 obtain ⟨h2,e2⟩:=List.getElem?_eq_some_iff.mp b
 exact (List.getElem_inj hN).mp (e1.trans e2.symm)
theorem qK {M:Model} {A:Around} {E:Value→Shared→Prop} {i:Nat} {x:Str} {v:V} {u:Value} {Q:Unit→Shared→Prop} (I:Inv X pins σ H s) (hN:X.N.Nodup) (hi:X.N[i]? = some x) (hx:Loc X.env.scope x) (r:RelV v u)
  (h:∀ s',Inv X pins (σ.set i (some v)) H s'→(∃ a,Heap.SameBut a s.heap s'.heap∧(a=X.env.locals∨X.env.cells.lookup x=some a))→Q () s') (hf:X.fn x=true∨X.env.scope.names.lookup x=some .local:=by first | exact .inl rfl | exact .inr rfl | assumption):wpAny M A (storeName X.env x u) Q E s:=by
 obtain ⟨m,hn,hl⟩:=id I.loc
 have hcls:(X.env.scope.kind == .class || (X.env.scope.kind == .module && X.env.locals != X.env.globals))=false:=by rw [I.ok.kind]; rfl
 have hiσ:i < σ.length:=by rw [I.len]; exact (List.getElem?_eq_some_iff.mp hi).1
 have Ju:=I.Ju
 have tracked:∀ {a:Addr} {h':Heap},(∃ o,s.heap.get? a=some o∧H a=none)→Heap.SameBut a s.heap h'→jO X.prog X.w H h':=fun {a h'} ha hs b ob e=>by
  obtain ⟨_,_,hfree⟩:=ha
  refine (I.hok b ob e).stay (fun c w' hc q=>(hs.2 c ?_).trans q) (fun _ q=>q) fun _ _ q=>q
  rintro rfl
  rcases hc with rfl | hc
  ·rw [hfree] at e; cases e
  ·rw [hfree] at hc; cases hc
 rcases hx with hk | hk
 ·refine wpAny_storeName_local hk hn (fun h' hn' hs=>?_) hcls
  obtain ⟨oL,_,_,hoL,_⟩:=id hn
  refine h _ ⟨I.ok,I.os,I.bare,⟨fun b o e n hb hx=>?_,fun b o e n hb hx=>?_,I.base.free,fun b o e hx=>?_,I.base.tups,I.base.rL,I.base.uD⟩,⟨_,hn',fun j y v' e1 e2 e3=>?_⟩,fun y c e=>?_,I.free,I.jF,fun p hp=>?_,tracked ⟨oL,hoL,I.free⟩ hs,by simpa using I.len⟩ ⟨_,hs,.inl rfl⟩
  ·exact (hs.2 b (Nat.ne_of_lt (Nat.lt_of_lt_of_le (Heap.lt_size e) I.ok.above))).trans (I.base.keep b o e n hb hx)
  ·obtain ⟨sl,e1⟩:=I.base.slot b o e n hb hx
   exact ⟨sl,(hs.2 b (Nat.ne_of_lt (Nat.lt_of_lt_of_le (Heap.lt_size e) I.ok.above))).trans e1⟩
  ·obtain ⟨o',e1⟩:=I.base.there b o e hx
   exact ⟨o',(hs.2 b (Nat.ne_of_lt (Nat.lt_of_lt_of_le (Heap.lt_size e) I.ok.above))).trans e1⟩
  ·by_cases hj:j=i
   ·subst hj
    rw [hi] at e1; cases e1
    rw [List.getElem?_set_self hiσ] at e2
    cases e2
    exact ⟨u,r,.inl ⟨hk,by simp⟩⟩
   ·rw [List.getElem?_set_ne (Ne.symm hj)] at e2
    obtain ⟨u',r',q⟩:=hl j y v' e1 e2 e3
    refine ⟨u',r',?_⟩
    rcases q with ⟨k,e⟩ | ⟨k,c,e,z⟩
    ·refine .inl ⟨k,?_⟩
     have:y ≠ x:=fun e=>hj (uE hN e1 (e ▸ hi))
     simp [this,e]
    ·exact .inr ⟨k,c,e,z.sameBut hs (Ju y c e)⟩
  ·obtain ⟨w',z⟩:=I.cell y c e
   exact ⟨w',z.sameBut hs (Ju y c e)⟩
  ·obtain ⟨e,n,ne,nf,d⟩:=I.pin p hp
   exact ⟨(hs.2 p.1 ne).trans e,n,ne,nf,d⟩
 ·have hfn:X.fn x=true:=by
   rcases hf with z | z
   ·exact z
   ·rw [z] at hk; cases hk
  obtain ⟨c,hc⟩:=I.ok.has x (.inl hk)
  obtain ⟨w',z⟩:=I.cell x c hc
  refine wpAny_storeName_cell I.ok.kind hk hc z (fun h' hc' hs=>?_)
  obtain ⟨oc,hoc,Rv⟩:=id z
  refine h { s with heap:=h' } ⟨I.ok,I.os,I.bare,⟨fun b o e n hb hx=>?_,fun b o e n hb hx=>?_,I.base.free,fun b o e hx=>?_,I.base.tups,I.base.rL,I.base.uD⟩,⟨m,hn.sameBut hs (Ne.symm (Ju x c hc)),fun j y v' e1 e2 e3=>?_⟩,fun y c' e=>?_,I.free,I.jF,fun p hp=>?_,tracked ⟨oc,hoc,I.jF x c hc⟩ hs,by simpa using I.len⟩ ⟨c,hs,.inr hc⟩
  ·exact (hs.2 b (Nat.ne_of_lt (Nat.lt_of_lt_of_le (Heap.lt_size e) (I.ok.cab x c hfn hc)))).trans (I.base.keep b o e n hb hx)
  ·obtain ⟨sl,e1⟩:=I.base.slot b o e n hb hx
   exact ⟨sl,(hs.2 b (Nat.ne_of_lt (Nat.lt_of_lt_of_le (Heap.lt_size e) (I.ok.cab x c hfn hc)))).trans e1⟩
  ·obtain ⟨o',e1⟩:=I.base.there b o e hx
   exact ⟨o',(hs.2 b (Nat.ne_of_lt (Nat.lt_of_lt_of_le (Heap.lt_size e) (I.ok.cab x c hfn hc)))).trans e1⟩
  ·by_cases hj:j=i
   ·subst hj
    rw [hi] at e1; cases e1
    rw [List.getElem?_set_self hiσ] at e2
    cases e2
    exact ⟨u,r,.inr ⟨.inl hk,c,hc,hc'⟩⟩
   ·rw [List.getElem?_set_ne (Ne.symm hj)] at e2
    obtain ⟨u',r',q⟩:=hl j y v' e1 e2 e3
    refine ⟨u',r',?_⟩
    rcases q with q | ⟨k,c',e,z'⟩
    ·exact .inl q
    ·refine .inr ⟨k,c',e,z'.sameBut hs ?_⟩
     rintro rfl
     exact hj (uE hN e1 (I.ok.inj _ _ _ e hc ▸ hi))
  ·by_cases hcc:c'=c
   ·subst hcc; exact ⟨_,hc'⟩
   ·obtain ⟨w2,z2⟩:=I.cell y c' e
    exact ⟨w2,z2.sameBut hs hcc⟩
  ·obtain ⟨e,n,ne,nf,d⟩:=I.pin p hp
   refine ⟨(hs.2 p.1 ?_).trans e,n,ne,nf,d⟩
   intro q
   rw [q,hoc] at e
   have q':oc=p.2:=Option.some.inj e
   exact d w' (by rw [← q']; exact Rv)
theorem uF {M:Model} {A:Around} {E:Value→Shared→Prop} {i:Nat} {x:Str} {v:V} {u:Value} {Q:Unit→Shared→Prop} (I:Inv X pins σ H s) (hN:X.N.Nodup) (hi:X.N[i]? = some x) (hx:Loc X.env.scope x) (r:RelV v u)
  (h:∀ s',Inv X pins (σ.set i (some v)) H s'→Q () s') (hf:X.fn x=true∨X.env.scope.names.lookup x=some .local:=by first | exact .inl rfl | exact .inr rfl | assumption):wpAny M A (storeName X.env x u) Q E s :=
 qK I hN hi hx r (fun s' I' _=>h s' I') hf
theorem Inv.call' {s':Shared} {ch:List Addr} (I:Inv X pins σ H s) (ho:s'.os=s.os) (u:Un (frs X.stack) ch H H' s.heap s'.heap) (hok:jO X.prog X.w H' s'.heap) (hg:AllBare s'.gens)
  (hch:∀ b ∈ ch,(b ∈ X.ex∨X.s₀.heap.objs.size ≤ b)∧b ≠ X.env.locals∧(∀ x c,X.env.cells.lookup x=some c→c ≠ b)∧∀ p ∈ X.pn ++ pins,p.1 ≠ b):Inv X pins σ H' s':=by
 obtain ⟨h',g',d',t',o'⟩:=s'
 have e:o'=s.os:=ho
 subst e
 exact I.call (g':=g') (t':=t') (d':=d') u hok hg hch
end
abbrev XK:=Value→Option Addr→Hp→Prop
abbrev St:=List (Option V)
abbrev VK:=V→Hp→Prop
abbrev TE:=St→Hp→VK→Prop
abbrev TT:=St→Hp→(Bool→Hp→Prop)→Prop
abbrev TA:=St→Hp→(List V→Hp→Prop)→Prop
structure Ends where
 nx:St→Hp→Prop
 rt:VK
 bk:St→Hp→Prop:=fun _ _=>False
 ct:St→Hp→Prop:=fun _ _=>False
abbrev TS:=Ends→St→Hp→Prop
def EP (X:Cx) (pins:List (Addr × Obj)) (σ:St) (Q:VK) (u:Value) (s':Shared):Prop:=∃ v H',Inv X pins σ H' s'∧RelV v u∧Q v H'
def TP (X:Cx) (pins:List (Addr × Obj)) (σ:St) (Q:Bool→Hp→Prop) (b:Bool) (s':Shared):Prop:=∃ H',Inv X pins σ H' s'∧Q b H'
def AP (X:Cx) (pins:List (Addr × Obj)) (σ:St) (Q:List V→Hp→Prop) (us:List Value) (s':Shared):Prop:=∃ vs H',Inv X pins σ H' s'∧Vals vs us∧Q vs H'
def SP (X:Cx) (pins:List (Addr × Obj)) (D:Ends) (f:Flow) (s':Shared):Prop :=
 match f with
 | .next=>∃ σ' H',Inv X pins σ' H' s'∧D.nx σ' H'
 | .brk=>∃ σ' H',Inv X pins σ' H' s'∧D.bk σ' H'
 | .cont=>∃ σ' H',Inv X pins σ' H' s'∧D.ct σ' H'
 | .ret u=>∃ v σ' H',Inv X pins σ' H' s'∧RelV v u∧D.rt v H'
def PE (X:Cx) (e:Expr) (t:TE):Prop :=
 ∀ (pins:List (Addr × Obj)) (s:Shared) (σ:St) (H:Hp) (Q:VK),Inv X pins σ H s→t σ H Q→wpAny (model X.prog X.w) X.A (eval e X.env) (EP X pins σ Q) X.xe s
def PT (X:Cx) (e:Expr) (t:TT):Prop :=
 ∀ (pins:List (Addr × Obj)) (s:Shared) (σ:St) (H:Hp) (Q:Bool→Hp→Prop),Inv X pins σ H s→t σ H Q→wpAny (model X.prog X.w) X.A (isTrue e X.env (eval e X.env)) (TP X pins σ Q) X.xe s
def PW (X:Cx) (e:Expr) (t:TT):Prop :=
 ∀ (whole:Sem Value) (pins:List (Addr × Obj)) (s:Shared) (σ:St) (H:Hp) (Q:Bool→Hp→Prop),Inv X pins σ H s→t σ H Q→wpAny (model X.prog X.w) X.A (isTrue e X.env whole) (TP X pins σ Q) X.xe s
theorem PW.pt {X:Cx} {e:Expr} {t:TT} (h:PW X e t):PT X e t:=h _
def PA (X:Cx) (es:List Expr) (t:TA):Prop :=
 ∀ (pos:Pos) (pins:List (Addr × Obj)) (s:Shared) (σ:St) (H:Hp) (Q:List V→Hp→Prop),Inv X pins σ H s→t σ H Q→wpAny (model X.prog X.w) X.A (spliced (backTo pos (starEach es X.env))) (AP X pins σ Q) X.xe s
def PS (X:Cx) (st:Stmt) (t:TS):Prop :=
 ∀ (pins:List (Addr × Obj)) (s:Shared) (σ:St) (H:Hp) (D:Ends),Inv X pins σ H s→t D σ H→wpAny (model X.prog X.w) X.A (exec st X.env) (SP X pins D) X.xe s
def rN (X:Cx) (st:List Stmt) (t:TS):Prop :=
 ∀ (pins:List (Addr × Obj)) (s:Shared) (σ:St) (H:Hp) (D:Ends),Inv X pins σ H s→t D σ H→wpAny (model X.prog X.w) X.A (execs st X.env) (SP X pins D) X.xe s
theorem cC {α:Type} {t:Sem α} {Q Q':α→Shared→Prop} {M:Model} {A:Around} {E:Value→Shared→Prop} {s:Shared} (h:wpAny M A t Q E s) (hQ:∀ a s,Q a s→Q' a s):wpAny M A t Q' E s:=wpAny_mono h hQ fun _ _ x=>x
section
variable {X:Cx}
def Jv (i:Nat):TE:=fun σ H Q=>∃ v,σ[i]? = some (some v)∧Q v H
def tC (v:V):TE:=fun _ H Q=>Q v H
theorem Jw {i:Nat} {x:Str} {pos:Pos} (hN:X.N[i]? = some x) (hv:Rq X.env.scope x) (hd:(x == ("__debug__" : Str))=false:=by decide) (hcd:(x == ("__classdict__" : Str))=false:=by decide):PE X (.Name x pos) (Jv i):=by
 intro pins s σ H Q I h
 obtain ⟨v,e,h⟩:=h
 obtain ⟨m,hn,hl⟩:=I.loc
 obtain ⟨u,r,l⟩:=hl i x v hN e hv
 have fin:EP X pins σ Q u s:=⟨v,H,I,r,h⟩
 rcases l with ⟨hk,hm⟩ | ⟨hk,c,hc,hcell⟩
 ·exact wpAny_Name (wpAny_loadName_local I.ok.kind hk hn hm fin) hd
 ·rcases hk with hk | hk
  ·exact wpAny_Name (wpAny_loadName_cell I.ok.kind hk hc hcell fin) hd
  ·exact wpAny_Name (wpAny_loadName_free I.ok.kind hk hc hcell fin hcd) hd
theorem ao {i j pos}:PE X (.Constant (.int i) j pos) (tC (.int i)):=fun _ _ _ H _ I h=>wpAny_Constant_int ⟨.int i,H,I.tok _,⟨_,rfl⟩,h⟩
theorem jG {b j pos}:PE X (.Constant (.bool b) j pos) (tC (.bl b)):=fun _ _ _ H _ I h=>Constant_bool ⟨.bl b,H,I,rfl,h⟩
theorem gS {j pos}:PE X (.Constant .none j pos) (tC .non):=fun _ _ _ H _ I h=>Constant_none ⟨.non,H,I,rfl,h⟩
theorem ay {x j pos}:PE X (.Constant (.str x) j pos) (tC (.str x)):=fun _ _ _ H _ I h=>Calls.Constant_str ⟨.str x,H,I.tok _,⟨_,rfl⟩,h⟩
def Gl (X:Cx) (x:Str):Prop:=X.env.kindOf x=some .globalImplicit
theorem rO {E:Value→Shared→Prop} {pins:List (Addr × Obj)} {s:Shared} {σ:St} {H:Hp} {x:Str} {u:Value} {pos:Pos} {Q:Value→Shared→Prop} (I:Inv X pins σ H s) (hg:Gl X x) (hm:X.mg x=some u) (h:Q u s)
  (hd:(x == ("__debug__" : Str))=false:=by decide):wpAny (model X.prog X.w) X.A (eval (.Name x pos) X.env) Q E s :=
 Calls.Name_function_global I.ok.kind hg (Calls.loadGlobal_global (by rw [I.ok.glob]; exact I.mod.glob.keeps I.bk) hm h) hd
theorem jP {E:Value→Shared→Prop} {pins:List (Addr × Obj)} {s:Shared} {σ:St} {H:Hp} {x:Str} {u:Value} {pos:Pos} {Q:Value→Shared→Prop} (I:Inv X pins σ H s) (hg:Gl X x) (hm:X.mg x=none) (hv:bootBuiltins x=some u) (h:Q u s)
  (hn:x ≠ "__name__" := by decide) (hd:(x == ("__debug__" : Str))=false:=by decide):wpAny (model X.prog X.w) X.A (eval (.Name x pos) X.env) Q E s:=by
 obtain ⟨mb,h1,h2⟩:=I.mod.blt
 exact Calls.Name_function_global I.ok.kind hg (Calls.loadGlobal_builtin (by rw [I.ok.glob]; exact I.mod.glob.keeps I.bk) hm (by rw [I.ok.blt]; exact h1.keeps I.bk) ((h2 x hn).trans hv) h) hd
theorem dB {x:Str} {v:V} {u:Value} {pos:Pos} (hg:Gl X x) (hm:X.mg x=some u) (r:RelV v u) (hd:(x == ("__debug__" : Str))=false:=by decide):PE X (.Name x pos) (tC v) :=
 fun _ _ _ H _ I h=>rO I hg hm ⟨v,H,I,r,h⟩ hd
theorem gN {x:Str} {v:V} {u:Value} {pos:Pos} (hg:Gl X x) (hm:X.mg x=none) (hv:bootBuiltins x=some u) (r:RelV v u) (hn:x ≠ "__name__" := by decide) (hd:(x == ("__debug__" : Str))=false:=by decide):PE X (.Name x pos) (tC v) :=
 fun _ _ _ H _ I h=>jP I hg hm hv ⟨v,H,I,r,h⟩ hn hd
variable {a b:Expr} {ta tb:TE} {pos:Pos}
def PC (X:Cx) (op:CmpOp) (a b:Expr) (t:TE):Prop :=
 ∀ (pins:List (Addr × Obj)) (s:Shared) (σ:St) (H:Hp) (Q:VK),Inv X pins σ H s→t σ H Q →
  wpAny (model X.prog X.w) X.A (eval a X.env) (fun v s₁=>wpAny (model X.prog X.w) X.A (eval b X.env) (fun u s₂=>wpAny (model X.prog X.w) X.A (compareOp op v u) (EP X pins σ Q) X.xe s₂) X.xe s₁) X.xe s
def tB (t:TE):TT:=fun σ H Q=>t σ H fun x H1=>∃ c,x=.bl c∧Q c H1
theorem BQ {op:CmpOp} {t:TE} (h:PC X op a b t) (h1:behindInMarks op b=false:=by first | exact BR _ (by decide) (by decide) | rfl):PE X (.Compare a [op] [b] pos) t:=fun pins s σ H Q I hw=>wpAny_Compare1 (h pins s σ H Q I hw) h1
theorem BU {op:CmpOp} {t:TE} (h:PC X op a b t) (h1:behindInMarks op b=false:=by first | exact BR _ (by decide) (by decide) | rfl):PT X (.Compare a [op] [b] pos) (tB t):=by
 intro pins s σ H Q I hw
 refine wpAny_isTrue_Compare1 (cC (h pins s σ H _ I hw) fun v s1 h1=>cC h1 fun u s2 h2=>cC h2 fun c s3 ⟨x,H1,I1,r1,q1⟩=>?_) h1
 obtain ⟨d,rfl,q⟩:=q1
 cases r1
 exact wpAny_truthy_bool ⟨H1,I1,q⟩
theorem gE {e:Expr} {t:TE} (h:PE X e t) (he:∀ whole,isTrue e X.env whole=(do let v ← whole; standAt e.pos; holding [v] (truthy v)):=by intro _; rfl):PT X e (tB t):=by
 intro pins s σ H Q I hw
 refine isTrue_plain (cC (h pins s σ H _ I hw) fun v s1 ⟨x,H1,I1,r1,q1⟩=>?_) (he _)
 obtain ⟨d,rfl,q⟩:=q1
 cases r1
 exact wpAny_truthy_bool ⟨H1,I1,q⟩
variable {tA QM:TT} {rest:List Expr}
def Rx (t u:TT):TT:=fun σ H Q=>t σ H fun c H1=>if c=true then u σ H1 Q else Q false H1
def tOr (t u:TT):TT:=fun σ H Q=>t σ H fun c H1=>if c=true then Q true H1 else u σ H1 Q
def Ry (t:TT):TT:=fun σ H Q=>t σ H fun c H1=>Q (!c) H1
theorem j4 (ha:PT X a tA):PW X (.BoolOp .And [a] pos) tA:=by
 intro wh pins s σ H Q I h
 refine isTrue_and (cC (ha pins s σ H Q I h) fun c s1 e=>?_)
 cases c with
 | true=>exact isTrue_and_nil e
 | false=>exact e
theorem jQ (ha:PT X a tA):PW X (.BoolOp .Or [a] pos) tA:=by
 intro wh pins s σ H Q I h
 refine isTrue_or (cC (ha pins s σ H Q I h) fun c s1 e=>?_)
 cases c with
 | false=>exact isTrue_or_nil e
 | true=>exact e
theorem jR (ha:PT X a tA) (hb:PW X (.BoolOp .And (b :: rest) pos) QM):PW X (.BoolOp .And (a :: b :: rest) pos) (Rx tA QM):=by
 intro wh pins s σ H Q I h
 refine isTrue_and (cC (ha pins s σ H _ I h) fun c s1 ⟨H1,I1,q1⟩=>?_)
 cases c with
 | true=>exact hb wh pins s1 σ H1 Q I1 q1
 | false=>exact ⟨H1,I1,q1⟩
theorem nZ (ha:PT X a tA) (hb:PW X (.BoolOp .Or (b :: rest) pos) QM):PW X (.BoolOp .Or (a :: b :: rest) pos) (tOr tA QM):=by
 intro wh pins s σ H Q I h
 refine isTrue_or (cC (ha pins s σ H _ I h) fun c s1 ⟨H1,I1,q1⟩=>?_)
 cases c with
 | true=>exact ⟨H1,I1,q1⟩
 | false=>exact hb wh pins s1 σ H1 Q I1 q1
theorem iy (ha:PT X a tA):PT X (.UnaryOp .Not a pos) (Ry tA):=by
 intro pins s σ H Q I h
 exact isTrue_not (ha pins s σ H (fun c H1=>Q (!c) H1) I h)
def Mf (ta tb:TE):TE:=fun σ H Q=>ta σ H fun x H1=>∃ c,x=.bl c∧if c=true then tb σ H1 Q else Q (.bl false) H1
def Mg (ta:TE):TE:=fun σ H Q=>ta σ H fun x H1=>∃ c,x=.bl c∧Q (.bl (!c)) H1
theorem iL {op} {t:TE} (h:PE X a t):PE X (.BoolOp op [a] pos) t:=fun pins s σ H Q I hw=>BoolOp_one (h pins s σ H Q I hw)
theorem gT (ha:PE X a ta) (hb:PE X (.BoolOp .And (b :: rest) pos) tb):PE X (.BoolOp .And (a :: b :: rest) pos) (Mf ta tb):=by
 intro pins s σ H Q I h
 refine BoolOp_and (cC (ha pins s σ H _ I h) fun v s1 ⟨x,H1,I1,r1,q1⟩=>?_)
 obtain ⟨c,rfl,q1⟩:=q1
 cases r1
 refine wpAny_truthy_bool ?_
 cases c with
 | true=>exact hb pins s1 σ H1 Q I1 q1
 | false=>exact ⟨.bl false,H1,I1,rfl,q1⟩
theorem Jx (ha:PE X a ta):PE X (.UnaryOp .Not a pos) (Mg ta):=by
 intro pins s σ H Q I h
 refine UnaryOp_ (cC (ha pins s σ H _ I h) fun v s1 ⟨x,H1,I1,r1,q1⟩=>?_)
 obtain ⟨c,rfl,q1⟩:=q1
 cases r1
 exact not_of (wpAny_truthy_bool ⟨.bl (!c),H1,I1,rfl,q1⟩)
def tIf (t:TT) (ta tb:TE):TE:=fun σ H Q=>t σ H fun c H1=>if c=true then ta σ H1 Q else tb σ H1 Q
theorem uG {c:Expr} (hc:PT X c tA) (ha:PE X a ta) (hb:PE X b tb):PE X (.IfExp c a b pos) (tIf tA ta tb):=by
 intro pins s σ H Q I h
 refine wpAny_IfExp (cC (hc pins s σ H _ I h) fun d s1 ⟨H1,I1,q1⟩=>?_)
 cases d with
 | true=>exact ha pins s1 σ H1 Q I1 q1
 | false=>exact hb pins s1 σ H1 Q I1 q1
end
def aZ (K:PySem.W.Frag) (H:Hp) (a:Addr) (xs:List V):Prop :=
 Rd H a (.lst xs) ∨
  ∃ (o:Obj) (its:Array Value) (n:Nat),K.lookup a=some o∧o.cls=.type "list" ∧ o.dict=none∧o.data=.seq its n∧its.size ≤ sizeLine∧Vals xs its.toList
def bp (K:PySem.W.Frag) (H:Hp) (a:Addr) (xs:List V):Prop :=
 Rd H a (.tup xs) ∨
  ∃ (o:Obj) (its:Array Value) (n:Nat),K.lookup a=some o∧o.cls=.type "tuple" ∧ o.data=.seq its n∧its.size ≤ sizeLine∧Vals xs its.toList
def Rz:Value→Option V
 | .none=>some .non
 | .bool b=>some (.bl b)
 | .int i _=>some (.int i)
 | .str x _=>some (.str x)
 | .bytes b _=>some (.BG b)
 | .float b _=>some (.flt b)
 | .ref a=>some (.ref a)
 | .type n=>some (.ty n)
 | _=>none
theorem RelV.abs {x:V} {u:Value} (r:RelV x u):Rz u=some x:=by
 cases x with
 | non=>cases r; rfl
 | bl _=>cases r; rfl
 | int _=>obtain ⟨t,rfl⟩:=r; rfl
 | str _=>obtain ⟨t,rfl⟩:=r; rfl
 | BG _=>obtain ⟨t,rfl⟩:=r; rfl
 | flt _=>obtain ⟨t,rfl⟩:=r; rfl
 | ref _=>cases r; rfl
 | ty _=>cases r; rfl
theorem RelV.inj {x y:V} {u:Value} (r:RelV x u) (q:RelV y u):x=y:=Option.some.inj (r.abs.symm.trans q.abs)
theorem Vals.inj:∀ {xs ys:List V} {us:List Value},Vals xs us→Vals ys us→xs=ys
 | _,_,_,.nil,.nil=>rfl
 | _,_,_,.cons r t,.cons r' t'=>by rw [r.inj r',Vals.inj t t']
section
variable {X:Cx} {pins:List (Addr × Obj)} {σ:St} {H:Hp} {s:Shared} {a:Addr} {xs ys:List V}
theorem aZ.of {K:PySem.W.Frag} (h:H a=some (.lst xs)):aZ K H a xs:=.inl (.inl h)
theorem bp.of {K:PySem.W.Frag} (h:H a=some (.tup xs)):bp K H a xs:=.inl (.inl h)
theorem Inv.list (I:Inv X pins σ H s) (h:aZ X.K H a xs):∃ its:List Value,Vals xs its∧PlainL s.heap a its.toArray∧xs.length ≤ sizeLine:=by
 rcases h with h | ⟨o,its,n,hk,hc,hd,hs,hz,r⟩
 ·obtain ⟨z,its,n,r,e⟩:=h.ok I.hok
  exact ⟨its,r,⟨_,n,e,rfl,rfl,rfl⟩,z⟩
 ·refine ⟨its.toList,r,⟨o,n,I.lq a o hk,hc,hd,by simpa using hs⟩,?_⟩
  have e:=r.length
  simp only [Array.length_toList] at e
  omega
theorem Inv.tuple (I:Inv X pins σ H s) (h:bp X.K H a xs):∃ its:List Value,Vals xs its∧IsTup s.heap a its.toArray∧xs.length ≤ sizeLine:=by
 rcases h with h | ⟨o,its,n,hk,hc,hs,hz,r⟩
 ·obtain ⟨z,its,r,p⟩:=h.ok I.hok
  exact ⟨its,r,p,z⟩
 ·refine ⟨its.toList,r,⟨o,I.lq a o hk,hc,n,by simpa using hs⟩,?_⟩
  have e:=r.length
  simp only [Array.length_toList] at e
  omega
theorem Inv.n9 (I:Inv X pins σ H s) (h:aZ X.K H a xs) (h':aZ X.K H a ys):xs=ys:=by
 obtain ⟨its,r,⟨o,n,e,_,_,d⟩,_⟩:=I.list h
 obtain ⟨its',r',⟨o',n',e',_,_,d'⟩,_⟩:=I.list h'
 rw [e] at e'; cases e'
 rw [d] at d'
 injection d' with d1 _
 have:its=its':=by simpa using congrArg Array.toList d1
 subst this
 exact r.inj r'
theorem Inv.ja (I:Inv X pins σ H s) (h:bp X.K H a xs) (h':bp X.K H a ys):xs=ys:=by
 obtain ⟨its,r,⟨o,e,_,n,d⟩,_⟩:=I.tuple h
 obtain ⟨its',r',⟨o',e',_,n',d'⟩,_⟩:=I.tuple h'
 rw [e] at e'; cases e'
 rw [d] at d'
 injection d' with d1 _
 have:its=its':=by simpa using congrArg Array.toList d1
 subst this
 exact r.inj r'
end
abbrev Cx.wish (X:Cx) (E:Value→Shared→Prop):Cx:={ X with xe:=E }
abbrev Cx.QN (X:Cx):Cx:=X.wish fun _ _=>False
theorem Cx.Ok.wish {X:Cx} (ok:X.Ok) (E:Value→Shared→Prop):(X.wish E).Ok :=
 ⟨ok.mod,ok.kind,ok.glob,ok.blt,ok.above,ok.inj,ok.has,ok.cab,ok.hd,ok.frames,ok.stk,ok.Rr,ok.bs,ok.Fd,ok.BO,ok.BP,ok.mr,ok.Jt⟩
theorem Cx.Ok.iM {X:Cx} {E:Value→Shared→Prop} (ok:(X.wish E).Ok):X.Ok :=
 ⟨ok.mod,ok.kind,ok.glob,ok.blt,ok.above,ok.inj,ok.has,ok.cab,ok.hd,ok.frames,ok.stk,ok.Rr,ok.bs,ok.Fd,ok.BO,ok.BP,ok.mr,ok.Jt⟩
section
variable {X:Cx} {pins:List (Addr × Obj)} {σ:St} {H:Hp} {s:Shared} {E:Value→Shared→Prop}
theorem Inv.wish (I:Inv X pins σ H s) (E:Value→Shared→Prop):Inv (X.wish E) pins σ H s:=⟨I.ok.wish E,I.os,I.bare,I.base,I.loc,I.cell,I.free,I.jF,I.pin,I.hok,I.len⟩
theorem Inv.iM (I:Inv (X.wish E) pins σ H s):Inv X pins σ H s:=⟨I.ok.iM,I.os,I.bare,I.base,I.loc,I.cell,I.free,I.jF,I.pin,I.hok,I.len⟩
theorem SP.iM {D:Ends} {f:Flow} {s':Shared} (h:SP (X.wish E) pins D f s'):SP X pins D f s':=by
 cases f with
 | next=>obtain ⟨σ',H',I,q⟩:=h; exact ⟨σ',H',I.iM,q⟩
 | brk=>obtain ⟨σ',H',I,q⟩:=h; exact ⟨σ',H',I.iM,q⟩
 | cont=>obtain ⟨σ',H',I,q⟩:=h; exact ⟨σ',H',I.iM,q⟩
 | ret u=>obtain ⟨v,σ',H',I,r,q⟩:=h; exact ⟨v,σ',H',I.iM,r,q⟩
theorem rN.QN {st:List Stmt} {t:TS} (h:rN X.QN st t):rN X st t:=fun pins s σ H D I hw =>
 wpAny_mono (h pins s σ H D (I.wish _) hw) (fun _ _ q=>q.iM) fun _ _ z=>False.elim z
end
section
variable {X:Cx} {st:Stmt} {rest:List Stmt} {t u:TS} {e:Expr} {te:TE} {pos:Pos}
def Mh:TS:=fun D σ H=>D.nx σ H
def Jy (t u:TS):TS:=fun D σ H=>t { D with nx:=u D } σ H
theorem aU:rN X [] Mh:=fun _ _ σ H _ I h=>wpAny_execs_nil ⟨σ,H,I,h⟩
theorem aH (h1:PS X st t) (h2:rN X rest u):rN X (st :: rest) (Jy t u):=by
 intro pins s σ H D I h
 refine wpAny_execs_cons (cC (h1 pins s σ H { D with nx:=u D } I h) fun f s1 q=>?_)
 cases f with
 | next =>
  obtain ⟨σ',H',I',q⟩:=q
  exact h2 pins s1 σ' H' D I' q
 | ret v=>exact q
 | brk=>exact q
 | cont=>exact q
theorem az (h1:PS X st t):rN X [st] t:=by
 intro pins s σ H D I h
 refine wpAny_execs_cons (cC (h1 pins s σ H D I h) fun f s1 q=>?_)
 cases f with
 | next=>exact wpAny_execs_nil q
 | ret v=>exact q
 | brk=>exact q
 | cont=>exact q
theorem Inv.quiet {pins:List (Addr × Obj)} {σ:St} {H:Hp} {s:Shared} (I:Inv X pins σ H s):interactive X.env=false:=by simp [interactive,I.ok.kind]
def Mi (te:TE):TS:=fun D σ H=>te σ H fun _ H1=>D.nx σ H1
theorem bZ (he:PE X e te) (hs:swapsWith e none pos.line X.env=pure false:=by rfl):PS X (.Expr e pos) (Mi te):=by
 intro pins s σ H D I h
 exact wpAny_Expr_any (cC (he pins s σ H _ I h) fun v s1 ⟨x,H1,I1,r1,q1⟩=>⟨σ,H1,I1,q1⟩) I.quiet hs
def RA (te:TE):TS:=fun D σ H=>te σ H D.rt
theorem aS (he:PE X e te):PS X (.Return (some e) pos) (RA te):=by
 intro pins s σ H D I h
 exact wpAny_Return_some (cC (he pins s σ H _ I h) fun v s1 ⟨x,H1,I1,r1,q1⟩=>⟨x,σ,H1,I1,r1,q1⟩)
def Mj (c:TT) (t u:TS):TS:=fun D σ H=>c σ H fun b H1=>if b=true then t D σ H1 else u D σ H1
theorem dv {c:Expr} {a b:List Stmt} {tc:TT} (hc:PT X c tc) (ha:rN X a t) (hb:rN X b u):PS X (.If c a b pos) (Mj tc t u):=by
 intro pins s σ H D I h
 refine wpAny_If (cC (hc pins s σ H _ I h) fun d s1 ⟨H1,I1,q1⟩=>?_)
 cases d with
 | true=>exact ha pins s1 σ H1 D I1 q1
 | false=>exact hb pins s1 σ H1 D I1 q1
def BV:TS:=fun _ _ _=>False
theorem iN:PS X st BV:=fun _ _ _ _ _ _ h=>h.elim
theorem lu {sts:List Stmt}:rN X sts BV:=fun _ _ _ _ _ _ h=>h.elim
end
abbrev TG:=V→St→Hp→(St→Hp→Prop)→Prop
abbrev Jz:=List V→St→Hp→(St→Hp→Prop)→Prop
def PG (X:Cx) (target:Expr) (t:TG):Prop :=
 ∀ (pins:List (Addr × Obj)) (s:Shared) (σ:St) (H:Hp) (v:V) (u:Value) (Q:St→Hp→Prop),Inv X pins σ H s→RelV v u→t v σ H Q →
  wpAny (model X.prog X.w) X.A (assign target X.env u) (fun _ s'=>∃ σ' H',Inv X pins σ' H' s'∧Q σ' H') X.xe s
def QO (X:Cx) (ts:List Expr) (t:Jz):Prop :=
 ∀ (pins:List (Addr × Obj)) (s:Shared) (σ:St) (H:Hp) (vs:List V) (us:List Value) (Q:St→Hp→Prop),Inv X pins σ H s→Vals vs us→t vs σ H Q →
  wpAny (model X.prog X.w) X.A (assignInOrder ((assignEach ts X.env).map (·.2)) us) (fun _ s'=>∃ σ' H',Inv X pins σ' H' s'∧Q σ' H') X.xe s
abbrev JA:=V→V→V→Hp→(Hp→Prop)→Prop
def Ml (X:Cx) (t:JA):Prop :=
 ∀ (pins:List (Addr × Obj)) (s:Shared) (σ:St) (H:Hp) (o i v:V) (ov iv u:Value) (Q:Hp→Prop),Inv X pins σ H s→RelV o ov→RelV i iv→RelV v u→t o i v H Q →
  wpAny (model X.prog X.w) X.A (setItem ov iv u) (fun _ s'=>∃ H',Inv X pins σ H' s'∧Q H') X.xe s
section
variable {X:Cx} {pos:Pos}
def gF (i:Nat):TG:=fun v σ H Q=>Q (σ.set i (some v)) H
theorem cG {i:Nat} {x:Str} (hN:X.N.Nodup) (hi:X.N[i]? = some x) (hx:Loc X.env.scope x) (hf:X.fn x=true∨X.env.scope.names.lookup x=some .local:=by first | exact .inl rfl | exact .inr rfl | assumption):PG X (.Name x pos) (gF i):=by
 intro pins s σ H v u Q I r h
 exact wpAny_assign_Name (uF I hN hi hx r (fun s' I'=>⟨_,H,I',h⟩) hf)
def JB:Jz:=fun vs σ H Q=>vs=[]∧Q σ H
def uH (t:TG) (u:Jz):Jz:=fun vs σ H Q=>∃ v r,vs=v :: r∧t v σ H fun σ' H'=>u r σ' H' Q
theorem Fe:QO X [] JB:=by
 intro pins s σ H vs us Q I r h
 obtain ⟨e,h⟩:=h
 subst e
 cases r
 exact assignInOrder_nil ⟨σ,H,I,h⟩
theorem uI {e:Expr} {es:List Expr} {t:TG} {u:Jz} (h1:PG X e t) (h2:QO X es u)
  (hs:(assignEach (e :: es) X.env).map (·.2)=assign e X.env :: (assignEach es X.env).map (·.2):=by rfl):QO X (e :: es) (uH t u):=by
 intro pins s σ H vs us Q I r h
 obtain ⟨v,vr,e1,h⟩:=h
 subst e1
 cases r with
 | cons r rr =>
  rw [hs]
  refine assignInOrder_cons (cC (h1 pins s σ H _ _ _ I r h) fun _ s1 ⟨σ1,H1,I1,q1⟩=>?_)
  exact h2 pins s1 σ1 H1 _ _ Q I1 rr q1
def JC (K:PySem.W.Frag) (n:Nat) (t:Jz):TG:=fun v σ H Q=>∃ a xs,v=.ref a∧bp K H a xs∧xs.length=n∧t xs σ H Q
theorem JD {es:List Expr} {k:Nat} {t:Jz} {n:Nat} (hc:X.calm=true) (h:QO X es t)
  (hn:(assignEach es X.env).length=n:=by rfl) (hst:(assignEach es X.env).findIdx? (·.1)=none:=by rfl):PG X (.Tuple es k pos) (JC X.K n t):=by
 intro pins s σ H v u Q I r hw
 obtain ⟨a,xs,e1,hq,hl,hw⟩:=hw
 subst e1
 cases r
 obtain ⟨its,rv,ht,hz⟩:=I.tuple hq
 refine assign_Tuple_tuple (I.ok.hd hc) ht (by simp [hn,← hl,rv.length]) hst fun h' hx=>?_
 have I1:Inv X pins σ H { s with heap:=h' }:=I.kept (t':=s.toks) fun b o e=>hx b o (Nat.ne_of_lt (Heap.lt_size e)) e
 exact h pins _ σ H xs _ Q I1 (by simpa using rv) hw
def RB (to ti:TE) (t:JA):TG:=fun v σ H Q=>to σ H fun o H1=>ti σ H1 fun i H2=>t o i v H2 fun H3=>Q σ H3
theorem iO {o i:Expr} {to ti:TE} {t:JA} (ho:PE X o to) (hi:PE X i ti) (hs:Ml X t)
  (ha:∀ v,assign (.Subscript o i pos) X.env v=(do
   let ov ← holding [v] (eval o X.env)
   let iv ← holding [v,ov] (eval i X.env)
   standAt pos
   holding [v,ov,iv] (setItem ov iv v)
   release [v,ov,iv] []):=by intro _; rfl):PG X (.Subscript o i pos) (RB to ti t):=by
 intro pins s σ H v u Q I r h
 rw [ha]
 refine wpAny_bind (wpAny_holding (cC (ho pins s σ H _ I h) fun ov s1 ⟨x,H1,I1,r1,q1⟩=>?_))
 refine wpAny_bind (wpAny_holding (cC (hi pins s1 σ H1 _ I1 q1) fun iv s2 ⟨y,H2,I2,r2,q2⟩=>?_))
 refine wpAny_bind (wpAny_standAt (wpAny_bind (wpAny_holding (cC (hs pins s2 σ H2 x y v ov iv u _ I2 r1 r2 r q2) fun _ s3 ⟨H3,I3,q3⟩=>?_))))
 exact wpAny_release ⟨σ,H3,I3,q3⟩
def BW (te:TE) (g:TG):TS:=fun D σ H=>te σ H fun x H1=>g x σ H1 D.nx
theorem iP {tg e:Expr} {te:TE} {g:TG} (he:PE X e te) (hg:PG X tg g) (hs:swapsWithSole [tg] e pos.line X.env=pure false:=by rfl) (hw:swappedStores [tg] e X.env=pure none:=by rfl)
  (h1:(assignEach [tg] X.env).map (·.2)=[assign tg X.env]:=by rfl):PS X (.Assign [tg] e pos) (BW te g):=by
 intro pins s σ H D I h
 refine wpAny_Assign_stores (cC (he pins s σ H _ I h) fun v s1 ⟨x,H1,I1,r1,q1⟩=>?_) hs hw
 rw [h1]
 exact cC (hg pins s1 σ H1 x v _ I1 r1 q1) fun _ s2 q=>q
theorem aT {i:Nat} {x:Str} {e:Expr} {te:TE} {pos':Pos} (hN:X.N.Nodup) (hi:X.N[i]? = some x) (hx:Loc X.env.scope x) (he:PE X e te) (hs:swapsWith e (some (.Name x pos')) pos.line X.env=pure false:=by rfl) (hf:X.fn x=true∨X.env.scope.names.lookup x=some .local:=by first | exact .inl rfl | exact .inr rfl | assumption) :
  PS X (.Assign [.Name x pos'] e pos) (BW te (gF i)):=by
 intro pins s σ H D I h
 refine wpAny_Assign_Name (cC (he pins s σ H _ I h) fun v s1 ⟨y,H1,I1,r1,q1⟩=>?_) hs
 exact uF I1 hN hi hx r1 (fun s2 I2=>⟨_,H1,I2,q1⟩) hf
end
section
variable {X:Cx} {pos:Pos}
def JE (c:TT) (tb:TS):TS:=fun D σ H=>∃ W:Nat→St→Hp→Prop,(∃ m,W m σ H)∧∀ m σ H,W m σ H →
 c σ H fun b H1=>if b=true then ∃ N:St→Hp→Prop,(∀ σ' H',N σ' H'→∃ m',m' < m∧W m' σ' H')∧tb { D with nx:=N,ct:=N,bk:=D.nx } σ H1 else D.nx σ H1
theorem og {c:Expr} {body:List Stmt} {tc:TT} {tb:TS} (hp:PassesOwn (model X.prog X.w) X.A X.env X.xe) (hc:PT X c tc) (hb:rN X body tb):PS X (.While c body [] pos) (JE tc tb):=by
 intro pins s σ H D I h
 obtain ⟨W,⟨m0,w0⟩,turn⟩:=h
 refine wpAny_While (codeAny_whileLoop (fun n s'=>∃ σ' H',Inv X pins σ' H' s'∧W n σ' H') ?_ m0 ⟨σ,H,I,w0⟩)
 rintro n s1 ⟨σ1,H1,I1,w1⟩
 refine wpAny_passesOwn hp (cC (hc pins s1 σ1 H1 _ I1 (turn n σ1 H1 w1)) fun b s2 ⟨H2,I2,q2⟩=>?_)
 cases b with
 | true =>
  obtain ⟨N,hN,q2⟩:=q2
  rw [if_pos rfl]
  refine wpAny_passesOwn hp (cC (hb pins s2 σ1 H2 _ I2 q2) fun f s3 q3=>?_)
  cases f with
  | next =>
   obtain ⟨σ3,H3,I3,n3⟩:=q3
   obtain ⟨m',hm,w3⟩:=hN σ3 H3 n3
   exact ⟨m',hm,σ3,H3,I3,w3⟩
  | cont =>
   obtain ⟨σ3,H3,I3,n3⟩:=q3
   obtain ⟨m',hm,w3⟩:=hN σ3 H3 n3
   exact ⟨m',hm,σ3,H3,I3,w3⟩
  | brk=>exact q3
  | ret v=>exact q3
 | false =>
  rw [if_neg Bool.false_ne_true]
  exact wpAny_execs_nil ⟨σ1,H2,I2,q2⟩
end
structure It where
 go:Nat→Hp→Prop
 zT:Nat→Hp→V→Hp→Prop
 stop:Nat→Hp→Prop
def oh (X:Cx) (pins:List (Addr × Obj)) (H:Hp) (b:Addr):Prop :=
 H b=none∧b ≠ X.env.locals∧b ∉ X.fs∧(b ∈ X.ex∨X.s₀.heap.objs.size ≤ b)∧(∀ x c,X.env.cells.lookup x=some c→c ≠ b)∧∀ p ∈ X.pn ++ pins,p.1 ≠ b
theorem Inv.zU {X:Cx} {pins:List (Addr × Obj)} {σ:St} {H H':Hp} {s:Shared} {b:Addr} (I:Inv X pins σ H s) (hb:s.heap.objs.size ≤ b) (hn:H' b=none):oh X pins H' b:=by
 refine ⟨hn,Nat.ne_of_gt (Nat.lt_of_lt_of_le I.lt hb),I.Ru hb,.inr (Nat.le_trans I.sz hb),fun x c e z=>?_,fun p hp z=>?_⟩
 ·obtain ⟨v,q⟩:=I.cell x c e
  exact absurd (Nat.lt_of_lt_of_le q.lt (by rw [z]; exact hb)) (Nat.lt_irrefl _)
 ·exact absurd (Nat.lt_of_lt_of_le (Heap.lt_size (I.pin p hp).1) (by rw [z]; exact hb)) (Nat.lt_irrefl _)
structure Turn (P:Program) (w:World) (K:PySem.W.Frag) (tg:Expr) (J:It) (fp:List Addr) (it:Addr) (tn:Nat→Heap→Prop):Prop where
 mem:it ∈ fp
 obj:∀ i h,tn i h→∀ b ∈ fp,∃ o,h.get? b=some o∧∀ v,o.data ≠ .cell v
 keep:∀ i h h',tn i h→(∀ b ∈ fp,∀ o,h.get? b=some o→h'.get? b=some o)→tn i h'
 item:∀ (X:Cx),X.prog=P→X.w=w→X.K=K→X.calm=true→∀ (i:Nat) (pins:List (Addr × Obj)) (s:Shared) (σ:St) (H:Hp) (E:Value→Shared→Prop),Inv X pins σ H s→(∀ b ∈ fp,oh X pins H b)→tn i s.heap→J.go i H →
  wpAny (model P w) X.A (pyNext (.ref it)) (fun r s1=>∃ u,r=some u ∧
   wpAny (model P w) X.A (letOwnedTupleGo tg (.ref it) u) (fun _ s2=>∃ x H',Inv X pins σ H' s2∧RelV x u∧J.zT i H x H'∧tn (i + 1) s2.heap∧∀ b ∈ fp,H' b=none) E s1) E s
 done:∀ (X:Cx),X.prog=P→X.w=w→X.K=K→X.calm=true→∀ (i:Nat) (pins:List (Addr × Obj)) (s:Shared) (σ:St) (H:Hp) (E:Value→Shared→Prop),Inv X pins σ H s→(∀ b ∈ fp,oh X pins H b)→tn i s.heap→J.stop i H →
  wpAny (model P w) X.A (pyNext (.ref it)) (fun r s1=>r=none∧Inv X pins σ H s1) E s
 self:∀ (A:Around) (i:Nat) (s:Shared) (Q:Value→Shared→Prop) (E:Value→Shared→Prop),tn i s.heap→Q (.ref it) s→wpAny (model P w) A (pyIter (.ref it)) Q E s
abbrev TI:=St→Hp→(It→Hp→Prop)→Prop
def PIE (X:Cx) (pins:List (Addr × Obj)) (σ:St) (tg:Expr) (R:It→Hp→Prop) (itv:Value) (s2:Shared):Prop :=
 ∃ (it:Addr) (fp:List Addr) (tn:Nat→Heap→Prop) (J:It) (H':Hp),itv=.ref it∧Inv X pins σ H' s2∧Turn X.prog X.w X.K tg J fp it tn∧tn 0 s2.heap∧(∀ b ∈ fp,oh X pins H' b)∧R J H'
def PI (X:Cx) (tg iter:Expr) (wi:TI):Prop :=
 ∀ (pins:List (Addr × Obj)) (s:Shared) (σ:St) (H:Hp) (R:It→Hp→Prop),Inv X pins σ H s→wi σ H R →
  wpAny (model X.prog X.w) X.A (eval iter X.env) (fun v s1=>wpAny (model X.prog X.w) X.A (pyIter v) (PIE X pins σ tg R) X.xe s1) X.xe s
theorem yo {M:Model} {A:Around} {E:Value→Shared→Prop} {s:Shared} {tg:Expr} {it:Addr} {u:Value} {o:Obj} {n:String} {vs:Array Value} {Q:Unit→Shared→Prop} (ho:s.heap.get? it=some o) (hc:o.cls=.type n) (hd:o.data=.fields vs)
  (hn:["enumerate", "zip", "dict_itemiterator", "dict_reverseitemiterator", "odict_iterator", "itertools.zip_longest", "itertools.pairwise"].contains n=false) (hQ:Q () s):wpAny M A (letOwnedTupleGo tg (.ref it) u) Q E s:=by
 unfold letOwnedTupleGo
 cases tg <;> first
  | exact wpAny_pure hQ
  | (cases u <;> first
    | exact wpAny_pure hQ
    | (refine wpAny_bind (wpAny_load ho ?_)
       rw [hc,hd]
       show wpAny M A (if (["enumerate", "zip", "dict_itemiterator", "dict_reverseitemiterator", "odict_iterator", "itertools.zip_longest", "itertools.pairwise"].contains n && vs[0]? == some (rawInt _))=true then _ else _) Q E s
       rw [if_neg (by intro h; rw [hn,Bool.false_and] at h; cases h)]
       exact wpAny_pure hQ))
def BX (K:PySem.W.Frag) (a:Addr):It :=
 ⟨fun i H=>∃ xs x,aZ K H a xs∧xs[i]? = some x,fun i H x H'=>H'=H∧∀ xs,aZ K H a xs→xs[i]? = some x,fun i H=>∃ xs,aZ K H a xs∧xs.length ≤ i⟩
def Mp (K:PySem.W.Frag) (a:Addr):It :=
 ⟨fun i H=>∃ xs x,bp K H a xs∧xs[i]? = some x,fun i H x H'=>H'=H∧∀ xs,bp K H a xs→xs[i]? = some x,fun i H=>∃ xs,bp K H a xs∧xs.length ≤ i⟩
def Ff (lo:Int) (n:Nat):It:=⟨fun i _=>i < n,fun i H x H'=>H'=H∧x=.int (lo + i),fun i _=>n ≤ i⟩
theorem zV {P:Program} {w:World} {K:PySem.W.Frag} {tg:Expr} (a it:Addr):Turn P w K tg (BX K a) [it] it (fun i h=>h.IsListIter it a i) where
 mem:=by simp
 obj:=fun i h st b hb=>by
  have e:b=it:=by simpa using hb
  subst e
  obtain ⟨o,e,c,d⟩:=st
  exact ⟨o,e,fun v z=>by rw [d] at z; cases z⟩
 keep:=fun i h h' st k=>st.at fun o e=>k it (by simp) o e
 item:=by
  intro X hP hw hK hc i pins s σ H E I hf st hg
  subst hP hw hK
  obtain ⟨xs,x,hq,hx⟩:=hg
  obtain ⟨its,rv,p,hz⟩:=I.list hq
  obtain ⟨u,hu,ru⟩:=rv.get hx
  obtain ⟨f0,f1,f2,f3,f4,f5⟩:=hf it (by simp)
  refine wpAny_pyNext_list_item st p.isList (x:=u) (by simpa using hu) fun h' st' sb=>?_
  have I1:Inv X pins σ H { s with heap:=h' }:=I.turned (t':=s.toks) (fun b o hb e=>(sb.2 b hb).trans e) f0 f1 f3 f4 f5
  obtain ⟨o,e,c,d⟩:=id st'
  exact ⟨u,rfl,yo (s:={ s with heap:=h' }) e c d (by decide) ⟨x,H,I1,ru,⟨rfl,fun ys hy=>by rw [I.n9 hy hq]; exact hx⟩,st',fun b hb=>(hf b hb).1⟩⟩
 done:=by
  intro X hP hw hK hc i pins s σ H E I hf st hg
  subst hP hw hK
  obtain ⟨xs,hq,hx⟩:=hg
  obtain ⟨its,rv,p,hz⟩:=I.list hq
  obtain ⟨f0,f1,f2,f3,f4,f5⟩:=hf it (by simp)
  have hl:=rv.length
  exact wpAny_pyNext_list_end (I.ok.hd hc) st p.isList (by simp; omega) fun h' eb=>⟨rfl,I.turned (t':=s.toks) (fun b o hb e=>eb b o hb e) f0 f1 f3 f4 f5⟩
 self:=fun _ _ _ _ _ st h=>wpAny_pyIter_listiter st h
theorem vN {P:Program} {w:World} {K:PySem.W.Frag} {tg:Expr} (a it:Addr):Turn P w K tg (Mp K a) [it] it (fun i h=>h.IsTupleIter it a i) where
 mem:=by simp
 obj:=fun i h st b hb=>by
  have e:b=it:=by simpa using hb
  subst e
  obtain ⟨o,e,c,d⟩:=st
  exact ⟨o,e,fun v z=>by rw [d] at z; cases z⟩
 keep:=fun i h h' st k=>st.at fun o e=>k it (by simp) o e
 item:=by
  intro X hP hw hK hc i pins s σ H E I hf st hg
  subst hP hw hK
  obtain ⟨xs,x,hq,hx⟩:=hg
  obtain ⟨its,rv,p,hz⟩:=I.tuple hq
  obtain ⟨u,hu,ru⟩:=rv.get hx
  obtain ⟨f0,f1,f2,f3,f4,f5⟩:=hf it (by simp)
  refine wpAny_pyNext_tuple_item st (show s.heap.IsTuple a its.toArray from p) (x:=u) (by simpa using hu) fun h' st' sb=>?_
  have I1:Inv X pins σ H { s with heap:=h' }:=I.turned (t':=s.toks) (fun b o hb e=>(sb.2 b hb).trans e) f0 f1 f3 f4 f5
  obtain ⟨o,e,c,d⟩:=id st'
  exact ⟨u,rfl,yo (s:={ s with heap:=h' }) e c d (by decide) ⟨x,H,I1,ru,⟨rfl,fun ys hy=>by rw [I.ja hy hq]; exact hx⟩,st',fun b hb=>(hf b hb).1⟩⟩
 done:=by
  intro X hP hw hK hc i pins s σ H E I hf st hg
  subst hP hw hK
  obtain ⟨xs,hq,hx⟩:=hg
  obtain ⟨its,rv,p,hz⟩:=I.tuple hq
  obtain ⟨f0,f1,f2,f3,f4,f5⟩:=hf it (by simp)
  have hl:=rv.length
  exact wpAny_pyNext_tuple_end (I.ok.hd hc) st (show s.heap.IsTuple a its.toArray from p) (by simp; omega) fun h' eb=>⟨rfl,I.turned (t':=s.toks) (fun b o hb e=>eb b o hb e) f0 f1 f3 f4 f5⟩
 self:=fun _ _ _ _ _ st h=>wpAny_pyIter_tupleiter st h
theorem vO {P:Program} {w:World} {K:PySem.W.Frag} {tg:Expr} (it:Addr) (lo:Int) (n:Nat):Turn P w K tg (Ff lo n) [it] it (fun i h=>IsRangeIter h it (lo + (i:Nat) * 1) ((n:Int) - (i:Nat)) 1) where
 mem:=by simp
 obj:=fun i h st b hb=>by
  have e:b=it:=by simpa using hb
  subst e
  exact ⟨_,st,fun v z=>by
   have z':Data.fields _=Data.cell v:=z
   cases z'⟩
 keep:=fun i h h' st k=>k it (by simp) _ st
 item:=by
  intro X hP hw hK hc i pins s σ H E I hf st hg
  subst hP hw hK
  obtain ⟨f0,f1,f2,f3,f4,f5⟩:=hf it (by simp)
  have W:=Walks.range (prog:=X.prog) (w:=X.w) (I.ok.hd hc) it lo 1 n
  refine W.item i s _ _ hg st fun v h' tk hv st' kk=>?_
  obtain ⟨t,rfl⟩:=hv
  have I1:Inv X pins σ H { s with heap:=h',toks:=tk }:=I.turned (fun b o hb e=>kk b o (by simpa using hb) e) f0 f1 f3 f4 f5
  refine ⟨_,rfl,yo (s:={ s with heap:=h',toks:=tk }) (n := "range_iterator") st' rfl rfl (by decide) ⟨.int (lo + i),H,I1,⟨t,?_⟩,⟨rfl,rfl⟩,st',fun b hb=>(hf b hb).1⟩⟩
  rw [Int.mul_one]
 done:=by
  intro X hP hw hK hc i pins s σ H E I hf st hg
  subst hP hw hK
  obtain ⟨f0,f1,f2,f3,f4,f5⟩:=hf it (by simp)
  exact wpAny_pyNext_range_end (I.ok.hd hc) st (by have:n ≤ i:=hg; omega) fun h' eb=>⟨rfl,I.turned (t':=s.toks) (fun b o hb e=>eb b o hb e) f0 f1 f3 f4 f5⟩
 self:=fun _ _ _ _ _ st h=>wpAny_pyIter_rangeiter st h
section
variable {X:Cx} {tg:Expr}
def Mq (K:PySem.W.Frag) (tl:TE):TI:=fun σ H R=>tl σ H fun x H1=>∃ a,x=.ref a∧(∃ xs,aZ K H1 a xs)∧R (BX K a) H1
def RD (K:PySem.W.Frag) (tl:TE):TI:=fun σ H R=>tl σ H fun x H1=>∃ a,x=.ref a∧(∃ xs,bp K H1 a xs)∧R (Mp K a) H1
theorem dS {l:Expr} {tl:TE} (hl:PE X l tl):PI X tg l (Mq X.K tl):=by
 intro pins s σ H R I h
 refine cC (hl pins s σ H _ I h) fun v s1 ⟨x,H1,I1,r1,q1⟩=>?_
 obtain ⟨a,e,⟨xs,hq⟩,q⟩:=q1
 subst e
 cases r1
 obtain ⟨its,rv,p,hz⟩:=I1.list hq
 refine wpAny_pyIter_list p.isList ?_
 refine ⟨s1.heap.objs.size,[s1.heap.objs.size],_,_,H1,rfl,I1.kept (t':=s1.toks) fun b o e=>Heap.get?_push_of_some _ e,zV a _,⟨_,Heap.get?_push_size _ rfl,rfl,rfl⟩,fun b hb=>?_,q⟩
 have e:b=s1.heap.objs.size:=by simpa using hb
 subst e
 exact I1.zU (Nat.le_refl _) (I1.hok.fresh (Nat.le_refl _))
theorem JF {l:Expr} {tl:TE} (hl:PE X l tl):PI X tg l (RD X.K tl):=by
 intro pins s σ H R I h
 refine cC (hl pins s σ H _ I h) fun v s1 ⟨x,H1,I1,r1,q1⟩=>?_
 obtain ⟨a,e,⟨xs,hq⟩,q⟩:=q1
 subst e
 cases r1
 obtain ⟨its,rv,p,hz⟩:=I1.tuple hq
 refine wpAny_pyIter_tuple (show s1.heap.IsTuple a its.toArray from p) ?_
 refine ⟨s1.heap.objs.size,[s1.heap.objs.size],_,_,H1,rfl,I1.kept (t':=s1.toks) fun b o e=>Heap.get?_push_of_some _ e,vN a _,⟨_,Heap.get?_push_size _ rfl,rfl,rfl⟩,fun b hb=>?_,q⟩
 have e:b=s1.heap.objs.size:=by simpa using hb
 subst e
 exact I1.zU (Nat.le_refl _) (I1.hok.fresh (Nat.le_refl _))
theorem BZ {pins:List (Addr × Obj)} {σ:St} {H:Hp} {s:Shared} {R:It→Hp→Prop} {E:Value→Shared→Prop} {lo hi:Int} {t u v:Tok} {tk:Nat} (I:Inv X pins σ H s) (h1:-(2 ^ 62) ≤ lo) (h2:lo < 2 ^ 62) (h3:-(2 ^ 62) ≤ hi) (h4:hi < 2 ^ 62)
  (q:R (Ff lo (hi - lo).toNat) H):wpAny (model X.prog X.w) X.A (pyIter (.ref s.heap.objs.size)) (PIE X pins σ tg R) E { s with heap:=s.heap.push { cls:=.type "range",data:=.fields #[.int lo t,.int hi u,.int 1 v] },toks:=tk }:=by
 refine wpAny_pyIter_range (IsRange.new ..) (small_one h1 h2 h3 h4) ?_
 have I1:Inv X pins σ H { s with heap:=s.heap.push { cls:=.type "range",data:=.fields #[.int lo t,.int hi u,.int 1 v] },toks:=tk }:=I.kept fun b o e=>Heap.get?_push_of_some _ e
 refine ⟨(s.heap.push { cls:=.type "range",data:=.fields #[.int lo t,.int hi u,.int 1 v] }).objs.size,[(s.heap.push { cls:=.type "range",data:=.fields #[.int lo t,.int hi u,.int 1 v] }).objs.size],_,_,H,rfl,
  I1.kept (t':=tk) fun b o e=>Heap.get?_push_of_some _ e,vO _ lo (hi - lo).toNat,?_,fun b hb=>?_,q⟩
 ·have e1:lo + ((0:Nat):Int) * 1=lo:=by simp
  have e2:(((hi - lo).toNat:Nat):Int) - ((0:Nat):Int)=Builtin.Range.rangeSize lo hi 1:=by rw [rangeSize_one]; split <;> omega
  show IsRangeIter _ _ (lo + ((0:Nat):Int) * 1) ((((hi - lo).toNat:Nat):Int) - ((0:Nat):Int)) 1
  rw [e1,e2]
  exact Heap.get?_push_size _ rfl
 ·have e:b=(s.heap.push { cls:=.type "range",data:=.fields #[.int lo t,.int hi u,.int 1 v] }).objs.size:=by simpa using hb
  subst e
  exact I1.zU (Nat.le_refl _) (I1.hok.fresh (Nat.le_refl _))
def Mr (ta:TA):TI:=fun σ H R=>ta σ H fun vs H1=>∃ j:Int,vs=[.int j]∧-(2 ^ 62) ≤ j∧j < 2 ^ 62∧R (Ff 0 j.toNat) H1
theorem gm {a:Expr} {ta:TA} {p pos:Pos} (hg:Gl X "range") (hm:X.mg "range" = none) (ha:PA X [a] ta) (hs:starEach [a] X.env=[(false,eval a X.env)]:=by rfl):PI X tg (.Call (.Name "range" p) [a] [] pos) (Mr ta):=by
 intro pins s σ H R I h
 refine Call_ (jP I hg hm boot_range (PyProof.Rows.callWith_type1 (cC (ha pos pins s σ H _ I h) fun us s1 ⟨vs,H1,I1,r1,q1⟩=>?_) hs rfl))
 obtain ⟨j,e,q1,q2,q⟩:=q1
 subst e
 cases r1 with
 | cons r rr =>
  cases rr
  obtain ⟨t,rfl⟩:=r
  exact call_range_1 (BZ I1 (by omega) (by omega) q1 q2 (by simpa using q))
def RE (wi:TI) (g:TG) (tb:TS):TS:=fun D σ H=>wi σ H fun J H1=>∃ W:Nat→Nat→St→Hp→Prop,(∃ m,W 0 m σ H1)∧∀ i m σ H,W i m σ H →
 (J.stop i H∧D.nx σ H)∨(J.go i H∧∃ N:St→Hp→Prop,(∀ σ' H',N σ' H'→∃ m',m' < m∧W (i + 1) m' σ' H')∧∀ x H',J.zT i H x H'→g x σ H' fun σ2 H2=>tb { D with nx:=N,ct:=N,bk:=D.nx } σ2 H2)
def oi (fp:List Addr) (h:Heap):List (Addr × Obj):=fp.filterMap fun b=>(h.get? b).map fun o=>(b,o)
theorem iz {fp:List Addr} {h:Heap} {b:Addr} {o:Obj} (hb:b ∈ fp) (e:h.get? b=some o):(b,o) ∈ oi fp h:=List.mem_filterMap.mpr ⟨b,hb,by rw [e]; rfl⟩
theorem zW {fp:List Addr} {h:Heap} {p:Addr × Obj} (hp:p ∈ oi fp h):p.1 ∈ fp∧h.get? p.1=some p.2:=by
 obtain ⟨b,hb,e⟩:=List.mem_filterMap.mp hp
 cases q:h.get? b with
 | none=>rw [q] at e; cases e
 | some o =>
  rw [q] at e
  have e':(b,o)=p:=Option.some.inj e
  subst e'
  exact ⟨hb,q⟩
theorem Inv.pinned {pins:List (Addr × Obj)} {σ:St} {H:Hp} {s:Shared} {fp:List Addr} (I:Inv X pins σ H s) (hf:∀ b ∈ fp,oh X pins H b) (ho:∀ b ∈ fp,∃ o,s.heap.get? b=some o∧∀ v,o.data ≠ .cell v):Inv X (pins ++ oi fp s.heap) σ H s :=
 I.yn fun p hp=>(List.mem_append.mp hp).elim (fun z=>I.pin p (List.mem_append_right _ z)) fun z=>by
  obtain ⟨hb,e⟩:=zW z
  obtain ⟨f0,f1,f2,_⟩:=hf p.1 hb
  obtain ⟨o,e',d⟩:=ho p.1 hb
  rw [e] at e'; cases e'
  exact ⟨e,f0,f1,f2,d⟩
theorem Inv.j5 {pins pl:List (Addr × Obj)} {σ:St} {H:Hp} {s:Shared} (I:Inv X (pins ++ pl) σ H s):Inv X pins σ H s:=I.yn fun p hp=>I.pin p (List.mem_append_right _ (List.mem_append_left _ hp))
theorem gU {iter:Expr} {body:List Stmt} {wi:TI} {g:TG} {tb:TS} {pos:Pos} (hp:PassesOwn (model X.prog X.w) X.A X.env X.xe) (hc:X.calm=true) (hi:PI X tg iter wi) (hg:PG X tg g) (hb:rN X body tb)
  (hs:∀ x,foldedSetIterable iter X.env x=pure x:=by intro _; rfl):PS X (.For tg iter body [] pos) (RE wi g tb):=by
 intro pins s σ H D I h
 refine wpAny_For (cC (hi pins s σ H _ I h) fun v s1 h1=>cC h1 fun itv s2 h2=>?_) hs
 obtain ⟨it,fp,tn,J,H2,e,I2,T,st2,f2,W,⟨m0,w0⟩,turn⟩:=h2
 subst e
 have stat:∀ {H':Hp},(∀ b ∈ fp,H' b=none)→∀ b ∈ fp,oh X pins H' b:=fun hn b hb=>⟨hn b hb,(f2 b hb).2⟩
 refine codeAny_forLoop_any (fun n s'=>∃ i σ' H',Inv X pins σ' H' s'∧tn i s'.heap∧(∀ b ∈ fp,H' b=none)∧W i n σ' H') ?_ m0 ⟨0,σ,H2,I2,st2,fun b hb=>(f2 b hb).1,w0⟩
 rintro n s3 ⟨i,σ3,H3,I3,st3,fr3,w3⟩
 rcases turn i n σ3 H3 w3 with ⟨stop,qn⟩ | ⟨go,N,hN,step⟩
 ·refine wpAny_passesOwn hp (cC (T.done X rfl rfl rfl hc i pins s3 σ3 H3 X.xe I3 (stat fr3) st3 stop) fun r s4 ⟨hr,I4⟩=>?_)
  subst hr
  exact wpAny_execs_nil ⟨σ3,H3,I4,qn⟩
 ·refine wpAny_passesOwn hp (cC (T.item X rfl rfl rfl hc i pins s3 σ3 H3 X.xe I3 (stat fr3) st3 go) fun r s4 ⟨u,hr,h4⟩=>?_)
  subst hr
  refine wpAny_passesOwn hp (cC h4 fun _ s5 ⟨x,H5,I5,r5,y5,LU,QP⟩=>?_)
  have I5':=I5.pinned (stat QP) (T.obj _ _ LU)
  refine wpAny_passesOwn hp (cC (hg _ s5 σ3 H5 x u _ I5' r5 (step x H5 y5)) fun _ s6 ⟨σ6,H6,I6,q6⟩=>?_)
  refine wpAny_passesOwn hp (cC (hb _ s6 σ6 H6 _ I6 q6) fun f s7 q7=>?_)
  have again:∀ {σ7:St} {H7:Hp},Inv X (pins ++ oi fp s5.heap) σ7 H7 s7→N σ7 H7→∃ m,m < n∧∃ i σ' H',Inv X pins σ' H' s7∧tn i s7.heap∧(∀ b ∈ fp,H' b=none)∧W i m σ' H':=fun {σ7 H7} I7 n7=>by
   obtain ⟨m',hm,w7⟩:=hN σ7 H7 n7
   refine ⟨m',hm,i + 1,σ7,H7,I7.j5,T.keep _ _ _ LU fun b hb o e=>(I7.pin (b,o) (List.mem_append_right _ (List.mem_append_right _ (iz hb e)))).1,fun b hb=>?_,w7⟩
   obtain ⟨o,e,d⟩:=T.obj _ _ LU b hb
   exact (I7.pin (b,o) (List.mem_append_right _ (List.mem_append_right _ (iz hb e)))).2.1
  cases f with
  | next=>obtain ⟨σ7,H7,I7,n7⟩:=q7; exact again I7 n7
  | cont=>obtain ⟨σ7,H7,I7,n7⟩:=q7; exact again I7 n7
  | brk=>obtain ⟨σ7,H7,I7,q7⟩:=q7; exact ⟨σ7,H7,I7.j5,q7⟩
  | ret v=>obtain ⟨x7,σ7,H7,I7,r7,q7⟩:=q7; exact ⟨x7,σ7,H7,I7.j5,r7,q7⟩
end
theorem j6 {K:PySem.W.Frag} {a:Addr} {xs:List V} {g:TG} {tb:TS} {D:Ends} {σ:St} {H:Hp} (Pv:Nat→St→Hp→Prop) (h0:Pv 0 σ H) (hl:∀ i σ H,i ≤ xs.length→Pv i σ H→aZ K H a xs)
  (hs:∀ i x σ H,xs[i]? = some x→Pv i σ H→g x σ H fun σ2 H2=>tb { D with nx:=Pv (i + 1),ct:=Pv (i + 1),bk:=D.nx } σ2 H2) (hd:∀ σ H,Pv xs.length σ H→D.nx σ H) :
  ∃ W:Nat→Nat→St→Hp→Prop,(∃ m,W 0 m σ H)∧∀ i m σ H,W i m σ H →
   ((BX K a).stop i H∧D.nx σ H)∨((BX K a).go i H∧∃ N:St→Hp→Prop,(∀ σ' H',N σ' H'→∃ m',m' < m∧W (i + 1) m' σ' H')∧∀ x H',(BX K a).zT i H x H'→g x σ H' fun σ2 H2=>tb { D with nx:=N,ct:=N,bk:=D.nx } σ2 H2):=by
 refine ⟨fun i m σ H=>m=xs.length - i∧i ≤ xs.length∧Pv i σ H,⟨xs.length,by simp,Nat.zero_le _,h0⟩,?_⟩
 rintro i m σ H ⟨rfl,hi,p⟩
 have q:=hl i σ H hi p
 by_cases hlt:i < xs.length
 ·refine .inr ⟨⟨xs,xs[i],q,by simp [hlt]⟩,Pv (i + 1),fun σ' H' p'=>⟨xs.length - (i + 1),by omega,rfl,hlt,p'⟩,fun x H' y=>?_⟩
  obtain ⟨e,y⟩:=y
  subst e
  exact hs i x σ _ (y xs q) p
 ·have e:i=xs.length:=by omega
  subst e
  exact .inl ⟨⟨xs,q,Nat.le_refl _⟩,hd σ H p⟩
theorem ly {lo:Int} {n:Nat} {g:TG} {tb:TS} {D:Ends} {σ:St} {H:Hp} (Pv:Nat→St→Hp→Prop) (h0:Pv 0 σ H)
  (hs:∀ i σ H,i < n→Pv i σ H→g (.int (lo + i)) σ H fun σ2 H2=>tb { D with nx:=Pv (i + 1),ct:=Pv (i + 1),bk:=D.nx } σ2 H2) (hd:∀ σ H,Pv n σ H→D.nx σ H) :
  ∃ W:Nat→Nat→St→Hp→Prop,(∃ m,W 0 m σ H)∧∀ i m σ H,W i m σ H →
   ((Ff lo n).stop i H∧D.nx σ H)∨((Ff lo n).go i H∧∃ N:St→Hp→Prop,(∀ σ' H',N σ' H'→∃ m',m' < m∧W (i + 1) m' σ' H')∧∀ x H',(Ff lo n).zT i H x H'→g x σ H' fun σ2 H2=>tb { D with nx:=N,ct:=N,bk:=D.nx } σ2 H2):=by
 refine ⟨fun i m σ H=>m=n - i∧i ≤ n∧Pv i σ H,⟨n,by simp,Nat.zero_le _,h0⟩,?_⟩
 rintro i m σ H ⟨rfl,hi,p⟩
 by_cases hlt:i < n
 ·refine .inr ⟨hlt,Pv (i + 1),fun σ' H' p'=>⟨n - (i + 1),by omega,rfl,hlt,p'⟩,fun x H' y=>?_⟩
  obtain ⟨e,y⟩:=y
  subst e y
  exact hs i σ _ hlt p
 ·have e:i=n:=by omega
  subst e
  exact .inl ⟨Nat.le_refl _,hd σ H p⟩
abbrev R2:=V→V→Hp→VK→Prop
def jS (X:Cx) (f:Value→Value→Sem Value) (r:R2):Prop :=
 ∀ (pins:List (Addr × Obj)) (s:Shared) (σ:St) (H:Hp) (x y:V) (v u:Value) (Q:VK),Inv X pins σ H s→RelV x v→RelV y u→r x y H Q →
  wpAny (model X.prog X.w) X.A (f v u) (EP X pins σ Q) X.xe s
def RF (X:Cx) (f:Value→Sem Value) (r:V→Hp→VK→Prop):Prop :=
 ∀ (pins:List (Addr × Obj)) (s:Shared) (σ:St) (H:Hp) (x:V) (v:Value) (Q:VK),Inv X pins σ H s→RelV x v→r x H Q →
  wpAny (model X.prog X.w) X.A (f v) (EP X pins σ Q) X.xe s
def hC (X:Cx) (f:Value) (r:List V→Hp→VK→Prop):Prop :=
 ∀ (pins:List (Addr × Obj)) (s:Shared) (σ:St) (H:Hp) (xs:List V) (us:List Value) (Q:VK),Inv X pins σ H s→Vals xs us→r xs H Q →
  wpAny (model X.prog X.w) X.A (call f us) (EP X pins σ Q) X.xe s
def QR (r:R2) (ta tb:TE):TE:=fun σ H Q=>ta σ H fun x H1=>tb σ H1 fun y H2=>r x y H2 Q
def tUn (r:V→Hp→VK→Prop) (ta:TE):TE:=fun σ H Q=>ta σ H fun x H1=>r x H1 Q
def rI (C:Int→Int→Prop) (g:Int→Int→V):R2:=fun x y H Q=>∃ i j,x=.int i∧y=.int j∧C i j∧Q (g i j) H
def JG (g:Int→Int→V):R2:=fun x y H Q=>∃ i j,x=.int i∧y=.int j∧Q (g i j) H
def rU (g:Int→V):V→Hp→VK→Prop:=fun x H Q=>∃ i,x=.int i∧Q (g i) H
section
variable {X:Cx} {a b c:Expr} {ta tb tc:TE} {pos:Pos}
theorem JH (ha:PE X a ta) (hb:PE X b tb) {pins:List (Addr × Obj)} {s:Shared} {σ:St} {H:Hp} {R:V→V→Hp→Prop} (I:Inv X pins σ H s)
  (h:ta σ H fun x H1=>tb σ H1 fun y H2=>R x y H2) {Q:Value→Shared→Prop} {f:Value→Value→Sem Value}
  (hf:∀ v u s2 x y H2,Inv X pins σ H2 s2→RelV x v→RelV y u→R x y H2→wpAny (model X.prog X.w) X.A (f v u) Q X.xe s2) :
  wpAny (model X.prog X.w) X.A (eval a X.env) (fun v s₁=>wpAny (model X.prog X.w) X.A (eval b X.env) (fun u s₂=>wpAny (model X.prog X.w) X.A (f v u) Q X.xe s₂) X.xe s₁) X.xe s:=by
 refine cC (ha pins s σ H _ I h) fun v s1 ⟨x,H1,I1,r1,q1⟩=>?_
 refine cC (hb pins s1 σ H1 _ I1 q1) fun u s2 ⟨y,H2,I2,r2,q2⟩=>?_
 exact hf v u s2 x y H2 I2 r1 r2 q2
theorem aJ {op:Operator} {r:R2} (ho:jS X (binaryOp op) r) (ha:PE X a ta) (hb:PE X b tb):PE X (.BinOp a op b pos) (QR r ta tb):=by
 intro pins s σ H Q I h
 exact wpAny_BinOp (JH ha hb I h fun v u s2 x y H2 I2 rx ry q=>ho pins s2 σ H2 x y v u Q I2 rx ry q)
theorem yp {op:UnaryOp} {r:V→Hp→VK→Prop} (ho:RF X (unaryOp op) r) (ha:PE X a ta):PE X (.UnaryOp op a pos) (tUn r ta):=by
 intro pins s σ H Q I h
 exact UnaryOp_ (cC (ha pins s σ H _ I h) fun v s1 ⟨x,H1,I1,r1,q1⟩=>ho pins s1 σ H1 x v Q I1 r1 q1)
theorem QS {f:Value→Value→Sem Value} {C:Int→Int→Prop} {g:Int→Int→Int}
  (rule:∀ (i j:Int) (t u:Tok) (s:Shared) (Q:Value→Shared→Prop) (E:Value→Shared→Prop),C i j→Q (.int (g i j) s.toks) { s with toks:=s.toks + 1 }→wpAny (model X.prog X.w) X.A (f (.int i t) (.int j u)) Q E s) :
  jS X f (rI C fun i j=>.int (g i j)):=by
 intro pins s σ H x y v u Q I rx ry h
 obtain ⟨i,j,rfl,rfl,hc,q⟩:=h
 obtain ⟨t,rfl⟩:=rx
 obtain ⟨t',rfl⟩:=ry
 exact rule i j t t' s _ _ hc ⟨.int (g i j),H,I.tok _,⟨_,rfl⟩,q⟩
theorem Mt {f:Value→Value→Sem Value} {g:Int→Int→Int}
  (rule:∀ (i j:Int) (t u:Tok) (s:Shared) (Q:Value→Shared→Prop) (E:Value→Shared→Prop),Q (.int (g i j) s.toks) { s with toks:=s.toks + 1 }→wpAny (model X.prog X.w) X.A (f (.int i t) (.int j u)) Q E s) :
  jS X f (JG fun i j=>.int (g i j)):=by
 intro pins s σ H x y v u Q I rx ry h
 obtain ⟨i,j,rfl,rfl,q⟩:=h
 obtain ⟨t,rfl⟩:=rx
 obtain ⟨t',rfl⟩:=ry
 exact rule i j t t' s _ _ ⟨.int (g i j),H,I.tok _,⟨_,rfl⟩,q⟩
theorem JI {f:Value→Value→Sem Value} {g:Int→Int→Bool}
  (rule:∀ (i j:Int) (t u:Tok) (s:Shared) (Q:Value→Shared→Prop) (E:Value→Shared→Prop),Q (.bool (g i j)) s→wpAny (model X.prog X.w) X.A (f (.int i t) (.int j u)) Q E s) :
  jS X f (JG fun i j=>.bl (g i j)):=by
 intro pins s σ H x y v u Q I rx ry h
 obtain ⟨i,j,rfl,rfl,q⟩:=h
 obtain ⟨t,rfl⟩:=rx
 obtain ⟨t',rfl⟩:=ry
 exact rule i j t t' s _ _ ⟨.bl (g i j),H,I,rfl,q⟩
def JJ (i j:Int):Prop:=0 ≤ j∧j ≤ 1000000∧i.natAbs < 2 ^ 64
def JK (i j:Int):Prop:=(-(2 ^ 64) < i∧i < 2 ^ 64)∨(-(2 ^ 64) < j∧j < 2 ^ 64)
theorem JK.ok {i j:Int} (h:JK i j):IntMulOk i j:=by
 rcases h with ⟨h1,h2⟩ | ⟨h1,h2⟩
 ·exact .of_left (intBits_le_64 h1 h2)
 ·exact .of_right (intBits_le_64 h1 h2)
theorem cS:jS X (binaryOp .Add) (JG fun i j=>.int (i + j)):=Mt fun _ _ _ _ _ _ _ q=>add_int q
theorem jT:jS X (binaryOp .Sub) (JG fun i j=>.int (i - j)):=Mt fun _ _ _ _ _ _ _ q=>sub_int q
theorem rP:jS X (binaryOp .Mult) (rI JK fun i j=>.int (i * j)):=QS fun _ _ _ _ _ _ _ hc q=>mul_int q hc.ok
theorem bt:jS X (binaryOp .Mod) (rI (fun _ j=>0 < j) fun i j=>.int (i % j)):=QS fun i j _ _ _ _ _ hc q=>by
 have h1:(0:Int) < j:=hc
 exact mod_int' (by omega) (by rw [Int.fmod_eq_emod_of_nonneg i (by omega)]; exact q)
theorem vP:jS X (binaryOp .Pow) (rI JJ fun i j=>.int (i ^ j.toNat)):=QS fun _ _ _ _ _ _ _ hc q=>pow_int_small hc.1 hc.2.1 hc.2.2 q
theorem unI {f:Value→Sem Value} {g:Int→Int}
  (rule:∀ (i:Int) (t:Tok) (s:Shared) (Q:Value→Shared→Prop) (E:Value→Shared→Prop),Q (.int (g i) s.toks) { s with toks:=s.toks + 1 }→wpAny (model X.prog X.w) X.A (f (.int i t)) Q E s) :
  RF X f (rU fun i=>.int (g i)):=by
 intro pins s σ H x v Q I rx h
 obtain ⟨i,rfl,q⟩:=h
 obtain ⟨t,rfl⟩:=rx
 exact rule i t s _ _ ⟨.int (g i),H,I.tok _,⟨_,rfl⟩,q⟩
theorem rQ:RF X (unaryOp .USub) (rU fun i=>.int (-i)):=unI fun _ _ _ _ _ q=>neg_int q
end
def Mu:V→V→Bool
 | .non,.non=>true | .non,.int _=>true | .int _,.non=>true | .non,.bl _=>true | .bl _,.non=>true | .non,.str _=>true | .str _,.non=>true
 | .int _,.int _=>true | .bl _,.bl _=>true | .str _,.str _=>true | .BG _,.BG _=>true
 | .int _,.str _=>true | .str _,.int _=>true | .bl _,.str _=>true | .str _,.bl _=>true
 | _,_=>false
def rEq:R2:=fun x y H Q=>Mu x y=true∧Q (.bl (decide (x=y))) H
def rNe:R2:=fun x y H Q=>Mu x y=true∧Q (.bl (!decide (x=y))) H
theorem rR {i j:Int}:decide (V.int i=V.int j)=(i == j):=by
 rw [Bool.eq_iff_iff]
 simp
theorem B1 {i j:Bool}:decide (V.bl i=V.bl j)=(i == j):=by
 rw [Bool.eq_iff_iff]
 simp
theorem rS {i j:Str}:decide (V.str i=V.str j)=(i == j):=by
 rw [Bool.eq_iff_iff]
 simp
theorem yq {i j:Array UInt8}:decide (V.BG i=V.BG j)=(i.toList == j.toList):=by
 rw [Bool.eq_iff_iff]
 cases i
 cases j
 simp
section
variable {X:Cx} {a b c:Expr} {ta tb tc:TE} {pos:Pos}
theorem bU {pins:List (Addr × Obj)} {σ:St} {H:Hp} {s:Shared} {Q:VK} {k k':Bool} (I:Inv X pins σ H s) (q:Q (.bl k) H) (e:k=k'):EP X pins σ Q (.bool k') s:=by
 subst e
 exact ⟨.bl k,H,I,rfl,q⟩
theorem eM:jS X (compareOp .Eq) rEq:=by
 intro pins s σ H x y v u Q I rx ry h
 obtain ⟨hs,q⟩:=h
 cases x with
 | non =>
  cases rx
  cases y with
  | non=>cases ry; exact PySem.EqNone.eq_none_none (bU I q (by simp))
  | bl j=>cases ry; exact PySem.EqNone.eq_none_bool (bU I q (by simp))
  | int j=>obtain ⟨t',rfl⟩:=ry; exact PySem.EqNone.eq_none_int (bU I q (by simp))
  | str j=>obtain ⟨t',rfl⟩:=ry; exact PySem.EqNone.eq_none_str (bU I q (by simp))
  | _=>exact absurd (show false=true from hs) Bool.false_ne_true
 | bl i =>
  cases rx
  cases y with
  | non=>cases ry; exact PySem.EqNone.eq_bool_none (bU I q (by simp))
  | bl j=>cases ry; exact eq_bool (bU I q B1)
  | str j=>obtain ⟨t',rfl⟩:=ry; exact PySem.EqMixed.eq_bool_str (bU I q (by simp))
  | _=>exact absurd (show false=true from hs) Bool.false_ne_true
 | int i =>
  obtain ⟨t,rfl⟩:=rx
  cases y with
  | non=>cases ry; exact PySem.EqNone.eq_int_none (bU I q (by simp))
  | int j=>obtain ⟨t',rfl⟩:=ry; exact eq_int (bU I q rR)
  | str j=>obtain ⟨t',rfl⟩:=ry; exact PySem.EqMixed.eq_int_str (bU I q (by simp))
  | _=>exact absurd (show false=true from hs) Bool.false_ne_true
 | str i =>
  obtain ⟨t,rfl⟩:=rx
  cases y with
  | non=>cases ry; exact PySem.EqNone.eq_str_none (bU I q (by simp))
  | bl j=>cases ry; exact PySem.EqMixed.eq_str_bool (bU I q (by simp))
  | int j=>obtain ⟨t',rfl⟩:=ry; exact PySem.EqMixed.eq_str_int (bU I q (by simp))
  | str j=>obtain ⟨t',rfl⟩:=ry; exact eq_str (bU I q rS)
  | _=>exact absurd (show false=true from hs) Bool.false_ne_true
 | BG i =>
  obtain ⟨t,rfl⟩:=rx
  cases y with
  | BG j=>obtain ⟨t',rfl⟩:=ry; exact PySem.W.eq_bytes (bU I q yq)
  | _=>exact absurd (show false=true from hs) Bool.false_ne_true
 | _=>cases y <;> exact absurd (show false=true from hs) Bool.false_ne_true
theorem uJ:jS X (compareOp .NotEq) rNe:=by
 intro pins s σ H x y v u Q I rx ry h
 obtain ⟨hs,q⟩:=h
 cases x with
 | non =>
  cases rx
  cases y with
  | non=>cases ry; exact PySem.EqNone.ne_none_none (bU I q (by simp))
  | bl j=>cases ry; exact PySem.EqNone.ne_none_bool (bU I q (by simp))
  | int j=>obtain ⟨t',rfl⟩:=ry; exact PySem.EqNone.ne_none_int (bU I q (by simp))
  | str j=>obtain ⟨t',rfl⟩:=ry; exact PySem.EqNone.ne_none_str (bU I q (by simp))
  | _=>exact absurd (show false=true from hs) Bool.false_ne_true
 | bl i =>
  cases rx
  cases y with
  | non=>cases ry; exact PySem.EqNone.ne_bool_none (bU I q (by simp))
  | bl j=>cases ry; exact ne_bool (bU I q (congrArg not B1))
  | str j=>obtain ⟨t',rfl⟩:=ry; exact PySem.EqMixed.ne_bool_str (bU I q (by simp))
  | _=>exact absurd (show false=true from hs) Bool.false_ne_true
 | int i =>
  obtain ⟨t,rfl⟩:=rx
  cases y with
  | non=>cases ry; exact PySem.EqNone.ne_int_none (bU I q (by simp))
  | int j=>obtain ⟨t',rfl⟩:=ry; exact ne_int (bU I q (congrArg not rR))
  | str j=>obtain ⟨t',rfl⟩:=ry; exact PySem.EqMixed.ne_int_str (bU I q (by simp))
  | _=>exact absurd (show false=true from hs) Bool.false_ne_true
 | str i =>
  obtain ⟨t,rfl⟩:=rx
  cases y with
  | non=>cases ry; exact PySem.EqNone.ne_str_none (bU I q (by simp))
  | bl j=>cases ry; exact PySem.EqMixed.ne_str_bool (bU I q (by simp))
  | int j=>obtain ⟨t',rfl⟩:=ry; exact PySem.EqMixed.ne_str_int (bU I q (by simp))
  | str j=>obtain ⟨t',rfl⟩:=ry; exact ne_str (bU I q (congrArg not rS))
  | _=>exact absurd (show false=true from hs) Bool.false_ne_true
 | BG i =>
  obtain ⟨t,rfl⟩:=rx
  cases y with
  | BG j=>obtain ⟨t',rfl⟩:=ry; exact PySem.W.ne_bytes (bU I q (congrArg not yq))
  | _=>exact absurd (show false=true from hs) Bool.false_ne_true
 | _=>cases y <;> exact absurd (show false=true from hs) Bool.false_ne_true
theorem iQ:jS X (compareOp .Lt) (JG fun i j=>.bl (decide (i < j))):=JI fun _ _ _ _ _ _ _ q=>lt_int q
theorem qL:jS X (compareOp .LtE) (JG fun i j=>.bl (decide (i ≤ j))):=JI fun _ _ _ _ _ _ _ q=>le_int q
theorem qM:jS X (compareOp .Gt) (JG fun i j=>.bl (decide (j < i))):=JI fun _ _ _ _ _ _ _ q=>gt_int q
theorem lz:jS X (compareOp .Is) (fun x y H Q=>y=.non∧Q (.bl (decide (x=.non))) H):=by
 intro pins s σ H x y v u Q I rx ry h
 obtain ⟨rfl,q⟩:=h
 cases ry
 refine is_none_gen (bU I q ?_)
 cases x <;> first
  | (cases rx; rfl)
  | (obtain ⟨t,rfl⟩:=rx; rfl)
theorem aY (b:Expr) {op:CmpOp} (h:op ≠ .In:=by decide) (h2:op ≠ .NotIn:=by decide):behindInMarks op b=false:=by
 have e1:(op == CmpOp.In)=false:=by cases op <;> first | rfl | exact absurd rfl h
 have e2:(op == CmpOp.NotIn)=false:=by cases op <;> first | rfl | exact absurd rfl h2
 cases b <;> simp [behindInMarks,e1,e2]
theorem ft {op:CmpOp} {r:R2} (ho:jS X (compareOp op) r) (ha:PE X a ta) (hb:PE X b tb) (hm:behindInMarks op b=false):PE X (.Compare a [op] [b] pos) (QR r ta tb):=by
 intro pins s σ H Q I h
 exact wpAny_Compare1 (JH ha hb I h fun v u s2 x y H2 I2 rx ry q=>ho pins s2 σ H2 x y v u Q I2 rx ry q) hm
def Ip (t:TE):TT:=fun σ H Q=>t σ H fun x H'=>∃ k,x=.bl k∧Q k H'
theorem aP {op:CmpOp} {r:R2} (ho:jS X (compareOp op) r) (ha:PE X a ta) (hb:PE X b tb) (hm:behindInMarks op b=false):PT X (.Compare a [op] [b] pos) (Ip (QR r ta tb)):=by
 intro pins s σ H Q I h
 refine wpAny_isTrue_Compare1 (cC (ha pins s σ H _ I h) fun v s1 ⟨x,H1,I1,r1,q1⟩=>cC (hb pins s1 σ H1 _ I1 q1) fun u s2 ⟨y,H2,I2,r2,q2⟩ =>
  cC (ho pins s2 σ H2 x y v u _ I2 r1 r2 q2) fun c s3 ⟨z,H3,I3,r3,k,e,q3⟩=>?_) hm
 subst e
 cases r3
 exact wpAny_truthy_bool ⟨H3,I3,q3⟩
def B2 (r r':R2) (ta tb tc:TE):TE:=fun σ H Q=>ta σ H fun x H1=>tb σ H1 fun y H2=>r x y H2 fun z H3=>∃ k,z=.bl k ∧
 (if k=true then tc σ H3 fun w' H4=>r' y w' H4 Q else Q (.bl false) H3)
theorem B3 {op op':CmpOp} {r r':R2} (ho:jS X (compareOp op) r) (ho':jS X (compareOp op') r') (ha:PE X a ta) (hb:PE X b tb) (hc:PE X c tc)
  (hm:lastMarks [op,op'] [b,c]=false:=by with_unfolding_all rfl):PE X (.Compare a [op,op'] [b,c] pos) (B2 r r' ta tb tc):=by
 intro pins s σ H Q I h
 refine Compare_chain (cC (ha pins s σ H _ I h) fun v s1 ⟨x,H1,I1,r1,q1⟩=>chain_link (cC (hb pins s1 σ H1 _ I1 q1) fun u s2 ⟨y,H2,I2,r2,q2⟩ =>
  cC (ho pins s2 σ H2 x y v u _ I2 r1 r2 q2) fun d s3 ⟨z,H3,I3,r3,k,e,q3⟩=>?_)) hm
 subst e
 cases r3
 refine wpAny_truthy_bool ?_
 cases k with
 | false=>exact ite_ff ⟨.bl false,H3,I3,rfl,q3⟩
 | true=>exact ite_tt (chain_last (cC (hc pins s3 σ H3 _ I3 q3) fun w' s4 ⟨z',H4,I4,r4,q4⟩=>ho' pins s4 σ H4 y z' u w' Q I4 r2 r4 q4))
theorem om {op op':CmpOp} {r r':R2} (ho:jS X (compareOp op) r) (ho':jS X (compareOp op') r') (ha:PE X a ta) (hb:PE X b tb) (hc:PE X c tc)
  (hm:lastMarks [op,op'] [b,c]=false:=by with_unfolding_all rfl):PT X (.Compare a [op,op'] [b,c] pos) (Ip (B2 r r' ta tb tc)):=by
 intro pins s σ H Q I h
 refine isTrue_chain (cC (ha pins s σ H _ I h) fun v s1 ⟨x,H1,I1,r1,q1⟩=>test_link (cC (hb pins s1 σ H1 _ I1 q1) fun u s2 ⟨y,H2,I2,r2,q2⟩ =>
  cC (ho pins s2 σ H2 x y v u _ I2 r1 r2 q2) fun d s3 ⟨z,H3,I3,r3,k,e,q3⟩=>?_)) hm
 subst e
 cases r3
 refine wpAny_truthy_bool ?_
 cases k with
 | false =>
  obtain ⟨k',e',q'⟩:=q3
  cases e'
  exact ite_ff ⟨H3,I3,q'⟩
 | true =>
  refine ite_tt (test_last (cC (hc pins s3 σ H3 _ I3 q3) fun w' s4 ⟨z',H4,I4,r4,q4⟩=>cC (ho' pins s4 σ H4 y z' u w' _ I4 r2 r4 q4) fun d' s5 ⟨z2,H5,I5,r5,k2,e2,q5⟩=>?_))
  subst e2
  cases r5
  exact wpAny_truthy_bool ⟨H5,I5,q5⟩
theorem rT:(sizeLine:Nat) < 2 ^ 63:=by rw [sizeLine_eq]; decide
theorem vals1 {x:V} {us:List Value} (r:Vals [x] us):∃ u,us=[u]∧RelV x u:=by
 cases r with
 | cons r1 r2=>cases r2; exact ⟨_,rfl,r1⟩
theorem vals2 {x y:V} {us:List Value} (r:Vals [x,y] us):∃ u w',us=[u,w']∧RelV x u∧RelV y w':=by
 cases r with
 | cons r1 r2 =>
  cases r2 with
  | cons r3 r4=>cases r4; exact ⟨_,_,rfl,r1,r3⟩
theorem lG:hC X (.type "int") (fun xs H Q=>(∃ i,xs=[.int i]∧Q (.int i) H)∨∃ k,xs=[.bl k]∧Q (.int (if k then 1 else 0)) H):=by
 intro pins s σ H xs us Q I r h
 rcases h with ⟨i,rfl,q⟩ | ⟨k,rfl,q⟩
 ·obtain ⟨u,rfl,t,rfl⟩:=vals1 r
  exact call_int_int ⟨.int i,H,I,⟨_,rfl⟩,q⟩
 ·obtain ⟨u,rfl,r1⟩:=vals1 r
  cases r1
  exact call_int_bool ⟨.int (if k then 1 else 0),H,I.tok _,⟨_,rfl⟩,q⟩
end
structure vQ (h:Heap) (x dx C:Addr) (mA:Str→Option Value):Prop where
 obj:h.get? x=some (PySem.W.instObj C dx)
 ns:h.Ns1 dx mA
 ne:dx ≠ x
theorem zX {h:Heap} {dx:Addr} {mA:Str→Option Value} (n:h.Ns1 dx mA):∃ od,h.get? dx=some od∧∀ name,PySem.W.lookIn name od=some (mA name):=by
 obtain ⟨o,es,ep,ho,hd,hk,_,hm⟩:=n
 refine ⟨o,ho,fun name=>?_⟩
 have e:=hm name
 unfold nsFind findBy at e
 rw [← Array.find?_toList] at e
 unfold PySem.W.lookIn
 rw [hd]
 dsimp only
 split
 ·rename_i y q
  rw [q] at e
  exact congrArg some e
 ·rename_i q
  rw [q] at e
  have a:es.toList.any (·.refKey)=false:=by
   rw [List.any_eq_false]
   intro y hy
   obtain ⟨z,t,hkey⟩:=hk y (Array.mem_toList_iff.mp hy)
   simp [DictEntry.refKey,hkey]
  have a':¬ es.toList.any (·.refKey)=true:=by rw [a]; exact Bool.false_ne_true
  rw [if_neg a']
  exact congrArg some e
theorem vQ.look {h:Heap} {x dx C:Addr} {mA:Str→Option Value} (I:vQ h x dx C mA):∃ od,PySem.W.InstAt h x (PySem.W.instObj C dx) C (some od)∧∀ name,PySem.W.lookIn name od=some (mA name) :=
 let ⟨od,ho,hl⟩:=zX I.ns
 ⟨od,⟨I.obj,rfl,rfl,ho⟩,hl⟩
section
variable {prog:Program} {w:World} {A:Around} {E:Value→Shared→Prop} {s:Shared} {K:PySem.W.Frag} {x dx C f:Addr} {mA:Str→Option Value} {name:Str} {v:Value}
theorem get_map {expr:Bool} {Q:Value→Shared→Prop} (X:K.In s.heap) (I:vQ s.heap x dx C mA) (hg:PySem.W.plainGet K C name=true) (hh:PySem.W.hasDictIn K C=true)
  (ha:PySem.W.findIn K (.ref C) name=some none) (hv:mA name=some v) (hv':PySem.W.handedIn v=true) (h:Q v { s with toks:=s.toks + 1 }) :
  wpAny (model prog w) A (getAttr (.ref x) name expr) Q E s:=by
 obtain ⟨od,J,hl⟩:=I.look
 exact PySem.W.get_value X J (PySem.W.plainGet_of hg).1 (PySem.W.findObj_own hh ha rfl (by rw [hl,hv])) hv' h
theorem B4 {pl:Sem Bool} {Q:Value × List Value→Shared→Prop} (X:K.In s.heap) (I:vQ s.heap x dx C mA) (hg:PySem.W.plainGet K C name=true)
  (hf:PySem.W.findIn K (.ref C) name=some (some (.ref f))) (ht:PySem.W.isFn K (.ref f)=true) (hv:mA name=none) (h:Q (.ref f,[.ref x]) s) :
  wpAny (model prog w) A (getMethod (.ref x) name pl) Q E s:=by
 obtain ⟨od,J,hl⟩:=I.look
 exact PySem.W.method_fn X J (PySem.W.plainGet_of hg).1 (PySem.W.plainGet_of hg).2 hf (beq_iff_eq.mp ht) (by show (PySem.W.lookIn name od).map (·.isSome)=some false; rw [hl,hv]; rfl) h
theorem Fg {ns:List Str} {Q:Unit→Shared→Prop} (X:K.In s.heap) (I:vQ s.heap x dx C mA)
  (hs:PySem.W.findIn K (.ref C) "__setattr__" = some (some (.builtin "object.__setattr__"))) (hp:PySem.W.plainOver K C=true) (ht:PySem.W.takerIn K C name=some none) (hh:PySem.W.hasDictIn K C=true)
  (hw:PySem.Within mA ns) (hsz:ns.length ≤ sizeLine)
  (h:∀ h',vQ h' x dx C (fun y=>if y=name then some v else mA y)→Heap.SameBut dx s.heap h'→Q () { s with heap:=h',toks:=s.toks + 2 }) :
  wpAny (model prog w) A (setAttr (.ref x) name v) Q E s:=by
 obtain ⟨od,J,hl⟩:=I.look
 refine PySem.W.set_plain X J hs (PySem.W.osa_open (s:={ s with toks:=s.toks + 1 }) (r:=none) X J hp ht fun b=>?_)
 obtain ⟨cd,hc,hd'⟩:=PySem.W.any_some hh
 have hx:s.heap.get? x=some ⟨.ref C,some dx,.plain,#[]⟩:=I.obj
 refine wpAny_bind (wpAny_pure (wpAny_bind (wpAny_bind (wpAny_loadPart hx (wpAny_bind (PySem.W.Looks.here (s:={ s with toks:=s.toks + 1 }) (PySem.W.looks_clsIn X hc) ?_))))))
 rw [hd']
 refine wpAny_pure (a:=some dx) (wpAny_bind (wpAny_pure (wpAny_bind ?_)))
 refine wpAny_nsSet1 (s:={ s with toks:=s.toks + 1 }) I.ns fun h' hn2 hs2=>?_
 obtain ⟨oD,esD,epD,hoD,hdD,hcD⟩:=hn2.count (PySem.Within.cons name v hw)
 refine wpAny_bind (wpAny_lookBehind hoD (by rw [hdD]; exact pastItsLine_dict (Nat.le_trans hcD (by rw [List.length_cons]; omega))) ?_)
 exact wpAny_pure (h _ ⟨(hs2.2 _ (Ne.symm I.ne)).trans I.obj,hn2,I.ne⟩ hs2)
theorem B5 {R:Result→Shared→Prop} {vs:List Value} {kw:List (Str × Value)} (X:K.In s.heap) (hm:PySem.W.makesIn K C=true)
  (hi:PySem.W.findIn K (.ref C) "__init__" = some (some (.ref f))) (hf:PySem.W.typeIn K (.ref f)=some (.type "function"))
  (h:codeAny (model prog w) (A.under (.builtin "type.__call__" ⟨.ref C :: vs,kw⟩)) (.call (.ref f) ⟨.ref (s.heap.objs.size + 1) :: vs,kw⟩) (PySem.W.InitBack (s.heap.objs.size + 1) R)
   { s with heap:=(s.heap.push PySem.W.emptyDict).push (PySem.W.instObj C s.heap.objs.size) }) :
  codeAny (model prog w) A (.call (.ref C) ⟨vs,kw⟩) R s:=by
 obtain ⟨hh,g,d,t,os⟩:=s
 exact PySem.W.make_core (PySem.W.makes_of X hm) (PySem.W.looks_findIn X hi) (fun self=>PySem.W.bind_fn X self hf) (.inl rfl) h
end
def dU (f:Str) (v:V):List (Str × V)→List (Str × V)
 | []=>[(f,v)]
 | (g,x) :: r=>if g=f then (g,v) :: r else (g,x) :: dU f v r
theorem lX (f g:Str) (v:V):∀ fs:List (Str × V),(dU f v fs).lookup g=if g=f then some v else fs.lookup g
 | []=>by
  show List.lookup g [(f,v)]=_
  by_cases h:g=f
  ·have hb:(g == f)=true:=beq_iff_eq.mpr h
   simp only [List.lookup,hb,if_pos h]
  ·have hb:(g == f)=false:=beq_eq_false_iff_ne.mpr h
   simp only [List.lookup,hb,if_neg h]
 | (k,x) :: r=>by
  have ih:=lX f g v r
  rw [show dU f v ((k,x) :: r)=(if k=f then (k,v) :: r else (k,x) :: dU f v r) from rfl]
  by_cases hk:k=f
  ·rw [if_pos hk]
   by_cases h:g=k
   ·have hb:(g == k)=true:=beq_iff_eq.mpr h
    simp only [List.lookup,hb,if_pos (h.trans hk)]
   ·have hb:(g == k)=false:=beq_eq_false_iff_ne.mpr h
    simp only [List.lookup,hb,if_neg (fun e:g=f=>h (e.trans hk.symm))]
  ·rw [if_neg hk]
   by_cases h:g=k
   ·have hb:(g == k)=true:=beq_iff_eq.mpr h
    simp only [List.lookup,hb,if_neg (fun e:g=f=>hk (h.symm.trans e))]
   ·have hb:(g == k)=false:=beq_eq_false_iff_ne.mpr h
    simp only [List.lookup,hb]
    exact ih
theorem lH (f:Str) (v:V):∀ fs:List (Str × V),f ∈ (dU f v fs).map (·.1)∧∀ g,g ∈ fs.map (·.1)→g ∈ (dU f v fs).map (·.1)
 | []=>⟨by simp [dU],fun g h=>by simp at h⟩
 | (k,x) :: r=>by
  obtain ⟨i1,i2⟩:=lH f v r
  rw [show dU f v ((k,x) :: r)=(if k=f then (k,v) :: r else (k,x) :: dU f v r) from rfl]
  by_cases hk:k=f
  ·rw [if_pos hk]
   subst hk
   exact ⟨by simp,fun g h=>by simpa using h⟩
  ·rw [if_neg hk]
   refine ⟨?_,fun g h=>?_⟩
   ·rw [List.map_cons]
    exact List.mem_cons_of_mem _ i1
   ·rw [List.map_cons] at h ⊢
    rcases List.mem_cons.mp h with e | e
    ·exact List.mem_cons.mpr (.inl e)
    ·exact List.mem_cons_of_mem _ (i2 g e)
theorem lY (f:Str) (v:V):∀ fs:List (Str × V),(dU f v fs).length ≤ fs.length + 1
 | []=>by simp [dU]
 | (k,x) :: r=>by
  have ih:=lY f v r
  rw [show dU f v ((k,x) :: r)=(if k=f then (k,v) :: r else (k,x) :: dU f v r) from rfl]
  by_cases hk:k=f
  ·rw [if_pos hk,List.length_cons,List.length_cons]; omega
  ·rw [if_neg hk,List.length_cons,List.length_cons]; omega
theorem g9.some_of {v:V} {o:Option Value} (r:g9 (some v) o):∃ u,o=some u∧RelV v u:=by
 cases o with
 | none=>exact (show False from r).elim
 | some u=>exact ⟨u,rfl,r⟩
theorem g9.none_of {o:Option Value} (r:g9 none o):o=none:=by
 cases o with
 | none=>rfl
 | some u=>exact (show False from r).elim
theorem zY {v:V} {u:Value} (r:RelV v u):PySem.W.handedIn u=true:=by
 cases v with
 | non=>cases (show u=Value.none from r); rfl
 | bl b=>cases (show u=Value.bool b from r); rfl
 | int i=>obtain ⟨t,e⟩:=(show ∃ t,u=Value.int i t from r); cases e; rfl
 | str x=>obtain ⟨t,e⟩:=(show ∃ t,u=Value.str x t from r); cases e; rfl
 | BG b=>obtain ⟨t,e⟩:=(show ∃ t,u=Value.bytes b t from r); cases e; rfl
 | flt b=>obtain ⟨t,e⟩:=(show ∃ t,u=Value.float b t from r); cases e; rfl
 | ref a=>cases (show u=Value.ref a from r); rfl
 | ty n=>cases (show u=Value.type n from r); rfl
section
variable {P:Program} {w:World} {H H':Hp} {h h':Heap} {a C dx:Addr} {fs fs':List (Str × V)}
theorem nj (hok:jO P w H h) (e:H a=some (.ins C dx fs)):∃ mA,vQ h a dx C mA∧(∀ f,g9 (fs.lookup f) (mA f))∧PySem.Within mA (fs.map (·.1))∧fs.length ≤ 1000∧H dx=some (.own a):=by
 obtain ⟨d,z,ne,ob,mA,n,r,q⟩:=(show cv P w H h a (.ins C dx fs) from hok a _ e)
 exact ⟨mA,⟨ob,n,ne⟩,r,q,z,d⟩
end
structure Cls (K:PySem.W.Frag) (C:Addr):Prop where
 pg:PySem.W.plainGet K C Str.empty=true
 hd:PySem.W.hasDictIn K C=true
 po:PySem.W.plainOver K C=true
 sa:PySem.W.findIn K (.ref C) "__setattr__" = some (some (.builtin "object.__setattr__"))
theorem Cls.get {K:PySem.W.Frag} {C:Addr} (c:Cls K C) (f:Str):PySem.W.plainGet K C f=true:=c.pg
def dJ (K:PySem.W.Frag) (C:Addr) (f:Str):Prop:=PySem.W.findIn K (.ref C) f=some none
theorem dJ.taker {K:PySem.W.Frag} {C:Addr} {f:Str} (n:dJ K C f):PySem.W.takerIn K C f=some none:=by
 unfold PySem.W.takerIn
 rw [show PySem.W.findIn K (.ref C) f=some none from n]
 rfl
structure Meth (K:PySem.W.Frag) (C:Addr) (m:Str) (f:Addr):Prop where
 at_:PySem.W.findIn K (.ref C) m=some (some (.ref f))
 fn:PySem.W.isFn K (.ref f)=true
 kp:PySem.W.keepIn K (.ref f)=true
section
variable {X:Cx} {pins:List (Addr × Obj)} {σ:St} {H:Hp} {s:Shared} {a C dx:Addr} {fs:List (Str × V)} {f:Str} {v:V} {A:Around} {E:Value→Shared→Prop}
theorem vR {b:Bool} {Q:Value→Shared→Prop} (I:Inv X pins σ H s) (e:H a=some (.ins C dx fs)) (c:Cls X.K C) (n:dJ X.K C f) (l:fs.lookup f=some v)
  (h:∀ u s',Inv X pins σ H s'→RelV v u→Q u s'):wpAny (model X.prog X.w) A (getAttr (.ref a) f b) Q E s:=by
 obtain ⟨mA,O,r,_,_,_⟩:=nj I.hok e
 obtain ⟨u,hu,ru⟩:=g9.some_of (v:=v) (o:=mA f) (by rw [← l]; exact r f)
 exact get_map I.lq O (c.get f) c.hd n hu (zY ru) (h u _ (I.tok _) ru)
theorem vS {m:Str} {g:Addr} {pl:Sem Bool} {Q:Value × List Value→Shared→Prop} (I:Inv X pins σ H s) (e:H a=some (.ins C dx fs)) (c:Cls X.K C) (k:Meth X.K C m g) (l:fs.lookup m=none)
  (h:Q (.ref g,[.ref a]) s):wpAny (model X.prog X.w) A (getMethod (.ref a) m pl) Q E s:=by
 obtain ⟨mA,O,r,_,_,_⟩:=nj I.hok e
 have hn:mA m=none:=g9.none_of (by rw [← l]; exact r m)
 exact B4 I.lq O (c.get m) k.at_ k.fn hn h
theorem vT {y:V} {u:Value} {Q:Unit→Shared→Prop} (I:Inv X pins σ H s) (e:H a=some (.ins C dx fs)) (c:Cls X.K C) (n:dJ X.K C f) (hl:fs.length < 1000) (ry:RelV y u)
  (h:∀ s',Inv X pins σ (upd H a (.ins C dx (dU f y fs))) s'→Q () s'):wpAny (model X.prog X.w) A (setAttr (.ref a) f u) Q E s:=by
 obtain ⟨mA,O,r,wi,_,ho⟩:=nj I.hok e
 have hz:(fs.map (·.1)).length ≤ sizeLine:=by rw [List.length_map,sizeLine_eq]; omega
 refine Fg I.lq O c.sa c.po n.taker c.hd wi hz fun h' O' sb=>h _ ?_
 have hd:∃ o,h'.get? dx=some o:=let ⟨o,_,_,e',_⟩:=O'.ns; ⟨o,e'⟩
 refine I.write (x:=a) (e:=dx) (by rw [e]; exact True.intro) (.inr ho) (fun b q hb z=>(sb.2 b hb).trans z) hd ?_
 refine ⟨by rw [aK O.ne]; exact ho,?_,O.ne,O'.obj,_,O'.ns,fun g=>?_,fun g hg=>?_⟩
 ·have:=lY f y fs; omega
 ·show g9 ((dU f y fs).lookup g) (if g=f then some u else mA g)
  rw [lX]
  by_cases q:g=f
  ·rw [if_pos q,if_pos q]; exact ry
  ·rw [if_neg q,if_neg q]; exact r g
 ·by_cases q:g=f
  ·rw [q]; exact (lH f y fs).1
  ·refine (lH f y fs).2 g (wi g fun z=>hg ?_)
   show (if g=f then some u else mA g)=none
   rw [if_neg q]; exact z
theorem Inv.made (I:Inv X pins σ H s):Inv X pins σ (upd (upd H s.heap.objs.size (.own (s.heap.objs.size + 1))) (s.heap.objs.size + 1) (.ins C s.heap.objs.size []))
  { s with heap:=(s.heap.push PySem.W.emptyDict).push (PySem.W.instObj C s.heap.objs.size) }:=by
 have e1:(s.heap.push PySem.W.emptyDict).get? s.heap.objs.size=some PySem.W.emptyDict:=Heap.get?_push_size s.heap rfl
 have e2:((s.heap.push PySem.W.emptyDict).push (PySem.W.instObj C s.heap.objs.size)).get? (s.heap.objs.size + 1)=some (PySem.W.instObj C s.heap.objs.size):=by
  have:=Heap.get?_push_size (s.heap.push PySem.W.emptyDict) (o:=PySem.W.instObj C s.heap.objs.size) rfl
  rwa [Heap.size_push] at this
 have e3:(s.heap.push PySem.W.emptyDict).Ns s.heap.objs.size (fun _=>none):=⟨PySem.W.emptyDict,#[],_,e1,rfl,(fun e he=>absurd he (by simp)),fun _=>rfl⟩
 have I1:=I.laid (a:=s.heap.objs.size) (o:=.own (s.heap.objs.size + 1)) (h':=s.heap.push PySem.W.emptyDict) (t':=s.toks) (fun b u q=>Heap.get?_push_of_some _ q) (Nat.le_refl _) ⟨_,e1⟩
 refine I1.laid (a:=s.heap.objs.size + 1) (o:=.ins C s.heap.objs.size []) (t':=s.toks) (fun b u q=>Heap.get?_push_of_some _ q) (Nat.le_of_eq (Heap.size_push _ _)) ?_
 have ne:s.heap.objs.size ≠ s.heap.objs.size + 1:=Nat.ne_of_lt (Nat.lt_succ_self _)
 refine ⟨by rw [aK ne,ah],Nat.zero_le _,ne,e2,fun _=>none,(Heap.Ns1.of_empty e3).at fun o q=>Heap.get?_push_of_some _ q,fun _=>True.intro,fun y hy=>absurd rfl hy⟩
theorem Fh {prog:Program} {w:World} {env:Env} {e:Expr} {f:Str} {pos:Pos} {s:Shared} {Q:Value→Shared→Prop} (hb:attributeBase e f env (eval e env)=eval e env)
  (h:wpAny (model prog w) A (eval e env) (fun o s₁=>wpAny (model prog w) A (getAttr o f true) Q E s₁) E s):wpAny (model prog w) A (eval (.Attribute e f pos) env) Q E s :=
 Attribute_any_ h (by rw [arm_eval_Attribute,hb])
end
def RG (K:PySem.W.Frag) (ta:TE) (f:Str):TE:=fun σ H Q=>ta σ H fun x H1=>∃ a C dx fs v,x=.ref a∧H1 a=some (.ins C dx fs)∧Cls K C∧dJ K C f∧fs.lookup f=some v∧Q v H1
def RH (K:PySem.W.Frag) (ta tv:TE) (f:Str):TS:=fun D σ H=>tv σ H fun y H1=>ta σ H1 fun x H2=>∃ a C dx fs,x=.ref a∧H2 a=some (.ins C dx fs)∧Cls K C∧dJ K C f∧fs.length < 1000 ∧
 D.nx σ (upd H2 a (.ins C dx (dU f y fs)))
section
variable {X:Cx} {o e value:Expr} {f:Str} {pos pos' tpos:Pos} {ta tv:TE}
theorem bq (he:PE X e ta) (hb:attributeBase e f X.env (eval e X.env)=eval e X.env):PE X (.Attribute e f pos) (RG X.K ta f):=by
 intro pins s σ H Q I h
 refine Fh hb (cC (he pins s σ H _ I h) fun u s1 ⟨x,H1,I1,rx,a,C,dx,fs,v,ex,ea,c,n,l,q⟩=>?_)
 subst ex
 obtain rfl:u=Value.ref a:=rx
 exact vR I1 ea c n l fun u' s2 I2 ru=>⟨v,H1,I2,ru,q⟩
theorem dc (ha:PE X o ta) (hv:PE X value tv) (hs:swapsWith value (some (.Attribute o f pos')) pos.line X.env=pure false):PS X (.Assign [.Attribute o f pos'] value pos) (RH X.K ta tv f):=by
 intro pins s σ H D I h
 refine plainObj_wpAny_Assign_Attribute (cC (hv pins s σ H _ I h) fun u s1 ⟨y,H1,I1,ry,q⟩=>cC (ha pins s1 σ H1 _ I1 q) fun ov s2 ⟨x,H2,I2,rx,a,C,dx,fs,ex,ea,c,n,l,q2⟩=>?_) hs
 subst ex
 obtain rfl:ov=Value.ref a:=rx
 exact vT I2 ea c n l ry fun s3 I3=>⟨σ,_,I3,q2⟩
end
section
variable {X:Cx} {pins:List (Addr × Obj)} {σ:St} {H:Hp} {s:Shared} {A:Around} {E:Value→Shared→Prop} {Q:Value→Shared→Prop} {c:Value} {b:Bool}
inductive lI (K:PySem.W.Frag) (H:Hp):V→Value→Prop where
 | non:lI K H .non (.type "NoneType")
 | bl (x:Bool):lI K H (.bl x) (.type "bool")
 | int (i:Int):lI K H (.int i) (.type "int")
 | str (x:Str):lI K H (.str x) (.type "str")
 | flt (x:UInt64):lI K H (.flt x) (.type "float")
 | lst {a:Addr} {xs:List V} (e:H a=some (.lst xs)):lI K H (.ref a) (.type "list")
 | yl {a:Addr} {o:Obj} {xs:List V} (e:H a=some (.yl o (.lst xs))):lI K H (.ref a) (.type "list")
 | tup {a:Addr} {xs:List V} (e:H a=some (.tup xs)):lI K H (.ref a) (.type "tuple")
 | dK {a:Addr} {kvs:List (Key × V)} (e:H a=some (.dK kvs)):lI K H (.ref a) (.type "dict")
 | dT {a:Addr} {kvs:List (List Key × V)} (e:H a=some (.dT kvs)):lI K H (.ref a) (.type "dict")
 | ins {a C dx:Addr} {fs:List (Str × V)} (e:H a=some (.ins C dx fs)) (cl:Cls K C) (ha:PySem.W.findIn K (.ref C) "__class__" = some (some (.builtin "object.__class__")))
   (hn:PySem.W.specialIn K (.builtin "object.__class__") "__get__" = some (some (.builtin "getset_descriptor.__get__"))) (htk:PySem.W.takesIn K (.builtin "object.__class__")=some true)
   (hm:PySem.W.mroIn K C (.type "object")=some true):lI K H (.ref a) (.ref C)
theorem zZ {x:V} {u t:Value} (I:Inv X pins σ H s) (rx:RelV x u) (ty:lI X.K H x t) (e:PySem.W.kitOne X.K t c=some b) (h:∀ tk,Q (.bool b) { s with toks:=tk }) :
  wpAny (model X.prog X.w) A (call (.builtin "isinstance") [u,c]) Q E s:=by
 cases ty with
 | non=>cases (show u=Value.none from rx); exact PySem.W.kia_one PySem.W.kitx_none I.lq True.intro e (fun z=>nomatch z) h
 | bl y=>cases (show u=Value.bool y from rx); exact PySem.W.kia_one PySem.W.kitx_bool I.lq True.intro e (fun z=>nomatch z) h
 | int i=>obtain ⟨t,q⟩:=(show ∃ t,u=Value.int i t from rx); cases q; exact PySem.W.kia_one PySem.W.kitx_int I.lq True.intro e (fun z=>nomatch z) h
 | str y=>obtain ⟨t,q⟩:=(show ∃ t,u=Value.str y t from rx); cases q; exact PySem.W.kia_one PySem.W.kitx_str I.lq True.intro e (fun z=>nomatch z) h
 | flt y=>obtain ⟨t,q⟩:=(show ∃ t,u=Value.float y t from rx); cases q; exact PySem.W.kia_one PySem.W.kitx_float I.lq True.intro e (fun z=>nomatch z) h
 | @lst a xs ea =>
  cases (show u=Value.ref a from rx)
  obtain ⟨_,_,n,_,h1⟩:=(show cv X.prog X.w H s.heap a (.lst xs) from I.hok a _ ea)
  exact PySem.W.kia_one PySem.W.kitx_list I.lq ⟨_,h1,rfl⟩ e (fun z=>nomatch z) h
 | @yl a ob xs ea =>
  cases (show u=Value.ref a from rx)
  obtain ⟨_,_,_,n,_,h1⟩:=(show cv X.prog X.w H s.heap a (.yl ob (.lst xs)) from I.hok a _ ea)
  exact PySem.W.kia_one PySem.W.kitx_list I.lq ⟨_,h1,rfl⟩ e (fun z=>nomatch z) h
 | @tup a xs ea =>
  cases (show u=Value.ref a from rx)
  obtain ⟨_,_,_,p⟩:=(show cv X.prog X.w H s.heap a (.tup xs) from I.hok a _ ea)
  obtain ⟨o,h1,h2,_⟩:=p
  exact PySem.W.kia_one PySem.W.kitx_tuple I.lq ⟨o,h1,h2⟩ e (fun z=>nomatch z) h
 | @dK a kvs ea =>
  cases (show u=Value.ref a from rx)
  obtain ⟨_,_,vs,_,p⟩:=(show cv X.prog X.w H s.heap a (.dK kvs) from I.hok a _ ea)
  obtain ⟨o,es,ep,h1,h2,_⟩:=p
  exact PySem.W.kia_one PySem.W.kitx_dict I.lq ⟨o,h1,h2.1⟩ e (fun z=>nomatch z) h
 | @dT a kvs ea =>
  cases (show u=Value.ref a from rx)
  obtain ⟨_,_,xs,_,o,es,ep,h1,h2,_⟩:=(show cv X.prog X.w H s.heap a (.dT kvs) from I.hok a _ ea)
  exact PySem.W.kia_one PySem.W.kitx_dict I.lq ⟨o,h1,h2.1⟩ e (fun z=>nomatch z) h
 | @ins a C dx fs ea cl ha hn htk hm =>
  cases (show u=Value.ref a from rx)
  obtain ⟨mA,O,_⟩:=nj I.hok ea
  obtain ⟨od,J,_⟩:=O.look
  exact PySem.W.kia_one (PySem.W.kitx_own (cl.get _) cl.hd ha hn htk hm) I.lq J e (fun z=>nomatch z) h
end
structure fc (k:Nat) (A:Around):Prop where
 hd:A.handled=none
 dp:A.depth + 3 * k + 5 < recursionLimit
 un:A.units + 16 * k + 200 < cLine
theorem fc.mono {j k:Nat} {A:Around} (r:fc k A) (h:j ≤ k):fc j A:=⟨r.hd,by have:=r.dp; omega,by have:=r.un; omega⟩
theorem fc.deeper {k:Nat} {A:Around} (r:fc (k + 1) A) (env:Env):fc k (A.deeper env) :=
 ⟨r.hd,by have:=r.dp; show A.depth + 1 + 3 * k + 5 < _; omega,by have:=r.un; show A.units + 3 + 16 * k + 200 < _; omega⟩
theorem vU {A:Around} {C:Addr} {us:List Value} {kw:List (Str × Value)}:(A.under (.builtin "type.__call__" ⟨.ref C :: us,kw⟩)).depth=A.depth + 1:=by
 first | rfl | simp [Around.under,Code.weight,Code.isCreation,Code.isGuard,Code.isCaller,Code.frames,Code.isFrame,guardIds]
theorem vV {A:Around} {C:Addr} {us:List Value} {kw:List (Str × Value)}:(A.under (.builtin "type.__call__" ⟨.ref C :: us,kw⟩)).units=A.units + 1:=by
 first | rfl | simp [Around.under,Code.cUnits,Code.frames,Code.isFrame]
theorem fc.make {k:Nat} {A:Around} (r:fc (k + 1) A) (C:Addr) (us:List Value) (kw:List (Str × Value)):fc k (A.under (.builtin "type.__call__" ⟨.ref C :: us,kw⟩)) :=
 ⟨r.hd,by have:=r.dp; rw [vU]; omega,by have:=r.un; rw [vV]; omega⟩
theorem fc.depth {k:Nat} {A:Around} (r:fc k A):A.depth < recursionLimit:=by have:=r.dp; omega
theorem fc.units {k:Nat} {A:Around} (r:fc k A):A.units + 64 < cLine:=by have:=r.un; omega
def B6:TA:=fun _ H Q=>Q [] H
def Iq (ta:TE) (tr:TA):TA:=fun σ H Q=>ta σ H fun x H1=>tr σ H1 fun xs H2=>Q (x :: xs) H2
section
variable {X:Cx} {e:Expr} {es:List Expr} {te:TE} {t:TA} {pos:Pos}
theorem ak:PA X [] B6:=fun _ _ _ _ H Q I h=>Calls.spliced_nil ⟨[],H,I,.nil,h⟩
theorem ae (ha:PE X e te) (hr:PA X es t) (hs:starEach (e :: es) X.env=(false,eval e X.env) :: starEach es X.env:=by rfl):PA X (e :: es) (Iq te t):=by
 intro pos pins s σ H Q I h
 rw [hs]
 show wpAny _ _ (spliced ((false,eval e X.env) :: backTo pos (starEach es X.env))) _ _ s
 refine Calls.spliced_cons (cC (ha pins s σ H _ I h) fun u s1 ⟨x,H1,I1,r1,q1⟩=>?_)
 exact cC (hr pos pins s1 σ H1 _ I1 q1) fun us s2 ⟨xs,H2,I2,r2,q2⟩=>⟨x :: xs,H2,I2,.cons r1 r2,q2⟩
def RI (t:TA):TE:=fun σ H Q=>t σ H fun xs H1=>xs.length ≤ sizeLine∧∀ p,H1 p=none→Q (.ref p) (upd H1 p (.tup xs))
def B7 (t:TA):TE:=fun σ H Q=>t σ H fun xs H1=>xs.length ≤ sizeLine∧∀ p,H1 p=none→Q (.ref p) (upd H1 p (.lst xs))
theorem bf {x1} (h:PA X es t):PE X (.Tuple es x1 pos) (RI t):=by
 intro pins s σ H Q I hq
 refine wpAny_Tuple_spliced (cC (h pos pins s σ H _ I hq) fun us s1 ⟨xs,H1,I1,r,z,q⟩=>⟨by rw [← r.length]; exact z,?_⟩)
 have hf:H1 s1.heap.objs.size=none:=I1.hok.fresh (Nat.le_refl _)
 refine ⟨.ref s1.heap.objs.size,upd H1 s1.heap.objs.size (.tup xs),I1.laid (t':=s1.toks) (fun b u e=>Heap.get?_push_of_some _ e) (Nat.le_refl _) ?_,rfl,q _ hf⟩
 exact ⟨z,us,r,⟨_,Heap.get?_push_size _ rfl,rfl,_,rfl⟩⟩
theorem cr (h:PA X es t):PE X (.List es pos) (B7 t):=by
 intro pins s σ H Q I hq
 refine wpAny_List_spliced (cC (h pos pins s σ H _ I hq) fun us s1 ⟨xs,H1,I1,r,z,q⟩=>⟨by rw [← r.length]; exact z,?_⟩)
 have hf:H1 s1.heap.objs.size=none:=I1.hok.fresh (Nat.le_refl _)
 refine ⟨.ref s1.heap.objs.size,upd H1 s1.heap.objs.size (.lst xs),I1.laid (t':=s1.toks) (fun b u e=>Heap.get?_push_of_some _ e) (Nat.le_refl _) ?_,rfl,q _ hf⟩
 exact ⟨z,us,0,r,Heap.get?_push_size _ rfl⟩
end
abbrev Sp:=List V→Hp→VK→XK→Prop
abbrev BH:=List Env→Hp→Shared→XK→Value→Shared→Prop
structure vW (P:Program) (w:World) (K:PySem.W.Frag) (mg:Str→Option Value) (base:Heap) (A:Around) (outer:List Env) (s:Shared) (H:Hp):Prop where
 frames:A.frames=some outer
 mod:Mod K mg base
 bs:∀ b o,base.get? b=some o→s.heap.get? b=some o∧H b=none
 Fd:base.objs.size ≤ s.heap.objs.size
 mr:s.heap.FunFrames base outer
 Jt:∀ b ∈ frs outer,H b=none
 hok:jO P w H s.heap
 bare:AllBare s.gens
def CE (outer:List Env) (P:Program) (w:World) (H:Hp) (s:Shared) (Q:VK) (u:Value) (s':Shared):Prop :=
 ∃ v H',s'.os=s.os∧AllBare s'.gens∧Un (frs outer) [] H H' s.heap s'.heap∧jO P w H' s'.heap∧RelV v u∧Q v H'
def CR (CX:BH) (outer:List Env) (P:Program) (w:World) (H:Hp) (s:Shared) (Q:VK) (E:XK) (r:Result) (s':Shared):Prop :=
 match r with
 | .ok (.ret u)=>CE outer P w H s Q u s'
 | .ok _=>False
 | .error e=>CX outer H s E e s'
structure aM (P:Program) (w:World) (K:PySem.W.Frag) (mg:Str→Option Value) (base:Heap) (CX:BH) (k:Nat) (f:Addr) (fd:FuncData) (ps:List Str) (sp:Sp):Prop where
 len:∀ vs H Q E,sp vs H Q E→vs.length=ps.length
 run:∀ (A:Around) (outer:List Env) (s:Shared) (H:Hp) (args:Args) (us:List Value) (vs:List V) (Q:VK) (E:XK),fc k A→vW P w K mg base A outer s H→BindsTo s fd args (ps.zip us)→Vals vs us→sp vs H Q E →
  codeAny (model P w) A (.call (.ref f) args) (CR CX outer P w H s Q E) s
theorem aM.mono {P:Program} {w:World} {K:PySem.W.Frag} {mg:Str→Option Value} {base:Heap} {CX:BH} {j k:Nat} {f:Addr} {fd:FuncData} {ps:List Str} {sp:Sp} (F:aM P w K mg base CX j f fd ps sp) (h:j ≤ k) :
  aM P w K mg base CX k f fd ps sp:=⟨F.len,fun A outer s H args us vs Q E hr=>F.run A outer s H args us vs Q E (hr.mono h)⟩
theorem vW.make {P:Program} {w:World} {K:PySem.W.Frag} {mg:Str→Option Value} {base:Heap} {A:Around} {outer:List Env} {s:Shared} {H:Hp} (e:vW P w K mg base A outer s H) (C:Addr) (us:List Value) (kw:List (Str × Value)) :
  vW P w K mg base (A.under (.builtin "type.__call__" ⟨.ref C :: us,kw⟩)) outer s H:=⟨by first | exact e.frames | (simpa [Around.under,Code.envs,Code.isFrame,pushEnvs] using e.frames),e.mod,e.bs,e.Fd,e.mr,e.Jt,e.hok,e.bare⟩
section
variable {X:Cx} {pins:List (Addr × Obj)} {σ:St} {H:Hp} {s s':Shared}
theorem Inv.env0 (I:Inv X pins σ H s):vW X.prog X.w X.K X.mg X.base X.A X.stack s H :=
 ⟨I.ok.frames,I.ok.mod,I.bs,Nat.le_trans I.ok.Fd I.sz,I.stack,I.ym,I.hok,I.bare⟩
theorem Inv.after {Q:VK} {u:Value} (I:Inv X pins σ H s) (h:CE X.stack X.prog X.w H s Q u s'):EP X pins σ Q u s':=by
 obtain ⟨v,H',os,bare,un,hok,r,q⟩:=h
 obtain ⟨hh,g,d,t,os'⟩:=s'
 obtain rfl:os'=s.os:=os
 exact ⟨v,H',I.call (h':=hh) (g':=g) (d':=d) (t':=t) (ch:=[]) un hok bare (fun b z=>absurd z (by simp)),r,q⟩
end
def Mv (sp:Sp) (qo:List V) (E:XK) (t:TA):TE:=fun σ H Q=>t σ H fun vs H1=>sp (vs ++ qo) H1 Q E
def Mw (C:Addr) (m:Str) (sp:Sp) (qo:List V) (E:XK) (ta:TE) (t:TA):TE:=fun σ H Q=>ta σ H fun x H1=>∃ a dx fs,x=.ref a∧H1 a=some (.ins C dx fs)∧fs.lookup m=none ∧
 t σ H1 fun vs H2=>sp (x :: (vs ++ qo)) H2 Q E
def Mx (C:Addr) (sp:Sp) (qo:List V) (E:XK) (t:TA):TE:=fun σ H Q=>t σ H fun vs H1=>∀ x dx,H1 x=none→H1 dx=none→dx ≠ x →
 sp (.ref x :: (vs ++ qo)) (upd (upd H1 dx (.own x)) x (.ins C dx [])) (fun v H2=>v=.non∧Q (.ref x) H2) E
def Binds (K:PySem.W.Frag) (fd:FuncData) (ps:List Str) (ds:List Value):Prop :=
 ∀ (s:Shared) (us:List Value),K.In s.heap→(us ++ ds).length=ps.length→BindsTo s fd ⟨us,[]⟩ (ps.zip (us ++ ds))
theorem Binds.all {K:PySem.W.Frag} {fd:FuncData} {ps:List Str} (h:∀ us:List Value,us.length=ps.length→bindArgs fd ⟨us,[]⟩=pure (ps.zip us)):Binds K fd ps []:=fun s us _ hl=>by
 rw [List.append_nil] at hl ⊢
 exact .of_eq (h us hl)
def Passes (CX:BH) (X:Cx) (E:XK):Prop:=∀ (pins:List (Addr × Obj)) (σ:St) (H:Hp) (s:Shared) (e:Value) (s':Shared),Inv X pins σ H s→CX X.stack H s E e s'→X.xe e s'
section
variable {X:Cx} {CX:BH} {k:Nat} {f C:Addr} {fd:FuncData} {ps:List Str} {sp:Sp} {qo:List V} {ds:List Value} {E:XK} {x m:Str} {p pos apos:Pos} {e o:Expr} {es:List Expr} {ta:TE} {t:TA}
theorem vX {pins:List (Addr × Obj)} {σ:St} {H:Hp} {s:Shared} {Q:VK} {us:List Value} {vs:List V} (F:aM X.prog X.w X.K X.mg X.base CX k f fd ps sp) (hr:fc k X.A) (hb:Binds X.K fd ps ds) (hd:Vals qo ds) (hx:Passes CX X E)
  (I:Inv X pins σ H s) (r:Vals vs us) (h:sp (vs ++ qo) H Q E):wpAny (model X.prog X.w) X.A (call (.ref f) us) (EP X pins σ Q) X.xe s:=by
 have r2:Vals (vs ++ qo) (us ++ ds):=r.append hd
 have hl:(us ++ ds).length=ps.length:=by rw [← r2.length]; exact F.len _ _ _ _ h
 refine wpAny_call (codeAny_mono (F.run X.A X.stack s H ⟨us,[]⟩ (us ++ ds) (vs ++ qo) Q E hr I.env0 (hb s us I.lq hl) r2 h) fun r s' hq=>?_)
 cases r with
 | error e=>exact hx pins σ H s e s' I hq
 | ok fl =>
  cases fl with
  | ret u=>exact I.after hq
  | next=>exact False.elim hq
  | brk=>exact False.elim hq
  | cont=>exact False.elim hq
theorem aN (F:aM X.prog X.w X.K X.mg X.base CX k f fd ps sp) (hr:fc k X.A) (hg:Gl X x) (hm:X.mg x=some (.ref f)) (hk:PySem.W.keepIn X.K (.ref f)=true) (hb:Binds X.K fd ps ds) (hd:Vals qo ds) (hx:Passes CX X E)
  (ha:PA X (e :: es) t) (hdb:(x == ("__debug__" : Str))=false:=by decide) (he:starEach (e :: es) X.env=(false,eval e X.env) :: starEach es X.env:=by rfl) (hpl:(backTo pos (starEach es X.env)).any (·.1)=false:=by rfl) :
  PE X (.Call (.Name x p) (e :: es) [] pos) (Mv sp qo E t):=by
 intro pins s σ H Q I h
 refine wpAny_Call_Name_kw (rO I hg hm ?_ hdb)
 refine PySem.W.callWith_K (h₀:=X.base) I.ok.mod.Mb hk (cC (ha pos pins s σ H _ I h) fun us s1 ⟨vs,H1,I1,r,q⟩=>⟨I1.lq,?_⟩) he hpl
 exact vX F hr hb hd hx I1 r q
theorem dM {pl:Sem Bool} (he:PE X o ta) (c:Cls X.K C) (hm:Meth X.K C m f) (F:aM X.prog X.w X.K X.mg X.base CX k f fd ps sp) (hr:fc k X.A) (hb:Binds X.K fd ps ds) (hd:Vals qo ds) (hx:Passes CX X E)
  (ht:eval (.Call (.Attribute o m apos) [] [] pos) X.env=(do
   let ov ← eval o X.env
   standAt apos.atName
   let (f,first) ← holding [ov] (getMethod ov m pl)
   callWith pos f first (backTo pos (starEach [] X.env)) (backToKw pos (keywordEach [] X.env))):=by rfl) :
  PE X (.Call (.Attribute o m apos) [] [] pos) (Mw C m sp qo E ta B6):=by
 intro pins s σ H Q I h
 refine PySem.W.methodCall_KW (pl:=pl) (cC (he pins s σ H _ I h) fun u s1 ⟨x,H1,I1,rx,a,dx,fs,ex,ea,l,q⟩=>?_) ht
 subst ex
 obtain rfl:u=Value.ref a:=rx
 refine vS I1 ea c hm l ?_
 exact PySem.W.callWith_K0 (first:=[.ref a]) I1.lq hm.kp (vX (us:=[.ref a]) (vs:=[.ref a]) F hr hb hd hx I1 (.cons rfl .nil) q)
structure Mk (K:PySem.W.Frag) (C f:Addr):Prop where
 makes:PySem.W.makesIn K C=true
 init:PySem.W.findIn K (.ref C) "__init__" = some (some (.ref f))
 fn:PySem.W.isFn K (.ref f)=true
 kp:PySem.W.keepIn K (.ref C)=true
theorem B8 {pins:List (Addr × Obj)} {σ:St} {H:Hp} {s:Shared} {Q:VK} {us:List Value} {vs:List V} (M:Mk X.K C f) (F:aM X.prog X.w X.K X.mg X.base CX k f fd ps sp) (hr:fc (k + 1) X.A) (hb:Binds X.K fd ps ds) (hd:Vals qo ds)
  (hx:Passes CX X E) (I:Inv X pins σ H s) (r:Vals vs us)
  (h:∀ x dx,H x=none→H dx=none→dx ≠ x→sp (.ref x :: (vs ++ qo)) (upd (upd H dx (.own x)) x (.ins C dx [])) (fun v H2=>v=.non∧Q (.ref x) H2) E) :
  wpAny (model X.prog X.w) X.A (call (.ref C) us) (EP X pins σ Q) X.xe s:=by
 have hq:=h (s.heap.objs.size + 1) s.heap.objs.size (I.hok.fresh (Nat.le_succ _)) (I.hok.fresh (Nat.le_refl _)) (Nat.ne_of_lt (Nat.lt_succ_self _))
 have I2:=Inv.made (C:=C) I
 have r2:Vals (V.ref (s.heap.objs.size + 1) :: (vs ++ qo)) (Value.ref (s.heap.objs.size + 1) :: (us ++ ds)):=.cons rfl (r.append hd)
 have hl:(Value.ref (s.heap.objs.size + 1) :: us ++ ds).length=ps.length:=by
  have e:=r2.length
  rw [F.len _ _ _ _ hq] at e
  exact e.symm
 refine wpAny_call (B5 (f:=f) I.lq M.makes M.init (beq_iff_eq.mp M.fn) (codeAny_mono (F.run _ X.stack _ _ ⟨Value.ref (s.heap.objs.size + 1) :: us,[]⟩ (Value.ref (s.heap.objs.size + 1) :: (us ++ ds)) _ _ E (hr.make C us [])
  (I2.env0.make C us []) (hb _ (Value.ref (s.heap.objs.size + 1) :: us) I2.lq hl) r2 hq) fun r s' hq'=>?_))
 cases r with
 | error e=>exact hx pins σ _ _ e s' I2 hq'
 | ok fl =>
  cases fl with
  | ret u =>
   obtain ⟨v,H',I3,rv,ev,q3⟩:=I2.after hq'
   subst ev
   exact ⟨rv,⟨V.ref (s.heap.objs.size + 1),H',I3,rfl,q3⟩⟩
  | next=>exact False.elim hq'
  | brk=>exact False.elim hq'
  | cont=>exact False.elim hq'
theorem yr (M:Mk X.K C f) (F:aM X.prog X.w X.K X.mg X.base CX k f fd ps sp) (hr:fc (k + 1) X.A) (hg:Gl X x) (hm:X.mg x=some (.ref C)) (hb:Binds X.K fd ps ds) (hd:Vals qo ds) (hx:Passes CX X E)
  (ha:PA X (e :: es) t) (hdb:(x == ("__debug__" : Str))=false:=by decide) (he:starEach (e :: es) X.env=(false,eval e X.env) :: starEach es X.env:=by rfl) (hpl:(backTo pos (starEach es X.env)).any (·.1)=false:=by rfl) :
  PE X (.Call (.Name x p) (e :: es) [] pos) (Mx C sp qo E t):=by
 intro pins s σ H Q I h
 refine wpAny_Call_Name_kw (rO I hg hm ?_ hdb)
 refine PySem.W.callWith_K (h₀:=X.base) I.ok.mod.Mb M.kp (cC (ha pos pins s σ H _ I h) fun us s1 ⟨vs,H1,I1,r,q⟩=>⟨I1.lq,?_⟩) he hpl
 exact B8 M F hr hb hd hx I1 r q
end
section
variable {X:Cx} {CX:BH} {k:Nat} {f C:Addr} {fd:FuncData} {ps ks:List Str} {sp:Sp} {E:XK} {x m:Str} {p pos apos kpos:Pos} {e o:Expr} {es:List Expr} {kws:List Keyword} {te ta:TE} {t tk:TA} {nm:Option Str}
variable {g:List Value→List Value→List Value} {gV:List V→List V→List V}
end
structure aG (N P:List Str) (sc:Scope):Prop where
 kind:sc.kind=.function
 co:sc.isCoroutine=false
 gen:sc.isGenerator=false
 nd:N.Nodup
 pre:N.take P.length=P
 par:∀ x ∈ P,sc.names.lookup x=some .local∨sc.names.lookup x=some .cell
 JL:∀ y ∈ sc.names,y.2 ≠ .free
theorem qN {kindOf:Str→Option NameKind} {x:Str}:∀ {binds:List (Str × Value)} {m:Str→Option Value},(∀ v,(x,v) ∉ binds)→bindL kindOf binds m x=m x
 | [],_,_=>rfl
 | (n,v) :: r,m,h=>by
  unfold bindL
  rw [qN fun w hw=>h w (List.mem_cons_of_mem _ hw)]
  split
  ·have:x ≠ n:=by rintro rfl; exact h v List.mem_cons_self
   simp [this]
  ·rfl
theorem qO {kindOf:Str→Option NameKind} {x:Str}:∀ {binds:List (Str × Value)} {m:Str→Option Value},(∀ v,(x,v) ∉ binds)→bindC kindOf binds m x=m x
 | [],_,_=>rfl
 | (n,v) :: r,m,h=>by
  unfold bindC
  rw [qO fun w hw=>h w (List.mem_cons_of_mem _ hw)]
  split
  ·rfl
  ·have:x ≠ n:=by rintro rfl; exact h v List.mem_cons_self
   simp [this]
theorem qP {kindOf:Str→Option NameKind} {x:Str} {v:Value}:∀ {P:List Str} {vs:List Value} {i:Nat} {m:Str→Option Value},P.Nodup→P[i]? = some x→vs[i]? = some v→kindOf x=some .local →
  bindL kindOf (P.zip vs) m x=some v
 | [],_,_,_,_,h,_,_=>by simp at h
 | _ :: _,[],_,_,_,_,h,_=>by simp at h
 | p :: P,w :: vs,0,m,nd,h1,h2,hk=>by
  simp at h1 h2; subst h1; subst h2
  show bindL kindOf ((p,w) :: P.zip vs) m p=_
  unfold bindL
  rw [qN fun v hv=>(List.nodup_cons.mp nd).1 (List.of_mem_zip hv).1,if_pos hk]
  simp
 | p :: P,w :: vs,i + 1,m,nd,h1,h2,hk=>by
  show bindL kindOf ((p,w) :: P.zip vs) m x=_
  unfold bindL
  exact qP (i:=i) (List.nodup_cons.mp nd).2 (by simpa using h1) (by simpa using h2) hk
theorem qQ {kindOf:Str→Option NameKind} {x:Str} {v:Value}:∀ {P:List Str} {vs:List Value} {i:Nat} {m:Str→Option Value},P.Nodup→P[i]? = some x→vs[i]? = some v→kindOf x ≠ some .local →
  bindC kindOf (P.zip vs) m x=some v
 | [],_,_,_,_,h,_,_=>by simp at h
 | _ :: _,[],_,_,_,_,h,_=>by simp at h
 | p :: P,w :: vs,0,m,nd,h1,h2,hk=>by
  simp at h1 h2; subst h1; subst h2
  show bindC kindOf ((p,w) :: P.zip vs) m p=_
  unfold bindC
  rw [qO fun v hv=>(List.nodup_cons.mp nd).1 (List.of_mem_zip hv).1,if_neg hk]
  simp
 | p :: P,w :: vs,i + 1,m,nd,h1,h2,hk=>by
  show bindC kindOf ((p,w) :: P.zip vs) m x=_
  unfold bindC
  exact qQ (i:=i) (List.nodup_cons.mp nd).2 (by simpa using h1) (by simpa using h2) hk
def start (N:List Str) (vs:List V):St:=vs.map some ++ List.replicate (N.length - vs.length) none
def z9 (CX:BH) (P:Program) (w:World) (K:PySem.W.Frag) (mg:Str→Option Value) (base:Heap) (N:List Str) (qual:Str) (scope:Scope) (f:Addr) (cd:Value) (A:Around) (outer:List Env) (s:Shared) (H:Hp) (E:XK):Cx where
 prog:=P
 w:=w
 K:=K
 mg:=mg
 base:=base
 A:=A.deeper (envOfC qual scope s.heap.objs.size f cd)
 N:=N
 s₀:=s
 H₀:=H
 env:=envOfC qual scope s.heap.objs.size f cd
 outer:=outer
 stack:=envOfC qual scope s.heap.objs.size f cd :: outer
 ex:=[]
 calm:=true
 fn:=fun _=>true
 pn:=[]
 xe:=fun e s'=>wpAny (model P w) (A.deeper (envOfC qual scope s.heap.objs.size f cd)) (leaving (envOfC qual scope s.heap.objs.size f cd) e) (fun _ s''=>CX outer H s E e s'') (fun e' s''=>CX outer H s E e' s'') s'
theorem uK {sc:Scope} {n:Nat} {x:Str} (h:sc.names.lookup x=some .cell):∃ c,(cellsFrom n sc.names []).lookup x=some c:=by
 have q:=PySem.W.cellsFrom_some sc.names n [] (.inl h)
 exact Option.isSome_iff_exists.mp q
theorem Aa {CX:BH} {P:Program} {w:World} {K:PySem.W.Frag} {mg:Str→Option Value} {base:Heap} {N ps:List Str} {qual:Str} {scope:Scope} {f:Addr} {cd:Value} {A:Around} {outer:List Env} {s s1:Shared} {H:Hp} {E:XK} {us:List Value} {vs:List V}
  (S:aG N ps scope) (hd:A.handled=none) (e0:vW P w K mg base A outer s H) (hl:vs.length=ps.length) (r:Vals vs us)
  (x:InCallC s s.heap.objs.size (bindL (envOfC qual scope s.heap.objs.size f cd).kindOf (ps.zip us) fun _=>none) (cellsFrom (s.heap.objs.size + 1) scope.names []) (bindC (envOfC qual scope s.heap.objs.size f cd).kindOf (ps.zip us) fun _=>none) s1) :
  Inv (z9 CX P w K mg base N qual scope f cd A outer s H E) [] (start N vs) H s1:=by
 have hpl:ps.length ≤ N.length:=by have:=congrArg List.length S.pre; rw [List.length_take] at this; omega
 obtain ⟨h1,tk,rfl,hk⟩:=x.done
 have Mz:∀ b:Addr,b ∉ (z9 CX P w K mg base N qual scope f cd A outer s H E).ex:=fun b z=>absurd (show b ∈ ([]:List Addr) from z) (by simp)
 refine ⟨⟨e0.mod,S.kind,rfl,rfl,Nat.le_refl _,fun y z c h1 h2=>?_,fun y hy=>?_,fun y c _ h=>?_,fun _=>hd,Around.frames_deeper e0.frames,.inr ⟨rfl,rfl⟩,fun b z=>absurd z (Mz b),e0.bs,e0.Fd,fun b _ _=>Mz b,fun b z=>absurd z (Mz b),e0.mr,e0.Jt⟩,
  rfl,e0.bare,Un.kept hk,⟨_,x.toInCall.ns,fun i y v h1 h2 h3=>?_⟩,fun y c h=>⟨_,x.cell y c h⟩,e0.hok.fresh (Nat.le_refl _),fun y c h=>?_,fun p hp=>absurd (show p ∈ ([]:List (Addr × Obj)) from hp) (by simp),e0.hok.kept hk,?_⟩
 ·exact name_of_addr x.apart (PySem.mem_of_lookup h1) (PySem.mem_of_lookup h2)
 ·have hy:scope.names.lookup y=some .cell∨scope.names.lookup y=some .free:=hy
  rcases hy with hy | hy
  ·exact uK hy
  ·exact absurd rfl (S.JL _ (PySem.mem_of_lookup hy))
 ·exact Nat.le_of_lt (x.above y c (PySem.mem_of_lookup h))
 ·have hi:i < vs.length:=by
   unfold start at h2
   by_cases hi:i < vs.length
   ·exact hi
   ·rw [List.getElem?_append_right (by simpa using hi)] at h2
    rw [List.getElem?_replicate] at h2
    split at h2 <;> cases h2
  have ha:vs[i]? = some v:=by
   unfold start at h2
   rw [List.getElem?_append_left (by simpa using hi),List.getElem?_map] at h2
   cases e:vs[i]? with
   | none=>rw [e] at h2; cases h2
   | some a=>rw [e] at h2; cases h2; rfl
  obtain ⟨u,hu,rv⟩:=r.get ha
  have hp:ps[i]? = some y:=by
   rw [← S.pre,List.getElem?_take_of_lt (by omega)]; exact h1
  have ndP:ps.Nodup:=by rw [← S.pre]; exact S.nd.sublist (List.take_sublist _ _)
  refine ⟨u,rv,?_⟩
  rcases S.par y (List.mem_of_getElem? hp) with k | k
  ·exact .inl ⟨k,qP ndP hp hu k⟩
  ·obtain ⟨c,e⟩:=uK (n:=s.heap.objs.size + 1) k
   refine .inr ⟨.inl k,c,e,?_⟩
   have q:=x.cell y c e
   rw [qQ ndP hp hu (by show scope.names.lookup y ≠ _; rw [k]; decide)] at q
   exact q
 ·exact e0.hok.fresh (Nat.le_of_lt (x.above y c (PySem.mem_of_lookup h)))
 ·unfold start
  show _=N.length
  rw [List.length_append,List.length_map,List.length_replicate]
  omega
theorem MB {CX:BH} {P:Program} {w:World} {K:PySem.W.Frag} {mg:Str→Option Value} {base:Heap} {k:Nat} {f:Addr} {name qual:Str} {params:Arguments} {body:List Stmt} {scope:Scope} {dV kV doc pm cdv ct oc:Value} {an od:Option Addr}
  {osl:Array (Option Value)} {N ps:List Str} {sp:Sp} (lk:K.lookup f=some ⟨oc,od,.func (PySem.W.fnOf name qual params body scope dV kV doc pm an cdv ct),osl⟩) (hcd:PySem.W.codeIn K cdv qual=true) (S:aG N ps scope)
  (len:∀ vs H Q E,sp vs H Q E→vs.length=ps.length)
  (hbody:∀ (A:Around) (outer:List Env) (s:Shared) (H:Hp) (vs:List V) (Q:VK) (E:XK),fc k (A.deeper (envOfC qual scope s.heap.objs.size f cdv))→sp vs H Q E →
   ∃ t,rN (z9 CX P w K mg base N qual scope f cdv A outer s H E) body t∧t { nx:=fun _ H'=>Q .non H',rt:=Q } (start N vs) H) :
  aM P w K mg base CX (k + 1) f (PySem.W.fnOf name qual params body scope dV kV doc pm an cdv ct) ps sp:=by
 refine ⟨len,fun A outer s H args us vs Q E hr e0 hb r hsp=>?_⟩
 have hl:=len _ _ _ _ hsp
 have KX:K.In s.heap:=e0.mod.Mb.keeps fun b o e=>(e0.bs b o e).1
 have lim:s.heap.NoLimit:=e0.mod.nolimit.keeps fun b o e=>(e0.bs b o e).1
 have hkind:∀ y ∈ ps.zip us,scope.names.lookup y.1=some .local∨(scope.names.lookup y.1=some .cell∧((cellsFrom (s.heap.objs.size + 1) scope.names []).lookup y.1).isSome=true):=fun ⟨n,v⟩ hy=>by
  rcases S.par n (List.of_mem_zip hy).1 with q | q
  ·exact .inl q
  ·exact .inr ⟨q,PySem.W.cellsFrom_some _ _ _ (.inl q)⟩
 refine codeAny_call_function hr.depth (KX _ _ lk) rfl S.co S.gen rfl (PySem.W.codeRec_of KX hcd) (hb _ _ _ _ ?_)
 refine wpAny_newFunctionEnv_cells S.kind hkind fun env he s1 x=>?_
 subst he
 refine ⟨lim.keeps x.toInCall.keep,codeAny_func ?_⟩
 obtain ⟨t,ht,hq⟩:=hbody A outer s H vs Q E (hr.deeper _) hsp
 have I:Inv (z9 CX P w K mg base N qual scope f cdv A outer s H E) [] (start N vs) H s1:=Aa S hr.hd e0 hl r x
 refine wpAny_mono (ht [] s1 (start N vs) H _ I hq) (fun fl s' hs=>?_) fun e s' hs=>hs
 have fin:∀ {σ':St} {H':Hp} {v:V} {u:Value},Inv (z9 CX P w K mg base N qual scope f cdv A outer s H E) [] σ' H' s'→RelV v u→Q v H'→CE outer P w H s Q u s' :=
  fun {σ' H' v u} J rv q=>⟨v,H',J.os,J.bare,J.base,J.hok,rv,q⟩
 cases fl with
 | ret u =>
  obtain ⟨v,σ',H',J,rv,q⟩:=hs
  exact fin J rv q
 | next =>
  obtain ⟨σ',H',J,q⟩:=hs
  exact fin (v:=V.non) (u:=Value.none) J rfl q
 | brk =>
  obtain ⟨_,_,_,q⟩:=hs
  exact False.elim q
 | cont =>
  obtain ⟨_,_,_,q⟩:=hs
  exact False.elim q
section
variable {X:Cx} {x:Str} {p pos:Pos} {e:Expr} {es:List Expr} {t:TA} {id T:String} {r:List V→Hp→VK→Prop}
def tCB (r:List V→Hp→VK→Prop) (t:TA):TE:=fun σ H Q=>t σ H fun vs H1=>r vs H1 Q
theorem aQ (hc:hC X (.builtin id) r) (hg:Gl X x) (hm:X.mg x=none) (hv:bootBuiltins x=some (.builtin id)) (ha:PA X (e :: es) t) (hn:x ≠ "__name__" := by decide) (hdb:(x == ("__debug__" : Str))=false:=by decide)
  (he:starEach (e :: es) X.env=(false,eval e X.env) :: starEach es X.env:=by rfl) (hpl:(backTo pos (starEach es X.env)).any (·.1)=false:=by rfl):PE X (.Call (.Name x p) (e :: es) [] pos) (tCB r t):=by
 intro pins s σ H Q I h
 refine wpAny_Call_Name_kw (jP I hg hm hv ?_ hn hdb)
 exact PyProof.Rows.callWith_builtin1 (cC (ha pos pins s σ H _ I h) fun us s1 ⟨vs,H1,I1,r1,q1⟩=>hc pins s1 σ H1 vs us Q I1 r1 q1) he hpl
theorem cU (hc:hC X (.type T) r) (hg:Gl X x) (hm:X.mg x=none) (hv:bootBuiltins x=some (.type T)) (ha:PA X (e :: es) t) (hn:x ≠ "__name__" := by decide) (hdb:(x == ("__debug__" : Str))=false:=by decide)
  (he:starEach (e :: es) X.env=(false,eval e X.env) :: starEach es X.env:=by rfl) (hpl:(backTo pos (starEach es X.env)).any (·.1)=false:=by rfl):PE X (.Call (.Name x p) (e :: es) [] pos) (tCB r t):=by
 intro pins s σ H Q I h
 refine wpAny_Call_Name_kw (jP I hg hm hv ?_ hn hdb)
 exact PyProof.Rows.callWith_type1 (cC (ha pos pins s σ H _ I h) fun us s1 ⟨vs,H1,I1,r1,q1⟩=>hc pins s1 σ H1 vs us Q I1 r1 q1) he hpl
end
end L2
namespace HT
open PySem PyProof.Rows
section
open PySem.SeqAt
open PySem.AutoSeq1 (wpAny_loadPart')
open PySem.MeetsSeq PySem.MeetsSeq2 PySem.MeetsSeq3
end
section
variable {prog:Program} {w:World} {A:Around} {E:Value→Shared→Prop} {s:Shared}
def ef (n d:Nat):Option Int→Nat
 | none=>d
 | some v=>if v < 0 then (v + (n:Int)).toNat else min v.toNat n
theorem uL (n d:Nat):ef n d none=d:=rfl
theorem iA (n d k:Nat):ef n d (some (k:Int))=min k n:=by
 show (if (k:Int) < 0 then ((k:Int) + (n:Int)).toNat else min (k:Int).toNat n)=min k n
 rw [if_neg (by omega),Int.toNat_natCast]
theorem JM (n d:Nat) (hd:d ≤ n) (o:Option Int):ef n d o ≤ n:=by
 cases o with
 | none=>exact hd
 | some v =>
  show (if v < 0 then (v + (n:Int)).toNat else min v.toNat n) ≤ n
  by_cases hv:v < 0
  ·rw [if_pos hv]; omega
  ·rw [if_neg hv]; exact Nat.min_le_right _ _
theorem yt (v:Int) (n d:Nat):(if v < 0 then max (v + (n:Int)) 0 else min v (n:Int))=((ef n d (some v):Nat):Int):=by
 show (if v < 0 then max (v + (n:Int)) 0 else min v (n:Int))=(((if v < 0 then (v + (n:Int)).toNat else min v.toNat n):Nat):Int)
 by_cases hv:v < 0
 ·simp only [if_pos hv]; omega
 ·simp only [if_neg hv]; omega
theorem vY (lo hi:Option Int) (n:Nat):Builtin.Slice.sliceAdjust lo hi 1 (n:Int)=(((ef n 0 lo:Nat):Int),((ef n n hi:Nat):Int)):=by
 have h1:¬ ((1:Int) < 0):=by omega
 unfold Builtin.Slice.sliceAdjust
 simp only [h1,if_false]
 refine Prod.ext ?_ ?_
 ·cases lo with
  | none=>rfl
  | some v=>exact yt v n 0
 ·cases hi with
  | none=>rfl
  | some v=>exact yt v n n
theorem vZ (i j:Nat):Builtin.Slice.slicePlaces (i:Int) (j:Int) 1=j - i:=by
 unfold Builtin.Slice.slicePlaces
 have h1:(1:Int) > 0:=by omega
 simp only [h1,if_true,Int.ediv_one]
 split <;> omega
theorem oo {v:Value} {o:Option Int} {Q:Option Int→Shared→Prop} (p:IsPart v o) (h:Q o s):wpAny (model prog w) A (Builtin.Slice.slicePartIndex v) Q E s:=by
 cases p with
 | none=>exact slicePart_none h
 | int i t=>exact slicePart_int h
theorem lJ {sl:Addr} {vl vu:Value} {lo hi:Option Int} {n:Nat} {Q:Int × Int × Nat→Shared→Prop} (hs:s.heap.IsSliceOf sl vl vu .none) (pl:IsPart vl lo) (pu:IsPart vu hi)
  (h:Q (((ef n 0 lo:Nat):Int),1,ef n n hi - ef n 0 lo) s):wpAny (model prog w) A (Builtin.Slice.sliceApplied (.ref sl) (pure (n:Int))) Q E s:=by
 obtain ⟨os,hos,hcs,hds⟩:=id hs
 unfold Builtin.Slice.sliceApplied Builtin.Slice.sliceFields
 refine wpAny_bind (wpAny_bind (wpAny_field hos hds (x:=vl) rfl (wpAny_bind (wpAny_field hos hds (x:=vu) rfl (wpAny_bind (wpAny_field hos hds (x:=.none) rfl (wpAny_pure ?_)))))))
 refine wpAny_bind (slicePart_none ?_)
 show wpAny _ _ (if ((1:Int) == 0)=true then _ else _) _ _ s
 rw [if_neg (by decide)]
 refine wpAny_bind (oo pl (wpAny_bind (oo pu (wpAny_bind (wpAny_pure ?_)))))
 show wpAny _ _ (match Builtin.Slice.sliceAdjust lo hi 1 (n:Int) with | (lo,hi)=>pure (lo,(1:Int),Builtin.Slice.slicePlaces lo hi 1)) _ _ s
 rw [vY lo hi n]
 show wpAny _ _ (pure (((ef n 0 lo:Nat):Int),(1:Int),Builtin.Slice.slicePlaces ((ef n 0 lo:Nat):Int) ((ef n n hi:Nat):Int) 1)) _ _ s
 rw [vZ]
 exact wpAny_pure h
theorem B9 (xs:Array Value) (i k:Nat):((List.range k).filterMap fun (m:Nat)=>xs[((i:Int) + (m:Int) * 1).toNat]?).toArray=((xs.toList.drop i).take k).toArray:=by
 have e:(fun (m:Nat)=>xs[((i:Int) + (m:Int) * 1).toNat]?)=fun m=>xs[i + m]? := by
  funext m
  have:((i:Int) + (m:Int) * 1).toNat=i + m:=by omega
  rw [this]
 rw [e]
 have:=pick_run xs i k
 rw [List.filterMap_map] at this
 have e2:((fun x=>xs[x]?) ∘ fun x=>i + x)=fun m=>xs[i + m]? := rfl
 rw [e2] at this
 rw [this]
theorem j7 {t sl:Addr} {items:Array Value} {vl vu:Value} {lo hi:Option Int} {Q:Value→Shared→Prop} (ht:IsTup s.heap t items) (hs:s.heap.IsSliceOf sl vl vu .none) (pl:IsPart vl lo) (pu:IsPart vu hi)
  (hw:¬ (ef items.size 0 lo=0∧ef items.size items.size hi=items.size))
  (h:Q (.ref s.heap.objs.size) { s with heap:=s.heap.push { cls:=.type "tuple",data:=.seq ((items.toList.drop (ef items.size 0 lo)).take (ef items.size items.size hi - ef items.size 0 lo)).toArray } })
  (hsz:items.size ≤ sizeLine):wpAny (model prog w) A (getItem (.ref t) (.ref sl)) Q E s:=by
 have yu:sizeOk (.seq ((items.toList.drop (ef items.size 0 lo)).take (ef items.size items.size hi - ef items.size 0 lo)).toArray):=by
  show ((items.toList.drop (ef items.size 0 lo)).take (ef items.size items.size hi - ef items.size 0 lo)).toArray.size ≤ sizeLine
  rw [List.size_toArray,List.length_take,List.length_drop,Array.length_toList]
  omega
 have hj:ef items.size items.size hi ≤ items.size:=JM _ _ (Nat.le_refl _) hi
 obtain ⟨os,hos,hcs,hds⟩:=id hs
 have hTs:s.TypeIs (.ref sl) "slice" := ⟨os,hos,hcs⟩
 unfold getItem
 try with_reducible refine wpAny_holding ?_
 first | refine wpAny_bind (wpAny_pure ?_) | skip
 refine wpAny_bind (wpAny_sequenceKey ht.typeIs (by decide) ?_)
 refine wpAny_bind (wpAny_callSpecial?_slot (name:=Str.ofString "__getitem__") ht.typeIs PyProof.Rows.slot_tuple_getitem
  (wpAny_call_entry PyProof.Rows.slot_tuple_getitem ht.typeIs entry_tuple_getitem ?_ (args_tuple_getitem _ _)))
 show wpAny _ _ (Builtin.Tuple.tupleItemsOf (.ref t) >>= _) _ _ s
 refine wpAny_bind (tupleItemsOf_ ht ?_)
 refine wpAny_bind (wpAny_typeOf hTs ?_)
 rw [if_pos (by decide)]
 refine wpAny_bind (lJ hs pl pu ?_)
 have hno:¬ ((((ef items.size 0 lo:Nat):Int) == 0 && (1:Int) == 1 && (ef items.size items.size hi - ef items.size 0 lo) == items.size)=true):=by
  intro q
  rw [Bool.and_eq_true,Bool.and_eq_true] at q
  have q1:((ef items.size 0 lo:Nat):Int)=0:=eq_of_beq q.1.1
  have q2:ef items.size items.size hi - ef items.size 0 lo=items.size:=eq_of_beq q.2
  exact hw ⟨by omega,by omega⟩
 show wpAny _ _ (if (((ef items.size 0 lo:Nat):Int) == 0 && (1:Int) == 1 && (ef items.size items.size hi - ef items.size 0 lo) == items.size)=true then _ else _) _ _ s
 rw [if_neg hno,B9]
 first
  | exact wpAny_bind (m:=Builtin.Tuple.tupleExact _) (wpAny_newObj_type (wpAny_pure ⟨_,rfl,wpAny_pure h⟩) yu)
  | exact wpAny_bind (m:=Builtin.Tuple.tupleExact _) (wpAny_newObj_type (wpAny_bind (wpAny_pure (wpAny_pure ⟨_,rfl,wpAny_pure h⟩))) yu)
  | exact wpAny_bind (wpAny_bind (m:=Builtin.Tuple.tupleExact _) (wpAny_newObj_type (wpAny_pure (wpAny_pure ⟨_,rfl,wpAny_pure h⟩)) yu))
  | exact wpAny_bind (wpAny_bind (m:=Builtin.Tuple.tupleExact _) (wpAny_newObj_type (wpAny_pure ⟨_,rfl,wpAny_pure h⟩) yu))
end
end HT
namespace L2
open PySem PySem.Spec PyProof.Rows
abbrev TO:=St→Hp→(Option Int→Hp→Prop)→Prop
def PO (X:Cx) (e:Option Expr) (t:TO):Prop :=
 ∀ (pins:List (Addr × Obj)) (s:Shared) (σ:St) (H:Hp) (Q:Option Int→Hp→Prop),Inv X pins σ H s→t σ H Q →
  wpAny (model X.prog X.w) X.A (evalPart e X.env) (fun u s'=>∃ o H',Inv X pins σ H' s'∧IsPart u o∧Q o H') X.xe s
def Fj:TO:=fun _ H Q=>Q none H
def MC (t:TE):TO:=fun σ H Q=>t σ H fun x H1=>∃ i,x=.int i∧Q (some i) H1
theorem intsAre_of {ns:List Int}:∀ {us:List Value},Vals (ns.map V.int) us→IntsAre us ns:=by
 induction ns with
 | nil=>intro us r; rw [List.map_nil] at r; cases r; exact .nil
 | cons n ns ih =>
  intro us r
  rw [List.map_cons] at r
  cases r with
  | cons r1 r2 =>
   obtain ⟨t,e⟩:=r1
   subst e
   exact .cons n t (ih r2)
section
variable {X:Cx} {e:Expr} {te:TE} {lo hi:Option Expr} {tl th:TO} {pos p2:Pos}
theorem iB:PO X none Fj:=by
 intro pins s σ H Q I h
 rw [evalPart_none]
 exact wpAny_pure ⟨none,H,I,.none,h⟩
theorem dC (h:PE X e te):PO X (some e) (MC te):=by
 intro pins s σ H Q I hw
 rw [evalPart_some]
 refine cC (h pins s σ H _ I hw) fun u s1 ⟨x,H1,I1,r1,q1⟩=>?_
 obtain ⟨i,rfl,q⟩:=q1
 obtain ⟨t,rfl⟩:=r1
 exact ⟨some i,H1,I1,.int i t,q⟩
def RJ (X:Cx) (r:V→Option Int→Option Int→Hp→VK→Prop):Prop :=
 ∀ (pins:List (Addr × Obj)) (s:Shared) (σ:St) (H:Hp) (x:V) (v vl vu:Value) (lo hi:Option Int) (sl:Addr) (Q:VK),Inv X pins σ H s→RelV x v→s.heap.IsSliceOf sl vl vu .none→IsPart vl lo→IsPart vu hi→r x lo hi H Q →
  ∃ T id,typeLookup (.type T) "__getitem__" = pure (some (.builtin id))∧s.TypeIs v T∧wpAny (model X.prog X.w) X.A (getItem v (.ref sl)) (EP X pins σ Q) X.xe s
def tSl (r:V→Option Int→Option Int→Hp→VK→Prop) (te:TE) (tl th:TO):TE:=fun σ H Q=>te σ H fun x H1=>tl σ H1 fun l H2=>th σ H2 fun u H3=>r x l u H3 Q
theorem dO {r:V→Option Int→Option Int→Hp→VK→Prop} (hr:RJ X r) (he:PE X e te) (hl:PO X lo tl) (hu:PO X hi th):PE X (.Subscript e (.Slice lo hi none p2) pos) (tSl r te tl th):=by
 intro pins s σ H Q I h
 refine Subscript_ (cC (he pins s σ H _ I h) fun v s1 ⟨x,H1,I1,r1,q1⟩=>?_)
 refine wpAny_Slice (cC (hl pins s1 σ H1 _ I1 q1) fun vl s2 ⟨l,H2,I2,pl,q2⟩=>cC (hu pins s2 σ H2 _ I2 q2) fun vu s3 ⟨u,H3,I3,pu,q3⟩=>?_)
 rw [evalPart_none]
 refine wpAny_pure ?_
 have I4:Inv X pins σ H3 { s3 with heap:=s3.heap.push { cls:=.type "slice",data:=.fields #[vl,vu,.none] } }:=I3.kept (t':=s3.toks) fun b ob q=>Heap.get?_push_of_some _ q
 obtain ⟨T,id,hT,ht,hg⟩:=hr pins { s3 with heap:=s3.heap.push { cls:=.type "slice",data:=.fields #[vl,vu,.none] } } σ H3 x v vl vu l u s3.heap.objs.size Q I4 r1 (Heap.IsSliceOf.new ..) pl pu q3
 show wpAny (model X.prog X.w) X.A (subscriptTail e (.Slice lo hi none p2) v (.ref s3.heap.objs.size)) (EP X pins σ Q) X.xe { s3 with heap:=s3.heap.push { cls:=.type "slice",data:=.fields #[vl,vu,.none] } }
 exact tail_any (ops:=[.ref s3.heap.objs.size,v]) ht hT hg (by with_unfolding_all rfl)
def eJ (xs:List V) (lo hi:Option Int):List V:=(xs.drop (HT.ef xs.length 0 lo)).take (HT.ef xs.length xs.length hi - HT.ef xs.length 0 lo)
theorem lZ (xs:List V) (lo hi:Option Int):(eJ xs lo hi).length ≤ xs.length:=by
 unfold eJ
 rw [List.length_take,List.length_drop]
 omega
def RK (K:PySem.W.Frag):V→Option Int→Option Int→Hp→VK→Prop:=fun x lo hi H Q=>∃ a xs,x=.ref a∧bp K H a xs ∧
 ¬ (HT.ef xs.length 0 lo=0∧HT.ef xs.length xs.length hi=xs.length)∧∀ p,H p=none→Q (.ref p) (upd H p (.tup (eJ xs lo hi)))
theorem Ca:RJ X (RK X.K):=by
 intro pins s σ H x v vl vu lo hi sl Q I rx hs pl pu h
 obtain ⟨a,xs,rfl,hx,hw,q⟩:=h
 cases rx
 obtain ⟨its,r,ht,hz⟩:=I.tuple hx
 have hlen:its.toArray.size=xs.length:=by rw [List.size_toArray]; exact r.length.symm
 refine ⟨"tuple",_,PyProof.Rows.slot_tuple_getitem.lookup,ht.typeIs,?_⟩
 refine HT.j7 ht hs pl pu (by rw [hlen]; exact hw) ?_ (by rw [hlen]; exact hz)
 rw [hlen]
 refine ⟨.ref s.heap.objs.size,_,I.laid (t':=s.toks) (o:=.tup (eJ xs lo hi)) (fun b ob q=>Heap.get?_push_of_some _ q) (Nat.le_refl _) ?_,rfl,q _ (I.hok.fresh (Nat.le_refl _))⟩
 exact ⟨Nat.le_trans (lZ xs lo hi) hz,_,(r.drop (HT.ef xs.length 0 lo)).take (HT.ef xs.length xs.length hi - HT.ef xs.length 0 lo),IsTup.new _ _⟩
end
def BI (n:Nat) (i:Int):Option Nat:=if 0 ≤ i then (if i < n then some i.toNat else none) else if -(n:Int) ≤ i then some (i + n).toNat else none
def oq {α:Type} (xs:List α) (i:Int):Option α:=(BI xs.length i).bind fun j=>xs[j]?
theorem yv {n:Nat} {i:Int} {j:Nat} (h:BI n i=some j):seqIndex? i n=some j∧j < n∧-(n:Int) ≤ i∧i < n:=by
 unfold BI at h
 by_cases h0:0 ≤ i
 ·rw [if_pos h0] at h
  by_cases h1:i < n
  ·rw [if_pos h1] at h
   have e:i.toNat=j:=Option.some.inj h
   exact ⟨by rw [seqIndex_of h0 h1,e],by omega,by omega,h1⟩
  ·rw [if_neg h1] at h; cases h
 ·rw [if_neg h0] at h
  by_cases h1:-(n:Int) ≤ i
  ·rw [if_pos h1] at h
   have e:(i + n).toNat=j:=Option.some.inj h
   exact ⟨by rw [seqIndex_neg (by omega) h1,e],by omega,h1,by omega⟩
  ·rw [if_neg h1] at h; cases h
theorem yw {α:Type} {xs:List α} {i:Int} {v:α} (h:oq xs i=some v):∃ j,seqIndex? i xs.length=some j∧xs[j]? = some v∧j < xs.length∧-(xs.length:Int) ≤ i∧i < xs.length:=by
 unfold oq at h
 cases e:BI xs.length i with
 | none=>rw [e] at h; cases h
 | some j =>
  rw [e] at h
  obtain ⟨h1,h2,h3,h4⟩:=yv e
  exact ⟨j,h1,h,h2,h3,h4⟩
theorem cw {α:Type} {xs:List α} {j:Nat} {v:α} (h:xs[j]? = some v):oq xs (j:Int)=some v:=by
 have hj:j < xs.length:=(List.getElem?_eq_some_iff.mp h).1
 have e:BI xs.length (j:Int)=some j:=by
  unfold BI
  rw [if_pos (by omega),if_pos (by omega)]; simp
 unfold oq; rw [e]; exact h
def Fk (b:Expr):Prop:=∀ o i,subscripted b false o i=operate [o,i] (getItem o i)
def RL (X:Cx) (r:R2):Prop :=
 ∀ (value slice:Expr) (pins:List (Addr × Obj)) (s:Shared) (σ:St) (H:Hp) (x y:V) (v u:Value) (Q:VK),Inv X pins σ H s→RelV x v→RelV y u→r x y H Q →
  subscripted slice false v u=operate [v,u] (getItem v u)→wpAny (model X.prog X.w) X.A (subscriptTail value slice v u) (EP X pins σ Q) X.xe s
def QT (X:Cx) (id:String) (r:V→List V→Hp→VK→Prop):Prop :=
 ∀ (pins:List (Addr × Obj)) (s:Shared) (σ:St) (H:Hp) (x:V) (xs:List V) (v:Value) (us:List Value) (Q:VK),Inv X pins σ H s→RelV x v→Vals xs us→r x xs H Q →
  wpAny (model X.prog X.w) X.A (call (.builtin id) (v :: us)) (EP X pins σ Q) X.xe s
section
variable {X:Cx} {a b:Expr} {ta tb:TE} {pos:Pos}
theorem aB {r:R2} (hr:RL X r) (ha:PE X a ta) (hb:PE X b tb) (hs:Fk b):PE X (.Subscript a b pos) (QR r ta tb):=by
 intro pins s σ H Q I h
 exact Subscript_ (JH ha hb I h fun v u s2 x y H2 I2 rx ry q=>hr a b pins s2 σ H2 x y v u Q I2 rx ry q (hs _ _))
def JN (K:PySem.W.Frag):R2:=fun x y H Q=>∃ p xs i v,x=.ref p∧y=.int i∧aZ K H p xs∧oq xs i=some v∧Q v H
def JO (K:PySem.W.Frag):R2:=fun x y H Q=>∃ p xs i v,x=.ref p∧y=.int i∧bp K H p xs∧oq xs i=some v∧Q v H
theorem aV:RL X (JN X.K):=by
 intro value slice pins s σ H x y v u Q I rx ry h hs
 obtain ⟨p,xs,i,z,rfl,rfl,hq,he,q⟩:=h
 cases rx
 obtain ⟨t,rfl⟩:=ry
 obtain ⟨its,r,pl,hz⟩:=I.list hq
 obtain ⟨j,h1,h2,h3,h4,h5⟩:=yw he
 obtain ⟨w,ew,lK⟩:=r.get h2
 have hl:=r.length
 have hn:=rT
 have fin:EP X pins σ Q w s:=⟨z,H,I,lK,q⟩
 by_cases h0:0 ≤ i
 ·have hj:i.toNat=j:=by
   rw [seqIndex_of h0 h5] at h1
   exact Option.some.inj h1
  exact item_listR pl.isList h0 (by omega) (by rw [hj]; simpa using ew) fin hs
 ·have hj:(i + (its.toArray.size:Int)).toNat=j:=by
   rw [seqIndex_neg (by omega) h4] at h1
   rw [List.size_toArray,← hl]
   exact Option.some.inj h1
  exact subscriptTail_builtinR (x:=w) pl.isList.typeIs slot_list_getitem.lookup
   (wpAny_getItem_list_neg (Q:=fun r s'=>r=w∧EP X pins σ Q r s') pl.isList (by omega) (by rw [List.size_toArray] <;> omega) (by omega) (by rw [hj]; simpa using ew) ⟨rfl,fin⟩) hs
theorem aI:RL X (JO X.K):=by
 intro value slice pins s σ H x y v u Q I rx ry h hs
 obtain ⟨p,xs,i,z,rfl,rfl,hq,he,q⟩:=h
 cases rx
 obtain ⟨t,rfl⟩:=ry
 obtain ⟨its,r,pl,hz⟩:=I.tuple hq
 obtain ⟨j,h1,h2,h3,h4,h5⟩:=yw he
 obtain ⟨w,ew,lK⟩:=r.get h2
 have hl:=r.length
 have hn:=rT
 have fin:EP X pins σ Q w s:=⟨z,H,I,lK,q⟩
 exact subscriptTail_builtinR (x:=w) pl.typeIs slot_tuple_getitem.lookup
  (getItem_tuple (j:=j) (Q:=fun r s'=>r=w∧EP X pins σ Q r s') pl (by omega) (by omega) (by rw [List.size_toArray,← hl]; exact h1) (by simpa using ew) ⟨rfl,fin⟩) hs
theorem wc (its:List Value) (n j:Nat) (u:Value):Obj.mapSeq (·.setIfInBounds j u) { cls:=.type "list",data:=.seq its.toArray n }={ cls:=.type "list",data:=.seq (its.set j u).toArray n }:=by
 simp [Obj.mapSeq]
theorem Inv.lst {pins:List (Addr × Obj)} {σ:St} {H:Hp} {s:Shared} {p:Addr} {xs:List V} (I:Inv X pins σ H s) (h:H p=some (.lst xs)) :
  ∃ (its:List Value) (n:Nat),Vals xs its∧s.heap.get? p=some { cls:=.type "list",data:=.seq its.toArray n }∧xs.length ≤ sizeLine:=by
 obtain ⟨z,its,n,r,e⟩:=I.hok p _ h
 exact ⟨its,n,r,e,z⟩
theorem Inv.JP {pins:List (Addr × Obj)} {σ:St} {H:Hp} {s:Shared} {p:Addr} {xs ys:List V} {its its':List Value} {n n':Nat} {f:Obj→Obj} (I:Inv X pins σ H s) (h:H p=some (.lst xs))
  (ho:s.heap.get? p=some { cls:=.type "list",data:=.seq its.toArray n }) (hf:f { cls:=.type "list",data:=.seq its.toArray n }={ cls:=.type "list",data:=.seq its'.toArray n' }) (r:Vals ys its') (hz:ys.length ≤ sizeLine) (t:Nat) :
  Inv X pins σ (upd H p (.lst ys)) { s with heap:=s.heap.update p f,toks:=t }:=by
 have e:(s.heap.update p f).get? p=some { cls:=.type "list",data:=.seq its'.toArray n' }:=by
  rw [Heap.get?_update_self f ho (by rw [hf] <;> rfl),hf]
 refine I.write (x:=p) (e:=p) (by rw [h]; trivial) (.inl rfl) (fun b u hb q=>(Heap.get?_update_other _ _ (Ne.symm hb)).trans q) ⟨_,e⟩ ?_
 exact ⟨hz,its',n',r,e⟩
def MD:V→V→V→Hp→(Hp→Prop)→Prop:=fun o i v H Q=>∃ p xs k j,o=.ref p∧i=.int k∧H p=some (.lst xs)∧BI xs.length k=some j∧Q (upd H p (.lst (xs.set j v)))
theorem set_list:Ml X MD:=by
 intro pins s σ H o i v ov iv u Q I ro ri rv h
 obtain ⟨p,xs,k,j,rfl,rfl,hp,hj,q⟩:=h
 cases ro
 obtain ⟨t,rfl⟩:=ri
 obtain ⟨its,n,r,ho,hz⟩:=I.lst hp
 obtain ⟨h1,h2,h3,h4⟩:=yv hj
 have hl:=r.length
 have hn:=rT
 have I':Inv X pins σ (upd H p (.lst (xs.set j v))) { s with heap:=s.heap.update p (Obj.mapSeq (·.setIfInBounds j u)) } :=
  I.JP hp ho (wc its n j u) (r.set rv j) (by rw [List.length_set]; exact hz) s.toks
 by_cases h0:0 ≤ k
 ·have hk:k.toNat=j:=by
   rw [seqIndex_of h0 h4] at h1
   exact Option.some.inj h1
  exact PySem.W.ki_setAt ho h0 (by omega) (by rw [List.size_toArray,← hl]; exact h4) (by rw [hk]; exact ⟨_,I',q⟩)
 ·have hk:(k + (its.toArray.size:Int)).toNat=j:=by
   rw [seqIndex_neg (by omega) h3] at h1
   rw [List.size_toArray,← hl]
   exact Option.some.inj h1
  exact PySem.W.ki_setBack ho (by omega) (by rw [List.size_toArray,← hl]; exact h3) (by omega) (by rw [hk]; exact ⟨_,I',q⟩)
theorem rV (lo hi:Option Int) (n:Nat):(sliceBounds lo hi none n).1=((HT.ef n 0 lo:Nat):Int)∧(sliceBounds lo hi none n).2.1=((HT.ef n n hi:Nat):Int)∧(sliceBounds lo hi none n).2.2=1:=by
 refine ⟨?_,?_,rfl⟩
 ·cases lo with
  | none=>simp [sliceBounds,HT.ef]
  | some i =>
   simp only [sliceBounds,HT.ef,Option.getD_none,show (1:Int) > 0 by decide,if_true]
   by_cases h:i < 0
   ·simp only [h,if_true] <;> omega
   ·simp only [h,if_false] <;> omega
 ·cases hi with
  | none=>simp [sliceBounds,HT.ef]
  | some i =>
   simp only [sliceBounds,HT.ef,Option.getD_none,show (1:Int) > 0 by decide,if_true]
   by_cases h:i < 0
   ·simp only [h,if_true] <;> omega
   ·simp only [h,if_false] <;> omega
theorem qq (its:List Value) (lo hi:Option Int):slicePick its.toArray lo hi none=((its.drop (HT.ef its.length 0 lo)).take (HT.ef its.length its.length hi - HT.ef its.length 0 lo)).toArray:=by
 obtain ⟨h1,h2,h3⟩:=rV lo hi its.toArray.size
 unfold slicePick
 rw [h1,h2,h3]
 simp only [sliceRange_one,pick_run,List.size_toArray] <;> rfl
def RM (K:PySem.W.Frag):V→Option Int→Option Int→Hp→VK→Prop:=fun x lo hi H Q=>∃ a xs,x=.ref a∧aZ K H a xs∧∀ p,H p=none→Q (.ref p) (upd H p (.lst (eJ xs lo hi)))
theorem gh:RJ X (RM X.K):=by
 intro pins s σ H x v vl vu lo hi sl Q I rx hs pl pu h
 obtain ⟨a,xs,rfl,hx,q⟩:=h
 cases rx
 obtain ⟨its,r,ht,hz⟩:=I.list hx
 have hlen:=r.length
 refine ⟨"list",_,slot_list_getitem.lookup,ht.isList.typeIs,?_⟩
 refine wpAny_getItem_list_slice ht.isList hs pl pu .none (by simp) ?_ (by rw [List.size_toArray] <;> omega)
 rw [qq,← hlen]
 refine ⟨.ref s.heap.objs.size,_,I.laid (t':=s.toks) (o:=.lst (eJ xs lo hi)) (fun b ob q=>Heap.get?_push_of_some _ q) (Nat.le_refl _) ?_,rfl,q _ (I.hok.fresh (Nat.le_refl _))⟩
 exact ⟨Nat.le_trans (lZ xs lo hi) hz,_,0,(r.drop (HT.ef xs.length 0 lo)).take (HT.ef xs.length xs.length hi - HT.ef xs.length 0 lo),Heap.get?_push_size _ rfl⟩
def jH:V→Bool
 | .non=>true
 | .bl _=>true
 | .int _=>true
 | .str _=>true
 | _=>false
def Ir:V→V→Bool
 | .non,.non=>true
 | .bl a,.bl b=>a == b
 | .bl a,.int b=>(if a then 1 else 0) == b
 | .int a,.bl b=>a == (if b then 1 else 0)
 | .int a,.int b=>a == b
 | .str a,.str b=>a == b
 | _,_=>false
theorem JQ {A:Around} {s:Shared} {y x:V} {u v:Value} (ry:RelV y u) (rx:RelV x v) (fy:jH y=true) (fx:jH x=true):SeqAt.EqAt A s u v (Ir y x):=by
 cases y with
 | non =>
  cases ry
  cases x with
  | non=>cases rx; exact SeqAt.EqAt.same _
  | bl b=>cases rx; exact SeqAt.EqAt.none_bool b
  | int b=>obtain ⟨t,rfl⟩:=rx; exact SeqAt.EqAt.none_int b t
  | str b=>obtain ⟨t,rfl⟩:=rx; exact SeqAt.EqAt.none_str b t
  | _=>exact absurd (show false=true from fx) Bool.false_ne_true
 | bl a =>
  cases ry
  cases x with
  | non=>cases rx; exact SeqAt.EqAt.bool_none a
  | bl b=>cases rx; exact SeqAt.EqAt.bool_bool a b
  | int b=>obtain ⟨t,rfl⟩:=rx; exact SeqAt.EqAt.bool_int a b t
  | str b=>obtain ⟨t,rfl⟩:=rx; exact SeqAt.EqAt.bool_str a b t
  | _=>exact absurd (show false=true from fx) Bool.false_ne_true
 | int a =>
  obtain ⟨t',rfl⟩:=ry
  cases x with
  | non=>cases rx; exact SeqAt.EqAt.int_none a t'
  | bl b=>cases rx; exact SeqAt.EqAt.int_bool a t' b
  | int b=>obtain ⟨t,rfl⟩:=rx; exact SeqAt.EqAt.int_int a t' b t
  | str b=>obtain ⟨t,rfl⟩:=rx; exact SeqAt.EqAt.int_str a t' b t
  | _=>exact absurd (show false=true from fx) Bool.false_ne_true
 | str a =>
  obtain ⟨t',rfl⟩:=ry
  cases x with
  | non=>cases rx; exact SeqAt.EqAt.str_none a t'
  | bl b=>cases rx; exact SeqAt.EqAt.str_bool a t' b
  | int b=>obtain ⟨t,rfl⟩:=rx; exact SeqAt.EqAt.str_int a t' b t
  | str b=>obtain ⟨t,rfl⟩:=rx; exact SeqAt.EqAt.str_str a t' b t
  | _=>exact absurd (show false=true from fx) Bool.false_ne_true
 | _=>exact absurd (show false=true from fy) Bool.false_ne_true
def uq (x:V) (u:Value):Bool:=match u with
 | .none=>Ir .non x
 | .bool b=>Ir (.bl b) x
 | .int i _=>Ir (.int i) x
 | .str z _=>Ir (.str z) x
 | _=>false
theorem wg {x y:V} {u:Value} (r:RelV y u) (f:jH y=true):uq x u=Ir y x:=by
 cases y with
 | non=>cases r; rfl
 | bl b=>cases r; rfl
 | int i=>obtain ⟨t,rfl⟩:=r; rfl
 | str z=>obtain ⟨t,rfl⟩:=r; rfl
 | _=>exact absurd (show false=true from f) Bool.false_ne_true
theorem j8 {x:V}:∀ {xs:List V} {us:List Value},Vals xs us→xs.all jH=true→us.any (uq x)=xs.any fun y=>Ir y x
 | _,_,.nil,_=>rfl
 | y :: xs,u :: us,.cons r t,f=>by
  rw [List.all_cons,Bool.and_eq_true] at f
  rw [List.any_cons,List.any_cons,wg r f.1,j8 t f.2]
theorem hU {A:Around} {s:Shared} {x:V} {v:Value} (rx:RelV x v) (fx:jH x=true):∀ {xs:List V} {us:List Value},Vals xs us→xs.all jH=true→∀ u ∈ us,SeqAt.EqAt A s u v (uq x u)
 | _,_,.nil,_=>fun u hu=>by cases hu
 | y :: xs,u :: us,.cons r t,f=>fun u' hu=>by
  rw [List.all_cons,Bool.and_eq_true] at f
  rcases List.mem_cons.mp hu with rfl | hu
  ·rw [wg r f.1]; exact JQ r rx f.1 fx
  ·exact hU rx fx t f.2 u' hu
def inV (x:V) (xs:List V):Bool:=xs.any fun y=>Ir y x
def RN (K:PySem.W.Frag) (neg:Bool):R2:=fun x y H Q=>∃ p xs,y=.ref p∧(aZ K H p xs∨bp K H p xs)∧jH x=true∧xs.all jH=true∧Q (.bl (if neg then !inV x xs else inV x xs)) H
theorem dH:jS X (compareOp .In) (RN X.K false):=by
 intro pins s σ H x y v u Q I rx ry h
 obtain ⟨p,xs,rfl,hq,fx,fs,q⟩:=h
 cases ry
 rcases hq with hq | hq
 ·obtain ⟨its,r,pl,hz⟩:=I.list hq
  refine SeqAt.in_listAt (uq x) pl.isList (fun w hw=>hU rx fx r fs w (by simpa using hw)) ⟨.bl _,H,I,rfl,?_⟩
  rw [show its.toArray.any (uq x)=its.any (uq x) by simp,j8 r fs]
  exact q
 ·obtain ⟨its,r,pl,hz⟩:=I.tuple hq
  refine SeqAt.in_tupleAt (uq x) pl (fun w hw=>hU rx fx r fs w (by simpa using hw)) ⟨.bl _,H,I,rfl,?_⟩
  rw [show its.toArray.any (uq x)=its.any (uq x) by simp,j8 r fs]
  exact q
theorem rW:jS X (compareOp .NotIn) (RN X.K true):=by
 intro pins s σ H x y v u Q I rx ry h
 obtain ⟨p,xs,rfl,hq,fx,fs,q⟩:=h
 cases ry
 rcases hq with hq | hq
 ·obtain ⟨its,r,pl,hz⟩:=I.list hq
  refine SeqAt.notIn_listAt (uq x) pl.isList (fun w hw=>hU rx fx r fs w (by simpa using hw)) ⟨.bl _,H,I,rfl,?_⟩
  rw [show its.toArray.any (uq x)=its.any (uq x) by simp,j8 r fs]
  exact q
 ·obtain ⟨its,r,pl,hz⟩:=I.tuple hq
  refine SeqAt.notIn_tupleAt (uq x) pl (fun w hw=>hU rx fx r fs w (by simpa using hw)) ⟨.bl _,H,I,rfl,?_⟩
  rw [show its.toArray.any (uq x)=its.any (uq x) by simp,j8 r fs]
  exact q
theorem aL:hC X (.builtin "len") (fun xs H Q=>∃ p ys,xs=[.ref p]∧(aZ X.K H p ys∨bp X.K H p ys)∧Q (.int ys.length) H):=by
 intro pins s σ H xs us Q I r h
 obtain ⟨p,ys,rfl,hq,q⟩:=h
 obtain ⟨u,rfl,rx⟩:=vals1 r
 cases rx
 have hn:=rT
 rcases hq with hq | hq
 ·obtain ⟨its,r',pl,hz⟩:=I.list hq
  have hlen:=r'.length
  exact Calls.call_len_list pl.isList (by simp only [List.size_toArray] <;> omega) ⟨.int ys.length,H,I.tok _,⟨s.toks + 1,by rw [List.size_toArray,hlen]⟩,q⟩
 ·obtain ⟨its,r',pl,hz⟩:=I.tuple hq
  have hlen:=r'.length
  exact len_tuple pl (by simp only [List.size_toArray] <;> omega) ⟨.int ys.length,H,I.tok _,⟨s.toks + 1,by rw [List.size_toArray,hlen]⟩,q⟩
theorem gi:hC X (.type "list") (fun xs H Q=>∃ p ys,xs=[.ref p]∧(aZ X.K H p ys∨bp X.K H p ys)∧∀ l,H l=none→Q (.ref l) (upd H l (.lst ys))):=by
 intro pins s σ H xs us Q I r h
 obtain ⟨p,ys,rfl,hq,q⟩:=h
 obtain ⟨u,rfl,rx⟩:=vals1 r
 cases rx
 have fin:∀ (its:List Value),Vals ys its→ys.length ≤ sizeLine→∀ (h':Heap) (c':Nat),(∀ b o',s.heap.get? b=some o'→h'.get? b=some o') →
   h'.get? s.heap.objs.size=some { cls:=.type "list",dict:=none,data:=.seq its.toArray c',slots:=#[] }→EP X pins σ Q (.ref s.heap.objs.size) { s with heap:=h' }:=fun its r' hz h' c' kp e =>
  ⟨.ref s.heap.objs.size,_,I.laid (t':=s.toks) kp (Nat.le_refl _) (show cv X.prog X.w _ h' _ (.lst ys) from ⟨hz,its,c',r',e⟩),rfl,q _ (I.hok.fresh (Nat.le_refl _))⟩
 rcases hq with hq | hq
 ·obtain ⟨its,r',pl,hz⟩:=I.list hq
  have hlen:=r'.length
  obtain ⟨o,ho,hc,n,hd⟩:=pl.isList
  exact call_list_seq p (.inl rfl) ho hc hd (fun h' c' kp e=>fin its r' hz h' c' kp e) (by simp only [List.size_toArray] <;> omega)
 ·obtain ⟨its,r',pl,hz⟩:=I.tuple hq
  have hlen:=r'.length
  obtain ⟨o,ho,hc,n,hd⟩:=pl
  exact call_list_seq p (.inr rfl) ho hc hd (fun h' c' kp e=>fin its r' hz h' c' kp e) (by simp only [List.size_toArray] <;> omega)
theorem qr:hC X (.type "tuple") (fun xs H Q=>∃ p ys,xs=[.ref p]∧((aZ X.K H p ys∧∀ l,H l=none→Q (.ref l) (upd H l (.tup ys)))∨(bp X.K H p ys∧Q (.ref p) H))):=by
 intro pins s σ H xs us Q I r h
 obtain ⟨p,ys,rfl,h⟩:=h
 obtain ⟨u,rfl,rx⟩:=vals1 r
 cases rx
 rcases h with ⟨hq,q⟩ | ⟨hq,q⟩
 ·obtain ⟨its,r',pl,hz⟩:=I.list hq
  have hlen:=r'.length
  refine call_tuple_list pl.isList (fun h' kp=>?_) (by simp only [List.size_toArray] <;> omega)
  have I1:Inv X pins σ H { s with heap:=h' }:=I.kept (t':=s.toks) kp
  have I2:Inv X pins σ (upd H h'.objs.size (.tup ys)) { s with heap:=h'.push { cls:=.type "tuple",data:=.seq its.toArray } } :=
   I1.laid (t':=s.toks) (fun b o e=>Heap.get?_push_of_some _ e) (Nat.le_refl _) (show cv X.prog X.w _ _ _ (.tup ys) from ⟨hz,its,r',IsTup.new _ _⟩)
  exact ⟨.ref h'.objs.size,_,I2,rfl,q _ (I1.hok.fresh (Nat.le_refl _))⟩
 ·obtain ⟨its,r',pl,hz⟩:=I.tuple hq
  exact call_tuple_same pl ⟨.ref p,H,I,rfl,q⟩
def RO (K:PySem.W.Frag) (T:String) (x:V) (H:Hp):Prop:=match x with
 | .str _=>T = "str"
 | .int _=>T = "int"
 | .ref p=>(T = "list" ∧ ∃ xs,aZ K H p xs)∨(T = "tuple" ∧ ∃ o,K.lookup p=some o∧o.cls=.type "tuple" ∧ o.dict=none) ∨
   (T = "dict" ∧ ((∃ kvs,H p=some (.dK kvs))∨∃ kvs,H p=some (.dT kvs)))∨(T = "set" ∧ ∃ S n,H p=some (.set S n))
 | _=>False
theorem Cd {pins:List (Addr × Obj)} {σ:St} {H:Hp} {s:Shared} {T:String} {x:V} {v:Value} (I:Inv X pins σ H s) (r:RelV x v) (ty:RO X.K T x H) :
  s.TypeIs v T∧∀ a,v=.ref a→∃ ob,s.heap.get? a=some ob∧ob.dict=none:=by
 cases x with
 | str z =>
  obtain ⟨t,rfl⟩:=r
  cases (show T = "str" from ty)
  exact ⟨typeIs_str s z t,fun _ e=>nomatch e⟩
 | int i =>
  obtain ⟨t,rfl⟩:=r
  cases (show T = "int" from ty)
  exact ⟨typeIs_int s i t,fun _ e=>nomatch e⟩
 | ref p =>
  cases r
  rcases ty with ⟨rfl,xs,hq⟩ | ⟨rfl,o,hk,hc,hd⟩ | ⟨rfl,hk⟩ | ⟨rfl,S,n,hk⟩
  ·obtain ⟨its,_,pl,_⟩:=I.list hq
   refine ⟨pl.isList.typeIs,fun a e=>?_⟩
   cases e
   obtain ⟨o,n,e,c,hd,_⟩:=pl
   exact ⟨o,e,hd⟩
  ·refine ⟨⟨o,I.lq p o hk,hc⟩,fun a e=>?_⟩
   cases e
   exact ⟨o,I.lq _ o hk,hd⟩
  ·have z:∃ o,s.heap.get? p=some o∧o.ExactDict:=by
    rcases hk with ⟨kvs,hk⟩ | ⟨kvs,hk⟩
    ·obtain ⟨_,_,_,_,o,_,_,e,ex,_⟩:=I.hok p _ hk
     exact ⟨o,e,ex⟩
    ·obtain ⟨_,_,_,_,o,_,_,e,ex,_⟩:=I.hok p _ hk
     exact ⟨o,e,ex⟩
   obtain ⟨o,e,ex⟩:=z
   refine ⟨⟨o,e,ex.1⟩,fun a e2=>?_⟩
   cases e2
   exact ⟨o,e,ex.2.1⟩
  ·obtain ⟨o,_,_,_,e,ex,_⟩:=I.hok p _ hk
   refine ⟨⟨o,e,ex.1⟩,fun a e2=>?_⟩
   cases e2
   exact ⟨o,e,ex.2.1⟩
 | _=>exact False.elim ty
def RP (K:PySem.W.Frag) (T:String) (r:V→List V→Hp→VK→Prop) (to:TE):TE:=fun σ H Q=>to σ H fun x H1=>RO K T x H1∧r x [] H1 Q
def tBM (K:PySem.W.Frag) (T:String) (r:V→List V→Hp→VK→Prop) (to:TE) (t:TA):TE:=fun σ H Q=>to σ H fun x H1=>RO K T x H1∧t σ H1 fun xs H2=>r x xs H2 Q
variable {o e:Expr} {es:List Expr} {to:TE} {t:TA} {name:Str} {apos cpos:Pos} {T id:String} {r:V→List V→Hp→VK→Prop}
theorem JR (pa:PlainAttrs T) (slot:Slot T name id) (hty:typeOf (.builtin id)=pure (.type "method_descriptor")) (hm:QT X id r) (ho:PE X o to)
  (hbase:attributeBase o name X.env (eval o X.env)=eval o X.env:=by rfl) (hline:(apos.endLine == cpos.line)=true:=by rfl):PE X (.Call (.Attribute o name apos) [] [] cpos) (RP X.K T r to):=by
 intro pins s σ H Q I h
 refine wpAny_Call_method0_late hbase hline (cC (ho pins s σ H _ I h) fun v s1 ⟨x,H1,I1,r1,ty,q1⟩=>?_)
 obtain ⟨h1,h2⟩:=Cd I1 r1 ty
 exact ⟨T,id,pa,slot,hty,h1,h2,Calls.callWith_builtin rfl (PySem.evalArgs_none (hm pins s1 σ H1 x [] v [] Q I1 r1 .nil q1))⟩
theorem hV (pa:PlainAttrs T) (slot:Slot T name id) (hty:typeOf (.builtin id)=pure (.type "method_descriptor")) (hm:QT X id r) (ho:PE X o to) (ha:PA X (e :: es) t)
  (hbase:attributeBase o name X.env (eval o X.env)=eval o X.env:=by rfl)
  (hfew:((backTo cpos (starEach (e :: es) X.env)).all (fun x=>!x.1) && (backToKw cpos (keywordEach [] X.env)).all (fun x=>x.1.isSome)
   && decide ((e :: es).length + ([]:List Keyword).length + (if ([]:List Keyword).isEmpty then 0 else 1) < 30))=true:=by rfl)
  (hline:(apos.endLine == cpos.line)=true:=by rfl) (hs:starEach (e :: es) X.env=(false,eval e X.env) :: starEach es X.env:=by rfl) (hplain:(backTo cpos (starEach es X.env)).any (·.1)=false:=by rfl) :
  PE X (.Call (.Attribute o name apos) (e :: es) [] cpos) (tBM X.K T r to t):=by
 intro pins s σ H Q I h
 refine wpAny_Call_method_late hbase hfew hline rfl (cC (ho pins s σ H _ I h) fun v s1 ⟨x,H1,I1,r1,ty,q1⟩=>?_)
 obtain ⟨h1,h2⟩:=Cd I1 r1 ty
 refine ⟨T,id,pa,slot,hty,h1,h2,?_⟩
 have hA:=ha cpos pins s1 σ H1 _ I1 q1
 rw [hs] at hA ⊢
 refine Calls.callWith_builtin (by show (false || (backTo cpos (starEach es X.env)).any (·.1))=false; rw [hplain] <;> rfl) (Calls.evalArgs_plain ?_)
 exact cC hA fun us s2 ⟨vs,H2,I2,r2,q2⟩=>hm pins s2 σ H2 x vs v us Q I2 r1 r2 q2
/- xs.append(e),list.index on a module's tuple .. are QT facts of 06m -/
end
def MtM (X:Cx) (id:String) (r:V→List V→Hp→VK→Prop):Prop :=
 ∀ (pins:List (Addr × Obj)) (s:Shared) (σ:St) (H:Hp) (x:V) (xs:List V) (v:Value) (us:List Value) (Q:VK),Inv X pins σ H s→RelV x v→Vals xs us→r x xs H Q →
  wpAny (model X.prog X.w) X.A (call (.builtin id) (v :: us)) (EP X pins σ Q) X.xe s
theorem Vals.one:∀ {x:V} {us:List Value},Vals [x] us→∃ u,us=[u]∧RelV x u
 | _,_,.cons r .nil=>⟨_,rfl,r⟩
theorem Vals.zero:∀ {us:List Value},Vals [] us→us=[]
 | _,.nil=>rfl
theorem Vals.dropLast {xs:List V} {us:List Value} (h:Vals xs us):Vals xs.dropLast us.dropLast:=by
 induction h with
 | nil=>exact .nil
 | cons r t ih =>
  cases t with
  | nil=>exact .nil
  | cons q t'=>exact .cons r ih
theorem Vals.rep {xs:List V} {us:List Value} (h:Vals xs us):∀ k:Nat,Vals (List.replicate k xs).flatten (List.replicate k us).flatten
 | 0=>.nil
 | k + 1=>by
  rw [List.replicate_succ,List.replicate_succ,List.flatten_cons,List.flatten_cons]
  exact Vals.append h (Vals.rep h k)
theorem wj {α:Type} (l:List α):l.eraseIdx (l.length - 1)=l.dropLast:=by
 induction l with
 | nil=>rfl
 | cons a r ih =>
  cases r with
  | nil=>rfl
  | cons b r =>
   have e:(a :: b :: r).length - 1=((b :: r).length - 1) + 1:=by
    have h1:(a :: b :: r).length=r.length + 2:=rfl
    have h2:(b :: r).length=r.length + 1:=rfl
    omega
   rw [e,List.eraseIdx_cons_succ,ih]
   all_goals rfl
theorem foldl_rep (its:List Value):∀ (k:Nat) (acc:List Value),
  List.foldl (fun x1 x2=>x1 ++ x2) acc.toArray (List.replicate k its.toArray)=(acc ++ (List.replicate k its).flatten).toArray
 | 0,acc=>by simp
 | k + 1,acc=>by
  have e:acc.toArray ++ its.toArray=(acc ++ its).toArray:=by simp
  have e2:(acc ++ its) ++ (List.replicate k its).flatten=acc ++ (List.replicate (k + 1) its).flatten:=by
   rw [List.replicate_succ,List.flatten_cons,List.append_assoc]
  rw [← e2,← foldl_rep its k (acc ++ its),← e,List.replicate_succ,List.foldl_cons]
section
variable {X:Cx} {pins:List (Addr × Obj)} {σ:St} {H:Hp} {s:Shared} {l b:Addr} {xs ys zs:List V}
theorem Inv.ME {its its':List Value} {n:Nat} {f:Array Value→Array Value} {t':Nat} (I:Inv X pins σ H s) (hH:H l=some (.lst xs))
  (e:s.heap.get? l=some { cls:=.type "list",data:=.seq its.toArray n }) (hf:f its.toArray=its'.toArray) (hv:Vals ys its') (hz:ys.length ≤ sizeLine) :
  Inv X pins σ (upd H l (.lst ys)) { s with heap:=s.heap.update l (Obj.mapSeq f),toks:=t' }:=by
 have q:=PySem.IsL.update e f
 rw [hf] at q
 refine I.write (x:=l) (e:=l) (by rw [hH]; exact trivial) (.inl rfl) (fun b' u hb hu=>(Heap.get?_update_other s.heap (Obj.mapSeq f) (Ne.symm hb)).trans hu) ⟨_,q⟩ ?_
 exact ⟨hz,its',_,hv,q⟩
theorem Inv.JT {its:List Value} {t':Nat} (I:Inv X pins σ H s) (hv:Vals ys its) (hz:ys.length ≤ sizeLine) :
  Inv X pins σ (upd H s.heap.objs.size (.lst ys)) { s with heap:=s.heap.push { cls:=.type "list",data:=.seq its.toArray },toks:=t' } :=
 I.laid (fun _ _ q=>Heap.get?_push_of_some _ q) (Nat.le_refl _) ⟨hz,its,0,hv,Heap.get?_push_size _ rfl⟩
theorem Inv.fresh (I:Inv X pins σ H s):H s.heap.objs.size=none:=I.hok.fresh (Nat.le_refl _)
theorem Inv.Ce (I:Inv X pins σ H s) (hH:H l=some (.lst xs)):xs.length ≤ sizeLine∧∃ (its:List Value) (n:Nat),Vals xs its∧xs.length=its.length∧s.heap.get? l=some { cls:=.type "list",data:=.seq its.toArray n }:=by
 obtain ⟨z,its,n,r,e⟩:=I.hok l _ hH
 exact ⟨z,its,n,r,r.length,e⟩
theorem Cg {n:Nat} (h:n ≤ sizeLine):Builtin.List.listTooLong n=false:=by
 unfold Builtin.List.listTooLong
 exact decide_eq_false (by omega)
end
section
variable {X:Cx}
def Fl:V→List V→Hp→VK→Prop:=fun x vs H Q=>∃ l xs y,x=.ref l∧vs=[y]∧H l=some (.lst xs)∧xs.length < sizeLine∧Q .non (upd H l (.lst (xs ++ [y])))
theorem cJ:MtM X "list.append" Fl:=by
 intro pins s σ H x vs v us Q I rx rv h
 obtain ⟨l,xs,y,rfl,rfl,hH,hz,q⟩:=h
 cases rx
 obtain ⟨u,rfl,ru⟩:=rv.one
 obtain ⟨z,its,n,r,hl,e⟩:=I.Ce hH
 refine call_meets F.slot_list_append ⟨_,e,rfl⟩ F.entry_list_append (F.args_list_append_2 _ _) (PySem.list_append l its.toArray n u (by rw [List.size_toArray]; omega)) ⟨e,?_⟩
 refine ⟨.non,_,I.ME (its':=its ++ [u]) hH e (by simp) (r.append (.cons ru .nil)) ?_,rfl,q⟩
 rw [List.length_append,List.length_singleton]
 omega
def RQ:V→List V→Hp→VK→Prop:=fun x vs H Q=>∃ l xs y,x=.ref l∧vs=[]∧H l=some (.lst xs)∧xs[xs.length - 1]? = some y∧Q y (upd H l (.lst xs.dropLast))
theorem JU:MtM X "list.pop" RQ:=by
 intro pins s σ H x vs v us Q I rx rv h
 obtain ⟨l,xs,y,rfl,rfl,hH,hy,q⟩:=h
 cases rx
 have hus:=rv.zero
 subst hus
 obtain ⟨z,its,n,r,hl,e⟩:=I.Ce hH
 obtain ⟨u,hu,ru⟩:=r.get hy
 have hy':its.toArray[its.toArray.size - 1]? = some u:=by
  show its.toArray[its.length - 1]? = some u
  rw [← Array.getElem?_toList,← hl]
  exact hu
 refine call_meets F.slot_list_pop ⟨_,e,rfl⟩ F.entry_list_pop (F.args_list_pop_1 _) (MeetsSeq.list_pop_last l its.toArray n u hy' (by rw [List.size_toArray]; omega)) ⟨e,?_⟩
 refine ⟨y,_,I.ME (its':=its.dropLast) hH e ?_ r.dropLast ?_,ru,q⟩
 ·show its.toArray.eraseIdxIfInBounds (its.toArray.size - 1)=its.dropLast.toArray
  rw [List.size_toArray,List.eraseIdxIfInBounds_toArray,wj]
 ·rw [List.length_dropLast]
  omega
def RR:R2:=fun x y H Q=>∃ l b xs zs,x=.ref l∧y=.ref b∧H l=some (.lst xs)∧H b=some (.lst zs)∧xs.length + zs.length ≤ sizeLine∧∀ p,H p=none→Q (.ref p) (upd H p (.lst (xs ++ zs)))
theorem lL:jS X (binaryOp .Add) RR:=by
 intro pins s σ H x y v u Q I rx ry h
 obtain ⟨l,b,xs,zs,rfl,rfl,hH,hB,hz,q⟩:=h
 cases rx
 cases ry
 obtain ⟨z,its,n,r,hl,e⟩:=I.Ce hH
 obtain ⟨z2,its2,n2,r2,hl2,e2⟩:=I.Ce hB
 refine PySem.P.add_list e e2 ?_ (by rw [List.size_toArray,List.size_toArray]; omega)
 have ea:its.toArray ++ its2.toArray=(its ++ its2).toArray:=by simp
 rw [ea]
 exact ⟨.ref _,_,I.JT (t':=s.toks) (r.append r2) (by rw [List.length_append]; omega),rfl,q _ I.fresh⟩
def RS:R2:=fun x y H Q=>∃ l k xs,x=.ref l∧y=.int k∧H l=some (.lst xs)∧-(2 ^ 63) ≤ k∧k < 2 ^ 63∧xs.length * k.toNat ≤ sizeLine ∧
 ∀ p,H p=none→Q (.ref p) (upd H p (.lst (List.replicate k.toNat xs).flatten))
theorem len_rep {α:Type} (xs:List α) (k:Nat):(List.replicate k xs).flatten.length=k * xs.length:=by
 induction k with
 | zero=>simp
 | succ k ih=>rw [List.replicate_succ,List.flatten_cons,List.length_append,ih,Nat.succ_mul,Nat.add_comm]
theorem JV:jS X (binaryOp .Mult) RS:=by
 intro pins s σ H x y v u Q I rx ry h
 obtain ⟨l,k,xs,rfl,rfl,hH,h1,h2,hz,q⟩:=h
 cases rx
 obtain ⟨t,rfl⟩:=ry
 obtain ⟨z,its,n,r,hl,e⟩:=I.Ce hH
 have hlen:its.toArray.size * k.toNat ≤ sizeLine:=by rw [List.size_toArray,← hl]; exact hz
 have hcap:¬ its.toArray.size * k.toNat > (2 ^ 63 - 1) / 8:=by
  have:(sizeLine:Nat) ≤ (2 ^ 63 - 1) / 8:=by decide
  omega
 have hfit:¬ (!Builtin.List.listFitsIndex k)=true:=by
  rw [fitsIndex_both h1 h2]
  exact Bool.false_ne_true
 have MF:¬ Builtin.List.listTooLong (its.toArray.size * k.toNat)=true:=by
  rw [Cg hlen]
  exact Bool.false_ne_true
 have hnew:List.foldl (fun x1 x2=>x1 ++ x2) #[] (List.replicate (if its.toArray.isEmpty=true then 0 else k.toNat) its.toArray)=(List.replicate k.toNat its).flatten.toArray:=by
  have f0:∀ m:Nat,List.foldl (fun x1 x2=>x1 ++ x2) #[] (List.replicate m its.toArray)=(List.replicate m its).flatten.toArray:=fun m=>by
   have:=foldl_rep its m []
   rw [List.nil_append] at this
   exact this
  rw [f0]
  cases its with
  | nil=>simp
  | cons a r'=>rw [if_neg (by simp)]
 refine wpAny_binaryOp_repeat_ref (T := "list") (U := "int") (by decide) ⟨_,e,rfl⟩ (fun s'=>typeIs_int s' k t) noFill_list_mul F.fills_int_mul F.slot_int_rmul repeat_list F.slot_int_index.lookup
  (call_meets F.slot_int_rmul (typeIs_int s k t) F.entry_int_rmul (F.args_int_rmul_2 _ _) (int___rmul___int_list k t l its.toArray n)
   ⟨e,rfl,⟨_,e,rfl⟩,call_meets F.slot_list_mul ⟨_,e,rfl⟩ F.entry_list_mul (F.args_list_mul_2 _ _) (AutoListH.list___mul___list_int_3 l its.toArray n k t hfit hcap MF) ⟨e,?_⟩⟩)
 rw [hnew]
 exact ⟨.ref _,_,I.JT (t':=s.toks) (r.rep k.toNat) (by rw [len_rep,Nat.mul_comm]; exact hz),rfl,q _ I.fresh⟩
end
section
variable {prog:Program} {w:World} {A:Around} {E:Value→Shared→Prop} {s:Shared}
set_option maxRecDepth 100000 in
end
section
variable {X:Cx}
end
section
variable {κ:Type} [DecidableEq κ]
def cH (kvs:List (κ × V)) (k:κ):Option V:=(kvs.find? fun kv=>decide (kv.1=k)).map (·.2)
def putK (kvs:List (κ × V)) (k:κ) (v:V):List (κ × V) :=
 if (kvs.any fun kv=>decide (kv.1=k))=true then kvs.map (fun kv=>if kv.1=k then (kv.1,v) else kv) else kvs ++ [(k,v)]
theorem dg {p:κ × V} {r:List (κ × V)} {k:κ} (e:p.1=k):cH (p :: r) k=some p.2:=by simp [cH,List.find?_cons,e]
theorem dh {p:κ × V} {r:List (κ × V)} {k:κ} (e:¬ p.1=k):cH (p :: r) k=cH r k:=by simp [cH,List.find?_cons,e]
theorem ei (k:κ):∀ kvs:List (κ × V),(kvs.any fun kv=>decide (kv.1=k))=(cH kvs k).isSome
 | []=>rfl
 | p :: r=>by
  rw [List.any_cons]
  by_cases e:p.1=k
  ·simp only [dg e,decide_eq_true e,Bool.true_or,Option.isSome_some]
  ·rw [dh e,decide_eq_false e,Bool.false_or]; exact ei k r
theorem uM (k j:κ) (y:V):∀ kvs:List (κ × V),cH (kvs.map fun kv=>if kv.1=k then (kv.1,y) else kv) j=(cH kvs j).map fun x=>if j=k then y else x
 | []=>rfl
 | p :: r=>by
  have ih:=uM k j y r
  rw [List.map_cons]
  by_cases h:p.1=k
  ·rw [if_pos h]
   by_cases e:p.1=j
   ·rw [dg (p:=(p.1,y)) e,dg e,Option.map_some,if_pos (e.symm.trans h)]
   ·rw [dh (p:=(p.1,y)) e,dh e,ih]
  ·rw [if_neg h]
   by_cases e:p.1=j
   ·rw [dg (p:=p) e,dg e,Option.map_some,if_neg (fun z=>h (e.trans z))]
   ·rw [dh (p:=p) e,dh e,ih]
theorem qR (k j:κ) (y:V):∀ kvs:List (κ × V),cH kvs k=none→cH (kvs ++ [(k,y)]) j=if j=k then some y else cH kvs j
 | [],_=>by
  by_cases e:k=j
  ·rw [if_pos e.symm]; exact dg (p:=(k,y)) e
  ·rw [if_neg (fun z=>e z.symm)]; exact dh (p:=(k,y)) e
 | p :: r,hn=>by
  rw [List.cons_append]
  have hk:¬ p.1=k:=fun z=>by rw [dg z] at hn; cases hn
  rw [dh hk] at hn
  have ih:=qR k j y r hn
  by_cases e:p.1=j
  ·rw [dg e,dg e,if_neg (fun z=>hk (e.trans z))]
  ·rw [dh e,dh e,ih]
theorem ou (kvs:List (κ × V)) (k j:κ) (y:V):cH (putK kvs k y) j=if j=k then some y else cH kvs j:=by
 unfold putK
 by_cases a:(kvs.any fun kv=>decide (kv.1=k))=true
 ·rw [if_pos a,uM]
  rw [ei] at a
  by_cases e:j=k
  ·obtain ⟨x,hx⟩:=Option.isSome_iff_exists.mp a
   rw [if_pos e,e,hx,Option.map_some,if_pos rfl]
  ·rw [if_neg e]
   cases cH kvs j with
   | none=>rfl
   | some x=>rw [Option.map_some,if_neg e]
 ·rw [if_neg a]
  refine qR k j y kvs ?_
  rw [ei] at a
  cases q:cH kvs k with
  | none=>rfl
  | some x=>rw [q] at a; exact (a rfl).elim
theorem eE (kvs:List (κ × V)) (k:κ) (v:V):(putK kvs k v).length ≤ kvs.length + 1:=by
 unfold putK
 split
 ·rw [List.length_map]; omega
 ·rw [List.length_append,List.length_cons,List.length_nil]; omega
theorem uN {kvs:List (κ × V)} {k:κ} (v:V) (h:cH kvs k=none):putK kvs k v=kvs ++ [(k,v)]:=by
 unfold putK
 rw [ei,h]
 exact if_neg (by decide)
theorem g9.hZ {o:Option V} {u:Option Value} (r:g9 o u):o.isSome=u.isSome:=by
 cases o with
 | none=>cases u with
  | none=>rfl
  | some _=>exact (show False from r).elim
 | some _=>cases u with
  | none=>exact (show False from r).elim
  | some _=>rfl
theorem g9.getD {o:Option V} {u:Option Value} {d:V} {d':Value} (r:g9 o u) (rd:RelV d d'):RelV (o.getD d) (u.getD d'):=by
 cases o with
 | none=>cases u with
  | none=>exact rd
  | some _=>exact (show False from r).elim
 | some _=>cases u with
  | none=>exact (show False from r).elim
  | some _=>exact r
theorem KV.val {kvs:List (κ × V)} {vs:List (κ × Value)} (r:KV kvs vs) (k:κ):g9 (cH kvs k) (valueAt vs k):=by
 unfold KV at r
 induction r with
 | nil=>exact True.intro
 | @cons p q ps qs h t ih =>
  obtain ⟨h1,h2⟩:=h
  by_cases e:p.1=k
  ·have e':q.1=k:=h1.symm.trans e
   have b:valueAt (q :: qs) k=some q.2:=by simp [valueAt,List.find?_cons,e']
   rw [dg e,b]; exact h2
  ·have e':¬ q.1=k:=fun z=>e (h1.trans z)
   have b:valueAt (q :: qs) k=valueAt qs k:=by simp [valueAt,List.find?_cons,e']
   rw [dh e,b]; exact ih
theorem KV.any {kvs:List (κ × V)} {vs:List (κ × Value)} (r:KV kvs vs) (k:κ):(kvs.any fun kv=>decide (kv.1=k))=vs.any fun kv=>decide (kv.1=k):=by
 unfold KV at r
 induction r with
 | nil=>rfl
 | cons h t ih=>rw [List.any_cons,List.any_cons,ih,h.1]
theorem KV.repl {kvs:List (κ × V)} {vs:List (κ × Value)} (r:KV kvs vs) (k:κ) {y:V} {u:Value} (ry:RelV y u) :
  KV (kvs.map fun kv=>if kv.1=k then (kv.1,y) else kv) (vs.map fun kv=>if kv.1=k then (kv.1,u) else kv):=by
 unfold KV at r ⊢
 induction r with
 | nil=>exact .nil
 | @cons p q ps qs h t ih =>
  rw [List.map_cons,List.map_cons]
  refine .cons ?_ ih
  obtain ⟨h1,h2⟩:=h
  by_cases e:p.1=k
  ·rw [if_pos e,if_pos (h1.symm.trans e)]; exact ⟨h1,ry⟩
  ·rw [if_neg e,if_neg (fun z=>e (h1.trans z))]; exact ⟨h1,h2⟩
theorem KV.put {kvs:List (κ × V)} {vs:List (κ × Value)} (r:KV kvs vs) (k:κ) {y:V} {u:Value} (ry:RelV y u):KV (putK kvs k y) (stored vs k u):=by
 unfold putK stored
 rw [r.any k]
 by_cases e:(vs.any fun kv=>decide (kv.1=k))=true
 ·rw [if_pos e,if_pos e]; exact r.repl k ry
 ·rw [if_neg e,if_neg e]; exact Paired.snoc r ⟨rfl,ry⟩
theorem KV.length {kvs:List (κ × V)} {vs:List (κ × Value)} (r:KV kvs vs):kvs.length=vs.length:=Paired.length r
end
theorem ow {P:Program} {w:World} {k:Key} {u:Value} (r:RelV (kV k) u):(bF P w).is k u=true:=by
 cases k with
 | inl i=>obtain ⟨t,e⟩:=(show ∃ t,u=Value.int i t from r); subst e; exact uw P w i t
 | inr x=>obtain ⟨t,e⟩:=(show ∃ t,u=Value.str x t from r); subst e; exact uz P w x t
theorem qS {P:Program} {w:World}:∀ {ks:List Key} {us:List Value},Vals (ks.map kV) us→ItemsAre (bF P w) ks us
 | [],_,r=>by rw [List.map_nil] at r; cases r; exact .nil
 | k :: ks,_,r=>by
  rw [List.map_cons] at r
  cases r with
  | cons h t=>exact .cons (ow h) (qS t)
abbrev KT (H:Hp):List (List Key × V)→List (List Key × Addr × Value)→Prop:=Paired fun p q=>p.1=q.1∧H q.2.1=some (.tup (p.1.map kV))∧RelV p.2 q.2.2
theorem KT.val {H:Hp} {kvs:List (List Key × V)} {xs:List (List Key × Addr × Value)} (r:KT H kvs xs) (k:List Key):g9 (cH kvs k) ((atKey xs k).map (·.2)):=by
 induction r with
 | nil=>exact True.intro
 | @cons p q ps qs h t ih =>
  obtain ⟨h1,_,h2⟩:=h
  by_cases e:p.1=k
  ·have e':q.1=k:=h1.symm.trans e
   have b:atKey (q :: qs) k=some q.2:=by simp [atKey,List.find?_cons,e']
   rw [dg e,b]; exact h2
  ·have e':¬ q.1=k:=fun z=>e (h1.trans z)
   have b:atKey (q :: qs) k=atKey qs k:=by simp [atKey,List.find?_cons,e']
   rw [dh e,b]; exact ih
theorem KT.repl {H:Hp} {kvs:List (List Key × V)} {xs:List (List Key × Addr × Value)} (r:KT H kvs xs) (k:List Key) {y:V} {u:Value} (ry:RelV y u) :
  KT H (kvs.map fun kv=>if kv.1=k then (kv.1,y) else kv) (xs.map (putAt k u)):=by
 induction r with
 | nil=>exact .nil
 | @cons p q ps qs h t ih =>
  rw [List.map_cons,List.map_cons]
  refine .cons ?_ ih
  obtain ⟨h1,h2,h3⟩:=h
  unfold putAt
  by_cases e:p.1=k
  ·rw [if_pos e,if_pos (h1.symm.trans e)]; exact ⟨h1,h2,ry⟩
  ·rw [if_neg e,if_neg (fun z=>e (h1.trans z))]; exact ⟨h1,h2,h3⟩
theorem KT.put {H:Hp} {kvs:List (List Key × V)} {xs:List (List Key × Addr × Value)} (r:KT H kvs xs) (k:List Key) {b:Addr} {y:V} {u:Value} (hb:H b=some (.tup (k.map kV))) (ry:RelV y u) :
  KT H (putK kvs k y) (storedH xs k b u):=by
 have e:(kvs.any fun kv=>decide (kv.1=k))=(atKey xs k).isSome:=by
  rw [ei,(r.val k).hZ,Option.isSome_map]
 unfold putK storedH
 rw [e]
 by_cases q:(atKey xs k).isSome=true
 ·rw [if_pos q,if_pos q]; exact r.repl k ry
 ·rw [if_neg q,if_neg q]; exact Paired.snoc r ⟨rfl,hb,ry⟩
theorem KT.keeps {H H':Hp} {kvs:List (List Key × V)} {xs:List (List Key × Addr × Value)} (r:KT H kvs xs) (ht:∀ b ys,H b=some (.tup ys)→H' b=some (.tup ys)):KT H' kvs xs :=
 Paired.Js r fun _ _ z=>⟨z.1,ht _ _ z.2.1,z.2.2⟩
section
variable {P:Program} {w:World} {H:Hp} {h:Heap} {a:Addr}
theorem Iu {u:HO} (ok:jO P w H h) (e:Rd H a u):cv P w H h a u:=e.ok ok
theorem ox {kvs:List (Key × V)} (ok:jO P w H h) (e:Rd H a (.dK kvs)):kvs.length ≤ sizeLine∧(a == sysModules)=false∧∃ vs,KV kvs vs∧h.DictOf (bF P w) a vs :=
 show cv P w H h a (.dK kvs) from Iu ok e
theorem qT {kvs:List (Key × V)} (ok:jO P w H h) (e:H a=some (.dK kvs)):kvs.length ≤ sizeLine∧(a == sysModules)=false∧∃ vs,KV kvs vs∧h.DictOf (bF P w) a vs:=ox ok (.inl e)
theorem oy {ks:List Key} (ok:jO P w H h) (e:H a=some (.tup (ks.map kV))):(tupleKind (bF P w)).is h ks a:=by
 obtain ⟨_,its,r,o,h1,h2,n,h3⟩:=(show cv P w H h a (.tup (ks.map kV)) from ok a _ e)
 exact ⟨o,its.toArray,n,h1,h2,h3,by simpa using qS r⟩
theorem qU {kvs:List (List Key × V)} (ok:jO P w H h) (e:Rd H a (.dT kvs)):kvs.length ≤ sizeLine∧(a == sysModules)=false ∧
  ∃ xs,KT H kvs xs∧h.DictOfH (tupleKind (bF P w)) a xs:=by
 obtain ⟨z,y,xs,r,o,es,ep,h1,h2,h3,h4,h5⟩:=(show cv P w H h a (.dT kvs) from Iu ok e)
 refine ⟨z,y,xs,r,o,es,ep,h1,h2,h3,h4,fun x hx=>?_,h5⟩
 have all:∀ {l:List (List Key × V)} {m:List (List Key × Addr × Value)},KT H l m→∀ x ∈ m,(tupleKind (bF P w)).is h x.1 x.2.1:=by
  intro l m q
  induction q with
  | nil=>intro x hx; exact nomatch hx
  | @cons p q ps qs hq t ih =>
   intro x hx
   rcases List.mem_cons.mp hx with e | hx
   ·subst e
    exact oy ok (by rw [← hq.1]; exact hq.2.1)
   ·exact ih x hx
 exact all r x hx
theorem MH {kvs:List (List Key × V)} (ok:jO P w H h) (e:H a=some (.dT kvs)):kvs.length ≤ sizeLine∧(a == sysModules)=false ∧
  ∃ xs,KT H kvs xs∧h.DictOfH (tupleKind (bF P w)) a xs:=qU ok (.inl e)
end
def iR (H:Hp) (a:Addr) (y:V) (r:Option V):Prop :=
 (∃ kvs k,Rd H a (.dK kvs)∧y=kV k∧r=cH kvs k)∨∃ kvs k b,Rd H a (.dT kvs)∧y=.ref b∧H b=some (.tup (k.map kV))∧r=cH kvs k
def oA (H:Hp) (a:Addr) (y v:V) (H':Hp):Prop :=
 (∃ kvs k,H a=some (.dK kvs)∧y=kV k∧kvs.length < sizeLine∧H'=upd H a (.dK (putK kvs k v))) ∨
 ∃ kvs k b,H a=some (.dT kvs)∧y=.ref b∧H b=some (.tup (k.map kV))∧kvs.length < sizeLine∧H'=upd H a (.dT (putK kvs k v))
theorem iR.k {H:Hp} {a:Addr} {kvs:List (Key × V)} {k:Key} (e:H a=some (.dK kvs)):iR H a (kV k) (cH kvs k):=.inl ⟨kvs,k,.inl e,rfl,rfl⟩
theorem oA.k {H:Hp} {a:Addr} {kvs:List (Key × V)} {k:Key} {v:V} (e:H a=some (.dK kvs)) (hl:kvs.length < sizeLine):oA H a (kV k) v (upd H a (.dK (putK kvs k v))):=.inl ⟨kvs,k,e,rfl,hl,rfl⟩
section
variable {X:Cx} {pins:List (Addr × Obj)} {σ:St} {H:Hp} {s:Shared} {a:Addr} {y v:V} {u r:Value} {o:Option V} {A:Around} {E:Value→Shared→Prop}
theorem Inv.big (I:Inv X pins σ H s):sysModules < s.heap.objs.size:=by
 have h:mainGlobals < s.heap.objs.size:=(I.mod.glob.keeps I.bk).lt
 exact Nat.lt_trans (by decide) h
theorem Ab {Q:Value→Shared→Prop} (hu:A.units + 1 < cLine) (I:Inv X pins σ H s) (g:iR H a y (some v)) (ry:RelV y u) (h:∀ w' s',Inv X pins σ H s'→RelV v w'→Q w' s') :
  wpAny (model X.prog X.w) A (getItem (.ref a) u) Q E s:=by
 rcases g with ⟨kvs,k,e,ey,l⟩ | ⟨kvs,k,b,e,ey,eb,l⟩
 ·subst ey
  obtain ⟨z,hd,vs,rel,dd⟩:=ox I.hok e
  obtain ⟨w',hw,lK⟩:=g9.some_of (v:=v) (o:=valueAt vs k) (by rw [l]; exact rel.val k)
  exact wpAny_getItem_of (ow ry) dd.mapOf hw (h w' _ (I.tok _) lK)
 ·subst ey
  cases (show u=Value.ref b from ry)
  obtain ⟨z,hd,xs,rel,dd⟩:=qU I.hok e
  obtain ⟨w',hw,lK⟩:=g9.some_of (v:=v) (o:=(atKey xs k).map (·.2)) (by rw [l]; exact rel.val k)
  obtain ⟨p,hp,hp2⟩:=Option.map_eq_some_iff.mp hw
  refine wpAny_getItem_heap (tupleKind_room_in1 hu) (oy I.hok eb) dd hp ?_
  rw [hp2]
  exact h w' _ (I.tok _) lK
theorem RT {Q:Value→Shared→Prop} (hu:A.units + 1 < cLine) (I:Inv X pins σ H s) (g:iR H a y o) (ry:RelV y u) (h:∀ s',Inv X pins σ H s'→Q (.bool o.isSome) s') :
  wpAny (model X.prog X.w) A (compareOp .In u (.ref a)) Q E s:=by
 rcases g with ⟨kvs,k,e,ey,l⟩ | ⟨kvs,k,b,e,ey,eb,l⟩
 ·subst ey
  obtain ⟨z,hd,vs,rel,dd⟩:=ox I.hok e
  refine wpAny_in_of (ow ry) hd dd.mapOf ?_
  rw [← (rel.val k).hZ,← l]
  exact h _ (I.tok _)
 ·subst ey
  cases (show u=Value.ref b from ry)
  obtain ⟨z,hd,xs,rel,dd⟩:=qU I.hok e
  refine wpAny_in_heap (tupleKind_room_in1 hu) (oy I.hok eb) hd dd ?_
  have q:=(rel.val k).hZ
  rw [Option.isSome_map] at q
  rw [← q,← l]
  exact h _ (I.tok _)
theorem rX {h':Heap} {t':Nat} {ob:HO} (I:Inv X pins σ H s) (mu:L8 (H a)) (hs:Heap.SameBut a s.heap h') (he:∃ q,h'.get? a=some q) (new:cv X.prog X.w (upd H a ob) h' a ob) :
  Inv X pins σ (upd H a ob) { s with heap:=h',toks:=t' } :=
 I.write (x:=a) (e:=a) mu (.inl rfl) (fun b q hb z=>(hs.2 b hb).trans z) he new
theorem rY {P:Program} {w:World} {H':Hp} {h':Heap} {kvs:List (Key × V)} {vs:List (Key × Value)} (z:kvs.length ≤ sizeLine) (hd:(a == sysModules)=false) (rel:KV kvs vs) (dd:h'.DictOf (bF P w) a vs) :
  cv P w H' h' a (.dK kvs):=⟨z,hd,vs,rel,dd⟩
theorem Ac {H':Hp} {Q:Unit→Shared→Prop} (hu:A.units + 1 < cLine) (I:Inv X pins σ H s) (g:oA H a y v H') (ry:RelV y u) (rv:RelV v r) (h:∀ s',Inv X pins σ H' s'→Q () s') :
  wpAny (model X.prog X.w) A (setItem (.ref a) u r) Q E s:=by
 rcases g with ⟨kvs,k,e,ey,l,eH⟩ | ⟨kvs,k,b,e,ey,eb,l,eH⟩
 ·subst ey eH
  obtain ⟨z,hd,vs,rel,dd⟩:=qT I.hok e
  have hz:vs.length ≤ sizeLine:=by rw [← rel.length]; exact z
  have hl:(putK kvs k v).length ≤ sizeLine:=by have:=eE kvs k v; omega
  refine wpAny_setItem_pairs (hsz:=hz) (ow ry) dd fun h' Fm hs=>h _ ?_
  have he:∃ q,h'.get? a=some q:=let ⟨q,_,_,hq,_⟩:=Fm; ⟨q,hq⟩
  exact rX I (by rw [e]; exact True.intro) hs he (rY hl hd (rel.put k rv) Fm)
 ·subst ey eH
  cases (show u=Value.ref b from ry)
  obtain ⟨z,hd,xs,rel,dd⟩:=MH I.hok e
  have hz:xs.length ≤ sizeLine:=by rw [← Paired.length rel]; exact z
  have hl:(putK kvs k v).length ≤ sizeLine:=by have:=eE kvs k v; omega
  refine wpAny_setItem_heap (hsz:=hz) (tupleKind_room_in1 hu) (oy I.hok eb) dd fun h' Fm hs=>h _ ?_
  obtain ⟨q,es,ep,hq,h2,h3,h4,_,h5⟩:=Fm
  refine rX I (by rw [e]; exact True.intro) hs ⟨q,hq⟩ ⟨hl,hd,_,(rel.put k eb rv).keeps fun c ys ec=>?_,q,es,ep,hq,h2,h3,h4,h5⟩
  rw [aK (cm ec e (fun z=>nomatch z))]
  exact ec
end
section
variable {X:Cx} {pins:List (Addr × Obj)} {σ:St} {H:Hp} {s:Shared} {a:Addr} {kvs:List (Key × V)} {k:Key} {u:Value} {A:Around} {E:Value→Shared→Prop}
end
def JW (i:Expr):Prop:=∀ ov iv,subscripted i false ov iv=operate [ov,iv] (getItem ov iv)
theorem yx {prog:Program} {w:World} {A:Around} {E:Value→Shared→Prop} {s:Shared} {env:Env} {value slice:Expr} {pos:Pos} {T id:String} {Q:Value→Shared→Prop}
  (hl:typeLookup (.type T) "__getitem__" = pure (some (.builtin id))) (hs:JW slice)
  (h:wpAny (model prog w) A (eval value env) (fun o s₁=>wpAny (model prog w) A (eval slice env) (fun i s₂=>s₂.TypeIs o T∧wpAny (model prog w) A (getItem o i) Q E s₂) E s₁) E s) :
  wpAny (model prog w) A (eval (.Subscript value slice pos) env) Q E s:=by
 refine Subscript_ (wpAny_mono h (fun o s₁ h₁=>wpAny_mono h₁ (fun i s₂ h₂=>?_) fun _ _ x=>x) fun _ _ x=>x)
 obtain ⟨hT,h₂⟩:=h₂
 unfold subscriptTail
 refine wpAny_bind ?_
 rw [getitemInPython_of_ne hT.not_modules]
 refine wpAny_bind (wpAny_specialOf hT hl ?_)
 have fin:wpAny (model prog w) A (subscripted slice false o i) (fun r s₃=>wpAny (model prog w) A (letTemporaryGo value o r >>= fun _=>pure r) Q E s₃) E s₂:=by
  rw [hs o i]
  exact wpAny_operating (wpAny_mono h₂ (fun r s₃ h₃=>wpAny_bind (wpAny_letTemporaryGo (wpAny_pure h₃))) fun _ _ x=>x)
 first
  | exact wpAny_pure (wpAny_bind fin)
  | exact wpAny_bind (wpAny_pure (wpAny_bind fin))
  | exact wpAny_bind fin
theorem uO {X:Cx} {pins:List (Addr × Obj)} {σ:St} {H:Hp} {s:Shared} {a:Addr} {y:V} {o:Option V} (I:Inv X pins σ H s) (g:iR H a y o):s.TypeIs (.ref a) "dict" := by
 rcases g with ⟨kvs,k,e,_,_⟩ | ⟨kvs,k,b,e,_,_,_⟩
 ·obtain ⟨_,_,vs,_,dd⟩:=ox I.hok e
  exact dd.typeIs
 ·obtain ⟨_,_,xs,_,dd⟩:=qU I.hok e
  exact dd.typeIs
def MI (td ty:TE):TE:=fun σ H Q=>td σ H fun x H1=>ty σ H1 fun y H2=>∃ a v,x=.ref a∧iR H2 a y (some v)∧Q v H2
def RU (ty td:TE):TE:=fun σ H Q=>ty σ H fun y H1=>td σ H1 fun x H2=>∃ a o,x=.ref a∧iR H2 a y o∧Q (.bl o.isSome) H2
def MJ (td ty tv:TE):TS:=fun D σ H=>tv σ H fun v H1=>td σ H1 fun x H2=>ty σ H2 fun y H3=>∃ a H4,x=.ref a∧oA H3 a y v H4∧D.nx σ H4
section
variable {X:Cx} {o i e value:Expr} {pos pos' tpos:Pos} {td ty tv:TE}
theorem cP (hu:X.A.units + 1 < cLine) (ho:PE X o td) (hi:PE X i ty) (hs:JW i):PE X (.Subscript o i pos) (MI td ty):=by
 intro pins s σ H Q I h
 refine yx PySem.F.slot_dict_getitem.lookup hs (cC (ho pins s σ H _ I h) fun u s1 ⟨x,H1,I1,rx,q1⟩=>cC (hi pins s1 σ H1 _ I1 q1) fun iv s2 ⟨y,H2,I2,ry,a,v,ex,g,q2⟩=>?_)
 subst ex
 obtain rfl:u=Value.ref a:=rx
 exact ⟨uO I2 g,Ab hu I2 g ry fun w' s3 I3 lK=>⟨v,H2,I3,lK,q2⟩⟩
theorem JX (hu:X.A.units + 1 < cLine) (hi:PE X i ty) (ho:PE X o td):PC X .In i o (RU ty td):=by
 intro pins s σ H Q I h
 refine cC (hi pins s σ H _ I h) fun iv s1 ⟨y,H1,I1,ry,q1⟩=>cC (ho pins s1 σ H1 _ I1 q1) fun u s2 ⟨x,H2,I2,rx,a,ov,ex,g,q2⟩=>?_
 subst ex
 obtain rfl:u=Value.ref a:=rx
 exact RT hu I2 g ry fun s3 I3=>⟨.bl ov.isSome,H2,I3,rfl,q2⟩
theorem iC (hu:X.A.units + 1 < cLine) (ho:PE X o td) (hi:PE X i ty) (hv:PE X value tv) (hs:swapsWith value (some (.Subscript o i pos')) pos.line X.env=pure false) :
  PS X (.Assign [.Subscript o i pos'] value pos) (MJ td ty tv):=by
 intro pins s σ H D I h
 refine wpAny_Assign_Subscript (cC (hv pins s σ H _ I h) fun r s1 ⟨v,H1,I1,rv,q1⟩=>cC (ho pins s1 σ H1 _ I1 q1) fun u s2 ⟨x,H2,I2,rx,q2⟩=>cC (hi pins s2 σ H2 _ I2 q2) fun iv s3 ⟨y,H3,I3,ry,a,H4,ex,g,q3⟩=>?_) hs
 subst ex
 obtain rfl:u=Value.ref a:=rx
 exact Ac hu I3 g ry rv fun s4 I4=>⟨σ,H4,I4,q3⟩
end
theorem uP {P:Program} {w:World} {H:Hp} (h:Heap) (hb:sysModules < h.objs.size):cv P w H (h.push { cls:=.type "dict",data:=.dict #[] }) h.objs.size (.dK []) :=
 ⟨Nat.zero_le _,beq_eq_false_iff_ne.mpr (Ne.symm (Nat.ne_of_lt hb)),[],.nil,Heap.DictOf.new h⟩
def JY:TE:=fun _ H Q=>∀ p,H p=none→Q (.ref p) (upd H p (.dK []))
section
variable {X:Cx} {pos:Pos}
theorem j9:PE X (.Dict [] [] pos) JY:=fun pins s σ H Q I h =>
 wpAny_Dict_empty ⟨.ref s.heap.objs.size,_,I.laid (a:=s.heap.objs.size) (o:=.dK []) (t':=s.toks) (fun _ _ q=>Heap.get?_push_of_some _ q) (Nat.le_refl _) (uP s.heap I.big),rfl,h _ (I.hok.fresh (Nat.le_refl _))⟩
end
def wk:List (TE × TE)→St→Hp→(List (V × V)→Hp→Prop)→Prop
 | [],_,H,Q=>Q [] H
 | (tk,tv) :: r,σ,H,Q=>tk σ H fun x H1=>tv σ H1 fun y H2=>wk r σ H2 fun ps H3=>Q ((x,y) :: ps) H3
abbrev VV:List (V × V)→List (Value × Value)→Prop:=Paired fun p q=>RelV p.1 q.1∧RelV p.2 q.2
def MK (X:Cx) (pos:Pos) (keys:List (Option Expr)) (values:List Expr) (ur:List (TE × TE)):Prop :=
 ∀ (pins:List (Addr × Obj)) (s:Shared) (σ:St) (H:Hp) (Q:List (V × V)→Hp→Prop),Inv X pins σ H s→wk ur σ H Q →
  wpAny (model X.prog X.w) X.A (evalPairs (pairTrees keys values X.env pos)) (fun vs s'=>∃ ps H',Inv X pins σ H' s'∧VV ps vs∧Q ps H') X.xe s
theorem yz {X:Cx} {pos:Pos}:MK X pos [] [] []:=fun pins s σ H Q I h=>pairTrees_nil_walk ⟨[],H,I,.nil,h⟩
theorem oB {X:Cx} {pos:Pos} {k v:Expr} {ks:List (Option Expr)} {vs:List Expr} {tk tv:TE} {ur:List (TE × TE)} (hk:PE X k tk) (hv:PE X v tv) (hr:MK X pos ks vs ur) :
  MK X pos (some k :: ks) (v :: vs) ((tk,tv) :: ur):=fun pins s σ H Q I h =>
 pairTrees_cons_walk (cC (hk pins s σ H _ I h) fun u s1 ⟨x,H1,I1,rx,q1⟩=>cC (hv pins s1 σ H1 _ I1 q1) fun w2 s2 ⟨y,H2,I2,ry,q2⟩ =>
  cC (hr pins s2 σ H2 _ I2 q2) fun ws s3 ⟨ps,H3,I3,rel,q3⟩=>⟨(x,y) :: ps,H3,I3,.cons ⟨rx,ry⟩ rel,q3⟩)
def eA (kvs more:List (Key × V)):List (Key × V):=more.foldl (fun acc kv=>putK acc kv.1 kv.2) kvs
theorem KV.merge:∀ {more:List (Key × V)} {rs:List (Key × Value)} {kvs:List (Key × V)} {vs:List (Key × Value)},KV more rs→KV kvs vs→KV (eA kvs more) (merged vs rs):=by
 intro more rs kvs vs r
 unfold KV at r
 induction r generalizing kvs vs with
 | nil=>intro q; exact q
 | @cons p q ps qs h t ih =>
  intro r0
  have e:KV (putK kvs p.1 p.2) (stored vs q.1 q.2):=by
   have:=r0.put p.1 h.2
   rw [← h.1]; exact this
  exact ih e
theorem fu:∀ (more kvs:List (Key × V)),(eA kvs more).length ≤ kvs.length + more.length
 | [],kvs=>by show kvs.length ≤ kvs.length + 0; omega
 | p :: r,kvs=>by
  have h1:=fu r (putK kvs p.1 p.2)
  have h2:=eE kvs p.1 p.2
  show (eA (putK kvs p.1 p.2) r).length ≤ _
  rw [List.length_cons]; omega
theorem oC {P:Program} {w:World}:∀ {kvs:List (Key × V)} {ws:List (Value × Value)},VV (kvs.map fun kv=>(kV kv.1,kv.2)) ws→∃ rs,Carries (bF P w) ws rs∧KV kvs rs
 | [],_,r=>by rw [List.map_nil] at r; cases r; exact ⟨[],True.intro,.nil⟩
 | p :: kvs,_,r=>by
  rw [List.map_cons] at r
  cases r with
  | @cons a b as bs h t =>
   obtain ⟨rs,c,q⟩:=oC (P:=P) (w:=w) t
   obtain ⟨b1,b2⟩:=b
   exact ⟨(p.1,b2) :: rs,⟨ow h.1,rfl,c⟩,.cons ⟨rfl,h.2⟩ q⟩
def Ci (ur:List (TE × TE)):TE:=fun σ H Q=>∀ p,H p=none→wk ur σ (upd H p (.dK [])) fun ps H2=>H2 p=some (.dK [])∧∃ kvs:List (Key × V),ps=kvs.map (fun kv=>(kV kv.1,kv.2))∧kvs.length ≤ 15∧Q (.ref p) (upd H2 p (.dK (eA [] kvs)))
theorem yA {X:Cx} {pos:Pos} {keys:List (Option Expr)} {values:List Expr} {ur:List (TE × TE)} (h:MK X pos keys values ur) (hall:keys.all (·.isSome)=true) (hl:keys.length=values.length) (h0:keys ≠ [])
  (h15:keys.length ≤ 15):PE X (.Dict keys values pos) (Ci ur):=by
 intro pins s σ H Q I q
 have hn:=I.hok.fresh (Nat.le_refl s.heap.objs.size)
 have I1:=I.laid (a:=s.heap.objs.size) (o:=.dK []) (h':=s.heap.push { cls:=.type "dict",data:=.dict #[] }) (t':=s.toks) (fun _ _ q=>Heap.get?_push_of_some _ q) (Nat.le_refl _) (uP s.heap I.big)
 refine wpAny_Dict_walk (knd:=bF X.prog X.w) hall hl h0 h15 (cC (h pins _ σ _ _ I1 (q _ hn)) fun ws s2 ⟨ps,H2,I2,rel,e,kvs,ep,lk,q2⟩=>?_)
 subst ep
 obtain ⟨rs,c,rk⟩:=oC (P:=X.prog) (w:=X.w) rel
 obtain ⟨z,hd,vs0,r0,dd⟩:=qT I2.hok e
 cases r0
 refine ⟨rs,c,dd,fun h' Fm hs=>⟨.ref s.heap.objs.size,_,?_,rfl,q2⟩⟩
 have hz:(eA [] kvs).length ≤ sizeLine:=by
  have h1:=fu kvs []
  rw [List.length_nil] at h1
  rw [sizeLine_eq]; omega
 have he:∃ q,h'.get? s.heap.objs.size=some q:=let ⟨q,_,_,hq,_⟩:=Fm; ⟨q,hq⟩
 exact rX I2 (by rw [e]; exact True.intro) hs he (rY hz hd (rk.merge .nil) Fm)
structure M2 (X:Cx) (o:Expr) (m:Str) (apos:Pos) (e f:Expr) (cpos:Pos):Prop where
 base:attributeBase o m X.env (eval o X.env)=eval o X.env
 few:((backTo cpos (starEach [e,f] X.env)).all (fun x=>!x.1) && (backToKw cpos (keywordEach [] X.env)).all (fun x=>x.1.isSome)
  && decide (([e,f]:List Expr).length + ([]:List Keyword).length + (if ([]:List Keyword).isEmpty then 0 else 1) < 30))=true
 line:(apos.endLine == cpos.line)=true
 trees:backTo cpos (starEach [e,f] X.env)=[(false,eval e X.env),(false,eval f X.env)]
def IsD (H:Hp) (a:Addr):Prop:=(∃ kvs,Rd H a (.dK kvs))∨∃ kvs,Rd H a (.dT kvs)
theorem JZ {X:Cx} {pins:List (Addr × Obj)} {σ:St} {H:Hp} {s:Shared} {a:Addr} (I:Inv X pins σ H s) (d:IsD H a) :
  s.TypeIs (.ref a) "dict" ∧ (∀ b,Value.ref a=.ref b→∃ ob,s.heap.get? b=some ob∧ob.dict=none)∧(a == sysModules)=false:=by
 rcases d with ⟨kvs,e⟩ | ⟨kvs,e⟩
 ·obtain ⟨_,hd,vs,_,dd⟩:=ox I.hok e
  refine ⟨dd.typeIs,fun b q=>?_,hd⟩
  cases q
  obtain ⟨ob,_,_,h1,h2,_⟩:=dd
  exact ⟨ob,h1,h2.2.1⟩
 ·obtain ⟨_,hd,xs,_,dd⟩:=qU I.hok e
  refine ⟨dd.typeIs,fun b q=>?_,hd⟩
  cases q
  obtain ⟨ob,_,_,h1,h2,_⟩:=dd
  exact ⟨ob,h1,h2.2.1⟩
section
variable {X:Cx} {pins:List (Addr × Obj)} {σ:St} {H:Hp} {s:Shared} {a:Addr} {y d:V} {u r:Value} {o:Option V} {A:Around} {E:Value→Shared→Prop}
theorem J0 {Q:Value→Shared→Prop} (hu:A.units + 1 < cLine) (I:Inv X pins σ H s) (g:iR H a y o) (ry:RelV y u) (rd:RelV d r) (h:∀ w' s',Inv X pins σ H s'→RelV (o.getD d) w'→Q w' s') :
  wpAny (model X.prog X.w) A (call (.builtin "dict.get") [.ref a,u,r]) Q E s:=by
 rcases g with ⟨kvs,k,e,ey,l⟩ | ⟨kvs,k,b,e,ey,eb,l⟩
 ·subst ey
  obtain ⟨z,hd,vs,rel,dd⟩:=ox I.hok e
  refine call_meetsIn PySem.F.slot_dict_get dd.typeIs PySem.F.entry_dict_get (PySem.F.args_dict_get_3 _ _ _) (meets_dict_get_default (bF X.prog X.w) a (ow ry) hd r) ⟨_,dd.mapOf,h _ _ (I.tok _) ?_⟩
  rw [l]
  exact (rel.val k).getD rd
 ·subst ey
  cases (show u=Value.ref b from ry)
  obtain ⟨z,hd,xs,rel,dd⟩:=qU I.hok e
  refine call_meetsIn PySem.F.slot_dict_get dd.typeIs PySem.F.entry_dict_get (PySem.F.args_dict_get_3 _ _ _) (meetsH_dict_get_default (tupleKind (bF X.prog X.w)) a b hd r) ⟨tupleKind_room_in1 hu,k,xs,oy I.hok eb,dd,h _ _ (I.tok _) ?_⟩
  rw [l]
  exact (rel.val k).getD rd
end
def J1 (td ty tx:TE):TE:=fun σ H Q=>td σ H fun x H1=>∃ a,x=.ref a∧IsD H1 a∧ty σ H1 fun y H2=>tx σ H2 fun z H3=>∃ o,iR H3 a y o∧Q (o.getD z) H3
section
variable {X:Cx} {o e f:Expr} {apos cpos:Pos} {td ty tx:TE}
theorem oF (hu:X.A.units + 1 < cLine) (ho:PE X o td) (he:PE X e ty) (hf:PE X f tx) (m:M2 X o "get" apos e f cpos):PE X (.Call (.Attribute o "get" apos) [e,f] [] cpos) (J1 td ty tx):=by
 intro pins s σ H Q I h
 refine wpAny_Call_method m.base m.few m.line PySem.F.plainAttrs_dict PySem.F.slot_dict_get PySem.F.type_dict_get (cC (ho pins s σ H _ I h) fun u s1 ⟨x,H1,I1,rx,a,ex,d,q1⟩=>?_)
 subst ex
 obtain rfl:u=Value.ref a:=rx
 obtain ⟨t1,t2,_⟩:=JZ I1 d
 refine ⟨t1,t2,?_⟩
 rw [m.trees]
 refine Calls.callWith_builtin rfl (Calls.evalArgs_plain (Calls.spliced_cons (cC (he pins s1 σ H1 _ I1 q1) fun iv s2 ⟨y,H2,I2,ry,q2⟩ =>
  Calls.spliced_cons (cC (hf pins s2 σ H2 _ I2 q2) fun fv s3 ⟨z,H3,I3,rz,ov,g,q3⟩=>Calls.spliced_nil ?_))))
 exact J0 hu I3 g ry rz fun w' s4 I4 lK=>⟨_,H3,I4,lK,q3⟩
end
section
variable {X:Cx} {pins:List (Addr × Obj)} {σ:St} {H:Hp} {s:Shared} {a:Addr} {kvs:List (Key × V)} {A:Around} {E:Value→Shared→Prop}
theorem Cj {Q:Value→Shared→Prop} (I:Inv X pins σ H s) (e:Rd H a (.dK kvs)) (h:∀ p s',H p=none→Inv X pins σ (upd H p (.dK kvs)) s'→Q (.ref p) s'):wpAny (model X.prog X.w) A (call (.type "dict") [.ref a]) Q E s:=by
 obtain ⟨z,hd,vs,rel,dd⟩:=ox I.hok e
 refine kt_call_dict hd dd (by rw [← rel.length]; exact z) fun h' Fm hs=>?_
 refine h _ _ (I.hok.fresh (Nat.le_refl _)) (I.laid (a:=s.heap.objs.size) (o:=.dK kvs) (t':=s.toks) (fun b q hq=>?_) (Nat.le_refl _) (rY z (beq_eq_false_iff_ne.mpr (Ne.symm (Nat.ne_of_lt I.big))) rel Fm))
 exact (hs.2 b (Nat.ne_of_lt (Heap.lt_size hq))).trans (Heap.get?_push_of_some _ hq)
end
section
variable {X:Cx} {pins:List (Addr × Obj)} {σ:St} {H:Hp} {s:Shared} {a:Addr} {y:V} {u:Value} {A:Around} {E:Value→Shared→Prop}
end
end L2
namespace Att
open PySem PySem.W PySem.Calls PyProof.Rows
theorem mw {P:Params} {h:Heap}:∀ (ns:List Int) (vs:List Value),WellAll P h vs (ns.map WData.int)→IntsAre vs ns:=by
 intro ns
 induction ns with
 | nil =>
  intro vs w
  rw [List.map_nil] at w
  cases w
  exact .nil
 | cons n ns ih =>
  intro vs w
  rw [List.map_cons] at w
  cases w with
  | cons a b =>
   cases a
   exact .cons _ _ (ih _ b)
theorem Ad {l:OpenLaw} {n:Nat} (hn:l.most=some n) {P:Params} {h:Heap} {args:List WData} {vals:List Value}
  (hpre:l.row.toRowW.claim.pre args=true) (hwl:WellAll P h vals args) :
  ∃ a vs ns,vals=[Value.ref a]∧args=[WData.list (ns.map WData.int)]∧h.get? a=some { cls:=.type "list",data:=.seq vs.toArray }∧IntsAre vs ns∧ns.length ≤ n:=by
 have hsh:WShape.hasAll [] args [.list .int]=true:=(pre_splitW hpre).1
 have hc:l.pre.holds [] { args:=args }=true:=(pre_splitW hpre).2
 obtain ⟨d,r,rfl,h1,h2⟩:=hasAllW_cons hsh
 obtain rfl:=hasAllW_nil h2
 obtain ⟨xs,rfl,h3⟩:=hasW_list h1
 obtain ⟨ns,rfl⟩:=items_int h3
 have hlen:ns.length ≤ n:=by
  unfold OpenLaw.pre at hc
  have h4:(WTm.not (.lt (.lit (.int (n:Int))) (.len (.arg 0)))).holds [] { args:=[.list (ns.map .int)] }=true:=by
   have h4:=(holds_andW hc).1
   rw [hn] at h4
   exact h4
  have h5:=condW_of h4 (w_not (w_lt w_lit (w_len_list (w_arg rfl))))
  rw [List.length_map] at h5
  refine Nat.le_of_not_lt fun q=>?_
  have q':(n:Int) < ((ns.length:Nat):Int):=by omega
  first
   | (rw [decide_eq_true q'] at h5; exact absurd h5 (by decide))
   | (simp at h5; omega)
 cases hwl with
 | cons w1 w2 =>
  cases w2
  cases w1 with
  | list ho hall=>exact ⟨_,_,ns,rfl,rfl,ho,mw ns _ hall,hlen⟩
theorem Ae (l:OpenLaw) (args:List WData):l.row.toRowW.claim.post args (.bool true) args=true :=
 postW_of (r:=l.row.toRowW) (X:=(true == true))
  (show WShape.has [] (.bool true) .bool=true by first | rfl | decide | simp [WShape.has,WShape.arms,WShape.armsAll])
  (show (WTm.eq .res (.lit (.bool true))).value [] { args:=args,res:=some (.bool true),after:=args }=some (.bool (true == true)) from w_eq_bool (w_res rfl) w_lit) rfl
theorem uQ {l:OpenLaw} {n:Nat} {q:Program} {loose:List Str} {XP:(Str→Option Value)→Heap→Prop} {YP:World→Heap→Prop} {d:DefRec}
  (hn:l.most=some n) (hdf:d.params.defaults=[])
  (call:∀ (w:World) (s₀ s₁:Shared) (mg mb:Str→Option Value) (fa:Addr) (o:Obj) (pm cd doc:Value) (a:Addr) (vs:List Value) (ns:List Int),
   Ground q loose [] XP w s₀ mg mb s₁.heap→YP w s₁.heap →
   s₁.heap.get? fa=some o→o.data=.func (docDef d.name d.params d.body d.scope pm cd doc)→s₁.heap.CodeRec cd d.name→mg d.name=some (.ref fa) →
   s₁.heap.get? a=some { cls:=.type "list",data:=.seq vs.toArray }→IntsAre vs ns→ns.length ≤ n→s₁.gens=#[] →
   codeAny (model l.prog w) callerA (.call (.ref fa) ⟨[.ref a],[]⟩) (fun r s'=>r=.ok (.ret (.bool true))∧OldK s₁.heap s'.heap∧s'.os=s₁.os∧AllBare s'.gens) s₁) :
  WalkO q loose XP YP l.row.toRowW d [] (fun f vs=>PySem.call f vs):=by
 intro w s₀ s₁ mg mb G Y fa o pm cd doc dV kV ho hd hcd hD hmg hg args vals as hpre hlay hrd hwl hlo
 obtain rfl:dV=.none:=Dflts.none hD hdf
 obtain rfl:kV=.none:=Dflts.noKw hD
 obtain ⟨a,vs,ns,rfl,rfl,hobj,hints,hlen⟩:=Ad hn hpre hwl
 refine enter_call (codeAny_mono (call w s₀ s₁ mg mb fa o pm cd doc a vs ns G Y ho (fd_plain hd) hcd hmg hobj hints hlen hg) fun r s' hq=>?_)
 obtain ⟨rfl,h2,h3,h4⟩:=hq
 exact ⟨.inl ⟨.bool true,.bool true,[],rfl,fun _=>rfl,.bool true,Ae l _,fun _=>⟨List.Pairwise.nil,fun _ hm=>(nomatch hm)⟩⟩,h2,h3,h4⟩
section
variable {prog:Program} {w:World} {A:Around} {E:Value→Shared→Prop} {s:Shared} {K:Frag}
end
end Att
namespace L2
open PySem PySem.Spec PyProof.Rows
theorem lM:∀ {vs:List Value} {ns:List Int},IntsAre vs ns→Vals (ns.map V.int) vs
 | _,_,.nil=>.nil
 | _,_,.cons n t h=>.cons ⟨t,rfl⟩ (lM h)
def Only (H:Hp):Prop:=∀ b,H b=none∨∃ o xs,H b=some (.yl o (.lst xs))
theorem Ck {P:Program} {w:World} {K:PySem.W.Frag} {mg mb:Str→Option Value} {CX:BH} {k:Nat} {fa a:Addr} {fd:FuncData} {x:Str} {sp:Sp} {s₁:Shared} {vs:List Value} {ns:List Int}
  (KX:K.In s₁.heap) (hns:s₁.heap.Ns mainGlobals mg) (hb:s₁.heap.Ns builtinsNs mb) (hbb:∀ x:Str,x ≠ "__name__" → mb x=bootBuiltins x) (hlim:s₁.heap.NoLimit) (hg:s₁.gens=#[])
  (ha:s₁.heap.get? a=some { cls:=.type "list",data:=.seq vs.toArray }) (hi:IntsAre vs ns) (hl:ns.length ≤ sizeLine) (hr:fc k callerA)
  (F:∀ base:Heap,K.In base→base.Ns mainGlobals mg→aM P w K mg base CX k fa fd [x] sp) (hbind:∀ (s:Shared) (u:Value),BindsTo s fd ⟨[u],[]⟩ [(x,u)])
  (hsp:∀ H:Hp,Only H→aZ K H a (ns.map V.int)→sp [.ref a] H (fun v _=>v=.bl true) fun _ _ _=>False)
  (RV:∀ H e s',CX [] H s₁ (fun _ _ _=>False) e s'→False) :
  codeAny (model P w) callerA (.call (.ref fa) ⟨[.ref a],[]⟩) (fun r s'=>r=.ok (.ret (.bool true))∧OldK s₁.heap s'.heap∧s'.os=s₁.os∧AllBare s'.gens) s₁:=by
 have rv:=lM hi
 have lenV:=hi.length
 have core:∀ H:Hp,Only H→aZ K H a (ns.map V.int)→jO P w H s₁.heap→(∀ b,H b ≠ none→b=a)→(H a ≠ none→K.lookup a=none) →
   codeAny (model P w) callerA (.call (.ref fa) ⟨[.ref a],[]⟩) (fun r s'=>r=.ok (.ret (.bool true))∧OldK s₁.heap s'.heap∧s'.os=s₁.os∧AllBare s'.gens) s₁:=by
  intro H hO hS hok hA hK
  have yB:∀ {b:Addr} {o:Obj},s₁.heap.get? b=some o→H b=none→(rM s₁.heap H).get? b=some o:=fun e n=>BM e n
  have Mz:∀ {b:Addr} {o:Obj} {es:Array DictEntry} {ep:Nat},s₁.heap.get? b=some o→o.data=.dict es ep→H b=none:=fun {b o es ep} e d=>by
   cases q:H b with
   | none=>rfl
   | some u =>
    have e':b=a:=hA b (by rw [q]; simp)
    subst e'
    rw [ha] at e; cases e
    have d':Data.seq vs.toArray _=Data.dict es ep:=d
    cases d'
  have QU:∀ {b:Addr} {m:Str→Option Value},s₁.heap.Ns b m→(rM s₁.heap H).Ns b m:=fun {b m} ⟨o,es,ep,e,d,r⟩=>⟨o,es,ep,yB e (Mz e d),d,r⟩
  have hKb:K.In (rM s₁.heap H):=fun b o e=>yB (KX b o e) (by
   cases q:H b with
   | none=>rfl
   | some u =>
    have e':b=a:=hA b (by rw [q]; simp)
    subst e'
    rw [hK (by rw [q]; simp)] at e; cases e)
  have hM:Mod K mg (rM s₁.heap H):=⟨hKb,QU hns,⟨mb,QU hb,hbb⟩,let ⟨mc,h1,h2⟩:=hlim; ⟨mc,QU h1,h2⟩⟩
  have e0:vW P w K mg (rM s₁.heap H) callerA [] s₁ H:=⟨rfl,hM,fun b o e=>Fc e,Nat.le_of_eq (zS _ _),trivial,fun b hb=>absurd (show b ∈ ([]:List Addr) from hb) (by simp),hok,.of_eq hg⟩
  refine codeAny_mono ((F _ hKb (QU hns)).run callerA [] s₁ H ⟨[.ref a],[]⟩ [.ref a] [.ref a] _ _ hr e0 (hbind s₁ (.ref a)) (.cons rfl .nil) (hsp H hO hS)) fun r s' h=>?_
  cases r with
  | error e=>exact (RV H e s' h).elim
  | ok fl =>
   cases fl with
   | next=>exact False.elim h
   | brk=>exact False.elim h
   | cont=>exact False.elim h
   | ret u =>
    obtain ⟨v,H',os,bare,un,hok',r',q⟩:=h
    have q':v=.bl true:=q
    subst q'
    obtain rfl:u=Value.bool true:=r'
    refine ⟨rfl,OldK.of_keep fun b o e=>?_,os,bare⟩
    cases q:H b with
    | none=>exact un.keep b o e q (by intro z; exact absurd (show b ∈ ([]:List Addr) from z) (by simp)) (by simp)
    | some u =>
     rcases hO b with z | ⟨ob,xs,z⟩
     ·rw [q] at z; cases z
     ·have z2:=un.rL b ob _ z
      obtain ⟨e1,_⟩:=hok b _ z
      obtain ⟨e2,_⟩:=hok' b _ z2
      rw [e] at e1; cases e1
      exact e2
 cases hk:K.lookup a with
 | some o =>
  have e:=KX a o hk
  rw [ha] at e
  cases e
  refine core (fun _=>none) (fun _=>.inl rfl) (.inr ⟨_,vs.toArray,_,hk,rfl,rfl,rfl,by rw [List.size_toArray,lenV]; exact hl,by simpa using rv⟩) (fun b u z=>by have z':(none:Option HO)=some u:=z; cases z') (fun b z=>absurd rfl z) fun z=>absurd rfl z
 | none =>
  refine core (fun b=>if b=a then some (.yl { cls:=.type "list",data:=.seq vs.toArray } (.lst (ns.map V.int))) else none) (fun b=>?_) (.inl (.inr ⟨{ cls:=.type "list",data:=.seq vs.toArray },if_pos rfl⟩)) (fun b u z=>?_) (fun b z=>?_) fun _=>hk
  ·by_cases hb:b=a
   ·exact .inr ⟨_,_,if_pos hb⟩
   ·exact .inl (if_neg hb)
  ·by_cases hb:b=a
   ·have z':=(if_pos hb).symm.trans z
    cases z'
    subst hb
    exact ⟨ha,by rw [List.length_map]; exact hl,vs,_,rv,ha⟩
   ·have z':=(if_neg hb).symm.trans z
    cases z'
  ·by_cases hb:b=a
   ·exact hb
   ·exact absurd (if_neg hb) z
theorem yC {l:PySem.W.OpenLaw} {n k:Nat} {q:Program} {loose:List Str} {XP:(Str→Option Value)→Heap→Prop} {YP:World→Heap→Prop} {d:DefRec} {K:Params→PySem.W.Frag} {CX:World→BH} {sp:World→Sp} {x:Str}
  (hn:l.most=some n) (hn2:n ≤ sizeLine) (hdf:d.params.defaults=[]) (hr:fc k callerA)
  (hY:∀ (w:World) (h:Heap),YP w h→(K w.params).In h)
  (F:∀ (w:World) (mg:Str→Option Value) (fa:Addr) (h:Heap),(K w.params).In h→h.Ns mainGlobals mg→mg d.name=some (.ref fa) →
   ∃ fd:FuncData,(∀ (s:Shared) (u:Value),BindsTo s fd ⟨[u],[]⟩ [(x,u)]) ∧
    ∀ base:Heap,(K w.params).In base→base.Ns mainGlobals mg→aM l.prog w (K w.params) mg base (CX w) k fa fd [x] (sp w))
  (hsp:∀ (w:World) (H:Hp) (a:Addr) (ns:List Int),ns.length ≤ n→Only H→aZ (K w.params) H a (ns.map V.int)→sp w [.ref a] H (fun v _=>v=.bl true) fun _ _ _=>False)
  (RV:∀ (w:World) (H:Hp) (s:Shared) (e:Value) (s':Shared),CX w [] H s (fun _ _ _=>False) e s'→False) :
  PySem.W.WalkO q loose XP YP l.row.toRowW d [] (fun f vs=>PySem.call f vs):=by
 refine Att.uQ hn hdf fun w s₀ s₁ mg mb fa o pm cd doc a vs ns G Y ho hd hcd hmg hobj hints hlen hg=>?_
 have KX:=hY w _ Y
 obtain ⟨fd,hb,hF⟩:=F w mg fa _ KX G.T.g hmg
 exact Ck KX G.T.g G.T.b G.T.builtins G.T.nolimit hg hobj hints (Nat.le_trans hlen hn2) hr hF hb (fun H hO hS=>hsp w H a ns hlen hO hS) fun H e s'=>RV w H s₁ e s'
end L2
/- THE LAST THEOREM (shape; LID,My.* are yours):
   My.Adr: a structure of the addresses that your layer names (classes,functions); My.Txt K t: a structure (Prop) of the equations over K;
   My.J2:{K} {implicit addresses ..} (e1:nsIn K mainGlobals "law" = some (some (.ref f))) (e2:K.lookup f=some ⟨oc,od,.func (fnOf "law" "law" params body scope dV kV doc pm an cdv ct),sl⟩) (e3:codeIn K cdv "law" = true) ..:∃ t,My.Txt K t
set_option maxRecDepth 100000 in
set_option maxHeartbeats 0 in
theorem PySem.Challenge.cw_LID_holds : PySem.Challenge.rw_LID.Holds := by
 w_on; o_law; k_head; (case hw=>w_witness2)
 k_fill
 refine L2.yC (l:=PySem.Challenge.rw_LID) (n:=63) (k:=40) (x := "script") (CX:=fun w=>..) (sp:=fun _=>My.sp_law) rfl (by decide) rfl ⟨rfl,by decide,by decide⟩ (fun w h Y=>PySem.W.kIn_of Y) ?F ?S ?C
 case F =>
  intro w mg fa h KX G hmg
  have T:∃ t,My.Txt (L2.KOf KX) t:=by
   dsimp only [L2.KOf]
   refine' My.J2 ?e1 ?e2 ?e3 ..
   (case e1=>PySem.W.k_is)
   (case e2=>PySem.W.k_is)
   ..
  obtain ⟨t,T⟩:=T
  have e0:=hmg.symm.trans (PySem.W.mg_of KX G T.law)
  cases e0
  exact ⟨_,fun s u=>.of_eq rfl,fun base kb nb=>My.law_fn T kb nb⟩
 case S=>exact fun w H a ns hl hO hS=>..
 case C=>exact ..
(the tactic k_is has no namespace: write k_is) -/
namespace L2
open PySem PySem.Spec PyProof.Rows
def inClass (s:Stmt) (j:Nat):Stmt:=match s with
 | .ClassDef _ _ _ body _ _ _ _ _ _ _=>body.getD j (.Pass ⟨0,0,0,0⟩)
 | _=>.Pass ⟨0,0,0,0⟩
def aF (s:Stmt):Arguments:=match s with
 | .FunctionDef _ a _ _ _ _ _ _ _ _=>a
 | _=>{ posonlyargs:=[],args:=[],vararg:=none,kwonlyargs:=[],kw_defaults:=[],kwarg:=none,defaults:=[] }
def aD (s:Stmt):List Stmt:=match s with
 | .FunctionDef _ _ b _ _ _ _ _ _ _=>b
 | _=>[]
def aj (s:Stmt):Scope:=match s with
 | .FunctionDef _ _ _ _ _ _ sc _ _ _=>sc
 | _=>{ kind:=.function,names:=[],isGenerator:=false,isCoroutine:=false }
abbrev bw:BH:=fun _ _ _ _ _ _=>False
abbrev E0:XK:=fun _ _ _=>False
theorem aW {X:Cx}:Passes bw X E0:=fun _ _ _ _ _ _ _ h=>h.elim
structure d6 (K:PySem.W.Frag) (x qual:Str) (st:Stmt) (f:Addr) (fd:FuncData):Prop where
 ex:∃ (oc:Value) (od:Option Addr) (kV doc pm:Value) (an:Option Addr) (cdv ct:Value) (osl:Array (Option Value)),
  fd=PySem.W.fnOf x qual (aF st) (aD st) (aj st) .none kV doc pm an cdv ct∧K.lookup f=some ⟨oc,od,.func fd,osl⟩∧PySem.W.codeIn K cdv qual=true
 kp:PySem.W.keepIn K (.ref f)=true
section
variable {P:Program} {w:World} {K:PySem.W.Frag} {mg:Str→Option Value} {base:Heap}
theorem d6.ok {x qual:Str} {st:Stmt} {f:Addr} {fd:FuncData} {N ps:List Str} {k:Nat} {sp:Sp} (F:d6 K x qual st f fd) (S:aG N ps (aj st)) (len:∀ vs H Q E,sp vs H Q E→vs.length=ps.length)
  (hbody:∀ (cdv:Value) (A:Around) (outer:List Env) (s:Shared) (H:Hp) (vs:List V) (Q:VK) (E:XK),fc k (A.deeper (envOfC qual (aj st) s.heap.objs.size f cdv))→sp vs H Q E →
   ∃ t,rN (z9 bw P w K mg base N qual (aj st) f cdv A outer s H E).QN (aD st) t∧t { nx:=fun _ H'=>Q .non H',rt:=Q } (start N vs) H):aM P w K mg base bw (k + 1) f fd ps sp:=by
 obtain ⟨oc,od,kV,doc,pm,an,cdv,ct,osl,rfl,lk,hcd⟩:=F.ex
 refine MB lk hcd S len fun A outer s H vs Q E hr hsp=>?_
 obtain ⟨t,h,q⟩:=hbody cdv A outer s H vs Q E hr hsp
 exact ⟨t,h.QN,q⟩
theorem d6.binds {x qual:Str} {st:Stmt} {f:Addr} {fd:FuncData} {ps:List Str} (F:d6 K x qual st f fd)
  (h:∀ (kV doc pm:Value) (an:Option Addr) (cdv ct:Value) (us:List Value),us.length=ps.length→bindArgs (PySem.W.fnOf x qual (aF st) (aD st) (aj st) .none kV doc pm an cdv ct) ⟨us,[]⟩=pure (ps.zip us)):Binds K fd ps []:=by
 obtain ⟨oc,od,kV,doc,pm,an,cdv,ct,osl,rfl,lk,hcd⟩:=F.ex
 exact .all (h kV doc pm an cdv ct)
theorem aR {x qual:Str} {st:Stmt} {f:Addr} {oc:Value} {od an:Option Addr} {osl:Array (Option Value)} {kV doc pm cdv ct:Value} (l:K.lookup f=some ⟨oc,od,.func (PySem.W.fnOf x qual (aF st) (aD st) (aj st) .none kV doc pm an cdv ct),osl⟩)
  (c:PySem.W.codeIn K cdv qual=true) (k:PySem.W.keepIn K (.ref f)=true):d6 K x qual st f (PySem.W.fnOf x qual (aF st) (aD st) (aj st) .none kV doc pm an cdv ct):=⟨⟨oc,od,kV,doc,pm,an,cdv,ct,osl,rfl,l,c⟩,k⟩
end
theorem cK {A:Around} {k:Nat} (hr:fc k A):A.units + 1 < cLine:=Nat.lt_of_le_of_lt (Nat.add_le_add_left (by decide:1 ≤ 64) _) hr.units
theorem dW {n:Nat} (h:n ≤ 1000):n < sizeLine:=Nat.lt_of_le_of_lt h (by decide)
section
variable {X:Cx}
theorem pv (i:Nat) {x:Str} {pos:Pos} (hN:X.N[i]? = some x:=by rfl) (hv:Rq X.env.scope x:=by first | exact Or.inl rfl | exact Or.inr (Or.inl rfl) | exact Or.inr (Or.inr rfl)) (hd:(x == ("__debug__" : Str))=false:=by decide)
  (hcd:(x == ("__classdict__" : Str))=false:=by decide):PE X (.Name x pos) (Jv i):=Jw hN hv hd hcd
end
theorem Fn {A B:Prop} (h:B):if false=true then A else B:=by
 rw [if_neg Bool.false_ne_true]
 exact h
theorem d7 {c A B:Prop} [Decidable c] (h1:c→A) (h2:¬ c→B):if c then A else B:=by
 by_cases h:c
 ·rw [if_pos h]
  exact h1 h
 ·rw [if_neg h]
  exact h2 h
def Same (H H':Hp):Prop:=∀ b o,H b=some o→H' b=some o
theorem Same.refl (H:Hp):Same H H:=fun _ _ h=>h
theorem Same.trans {H H1 H2:Hp} (a:Same H H1) (b:Same H1 H2):Same H H2:=fun c o h=>b c o (a c o h)
theorem Same.free {H H':Hp} (e:Same H H') {l:Addr} (h:H' l=Option.none):H l=Option.none:=by
 cases q:H l with
 | none=>rfl
 | some o =>
  rw [e l o q] at h
  cases h
theorem Same.seq {K:PySem.W.Frag} {H H':Hp} {a:Addr} {xs:List V} (e:Same H H') (h:aZ K H a xs):aZ K H' a xs:=by
 rcases h with (h | ⟨o,h⟩) | h
 ·exact .inl (.inl (e _ _ h))
 ·exact .inl (.inr ⟨o,e _ _ h⟩)
 ·exact .inr h
section
variable {X:Cx}
end
section
variable {κ:Type} [DecidableEq κ]
theorem Cm {kvs:List (κ × V)} {k:κ} (h:cH kvs k=none):¬ k ∈ kvs.map (·.1):=by
 intro m
 obtain ⟨p,hp,e⟩:=List.mem_map.mp m
 have q:(kvs.any fun kv=>decide (kv.1=k))=true:=List.any_eq_true.mpr ⟨p,hp,decide_eq_true e⟩
 rw [ei,h] at q
 exact absurd q (by simp)
end
end L2
set_option maxHeartbeats 4000000
namespace L2
open PySem PySem.Spec PyProof.Rows
def eB (env:Env) (cs:List (Str × Addr)) (nk:Str × NameKind):List (Str × Addr) :=
 if nk.2 == .free then (nk.1,(env.cells.lookup nk.1).getD 0) :: cs else cs
def uR (scope:Scope) (env:Env):List (Str × Addr):=scope.names.foldl (eB env) []
theorem Fo {scope:Scope} {env:Env} (h:∀ y ∈ scope.names,y.2=.free→∃ c,env.cells.lookup y.1=some c):closureFor scope env=pure (uR scope env):=by
 have all:∀ (l:List (Str × NameKind)) (cs:List (Str × Addr)),(∀ y ∈ l,y.2=.free→∃ c,env.cells.lookup y.1=some c) →
   (forIn l cs (fun x r=>if (x.2 == NameKind.free)=true then do let a ← cellOf env x.1; pure (ForInStep.yield ((x.1,a) :: r)) else pure (ForInStep.yield r)):Sem (List (Str × Addr)))=pure (l.foldl (eB env) cs):=by
  intro l
  induction l with
  | nil=>intro cs _; rfl
  | cons y r ih =>
   intro cs hy
   obtain ⟨n,k⟩:=y
   rw [List.forIn_cons,List.foldl_cons]
   by_cases hk:(k == NameKind.free)=true
   ·obtain ⟨c,hc⟩:=hy (n,k) List.mem_cons_self (by simpa using hk)
    have e1:cellOf env n=pure c:=by unfold cellOf; rw [hc]
    have e2:eB env cs (n,k)=(n,c) :: cs:=by unfold eB; rw [if_pos hk,hc]; rfl
    rw [e2,← ih _ fun z hz=>hy z (List.mem_cons_of_mem _ hz)]
    dsimp only
    rw [if_pos hk,e1]
    rfl
   ·have e2:eB env cs (n,k)=cs:=by unfold eB; rw [if_neg hk]
    rw [e2,← ih _ fun z hz=>hy z (List.mem_cons_of_mem _ hz)]
    dsimp only
    rw [if_neg hk]
    rfl
 have e:=all scope.names [] h
 unfold closureFor uR
 rw [← e]
 simp only [bind_pure]
theorem uS {env:Env}:∀ {l:List (Str × NameKind)} {cs:List (Str × Addr)} {n:Str} {c:Addr},(∀ y ∈ l,y.2=.free→∃ c,env.cells.lookup y.1=some c)→(n,c) ∈ l.foldl (eB env) cs→(n,c) ∈ cs∨env.cells.lookup n=some c
 | [],cs,n,c,_,m=>.inl m
 | (y,k) :: r,cs,n,c,h,m=>by
  rcases uS (fun z hz=>h z (List.mem_cons_of_mem _ hz)) (show (n,c) ∈ r.foldl (eB env) (eB env cs (y,k)) from m) with q | q
  ·unfold eB at q
   by_cases hk:(k == NameKind.free)=true
   ·rw [if_pos hk] at q
    rcases List.mem_cons.mp q with q | q
    ·obtain ⟨d,hd⟩:=h (y,k) List.mem_cons_self (by simpa using hk)
     have hd:env.cells.lookup y=some d:=hd
     injection q with q1 q2
     subst q1
     rw [hd] at q2
     subst q2
     exact .inr hd
    ·exact .inl q
   ·rw [if_neg hk] at q
    exact .inl q
  ·exact .inr q
theorem oG {env:Env}:∀ {l:List (Str × NameKind)} {cs:List (Str × Addr)} {p:Str × Addr},p ∈ cs→p ∈ l.foldl (eB env) cs
 | [],_,_,m=>m
 | (y,k) :: r,cs,p,m=>by
  refine oG (l:=r) (cs:=eB env cs (y,k)) ?_
  unfold eB
  split
  ·exact List.mem_cons_of_mem _ m
  ·exact m
theorem uT {env:Env}:∀ {l:List (Str × NameKind)} {cs:List (Str × Addr)} {n:Str},(n,NameKind.free) ∈ l→∃ c,(n,c) ∈ l.foldl (eB env) cs
 | (y,k) :: r,cs,n,m=>by
  rcases List.mem_cons.mp m with q | q
  ·cases q
   exact ⟨(env.cells.lookup y).getD 0,oG (l:=r) (by simp [eB])⟩
  ·exact uT (l:=r) q
theorem oH {β:Type}:∀ {l:List (Str × β)} {n:Str} {c:β},(n,c) ∈ l→∃ d,l.lookup n=some d
 | (k,v) :: r,n,c,m=>by
  rw [List.lookup_cons]
  cases e:n == k with
  | true=>exact ⟨v,rfl⟩
  | false =>
   rcases List.mem_cons.mp m with q | q
   ·cases q
    simp at e
   ·exact oH q
theorem d8 {env:Env} (hf:env.scope.kind=.function):∀ {names:List (Str × NameKind)} {x:Str},names.lookup x=some .free→env.kindOf x=some .cell →
  (names.map fun (n,k)=>if (k == NameKind.free && env.scope.kind == .function && env.kindOf n == some .cell) then (n,NameKind.cell) else (n,k)).lookup x=some .cell
 | [],_,h,_=>by simp at h
 | (n,k) :: r,x,h,hc=>by
  have ih:=@d8 env hf r x
  show List.lookup x ((if (k == NameKind.free && env.scope.kind == .function && env.kindOf n == some .cell)=true then (n,NameKind.cell) else (n,k)) :: _)=_
  cases hx:x == n with
  | true =>
   have e:x=n:=by simpa using hx
   subst e
   simp only [List.lookup_cons,hx] at h
   cases h
   rw [if_pos (by rw [hf,hc]; rfl)]
   simp [List.lookup_cons]
  | false =>
   simp only [List.lookup_cons,hx] at h
   by_cases hc':(k == NameKind.free && env.scope.kind == .function && env.kindOf n == some .cell)=true
   ·rw [if_pos hc']; simp only [List.lookup_cons,hx]; exact ih h hc
   ·rw [if_neg hc']; simp only [List.lookup_cons,hx]; exact ih h hc
def my (sc scope:Scope) (N:List Str):List Str→List (Option Nat)→Bool
 | [],[]=>true
 | _ :: r,none :: f=>my sc scope N r f
 | y :: r,some i :: f=>(N[i]? == some y) && (scope.names.lookup y == some .free) && (sc.names.lookup y == some .cell) && my sc scope N r f
 | _,_=>false
structure dD (sc scope:Scope) (N N':List Str) (fr:List (Option Nat)):Prop where
 kind:scope.kind=.function
 Cp:∀ y ∈ scope.names,y.2 ≠ .cell
 names:∀ y ∈ scope.names,y.2=.local→scope.names.lookup y.1=some .local
 free:∀ y ∈ scope.names,y.2=.free→sc.names.lookup y.1=some .cell
 nd:N'.Nodup
 fr:my sc scope N N' fr=true
def Af (fr:List (Option Nat)) (σ:St):St:=fr.map fun o=>o.bind fun i=>(σ[i]?).join
theorem oI {sc scope:Scope} {N:List Str}:∀ {N':List Str} {fr:List (Option Nat)},my sc scope N N' fr=true→fr.length=N'.length
 | [],[],_=>rfl
 | _ :: r,none :: f,h=>by simp only [List.length_cons]; rw [oI (N':=r) (fr:=f) h]
 | y :: r,some i :: f,h=>by
  unfold my at h
  simp only [Bool.and_eq_true] at h
  simp only [List.length_cons]; rw [oI (N':=r) (fr:=f) h.2]
 | [],_ :: _,h=>by simp [my] at h
 | _ :: _,[],h=>by simp [my] at h
theorem rZ {sc scope:Scope} {N:List Str}:∀ {N':List Str} {fr:List (Option Nat)} {j i:Nat} {y:Str},my sc scope N N' fr=true→N'[j]? = some y→fr[j]? = some (some i)→N[i]? = some y∧scope.names.lookup y=some .free∧sc.names.lookup y=some .cell
 | [],[],_,_,_,_,h,_=>by simp at h
 | _ :: r,none :: f,0,i,y,_,_,h=>by simp at h
 | _ :: r,none :: f,j + 1,i,y,h,h1,h2=>rZ (N':=r) (fr:=f) (j:=j) h (by simpa using h1) (by simpa using h2)
 | z :: r,some k :: f,0,i,y,h,h1,h2=>by
  unfold my at h
  simp only [Bool.and_eq_true,beq_iff_eq] at h
  have e1:z=y:=by simpa using h1
  have e2:k=i:=by simpa using h2
  subst e1 e2
  exact ⟨h.1.1.1,h.1.1.2,h.1.2⟩
 | z :: r,some k :: f,j + 1,i,y,h,h1,h2=>by
  unfold my at h
  simp only [Bool.and_eq_true] at h
  exact rZ (N':=r) (fr:=f) (j:=j) h.2 (by simpa using h1) (by simpa using h2)
 | [],_ :: _,_,_,_,h,_,_=>by simp [my] at h
 | _ :: _,[],_,_,_,h,_,_=>by simp [my] at h
def eN (X:Cx) (scope:Scope) (C:Addr) (N':List Str) (s₀:Shared) (H₀:Hp) (fp:List Addr):Cx where
 prog:=X.prog
 w:=X.w
 K:=X.K
 mg:=X.mg
 base:=X.base
 A:=X.A
 N:=N'
 s₀:=s₀
 H₀:=H₀
 env:=compEnvC scope (uR scope X.env) C X.env
 outer:=X.stack
 stack:=X.stack
 ex:=fp
 calm:=true
 fn:=fun _=>false
 pn:=[]
 xe:=fun _ _=>False
section
variable {X:Cx} {scope:Scope} {N':List Str} {fr:List (Option Nat)} {pins:List (Addr × Obj)} {σ:St} {H:Hp} {s:Shared} {fp:List Addr}
theorem Inv.block {h1:Heap} {t1:Nat} {m:Str→Option Value} (S:dD X.env.scope scope X.N N' fr) (hc:X.calm=true) (I:Inv X pins σ H s) (hf:∀ b ∈ fp,oh X pins H b) (hlt:∀ b ∈ fp,b < s.heap.objs.size)
  (hns:h1.Ns s.heap.objs.size m) (old:∀ b o,s.heap.get? b=some o→h1.get? b=some o) :
  Inv (eN X scope s.heap.objs.size N' s H fp) [] (Af fr σ) H { s with heap:=h1,toks:=t1 }:=by
 have hfree:∀ y ∈ scope.names,y.2=.free→∃ c,X.env.cells.lookup y.1=some c:=fun y hy e=>I.ok.has y.1 (.inl (S.free y hy e))
 have cl1:∀ y c,(uR scope X.env).lookup y=some c→X.env.cells.lookup y=some c:=fun y c e=>by
  rcases uS (cs:=[]) hfree (PySem.mem_of_lookup e) with q | q
  ·exact absurd q (by simp)
  ·exact q
 have has:∀ y,((relabel scope X.env).names.lookup y=some .cell∨(relabel scope X.env).names.lookup y=some .free)→∃ c,(uR scope X.env).lookup y=some c:=fun y hy=>by
  have q:(y,NameKind.free) ∈ scope.names:=by
   have m:∃ k,(k=NameKind.cell∨k=NameKind.free)∧(y,k) ∈ (relabel scope X.env).names:=by
    rcases hy with hy | hy
    ·exact ⟨_,.inl rfl,PySem.mem_of_lookup hy⟩
    ·exact ⟨_,.inr rfl,PySem.mem_of_lookup hy⟩
   obtain ⟨k,hk,m⟩:=m
   obtain ⟨⟨n,k0⟩,hm,e⟩:=List.mem_map.mp m
   dsimp only at e
   by_cases hq:(k0 == NameKind.free && X.env.scope.kind == .function && X.env.kindOf n == some .cell)=true
   ·rw [if_pos hq] at e
    simp only [Bool.and_eq_true,beq_iff_eq] at hq
    injection e with e1 e2
    rw [← e1,← hq.1.1]
    exact hm
   ·rw [if_neg hq] at e
    injection e with e1 e2
    subst e1 e2
    rcases hk with hk | hk
    ·exact absurd hk (S.Cp _ hm)
    ·rw [← hk]; exact hm
  obtain ⟨c,mc⟩:=uT (env:=X.env) (cs:=[]) q
  exact oH mc
 have ltC:∀ y c,X.env.cells.lookup y=some c→c < s.heap.objs.size:=fun y c e=>by
  obtain ⟨v,q⟩:=I.cell y c e
  exact q.lt
 refine ⟨⟨I.ok.mod,S.kind,I.ok.glob,I.ok.blt,Nat.le_refl _,fun x y c e1 e2=>I.ok.inj x y c (cl1 x c e1) (cl1 y c e2),has,fun x c e _=>absurd e (by simp [eN]),fun _=>I.ok.hd hc,I.ok.frames,.inl rfl,
   fun b hb=>⟨Nat.ne_of_lt (hlt b hb),fun x c e=>(hf b hb).2.2.2.2.1 x c (cl1 x c e)⟩,I.bs,Nat.le_trans I.ok.Fd I.sz,fun b o e hb=>?_,fun b hb z=>?_,I.stack,I.ym⟩,
  rfl,I.bare,Un.kept old,⟨m,hns,fun i x v e1 e2 e3=>?_⟩,fun x c e=>?_,I.fresh,fun x c e=>I.jF x c (cl1 x c e),fun p hp=>absurd hp (by simp [eN]),I.hok.kept old,?_⟩
 ·rcases (hf b hb).2.2.2.1 with z | z
  ·exact I.ok.BO b o e z
  ·exact absurd (Nat.lt_of_lt_of_le (Heap.lt_size e) (Nat.le_trans I.ok.Fd z)) (Nat.lt_irrefl _)
 ·rcases List.mem_cons.mp (I.vM b z) with q | q
  ·exact (hf b hb).2.1 q
  ·exact (hf b hb).2.2.1 q
 ·
  have e2:(Af fr σ)[i]? = some (some v):=e2
  unfold Af at e2
  rw [List.getElem?_map] at e2
  cases q:fr[i]? with
  | none=>rw [q] at e2; cases e2
  | some o =>
   rw [q] at e2
   cases o with
   | none=>cases e2
   | some j =>
    have e2:(σ[j]?).join=some v:=Option.some.inj e2
    have e4:σ[j]? = some (some v):=by
     cases r:σ[j]? with
     | none=>rw [r] at e2; cases e2
     | some w=>rw [r] at e2; exact congrArg some e2
    obtain ⟨f1,f2,f3⟩:=rZ S.fr e1 q
    obtain ⟨m0,_,hl⟩:=I.loc
    obtain ⟨u,r,l⟩:=hl j x v f1 e4 (.inr (.inl f3))
    refine ⟨u,r,.inr ⟨.inl (d8 I.ok.kind f2 f3),?_⟩⟩
    obtain ⟨c,hc⟩:=has x (.inl (d8 I.ok.kind f2 f3))
    rcases l with ⟨k,_⟩ | ⟨_,c',hc',ho⟩
    ·have k:X.env.scope.names.lookup x=some .local:=k
     rw [f3] at k; cases k
    ·have e:c=c':=Option.some.inj ((cl1 x c hc).symm.trans hc')
     subst e
     obtain ⟨o,ho,hd⟩:=ho
     exact ⟨c,hc,o,old c o ho,hd⟩
 ·obtain ⟨v,o,ho,hd⟩:=I.cell x c (cl1 x c e)
  exact ⟨v,o,old c o ho,hd⟩
 ·show (Af fr σ).length=N'.length
  unfold Af
  rw [List.length_map]
  exact oI S.fr
end
def LV (X:Cx) (ifs:List Expr) (t:TT):Prop :=
 ∀ (pins:List (Addr × Obj)) (s:Shared) (σ:St) (H:Hp) (Q:Bool→Hp→Prop),Inv X pins σ H s→t σ H Q →
  wpAny (model X.prog X.w) X.A (forIn ifs true fun c r=>if r=true then do let ok ← isTrue c X.env (eval c X.env); pure (ForInStep.yield ok) else pure (ForInStep.yield r)) (TP X pins σ Q) X.xe s
def RW:TT:=fun _ H Q=>Q true H
theorem fz {X:Cx}:LV X [] RW:=fun _ _ _ H _ I q=>wpAny_tests_nil ⟨H,I,q⟩
theorem ke {X:Cx} {c:Expr} {t:TT} (h:PT X c t):LV X [c] t:=fun pins s σ H Q I q=>wpAny_tests_one (h pins s σ H Q I q)
theorem sd {prog:Program} {w:World} {A:Around} {R:Result→Shared→Prop} {s:Shared} {elt target iter:Expr} {ifs:List Expr} {scope:Scope} {pos:Pos} {it acc:Value} {env:Env} (I:Nat→Shared→Prop)
  (turn:∀ n s,I n s→wpAny (model prog w) A (pyNext it) (fun r s₁=>match r with
   | none=>R (.ok .next) s₁
   | some v=>wpAny (model prog w) A (letOwnedTupleGo target it v) (fun _ s₀=>wpAny (model prog w) A (assign target env v) (fun _ s₂ =>
     wpAny (model prog w) A (forIn ifs true fun c r=>if r=true then do let ok ← isTrue c env (eval c env); pure (ForInStep.yield ok) else pure (ForInStep.yield r)) (fun ok s₃ =>
      if ok=true then wpAny (model prog w) A (eval elt env) (fun x s₄ =>
       wpAny (model prog w) A (call (.builtin "list.append") [acc,x]) (fun _ s₅=>∃ m,m < n∧I m s₅) (fun _ _=>False) s₄) (fun _ _=>False) s₃
      else ∃ m,m < n∧I m s₃) (fun _ _=>False) s₂) (fun _ _=>False) s₀) (fun _ _=>False) s₁) (fun _ _=>False) s)
  (n:Nat) (h:I n s) :
  codeAny (model prog w) A (.compLoop (.ListComp elt [⟨target,iter,ifs,0⟩] scope pos) 0 it acc env) R s:=by
 refine codeAny_loop rfl I (fun n s hI=>?_) n h
 show wpAny _ A ((compTurn (.ListComp elt [⟨target,iter,ifs,0⟩] scope pos) 0 it acc env).onRaise (fun x=>do noteFrame x env; theTreesLotGoes x)) _ _ s
 refine wpAny_noted ?_
 rw [compTurn_list]
 refine wpAny_bind (wpAny_standAt (wpAny_bind (wpAny_mono (turn n s hI) (fun r s₁ h₁=>?_) fun _ _ h'=>h'.elim)))
 cases r with
 | none=>exact wpAny_pure h₁
 | some v =>
  refine wpAny_bind (wpAny_mono h₁ (fun _ s₀ h₀=>?_) fun _ _ h'=>h'.elim)
  refine wpAny_bind (wpAny_mono h₀ (fun _ s₂ h₂=>wpAny_bind (wpAny_mono h₂ (fun ok s₃ h₃=>?_) fun _ _ h'=>h'.elim)) fun _ _ h'=>h'.elim)
  cases ok with
  | false=>exact wpAny_pure ⟨rfl,h₃⟩
  | true =>
   exact wpAny_bind (wpAny_bind (wpAny_mono h₃ (fun x s₄ h₄=>wpAny_bind (wpAny_mono h₄ (fun _ s₅ h₅=>wpAny_pure (wpAny_pure ⟨rfl,h₅⟩)) fun _ _ h'=>h'.elim)) fun _ _ h'=>h'.elim))
def Cq (fr:List (Option Nat)) (wi:TI) (g:TG) (tt:TT) (te:TE):TE:=fun σ H Q=>wi σ H fun J H1=>∀ D,H1 D=none →
 ∃ W:Nat→Nat→St→List V→Hp→Prop,(∃ m,W 0 m (Af fr σ) [] (upd H1 D (.lst [])))∧∀ i m σ ys H,W i m σ ys H →
  (J.stop i H∧Q (.ref D) H)∨(J.go i H∧∃ N:St→List V→Hp→Prop,(∀ σ' ys' H',N σ' ys' H'→∃ m',m' < m∧W (i + 1) m' σ' ys' H')∧∀ x H',J.zT i H x H'→g x σ H' fun σ2 H2=>tt σ2 H2 fun b H3 =>
   if b=true then te σ2 H3 fun v H4=>H4 D=some (.lst ys)∧ys.length < sizeLine∧N σ2 (ys ++ [v]) (upd H4 D (.lst (ys ++ [v])))
   else N σ2 ys H3)
theorem uU {X:Cx} {elt tg iter:Expr} {ifs:List Expr} {scope:Scope} {pos cpos:Pos} {wi:TI} {g:TG} {tt:TT} {te:TE} {N':List Str} {fr:List (Option Nat)} (S:dD X.env.scope scope X.N N' fr) (hc:X.calm=true) (hi:PI X tg iter wi)
  (hg:∀ C s0 H0 fp,PG (eN X scope C N' s0 H0 fp) tg g) (ht:∀ C s0 H0 fp,LV (eN X scope C N' s0 H0 fp) ifs tt) (he:∀ C s0 H0 fp,PE (eN X scope C N' s0 H0 fp) elt te)
  (hs:∀ x,foldedSetIterable iter X.env x=pure x) {pins:List (Addr × Obj)} {s:Shared} {σ:St} {H:Hp} {Q:VK} (I:Inv X pins σ H s) (h:Cq fr wi g tt te σ H Q) (use:Option (Value→Sem Unit)) (QQ:Value→Shared→Prop)
  (fin:∀ (D C:Addr) (H5:Hp) (s6:Shared),Inv X pins σ H5 s6→Q (.ref D) H5→H5 C=none→C ≠ X.env.locals→X.s₀.heap.objs.size ≤ C→(∀ x c,X.env.cells.lookup x=some c→c ≠ C)→(∀ p ∈ X.pn ++ pins,p.1 ≠ C)→(∃ m,s6.heap.Ns C m) →
   compPost (model X.prog X.w) X.A X.xe use QQ (.ref D) C (.ok .next) s6) :
  wpAny (model X.prog X.w) X.A (comprehension (.ListComp elt [⟨tg,iter,ifs,0⟩] scope pos) scope X.env cpos (newList []) false (eval iter X.env) use) QQ X.xe s:=by
 have hfree:∀ y ∈ scope.names,y.2=.free→∃ c,X.env.cells.lookup y.1=some c:=fun y hy e=>I.ok.has y.1 (.inl (S.free y hy e))
 refine wpAny_comprehension_free (use:=use) rfl hs (Fo hfree) S.kind S.names (cC (hi pins s σ H _ I h) fun v s1 h1=>cC h1 fun itv s2 h2=>?_)
 obtain ⟨it,fp,tn,J,H2,e,I2,T,st2,f2,hD⟩:=h2
 subst e
 obtain ⟨W,⟨m0,w0⟩,turn⟩:=hD s2.heap.objs.size I2.fresh
 refine wpAny_newObj_type ?_
 have I3:Inv X pins σ (upd H2 s2.heap.objs.size (.lst [])) { s2 with heap:=s2.heap.push { cls:=.type "list",data:=.seq ([]:List Value).toArray },toks:=s2.toks }:=I2.JT (ys:=[]) .nil (Nat.zero_le _)
 revert I3
 generalize eD:s2.heap.objs.size=D at *
 generalize e3:({ s2 with heap:=s2.heap.push { cls:=.type "list",data:=.seq ([]:List Value).toArray },toks:=s2.toks }:Shared)=s3
 intro I3
 have k3:∀ b o,s2.heap.get? b=some o→s3.heap.get? b=some o:=fun b o e=>by rw [← e3]; exact Heap.get?_push_of_some _ e
 refine wpAny_newFunctionEnv S.Cp (by intro y hy; simp at hy) (fun h4 hns hsb=>?_) S.kind
 have old:∀ b o,s3.heap.get? b=some o→h4.get? b=some o:=fun b o e=>hsb.extBut b o (Nat.ne_of_lt (Heap.lt_size e)) (Heap.get?_push_of_some _ e)
 have fD:∀ b ∈ fp,b ≠ D:=fun b hb z=>by
  obtain ⟨o,ho,_⟩:=T.obj _ _ st2 b hb
  exact absurd (Heap.lt_size ho) (by rw [z,eD]; exact Nat.lt_irrefl _)
 have f3:∀ b ∈ fp,oh X pins (upd H2 D (.lst [])) b:=fun b hb=>⟨by rw [aK (fD b hb)]; exact (f2 b hb).1,(f2 b hb).2⟩
 have l3:∀ b ∈ fp,b < s3.heap.objs.size:=fun b hb=>by
  obtain ⟨o,ho,_⟩:=T.obj _ _ st2 b hb
  exact Heap.lt_size (k3 b o ho)
 have I4:=Inv.block (t1:=s3.toks + ([]:List (Str × Value)).length) (scope:=scope) S hc I3 f3 l3 hns old
 generalize eX:eN X scope s3.heap.objs.size N' s3 (upd H2 D (.lst [])) fp=X' at I4
 have st4:tn 0 h4:=T.keep _ _ _ st2 fun b hb o e=>old b o (k3 b o e)
 have stat:∀ {H':Hp},(∀ b ∈ fp,H' b=none)→∀ b ∈ fp,oh X' [] H' b:=fun {H'} hn b hb=>by
  subst eX
  refine ⟨hn b hb,Nat.ne_of_lt (l3 b hb),?_,.inl hb,?_,fun p hp=>absurd hp (by simp [eN])⟩
  ·exact I4.ok.BP b hb
  ·exact (I4.ok.Rr b hb).2
 show codeAny _ _ (.compStart _ 0 (.ref it) (.ref D) (compEnvC scope (uR scope X.env) s3.heap.objs.size X.env)) (compPost _ _ _ use _ (.ref D) s3.heap.objs.size) _
 have hX:X'.prog=X.prog∧X'.w=X.w∧X'.K=X.K∧X'.A=X.A∧X'.calm=true∧X'.env=compEnvC scope (uR scope X.env) s3.heap.objs.size X.env∧X'.xe=(fun _ _=>False)∧X'.s₀=s3∧X'.H₀=upd H2 D (.lst [])∧X'.fs=frs X.stack∧X'.ex=fp:=by
  subst eX
  exact ⟨rfl,rfl,rfl,rfl,rfl,rfl,rfl,rfl,rfl,rfl,rfl⟩
 have hg':PG X' tg g:=by subst eX; exact hg _ _ _ _
 have ht':LV X' ifs tt:=by subst eX; exact ht _ _ _ _
 have he':PE X' elt te:=by subst eX; exact he _ _ _ _
 clear eX
 obtain ⟨x1,x2,x3,x4,x5,x6,x7,x8,x9,x10,x11⟩:=hX
 have loop:codeAny (model X.prog X.w) X.A (.compLoop (.ListComp elt [⟨tg,iter,ifs,0⟩] scope pos) 0 (.ref it) (.ref D) (compEnvC scope (uR scope X.env) s3.heap.objs.size X.env))
   (compPost (model X.prog X.w) X.A X.xe use QQ (.ref D) s3.heap.objs.size) { s3 with heap:=h4,toks:=s3.toks + ([]:List (Str × Value)).length }:=by
  refine sd (fun n s'=>∃ i σ' ys H',Inv X' [] σ' H' s'∧tn i s'.heap∧(∀ b ∈ fp,H' b=none)∧W i n σ' ys H') ?_ m0 ⟨0,_,[],_,I4,st4,fun b hb=>(f3 b hb).1,w0⟩
  rintro n s5 ⟨i,σ5,ys,H5,I5,LU,QP,w5⟩
  rcases turn i n σ5 ys H5 w5 with ⟨stop,qn⟩ | ⟨go,N,hN,step⟩
  ·have z:=T.done X' x1 x2 x3 x5 i [] s5 σ5 H5 (fun _ _=>False) I5 (stat QP) LU stop
   rw [x4] at z
   refine cC z fun r s6 ⟨hr,I6⟩=>?_
   subst hr
   obtain ⟨mm,hn6,_⟩:=I6.loc
   have hL:X'.env.locals=s3.heap.objs.size:=by rw [x6]; rfl
   rw [hL] at hn6
   have nC:H5 s3.heap.objs.size=none:=by have:=I6.free; rw [hL] at this; exact this
   have base:=I6.base
   rw [x8,x9,x10,x11] at base
   have hok:jO X.prog X.w H5 s6.heap:=by have q:=I6.hok; rw [x1,x2] at q; exact q
   have os:s6.os=s3.os:=by have:=I6.os; rw [x8] at this; exact this
   have IX:Inv X pins σ H5 s6:=I3.call' os base hok I6.bare fun b hb=>⟨(f3 b hb).2.2.2.1,(f3 b hb).2.1,(f3 b hb).2.2.2.2.1,(f3 b hb).2.2.2.2.2⟩
   refine fin D s3.heap.objs.size H5 s6 IX qn nC (Nat.ne_of_gt I3.lt) I3.sz (fun x c e=>?_) (fun p hp=>?_) ⟨mm,hn6⟩
   ·obtain ⟨v,q⟩:=I3.cell x c e
    exact Nat.ne_of_lt q.lt
   ·exact Nat.ne_of_lt (Heap.lt_size (I3.pin p hp).1)
  ·have z:=T.item X' x1 x2 x3 x5 i [] s5 σ5 H5 (fun _ _=>False) I5 (stat QP) LU go
   rw [x4] at z
   refine cC z fun r s6 ⟨u,hr,h6⟩=>?_
   subst hr
   refine cC h6 fun _ s7 ⟨x,H7,I7,r7,y7,RX,fr7⟩=>?_
   have I7':=I7.pinned (stat fr7) (T.obj _ _ RX)
   have again:∀ {σ':St} {H':Hp} {s':Shared},Inv X' ([] ++ oi fp s7.heap) σ' H' s'→Inv X' [] σ' H' s'∧tn (i + 1) s'.heap∧∀ b ∈ fp,H' b=none:=fun {σ' H' s'} J=>by
    refine ⟨J.j5,T.keep _ _ _ RX fun b hb o e=>(J.pin (b,o) (List.mem_append_right _ (List.mem_append_right _ (iz hb e)))).1,fun b hb=>?_⟩
    obtain ⟨o,e,d⟩:=T.obj _ _ RX b hb
    exact (J.pin (b,o) (List.mem_append_right _ (List.mem_append_right _ (iz hb e)))).2.1
   have z:=hg' _ s7 σ5 H7 x u _ I7' r7 (step x H7 y7)
   rw [x1,x2,x4,x6,x7] at z
   refine cC z fun _ s8 ⟨σ8,H8,I8,q8⟩=>?_
   have z:=ht' _ s8 σ8 H8 _ I8 q8
   rw [x1,x2,x4,x6,x7] at z
   refine cC z fun b s9 ⟨H9,I9,q9⟩=>?_
   cases b with
   | false =>
    rw [if_neg Bool.false_ne_true] at q9 ⊢
    obtain ⟨m',hm,w9⟩:=hN _ _ _ q9
    obtain ⟨a1,a2,a3⟩:=again I9
    exact ⟨m',hm,i + 1,σ8,ys,H9,a1,a2,a3,w9⟩
   | true =>
    rw [if_pos rfl] at q9 ⊢
    have z:=he' _ s9 σ8 H9 _ I9 q9
    rw [x1,x2,x4,x6,x7] at z
    refine cC z fun v' s10 ⟨y,H10,I10,r10,RY,hz,w10⟩=>?_
    have z:=cJ (X:=X') _ s10 σ8 H10 (.ref D) [y] (.ref D) [v'] (fun _ H'=>N σ8 (ys ++ [y]) H') I10 rfl (.cons r10 .nil) ⟨D,ys,y,rfl,rfl,RY,hz,w10⟩
    rw [x1,x2,x4,x7] at z
    refine cC z fun _ s11 ⟨_,H11,I11,_,w11⟩=>?_
    obtain ⟨m',hm,w11⟩:=hN _ _ _ w11
    obtain ⟨a1,a2,a3⟩:=again I11
    exact ⟨m',hm,i + 1,σ8,_,H11,a1,a2,a3,w11⟩
 exact codeAny_compStart_list loop (T.self _ 0 _ _ _ st4 loop)
theorem fF {X:Cx} {elt tg iter:Expr} {ifs:List Expr} {scope:Scope} {pos:Pos} {wi:TI} {g:TG} {tt:TT} {te:TE} {N':List Str} {fr:List (Option Nat)} (S:dD X.env.scope scope X.N N' fr) (hc:X.calm=true) (hi:PI X tg iter wi)
  (hg:∀ C s0 H0 fp,PG (eN X scope C N' s0 H0 fp) tg g) (ht:∀ C s0 H0 fp,LV (eN X scope C N' s0 H0 fp) ifs tt) (he:∀ C s0 H0 fp,PE (eN X scope C N' s0 H0 fp) elt te)
  (hs:∀ x,foldedSetIterable iter X.env x=pure x:=by intro _; rfl):PE X (.ListComp elt [⟨tg,iter,ifs,0⟩] scope pos) (Cq fr wi g tt te):=by
 intro pins s σ H Q I h
 rw [eval_ListComp]
 refine uU S hc hi hg ht he hs I h none _ fun D C H5 s6 IX q nC c1 c2 c3 c4 hm=>?_
 obtain ⟨m,hm⟩:=hm
 refine ⟨m,hm,fun h' hs'=>⟨.ref D,H5,IX.turned (t':=s6.toks) (it:=C) (fun b o hb e=>hs'.extBut b o hb e) nC c1 (.inr c2) c3 c4,rfl,q⟩⟩
theorem kf {X:Cx} {elt tg iter:Expr} {ifs:List Expr} {scope:Scope} {pos spos py:Pos} {y:Str} {i:Nat} {wi:TI} {g:TG} {tt:TT} {te:TE} {N':List Str} {fr:List (Option Nat)} (hN:X.N.Nodup) (hy:X.N[i]? = some y) (hl:X.env.scope.names.lookup y=some .local)
  (S:dD X.env.scope scope X.N N' fr) (hc:X.calm=true) (hi:PI X tg iter wi)
  (hg:∀ C s0 H0 fp,PG (eN X scope C N' s0 H0 fp) tg g) (ht:∀ C s0 H0 fp,LV (eN X scope C N' s0 H0 fp) ifs tt) (he:∀ C s0 H0 fp,PE (eN X scope C N' s0 H0 fp) elt te)
  (hs:∀ x,foldedSetIterable iter X.env x=pure x:=by intro _; rfl) (hsw:swapsWith (.ListComp elt [⟨tg,iter,ifs,0⟩] scope pos) (some (.Name y py)) spos.line X.env=pure true:=by rfl) :
  PS X (.Assign [.Name y py] (.ListComp elt [⟨tg,iter,ifs,0⟩] scope pos) spos) (BW (Cq fr wi g tt te) (gF i)):=by
 intro pins s σ H D I h
 rw [exec_Assign_Name_used _ _ _ _ hsw]
 refine wpAny_bind (wpAny_standAt (wpAny_bind ?_))
 show wpAny _ X.A (do let _ ← comprehension (.ListComp elt [⟨tg,iter,ifs,0⟩] scope pos) scope X.env _ (newList []) false (eval iter X.env) (some (assign (.Name y py) X.env))) _ _ s
 refine wpAny_bind (cC (uU S hc hi hg ht he hs I h (some (assign (.Name y py) X.env)) (fun _ s'=>SP X pins D .next s') fun L C H5 s6 IX q nC c1 c2 c3 c4 hm=>?_) fun _ s' hq=>wpAny_pure (wpAny_pure hq))
 obtain ⟨m,hm⟩:=hm
 show wpAny _ X.A (assign (.Name y py) X.env (.ref L)) _ _ _
 refine wpAny_assign_Name (qK IX hN hy (.inl hl) (show RelV (.ref L) (Value.ref L) from rfl) (fun s7 I7 hch=>?_) (.inr hl))
 obtain ⟨a,hsb,ha⟩:=hch
 have hCa:C ≠ a:=by
  rcases ha with ha | ha
  ·rw [ha]; exact c1
  ·exact (c3 _ _ ha).symm
 refine ⟨m,hm.at' (fun o e=>(hsb.2 C hCa).trans e),fun h' hs'=>⟨_,H5,I7.turned (t':=s7.toks) (it:=C) (fun b o hb e=>hs'.extBut b o hb e) nC c1 (.inr c2) c3 c4,q⟩⟩
theorem jU {lo:Int} {n:Nat} {g:TG} {tt:TT} {te:TE} {R:Hp→Prop} {D:Addr} {σ0:St} {H0:Hp} (Pv:Nat→St→List V→Hp→Prop) (h0:Pv 0 σ0 [] H0)
  (hs:∀ i σ ys H,i < n→Pv i σ ys H→g (.int (lo + i)) σ H fun σ2 H2=>tt σ2 H2 fun b H3 =>
   if b=true then te σ2 H3 fun v H4=>H4 D=some (.lst ys)∧ys.length < sizeLine∧Pv (i + 1) σ2 (ys ++ [v]) (upd H4 D (.lst (ys ++ [v]))) else Pv (i + 1) σ2 ys H3)
  (hd:∀ σ ys H,Pv n σ ys H→R H) :
  ∃ W:Nat→Nat→St→List V→Hp→Prop,(∃ m,W 0 m σ0 [] H0)∧∀ i m σ ys H,W i m σ ys H →
   ((Ff lo n).stop i H∧R H)∨((Ff lo n).go i H∧∃ N:St→List V→Hp→Prop,(∀ σ' ys' H',N σ' ys' H'→∃ m',m' < m∧W (i + 1) m' σ' ys' H')∧∀ x H',(Ff lo n).zT i H x H'→g x σ H' fun σ2 H2=>tt σ2 H2 fun b H3 =>
    if b=true then te σ2 H3 fun v H4=>H4 D=some (.lst ys)∧ys.length < sizeLine∧N σ2 (ys ++ [v]) (upd H4 D (.lst (ys ++ [v]))) else N σ2 ys H3):=by
 refine ⟨fun i m σ ys H=>m=n - i∧i ≤ n∧Pv i σ ys H,⟨n,by simp,Nat.zero_le _,h0⟩,?_⟩
 rintro i m σ ys H ⟨rfl,hi,p⟩
 by_cases hlt:i < n
 ·refine .inr ⟨hlt,Pv (i + 1),fun σ' ys' H' p'=>⟨n - (i + 1),by omega,rfl,hlt,p'⟩,fun x H' y=>?_⟩
  obtain ⟨e,y⟩:=y
  subst e y
  exact hs i σ ys _ hlt p
 ·have e:i=n:=by omega
  subst e
  exact .inl ⟨Nat.le_refl _,hd σ ys H p⟩
theorem eG {K:PySem.W.Frag} {a:Addr} {xs:List V} {g:TG} {tt:TT} {te:TE} {R:Hp→Prop} {D:Addr} {σ0:St} {H0:Hp} (Pv:Nat→St→List V→Hp→Prop) (h0:Pv 0 σ0 [] H0) (hl:∀ i σ ys H,i ≤ xs.length→Pv i σ ys H→aZ K H a xs)
  (hs:∀ i x σ ys H,xs[i]? = some x→Pv i σ ys H→g x σ H fun σ2 H2=>tt σ2 H2 fun b H3 =>
   if b=true then te σ2 H3 fun v H4=>H4 D=some (.lst ys)∧ys.length < sizeLine∧Pv (i + 1) σ2 (ys ++ [v]) (upd H4 D (.lst (ys ++ [v]))) else Pv (i + 1) σ2 ys H3)
  (hd:∀ σ ys H,Pv xs.length σ ys H→R H) :
  ∃ W:Nat→Nat→St→List V→Hp→Prop,(∃ m,W 0 m σ0 [] H0)∧∀ i m σ ys H,W i m σ ys H →
   ((BX K a).stop i H∧R H)∨((BX K a).go i H∧∃ N:St→List V→Hp→Prop,(∀ σ' ys' H',N σ' ys' H'→∃ m',m' < m∧W (i + 1) m' σ' ys' H')∧∀ x H',(BX K a).zT i H x H'→g x σ H' fun σ2 H2=>tt σ2 H2 fun b H3 =>
    if b=true then te σ2 H3 fun v H4=>H4 D=some (.lst ys)∧ys.length < sizeLine∧N σ2 (ys ++ [v]) (upd H4 D (.lst (ys ++ [v]))) else N σ2 ys H3):=by
 refine ⟨fun i m σ ys H=>m=xs.length - i∧i ≤ xs.length∧Pv i σ ys H,⟨xs.length,by simp,Nat.zero_le _,h0⟩,?_⟩
 rintro i m σ ys H ⟨rfl,hi,p⟩
 have q:=hl i σ ys H hi p
 by_cases hlt:i < xs.length
 ·refine .inr ⟨⟨xs,xs[i],q,by simp [hlt]⟩,Pv (i + 1),fun σ' ys' H' p'=>⟨xs.length - (i + 1),by omega,rfl,hlt,p'⟩,fun x H' y=>?_⟩
  obtain ⟨e,y⟩:=y
  subst e
  exact hs i x σ ys _ (y xs q) p
 ·have e:i=xs.length:=by omega
  subst e
  exact .inl ⟨⟨xs,q,Nat.le_refl _⟩,hd σ ys H p⟩
end L2
namespace SF
open PySem
def qt (xs:Array Nat):Prop:=∀ i k,i < k→k < xs.size→xs.getD i 0 < xs.getD k 0
theorem Cr {xs:Array Nat} {i a b:Nat} (h:i < xs.size):xs.getD i a=xs.getD i b:=by
 simp [Array.getD,h]
theorem Fq {xs:Array Nat} {j:Nat} (hr:qt xs):∀ (f lo hi:Nat),lo ≤ hi→hi ≤ xs.size→hi - lo ≤ f→(∀ i,i < lo→xs.getD i 0 < j)→(∀ i,hi ≤ i→i < xs.size→j ≤ xs.getD i 0) →
  SetTable.below.go xs j f lo hi ≤ xs.size∧(∀ i,i < SetTable.below.go xs j f lo hi→xs.getD i 0 < j)∧∀ i,SetTable.below.go xs j f lo hi ≤ i→i < xs.size→j ≤ xs.getD i 0:=by
 intro f
 induction f with
 | zero =>
  intro lo hi h1 h2 h3 h4 h5
  have e:lo=hi:=by omega
  subst e
  exact ⟨h2,h4,h5⟩
 | succ f ih =>
  intro lo hi h1 h2 h3 h4 h5
  unfold SetTable.below.go
  by_cases hlt:lo < hi
  ·rw [if_pos hlt]
   have m1:(lo + hi) / 2 < hi:=by omega
   have m2:lo ≤ (lo + hi) / 2:=by omega
   dsimp only
   rw [Cr (b:=0) (Nat.lt_of_lt_of_le m1 h2)]
   by_cases hm:xs.getD ((lo + hi) / 2) 0 < j
   ·rw [if_pos hm]
    refine ih _ _ (by omega) h2 (by omega) (fun i hi'=>?_) h5
    rcases Nat.lt_or_ge i ((lo + hi) / 2) with q | q
    ·exact Nat.lt_trans (hr i _ q (by omega)) hm
    ·have e:i=(lo + hi) / 2:=by omega
     rw [e]; exact hm
   ·rw [if_neg hm]
    refine ih _ _ m2 (by omega) (by omega) h4 (fun i hi' hs=>?_)
    rcases Nat.lt_or_ge ((lo + hi) / 2) i with q | q
    ·exact Nat.le_trans (Nat.not_lt.mp hm) (Nat.le_of_lt (hr _ i q hs))
    ·have e:i=(lo + hi) / 2:=by omega
     rw [e]; exact Nat.not_lt.mp hm
  ·rw [if_neg hlt]
   have e:lo=hi:=by omega
   subst e
   exact ⟨h2,h4,h5⟩
theorem oJ {xs:Array Nat} {j:Nat} (hr:qt xs):SetTable.below xs j ≤ xs.size∧(∀ i,i < SetTable.below xs j→xs.getD i 0 < j)∧∀ i,SetTable.below xs j ≤ i→i < xs.size→j ≤ xs.getD i 0 :=
 Fq hr xs.size 0 xs.size (Nat.zero_le _) (Nat.le_refl _) (Nat.le_refl _) (fun i h=>absurd h (Nat.not_lt_zero _)) (fun i h1 h2=>absurd (Nat.lt_of_lt_of_le h2 h1) (Nat.lt_irrefl _))
theorem below_at {xs:Array Nat} (hr:qt xs) {i s:Nat} (h1:∀ k,k < i→xs.getD k 0 < s) (h2:i < xs.size→s ≤ xs.getD i 0) (hi:i ≤ xs.size):SetTable.below xs s=i:=by
 obtain ⟨b1,b2,b3⟩:=oJ (j:=s) hr
 rcases Nat.lt_trichotomy (SetTable.below xs s) i with q | q | q
 ·have:=b3 _ (Nat.le_refl _) (by omega)
  have:=h1 _ q
  omega
 ·exact q
 ·have:=b2 i q
  have:=h2 (by omega)
  omega
theorem lO {xs:Array Nat}:qt xs↔xs.toList.Pairwise (· < ·):=by
 rw [List.pairwise_iff_getElem]
 constructor
 ·intro h i k hi hk hik
  have h':=h i k hik (by simpa using hk)
  have hi':i < xs.size:=by simpa using hi
  have hk':k < xs.size:=by simpa using hk
  simpa [Array.getD,hi',hk'] using h'
 ·intro h i k hik hk
  have hi:i < xs.size:=Nat.lt_trans hik hk
  have h':=h i k (by simpa using hi) (by simpa using hk) hik
  simpa [Array.getD,hi,hk] using h'
theorem uV {xs:Array Nat} {j:Nat} (hr:qt xs) (hn:∀ i,i < xs.size→xs.getD i 0 ≠ j):qt (SetTable.insertAt xs (SetTable.below xs j) j):=by
 obtain ⟨b1,b2,b3⟩:=oJ (j:=j) hr
 rw [lO,SetTable.toList_insertAt]
 have hp:=lO.mp hr
 have take:∀ a ∈ xs.toList.take (SetTable.below xs j),a < j:=fun a ha=>by
  obtain ⟨i,hi,e⟩:=List.getElem_of_mem ha
  have hi':i < SetTable.below xs j∧i < xs.size:=by
   rw [List.length_take] at hi
   simp at hi
   omega
  have:=b2 i hi'.1
  rw [← e,List.getElem_take]
  simpa [Array.getD,hi'.2] using this
 have drop:∀ a ∈ xs.toList.drop (SetTable.below xs j),j < a:=fun a ha=>by
  obtain ⟨i,hi,e⟩:=List.getElem_of_mem ha
  have hi':SetTable.below xs j + i < xs.size:=by
   rw [List.length_drop] at hi
   simp at hi
   omega
  have h1:=b3 (SetTable.below xs j + i) (Nat.le_add_right _ _) hi'
  have h2:=hn _ hi'
  rw [← e,List.getElem_drop]
  have h3:j < xs.getD (SetTable.below xs j + i) 0:=by omega
  simpa [Array.getD,hi'] using h3
 refine List.pairwise_append.mpr ⟨hp.sublist (List.take_sublist _ _),List.pairwise_cons.mpr ⟨drop,hp.sublist (List.drop_sublist _ _)⟩,fun a ha b hb=>?_⟩
 rcases List.mem_cons.mp hb with e | hb
 ·rw [e]; exact take a ha
 ·exact Nat.lt_trans (take a ha) (drop b hb)
structure oK (t:SetTable):Prop where
 QV:t.dummies=#[]
 up:t.plain=true→qt t.place
theorem Cu {t:SetTable} (h:t.dummies=#[]) (j:Nat):t.slot j ≠ .dummy:=by
 unfold SetTable.slot
 dsimp only
 split
 ·intro z; cases z
 ·have e:SetTable.has t.dummies j=false:=by rw [h]; simp [SetTable.has]
  rw [if_neg (by rw [e]; exact Bool.false_ne_true)]
  intro z; cases z
theorem wm {t:SetTable} (h:t.dummies=#[]) {f:Nat→Int} {x:Int}:∀ (n:Nat) (p:SetTable.Probe) {j:Nat} {d:Option Nat},SetTable.probe.go t f x n p=some (.empty j d)→t.slot j=.empty∧d=p.dummy:=by
 intro n
 induction n with
 | zero=>intro p j d e; cases e
 | succ n ih =>
  intro p j d e
  unfold SetTable.probe.go at e
  cases q:t.slot p.j with
  | empty =>
   rw [q] at e
   cases e
   exact ⟨q,rfl⟩
  | dummy=>exact absurd q (Cu h _)
  | live i =>
   rw [q] at e
   dsimp only at e
   have adv:(t.advance p).dummy=p.dummy:=by
    unfold SetTable.advance
    split <;> rfl
   split at e
   ·cases e
   ·have:=ih _ e
    rw [adv] at this
    exact this
theorem Cv {t:SetTable} (hr:qt t.place) {j:Nat} (h:t.slot j=.empty):∀ i,i < t.place.size→t.place.getD i 0 ≠ j:=by
 intro i hi e
 have hb:SetTable.below t.place j=i:=below_at hr (fun k hk=>by rw [← e]; exact hr k i hk hi) (fun _=>by rw [e]; exact Nat.le_refl _) (Nat.le_of_lt hi)
 have q:t.place[SetTable.below t.place j]? = some j:=by
  rw [hb,← e]
  simp [Array.getD,hi]
 unfold SetTable.slot at h
 dsimp only at h
 rw [if_pos (by rw [q]; simp)] at h
 cases h
theorem fV (t:SetTable) (n:Nat):oK (t.standIn n)∧(t.standIn n).led=t.led:=⟨⟨rfl,fun h=>by cases h⟩,rfl⟩
theorem wo {t:SetTable} (es:Array (Int × Value)) (h:Int) (x:Value) (I:oK t):oK (layNew t es h x).2.1∧(layNew t es h x).2.1.led=t.led:=by
 unfold layNew
 cases e:t.freeSlot h with
 | none=>exact fV _ _
 | some p =>
  obtain ⟨slot,wd⟩:=p
  dsimp only
  unfold SetTable.freeSlot at e
  cases q:t.probe (fun _=>h + 1) h (t.probeStart h) with
  | none=>rw [q] at e; cases e
  | some m =>
   rw [q] at e
   cases m with
   | candidate a b c=>cases e
   | empty j d =>
    obtain ⟨h1,h2⟩:=wm I.QV _ _ q
    have h2:d=none:=h2
    subst h2
    have e1:j=slot:=by
     have:=congrArg Prod.fst (Option.some.inj e)
     exact this
    subst e1
    have key:oK (t.put j).1∧(t.put j).1.led=t.led:=by
     refine ⟨⟨?_,fun hp=>?_⟩,rfl⟩
     ·show (if SetTable.has t.dummies j then _ else t.dummies)=#[]
      rw [if_neg (by rw [I.QV]; simp [SetTable.has])]
      exact I.QV
     ·exact uV (I.up hp) (Cv (I.up hp) h1)
    unfold SetTable.orStandIn
    split
    ·exact key
    ·exact ⟨(fV _ _).1,(fV _ _).2.trans key.2⟩
theorem uW {β:Type} (g:Nat→Option β):∀ l:List Nat,(l.filterMap fun j=>(g j).map (j,·)).map (·.1)=l.filter fun j=>(g j).isSome
 | []=>rfl
 | a :: r=>by
  have ih:=uW g r
  cases e:g a with
  | none=>simp [List.filterMap_cons,e,ih]
  | some b=>simp [List.filterMap_cons,e,ih]
theorem sg {t:SetTable} (es:Array (Int × Value)) (n:Nat):oK (relayAll t es n).2.1∧(relayAll t es n).2.1.led=t.led:=by
 unfold relayAll
 cases e:t.relaid (es.map (·.1)) n with
 | none=>exact fV _ _
 | some p =>
  obtain ⟨t',order⟩:=p
  dsimp only
  split
  ·unfold SetTable.relaid SetTable.laid at e
   cases q:SetTable.layClean (SetTable.sizeAbove n - 1) (es.map (·.1)) with
   | none=>rw [q] at e; cases e
   | some owner =>
    rw [q] at e
    have e:=congrArg Prod.fst (Option.some.inj e)
    dsimp only at e
    subst e
    refine ⟨⟨rfl,fun _=>?_⟩,rfl⟩
    rw [lO]
    dsimp only
    have z:=uW (fun j=>owner.getD j none) (List.range (SetTable.sizeAbove n - 1 + 1))
    rw [z]
    exact List.pairwise_lt_range.sublist List.filter_sublist
  ·exact fV _ _
theorem jV {α:Type}:∀ (l:List α) (i:Nat) (h:i < l.length),List.Perm (l[i] :: l.eraseIdx i) l
 | a :: r,0,_=>List.Perm.refl _
 | a :: r,i + 1,h=>by
  have q:=jV r i (by simpa using h)
  show List.Perm (r[i]'(by simpa using h) :: a :: r.eraseIdx i) (a :: r)
  exact (List.Perm.swap _ _ _).trans (q.cons a)
theorem yD {α:Type} (next:Nat→Nat):∀ (n k:Nat) (left:List α) (out:Array α),n=left.length→List.Perm (pickOrder.go next n k left out).toList (out.toList ++ left)
 | 0,k,left,out,h=>by
  have e:left=[]:=List.eq_nil_of_length_eq_zero h.symm
  subst e
  simp [pickOrder.go]
 | n + 1,k,left,out,h=>by
  unfold pickOrder.go
  have hlt:next k % left.length < left.length:=Nat.mod_lt _ (by omega)
  have e:left[next k % left.length]? = some left[next k % left.length]:=List.getElem?_eq_getElem hlt
  rw [e]
  dsimp only
  refine (yD next n (k + 1) _ _ (by rw [List.length_eraseIdx,if_pos hlt]; omega)).trans ?_
  rw [Array.toList_push,List.append_assoc]
  refine List.Perm.append_left _ ?_
  show List.Perm (left[next k % left.length] :: left.eraseIdx (next k % left.length)) left
  exact jV _ _ hlt
theorem Ag {α:Type} (next:Nat→Nat) (xs:Array α):List.Perm (pickOrder next xs).toList xs.toList:=by
 have:=yD next xs.size 0 xs.toList #[] (by simp)
 simpa [pickOrder] using this
end SF
namespace SF
open PySem PySem.Calls PyProof.Rows
theorem bJ:Slot "set_iterator" "__next__" "set_iterator.__next__" :=
 .of (owner := "set_iterator") (n := "__next__") (by rw [typeLookup_type,builtinLookup_eq_fast]; kernel_rfl) (by decide +kernel) (by decide +kernel) (by decide +kernel)
  (by first | exact .inl (by decide +kernel) | exact .inr (by decide +kernel)) (by rw [isSubtype_type]; kernel_rfl)
theorem fJ:entryFor table "set_iterator.__next__" = some Builtin.«set_iterator.__next__»:=entryFor_of_tree (by kernel_rfl)
theorem gj (a:Value):argsOk "set_iterator.__next__" ⟨[a],[]⟩:=by unfold argsOk; kernel_rfl
theorem oM:entryFor table "set.__iter__" = some Builtin.«frozenset.__iter__» :=
 entryFor_alias (id' := "frozenset.__iter__") (by kernel_rfl) rfl (by decide +kernel) (by kernel_rfl)
section
variable {prog:Program} {w:World} {A:Around} {E:Value→Shared→Prop} {s:Shared}
def dw (h:Heap) (a:Addr) (es:Array (Int × Value)) (ep:Nat) (t:SetTable):Prop:=∃ o,h.get? a=some o∧o.ExactSet∧o.data=.set es ep t
def jW (h:Heap) (I:Addr) (first:Value) (i:Nat) (a:Addr) (n ep:Nat):Prop :=
 ∃ o,h.get? I=some o∧o.cls=.type "set_iterator" ∧ o.data=.fields #[first,.int i 0,.ref a,.int n 0,.int ep 0]
theorem jW.typeIs {I:Addr} {first:Value} {i:Nat} {a:Addr} {n ep:Nat} (x:jW s.heap I first i a n ep):s.TypeIs (.ref I) "set_iterator" := let ⟨o,ho,hc,_⟩:=x; ⟨o,ho,hc⟩
theorem Cw {a I:Addr} {es:Array (Int × Value)} {ep:Nat} {t:SetTable} {sl i:Nat} {v:Value} {sl':Nat} {Q:Option Value→Shared→Prop}
  (hs:dw s.heap a es ep t) (hf:t.fits es.size=true) (hi:jW s.heap I (.int sl 0) i a es.size ep)
  (hN:∀ (s:Shared) (A:Around) (E:Value→Shared→Prop) (R:Option (Value × Nat)→Shared→Prop),dw s.heap a es ep t→R (some (v,sl')) s→wpAny (model prog w) A (setNext a sl i ep) R E s)
  (hQ:∀ h',jW h' I (.int sl' 0) (i + 1) a es.size ep→Heap.SameBut I s.heap h'→Q (some v) { s with heap:=h' }):wpAny (model prog w) A (pyNext (.ref I)) Q E s:=by
 obtain ⟨o,ho,hc,hd⟩:=id hi
 obtain ⟨oa,hoa,hex,hda⟩:=id hs
 unfold pyNext
 refine wpAny_bind (wpAny_attempt (wpAny_callSpecial?_slot (name:=Str.ofString "__next__") hi.typeIs bJ
  (wpAny_call_entry bJ hi.typeIs fJ ?_ (gj _))))
 unfold Builtin.«set_iterator.__next__»
 refine wpAny_bind (wpAny_pure ?_)
 refine wpAny_bind (wpAny_fieldsOf ho hd ?_)
 dsimp only
 refine wpAny_bind (wpAny_setEntries_of hoa hda hf ?_)
 rw [if_neg (by simp)]
 simp only [Int.toNat_natCast]
 refine wpAny_bind (hN s _ _ _ hs ?_)
 dsimp only
 refine wpAny_bind (wpAny_setField ho hd (by simp) ?_)
 have ho1:=Heap.get?_update_self (Obj.mapFields (·.setIfInBounds 0 (rawInt (sl':Int)))) ho (Obj.isFreed_of_fields (Obj.data_mapFields hd _))
 have hd1:=Obj.data_mapFields hd (·.setIfInBounds 0 (rawInt (sl':Int)))
 refine wpAny_bind (wpAny_setField ho1 hd1 (by simp) ?_)
 have ho2:=Heap.get?_update_self (Obj.mapFields (·.setIfInBounds 1 (rawInt ((i:Int) + 1)))) ho1 (Obj.isFreed_of_fields (Obj.data_mapFields hd1 _))
 have hd2:=Obj.data_mapFields hd1 (·.setIfInBounds 1 (rawInt ((i:Int) + 1)))
 refine wpAny_pure ⟨_,rfl,wpAny_pure (hQ _ ⟨_,ho2,?_,?_⟩ ((Heap.SameBut.update ..).trans (Heap.SameBut.update ..)))⟩
 ·rw [Obj.cls_mapFields,Obj.cls_mapFields]
  exact hc
 ·rw [hd2]
  simp [rawInt]
theorem end_int {a I:Addr} {es:Array (Int × Value)} {ep:Nat} {t:SetTable} {sl i:Nat} {Q:Option Value→Shared→Prop} (hh:A.handled=none)
  (hs:dw s.heap a es ep t) (hf:t.fits es.size=true) (hi:jW s.heap I (.int sl 0) i a es.size ep)
  (hN:∀ (s:Shared) (A:Around) (E:Value→Shared→Prop) (R:Option (Value × Nat)→Shared→Prop),dw s.heap a es ep t→R none s→wpAny (model prog w) A (setNext a sl i ep) R E s)
  (hQ:∀ h',Heap.ExtBut I s.heap h'→Q none { s with heap:=h' }):wpAny (model prog w) A (pyNext (.ref I)) Q E s:=by
 obtain ⟨o,ho,hc,hd⟩:=id hi
 obtain ⟨oa,hoa,hex,hda⟩:=id hs
 unfold pyNext
 refine wpAny_bind (wpAny_attempt (wpAny_callSpecial?_slot (name:=Str.ofString "__next__") hi.typeIs bJ
  (wpAny_call_entry bJ hi.typeIs fJ ?_ (gj _))))
 unfold Builtin.«set_iterator.__next__»
 refine wpAny_bind (wpAny_pure ?_)
 refine wpAny_bind (wpAny_fieldsOf ho hd ?_)
 dsimp only
 refine wpAny_bind (wpAny_setEntries_of hoa hda hf ?_)
 rw [if_neg (by simp)]
 simp only [Int.toNat_natCast]
 refine wpAny_bind (hN s _ _ _ hs ?_)
 dsimp only
 refine wpAny_bind (wpAny_setField ho hd (by simp) ?_)
 refine wpAny_bind ?_
 simp only [newExc,newTuple]
 refine wpAny_bind (wpAny_newObj_type ?_ (by size_fits))
 refine wpAny_bind (m:=firstArgMember _ _) (wpAny_of_eq (a:=Value.none) (by first | rfl | (simp only [firstArgMember]; rfl)) ?_)
 refine wpAny_newObj_type ?_ (by size_fits)
 simp only [raiseNew]
 refine wpAny_bind (wpAny_handled ?_)
 rw [show A.in1.handled=none from hh]
 refine wpAny_bind (wpAny_pure (wpAny_throw ?_))
 refine wpAny_bind (wpAny_isInstance (T := "StopIteration") (b:=true) ⟨_,Heap.get?_push_size _ rfl,rfl⟩ isSubtype_stop ?_)
 exact wpAny_pure (hQ _ (((Heap.SameBut.update ..).extBut.push _).push _))
theorem wq {a I T:Addr} {es:Array (Int × Value)} {ep:Nat} {t:SetTable} {i p:Nat} {ps:Array Value} {k:Nat} {tk:Tok} {oT:Obj} {c:Int} {v:Value} {Q:Option Value→Shared→Prop}
  (hs:dw s.heap a es ep t) (hf:t.fits es.size=true) (hi:jW s.heap I (.ref T) i a es.size ep) (hT:s.heap.get? T=some oT) (hTd:oT.data=.seq ps k) (hp:ps[i]? = some (.int p tk)) (hv:es[p]? = some (c,v))
  (hQ:∀ h',jW h' I (.ref T) (i + 1) a es.size ep→Heap.SameBut I s.heap h'→Q (some v) { s with heap:=h' }):wpAny (model prog w) A (pyNext (.ref I)) Q E s:=by
 obtain ⟨o,ho,hc,hd⟩:=id hi
 obtain ⟨oa,hoa,hex,hda⟩:=id hs
 unfold pyNext
 refine wpAny_bind (wpAny_attempt (wpAny_callSpecial?_slot (name:=Str.ofString "__next__") hi.typeIs bJ
  (wpAny_call_entry bJ hi.typeIs fJ ?_ (gj _))))
 unfold Builtin.«set_iterator.__next__»
 refine wpAny_bind (wpAny_pure ?_)
 refine wpAny_bind (wpAny_fieldsOf ho hd ?_)
 dsimp only
 refine wpAny_bind (wpAny_setEntries_of hoa hda hf ?_)
 rw [if_neg (by simp)]
 simp only [Int.toNat_natCast]
 refine wpAny_bind ?_
 unfold seqItems?
 refine wpAny_bind (wpAny_load hT ?_)
 rw [hTd]
 refine wpAny_pure ?_
 dsimp only
 rw [hp]
 dsimp only
 refine wpAny_bind ?_
 unfold setNextDrawn
 refine wpAny_bind (wpAny_setState_of hoa hda hf ?_)
 dsimp only
 rw [if_neg (by simp)]
 simp only [Int.toNat_natCast]
 rw [hv]
 refine wpAny_pure ?_
 refine wpAny_bind (wpAny_setField ho hd (by simp) ?_)
 have ho2:=Heap.get?_update_self (Obj.mapFields (·.setIfInBounds 1 (rawInt ((i:Int) + 1)))) ho (Obj.isFreed_of_fields (Obj.data_mapFields hd _))
 have hd2:=Obj.data_mapFields hd (·.setIfInBounds 1 (rawInt ((i:Int) + 1)))
 refine wpAny_pure ⟨_,rfl,wpAny_pure (hQ _ ⟨_,ho2,?_,?_⟩ (Heap.SameBut.update ..))⟩
 ·rw [Obj.cls_mapFields]
  exact hc
 ·rw [hd2]
  simp [rawInt]
theorem Ah {a I T:Addr} {es:Array (Int × Value)} {ep:Nat} {t:SetTable} {i:Nat} {ps:Array Value} {k:Nat} {oT:Obj} {Q:Option Value→Shared→Prop} (hh:A.handled=none)
  (hs:dw s.heap a es ep t) (hf:t.fits es.size=true) (hi:jW s.heap I (.ref T) i a es.size ep) (hT:s.heap.get? T=some oT) (hTd:oT.data=.seq ps k) (hp:ps[i]? = none)
  (hQ:∀ h',Heap.ExtBut I s.heap h'→Q none { s with heap:=h' }):wpAny (model prog w) A (pyNext (.ref I)) Q E s:=by
 obtain ⟨o,ho,hc,hd⟩:=id hi
 obtain ⟨oa,hoa,hex,hda⟩:=id hs
 unfold pyNext
 refine wpAny_bind (wpAny_attempt (wpAny_callSpecial?_slot (name:=Str.ofString "__next__") hi.typeIs bJ
  (wpAny_call_entry bJ hi.typeIs fJ ?_ (gj _))))
 unfold Builtin.«set_iterator.__next__»
 refine wpAny_bind (wpAny_pure ?_)
 refine wpAny_bind (wpAny_fieldsOf ho hd ?_)
 dsimp only
 refine wpAny_bind (wpAny_setEntries_of hoa hda hf ?_)
 rw [if_neg (by simp)]
 simp only [Int.toNat_natCast]
 refine wpAny_bind ?_
 unfold seqItems?
 refine wpAny_bind (wpAny_load hT ?_)
 rw [hTd]
 refine wpAny_pure ?_
 dsimp only
 rw [hp]
 dsimp only
 refine wpAny_bind (wpAny_setField ho hd (by simp) ?_)
 have ho1:=Heap.get?_update_self (Obj.mapFields (·.setIfInBounds 0 (rawInt 0))) ho (Obj.isFreed_of_fields (Obj.data_mapFields hd _))
 have hd1:=Obj.data_mapFields hd (·.setIfInBounds 0 (rawInt 0))
 refine wpAny_bind (wpAny_setField ho1 hd1 (by simp) ?_)
 refine wpAny_bind ?_
 simp only [newExc,newTuple]
 refine wpAny_bind (wpAny_newObj_type ?_ (by size_fits))
 refine wpAny_bind (m:=firstArgMember _ _) (wpAny_of_eq (a:=Value.none) (by first | rfl | (simp only [firstArgMember]; rfl)) ?_)
 refine wpAny_newObj_type ?_ (by size_fits)
 simp only [raiseNew]
 refine wpAny_bind (wpAny_handled ?_)
 rw [show A.in1.handled=none from hh]
 refine wpAny_bind (wpAny_pure (wpAny_throw ?_))
 refine wpAny_bind (wpAny_isInstance (T := "StopIteration") (b:=true) ⟨_,Heap.get?_push_size _ rfl,rfl⟩ isSubtype_stop ?_)
 exact wpAny_pure (hQ _ ((((Heap.SameBut.update ..).trans (Heap.SameBut.update ..)).extBut.push _).push _))
theorem kg {a:Addr} {es:Array (Int × Value)} {ep:Nat} {t:SetTable} {sl i:Nat} {R:Option (Value × Nat)→Shared→Prop} (hb:w.params.followText "set-order" = true)
  (hs:dw s.heap a es ep t) (hf:t.fits es.size=true) (h:R (((pickOrder (w.params.setOrder a ep) es)[i]?).map fun e=>(e.2,sl)) s):wpAny (model prog w) A (setNext a sl i ep) R E s:=by
 obtain ⟨o,ho,hex,hd⟩:=id hs
 unfold setNext setsByText
 refine wpAny_bind (wpAny_setState_of ho hd hf ?_)
 dsimp only
 refine wpAny_bind (wpAny_bind (wpAny_askSetting (wpAny_pure ?_)))
 rw [if_pos (show (⟨(model prog w).prog,(model prog w).w.params⟩:Setting).params.followText "set-order" = true from hb),if_neg (by simp)]
 refine wpAny_bind ?_
 unfold setWalk setsByText
 refine wpAny_bind (wpAny_setState_of ho hd hf ?_)
 dsimp only
 refine wpAny_bind (wpAny_bind (wpAny_askSetting (wpAny_pure ?_)))
 rw [if_pos (show (⟨(model prog w).prog,(model prog w).w.params⟩:Setting).params.followText "set-order" = true from hb)]
 exact wpAny_bind (wpAny_askSetting (wpAny_pure (wpAny_pure h)))
theorem jI {a:Addr} {es:Array (Int × Value)} {ep:Nat} {t:SetTable} {sl i:Nat} {R:Option (Value × Nat)→Shared→Prop} (hb:w.params.followText "set-order" = false) (hp:(!t.plain && decide (es.size > 1))=false) (hl:t.led=true)
  (hs:dw s.heap a es ep t) (hf:t.fits es.size=true)
  (h:R (match es[SetTable.below t.place sl]?,t.place[SetTable.below t.place sl]? with | some (_,x),some j=>some (x,j + 1) | _,_=>none) s):wpAny (model prog w) A (setNext a sl i ep) R E s:=by
 obtain ⟨o,ho,hex,hd⟩:=id hs
 unfold setNext setsByText
 refine wpAny_bind (wpAny_setState_of ho hd hf ?_)
 dsimp only
 refine wpAny_bind (wpAny_bind (wpAny_askSetting (wpAny_pure ?_)))
 rw [if_neg (show ¬ (⟨(model prog w).prog,(model prog w).w.params⟩:Setting).params.followText "set-order" = true from by show ¬ w.params.followText "set-order" = true; rw [hb]; exact Bool.false_ne_true)]
 refine wpAny_ite_split (fun hab=>absurd (show (!t.plain && decide (es.size > 1))=true from hab) (by rw [hp]; exact Bool.false_ne_true)) (fun _=>?_)
 refine wpAny_bind ?_
 show wpAny (model prog w) A (if (!t.led && !es.isEmpty)=true then unsupported "set:maker-not-led" else pure ()) _ _ s
 rw [if_neg (by rw [hl]; simp)]
 exact wpAny_pure (wpAny_pure h)
theorem sh {src:Source} {n:Nat} {Q:Nat→Shared→Prop} (hn:0 < n) (h:∀ i d,i < n→Q i { s with drawn:=d }):wpAny (model prog w) A (choose src n) Q E s:=fun _ _ _ =>
 ⟨Nat.ne_of_gt hn,h _ _ (Nat.mod_lt _ hn)⟩
theorem iS:∀ (n:Nat) (l:List Nat) (s:Shared) {Q:List Nat→Shared→Prop},n=l.length→(∀ r d,List.Perm r l→Q r { s with drawn:=d })→wpAny (model prog w) A (drawOrder n l) Q E s
 | 0,l,s,Q,hn,h=>by
  have e:l=[]:=List.eq_nil_of_length_eq_zero hn.symm
  subst e
  exact wpAny_pure (h [] s.drawn (List.Perm.refl _))
 | n + 1,[],s,Q,hn,h=>by cases hn
 | n + 1,x :: r,s,Q,hn,h=>by
  unfold drawOrder
  refine wpAny_bind (sh (by simp) fun i d hi=>?_)
  have e:(x :: r)[i]? = some (x :: r)[i]:=List.getElem?_eq_getElem hi
  rw [e]
  dsimp only
  refine wpAny_bind (iS n _ _ (by rw [List.length_eraseIdx,if_pos hi]; omega) fun q d' hq=>wpAny_pure ?_)
  exact h _ d' ((hq.cons _).trans (jV _ _ hi))
structure SI (prog:Program) (w:World) (s:Shared) (a:Addr) (es:Array (Int × Value)) (ep:Nat) (t:SetTable):Prop where
 hs:dw s.heap a es ep t
 fit:t.fits es.size=true
 inv:oK t
 led:w.params.followText "set-order" = true∨t.led=true
theorem dw.typeIs {a:Addr} {es:Array (Int × Value)} {ep:Nat} {t:SetTable} (x:dw s.heap a es ep t):s.TypeIs (.ref a) "set" := let ⟨o,ho,hc,_⟩:=x; ⟨o,ho,hc.1⟩
theorem dw.lt {h:Heap} {a:Addr} {es:Array (Int × Value)} {ep:Nat} {t:SetTable} (x:dw h a es ep t):a < h.objs.size:=let ⟨o,ho,_⟩:=x; Heap.lt_size ho
theorem dw.at {h h':Heap} {a:Addr} {es:Array (Int × Value)} {ep:Nat} {t:SetTable} (x:dw h a es ep t) (e:∀ o,h.get? a=some o→h'.get? a=some o):dw h' a es ep t:=let ⟨o,ho,r⟩:=x; ⟨o,e _ ho,r⟩
theorem jW.at {h h':Heap} {I:Addr} {first:Value} {i:Nat} {a:Addr} {n ep:Nat} (x:jW h I first i a n ep) (e:∀ o,h.get? I=some o→h'.get? I=some o):jW h' I first i a n ep:=let ⟨o,ho,r⟩:=x; ⟨o,e _ ho,r⟩
theorem kh:Slot "set_iterator" "__iter__" "set_iterator.__iter__" :=
 .of (owner := "set_iterator") (n := "__iter__") (by rw [typeLookup_type,builtinLookup_eq_fast]; kernel_rfl) (by decide +kernel) (by decide +kernel) (by decide +kernel)
  (by first | exact .inl (by decide +kernel) | exact .inr (by decide +kernel)) (by rw [isSubtype_type]; kernel_rfl)
theorem Cy {a:Addr} {es:Array (Int × Value)} {ep:Nat} {t:SetTable} {Q:Value→Shared→Prop} (S:SI prog w s a es ep t) (hsz:es.size ≤ sizeLine)
  (h1:(w.params.followText "set-order" = true∨(!t.plain && decide (es.size > 1))=false)→Q (.ref s.heap.objs.size) { s with heap:=s.heap.push { cls:=.type "set_iterator",data:=.fields #[.int 0 0,.int 0 0,.ref a,.int es.size 0,.int ep 0] } })
  (h2:∀ (r:List Nat) (d:Drawn),List.Perm r (List.range es.size)→Q (.ref (s.heap.objs.size + 1)) { s with drawn:=d,heap:=(s.heap.push { cls:=.type "tuple",data:=.seq ((r.map fun (i:Nat)=>rawInt i).toArray) }).push { cls:=.type "set_iterator",data:=.fields #[.ref s.heap.objs.size,.int 0 0,.ref a,.int es.size 0,.int ep 0] } }) :
  wpAny (model prog w) A (pyIter (.ref a)) Q E s:=by
 obtain ⟨o,ho,hex,hd⟩:=id S.hs
 refine wpAny_pyIter_slot S.hs.typeIs PySem.F.slot_set_iter (wpAny_call_entry PySem.F.slot_set_iter S.hs.typeIs oM ?_ (PySem.F.args_set_iter_1 _))
 unfold Builtin.«frozenset.__iter__» Builtin.Frozenset.slot0
 refine wpAny_bind (wpAny_bind (wpAny_pure (wpAny_pure ?_)))
 refine wpAny_bind ?_
 unfold Builtin.Frozenset.sizeOf
 refine wpAny_bind (wpAny_setEntries_of ho hd S.fit (wpAny_pure ?_))
 refine wpAny_bind ?_
 unfold setDrawn setsByText
 refine wpAny_bind (wpAny_setState_of ho hd S.fit ?_)
 dsimp only
 refine wpAny_bind (wpAny_bind (wpAny_askSetting (wpAny_pure ?_)))
 refine wpAny_pure ?_
 dsimp only
 by_cases hb:w.params.followText "set-order" = true
 ·refine wpAny_ite_split (fun hab=>?_) (fun _=>?_)
  ·have hab:(!w.params.followText "set-order" && _)=true:=hab
   rw [hb] at hab
   exact absurd hab (by simp)
  ·refine wpAny_bind (wpAny_pure ?_)
   refine wpAny_bind (wpAny_setEpoch_of ho hd S.fit ?_)
   refine wpAny_bind (wpAny_newObj_type ?_)
   exact wpAny_pure ⟨_,rfl, "set_iterator",_,⟨_,Heap.get?_push_size _ rfl,rfl⟩,bJ.lookup,h1 (.inl hb)⟩
 ·have hb':w.params.followText "set-order" = false:=by simpa using hb
  refine wpAny_ite_split (fun hab=>?_) (fun hab=>?_)
  ·refine wpAny_bind (iS _ _ _ (by simp) fun r d hr=>?_)
   refine wpAny_bind (wpAny_newObj_type ?_ ?_)
   ·refine wpAny_bind (wpAny_setEpoch_of (Heap.get?_push_of_some _ ho) hd S.fit ?_)
    refine wpAny_bind (wpAny_newObj_type ?_)
    have hz:=h2 r d hr
    rw [← size_push' s.heap { cls:=.type "tuple",data:=.seq ((r.map fun (i:Nat)=>rawInt i).toArray) }] at hz
    exact wpAny_pure ⟨_,rfl, "set_iterator",_,⟨_,Heap.get?_push_size _ rfl,rfl⟩,bJ.lookup,hz⟩
   ·have hl:r.length=es.size:=by rw [hr.length_eq,List.length_range]
    show (List.map _ r).toArray.size ≤ _
    rw [List.size_toArray,List.length_map,hl]
    omega
  ·refine wpAny_bind (wpAny_pure ?_)
   refine wpAny_bind (wpAny_setEpoch_of ho hd S.fit ?_)
   refine wpAny_bind (wpAny_newObj_type ?_)
   refine wpAny_pure ⟨_,rfl, "set_iterator",_,⟨_,Heap.get?_push_size _ rfl,rfl⟩,bJ.lookup,h1 (.inr ?_)⟩
   have hab:¬ ((!w.params.followText "set-order" && (!t.plain && decide (es.size > 1)))=true):=hab
   rw [hb'] at hab
   simpa using hab
theorem qu:entryFor table "set_iterator.__iter__" = some Builtin.«dict_keyiterator.__iter__» :=
 entryFor_alias (id' := "dict_keyiterator.__iter__") (by kernel_rfl) rfl (by decide +kernel) (by kernel_rfl)
theorem si (a:Value):argsOk "set_iterator.__iter__" ⟨[a],[]⟩:=by unfold argsOk; kernel_rfl
theorem yE {I:Addr} {first:Value} {i:Nat} {a:Addr} {n ep:Nat} {Q:Value→Shared→Prop} (hi:jW s.heap I first i a n ep) (h:Q (.ref I) s):wpAny (model prog w) A (pyIter (.ref I)) Q E s:=by
 refine wpAny_pyIter_slot hi.typeIs kh (wpAny_call_entry kh hi.typeIs qu ?_ (si _))
 show wpAny _ _ (ret (.ref I)) _ _ s
 exact wpAny_pure ⟨_,rfl, "set_iterator",_,hi.typeIs,bJ.lookup,h⟩
theorem qV (hh:A.handled=none) {a I:Addr} (hne:a ≠ I) {es:Array (Int × Value)} {ep:Nat} {t:SetTable} (hf:t.fits es.size=true) (order:List Value) (hl:order.length=es.size) (sl:Nat→Nat)
  (hN:∀ (i:Nat) (v:Value),order[i]? = some v→∀ (s:Shared) (A:Around) (E:Value→Shared→Prop) (R:Option (Value × Nat)→Shared→Prop),dw s.heap a es ep t→R (some (v,sl (i + 1))) s→wpAny (model prog w) A (setNext a (sl i) i ep) R E s)
  (hE:∀ (s:Shared) (A:Around) (E:Value→Shared→Prop) (R:Option (Value × Nat)→Shared→Prop),dw s.heap a es ep t→R none s→wpAny (model prog w) A (setNext a (sl es.size) es.size ep) R E s) :
  Walks prog w A I [I,a] [I] es.size (fun i v=>order[i]? = some v) (fun i h=>dw h a es ep t∧jW h I (.int (sl i) 0) i a es.size ep) where
 sub:=fun b hb=>by simp at hb; simp [hb]
 frame:=fun _ _ _ st hk=>⟨st.1.at fun o e=>hk a (by simp) o e,st.2.at fun o e=>hk I (by simp) o e⟩
 item:=fun i s Q E hi st hQ=>by
  obtain ⟨v,hv⟩:∃ v,order[i]? = some v:=⟨order[i]'(by omega),by simp [hl,hi]⟩
  refine Cw st.1 hf st.2 (hN i v hv) fun h' h1 h2=>?_
  exact hQ v h' s.toks hv ⟨st.1.at fun o e=>h2.extBut a o hne e,h1⟩ fun b o hb e=>h2.extBut b o (fun z=>hb (by simp [z])) e
 done:=fun s Q E st hQ=>end_int hh st.1 hf st.2 hE fun h' he=>hQ h' s.toks fun b o hb e=>he b o (fun z=>hb (by simp [z])) e
 self:=fun _ _ _ _ st hQ=>yE st.2 hQ
theorem uX (hh:A.handled=none) {a I T:Addr} (hne:a ≠ I) (hnT:T ≠ I) {es:Array (Int × Value)} {ep:Nat} {t:SetTable} (hf:t.fits es.size=true) (r:List Nat) (hr:List.Perm r (List.range es.size)) {oT:Obj} (hTd:oT.data=.seq ((r.map fun (i:Nat)=>rawInt i).toArray)) :
  Walks prog w A I [I,a,T] [I] es.size (fun i v=>(r.map fun p=>((es[p]?).getD default).2)[i]? = some v) (fun i h=>dw h a es ep t∧jW h I (.ref T) i a es.size ep∧h.get? T=some oT) where
 sub:=fun b hb=>by simp at hb; simp [hb]
 frame:=fun _ _ _ st hk=>⟨st.1.at fun o e=>hk a (by simp) o e,st.2.1.at fun o e=>hk I (by simp) o e,hk T (by simp) _ st.2.2⟩
 item:=fun i s Q E hi st hQ=>by
  have hl:r.length=es.size:=by rw [hr.length_eq,List.length_range]
  have hi':i < r.length:=by omega
  have hp:r[i] < es.size:=List.mem_range.mp (hr.mem_iff.mp (List.getElem_mem hi'))
  have e1:r[i]? = some r[i]:=List.getElem?_eq_getElem hi'
  have e2:es[r[i]]? = some (es[r[i]].1,es[r[i]].2):=by simp [hp]
  have hv:(r.map fun p=>((es[p]?).getD default).2)[i]? = some es[r[i]].2:=by
   rw [List.getElem?_map,e1]
   show some ((es[r[i]]?).getD default).2=_
   rw [e2]
   rfl
  refine wq (p:=r[i]) (tk:=0) st.1 hf st.2.1 st.2.2 hTd (by simp [rawInt,e1]) e2 fun h' h1 h2=>?_
  exact hQ _ h' s.toks hv ⟨st.1.at fun o e=>h2.extBut a o hne e,h1,h2.extBut T _ hnT st.2.2⟩ fun b o hb e=>h2.extBut b o (fun z=>hb (by simp [z])) e
 done:=fun s Q E st hQ=>by
  have hl:r.length=es.size:=by rw [hr.length_eq,List.length_range]
  exact Ah hh st.1 hf st.2.1 st.2.2 hTd (by simp [hl]) fun h' he=>hQ h' s.toks fun b o hb e=>he b o (fun z=>hb (by simp [z])) e
 self:=fun _ _ _ _ st hQ=>yE st.2.1 hQ
def J3 (t:SetTable) (i:Nat):Nat:=if i=0 then 0 else t.place.getD (i - 1) 0 + 1
theorem uY {t:SetTable} (hr:qt t.place) {i:Nat} (hi:i ≤ t.place.size):SetTable.below t.place (J3 t i)=i:=by
 unfold J3
 cases i with
 | zero=>exact below_at hr (fun k hk=>absurd hk (Nat.not_lt_zero _)) (fun _=>by simp) (Nat.zero_le _)
 | succ i =>
  rw [if_neg (by omega)]
  show SetTable.below t.place (t.place.getD i 0 + 1)=i + 1
  refine below_at hr (fun k hk=>?_) (fun h=>hr i (i + 1) (Nat.lt_succ_self _) h) hi
  rcases Nat.lt_or_ge k i with q | q
  ·have:=hr k i q (by omega)
   omega
  ·have e:k=i:=by omega
   rw [e]; omega
theorem wu (hh:A.handled=none) {a:Addr} {es:Array (Int × Value)} {ep:Nat} {t:SetTable} {Q:Value→Shared→Prop} (S:SI prog w s a es ep t) (hsz:es.size ≤ sizeLine)
  (h:∀ (I:Addr) (fp:List Addr) (order:List Value) (St:Nat→Heap→Prop) (h':Heap) (d:Drawn),List.Perm order (es.toList.map (·.2))→(∀ b ∈ fp,b < h'.objs.size)→s.heap.objs.size ≤ I→I ∈ fp→(∀ b ∈ fp,b=a∨s.heap.objs.size ≤ b)→Walks prog w A I fp [I] es.size (fun i v=>order[i]? = some v) St→St 0 h' →
   (∀ b o,s.heap.get? b=some o→h'.get? b=some o)→Q (.ref I) { s with heap:=h',drawn:=d }):wpAny (model prog w) A (pyIter (.ref a)) Q E s:=by
 have hlt:@LT.lt Nat _ a s.heap.objs.size:=S.hs.lt
 have hpl:t.place.size=es.size:=by
  have:=S.fit
  simp only [SetTable.fits,Bool.and_eq_true,beq_iff_eq] at this
  exact this.1
 refine Cy S hsz (fun hm=>?_) (fun r d hr=>?_)
 ·have hI:a ≠ s.heap.objs.size:=Nat.ne_of_lt hlt
  have fpl:∀ b ∈ [s.heap.objs.size,a],b < (s.heap.push { cls:=.type "set_iterator",data:=.fields #[.int 0 0,.int 0 0,.ref a,.int es.size 0,.int ep 0] }).objs.size:=fun b hb=>by
   rw [size_push']
   simp at hb
   rcases hb with e | e
   ·rw [e]; exact Nat.lt_succ_self _
   ·rw [e]; exact Nat.lt_succ_of_lt hlt
  have st0:dw (s.heap.push { cls:=.type "set_iterator",data:=.fields #[.int 0 0,.int 0 0,.ref a,.int es.size 0,.int ep 0] }) a es ep t:=S.hs.at fun o e=>Heap.get?_push_of_some _ e
  have si0:jW (s.heap.push { cls:=.type "set_iterator",data:=.fields #[.int 0 0,.int 0 0,.ref a,.int es.size 0,.int ep 0] }) s.heap.objs.size (.int (0:Nat) 0) 0 a es.size ep:=⟨_,Heap.get?_push_size _ rfl,rfl,rfl⟩
  by_cases hb:w.params.followText "set-order" = true
  ·have hp:=Ag (w.params.setOrder a ep) es
   have hpl':(pickOrder (w.params.setOrder a ep) es).size=es.size:=by rw [← Array.length_toList,hp.length_eq,Array.length_toList]
   refine h s.heap.objs.size _ ((pickOrder (w.params.setOrder a ep) es).toList.map (·.2)) _ _ s.drawn (hp.map _) fpl (Nat.le_refl _) (by simp) (fun b hb=>by simp at hb; rcases hb with e | e <;> subst e <;> simp)
    (qV hh hI S.fit _ (by rw [List.length_map,Array.length_toList]; exact hpl') (fun _=>0) (fun i v hv s' A' E' R hs' hR=>?_) (fun s' A' E' R hs' hR=>?_)) ⟨st0,si0⟩ (fun b o e=>Heap.get?_push_of_some _ e)
   ·refine kg hb hs' S.fit ?_
    rw [List.getElem?_map,Array.getElem?_toList] at hv
    cases q:(pickOrder (w.params.setOrder a ep) es)[i]? with
    | none=>rw [q] at hv; cases hv
    | some x=>rw [q] at hv; cases hv; exact hR
   ·refine kg hb hs' S.fit ?_
    rw [Array.getElem?_eq_none (by omega)]
    exact hR
  ·have hb':w.params.followText "set-order" = false:=by simpa using hb
   have hp:(!t.plain && decide (es.size > 1))=false:=hm.resolve_left hb
   have Ai:t.led=true:=S.led.resolve_left hb
   have hr:qt t.place:=by
    cases q:t.plain with
    | true=>exact S.inv.up q
    | false =>
     rw [q] at hp
     intro i k hik hk
     have:¬ es.size > 1:=by simpa using hp
     omega
   refine h s.heap.objs.size _ (es.toList.map (·.2)) _ _ s.drawn (List.Perm.refl _) fpl (Nat.le_refl _) (by simp) (fun b hb=>by simp at hb; rcases hb with e | e <;> subst e <;> simp)
    (qV hh hI S.fit _ (by rw [List.length_map,Array.length_toList]) (J3 t) (fun i v hv s' A' E' R hs' hR=>?_) (fun s' A' E' R hs' hR=>?_)) ⟨st0,si0⟩ (fun b o e=>Heap.get?_push_of_some _ e)
   ·refine jI hb' hp Ai hs' S.fit ?_
    rw [List.getElem?_map,Array.getElem?_toList] at hv
    cases q:es[i]? with
    | none=>rw [q] at hv; cases hv
    | some x =>
     rw [q] at hv; cases hv
     have hi:i < es.size:=by
      rcases Nat.lt_or_ge i es.size with z | z
      ·exact z
      ·rw [Array.getElem?_eq_none z] at q; cases q
     have e2:t.place[i]? = some (t.place.getD i 0):=by simp [Array.getD,hpl,hi]
     rw [uY hr (by omega),q,e2]
     exact hR
   ·refine jI hb' hp Ai hs' S.fit ?_
    rw [uY hr (by omega),Array.getElem?_eq_none (Nat.le_refl _)]
    exact hR
 ·have hl:r.length=es.size:=by rw [hr.length_eq,List.length_range]
  have k1:∀ b o,s.heap.get? b=some o→((s.heap.push { cls:=.type "tuple",data:=.seq ((r.map fun (i:Nat)=>rawInt i).toArray) }).push { cls:=.type "set_iterator",data:=.fields #[.ref s.heap.objs.size,.int 0 0,.ref a,.int es.size 0,.int ep 0] }).get? b=some o:=fun b o e =>
   Heap.get?_push_of_some _ (Heap.get?_push_of_some _ e)
  have hs2:(s.heap.push { cls:=.type "tuple",data:=.seq ((r.map fun (i:Nat)=>rawInt i).toArray) }).objs.size=s.heap.objs.size + 1:=size_push' _ _
  have e1:(r.map fun p=>((es[p]?).getD default).2).Perm (es.toList.map (·.2)):=by
   refine (hr.map _).trans ?_
   have:(List.range es.size).map (fun p=>((es[p]?).getD default).2)=es.toList.map (·.2):=by
    apply List.ext_getElem
    ·simp
    ·intro i h1 h2
     simp at h1 h2
     simp [h1]
   rw [this]
  refine h (s.heap.objs.size + 1) _ _ _ _ d e1 (fun b hb=>?_) (Nat.le_succ _) ?_ (fun b hb=>?_) (uX (T:=s.heap.objs.size) (oT:={ cls:=.type "tuple",data:=.seq ((r.map fun (i:Nat)=>rawInt i).toArray) }) hh (Nat.ne_of_lt (Nat.lt_succ_of_lt hlt)) (Nat.ne_of_lt (Nat.lt_succ_self _)) S.fit r hr rfl)
   ⟨S.hs.at fun o e=>k1 a o e,⟨{ cls:=.type "set_iterator",data:=.fields #[.ref s.heap.objs.size,.int 0 0,.ref a,.int es.size 0,.int ep 0] },?_,rfl,rfl⟩,?_⟩ k1
  ·rw [size_push',hs2]
   simp at hb
   rcases hb with e | e | e
   ·rw [e]; exact Nat.lt_succ_self _
   ·rw [e]; exact Nat.lt_succ_of_lt (Nat.lt_succ_of_lt hlt)
   ·rw [e]; exact Nat.lt_succ_of_lt (Nat.lt_succ_self _)
  ·simp
  ·simp at hb
   rcases hb with e | e | e
   ·exact .inr (by rw [e]; exact Nat.le_succ _)
   ·exact .inl e
   ·exact .inr (by rw [e]; exact Nat.le_refl _)
  ·rw [show s.heap.objs.size.succ=_ from hs2.symm]
   exact Heap.get?_push_size _ rfl
  ·exact Heap.get?_push_of_some _ (Heap.get?_push_size _ rfl)
theorem Cz (hT:s.TypeIs (.ref r) "set") {Q:Bool→Shared→Prop} (h:Q false s):wpAny (model prog w) A (Builtin.List.listLengthHint (.ref r)) Q E s:=by
 unfold Builtin.List.listLengthHint
 refine wpAny_bind (wpAny_specialOf hT PySem.F.slot_set_len.lookup ?_)
 generalize hid:("set.__len__" : String)=id0
 wp_delta
 rw [show splitId id0=some ("set", "__len__") from by subst hid; decide +kernel]
 subst hid
 refine wpAny_bind (wpAny_isInstance (T := "set") (b:=true) hT (by rw [isSubtype_type]; kernel_rfl) ?_)
 refine wpAny_ite_split (fun hab=>absurd hab (by decide)) (fun _=>?_)
 refine wpAny_ite_split (fun _=>?_) (fun hab=>absurd (by decide +kernel) hab)
 refine wpAny_bind (wpAny_typeOf hT ?_)
 exact wpAny_pure h
end
section
variable {prog:Program} {w:World} {A:Around} {E:Value→Shared→Prop} {s:Shared}
theorem wx (hh:A.handled=none) {a S:Addr} {es:Array (Int × Value)} {ep:Nat} {t:SetTable} {R:Result→Shared→Prop} (hS:SI prog w s a es ep t) (hsz:es.size ≤ sizeLine) (hne:S ≠ a) (res:Value) (c0:Nat)
  (hL:s.heap.get? S=some { cls:=.type "list",data:=.seq #[] c0 })
  (hR:∀ h' d tk (acc:Array Value) (order:List Value) c',(∀ b o,b ≠ S→s.heap.get? b=some o→h'.get? b=some o)→h'.get? S=some { cls:=.type "list",dict:=none,data:=.seq acc c',slots:=#[] } →
   List.Perm order (es.toList.map (·.2))→acc.toList=order→R (.ok (.ret res)) { s with heap:=h',toks:=tk,drawn:=d }) :
  wpAny (model prog w) A.in1 (Builtin.List.listExtendWith (.ref S) (.ref a) res)
   (fun fin s'=>match fin with | .done f=>R (.ok f) s' | .again c'=>c'.quiet=true∧codeAny (model prog w) A c' R s') (fun e s'=>R (.error e) s') s:=by
 unfold Builtin.List.listExtendWith
 refine wpAny_bind (wpAny_typeOf (T := "set") hS.hs.typeIs ?_)
 have h1:Builtin.List.listSameRef (.ref S) (.ref a)=false:=by simp [Builtin.List.listSameRef,hne]
 rw [if_neg (by rw [h1]; decide)]
 refine wpAny_bind (wu (A:=A.in1) hh hS hsz fun I fp order St h' d hp hfl hI hIm hfp W st hk=>?_)
 have RZ:=Heap.lt_size hL
 have hSf:S ∉ fp:=fun hm=>by
  rcases hfp S hm with e | e
  ·exact hne e
  ·exact absurd (Nat.lt_of_lt_of_le RZ e) (Nat.lt_irrefl _)
 have hol:order.length=es.size:=by rw [hp.length_eq,List.length_map,Array.length_toList]
 have key:∀ (h2:Heap) (c1 tk:Nat),St 0 h2→(∀ b o,b ≠ S→s.heap.get? b=some o→h2.get? b=some o)→h2.get? S=some { cls:=.type "list",data:=.seq #[] c1 } →
   codeAny (model prog w) A (.builtin "list.extend.loop" ⟨[.ref S,.ref I,res],[]⟩) R { s with heap:=h2,toks:=tk,drawn:=d }:=by
  intro h2 c1 tk hst hk2 hS1
  refine codeAny_extend_loopS W.toS hsz S hSf res es.size 0 _ #[] c1 rfl (Nat.zero_le _) hst hS1 (ItemsOf.nil _) fun s' acc' c' hm hS' hacc=>?_
  rw [Moved.eq_with hm]
  refine hR s'.heap d s'.toks acc' order c' (fun b o hb e=>hm.heap b o (fun hmem=>?_) (hk2 b o hb e)) hS' hp ?_
  ·rcases List.mem_cons.mp hmem with e' | hmem
   ·exact hb e'
   ·rw [List.mem_singleton.mp hmem] at e
    exact absurd (Heap.lt_size e) (Nat.not_lt.mpr hI)
  ·apply List.ext_getElem?
   intro i
   rw [Array.getElem?_toList]
   cases q:acc'[i]? with
   | none =>
    have:acc'.size ≤ i:=by
     rcases Nat.lt_or_ge i acc'.size with z | z
     ·rw [Array.getElem?_eq_getElem z] at q; cases q
     ·exact z
    rw [hacc.1] at this
    rw [List.getElem?_eq_none (by omega)]
   | some v=>exact (hacc.2 i v q).symm
 refine wpAny_bind (wpAny_holding (Cz (s:={ s with heap:=h',drawn:=d }) (dw.typeIs (s:={ s with heap:=h',drawn:=d }) (hS.hs.at fun o e=>hk a o e)) ?_))
 have hS1:=hk _ _ hL
 refine wpAny_ite_split (fun _=>?_) (fun _=>wpAny_pure ⟨plainId_quiet PySem.F.plain_extend_loop _,key _ c0 _ st (fun b o _ e=>hk b o e) hS1⟩)
 refine wpAny_bind (wpAny_rule ?_)
 refine wpAny_bind ?_
 show wpAny _ _ (updateSeq S (·.push .none) >>= fun _=>updateSeq S (·.pop)) _ _ _
 refine wpAny_bind (wpAny_updateSeq hS1 rfl ?_)
 have hS2:=Heap.get?_update_self (Obj.mapSeq (·.push Value.none)) hS1 rfl
 refine wpAny_updateSeq (hz:=by seq_fits) hS2 rfl ?_
 have hS3:=Heap.get?_update_self (Obj.mapSeq (·.pop)) hS2 rfl
 refine wpAny_pure ⟨plainId_quiet PySem.F.plain_extend_loop _,key _ _ _ ?_ (fun b o hb e=>?_) hS3⟩
 ·refine W.frame 0 _ _ st fun b hb o e=>?_
  have hbS:b ≠ S:=fun h=>hSf (h ▸ hb)
  exact (Heap.get?_update_other _ _ (Ne.symm hbS)).trans ((Heap.get?_update_other _ _ (Ne.symm hbS)).trans e)
 ·exact (Heap.get?_update_other _ _ (Ne.symm hb)).trans ((Heap.get?_update_other _ _ (Ne.symm hb)).trans (hk b o e))
theorem uZ (hh:A.handled=none) {a:Addr} {es:Array (Int × Value)} {ep:Nat} {t:SetTable} {R:List Value→Shared→Prop} (hS:SI prog w s a es ep t) (hsz:es.size ≤ sizeLine)
  (h:∀ h' d tk (order:List Value),s.heap.objs.size < h'.objs.size→(∀ b o,s.heap.get? b=some o→h'.get? b=some o)→List.Perm order (es.toList.map (·.2))→R order { s with heap:=h',toks:=tk,drawn:=d }) :
  wpAny (model prog w) A (collect (.ref a)) R E s:=by
 have hlt:@LT.lt Nat _ a s.heap.objs.size:=hS.hs.lt
 unfold collect
 refine wpAny_bind (wpAny_runValue (codeAny_builtin entry_proto_collect' ?_))
 rw [Around.under_plainId PySem.F.plain_proto_collect _]
 show wpAny _ A.in1 (newList [] >>= fun l=>again (.builtin "list.__iadd__" ⟨[l,.ref a],[]⟩)) _ _ s
 refine wpAny_bind (wpAny_newObj_type ?_)
 refine wpAny_pure ⟨plainId_quiet PySem.F.plain_list_iadd _,codeAny_builtin entry_list_iadd' ?_⟩
 rw [Around.under_plainId PySem.F.plain_list_iadd _]
 have hS1:(s.heap.push { cls:=.type "list",data:=.seq ([]:List Value).toArray }).get? s.heap.objs.size=some { cls:=.type "list",data:=.seq #[] }:=Heap.get?_push_size _ rfl
 show wpAny _ A.in1 (Builtin.List.listExtendWith (.ref s.heap.objs.size) (.ref a) (.ref s.heap.objs.size)) _ _ _
 have S':SI prog w { s with heap:=s.heap.push { cls:=.type "list",data:=.seq ([]:List Value).toArray } } a es ep t:=⟨hS.hs.at fun o e=>Heap.get?_push_of_some _ e,hS.fit,hS.inv,hS.led⟩
 have key:=wx (A:=A) (R:=fun (q:Result) (s':Shared)=>∃ (h':Heap) (d:Drawn) (tk:Nat) (acc:Array Value) (order:List Value) (c':Nat),q=.ok (.ret (.ref s.heap.objs.size))∧s'={ s with heap:=h',toks:=tk,drawn:=d } ∧
   (∀ b o,s.heap.get? b=some o→h'.get? b=some o)∧h'.get? s.heap.objs.size=some { cls:=.type "list",dict:=none,data:=.seq acc c',slots:=#[] }∧List.Perm order (es.toList.map (·.2))∧acc.toList=order)
  hh S' hsz (Nat.ne_of_gt hlt) (.ref s.heap.objs.size) 0 hS1
  (fun h' d tk acc order c' hk hL hp ha=>⟨h',d,tk,acc,order,c',rfl,rfl,fun b o e=>hk b o (Nat.ne_of_lt (Heap.lt_size e)) (Heap.get?_push_of_some _ e),hL,hp,ha⟩)
 refine wpAny_mono key (fun fin s' x=>?_) fun e s' x=>?_
 ·cases fin with
  | done f =>
   obtain ⟨h',d,tk,acc,order,c',e,rfl,hk,hL,hp,ha⟩:=x
   cases e
   show wpAny _ A (load s.heap.objs.size >>= _) _ _ _
   refine wpAny_bind (wpAny_load hL ?_)
   refine wpAny_pure ?_
   rw [ha]
   exact h h' d tk order (Heap.lt_size hL) hk hp
  | again c1 =>
   refine ⟨x.1,codeAny_mono x.2 fun q s2 y=>?_⟩
   obtain ⟨h',d,tk,acc,order,c',rfl,rfl,hk,hL,hp,ha⟩:=y
   show wpAny _ A (load s.heap.objs.size >>= _) _ _ _
   refine wpAny_bind (wpAny_load hL ?_)
   refine wpAny_pure ?_
   rw [ha]
   exact h h' d tk order (Heap.lt_size hL) hk hp
 ·obtain ⟨_,_,_,_,_,_,e',_⟩:=x
  cases e'
theorem lP:∀ {us vs:List Value},List.Perm us vs→∀ {ns:List Int},IntsAre vs ns→∃ ms,IntsAre us ms∧List.Perm ms ns:=by
 intro us vs hp
 induction hp with
 | nil=>intro ns h; cases h; exact ⟨[],.nil,.nil⟩
 | cons x _ ih =>
  intro ns h
  cases h with
  | cons n t r =>
   obtain ⟨ms,h1,h2⟩:=ih r
   exact ⟨n :: ms,.cons n t h1,h2.cons _⟩
 | swap x y l =>
  intro ns h
  cases h with
  | cons n t r =>
   cases r with
   | cons n' t' r'=>exact ⟨_,.cons _ _ (.cons _ _ r'),List.Perm.swap _ _ _⟩
 | trans _ _ ih1 ih2 =>
  intro ns h
  obtain ⟨ms,h1,h2⟩:=ih2 h
  obtain ⟨EV,h3,h4⟩:=ih1 h1
  exact ⟨EV,h3,h4.trans h2⟩
theorem wy (hh:A.handled=none) {a:Addr} {es:Array (Int × Value)} {ep:Nat} {t:SetTable} {ns:List Int} {Q:Value→Shared→Prop} (hS:SI prog w s a es ep t) (hI:IntsAre (es.toList.map (·.2)) ns) (h64:ns.length < 64)
  (h:∀ (D:Addr) (h':Heap) (d:Drawn) (tk:Nat) (out:Array Value) (ms:List Int) (c:Nat),s.heap.objs.size ≤ D→(∀ b o,s.heap.get? b=some o→h'.get? b=some o)→h'.get? D=some { cls:=.type "list",data:=.seq out c }→IntsAre out.toList ms→ms.Perm ns→ms.Pairwise (· ≤ ·) →
   Q (.ref D) { s with heap:=h',toks:=tk,drawn:=d }) :
  wpAny (model prog w) A (call (.builtin "sorted") [.ref a]) Q E s:=by
 have hl:es.size=ns.length:=by rw [← IntsAre.length hI,List.length_map,Array.length_toList]
 have hsz:es.size ≤ sizeLine:=by rw [hl,sizeLine_eq]; omega
 refine call_function_entry kind_sorted plain_sorted entry_sorted (args_sorted1 _) ?_
 unfold Builtin.«sorted»
 refine wpAny_bind (m:=checkCount "sorted" 1 1 _) (wpAny_pure ?_)
 refine wpAny_bind (uZ (A:=A.in1) hh hS hsz fun h' d tk order hlt hk hp=>?_)
 obtain ⟨ms,hms,hmp⟩:=lP hp hI
 have hol:order.length=ns.length:=by rw [IntsAre.length hms,hmp.length_eq]
 refine wpAny_bind (wpAny_newList ?_ (by rw [hol,← hl]; exact hsz))
 have hD:(h'.push (seqObj "list" order.toArray 0)).get? h'.objs.size=some (seqObj "list" order.toArray 0):=Heap.get?_push_size _ rfl
 refine wpAny_bind (wpAny_holding (wpAny_call_entry slot_list_sort ⟨_,hD,rfl⟩ entry_list_sort (list_sort_tree hD hms (by omega) fun out EV a1 a2 a3=>⟨_,rfl,?_⟩) (args_list_sort _)))
 obtain ⟨c,hc⟩:=sortedHeap_at (out:=out) hD
 refine wpAny_pure ⟨_,rfl,h h'.objs.size _ d tk out EV c (Nat.le_of_lt hlt) (fun b o e=>?_) hc a1 (a2.trans hmp) a3⟩
 have hb:=Heap.lt_size (hk b o e)
 rw [sortedHeap_old (Nat.ne_of_lt hb) (by rw [size_push']; exact Nat.lt_succ_of_lt hb)]
 exact Heap.get?_push_of_some _ (hk b o e)
end
def jA (prog:Program) (w:World) (h:Heap) (a:Addr) (us:List Int):Prop :=
 ∃ es ep t,dw h a es ep t∧t.fits es.size=true∧oK t∧(w.params.followText "set-order" = true∨t.led=true)∧ElemsOf (intKind prog w) es.toList∧IntsAre (es.toList.map (·.2)) us∧us.Nodup
theorem jA.at {prog:Program} {w:World} {h h':Heap} {a:Addr} {us:List Int} (x:jA prog w h a us) (e:∀ o,h.get? a=some o→h'.get? a=some o):jA prog w h' a us:=by
 obtain ⟨es,ep,t,hs,r⟩:=x
 exact ⟨es,ep,t,hs.at e,r⟩
theorem u0:∀ {vs:List Value} {us:List Int} {k:Int},IntsAre vs us→(k ∈ us↔∃ v ∈ vs,Value.isInt k v=true)
 | _,_,k,.nil=>by simp
 | _,_,k,.cons n t r=>by
  have ih:=u0 (k:=k) r
  rw [List.mem_cons,ih]
  constructor
  ·rintro (e | ⟨v,hv,e⟩)
   ·subst e
    exact ⟨_,List.mem_cons_self,by simp [Value.isInt]⟩
   ·exact ⟨v,List.mem_cons_of_mem _ hv,e⟩
  ·rintro ⟨v,hv,e⟩
   rcases List.mem_cons.mp hv with z | z
   ·subst z
    exact .inl (by have q:n=k:=(by simpa [Value.isInt] using e); exact q.symm)
   ·exact .inr ⟨v,z,e⟩
theorem ints_snoc:∀ {vs:List Value} {us:List Int} (k:Int) (t:Tok),IntsAre vs us→IntsAre (vs ++ [.int k t]) (us ++ [k])
 | _,_,k,t,.nil=>.cons k t .nil
 | _,_,k,t,.cons n t' r=>.cons n t' (ints_snoc k t r)
section
variable {prog:Program} {w:World} {A:Around} {E:Value→Shared→Prop} {s:Shared}
theorem yF {h:Heap} {a:Addr} {es es':Array (Int × Value)} {ep:Nat} {t t':SetTable} {us:List Int} (hs:dw h a es ep t) (hf:t'.fits es'.size=true) (hi:oK t') (hl:w.params.followText "set-order" = true∨t'.led=true)
  (hel:ElemsOf (intKind prog w) es'.toList) (hI:IntsAre (es'.toList.map (·.2)) us) (hn:us.Nodup):dw (h.update a (Obj.putSet es' t')) a es' (ep + 1) t'∧jA prog w (h.update a (Obj.putSet es' t')) a us:=by
 obtain ⟨o,ho,hex,hd⟩:=hs
 have hg:(h.update a (Obj.putSet es' t')).get? a=some { o with data:=.set es' (ep + 1) t' }:=by
  have z:=Heap.get?_update_self (Obj.putSet es' t') ho (by rw [putSet_of es' t' hd]; rfl)
  rw [putSet_of es' t' hd] at z
  exact z
 have q:dw (h.update a (Obj.putSet es' t')) a es' (ep + 1) t':=⟨_,hg,hex,rfl⟩
 exact ⟨q,es',ep + 1,t',q,hf,hi,hl,hel,hI,hn⟩
theorem Aj {es es':Array (Int × Value)} {c:Int} {x:Value} (hp:List.Perm es'.toList (es.push (c,x)).toList):List.Perm (es'.toList.map (·.2)) (es.toList.map (·.2) ++ [x]):=by
 refine (hp.map _).trans ?_
 rw [Array.toList_push,List.map_append]
 exact List.Perm.refl _
theorem Fs {t:SetTable} (h:oK t):oK { t with plain:=false }:=⟨h.QV,fun z=>by cases z⟩
theorem add_int {a:Addr} {us:List Int} {k:Int} {tk:Tok} {Q:Bool→Shared→Prop} (hS:jA prog w s.heap a us) (hroom:us.length + 1 < scanBound)
  (h:∀ (b:Bool) (h':Heap) (us':List Int),Heap.SameBut a s.heap h'→jA prog w h' a us'→(∀ j,j ∈ us'↔j ∈ us∨j=k)→us'.length ≤ us.length + 1→Q b { s with heap:=h' }) :
  wpAny (model prog w) A (setAddHashed a (.int k tk) ((intKind prog w).hash k)) Q E s:=by
 obtain ⟨es,ep,t,hs,hf,hi,hl,hel,hI,hn⟩:=id hS
 obtain ⟨o,ho,hex,hd⟩:=id hs
 have hsz:es.size=us.length:=by rw [← IntsAre.length hI,List.length_map,Array.length_toList]
 have hmem:k ∈ us↔∃ e ∈ es.toList,(intKind prog w).is k e.2=true:=by
  rw [u0 hI]
  constructor
  ·rintro ⟨v,hv,e⟩
   obtain ⟨p,hp,rfl⟩:=List.mem_map.mp hv
   exact ⟨p,hp,e⟩
  ·rintro ⟨p,hp,e⟩
   exact ⟨p.2,List.mem_map.mpr ⟨p,hp,rfl⟩,e⟩
 unfold setAddHashed setAddHashedIn
 refine wpAny_holding (wpAny_bind (wpAny_setState_of ho hd hf ?_))
 dsimp only
 rw [byScan_of (knd:=intKind prog w) (x:=.int k tk) rfl (by omega) hel]
 simp only [↓reduceIte]
 unfold setAddByScan
 refine wpAny_bind ?_
 refine wpAny_bind (wpAny_rule ?_)
 refine wpAny_bind (wpAny_setScan_of (knd:=intKind prog w) (intKind_is _ _ _ _) ho hd hf hel ?_)
 cases hr:List.findIdx? (fun e=>(intKind prog w).is k e.2) es.toList with
 | some j =>
  dsimp only
  obtain ⟨hj,hpj,_⟩:=List.findIdx?_eq_some_iff_getElem.mp hr
  have hk:k ∈ us:=hmem.mpr ⟨es.toList[j],List.getElem_mem hj,hpj⟩
  refine wpAny_pure (wpAny_pure ?_)
  exact h false s.heap us (Heap.SameBut.refl a s.heap) hS (fun i=>⟨.inl,fun z=>z.elim id fun e=>e ▸ hk⟩) (Nat.le_succ _)
 | none =>
  dsimp only
  have hk:k ∉ us:=fun z=>by
   obtain ⟨e,he,q⟩:=hmem.mp z
   have:=List.findIdx?_eq_none_iff.mp hr e he
   rw [q] at this
   cases this
  have hperm:=layNew_perm t es ((intKind prog w).hash k) (.int k tk)
  have hfits:=layNew_fits t es ((intKind prog w).hash k) (.int k tk)
  have hinv:=wo es ((intKind prog w).hash k) (.int k tk) hi
  generalize hL:layNew t es ((intKind prog w).hash k) (.int k tk)=L at hperm hfits hinv ⊢
  obtain ⟨es1,t1,wd,gave⟩:=L
  dsimp only at hperm hfits hinv ⊢
  have hel1:ElemsOf (intKind prog w) es1.toList:=by
   have z:=hperm
   rw [Array.toList_push] at z
   exact (hel.push (intKind_is _ _ _ _) rfl).perm z
  obtain ⟨J4,R0,hp1⟩:=lP (Aj hperm) (ints_snoc k tk hI)
  have hn1:J4.Nodup:=hp1.nodup_iff.mpr (by
   rw [List.nodup_append]
   exact ⟨hn,by simp,fun x hx y hy=>by rw [List.mem_singleton.mp hy]; rintro rfl; exact hk hx⟩)
  have hl1:J4.length=us.length + 1:=by rw [hp1.length_eq,List.length_append]; rfl
  have hm1:∀ j,j ∈ J4↔j ∈ us∨j=k:=fun j=>by rw [hp1.mem_iff,List.mem_append,List.mem_singleton]
  have hsz1:es1.size=J4.length:=by rw [← IntsAre.length R0,List.length_map,Array.length_toList]
  have hb1:es1.size < scanBound:=by omega
  have hgw:∀ (b:Bool) {s₁:Shared} {Q':Unit→Shared→Prop},Q' () s₁→wpAny (model prog w) A (match b with | true=>rule "set.scan.the-table-gave-way" | false=>pure ()) Q' E s₁ :=
   fun b s₁ Q' hq=>by cases b <;> first | exact wpAny_pure hq | exact wpAny_rule hq
  refine wpAny_bind (hgw _ ?_)
  have tail:∀ t2:SetTable,t2.fits es1.size=true→oK t2→(w.params.followText "set-order" = true∨t2.led=true)→∀ (g:Bool→Sem Unit) (wd':Bool) (R:Option Bool→Shared→Prop),
    (∀ (b:Bool) (s₁:Shared) (Q':Unit→Shared→Prop),Q' () s₁→wpAny (model prog w) A (g b) Q' E s₁)→(∀ h' us',Heap.SameBut a s.heap h'→jA prog w h' a us'→us'.Perm J4→R (some true) { s with heap:=h' }) →
    wpAny (model prog w) A (storeSet a es1 t2 >>= fun _=>if (!wd' && t2.tooFull)=true then (g (relayAll t2 es1 (SetTable.grown es1.size)).2.2 >>= fun _=>storeSet a (relayAll t2 es1 (SetTable.grown es1.size)).1 (relayAll t2 es1 (SetTable.grown es1.size)).2.1 >>= fun _=>pure (some true)) else pure (some true)) R E s:=by
   intro t2 f2 i2 l2 g wd' R hg hR
   refine wpAny_bind (wpAny_storeSet_of ho hd ?_ (fits_of_scanBound hb1))
   obtain ⟨q1,q2⟩:=yF (prog:=prog) (w:=w) hs f2 i2 l2 hel1 R0 hn1
   have sb1:=Heap.SameBut.update s.heap a (Obj.putSet es1 t2)
   split
   ·have rp:=relayAll_perm t2 es1 (SetTable.grown es1.size)
    have rf:=relayAll_fits t2 es1 (SetTable.grown es1.size)
    have ri:=sg (t:=t2) es1 (SetTable.grown es1.size)
    generalize relayAll t2 es1 (SetTable.grown es1.size)=Rl at rp rf ri ⊢
    obtain ⟨es2,t3,gave2⟩:=Rl
    dsimp only at rp rf ri ⊢
    obtain ⟨ML,hI2,hp2⟩:=lP (rp.map (·.2)) R0
    refine wpAny_bind (hg _ _ _ ?_)
    obtain ⟨o1,ho1,hex1,hd1⟩:=id q1
    have e2:es2.size=es1.size:=by rw [← Array.length_toList,rp.length_eq,Array.length_toList]
    refine wpAny_bind (wpAny_storeSet_of ho1 hd1 ?_ (fits_of_scanBound (by rw [e2]; exact hb1)))
    obtain ⟨_,q3⟩:=yF (prog:=prog) (w:=w) q1 rf ri.1 (l2.imp id fun z=>ri.2.trans z) (hel1.perm rp) hI2 (hp2.nodup_iff.mpr hn1)
    exact wpAny_pure (hR _ ML (sb1.trans (Heap.SameBut.update _ a _)) q3 hp2)
   ·exact wpAny_pure (hR _ J4 sb1 q2 (List.Perm.refl _))
  have fin:∀ h' us',Heap.SameBut a s.heap h'→jA prog w h' a us'→us'.Perm J4→Q true { s with heap:=h' }:=fun h' us' x1 x2 x3 =>
   h true h' us' x1 x2 (fun j=>by rw [x3.mem_iff]; exact hm1 j) (by rw [x3.length_eq,hl1]; exact Nat.le_refl _)
  have J5:w.params.followText "set-order" = true∨t1.led=true:=hl.imp id fun z=>hinv.2.trans z
  split
  ·refine wpAny_bind ?_
   rw [hashByValue_scannable 8 (x:=.int k tk) rfl]
   refine wpAny_pure ?_
   refine tail _ ?_ ?_ ?_ _ wd _ ?_ fun h' us' x1 x2 x3=>?_
   ·split
    ·exact hfits
    ·exact SetTable.fits_plain_off hfits
   ·split
    ·exact hinv.1
    ·exact Fs hinv.1
   ·split
    ·exact J5
    ·exact J5
   ·intro b s₁ Q' hq; cases b <;> first | exact wpAny_pure hq | exact wpAny_rule hq
   ·exact wpAny_pure (fin h' us' x1 x2 x3)
  ·refine wpAny_bind (wpAny_pure ?_)
   simp only [↓reduceIte]
   refine tail _ hfits hinv.1 J5 _ wd _ ?_ fun h' us' x1 x2 x3=>?_
   ·intro b s₁ Q' hq; cases b <;> first | exact wpAny_pure hq | exact wpAny_rule hq
   ·exact wpAny_pure (fin h' us' x1 x2 x3)
theorem u5 {R:Result→Shared→Prop} {I:Addr} {fp wr:List Addr} {G:Array GenState→Array GenState→Prop} {n:Nat} {P:Nat→Value→Prop} {St:Nat→Shared→Prop} (W:WalksS prog w A.in1 I fp wr G n P St) (S:Addr) (hSf:S ∉ fp)
  (val:Nat→Int) (hval:∀ i v,P i v→∃ t,v=.int (val i) t) (hb:n + 1 < scanBound) :
  ∀ (k i:Nat) (s:Shared) (us:List Int),n - i=k→i ≤ n→St i s→jA prog w s.heap S us→us.length ≤ i→(∀ j,j ∈ us↔∃ m,m < i∧val m=j) →
   (∀ s' us',Moved (S :: wr) G s s'→jA prog w s'.heap S us'→us'.length ≤ n→(∀ j,j ∈ us'↔∃ m,m < n∧val m=j)→R (.ok (.ret .none)) s') →
   codeAny (model prog w) A (.builtin "set.update.loop" ⟨[.ref S,.ref I],[]⟩) R s:=by
 have hSw:S ∉ wr:=fun h=>hSf (W.sub _ h)
 have hsub:∀ b ∈ wr,b ∈ S :: wr:=fun b hb=>List.mem_cons_of_mem _ hb
 intro k
 induction k with
 | zero =>
  intro i s us hk hi hst hS hlen hmem hR
  have hin:i=n:=by omega
  subst hin
  refine codeAny_builtin PyProof.Rows.F.entry_set_update_loop ?_
  rw [Around.under_plainId PyProof.Rows.F.plain_set_update_loop _]
  show wpAny _ A.in1 (pyNext (.ref I) >>= _) _ _ s
  refine wpAny_bind (W.done s _ _ hst fun s' hm=>?_)
  show wpAny _ A.in1 (ret Value.none) _ _ s'
  exact wpAny_pure (hR s' us (hm.mono hsub) (hS.at fun o e=>hm.heap S o hSw e) hlen hmem)
 | succ k ih =>
  intro i s us hk hi hst hS hlen hmem hR
  have hlt:i < n:=by omega
  refine codeAny_builtin PyProof.Rows.F.entry_set_update_loop ?_
  rw [Around.under_plainId PyProof.Rows.F.plain_set_update_loop _]
  show wpAny _ A.in1 (pyNext (.ref I) >>= _) _ _ s
  refine wpAny_bind (W.item i s _ _ hlt hst fun v s' hP hst' hm=>?_)
  obtain ⟨t,rfl⟩:=hval i v hP
  have hS':jA prog w s'.heap S us:=hS.at fun o e=>hm.heap S o hSw e
  show wpAny _ A.in1 (holding [Value.int (val i) t] (setAdd S (.int (val i) t)) >>= _) _ _ s'
  refine wpAny_bind (wpAny_holding ?_)
  unfold setAdd
  refine wpAny_holding ?_
  refine wpAny_bind ((intKind prog w).pyHash (k:=val i) (intKind_is _ _ _ _) ?_)
  refine add_int (s:={ s' with toks:=s'.toks + 1 }) hS' (by omega) fun b h' us' hsb hS2 hm2 hl2=>?_
  refine wpAny_pure ⟨plainId_quiet PyProof.Rows.F.plain_set_update_loop _,ih (i + 1) _ us' (by omega) hlt (W.frame _ s' _ _ hst' (Nat.le_succ _) fun b hb o e=>?_) hS2 (by omega) (fun j=>?_) fun s'' Sb hm'' hS'' hl'' hmem''=>?_⟩
  ·rw [hsb.2 b (fun h:b=S=>hSf (by rw [← h]; exact hb))]; exact e
  ·rw [hm2,hmem]
   constructor
   ·rintro (⟨m,h1,h2⟩ | e)
    ·exact ⟨m,by omega,h2⟩
    ·exact ⟨i,by omega,e.symm⟩
   ·rintro ⟨m,h1,h2⟩
    rcases Nat.lt_or_ge m i with q | q
    ·exact .inl ⟨m,q,h2⟩
    ·have e:m=i:=by omega
     subst e
     exact .inr h2.symm
  ·refine hR s'' Sb (Moved.trans W.gtrans ((hm.mono hsub).then_heap (Nat.le_succ _) fun b o hb e=>?_) hm'') hS'' hl'' hmem''
   rw [hsb.2 b (fun h:b=S=>hb (by rw [h]; exact List.mem_cons_self))]; exact e
theorem Ft (a:Value) {Q₁:Value→Shared→Prop}
  (h:Q₁ (.ref s.heap.objs.size) { s with heap:=s.heap.push { cls:=.type "set",dict:=none,data:=.set #[] 0 (.fresh 0 0 (!w.params.followText "set-order")) } }) :
  codeAny (model prog w) A (.call (.builtin "set.__new__") ⟨[.type "set",a],[]⟩) (wants Q₁ E) s:=by
 refine codeAny_of_tree ?_
 show wpAny _ A.in1 (do checkBuiltinCall "set.__new__" ⟨[.type "set",a],[]⟩; again (.builtin "set.__new__" ⟨[.type "set",a],[]⟩)) _ _ s
 refine wpAny_bind (wpAny_of_eq (PySem.F.newCall_set_1 a) (wpAny_pure ⟨plainId_quiet PySem.F.plain_set_new _,codeAny_builtin PySem.F.entry_set_new ?_⟩))
 rw [Around.under_plainId PySem.F.plain_set_new _]
 unfold Builtin.«set.__new__» Builtin.Frozenset.newClass
 have hsub:=sub_set_self
 obtain ⟨hp,g,d,tk,os⟩:=s
 dsimp only
 wp_walk
 refine wpAny_askSetting (wpAny_pure ?_)
 dsimp only
 simp only [newObj]
 refine wpAny_bind (wpAny_alloc (wpAny_pure ?_))
 exact wpAny_pure h
set_option maxHeartbeats 8000000 in
theorem CD {l:Addr} {items:Array Value} {ns:List Int} {Q:Value→Shared→Prop} (hh:A.handled=none) (hl:s.heap.IsList l items) (hi:IntsAre items.toList ns) (hb:items.size + 1 < scanBound)
  (h:∀ (h':Heap) (tk:Nat) (us:List Int),jA prog w h' s.heap.objs.size us→us.length ≤ ns.length→(∀ j,j ∈ us↔j ∈ ns)→(∀ b o,b < s.heap.objs.size→s.heap.get? b=some o→h'.get? b=some o)→Q (.ref s.heap.objs.size) { s with heap:=h',toks:=tk }) :
  wpAny (model prog w) A (call (.type "set") [.ref l]) Q E s:=by
 obtain ⟨c,tl,hmro⟩:=PySem.F.called_set.mro
 have hmade:=PySem.F.called_set.made
 have hsub:=PySem.F.called_set.sub
 refine wpAny_call (codeAny_of_tree ?_)
 show wpAny _ _ (callAny (.type "set") _) _ _ _
 refine wpAny_pure ⟨Code.quiet_builtin _ (by decide +kernel),codeAny_builtin PySem.F.entry_type_call ?_⟩
 rw [Around.under_plain (weight_type_call_type "set" [.ref l] []) rfl]
 have h1:=PySem.F.called_set.notType
 have h2:=PySem.F.called_set.canCreate
 have hct:=PySem.F.typeCall_set_1 (.ref l)
 generalize Ai:(!w.params.followText "set-order")=led
 repeat (any_goals (first | assumption | wp_step))
 refine codeAny_mono (Ft (prog:=prog) (w:=w) (.ref l) (E:=E) (Q₁:=fun obj s₁=>obj=.ref s.heap.objs.size∧s₁={ s with heap:=s.heap.push { cls:=.type "set",dict:=none,data:=.set #[] 0 (.fresh 0 0 led) } }) (by rw [Ai]; exact ⟨rfl,rfl⟩)) fun r s₁ hr=>?_
 have Sd:w.params.followText "set-order" = true∨led=true:=by
  cases q:w.params.followText "set-order" with
  | true=>exact .inl rfl
  | false=>rw [q] at Ai; exact .inr Ai.symm
 cases r with
 | error e=>exact hr
 | ok fl =>
  cases fl with
  | next=>exact hr.elim
  | brk=>exact hr.elim
  | cont=>exact hr.elim
  | ret obj =>
   obtain ⟨rfl,rfl⟩:=hr
   have hS:(s.heap.push { cls:=.type "set",dict:=none,data:=.set #[] 0 (.fresh 0 0 led) }).get? s.heap.objs.size=some { cls:=.type "set",dict:=none,data:=.set #[] 0 (.fresh 0 0 led) }:=Heap.get?_push_size _ rfl
   have hT:Shared.TypeIs { s with heap:=s.heap.push { cls:=.type "set",dict:=none,data:=.set #[] 0 (.fresh 0 0 led) } } (.ref s.heap.objs.size) "set" := ⟨_,hS,rfl⟩
   have hli:=PySem.F.called_set.init.lookup
   have hbi:=PySem.F.called_set.init.bind (.ref s.heap.objs.size)
   repeat (any_goals (first | assumption | wp_step))
   refine codeAny_mono (codeAny_call_builtin (R:=wants (fun r s₂=>r=.none∧∃ h' tk us,s₂={ s with heap:=h',toks:=tk }∧jA prog w h' s.heap.objs.size us∧us.length ≤ ns.length∧(∀ j,j ∈ us↔j ∈ ns) ∧
     (∀ b o,b < s.heap.objs.size→s.heap.get? b=some o→h'.get? b=some o)) E) PySem.F.called_set.init.plain PySem.F.entry_set_init (check_set_init_1 hT ?_)) fun r₂ s₂ hr₂=>?_
   ·obtain ⟨ol,hol,hcl,nl,hdl⟩:=hl
    obtain ⟨ocls,odict,odata,oslots⟩:=ol
    simp only at hcl hdl
    subst hcl; subst hdl
    have hol':(s.heap.push { cls:=.type "set",dict:=none,data:=.set #[] 0 (.fresh 0 0 led) }).get? l=some { cls:=.type "list",dict:=odict,data:=.seq items nl,slots:=oslots }:=Heap.get?_push_of_some _ hol
    have hsls:=PySem.F.sub_list_set
    have hslf:=PySem.F.sub_list_frozenset
    have hne:(Value.type "list" == Value.type "dict")=false:=by decide
    have hl1:(s.heap.push { cls:=.type "set",dict:=none,data:=.set #[] 0 (.fresh 0 0 led) }).IsList l items:=⟨_,hol',rfl,nl,rfl⟩
    unfold Builtin.«set.__init__» noKeywords Builtin.Frozenset.updateFrom
    generalize hPI:pyIter=PI
    wp_walk
    subst hPI
    refine wpAny_pyIter_list hl1 ?_
    refine wpAny_bind (wpAny_runValue ?_)
    have hlS:l < s.heap.objs.size:=Heap.lt_size hol
    have hh3:A.in1.in1.in1.handled=none:=by simp [hh]
    have hneI:l ≠ (s.heap.push { cls:=.type "set",dict:=none,data:=.set #[] 0 (.fresh 0 0 led) }).objs.size:=by
     rw [Heap.size_push]; exact Nat.ne_of_lt (Nat.lt_succ_of_lt hlS)
    have hSf:s.heap.objs.size ∉ [(s.heap.push { cls:=.type "set",dict:=none,data:=.set #[] 0 (.fresh 0 0 led) }).objs.size,l]:=by
     rw [Heap.size_push]; simp only [List.mem_cons,List.mem_singleton,List.not_mem_nil,or_false,not_or]
     exact ⟨Nat.ne_of_lt (Nat.lt_succ_self _),Nat.ne_of_gt hlS⟩
    have hval:∀ (i:Nat) (v:Value),items[i]? = some v→∃ t,v=.int ((fun i=>ns.getD i 0) i) t:=fun i v hv =>
     IntsAre.int_at hi i v (by rw [Array.getElem?_toList]; exact hv)
    have hnl:ns.length=items.size:=by rw [← IntsAre.length hi,Array.length_toList]
    refine u5 ((Walks.list hh3 _ l hneI items).toS) s.heap.objs.size hSf (fun i=>ns.getD i 0) hval hb (items.size - 0) 0 _ [] (by omega) (Nat.zero_le _)
     ⟨⟨_,Heap.get?_push_size _ rfl,rfl,rfl⟩,(hl1.push _)⟩ ?hS0 (Nat.zero_le _) (fun j=>by simp) ?hR
    case hS0 =>
     have hget:((s.heap.push { cls:=.type "set",dict:=none,data:=.set #[] 0 (.fresh 0 0 led) }).push { cls:=.type "list_iterator",data:=.fields #[.ref l,.int 0 0] }).get? s.heap.objs.size
       = some { cls:=.type "set",dict:=none,data:=.set #[] 0 (.fresh 0 0 led) }:=Heap.get?_push_of_some _ hS
     exact ⟨#[],0,.fresh 0 0 led,⟨_,hget,⟨rfl,rfl,rfl⟩,rfl⟩,by rfl,⟨rfl,fun _ i k _ hk=>by simp [SetTable.fresh] at hk⟩,Sd,fun e he=>by simp at he,.nil,List.nodup_nil⟩
    case hR =>
     intro s' us hm hS' hlen hmem
     obtain ⟨h',g',d',tk',os'⟩:=s'
     have eg:g'=s.gens:=hm.gens
     have ed:d'=s.drawn:=hm.drawn
     have eo:os'=s.os:=hm.os
     subst eg; subst ed; subst eo
     show wpAny _ _ _ _ _ _
     refine wpAny_pure ?_
     show wpAny _ _ (ret Value.none) _ _ _
     refine wpAny_pure ⟨rfl,h',tk',us,rfl,hS',by omega,fun j=>?_,fun b o hb e=>?_⟩
     ·rw [hmem]
      constructor
      ·rintro ⟨m,h1,h2⟩
       have hm':m < ns.length:=by omega
       rw [← h2]
       show ns.getD m 0 ∈ ns
       rw [List.getD_eq_getElem?_getD,List.getElem?_eq_getElem hm']
       exact List.getElem_mem hm'
      ·intro hj
       obtain ⟨m,hm',e⟩:=List.getElem_of_mem hj
       refine ⟨m,by omega,?_⟩
       show ns.getD m 0=j
       rw [List.getD_eq_getElem?_getD,List.getElem?_eq_getElem hm']
       exact e
     have hb1:b ≠ s.heap.objs.size:=Nat.ne_of_lt hb
     have hb2:b ≠ (s.heap.push { cls:=.type "set",dict:=none,data:=.set #[] 0 (.fresh 0 0 led) }).objs.size:=by
      rw [Heap.size_push]; exact Nat.ne_of_lt (Nat.lt_succ_of_lt hb)
     exact hm.heap b o (by simp only [List.mem_cons,List.mem_singleton,List.not_mem_nil,or_false,not_or]; exact ⟨hb1,hb2⟩) (Heap.get?_push_of_some _ (Heap.get?_push_of_some _ e))
   ·cases r₂ with
    | error e=>exact hr₂
    | ok fl₂ =>
     cases fl₂ with
     | ret r =>
      obtain ⟨rfl,h',tk,us,rfl,hS',h1',h2',hk'⟩:=hr₂
      repeat (any_goals (first | assumption | wp_step))
      exact h _ _ us hS' h1' h2' hk'
     | _=>exact hr₂.elim
end
end SF
namespace L2
open PySem PySem.Spec PyProof.Rows
def qv (P:Program) (w:World) (l:Addr) (us:List Int):HO:=.ext fun h=>SF.jA P w h l us
theorem wA {P:Program} {w:World} {h:Heap} {l:Addr} {us:List Int} (x:SF.jA P w h l us):∃ o,h.get? l=some o:=by
 obtain ⟨_,_,_,⟨o,ho,_⟩,_⟩:=x
 exact ⟨o,ho⟩
section
variable {X:Cx}
theorem mh (hc:X.calm=true):hC X (.type "set") (fun xs H Q=>∃ (p:Addr) (ns:List Int),xs=[.ref p]∧aZ X.K H p (ns.map V.int)∧ns.length < 4000∧∀ (l:Addr) (us:List Int),H l=none→us.length ≤ ns.length→us.Nodup→(∀ j,j ∈ us↔j ∈ ns)→Q (.ref l) (upd H l (qv X.prog X.w l us))):=by
 intro pins s σ H xs QW Q I r h
 obtain ⟨p,ns,rfl,hp,hz,q⟩:=h
 obtain ⟨u,rfl,ru⟩:=vals1 r
 cases ru
 obtain ⟨its,hv,pl,_⟩:=I.list hp
 have hi:=intsAre_of hv
 have hl:its.length=ns.length:=IntsAre.length hi
 refine SF.CD (I.ok.hd hc) (items:=its.toArray) (ns:=ns) pl.isList (by simpa using hi) (by rw [List.size_toArray,hl]; unfold scanBound; omega) fun h' tk us hS h1 h2 hk=>?_
 have hn:us.Nodup:=by obtain ⟨_,_,_,_,_,_,_,_,_,hn⟩:=hS; exact hn
 refine ⟨.ref s.heap.objs.size,upd H s.heap.objs.size (qv X.prog X.w s.heap.objs.size us),I.laid (fun b o e=>hk b o (Heap.lt_size e) e) (Nat.le_refl _) ?_,rfl,q _ us I.fresh h1 hn h2⟩
 exact ⟨hS,wA hS,fun h1 h2 x e=>SF.jA.at x e⟩
theorem iT (hc:X.calm=true):hC X (.builtin "sorted") (fun xs H Q=>∃ (p:Addr) (us:List Int),xs=[.ref p]∧H p=some (qv X.prog X.w p us)∧us.length < 64∧∀ (l:Addr) (ms:List Int),H l=none→ms.Perm us→ms.Pairwise (· ≤ ·)→Q (.ref l) (upd H l (.lst (ms.map V.int)))):=by
 intro pins s σ H xs QW Q I r h
 obtain ⟨p,us,rfl,hp,hz,q⟩:=h
 obtain ⟨u,rfl,ru⟩:=vals1 r
 cases ru
 obtain ⟨hS,_,_⟩:=(show cv X.prog X.w H s.heap p (qv X.prog X.w p us) from I.hok p _ hp)
 obtain ⟨es,ep,t,a1,a2,a3,a4,a5,a6,a7⟩:=hS
 refine SF.wy (I.ok.hd hc) (ns:=us) ⟨a1,a2,a3,a4⟩ a6 hz fun D h' d tk out ms c hD hk hg hI hperm Fu=>?_
 have hl:ms.length < 64:=by rw [hperm.length_eq]; exact hz
 have nD:H D=none:=I.hok.fresh hD
 have new:cv X.prog X.w (upd H D (.lst (ms.map V.int))) h' D (.lst (ms.map V.int)):=⟨by rw [List.length_map,sizeLine_eq]; omega,out.toList,c,lM hI,by rw [hg]⟩
 refine ⟨.ref D,upd H D (.lst (ms.map V.int)),I.call (g':=s.gens) (d':=d) (t':=tk) (ch:=[]) (Un.laid hk hD nD) (I.hok.laid hk hD new) I.bare (fun b z=>absurd z (by simp)),rfl,q D ms nD hperm Fu⟩
theorem dy:hC X (.builtin "isinstance") (fun xs H Q=>∃ (x:V) (n:String) (t:Value) (b:Bool),xs=[x,.ty n]∧lI X.K H x t∧PySem.W.kitOne X.K t (.type n)=some b∧Q (.bl b) H):=by
 intro pins s σ H xs us Q I r h
 obtain ⟨x,n,t,b,rfl,ht,hk,q⟩:=h
 obtain ⟨u,v,rfl,ru,rv⟩:=vals2 r
 cases rv
 exact zZ I ru ht hk fun tk=>⟨.bl b,H,I.tok tk,rfl,q⟩
def MN (a b:V):Prop:=(∃ p,a=.ref p∧b=.ref p)∨(∃ i j,a=.int i∧b=.int j)∨∃ i j,a=.str i∧b=.str j
def Se (K:PySem.W.Frag):R2:=fun x y H Q=>∃ (p q:Addr) (xs ys:List V),x=.ref p∧y=.ref q∧aZ K H p xs∧aZ K H q ys∧(∀ (i:Nat) a b,xs[i]? = some a→ys[i]? = some b→MN a b)∧Q (.bl (!decide (xs=ys))) H
theorem Fv {A:Around} {s:Shared} {a b:V} {u v:Value} (h:MN a b) (ra:RelV a u) (rb:RelV b v):SeqAt.EqAt A s u v (decide (a=b)):=by
 rcases h with ⟨p,rfl,rfl⟩ | ⟨i,j,rfl,rfl⟩ | ⟨i,j,rfl,rfl⟩
 ·cases ra
  cases rb
  rw [decide_eq_true rfl]
  exact SeqAt.EqAt.same _
 ·obtain ⟨t,rfl⟩:=ra
  obtain ⟨t',rfl⟩:=rb
  rw [rR]
  exact SeqAt.EqAt.int_int _ _ _ _
 ·obtain ⟨t,rfl⟩:=ra
  obtain ⟨t',rfl⟩:=rb
  rw [rS]
  exact SeqAt.EqAt.str_str _ _ _ _
theorem all_eq {xs ys:List V} (h:xs.length=ys.length):((List.range xs.length).all fun i=>decide (xs[i]? = ys[i]?))=decide (xs=ys):=by
 rw [Bool.eq_iff_iff,List.all_eq_true,decide_eq_true_iff]
 constructor
 ·intro q
  apply List.ext_getElem?
  intro i
  rcases Nat.lt_or_ge i xs.length with z | z
  ·exact of_decide_eq_true (q i (List.mem_range.mpr z))
  ·rw [List.getElem?_eq_none z,List.getElem?_eq_none (by omega)]
 ·rintro rfl i _
  simp
theorem wB (hu:X.A.units < cLine):jS X (compareOp .NotEq) (Se X.K):=by
 intro pins s σ H x y v u Q I rx ry h
 obtain ⟨p,q,xs,ys,rfl,rfl,hp,hq,hc,k⟩:=h
 cases rx
 cases ry
 obtain ⟨its,hv,pl,_⟩:=I.list hp
 obtain ⟨its2,hv2,pl2,_⟩:=I.list hq
 have e1:=hv.length
 have e2:=hv2.length
 by_cases hl:xs.length=ys.length
 ·have key:SeqAt.RcNeAt X.A s (.ref p) (.ref q) (!(List.range its.toArray.size).all fun i=>decide (xs[i]? = ys[i]?)):=by
   refine SeqAt.RcNeAt.lists pl.isList pl2.isList (by simp; omega) hu fun j h1 h2=>?_
   have j1:j < xs.length:=by simp at h1; omega
   have j2:j < ys.length:=by simp at h2; omega
   have z1:xs[j]? = some xs[j]:=List.getElem?_eq_getElem j1
   have z2:ys[j]? = some ys[j]:=List.getElem?_eq_getElem j2
   obtain ⟨u1,w1,r1⟩:=hv.get z1
   obtain ⟨u2,w2,r2⟩:=hv2.get z2
   have i1:its.toArray[j]=u1:=by
    have:its[j]? = some its[j]:=List.getElem?_eq_getElem (by omega)
    rw [this] at w1
    simpa using w1
   have i2:its2.toArray[j]=u2:=by
    have:its2[j]? = some its2[j]:=List.getElem?_eq_getElem (by omega)
    rw [this] at w2
    simpa using w2
   rw [i1,i2,z1,z2]
   have e:decide (some xs[j]=some ys[j])=decide (xs[j]=ys[j]):=by simp
   rw [e]
   exact Fv (hc j _ _ z1 z2) r1 r2
  rw [List.size_toArray,← e1,all_eq hl] at key
  exact key _ _ _ _ ⟨.bl (!decide (xs=ys)),H,I,rfl,k⟩
 ·have key:SeqAt.RcNeAt X.A s (.ref p) (.ref q) true:=SeqAt.RcNeAt.lists_lengths pl.isList pl2.isList (by simp; omega) hu
  rw [decide_eq_false (fun z=>hl (by rw [z]))] at k
  exact key _ _ _ _ ⟨.bl true,H,I,rfl,k⟩
end
section
variable {X:Cx}
end
end L2
namespace L2
open PySem PySem.W PySem.Spec PySem.Calls PyProof.Rows
section
variable {X:Cx} {pos pos':Pos} {o i value:Expr} {td ty tv:TE}
end
end L2
namespace L2
open PySem PySem.Spec PyProof.Rows
section
variable {X:Cx} {pins:List (Addr × Obj)} {σ:St} {H:Hp} {s:Shared} {h':Heap}
theorem Inv.qW {t':Nat} {its:List Addr} {a:Addr} {o:HO} (I:Inv X pins σ H s) (k:∀ b u,b ∉ its→s.heap.get? b=some u→h'.get? b=some u) (hf:∀ b ∈ its,oh X pins H b)
  (hp:s.heap.objs.size ≤ a) (new:cv X.prog X.w (upd H a o) h' a o):Inv X pins σ (upd H a o) { s with heap:=h',toks:=t' }:=by
 have hn:H a=none:=I.hok.fresh hp
 have Im:∀ b u,H b=some u→b ∉ its:=fun b u e z=>by rw [(hf b z).1] at e; cases e
 have nea:∀ b u,s.heap.get? b=some u→b ≠ a:=fun b u e=>Nat.ne_of_lt (Nat.lt_of_lt_of_le (Heap.lt_size e) hp)
 refine I.step (g':=s.gens) (d':=s.drawn) (ch:=its) (fun b hb=>?_) (fun b o _ _ hc e _=>k b o hc e) (fun b o _ _ hc e _=>⟨o.slots,k b o hc e⟩) (fun b u _ e n=>?_)
  (fun b o hc e=>⟨o,k b o hc e⟩) (fun b xs e=>?_) (fun b u v e=>?_) (fun b ps e=>⟨#[],?_⟩) (fun m hm=>?_) (fun b u e=>?_) I.bare
 ·obtain ⟨_,f1,f2,f3,f4,f5⟩:=hf b hb
  exact ⟨f3,f1,f4,f5⟩
 ·rw [aK (nea b u e)]; exact n
 ·rw [aK (aw e hn)]; exact e
 ·rw [aK (aw e hn)]; exact e
 ·rw [aK (aw e hn),e]; simp
 ·obtain ⟨o,es,ep,ho,r⟩:=hm
  exact ⟨o,es,ep,k _ o (fun z=>(hf _ z).2.1 rfl) ho,r⟩
 ·by_cases hb:b=a
  ·subst hb
   rw [ah] at e
   cases e
   exact new
  ·rw [aK hb] at e
   refine (I.hok b u e).stay (fun c v hc q=>k c v ?_ q) (fun c q=>by rw [aK (aw q hn)]; exact q) fun c xs q=>by rw [aK (aw q hn)]; exact q
   rcases hc with z | z
   ·rw [z]; exact Im b u e
   ·exact Im c _ z
theorem Inv.Fw {t':Nat} {its:List Addr} (I:Inv X pins σ H s) (k:∀ b u,b ∉ its→s.heap.get? b=some u→h'.get? b=some u) (hf:∀ b ∈ its,oh X pins H b):Inv X pins σ H { s with heap:=h',toks:=t' }:=by
 have Im:∀ b u,H b=some u→b ∉ its:=fun b u e z=>by rw [(hf b z).1] at e; cases e
 refine I.step (g':=s.gens) (d':=s.drawn) (ch:=its) (fun b hb=>?_) (fun b o _ _ hc e _=>k b o hc e) (fun b o _ _ hc e _=>⟨o.slots,k b o hc e⟩) (fun b u _ e n=>n)
  (fun b o hc e=>⟨o,k b o hc e⟩) (fun b xs e=>e) (fun b u v e=>e) (fun b ps e=>⟨#[],by rw [e]; simp⟩) (fun m hm=>?_) (fun b u e=>?_) I.bare
 ·obtain ⟨_,f1,f2,f3,f4,f5⟩:=hf b hb
  exact ⟨f3,f1,f4,f5⟩
 ·obtain ⟨o,es,ep,ho,r⟩:=hm
  exact ⟨o,es,ep,k _ o (fun z=>(hf _ z).2.1 rfl) ho,r⟩
 ·refine (I.hok b u e).stay (fun c v hc q=>k c v ?_ q) (fun _ q=>q) fun _ _ q=>q
  rcases hc with z | z
  ·rw [z]; exact Im b u e
  ·exact Im c _ z
end
def Ite (K:PySem.W.Frag) (a:Addr):It :=
 ⟨fun i H=>∃ xs x,aZ K H a xs∧xs[i]? = some x,
   fun i H x H'=>∃ t y,H t=none∧x=.ref t∧H'=upd H t (.tup [.int i,y])∧∀ xs,aZ K H a xs→xs[i]? = some y,
   fun i H=>∃ xs,aZ K H a xs∧xs.length ≤ i⟩
theorem Ak {P:Program} {w:World} {K:PySem.W.Frag} {elts:List Expr} {x1} {pos:Pos} (a e it:Addr) (hne:e ≠ it) :
  Turn P w K (.Tuple elts x1 pos) (Ite K a) [e,it] e (fun i h=>(∃ old,IsEnum h e it i old)∧h.IsListIter it a i) where
 mem:=by simp
 obj:=fun i h st b hb=>by
  obtain ⟨⟨old,he⟩,o,eo,c,d⟩:=st
  rcases List.mem_cons.mp hb with rfl | hb
  ·exact ⟨_,he,fun v z=>by
    have z':Data.fields _=Data.cell v:=z
    cases z'⟩
  ·rw [List.mem_singleton.mp hb]
   exact ⟨o,eo,fun v z=>by rw [d] at z; cases z⟩
 keep:=fun i h h' st k=>⟨st.1.elim fun old he=>⟨old,k e (by simp) _ he⟩,st.2.at fun o eo=>k it (by simp) o eo⟩
 item:=by
  intro X hP hw hK hc i pins s σ H E I hf st hg
  subst hP hw hK
  obtain ⟨xs,x,hq,hx⟩:=hg
  obtain ⟨⟨old,he⟩,hit⟩:=st
  obtain ⟨its,rv,p,hz⟩:=I.list hq
  obtain ⟨u,hu,ru⟩:=rv.get hx
  refine wpAny_pyNext_enum_item he hit p.isList (x:=u) (by simpa using hu) hne fun h1 J6 hit1 ht1 hz1 k1=>?_
  refine ⟨_,rfl,wpAny_letOwnedTupleGo_enum J6 fun h2 he2 hs2=>?_⟩
  have Fx:s.heap.objs.size ≠ e:=Nat.ne_of_gt (Heap.lt_size he)
  have MO:=(hs2.2 s.heap.objs.size Fx).trans ht1
  have hk:∀ b o,b ∉ [e,it]→s.heap.get? b=some o→h2.get? b=some o:=fun b o hb e'=>by
   have hb':b ≠ e∧b ≠ it:=by simpa using hb
   exact (hs2.2 b hb'.1).trans (k1 b o hb'.1 hb'.2 e')
  have hfr:H s.heap.objs.size=none:=I.hok.fresh (Nat.le_refl _)
  refine ⟨.ref s.heap.objs.size,upd H s.heap.objs.size (.tup [.int i,x]),I.qW (t':=s.toks + 1) hk hf (Nat.le_refl _) ?_,rfl,⟨_,x,hfr,rfl,rfl,fun ys hy=>by rw [I.n9 hy hq]; exact hx⟩,⟨⟨u,?_⟩,?_⟩,fun b hb=>?_⟩
  ·exact ⟨by show 2 ≤ sizeLine; decide,[.int i s.toks,u],.cons ⟨_,rfl⟩ (.cons ru .nil),⟨_,MO,rfl,_,rfl⟩⟩
  ·exact he2
  ·obtain ⟨o,e1,e2⟩:=hit1
   exact ⟨o,(hs2.2 it (Ne.symm hne)).trans e1,e2⟩
  ·have:b ≠ s.heap.objs.size:=by
    rcases List.mem_cons.mp hb with rfl | hb
    ·exact Ne.symm Fx
    ·rw [List.mem_singleton.mp hb]
     obtain ⟨o,e1,_⟩:=hit
     exact Nat.ne_of_lt (Heap.lt_size e1)
   rw [aK this]
   exact (hf b hb).1
 done:=by
  intro X hP hw hK hc i pins s σ H E I hf st hg
  subst hP hw hK
  obtain ⟨xs,hq,hx⟩:=hg
  obtain ⟨⟨old,he⟩,hit⟩:=st
  obtain ⟨its,rv,p,hz⟩:=I.list hq
  obtain ⟨f0,f1,f2,f3,f4,f5⟩:=hf it (by simp)
  have hl:=rv.length
  exact wpAny_pyNext_enum_end (I.ok.hd hc) he hit p.isList (by simp; omega) fun h' eb=>⟨rfl,I.turned (t':=s.toks) (fun b o hb e=>eb b o hb e) f0 f1 f3 f4 f5⟩
 self:=fun _ _ _ _ _ st h=>st.1.elim fun _ he=>wpAny_pyIter_enum he h
section
variable {X:Cx}
def MQ (K:PySem.W.Frag) (ta:TA):TI:=fun σ H R=>ta σ H fun vs H1=>∃ a,vs=[.ref a]∧(∃ xs,aZ K H1 a xs)∧R (Ite K a) H1
theorem Fy:bootBuiltins "enumerate" = some (.type "enumerate"):=by decide +kernel
theorem sj {a:Expr} {ta:TA} {p pos:Pos} {elts:List Expr} {x1} {tpos:Pos} (hg:Gl X "enumerate") (hm:X.mg "enumerate" = none) (ha:PA X [a] ta) (hs:starEach [a] X.env=[(false,eval a X.env)]:=by rfl) :
  PI X (.Tuple elts x1 tpos) (.Call (.Name "enumerate" p) [a] [] pos) (MQ X.K ta):=by
 intro pins s σ H R I h
 refine Call_ (jP I hg hm Fy (PyProof.Rows.callWith_type1 (cC (ha pos pins s σ H _ I h) fun us s1 ⟨vs,H1,I1,r1,q1⟩=>?_) hs rfl))
 obtain ⟨a,e,⟨xs,hq⟩,q⟩:=q1
 subst e
 obtain ⟨u,rfl,ru⟩:=vals1 r1
 cases ru
 obtain ⟨its,rv,p,hz⟩:=I1.list hq
 refine call_enumerate_list p.isList fun h' he hit hsz hk=>?_
 refine wpAny_pyIter_enum he ?_
 refine ⟨s1.heap.objs.size + 1,[s1.heap.objs.size + 1,s1.heap.objs.size],_,_,H1,rfl,I1.kept (t':=s1.toks) hk,Ak a _ _ (Nat.succ_ne_self _),⟨⟨_,he⟩,hit⟩,fun b hb=>?_,q⟩
 have hb':s1.heap.objs.size ≤ b:=by
  rcases List.mem_cons.mp hb with rfl | hb
  ·exact Nat.le_succ _
  ·rw [List.mem_singleton.mp hb]; exact Nat.le_refl _
 exact I1.zU hb' (I1.hok.fresh hb')
theorem u6 {K:PySem.W.Frag} {a:Addr} {xs:List V} {g:TG} {tb:TS} {D:Ends} {σ:St} {H:Hp} (Pv:Nat→St→Hp→Prop) (h0:Pv 0 σ H) (hl:∀ i σ H,i ≤ xs.length→Pv i σ H→aZ K H a xs)
  (hs:∀ i x σ H t,xs[i]? = some x→H t=none→Pv i σ H→g (.ref t) σ (upd H t (.tup [.int i,x])) fun σ2 H2=>tb { D with nx:=Pv (i + 1),ct:=Pv (i + 1),bk:=D.nx } σ2 H2) (hd:∀ σ H,Pv xs.length σ H→D.nx σ H) :
  ∃ W:Nat→Nat→St→Hp→Prop,(∃ m,W 0 m σ H)∧∀ i m σ H,W i m σ H →
   ((Ite K a).stop i H∧D.nx σ H)∨((Ite K a).go i H∧∃ N:St→Hp→Prop,(∀ σ' H',N σ' H'→∃ m',m' < m∧W (i + 1) m' σ' H')∧∀ x H',(Ite K a).zT i H x H'→g x σ H' fun σ2 H2=>tb { D with nx:=N,ct:=N,bk:=D.nx } σ2 H2):=by
 refine ⟨fun i m σ H=>m=xs.length - i∧i ≤ xs.length∧Pv i σ H,⟨xs.length,by simp,Nat.zero_le _,h0⟩,?_⟩
 rintro i m σ H ⟨rfl,hi,p⟩
 have q:=hl i σ H hi p
 by_cases hlt:i < xs.length
 ·refine .inr ⟨⟨xs,xs[i],q,by simp [hlt]⟩,Pv (i + 1),fun σ' H' p'=>⟨xs.length - (i + 1),by omega,rfl,hlt,p'⟩,fun x H' y=>?_⟩
  obtain ⟨t,y,hn,e1,e2,hy⟩:=y
  subst e1 e2
  exact hs i y σ _ t (hy xs q) hn p
 ·have e:i=xs.length:=by omega
  subst e
  exact .inl ⟨⟨xs,q,Nat.le_refl _⟩,hd σ H p⟩
end
end L2
namespace L2
open PySem PySem.W PySem.Spec PySem.Calls PyProof.Rows
section
variable {X:Cx} {pins:List (Addr × Obj)} {σ:St} {H:Hp} {s:Shared} {a:Addr} {kvs:List (Key × V)}
end
theorem wC {α β:Type} {R:α→β→Prop} {xs:List α} {ys:List β} (r:Paired R xs ys):∀ {i:Nat} {x:α},xs[i]? = some x→∃ y,ys[i]? = some y∧R x y:=by
 induction r with
 | nil=>intro i x h; simp at h
 | cons h t ih =>
  intro i x e
  cases i with
  | zero =>
   have e':=Option.some.inj e
   subst e'
   exact ⟨_,rfl,h⟩
  | succ i=>exact ih (by simpa using e)
section
variable {X:Cx}
end
def u7 (x:V):Prop:=x=.non∨(∃ i,x=.int i)∨∃ t,x=.str t
theorem sk {A:Around} {s:Shared} {x:V} {u v:Value} (h:u7 x) (ru:RelV x u) (rv:RelV x v):SeqAt.EqAt A s u v true:=by
 rcases h with rfl | ⟨i,rfl⟩ | ⟨t,rfl⟩
 ·have e1:u=Value.none:=ru
  have e2:v=Value.none:=rv
  subst e1 e2
  exact SeqAt.EqAt.same _
 ·obtain ⟨t1,rfl⟩:=ru
  obtain ⟨t2,rfl⟩:=rv
  have:=SeqAt.EqAt.int_int (A:=A) (s:=s) i t1 i t2
  rwa [beq_self_eq_true] at this
 ·obtain ⟨t1,rfl⟩:=ru
  obtain ⟨t2,rfl⟩:=rv
  have:=SeqAt.EqAt.str_str (A:=A) (s:=s) t t1 t t2
  rwa [beq_self_eq_true] at this
abbrev iD (kvs:List (Int × Int)):List (Key × V):=kvs.map fun p=>(Sum.inl p.1,V.int p.2)
def Sf (H:Hp) (x y:V):Prop:=∃ p q xs,x=.ref p∧y=.ref q∧H p=some (.tup xs)∧H q=some (.tup xs)∧∀ z ∈ xs,u7 z
def LW (H:Hp) (x y:V):Prop:=(x=y∧u7 x)∨Sf H x y∨(∃ p q xs,x=.ref p∧y=.ref q∧H p=some (.lst xs)∧H q=some (.lst xs)∧∀ z ∈ xs,u7 z) ∨
 (∃ p q xs ys,x=.ref p∧y=.ref q∧H p=some (.lst xs)∧H q=some (.lst ys)∧xs.length=ys.length∧∀ (i:Nat) a b,xs[i]? = some a→ys[i]? = some b→Sf H a b) ∨
 ∃ p q ka kb,x=.ref p∧y=.ref q∧H p=some (.dK (iD ka))∧H q=some (.dK (iD kb))∧ka.length=kb.length∧∀ c ∈ ka,c ∈ kb
theorem all_true (n:Nat):((List.range n).all fun _=>true)=true:=by simp
def qX (kv:Key × Value):Int × Value:=match kv.1 with
 | .inl i=>(i,kv.2)
 | .inr _=>(0,kv.2)
theorem CF {P:Program} {w:World} (P':Program) (w':World) {es:List DictEntry} {vs:List (Key × Value)} (p:Pairs (bF P w) es vs):(∀ kv ∈ vs,∃ i,kv.1=Sum.inl i)→Pairs (intKind P' w') es (vs.map qX):=by
 induction p with
 | nil=>intro _; exact .nil
 | @cons e kv es vs h1 h2 t ih =>
  intro ha
  obtain ⟨i,hi⟩:=ha kv (by simp)
  rw [hi] at h1
  have e1:qX kv=(i,kv.2):=by unfold qX; rw [hi]
  rw [List.map_cons,e1]
  exact .cons h1 h2 (ih fun kv hk=>ha kv (by simp [hk]))
theorem Al {P:Program} {w:World} {es:List DictEntry} {vs:List (Key × Value)} (p:Pairs (bF P w) es vs):∀ e ∈ es,∃ kv ∈ vs,(bF P w).is kv.1 e.key=true:=by
 induction p with
 | nil=>intro e h; simp at h
 | @cons e kv es vs h1 h2 t ih =>
  intro e' he
  rcases List.mem_cons.mp he with rfl | he
  ·exact ⟨kv,by simp,h1⟩
  ·obtain ⟨kv',a,b⟩:=ih e' he
   exact ⟨kv',by simp [a],b⟩
theorem int_dict {P:Program} {w:World} {h:Heap} {a:Addr} {vs:List (Key × Value)} {kvs:List (Int × Int)} (r:KV (iD kvs) vs) (d:h.DictOf (bF P w) a vs) (P':Program) (w':World) :
  ∃ us:List (Int × Value),h.DictOf (intKind P' w') a us∧us.map (·.1)=kvs.map (·.1)∧∀ (i:Nat) p,kvs[i]? = some p→∃ t,us[i]? = some (p.1,Value.int p.2 t):=by
 obtain ⟨o,es,ep,g,ex,dt,hk,hp,hn⟩:=d
 have hl:vs.length=kvs.length:=by rw [← r.length,List.length_map]
 have hv:∀ (i:Nat) p,kvs[i]? = some p→∃ t,vs[i]? = some (Sum.inl p.1,Value.int p.2 t):=fun i p hi=>by
  obtain ⟨y,hy,h1,h2⟩:=wC r (i:=i) (x:=(Sum.inl p.1,V.int p.2)) (by rw [List.getElem?_map,hi]; rfl)
  obtain ⟨t,e⟩:=(show ∃ t,y.2=Value.int p.2 t from h2)
  exact ⟨t,by rw [hy,← e]; congr 1; exact Prod.ext h1.symm rfl⟩
 have hu:∀ (i:Nat) p,kvs[i]? = some p→∃ t,(vs.map qX)[i]? = some (p.1,Value.int p.2 t):=fun i p hi=>by
  obtain ⟨t,e⟩:=hv i p hi
  exact ⟨t,by rw [List.getElem?_map,e]; rfl⟩
 have hkeys:(vs.map qX).map (·.1)=kvs.map (·.1):=by
  apply List.ext_getElem?
  intro i
  rcases Nat.lt_or_ge i kvs.length with hi | hi
  ·obtain ⟨t,e⟩:=hu i kvs[i] (List.getElem?_eq_getElem hi)
   rw [List.getElem?_map,e,List.getElem?_map,List.getElem?_eq_getElem hi]
   rfl
  ·rw [List.getElem?_eq_none (by rw [List.length_map,List.length_map]; omega),List.getElem?_eq_none (by rw [List.length_map]; omega)]
 have hall:∀ kv ∈ vs,∃ i,kv.1=Sum.inl i:=fun kv hm=>by
  obtain ⟨i,hi,e⟩:=List.getElem_of_mem hm
  obtain ⟨t,e2⟩:=hv i kvs[i] (List.getElem?_eq_getElem (by omega))
  rw [List.getElem?_eq_getElem hi,e] at e2
  exact ⟨_,congrArg Prod.fst (Option.some.inj e2)⟩
 refine ⟨vs.map qX,⟨o,es,ep,g,ex,dt,?_,?_,?_⟩,hkeys,hu⟩
 ·intro e he
  obtain ⟨k,k1,k2⟩:=hk e he
  obtain ⟨kv,hm,h1⟩:=Al hp e (Array.mem_toList_iff.mpr he)
  obtain ⟨i,hi⟩:=hall kv hm
  have ek:k=kv.1:=(bF P w).inj _ _ _ k1 h1
  rw [ek,hi] at k1 k2
  exact ⟨i,k1,k2⟩
 ·exact CF P' w' hp hall
 ·rw [hkeys]
  have e:vs.map (·.1)=(kvs.map (·.1)).map (Sum.inl:Int→Key):=by
   apply List.ext_getElem?
   intro i
   rcases Nat.lt_or_ge i kvs.length with hi | hi
   ·obtain ⟨t,e⟩:=hv i kvs[i] (List.getElem?_eq_getElem hi)
    rw [List.getElem?_map,e,List.getElem?_map,List.getElem?_map,List.getElem?_eq_getElem hi]
    rfl
   ·rw [List.getElem?_eq_none (by rw [List.length_map]; omega),List.getElem?_eq_none (by rw [List.length_map,List.length_map]; omega)]
  rw [e] at hn
  exact List.Pairwise.of_map (Sum.inl:Int→Key) (fun a b h=>fun z=>h (by rw [z])) hn
theorem yG {A:Around} {s:Shared} {kb:List (Int × Int)} {ub:List (Int × Value)} (hn:(ub.map (·.1)).Nodup) (hb:∀ (i:Nat) p,kb[i]? = some p→∃ t,ub[i]? = some (p.1,Value.int p.2 t)) :
  ∀ (ka:List (Int × Int)) (ua:List (Int × Value)),ua.length=ka.length→(∀ (i:Nat) p,ka[i]? = some p→∃ t,ua[i]? = some (p.1,Value.int p.2 t))→(∀ c ∈ ka,c ∈ kb)→KeqHits A s ub ua true
 | [],[],_,_,_=>.nil
 | [],_ :: _,h,_,_=>by simp at h
 | _ :: _,[],h,_,_=>by simp at h
 | c :: ka,u :: ua,hl,ha,hm=>by
  obtain ⟨t,e⟩:=ha 0 c rfl
  have eu:u=(c.1,Value.int c.2 t):=Option.some.inj e
  subst eu
  obtain ⟨j,hj,ej⟩:=List.getElem_of_mem (hm c (by simp))
  obtain ⟨t2,e2⟩:=hb j c (by rw [List.getElem?_eq_getElem hj,ej])
  have hv:valueAt ub c.1=some (Value.int c.2 t2):=by
   unfold valueAt
   have hmem:(c.1,Value.int c.2 t2) ∈ ub:=List.mem_of_getElem? e2
   have hf:∀ (l:List (Int × Value)),(l.map (·.1)).Nodup→(c.1,Value.int c.2 t2) ∈ l→l.find? (fun kv=>decide (kv.1=c.1))=some (c.1,Value.int c.2 t2):=by
    intro l
    induction l with
    | nil=>intro _ h; simp at h
    | cons x l ih =>
     intro hnd hx
     rw [List.map_cons,List.nodup_cons] at hnd
     rcases List.mem_cons.mp hx with rfl | hx
     ·simp
     ·have ne:¬ x.1=c.1:=fun z=>hnd.1 (by rw [z]; exact List.mem_map.mpr ⟨_,hx,rfl⟩)
      rw [List.find?_cons_of_neg (by simpa using ne)]
      exact ih hnd.2 hx
   rw [hf ub hn hmem]
   rfl
  have h1:=SeqAt.EqAt.int_int (A:=A) (s:=s) c.2 t c.2 t2
  rw [beq_self_eq_true] at h1
  have r:=yG (A:=A) (s:=s) hn hb ka ua (by simpa using hl) (fun i p hi=>ha (i + 1) p (by simpa using hi)) (fun c hc=>hm c (by simp [hc]))
  have:=KeqHits.hit (k:=c.1) hv h1 r
  simpa using this
section
variable {X:Cx} {pins:List (Addr × Obj)} {σ:St} {H:Hp} {s:Shared} {A:Around}
theorem CG (hu:A.units < cLine) (I:Inv X pins σ H s) {x y:V} {u v:Value} (h:Sf H x y) (ru:RelV x u) (rv:RelV y v):SeqAt.EqAt A s u v true:=by
 obtain ⟨p,q,xs,rfl,rfl,hp,hq,hs⟩:=h
 cases ru
 cases rv
 by_cases e:p=q
 ·subst e; exact SeqAt.EqAt.same _
 ·obtain ⟨_,i1,r1,t1⟩:=(show cv X.prog X.w H s.heap p (.tup xs) from I.hok p _ hp)
  obtain ⟨_,i2,r2,t2⟩:=(show cv X.prog X.w H s.heap q (.tup xs) from I.hok q _ hq)
  have l1:=r1.length
  have l2:=r2.length
  have key:=SeqAt.RcAt.tuples (A:=A) (s:=s) (e:=fun _=>true) t1 t2 hu fun j h1 h2=>by
   have j1:j < xs.length:=by simp at h1; omega
   have z1:xs[j]? = some xs[j]:=List.getElem?_eq_getElem j1
   obtain ⟨u1,w1,q1⟩:=r1.get z1
   obtain ⟨u2,w2,q2⟩:=r2.get z1
   have e1:i1.toArray[j]=u1:=by
    have:i1[j]? = some i1[j]:=List.getElem?_eq_getElem (by omega)
    rw [this] at w1
    simpa using w1
   have e2:i2.toArray[j]=u2:=by
    have:i2[j]? = some i2[j]:=List.getElem?_eq_getElem (by omega)
    rw [this] at w2
    simpa using w2
   rw [e1,e2]
   exact sk (hs _ (List.getElem_mem j1)) q1 q2
  rw [all_true] at key
  have e3:(true && i1.toArray.size == i2.toArray.size)=true:=by simp; omega
  rw [e3] at key
  exact SeqAt.EqAt.of_refs e key
theorem oN (hu:A.units < cLine) (I:Inv X pins σ H s) {p q:Addr} {xs ys:List V} (hp:H p=some (.lst xs)) (hq:H q=some (.lst ys)) (hl:xs.length=ys.length)
  (he:∀ (i:Nat) a b u v,xs[i]? = some a→ys[i]? = some b→RelV a u→RelV b v→SeqAt.EqAt A.in1 s u v true):SeqAt.RcAt A s (.ref p) (.ref q) true:=by
 obtain ⟨i1,r1,t1,_⟩:=I.list (aZ.of hp)
 obtain ⟨i2,r2,t2,_⟩:=I.list (aZ.of hq)
 have l1:=r1.length
 have l2:=r2.length
 have key:=SeqAt.RcAt.lists (A:=A) (s:=s) (e:=fun _=>true) t1.isList t2.isList (by simp; omega) hu fun j h1 h2=>by
  have j1:j < xs.length:=by simp at h1; omega
  have j2:j < ys.length:=by simp at h2; omega
  have z1:xs[j]? = some xs[j]:=List.getElem?_eq_getElem j1
  have z2:ys[j]? = some ys[j]:=List.getElem?_eq_getElem j2
  obtain ⟨u1,w1,q1⟩:=r1.get z1
  obtain ⟨u2,w2,q2⟩:=r2.get z2
  have e1:i1.toArray[j]=u1:=by
   have:i1[j]? = some i1[j]:=List.getElem?_eq_getElem (by omega)
   rw [this] at w1
   simpa using w1
  have e2:i2.toArray[j]=u2:=by
   have:i2[j]? = some i2[j]:=List.getElem?_eq_getElem (by omega)
   rw [this] at w2
   simpa using w2
  rw [e1,e2]
  exact he j _ _ _ _ z1 z2 q1 q2
 rw [all_true] at key
 exact key
theorem CH (hu:A.units + 1 < cLine) (I:Inv X pins σ H s) {x y:V} {u v:Value} (h:LW H x y) (ru:RelV x u) (rv:RelV y v):SeqAt.EqAt A s u v true:=by
 have hu0:A.units < cLine:=by omega
 have hu1:A.in1.units < cLine:=hu
 rcases h with ⟨rfl,hs⟩ | h | ⟨p,q,xs,rfl,rfl,hp,hq,hs⟩ | ⟨p,q,xs,ys,rfl,rfl,hp,hq,hl,hs⟩ | ⟨p,q,ka,kb,rfl,rfl,hp,hq,hl,hs⟩
 ·exact sk hs ru rv
 ·exact CG hu0 I h ru rv
 ·cases ru
  cases rv
  by_cases e:p=q
  ·subst e; exact SeqAt.EqAt.same _
  ·refine SeqAt.EqAt.of_refs e (oN hu0 I hp hq rfl fun i a b u v ha hb r1 r2=>?_)
   rw [ha] at hb
   cases hb
   exact sk (hs a (List.mem_of_getElem? ha)) r1 r2
 ·cases ru
  cases rv
  by_cases e:p=q
  ·subst e; exact SeqAt.EqAt.same _
  ·exact SeqAt.EqAt.of_refs e (oN hu0 I hp hq hl fun i a b u v ha hb r1 r2=>CG hu1 I (hs i a b ha hb) r1 r2)
 ·cases ru
  cases rv
  by_cases e:p=q
  ·subst e; exact SeqAt.EqAt.same _
  ·refine SeqAt.EqAt.of_refs e fun P' w' E' Q' hQ=>?_
   obtain ⟨_,y1,vs1,r1,d1⟩:=qT I.hok hp
   obtain ⟨_,y2,vs2,r2,d2⟩:=qT I.hok hq
   obtain ⟨ua,da,na,va⟩:=int_dict r1 d1 P' w'
   obtain ⟨ub,db,nb,vb⟩:=int_dict r2 d2 P' w'
   have hnb:(ub.map (·.1)).Nodup:=by
    obtain ⟨_,_,_,_,_,_,_,_,hn⟩:=db
    exact hn
   have la:ua.length=ka.length:=by have:=congrArg List.length na; simpa using this
   have lb:ub.length=kb.length:=by have:=congrArg List.length nb; simpa using this
   refine keq_eq y1 y2 da db hu0 (r:=true) (fun _=>yG hnb vb ka ua la va hs) ?_
   have e3:(ua.length == ub.length && true)=true:=by simp; omega
   rw [e3]
   exact hQ
end
theorem sm:typeLookup (.type "list") "keys" = pure none:=by rw [typeLookup_type,builtinLookup_eq_fast]; kernel_rfl
theorem wD {prog:Program} {w:World} {A:Around} {E:Value→Shared→Prop} {s:Shared} {a:Addr} {xs:Array Value} {k:Nat} {Q:Option Value→Shared→Prop}
  (hx:s.heap.get? a=some { cls:=.type "list",data:=.seq xs k }) (hA:A.handled=none)
  (hq:∀ h' tk,(∀ b o,s.heap.get? b=some o→h'.get? b=some o)→Q none { s with heap:=h',toks:=tk }):wpAny (model prog w) A (getAttr? (.ref a) "keys") Q E s:=by
 obtain ⟨hp,g,d,tk,os⟩:=s
 have hT:∀ tk',(⟨hp,g,d,tk',os⟩:Shared).TypeIs (.ref a) "list" := fun _=>⟨_,hx,rfl⟩
 have g1:=sub_AttributeError
 have g3:=PySem.F.slot_list_getattribute.lookup
 have g4:=PySem.F.slot_list_getattribute.bind (.ref a)
 have g5:=am_list_getattr_none
 unfold getAttr? getAttrBy? getAttrBy
 repeat (any_goals (first | assumption | exact hT _ | ((with_reducible show wpAny _ _ (call (Value.builtin "list.__getattribute__") _ _) _ _ _); refine call_meets PySem.F.slot_list_getattribute (hT _) am_entry_list_getattribute (PySem.F.args_list_getattribute_2 _ _) (meets_getattribute_miss_list a xs k #[] "keys" _ sm (by decide +kernel) (by size_fits)) ⟨hx,hA,fun h' tk' e hy=>?_⟩) | wp_step))
 obtain ⟨t',u',he⟩:=hy.there
 have hkp:=hy.of.keeps
 (show wpAny (model prog w) _ (getattributeRaised _ _ _ _ _ _ _) _ _ _; unfold getattributeRaised; repeat (any_goals (first | assumption | wp_step)))
 exact hq _ _ hkp
theorem jb:plainId "dict.update.loop" = true:=by decide +kernel
theorem qY:entryFor table "dict.update.loop" = some Builtin.«dict.update.loop»:=entryFor_of_fast (by kernel_rfl)
section
variable {prog:Program} {w:World} {K:Type} [DecidableEq K] {knd:KeyKind prog w K} {A:Around} {R:Result→Shared→Prop}
theorem wF (hh:A.handled=none) {d it l:Addr} {items:Array Value} {ks:List (K × Value)} (hdi:d ≠ it) (Sd:l ≠ d) (hli:l ≠ it) (hkl:ks.length=items.size) (hsz:items.size ≤ 5000) :
  ∀ (n i:Nat) (s:Shared) (acc:List (K × Value)) (t:Tok),items.size - i=n→i ≤ items.size→s.heap.IsListIter it l i→s.heap.IsList l items→s.heap.DictOf knd d acc→acc.length ≤ i →
   (∀ (j:Nat) k v,ks[j]? = some (k,v)→∃ tup key,items[j]? = some (.ref tup)∧IsTup s.heap tup #[key,v]∧knd.is k key=true∧tup ≠ d∧tup ≠ it) →
   (∀ h' tk,h'.DictOf knd d (merged acc (ks.drop i))→(∀ b o,b ≠ d→b ≠ it→s.heap.get? b=some o→h'.get? b=some o)→R (.ok (.ret .none)) { s with heap:=h',toks:=tk }) →
   codeAny (model prog w) A (.builtin "dict.update.loop" ⟨[.ref d,.ref it,.int i t,.none],[]⟩) R s:=by
 intro n
 induction n with
 | zero =>
  intro i s acc t hn hi hit hl hd hal hks hR
  have e:i=items.size:=by omega
  subst e
  refine codeAny_builtin qY ?_
  rw [Around.under_plainId jb _]
  show wpAny _ A.in1 (pyNext (.ref it) >>= _) _ _ s
  refine wpAny_bind (wpAny_pyNext_list_end (A:=A.in1) hh hit hl (by simp) fun h' he=>?_)
  show wpAny _ A.in1 (Builtin.Dict.addKeywords d [] >>= _) _ _ _
  refine wpAny_bind (wpAny_pure (wpAny_pure ?_))
  have e2:ks.drop items.size=[]:=List.drop_eq_nil_of_le (by omega)
  rw [e2] at hR
  refine hR h' s.toks ?_ fun b o _ hb e=>he b o hb e
  obtain ⟨o,es,ep,ho,r⟩:=hd
  exact ⟨o,es,ep,he d o hdi ho,r⟩
 | succ n ih =>
  intro i s acc t hn hi hit hl hd hal hks hR
  have hlt:i < items.size:=by omega
  have hki:ks[i]? = some ks[i]:=List.getElem?_eq_getElem (by omega)
  obtain ⟨tup,key,hti,htup,hkey,ntd,nti⟩:=hks i ks[i].1 ks[i].2 hki
  refine codeAny_builtin qY ?_
  rw [Around.under_plainId jb _]
  show wpAny _ A.in1 (pyNext (.ref it) >>= _) _ _ s
  refine wpAny_bind (wpAny_pyNext_list_item (A:=A.in1) hit hl hti fun h1 hit1 hs1=>?_)
  have k1:∀ b o,b ≠ it→s.heap.get? b=some o→h1.get? b=some o:=fun b o hb e=>(hs1.2 b hb).trans e
  obtain ⟨ot,hot,hct,nt,hdt⟩:=htup
  have CI:=k1 _ _ nti hot
  have hd1:h1.DictOf knd d acc:=by
   obtain ⟨o,es,ep,ho,r⟩:=hd
   exact ⟨o,es,ep,k1 d o hdi ho,r⟩
  refine wpAny_bind (wpAny_holding (wpAny_bind (wpAny_tryCatch ?_)))
  show wpAny _ A.in1 (Builtin.Dict.pairItems (.ref tup)) _ _ { s with heap:=h1 }
  unfold Builtin.Dict.pairItems
  refine wpAny_bind (wpAny_typeOf (T := "tuple") ⟨_,CI,hct⟩ ?_)
  rw [if_pos (by decide)]
  refine wpAny_bind (wpAny_seqItems CI hdt ?_)
  refine wpAny_pure ?_
  show wpAny _ A.in1 (holding [key,ks[i].2] (dictSet d key ks[i].2)) _ _ { s with heap:=h1 }
  refine wpAny_holding (wpAny_dictSet_pairs (hsz:=Nat.le_trans hal (Nat.le_trans hi (Nat.le_trans hsz (by rw [sizeLine_eq]; decide)))) hkey hd1 fun h2 hd2 hs2=>?_)
  have k2:∀ b o,b ≠ d→b ≠ it→s.heap.get? b=some o→h2.get? b=some o:=fun b o hb hb2 e=>(hs2.2 b hb).trans (k1 b o hb2 e)
  refine wpAny_pure ⟨plainId_quiet jb _,?_⟩
  refine ih (i + 1) { s with heap:=h2,toks:=s.toks + 1 } (stored acc ks[i].1 ks[i].2) 0 (by omega) hlt ?_ ?_ hd2 ?_ ?_ ?_
  ·obtain ⟨o,ho,r⟩:=hit1
   exact ⟨o,(hs2.2 it (Ne.symm hdi)).trans ho,r⟩
  ·obtain ⟨o,ho,r⟩:=hl
   exact ⟨o,k2 l o Sd hli ho,r⟩
  ·unfold stored
   split
   ·rw [List.length_map]; omega
   ·rw [List.length_append]
    show acc.length + 1 ≤ i + 1
    omega
  ·intro j k v hj
   obtain ⟨MR,key',a1,⟨o,a2,a3⟩,a4,a5,a6⟩:=hks j k v hj
   exact ⟨MR,key',a1,⟨o,k2 MR o a5 a6 a2,a3⟩,a4,a5,a6⟩
  ·intro h' tk hd' kp
   have e3:ks.drop i=ks[i] :: ks.drop (i + 1):=List.drop_eq_getElem_cons (by omega)
   refine hR h' tk ?_ fun b o hb hb2 e=>kp b o hb hb2 (k2 b o hb hb2 e)
   rw [e3]
   exact hd'
end
end L2
namespace L2
open PySem PySem.Spec PyProof.Rows
def J7 (X:Cx) (k:Nat) (te:TE) (t:TA):TE:=fun σ H Q=>te σ H fun x H1=>∃ (f:Addr) (fd:FuncData) (ps:List Str) (sp:Sp),x=.ref f∧aM X.prog X.w X.K X.mg X.base bw k f fd ps sp∧Binds X.K fd ps []∧PySem.W.keepIn X.K (.ref f)=true ∧
 t σ H1 fun vs H2=>sp (vs ++ []) H2 Q E0
section
variable {X:Cx} {k:Nat} {e a:Expr} {es:List Expr} {pos:Pos} {te:TE} {t:TA}
theorem CJ (he:PE X e te) (hr:fc k X.A) (ha:PA X (a :: es) t)
  (ht:eval (.Call e (a :: es) [] pos) X.env=(do callWith pos (← eval e X.env) [] (backTo pos (starEach (a :: es) X.env)) (backToKw pos (keywordEach [] X.env))):=by rfl)
  (hst:starEach (a :: es) X.env=(false,eval a X.env) :: starEach es X.env:=by rfl) (hpl:(backTo pos (starEach es X.env)).any (·.1)=false:=by rfl) :
  PE X (.Call e (a :: es) [] pos) (J7 X k te t):=by
 intro pins s σ H Q I h
 rw [ht]
 refine wpAny_bind (cC (he pins s σ H _ I h) fun u s1 ⟨x,H1,I1,rx,f,fd,ps,sp,ex,F,hb,hk,q⟩=>?_)
 subst ex
 obtain rfl:u=Value.ref f:=rx
 refine PySem.W.callWith_K (h₀:=X.base) I1.ok.mod.Mb hk (cC (ha pos pins s1 σ H1 _ I1 q) fun us s2 ⟨vs,H2,I2,r,q2⟩=>⟨I2.lq,?_⟩) hst hpl
 exact vX F hr hb .nil aW I2 r q2
end
def dE (K:PySem.W.Frag) (P:Params) (a:Addr) (x:Str) (r:Option V):Prop :=
 ∃ (es:Array DictEntry) (n:Nat),K.lookup a=some ⟨.type "dict",none,.dict es n,#[]⟩∧PySem.W.KeysLit P es.toList∧(a == sysModules)=false∧∃ q,PySem.W.nsIn K a x=some q∧g9 r q
def MS (K:PySem.W.Frag) (P:Params) (td ty:TE):TE:=fun σ H Q=>td σ H fun x H1=>ty σ H1 fun y H2=>∃ a k v,x=.ref a∧y=.str k∧dE K P a k (some v)∧Q v H2
def Sg (K:PySem.W.Frag) (P:Params) (ty td:TE):TE:=fun σ H Q=>ty σ H fun y H1=>td σ H1 fun x H2=>∃ a k r,x=.ref a∧y=.str k∧dE K P a k r∧Q (.bl r.isSome) H2
section
variable {X:Cx} {o i:Expr} {pos:Pos} {td ty:TE}
theorem jc (ho:PE X o td) (hi:PE X i ty) (hs:JW i):PE X (.Subscript o i pos) (MS X.K X.w.params td ty):=by
 intro pins s σ H Q I h
 refine yx PySem.F.slot_dict_getitem.lookup hs (cC (ho pins s σ H _ I h) fun u s1 ⟨x,H1,I1,rx,q1⟩=>cC (hi pins s1 σ H1 _ I1 q1) fun iv s2 ⟨y,H2,I2,ry,a,k,v,ex,ey,g,q2⟩=>?_)
 subst ex ey
 obtain rfl:u=Value.ref a:=rx
 obtain ⟨t,rfl⟩:=ry
 obtain ⟨es,n,hl,hk,hm,q,hq,rq⟩:=g
 obtain ⟨w',hw,lK⟩:=g9.some_of (v:=v) (o:=q) rq
 subst hw
 have mo:=PySem.W.mapOf_K (prog:=X.prog) (w:=X.w) I2.lq hl hk
 exact ⟨mo.typeIs,wpAny_getItem_of (strKind_is X.prog X.w k t) mo (PySem.W.find_K hl hq) ⟨v,H2,I2.tok _,lK,q2⟩⟩
theorem CK (hi:PE X i ty) (ho:PE X o td):PC X .In i o (Sg X.K X.w.params ty td):=by
 intro pins s σ H Q I h
 refine cC (hi pins s σ H _ I h) fun iv s1 ⟨y,H1,I1,ry,q1⟩=>cC (ho pins s1 σ H1 _ I1 q1) fun u s2 ⟨x,H2,I2,rx,a,k,r,ex,ey,g,q2⟩=>?_
 subst ex ey
 obtain rfl:u=Value.ref a:=rx
 obtain ⟨t,rfl⟩:=ry
 obtain ⟨es,n,hl,hk,hm,q,hq,rq⟩:=g
 have mo:=PySem.W.mapOf_K (prog:=X.prog) (w:=X.w) I2.lq hl hk
 refine wpAny_in_of (strKind_is X.prog X.w k t) hm mo ?_
 rw [PySem.W.find_K hl hq,← rq.hZ]
 exact ⟨.bl r.isSome,H2,I2.tok _,rfl,q2⟩
end
section
variable {X:Cx} {o e f:Expr} {apos cpos:Pos} {td ty tx:TE}
end
theorem Am {K:PySem.W.Frag} {a:Addr} {xs:List V} {g:TG} {tt:TT} {te:TE} {R:Hp→Prop} {D:Addr} {σ0:St} {H0:Hp} (Pv:Nat→St→List V→Hp→Prop) (h0:Pv 0 σ0 [] H0) (hl:∀ i σ ys H,i ≤ xs.length→Pv i σ ys H→aZ K H a xs)
  (hs:∀ i x σ ys H t,xs[i]? = some x→H t=none→Pv i σ ys H→g (.ref t) σ (upd H t (.tup [.int i,x])) fun σ2 H2=>tt σ2 H2 fun b H3 =>
   if b=true then te σ2 H3 fun v H4=>H4 D=some (.lst ys)∧ys.length < sizeLine∧Pv (i + 1) σ2 (ys ++ [v]) (upd H4 D (.lst (ys ++ [v]))) else Pv (i + 1) σ2 ys H3)
  (hd:∀ σ ys H,Pv xs.length σ ys H→R H) :
  ∃ W:Nat→Nat→St→List V→Hp→Prop,(∃ m,W 0 m σ0 [] H0)∧∀ i m σ ys H,W i m σ ys H →
   ((Ite K a).stop i H∧R H)∨((Ite K a).go i H∧∃ N:St→List V→Hp→Prop,(∀ σ' ys' H',N σ' ys' H'→∃ m',m' < m∧W (i + 1) m' σ' ys' H')∧∀ x H',(Ite K a).zT i H x H'→g x σ H' fun σ2 H2=>tt σ2 H2 fun b H3 =>
    if b=true then te σ2 H3 fun v H4=>H4 D=some (.lst ys)∧ys.length < sizeLine∧N σ2 (ys ++ [v]) (upd H4 D (.lst (ys ++ [v]))) else N σ2 ys H3):=by
 refine ⟨fun i m σ ys H=>m=xs.length - i∧i ≤ xs.length∧Pv i σ ys H,⟨xs.length,by simp,Nat.zero_le _,h0⟩,?_⟩
 rintro i m σ ys H ⟨rfl,hi,p⟩
 have q:=hl i σ ys H hi p
 by_cases hlt:i < xs.length
 ·refine .inr ⟨⟨xs,xs[i],q,by simp [hlt]⟩,Pv (i + 1),fun σ' ys' H' p'=>⟨xs.length - (i + 1),by omega,rfl,hlt,p'⟩,fun x H' y=>?_⟩
  obtain ⟨t,y,hn,e1,e2,hy⟩:=y
  subst e1 e2
  exact hs i y σ ys _ t (hy xs q) hn p
 ·have e:i=xs.length:=by omega
  subst e
  exact .inl ⟨⟨xs,q,Nat.le_refl _⟩,hd σ ys H p⟩
theorem Fz {f:Nat→Bool}:∀ (bs:List Bool),(∀ i b,bs[i]? = some b→f i=b)→(List.range bs.length).all f=bs.all id:=by
 intro bs h
 rw [Bool.eq_iff_iff,List.all_eq_true,List.all_eq_true]
 constructor
 ·intro k b hb
  obtain ⟨i,hi,e⟩:=List.getElem_of_mem hb
  have:=k i (List.mem_range.mpr hi)
  rw [h i b (by rw [List.getElem?_eq_getElem hi,e])] at this
  exact this
 ·intro k i hi
  have hi:=List.mem_range.mp hi
  rw [h i bs[i] (List.getElem?_eq_getElem hi)]
  exact k _ (List.getElem_mem hi)
section
variable {X:Cx}
theorem MU {bs:List Bool} {its:List Value} (rv:Vals (bs.map V.bl) its) {i:Nat} {v:Value} (h:its.toArray[i]? = some v):∃ b,bs[i]? = some b∧v=.bool b:=by
 have h:its[i]? = some v:=by simpa using h
 have hl:=rv.length
 rw [List.length_map] at hl
 have hi:i < bs.length:=by
  rw [hl]
  exact (List.getElem?_eq_some_iff.mp h).1
 obtain ⟨u,hu,ru⟩:=rv.get (i:=i) (x:=V.bl bs[i]) (by rw [List.getElem?_map,List.getElem?_eq_getElem hi]; rfl)
 rw [h] at hu
 cases hu
 exact ⟨bs[i],List.getElem?_eq_getElem hi,ru⟩
theorem lQ (hc:X.calm=true):hC X (.builtin "all") (fun xs H Q=>∃ (a:Addr) (bs:List Bool),xs=[.ref a]∧aZ X.K H a (bs.map V.bl)∧Q (.bl (bs.all id)) H):=by
 intro pins s σ H xs us Q I r h
 obtain ⟨a,bs,rfl,hq,q⟩:=h
 obtain ⟨u,rfl,ru⟩:=vals1 r
 cases ru
 obtain ⟨its,rv,p,hz⟩:=I.list hq
 have hl:=p.isList
 have hlt:a < s.heap.objs.size:=by obtain ⟨_,e,_⟩:=hl; exact Heap.lt_size e
 have hlen:=rv.length
 rw [List.length_map] at hlen
 refine call_all_walk (wpAny_pyIter_list hl ?_)
 refine ⟨s.heap.objs.size,[s.heap.objs.size,a],[s.heap.objs.size],its.toArray.size,_,_,fun i=>(bs[i]?).getD true,rfl,Walks.list (A:=X.A.in1) (I.ok.hd hc) _ a (Nat.ne_of_lt hlt) its.toArray,
  ⟨⟨_,Heap.get?_push_size _ rfl,rfl,rfl⟩,hl.push _⟩,fun i v s' Q' E' hP hQ=>?_,fun h' tk hk=>?_⟩
 ·obtain ⟨b,e,rfl⟩:=MU rv hP
  simp only [e,Option.getD_some] at hQ
  exact wpAny_truthy_bool hQ
 ·rw [List.size_toArray,← hlen,Fz bs (fun i b e=>by rw [e]; rfl)]
  exact ⟨.bl _,H,I.kept (t':=tk) (fun b x e=>hk b x (fun hm=>by rw [List.mem_singleton.mp hm] at e; exact Nat.lt_irrefl _ (Heap.lt_size e)) (Heap.get?_push_of_some _ e)),rfl,q⟩
end
section
variable {prog:Program} {w:World} {A:Around} {E:Value→Shared→Prop} {s:Shared}
theorem u9 {it t:Addr} {i:Nat} {els:Array Value} {x:Value} {Q:Value→Shared→Prop} (ti:s.heap.IsTupleIter it t i) (tt:s.heap.IsTuple t els) (gx:els[i]? = some x)
  (k:∀ h',h'.IsTupleIter it t (i + 1)→Heap.SameBut it s.heap h'→Q x { s with heap:=h' }):wpAny (model prog w) A (Builtin.SmallTypes.nextOf (.ref it)) Q E s:=by
 obtain ⟨o,go,gc,gd⟩:=id ti
 obtain ⟨ol,Sh,_,nl,Si⟩:=tt
 unfold Builtin.SmallTypes.nextOf
 refine wpAny_bind (wpAny_callSpecial?_slot (name:=Str.ofString "__next__") ti.typeIs F.slot_tuple_iterator_next (wpAny_call_entry F.slot_tuple_iterator_next ti.typeIs F.entry_tuple_iterator_next ?_ (F.args_tuple_iterator_next_1 _)))
 show wpAny _ _ (field (.ref it) 0 >>= _) _ _ s; refine wpAny_bind (wpAny_field go gd (x:=.ref t) rfl ?_)
 show wpAny _ _ (if (Value.ref t == Value.none)=true then _ else _) _ _ s; rw [if_neg (show ¬ ((Value.ref t == Value.none)=true) from Bool.false_ne_true)]
 show wpAny _ _ (field (.ref it) 1 >>= _) _ _ s; refine wpAny_bind (wpAny_field go gd (x:=.int i 0) rfl ?_)
 show wpAny _ _ (seqItems? (.ref t) >>= _) _ _ s; refine wpAny_bind (wpAny_seqItems Sh Si ?_); simp only [Int.toNat_natCast,gx]
 refine wpAny_bind (wpAny_setField go gd (by simp) (wpAny_pure ⟨x,rfl,wpAny_pure (k _ ?_ (Heap.SameBut.update ..))⟩))
 exact ⟨_,Heap.get?_update_self _ go (Obj.isFreed_of_fields (Obj.data_mapFields gd _)),(Obj.cls_mapFields ..).trans gc,by rw [Obj.data_mapFields gd]; simp [rawInt]⟩
theorem FA {it t:Addr} {i:Nat} {els:Array Value} {Q:Value→Shared→Prop} (hh:A.handled=none) (ti:s.heap.IsTupleIter it t i) (tt:s.heap.IsTuple t els) (gx:els[i]? = none)
  (k:∀ h' e,Heap.ExtBut it s.heap h'→(∃ o,h'.get? e=some o∧o.cls=.type "StopIteration")→E (.ref e) { s with heap:=h' }):wpAny (model prog w) A (Builtin.SmallTypes.nextOf (.ref it)) Q E s:=by
 obtain ⟨o,go,gc,gd⟩:=id ti
 obtain ⟨ol,Sh,_,nl,Si⟩:=tt
 unfold Builtin.SmallTypes.nextOf
 refine wpAny_bind (wpAny_callSpecial?_slot (name:=Str.ofString "__next__") ti.typeIs F.slot_tuple_iterator_next (wpAny_call_entry F.slot_tuple_iterator_next ti.typeIs F.entry_tuple_iterator_next ?_ (F.args_tuple_iterator_next_1 _)))
 show wpAny _ _ (field (.ref it) 0 >>= _) _ _ s; refine wpAny_bind (wpAny_field go gd (x:=.ref t) rfl ?_)
 show wpAny _ _ (if (Value.ref t == Value.none)=true then _ else _) _ _ s; rw [if_neg (show ¬ ((Value.ref t == Value.none)=true) from Bool.false_ne_true)]
 show wpAny _ _ (field (.ref it) 1 >>= _) _ _ s; refine wpAny_bind (wpAny_field go gd (x:=.int i 0) rfl ?_)
 show wpAny _ _ (seqItems? (.ref t) >>= _) _ _ s; refine wpAny_bind (wpAny_seqItems Sh Si ?_); simp only [Int.toNat_natCast,gx]
 refine wpAny_bind (wpAny_rule (wpAny_bind (wpAny_setField go gd (by simp) ?_)))
 show wpAny _ _ (newExc (.type "StopIteration") [] >>= _) _ _ _; refine wpAny_bind ?_; simp only [newExc,newTuple]; refine wpAny_bind (wpAny_newObj_type ?_ (by size_fits))
 refine wpAny_bind (m:=firstArgMember _ _) (wpAny_of_eq (a:=Value.none) (by first | rfl | (simp only [firstArgMember]; rfl)) ?_); refine wpAny_newObj_type ?_ (by size_fits)
 simp only [raiseNew]; refine wpAny_bind (wpAny_handled ?_); (first | rw [show A.in1.handled=none from hh] | rw [hh]); refine wpAny_bind (wpAny_pure (wpAny_throw ?_))
 exact k _ _ (((Heap.SameBut.update ..).extBut.push _).push _) ⟨_,Heap.get?_push_size _ rfl,rfl⟩
theorem Ao {z TI TO i1 i2 l1 l2:Addr} {k:Nat} {xs ys:Array Value} {x y a b:Value} {Q:Option Value→Shared→Prop} (D:ZipApart z TI TO i1 i2 l1 l2)
  (gz:IsZip s.heap z TI TO .none) (gI:IsPair s.heap TI (.ref i1) (.ref i2)) (gO:IsPair s.heap TO a b)
  (t1:s.heap.IsTupleIter i1 l1 k) (t2:s.heap.IsTupleIter i2 l2 k) (m1:s.heap.IsTuple l1 xs) (m2:s.heap.IsTuple l2 ys) (gx:xs[k]? = some x) (gy:ys[k]? = some y)
  (q:∀ h',IsZip h' z TI TO (rawInt s.heap.objs.size)→IsPair h' TO x y→h'.IsTupleIter i1 l1 (k + 1)→h'.IsTupleIter i2 l2 (k + 1)→IsPair h' s.heap.objs.size x y→h'.objs.size=s.heap.objs.size + 1 →
   (∀ c o,c ≠ z→c ≠ TO→c ≠ i1→c ≠ i2→s.heap.get? c=some o→h'.get? c=some o)→Q (some (.ref s.heap.objs.size)) { s with heap:=h' }):wpAny (model prog w) A (pyNext (.ref z)) Q E s:=by
 have hT:s.TypeIs (.ref z) "zip" := ⟨_,gz,rfl⟩
 unfold pyNext
 refine wpAny_bind (wpAny_attempt (wpAny_callSpecial?_slot (name:=Str.ofString "__next__") hT F.slot_zip_next (wpAny_call_entry F.slot_zip_next hT F.entry_zip_next ?_ (F.args_zip_next_1 _))))
 show wpAny _ _ (field (.ref z) 2 >>= _) _ _ _; refine wpAny_bind (wpAny_field gz rfl (x:=.bool false) rfl ?_)
 show wpAny _ _ (field (.ref z) 3 >>= _) _ _ _; refine wpAny_bind (wpAny_field gz rfl (x:=.ref TI) rfl ?_); refine wpAny_bind (wpAny_seqItems gI rfl ?_)
 show wpAny _ _ (Builtin.SmallTypes.ownedTupleIsFree (.ref z) >>= _) _ _ _; refine wpAny_bind ?_; unfold Builtin.SmallTypes.ownedTupleIsFree
 refine wpAny_bind (wpAny_field gz rfl (x:=.none) rfl (wpAny_pure ?_)); simp only [if_true]; refine wpAny_bind (wpAny_rule ?_); refine wpAny_bind (wpAny_field gz rfl (x:=.ref TO) rfl ?_)
 refine wpAny_bind (wpAny_setField_rec gz (by simp) fun g1 z1 e1=>?_); replace z1:IsZip g1 z TI TO .ellipsis:=z1; refine wpAny_bind ?_
 simp only [List.zipIdx_cons,List.zipIdx_nil,List.forIn_cons,List.forIn_nil]; refine wpAny_bind (wpAny_bind (wpAny_onRaise ?_))
 show wpAny _ _ (Builtin.SmallTypes.nextOf (.ref i1) >>= _) _ _ _; refine wpAny_bind (u9 (t1.extBut e1.extBut D.i1z) (m1.extBut e1.extBut D.l1z) gx fun g2 t1' e2=>wpAny_pure ?_)
 have o2:IsPair g2 TO a b:=e2.extBut _ _ D.TOi1 (e1.extBut _ _ D.TOz gO)
 refine wpAny_bind (wpAny_seqItems o2 rfl ?_); refine wpAny_bind (wpAny_updateSeq_pair o2 fun g3 o3 e3=>?_); replace o3:IsPair g3 TO x b:=o3; refine wpAny_bind (wpAny_letGo (wpAny_pure ?_)); refine wpAny_bind (wpAny_bind (wpAny_onRaise ?_))
 show wpAny _ _ (Builtin.SmallTypes.nextOf (.ref i2) >>= _) _ _ _; refine wpAny_bind (u9 (((t2.extBut e1.extBut D.i2z).extBut e2.extBut D.i12.symm).extBut e3.extBut D.TOi2.symm) (((m2.extBut e1.extBut D.l2z).extBut e2.extBut D.l2i1).extBut e3.extBut D.l2TO) gy fun g4 t2' e4=>wpAny_pure ?_)
 have o4:IsPair g4 TO x b:=e4.extBut _ _ D.TOi2 o3
 refine wpAny_bind (wpAny_seqItems o4 rfl ?_); refine wpAny_bind (wpAny_updateSeq_pair o4 fun g5 o5 e5=>?_); replace o5:IsPair g5 TO x y:=o5; refine wpAny_bind (wpAny_letGo (wpAny_pure (wpAny_pure ?_)))
 refine wpAny_bind (wpAny_seqItems o5 rfl ?_); refine wpAny_bind (wpAny_newTuple ?_)
 have sz:g5.objs.size=s.heap.objs.size:=by rw [e5.1,e4.1,e3.1,e2.1,e1.1]
 have z5:IsZip g5 z TI TO .ellipsis:=e5.extBut _ _ D.TOz.symm (e4.extBut _ _ D.i2z.symm (e3.extBut _ _ D.TOz.symm (e2.extBut _ _ D.i1z.symm z1)))
 have kp:∀ c o,c ≠ z→c ≠ TO→c ≠ i1→c ≠ i2→s.heap.get? c=some o→g5.get? c=some o:=fun c o c1 c2 c3 c4 e=>e5.extBut _ _ c2 (e4.extBut _ _ c4 (e3.extBut _ _ c2 (e2.extBut _ _ c3 (e1.extBut _ _ c1 e))))
 have u1:g5.IsTupleIter i1 l1 (k + 1):=((t1'.extBut e3.extBut D.TOi1.symm).extBut e4.extBut D.i12).extBut e5.extBut D.TOi1.symm
 have u2:g5.IsTupleIter i2 l2 (k + 1):=t2'.extBut e5.extBut D.TOi2.symm
 have zl:z < g5.objs.size:=Heap.lt_size z5
 show wpAny _ _ (Builtin.SmallTypes.ownedTupleHandOut (.ref z) (.ref g5.objs.size) >>= _) _ _ _; refine wpAny_bind ?_; unfold Builtin.SmallTypes.ownedTupleHandOut
 have z6:IsZip (g5.push { cls:=.type "tuple",data:=.seq #[x,y] }) z TI TO .ellipsis:=Heap.get?_push_of_some _ z5
 refine wpAny_bind (wpAny_setField_rec z6 (by simp) fun g7 z7 e7=>?_); replace z7:IsZip g7 z TI TO (rawInt g5.objs.size):=z7
 refine wpAny_setField_rec z7 (by simp) fun g8 z8 e8=>?_; replace z8:IsZip g8 z TI TO (rawInt g5.objs.size):=z8
 have up:∀ c o,c ≠ z→g5.get? c=some o→g8.get? c=some o:=fun c o c1 e=>e8.extBut _ _ c1 (e7.extBut _ _ c1 (Heap.get?_push_of_some _ e))
 have n8:IsPair g8 g5.objs.size x y:=e8.extBut _ _ (Nat.ne_of_gt zl) (e7.extBut _ _ (Nat.ne_of_gt zl) (Heap.get?_push_size _ rfl))
 have s8:g8.objs.size=g5.objs.size + 1:=by rw [e8.1,e7.1,Heap.size_push]
 rw [sz] at z8 n8 s8
 refine wpAny_pure ⟨.ref g5.objs.size,rfl,wpAny_pure ?_⟩
 rw [sz]
 exact q g8 z8 (up _ _ D.TOz o5) (u1.at fun o e=>up _ o D.i1z e) (u2.at fun o e=>up _ o D.i2z e) n8 s8 fun c o c1 c2 c3 c4 e=>up c o c1 (kp c o c1 c2 c3 c4 e)
theorem CL {z TI TO i1 i2 l1 l2:Addr} {k:Nat} {xs:Array Value} {Q:Option Value→Shared→Prop} (hh:A.handled=none) (D:ZipApart z TI TO i1 i2 l1 l2)
  (gz:IsZip s.heap z TI TO .none) (gI:IsPair s.heap TI (.ref i1) (.ref i2)) (t1:s.heap.IsTupleIter i1 l1 k) (m1:s.heap.IsTuple l1 xs) (gx:xs[k]? = none)
  (q:∀ h',(∀ c o,c ≠ z→c ≠ TO→c ≠ i1→c ≠ i2→s.heap.get? c=some o→h'.get? c=some o)→Q none { s with heap:=h' }):wpAny (model prog w) A (pyNext (.ref z)) Q E s:=by
 have hT:s.TypeIs (.ref z) "zip" := ⟨_,gz,rfl⟩
 unfold pyNext
 refine wpAny_bind (wpAny_attempt (wpAny_callSpecial?_slot (name:=Str.ofString "__next__") hT F.slot_zip_next (wpAny_call_entry F.slot_zip_next hT F.entry_zip_next ?_ (F.args_zip_next_1 _))))
 show wpAny _ _ (field (.ref z) 2 >>= _) _ _ _; refine wpAny_bind (wpAny_field gz rfl (x:=.bool false) rfl ?_)
 show wpAny _ _ (field (.ref z) 3 >>= _) _ _ _; refine wpAny_bind (wpAny_field gz rfl (x:=.ref TI) rfl ?_); refine wpAny_bind (wpAny_seqItems gI rfl ?_)
 show wpAny _ _ (Builtin.SmallTypes.ownedTupleIsFree (.ref z) >>= _) _ _ _; refine wpAny_bind ?_; unfold Builtin.SmallTypes.ownedTupleIsFree
 refine wpAny_bind (wpAny_field gz rfl (x:=.none) rfl (wpAny_pure ?_)); simp only [if_true]; refine wpAny_bind (wpAny_rule ?_); refine wpAny_bind (wpAny_field gz rfl (x:=.ref TO) rfl ?_)
 refine wpAny_bind (wpAny_setField_rec gz (by simp) fun g1 z1 e1=>?_); replace z1:IsZip g1 z TI TO .ellipsis:=z1; refine wpAny_bind ?_
 simp only [List.zipIdx_cons,List.zipIdx_nil,List.forIn_cons,List.forIn_nil]; refine wpAny_bind (wpAny_bind (wpAny_onRaise ?_))
 show wpAny _ _ (Builtin.SmallTypes.nextOf (.ref i1) >>= _) _ _ _; refine wpAny_bind (FA hh (t1.extBut e1.extBut D.i1z) (m1.extBut e1.extBut D.l1z) gx fun g2 e e2 he=>?_)
 obtain ⟨oe,hoe,hce⟩:=he
 have z2:IsZip g2 z TI TO .ellipsis:=e2 _ _ D.i1z.symm z1
 have ne:e ≠ z:=fun x=>by subst x; rw [z2] at hoe; cases hoe; simp at hce
 refine wpAny_setField_rec z2 (by simp) fun g3 _ e3=>?_
 refine wpAny_bind (wpAny_isInstance (T := "StopIteration") (b:=true) ⟨oe,e3.extBut _ _ ne hoe,hce⟩ isSubtype_stop ?_)
 exact wpAny_pure (q g3 fun c o c1 _ c3 _ x=>e3.extBut _ _ c1 (e2 _ _ c3 (e1.extBut _ _ c1 x)))
end
abbrev QX (h:Heap) (a:Addr):Heap:=h.push { cls:=.type "tuple_iterator",data:=.fields #[.ref a,.int 0 0] }
abbrev QY (h:Heap) (a b:Addr):Heap:=(QX h a).push { cls:=.type "tuple_iterator",data:=.fields #[.ref b,.int 0 0] }
abbrev QZ (h:Heap) (a b:Addr):Heap:=(QY h a b).push { cls:=.type "tuple",data:=.seq #[.ref h.objs.size,.ref (QX h a).objs.size] }
abbrev Q0 (h:Heap) (a b:Addr):Heap:=(QZ h a b).push { cls:=.type "tuple",data:=.seq #[.none,.none] }
abbrev LX (h:Heap) (a b:Addr):Heap:=(Q0 h a b).push { cls:=.type "zip",data:=.fields #[.none,.bool false,.bool false,.ref (QY h a b).objs.size,.ref (QZ h a b).objs.size] }
theorem mzT (a b:Addr) (xs ys:Array Value):Meets (Builtin.«zip.__new__» ⟨[.type "zip",.ref a,.ref b],[]⟩) (fun _ R s=>s.heap.IsTuple a xs∧s.heap.IsTuple b ys∧R (.ok (.ret (.ref (Q0 s.heap a b).objs.size))) { s with heap:=LX s.heap a b }) :=
 .of_wp fun prog w A R s h=>by
  obtain ⟨hp,g,d,tk,os⟩:=s; obtain ⟨m1,m2,h⟩:=h
  have hsub:=sub_zip
  have n1:Heap.IsTuple (Shared.heap ⟨hp,g,d,tk,os⟩) a xs:=m1
  have n2:Heap.IsTuple (Shared.heap ⟨hp.push { cls:=.type "tuple_iterator",data:=.fields #[.ref a,.int 0 0] },g,d,tk,os⟩) b ys:=Heap.IsTuple.push m2 _
  wp_walk using wpAny_pyIter_tuple n1,wpAny_pyIter_tuple n2
  exact ⟨_,rfl,h⟩
section
variable {prog:Program} {w:World} {A:Around} {E:Value→Shared→Prop} {s:Shared}
theorem Ap {a b:Addr} {xs ys:Array Value} {Q:Value→Shared→Prop} (m1:s.heap.IsTuple a xs) (m2:s.heap.IsTuple b ys)
  (h:∀ h',IsZip h' (s.heap.objs.size + 4) (s.heap.objs.size + 2) (s.heap.objs.size + 3) .none→IsPair h' (s.heap.objs.size + 2) (.ref s.heap.objs.size) (.ref (s.heap.objs.size + 1)) →
   IsPair h' (s.heap.objs.size + 3) .none .none→h'.IsTupleIter s.heap.objs.size a 0→h'.IsTupleIter (s.heap.objs.size + 1) b 0→(∀ c o,s.heap.get? c=some o→h'.get? c=some o)→Q (.ref (s.heap.objs.size + 4)) { s with heap:=h' }) :
  wpAny (model prog w) A (call (.type "zip") [.ref a,.ref b]) Q E s:=by
 refine callType_new F.called_zip (by decide) (F.typeCall_zip_2 _ _) (F.newCall_zip_2 _ _) (fun obj=>F.args_object_init_3 obj _ _) F.entry_zip_new (mzT a b xs ys) ⟨m1,m2,?_⟩
 have z1:(QX s.heap a).objs.size=s.heap.objs.size + 1:=Heap.size_push ..
 have z2:(QY s.heap a b).objs.size=s.heap.objs.size + 2:=by rw [Heap.size_push,z1]
 have z3:(QZ s.heap a b).objs.size=s.heap.objs.size + 3:=by rw [Heap.size_push,z2]
 have z4:(Q0 s.heap a b).objs.size=s.heap.objs.size + 4:=by rw [Heap.size_push,z3]
 have g5:(LX s.heap a b).get? (Q0 s.heap a b).objs.size=some _:=Heap.get?_push_size _ rfl
 have g4:(LX s.heap a b).get? (QZ s.heap a b).objs.size=some _:=Heap.get?_push_of_some _ (Heap.get?_push_size _ rfl)
 have g3:(LX s.heap a b).get? (QY s.heap a b).objs.size=some _:=Heap.get?_push_of_some _ (Heap.get?_push_of_some _ (Heap.get?_push_size _ rfl))
 have g2:(LX s.heap a b).get? (QX s.heap a).objs.size=some _:=Heap.get?_push_of_some _ (Heap.get?_push_of_some _ (Heap.get?_push_of_some _ (Heap.get?_push_size _ rfl)))
 have g1:(LX s.heap a b).get? s.heap.objs.size=some _:=Heap.get?_push_of_some _ (Heap.get?_push_of_some _ (Heap.get?_push_of_some _ (Heap.get?_push_of_some _ (Heap.get?_push_size _ rfl))))
 show _∧_
 rw [z2,z3,z4] at g5
 rw [z1,z2] at g3
 rw [z3] at g4
 rw [z1] at g2
 rw [z4]
 refine ⟨⟨_,g5,rfl⟩,h _ g5 g3 g4 ⟨_,g1,rfl,rfl⟩ ⟨_,g2,rfl,rfl⟩ fun c o x=>?_⟩
 exact Heap.get?_push_of_some _ (Heap.get?_push_of_some _ (Heap.get?_push_of_some _ (Heap.get?_push_of_some _ (Heap.get?_push_of_some _ x))))
end
def MV (K:PySem.W.Frag) (a b:Addr):It :=
 ⟨fun i H=>∃ xs x ys y,bp K H a xs∧xs[i]? = some x∧bp K H b ys∧ys[i]? = some y,
   fun i H v H'=>∃ t x y,H t=none∧v=.ref t∧H'=upd H t (.tup [x,y])∧(∀ xs,bp K H a xs→xs[i]? = some x)∧∀ ys,bp K H b ys→ys[i]? = some y,
   fun i H=>∃ xs,bp K H a xs∧xs.length ≤ i⟩
theorem CM {P:Program} {w:World} {K:PySem.W.Frag} {elts:List Expr} {x1} {pos:Pos} (a b z TI TO i1 i2:Addr) (D:ZipApart z TI TO i1 i2 a b) :
  Turn P w K (.Tuple elts x1 pos) (MV K a b) [z,TI,TO,i1,i2] z (fun i h=>IsZip h z TI TO .none∧IsPair h TI (.ref i1) (.ref i2)∧(∃ u v,IsPair h TO u v)∧h.IsTupleIter i1 a i∧h.IsTupleIter i2 b i) where
 mem:=by simp
 obj:=fun i h st c hc=>by
  obtain ⟨s1,s2,⟨u,v,s3⟩,⟨o4,s4,_,d4⟩,⟨o5,s5,_,d5⟩⟩:=st
  have hc':c=z∨c=TI∨c=TO∨c=i1∨c=i2:=by simpa using hc
  rcases hc' with rfl | rfl | rfl | rfl | rfl
  ·exact ⟨_,s1,fun v q=>by have q':Data.fields _=Data.cell v:=q; cases q'⟩
  ·exact ⟨_,s2,fun v q=>by have q':Data.seq _ _=Data.cell v:=q; cases q'⟩
  ·exact ⟨_,s3,fun v q=>by have q':Data.seq _ _=Data.cell v:=q; cases q'⟩
  ·exact ⟨o4,s4,fun v q=>by rw [d4] at q; cases q⟩
  ·exact ⟨o5,s5,fun v q=>by rw [d5] at q; cases q⟩
 keep:=fun i h h' st k=>⟨k z (by simp) _ st.1,k TI (by simp) _ st.2.1,st.2.2.1.elim fun u q=>q.elim fun v q=>⟨u,v,k TO (by simp) _ q⟩,st.2.2.2.1.at fun o e=>k i1 (by simp) o e,st.2.2.2.2.at fun o e=>k i2 (by simp) o e⟩
 item:=by
  intro X hP hw hK hc i pins s σ H E I hf st hg
  subst hP hw hK
  obtain ⟨xs,x,ys,y,hq,hx,hq2,hy⟩:=hg
  obtain ⟨s1,s2,⟨u,v,s3⟩,s4,s5⟩:=st
  obtain ⟨its,rv,p,hz⟩:=I.tuple hq
  obtain ⟨its2,rv2,p2,hz2⟩:=I.tuple hq2
  obtain ⟨ux,hux,rux⟩:=rv.get hx
  obtain ⟨uy,huy,ruy⟩:=rv2.get hy
  refine Ao D s1 s2 s3 s4 s5 (show s.heap.IsTuple a its.toArray from p) (show s.heap.IsTuple b its2.toArray from p2) (x:=ux) (y:=uy) (by simpa using hux) (by simpa using huy) fun h1 a1 a2 a3 a4 a5 a6 k1=>?_
  refine ⟨_,rfl,wpAny_letOwnedTupleGo_zip a1 fun h2 b1 b2=>?_⟩
  have nz:s.heap.objs.size ≠ z:=Nat.ne_of_gt (Heap.lt_size s1)
  have MO:=(b2.2 s.heap.objs.size nz).trans a5
  have hk:∀ c o,c ∉ [z,TO,i1,i2]→s.heap.get? c=some o→h2.get? c=some o:=fun c o hb e'=>by
   have hb':c ≠ z∧c ≠ TO∧c ≠ i1∧c ≠ i2:=by simpa using hb
   exact (b2.2 c hb'.1).trans (k1 c o hb'.1 hb'.2.1 hb'.2.2.1 hb'.2.2.2 e')
  have hfr:H s.heap.objs.size=none:=I.hok.fresh (Nat.le_refl _)
  refine ⟨.ref s.heap.objs.size,upd H s.heap.objs.size (.tup [x,y]),I.qW (t':=s.toks) hk (fun c hc=>hf c (by simp at hc ⊢; rcases hc with q | q | q | q <;> simp [q])) (Nat.le_refl _) ?_,rfl,
   ⟨_,x,y,hfr,rfl,rfl,fun zs hy'=>by rw [I.ja hy' hq]; exact hx,fun zs hy'=>by rw [I.ja hy' hq2]; exact hy⟩,⟨b1,?_,⟨ux,uy,?_⟩,a3.at fun o e=>(b2.2 i1 D.i1z).trans e,a4.at fun o e=>(b2.2 i2 D.i2z).trans e⟩,fun c hc=>?_⟩
  ·exact ⟨by show 2 ≤ sizeLine; decide,[ux,uy],.cons rux (.cons ruy .nil),⟨_,MO,rfl,_,rfl⟩⟩
  ·exact hk TI _ (by simp [D.TIz,D.TITO,D.TIi1,D.TIi2]) s2
  ·exact (b2.2 TO D.TOz).trans a2
  ·have:c ≠ s.heap.objs.size:=by
    have hc':c=z∨c=TI∨c=TO∨c=i1∨c=i2:=by simpa using hc
    rcases hc' with rfl | rfl | rfl | rfl | rfl
    ·exact Ne.symm nz
    ·exact Nat.ne_of_lt (Heap.lt_size s2)
    ·exact Nat.ne_of_lt (Heap.lt_size s3)
    ·obtain ⟨o,e1,_⟩:=s4; exact Nat.ne_of_lt (Heap.lt_size e1)
    ·obtain ⟨o,e1,_⟩:=s5; exact Nat.ne_of_lt (Heap.lt_size e1)
   rw [aK this]
   exact (hf c hc).1
 done:=by
  intro X hP hw hK hc i pins s σ H E I hf st hg
  subst hP hw hK
  obtain ⟨xs,hq,hx⟩:=hg
  obtain ⟨s1,s2,s3,s4,s5⟩:=st
  obtain ⟨its,rv,p,hz⟩:=I.tuple hq
  have hl:=rv.length
  exact CL (I.ok.hd hc) D s1 s2 s4 (show s.heap.IsTuple a its.toArray from p) (by simp; omega) fun h' eb=>⟨rfl,I.Fw (t':=s.toks) (its:=[z,TO,i1,i2]) (fun c o hb e=>by
   have hb':c ≠ z∧c ≠ TO∧c ≠ i1∧c ≠ i2:=by simpa using hb
   exact eb c o hb'.1 hb'.2.1 hb'.2.2.1 hb'.2.2.2 e) (fun c hc=>hf c (by simp at hc ⊢; rcases hc with q | q | q | q <;> simp [q]))⟩
 self:=fun _ _ _ _ _ st h=>wpAny_pyIter_zip st.1 h
section
variable {X:Cx}
def Sl (K:PySem.W.Frag) (ta:TA):TI:=fun σ H R=>ta σ H fun vs H1=>∃ a b,vs=[.ref a,.ref b]∧(∃ xs,bp K H1 a xs)∧(∃ ys,bp K H1 b ys)∧R (MV K a b) H1
theorem J8:bootBuiltins "zip" = some (.type "zip"):=by decide +kernel
theorem J9 {a b:Expr} {ta:TA} {p pos:Pos} {elts:List Expr} {x1} {tpos:Pos} (hg:Gl X "zip") (hm:X.mg "zip" = none) (ha:PA X [a,b] ta)
  (hs:starEach [a,b] X.env=[(false,eval a X.env),(false,eval b X.env)]:=by rfl) (hs2:starEach [b] X.env=[(false,eval b X.env)]:=by rfl):PI X (.Tuple elts x1 tpos) (.Call (.Name "zip" p) [a,b] [] pos) (Sl X.K ta):=by
 intro pins s σ H R I h
 refine Call_ (jP I hg hm J8 (PyProof.Rows.callWith_type1 (cC (ha pos pins s σ H _ I h) fun us s1 ⟨vs,H1,I1,r1,q1⟩=>?_) (by rw [hs,hs2]) (by rw [hs2]; rfl)))
 obtain ⟨a,b,e,⟨xs,hq⟩,⟨ys,hq2⟩,q⟩:=q1
 subst e
 obtain ⟨u,v,rfl,ru,rv⟩:=vals2 r1
 cases ru
 cases rv
 obtain ⟨its,rv,p,hz⟩:=I1.tuple hq
 obtain ⟨its2,rv2,p2,hz2⟩:=I1.tuple hq2
 have la:a < s1.heap.objs.size:=by obtain ⟨o,e,_⟩:=p; exact Heap.lt_size e
 have lb:b < s1.heap.objs.size:=by obtain ⟨o,e,_⟩:=p2; exact Heap.lt_size e
 refine Ap (show s1.heap.IsTuple a its.toArray from p) (show s1.heap.IsTuple b its2.toArray from p2) fun h' g1 g2 g3 g4 g5 hk=>?_
 refine wpAny_pyIter_zip g1 ?_
 have D:ZipApart (s1.heap.objs.size + 4) (s1.heap.objs.size + 2) (s1.heap.objs.size + 3) s1.heap.objs.size (s1.heap.objs.size + 1) a b:=PySem.W.ktu_apart _ _ _ la lb
 refine ⟨s1.heap.objs.size + 4,[s1.heap.objs.size + 4,s1.heap.objs.size + 2,s1.heap.objs.size + 3,s1.heap.objs.size,s1.heap.objs.size + 1],_,_,H1,rfl,I1.kept (t':=s1.toks) hk,CM a b _ _ _ _ _ D,⟨g1,g2,⟨_,_,g3⟩,g4,g5⟩,fun c hc=>?_,q⟩
 have hc':s1.heap.objs.size ≤ c:=by
  have hc':c=s1.heap.objs.size + 4∨c=s1.heap.objs.size + 2∨c=s1.heap.objs.size + 3∨c=s1.heap.objs.size∨c=s1.heap.objs.size + 1:=by simpa using hc
  rcases hc' with q | q | q | q | q <;> rw [q]
  ·exact Nat.le_add_right _ _
  ·exact Nat.le_add_right _ _
  ·exact Nat.le_add_right _ _
  ·exact Nat.le_refl _
  ·exact Nat.le_add_right _ _
 exact I1.zU hc' (I1.hok.fresh hc')
end
theorem CN {K:PySem.W.Frag} {a:Addr} {xs:List V} {g:TG} {tt:TT} {te:TE} {R:Hp→Prop} {D:Addr} {σ0:St} {H0:Hp} (Pv:Nat→St→List V→Hp→Prop) (h0:Pv 0 σ0 [] H0) (hl:∀ i σ ys H,i ≤ xs.length→Pv i σ ys H→bp K H a xs)
  (hs:∀ i x σ ys H,xs[i]? = some x→Pv i σ ys H→g x σ H fun σ2 H2=>tt σ2 H2 fun b H3 =>
   if b=true then te σ2 H3 fun v H4=>H4 D=some (.lst ys)∧ys.length < sizeLine∧Pv (i + 1) σ2 (ys ++ [v]) (upd H4 D (.lst (ys ++ [v]))) else Pv (i + 1) σ2 ys H3)
  (hd:∀ σ ys H,Pv xs.length σ ys H→R H) :
  ∃ W:Nat→Nat→St→List V→Hp→Prop,(∃ m,W 0 m σ0 [] H0)∧∀ i m σ ys H,W i m σ ys H →
   ((Mp K a).stop i H∧R H)∨((Mp K a).go i H∧∃ N:St→List V→Hp→Prop,(∀ σ' ys' H',N σ' ys' H'→∃ m',m' < m∧W (i + 1) m' σ' ys' H')∧∀ x H',(Mp K a).zT i H x H'→g x σ H' fun σ2 H2=>tt σ2 H2 fun b H3 =>
    if b=true then te σ2 H3 fun v H4=>H4 D=some (.lst ys)∧ys.length < sizeLine∧N σ2 (ys ++ [v]) (upd H4 D (.lst (ys ++ [v]))) else N σ2 ys H3):=by
 refine ⟨fun i m σ ys H=>m=xs.length - i∧i ≤ xs.length∧Pv i σ ys H,⟨xs.length,by simp,Nat.zero_le _,h0⟩,?_⟩
 rintro i m σ ys H ⟨rfl,hi,p⟩
 have q:=hl i σ ys H hi p
 by_cases hlt:i < xs.length
 ·refine .inr ⟨⟨xs,xs[i],q,by simp [hlt]⟩,Pv (i + 1),fun σ' ys' H' p'=>⟨xs.length - (i + 1),by omega,rfl,hlt,p'⟩,fun x H' y=>?_⟩
  obtain ⟨e,y⟩:=y
  subst e
  exact hs i x σ ys _ (y xs q) p
 ·have e:i=xs.length:=by omega
  subst e
  exact .inl ⟨⟨xs,q,Nat.le_refl _⟩,hd σ ys H p⟩
theorem CO {K:PySem.W.Frag} {a b:Addr} {xs zs:List V} {g:TG} {tt:TT} {te:TE} {R:Hp→Prop} {D:Addr} {σ0:St} {H0:Hp} (hlen:xs.length=zs.length) (Pv:Nat→St→List V→Hp→Prop) (h0:Pv 0 σ0 [] H0)
  (hl:∀ i σ ys H,i ≤ xs.length→Pv i σ ys H→bp K H a xs∧bp K H b zs)
  (hs:∀ i x z σ ys H t,xs[i]? = some x→zs[i]? = some z→H t=none→Pv i σ ys H→g (.ref t) σ (upd H t (.tup [x,z])) fun σ2 H2=>tt σ2 H2 fun c H3 =>
   if c=true then te σ2 H3 fun v H4=>H4 D=some (.lst ys)∧ys.length < sizeLine∧Pv (i + 1) σ2 (ys ++ [v]) (upd H4 D (.lst (ys ++ [v]))) else Pv (i + 1) σ2 ys H3)
  (hd:∀ σ ys H,Pv xs.length σ ys H→R H) :
  ∃ W:Nat→Nat→St→List V→Hp→Prop,(∃ m,W 0 m σ0 [] H0)∧∀ i m σ ys H,W i m σ ys H →
   ((MV K a b).stop i H∧R H)∨((MV K a b).go i H∧∃ N:St→List V→Hp→Prop,(∀ σ' ys' H',N σ' ys' H'→∃ m',m' < m∧W (i + 1) m' σ' ys' H')∧∀ x H',(MV K a b).zT i H x H'→g x σ H' fun σ2 H2=>tt σ2 H2 fun c H3 =>
    if c=true then te σ2 H3 fun v H4=>H4 D=some (.lst ys)∧ys.length < sizeLine∧N σ2 (ys ++ [v]) (upd H4 D (.lst (ys ++ [v]))) else N σ2 ys H3):=by
 refine ⟨fun i m σ ys H=>m=xs.length - i∧i ≤ xs.length∧Pv i σ ys H,⟨xs.length,by simp,Nat.zero_le _,h0⟩,?_⟩
 rintro i m σ ys H ⟨rfl,hi,p⟩
 obtain ⟨q,q2⟩:=hl i σ ys H hi p
 by_cases hlt:i < xs.length
 ·refine .inr ⟨⟨xs,xs[i],zs,zs[i]'(by omega),q,List.getElem?_eq_getElem hlt,q2,List.getElem?_eq_getElem _⟩,Pv (i + 1),fun σ' ys' H' p'=>⟨xs.length - (i + 1),by omega,rfl,hlt,p'⟩,fun v H' y=>?_⟩
  obtain ⟨t,x,z,hn,e1,e2,y1,y2⟩:=y
  subst e1 e2
  exact hs i x z σ ys _ t (y1 xs q) (y2 zs q2) hn p
 ·have e:i=xs.length:=by omega
  subst e
  exact .inl ⟨⟨xs,q,Nat.le_refl _⟩,hd σ ys H p⟩
end L2
namespace L2
open PySem PySem.W PySem.Spec PySem.Calls PyProof.Rows
section
variable {P:Program} {w:World} {K:PySem.W.Frag} {mg:Str→Option Value} {base:Heap} {N:List Str} {qual:Str} {scope:Scope} {f:Addr} {cd:Value} {A:Around} {outer:List Env} {s₀:Shared} {H₀:Hp} {E:XK}
end
section
variable {X:Cx} {pins:List (Addr × Obj)} {σ:St}
end
section
variable {X:Cx} {pins:List (Addr × Obj)} {σ:St} {H:Hp} {s:Shared}
end
section
variable {X:Cx} {k:Nat} {f C cR:Addr} {fd:FuncData} {ps:List Str} {sp:Sp} {qo:List V} {ds:List Value} {x m n:Str} {np pos apos p2 p3 p4:Pos} {o:Expr} {ta:TE} {ts:TS} {i:Nat} {b₀:Stmt} {suite:List Stmt} {L:Addr}
end
end L2
namespace L2
open PySem PySem.W PySem.Spec PySem.Calls PyProof.Rows PySem.Builtin PySem.Builtin.ObjectAttr PySem.Builtin.Getset_descriptor
section
variable {prog:Program} {w:World} {A:Around} {E:Value→Shared→Prop} {s:Shared} {K:PySem.W.Frag} {x C:Addr}
end
end L2
namespace L2
open PySem PySem.W PySem.Spec PySem.Calls PyProof.Rows
section
variable {X:Cx} {C:Addr} {Bn:String}
end
section
variable {M:Model} {A:Around} {XE:Value→Shared→Prop} {s:Shared} {B:Heap} {env:Env} {outer l:List Env} {L e:Addr} {cls a0 fl:Value} {od:Option Addr} {Q:Unit→Shared→Prop}
end
section
variable {K:PySem.W.Frag} {C R fI:Addr} {h:Heap}
variable {prog:Program} {w:World} {A:Around} {XE:Value→Shared→Prop} {s:Shared}
end
section
variable {X:Cx} {C R fI:Addr} {x:Str} {e v2:Expr} {es:List Expr} {t:TA} {te:TE} {np apos pos p1 p2 p3:Pos} {cc:Str} {j:Nat}
end
section
variable {X:Cx} {C R f:Addr} {fd:FuncData} {k:Nat}
end
section
variable {P:Program} {w:World} {K:PySem.W.Frag} {mg:Str→Option Value} {base:Heap} {N:List Str} {qual:Str} {scope:Scope} {f:Addr} {cd:Value} {A:Around} {outer:List Env} {s₀:Shared} {H₀:Hp} {E:XK}
end
section
variable {X:Cx} {pins:List (Addr × Obj)} {σ:St} {H:Hp} {s:Shared}
end
section
variable {X:Cx} {pins:List (Addr × Obj)} {σ:St}
end
section
variable {X:Cx} {k:Nat} {f cR:Addr} {fd:FuncData} {ps:List Str} {sp:Sp} {qo:List V} {ds:List Value} {x g n:Str} {np gp pos p2 p3 p4:Pos} {a:Expr} {as:List Expr} {t:TA} {ts:TS} {i:Nat} {b₀:Stmt} {suite:List Stmt} {L:Addr}
end
section
variable {X:Cx} {C R fI:Addr} {Bn:String}
end
end L2
namespace L2
open PySem PySem.Spec PyProof.Rows
def MW (t u:TS):TS:=fun D σ H=>∃ J:St→Hp→Prop,t { D with nx:=J } σ H∧∀ σ' H',J σ' H'→u D σ' H'
theorem nu {X:Cx} {st:Stmt} {rest:List Stmt} {t u:TS} (h1:PS X st t) (h2:rN X rest u):rN X (st :: rest) (MW t u):=by
 intro pins s σ H D I h
 obtain ⟨J,h,hJ⟩:=h
 refine wpAny_execs_cons (cC (h1 pins s σ H { D with nx:=J } I h) fun f s1 q=>?_)
 cases f with
 | next =>
  obtain ⟨σ',H',I',q⟩:=q
  exact h2 pins s1 σ' H' D I' (hJ _ _ q)
 | ret v=>exact q
 | brk=>exact q
 | cont=>exact q
def Sn (t:TE):TE:=fun σ H Q=>∃ J:VK,t σ H J∧∀ v H',J v H'→Q v H'
theorem Ka {X:Cx} {e:Expr} {t:TE} (h:PE X e t):PE X e (Sn t):=by
 intro pins s σ H Q I q
 obtain ⟨J,q,hJ⟩:=q
 exact cC (h pins s σ H J I q) fun v s1 ⟨x,H1,I1,r,q1⟩=>⟨x,H1,I1,r,hJ _ _ q1⟩
section
variable {X:Cx}
end
section
variable {σ:St}
end
structure LY (X:Cx) (st:Stmt) (t:TS):Prop where
 ps:PS X st t
structure sq (X:Cx) (b:List Stmt) (t:TS):Prop where
 ps:rN X b t
section
variable {X:Cx}
theorem aA {st:Stmt} {t:TS} (h:PS X st t):LY X st t:=⟨h⟩
theorem dk {c:Expr} {a b:List Stmt} {tc:TT} {t u:TS} {pos:Pos} (hc:PT X c tc) (ha:sq X a t) (hb:sq X b u):LY X (.If c a b pos) (Mj tc t u):=⟨dv hc ha.ps hb.ps⟩
theorem bX {t:TS} (h:rN X [] t):sq X [] t:=⟨h⟩
theorem au {st:Stmt} {b:List Stmt} {t u:TS} (h:LY X st t) (k:sq X b u):sq X (st :: b) (Jy t u):=⟨aH h.ps k.ps⟩
theorem CP {st:Stmt} {b:List Stmt} {t u:TS} (h:LY X st t) (k:sq X b u):sq X (st :: b) (MW t u):=⟨nu h.ps k.ps⟩
theorem aO {st:Stmt} {t:TS} (h:LY X st t):sq X [st] t:=⟨az h.ps⟩
theorem dA {b:List Stmt} {t:TS} {R:TS→Prop} (h:sq X b t) (hr:R t):∃ t,rN X b t∧R t:=⟨t,h.ps,hr⟩
end
section
variable {X:Cx}
end
section
variable {X:Cx}
end
section
variable {X:Cx}
end
inductive Da where
 | non | bl (b:Bool) | int (i:Int) | str (s:Str) | tup (l:List Da) | lst (l:List Da)
mutual
def Da.beq:Da→Da→Bool
 | .non,.non=>true
 | .bl a,.bl b=>a == b
 | .int a,.int b=>decide (a=b)
 | .str a,.str b=>decide (a=b)
 | .tup a,.tup b=>Da.wG a b
 | .lst a,.lst b=>Da.wG a b
 | _,_=>false
def Da.wG:List Da→List Da→Bool
 | [],[]=>true
 | a :: r,b :: t=>Da.beq a b && Da.wG r t
 | _,_=>false
end
mutual
theorem Da.beq_iff:∀ a b:Da,Da.beq a b=true↔a=b
 | .non,b=>by cases b <;> simp [Da.beq]
 | .bl x,b=>by cases b <;> simp [Da.beq]
 | .int x,b=>by cases b <;> simp [Da.beq]
 | .str x,b=>by cases b <;> simp [Da.beq]
 | .tup x,b=>by
  cases b <;> simp [Da.beq]
  exact Da.oO _ _
 | .lst x,b=>by
  cases b <;> simp [Da.beq]
  exact Da.oO _ _
theorem Da.oO:∀ a b:List Da,Da.wG a b=true↔a=b
 | [],b=>by cases b <;> simp [Da.wG]
 | x :: r,[]=>by simp [Da.wG]
 | x :: r,y :: t=>by
  simp [Da.wG]
  rw [Da.beq_iff x y,Da.oO r t]
end
instance:DecidableEq Da:=fun a b=>decidable_of_iff _ (Da.beq_iff a b)
inductive gK (K:PySem.W.Frag) (H:Hp):V→Da→Prop
 | non:gK K H .non .non
 | bl (b:Bool):gK K H (.bl b) (.bl b)
 | int (i:Int):gK K H (.int i) (.int i)
 | str (x:Str):gK K H (.str x) (.str x)
 | tup {p:Addr} {xs:List V} {ds:List Da}:bp K H p xs→xs.length=ds.length→(∀ (i:Nat) x d,xs[i]? = some x→ds[i]? = some d→gK K H x d)→gK K H (.ref p) (.tup ds)
 | lst {p:Addr} {xs:List V} {ds:List Da}:aZ K H p xs→xs.length=ds.length→(∀ (i:Nat) x d,xs[i]? = some x→ds[i]? = some d→gK K H x d)→gK K H (.ref p) (.lst ds)
inductive Da.Nb:Nat→Da→Prop
 | non {n}:Da.Nb n .non
 | int {n i}:Da.Nb n (.int i)
 | str {n i}:Da.Nb n (.str i)
 | tup {n l}:(∀ d ∈ l,Da.Nb n d)→Da.Nb (n + 1) (.tup l)
 | lst {n l}:(∀ d ∈ l,Da.Nb n d)→Da.Nb (n + 1) (.lst l)
theorem oP:∀ (a b:List Da),a.length=b.length→((List.range a.length).all fun i=>decide (a[i]? = b[i]?))=decide (a=b):=fun a b h=>by
 by_cases e:a=b
 ·subst e
  simp
 ·rw [decide_eq_false e]
  rw [Bool.eq_false_iff]
  intro z
  apply e
  apply List.ext_getElem?
  intro i
  by_cases hi:i < a.length
  ·have:=(List.all_eq_true.mp z) i (List.mem_range.mpr hi)
   exact of_decide_eq_true this
  ·rw [List.getElem?_eq_none (by omega),List.getElem?_eq_none (by omega)]
section
variable {X:Cx} {pins:List (Addr × Obj)} {σ:St} {H:Hp} {s:Shared}
theorem CQ {its:List Value} {xs:List V} (r:Vals xs its) {j:Nat} (h:j < its.toArray.size):∃ x,xs[j]? = some x∧RelV x its.toArray[j]:=by
 have l:=r.length
 have j1:j < xs.length:=by simp at h; omega
 have z1:xs[j]? = some xs[j]:=List.getElem?_eq_getElem j1
 obtain ⟨u1,w1,q1⟩:=r.get z1
 have e1:its.toArray[j]=u1:=by
  have:its[j]? = some its[j]:=List.getElem?_eq_getElem (by omega)
  rw [this] at w1
  simpa using w1
 exact ⟨_,z1,by rw [e1]; exact q1⟩
theorem kl {p:Addr} {i1 i2:Array Value} (t1:s.heap.IsTuple p i1) (t2:s.heap.IsList p i2):False:=by
 obtain ⟨o,e,c1,n,d⟩:=t1
 obtain ⟨o',e',c2,n',d'⟩:=t2
 rw [e] at e'; cases e'
 rw [c1] at c2
 exact absurd c2 (by decide)
theorem sr (I:Inv X pins σ H s) {x:V} {a b:Da} (ha:gK X.K H x a) (hb:gK X.K H x b):a=b:=by
 induction ha generalizing b with
 | non=>cases hb; rfl
 | bl _=>cases hb; rfl
 | int _=>cases hb; rfl
 | str _=>cases hb; rfl
 | @tup p xs ds hp hl hd ih =>
  cases hb with
  | @tup q ys es hq hl2 hd2 =>
   have Sq:xs=ys:=I.ja hp hq
   subst Sq
   refine congrArg Da.tup ?_
   apply List.ext_getElem (by omega)
   intro j h1 h2
   have g0:xs[j]? = some xs[j]:=List.getElem?_eq_getElem (by omega)
   have g1:ds[j]? = some ds[j]:=List.getElem?_eq_getElem h1
   have g2:es[j]? = some es[j]:=List.getElem?_eq_getElem h2
   exact ih j _ _ g0 g1 (hd2 j _ _ g0 g2)
  | @lst q ys es hq hl2 hd2 =>
   obtain ⟨i1,r1,t1,_⟩:=I.tuple hp
   obtain ⟨i2,r2,t2,_⟩:=I.list hq
   exact (kl t1 t2.isList).elim
 | @lst p xs ds hp hl hd ih =>
  cases hb with
  | @lst q ys es hq hl2 hd2 =>
   have Sq:xs=ys:=I.n9 hp hq
   subst Sq
   refine congrArg Da.lst ?_
   apply List.ext_getElem (by omega)
   intro j h1 h2
   have g0:xs[j]? = some xs[j]:=List.getElem?_eq_getElem (by omega)
   have g1:ds[j]? = some ds[j]:=List.getElem?_eq_getElem h1
   have g2:es[j]? = some es[j]:=List.getElem?_eq_getElem h2
   exact ih j _ _ g0 g1 (hd2 j _ _ g0 g2)
  | @tup q ys es hq hl2 hd2 =>
   obtain ⟨i1,r1,t1,_⟩:=I.tuple hq
   obtain ⟨i2,r2,t2,_⟩:=I.list hp
   exact (kl t1 t2.isList).elim
theorem ny {A:Around} {m:Nat} {xs ys:List V} {ds es:List Da} {i1 i2:List Value} (r1:Vals xs i1) (r2:Vals ys i2) (hl:xs.length=ds.length) (hl2:ys.length=es.length)
  (ih:∀ (j:Nat) x d y e u v,xs[j]? = some x→ds[j]? = some d→ys[j]? = some y→es[j]? = some e→RelV x u→RelV y v→SeqAt.EqAt A s u v (decide (d=e)))
  (j:Nat) (h1:j < i1.toArray.size) (h2:j < i2.toArray.size):SeqAt.EqAt A s i1.toArray[j] i2.toArray[j] (decide (ds[j]? = es[j]?)):=by
 obtain ⟨x1,z1,q1⟩:=CQ r1 h1
 obtain ⟨x2,z2,q2⟩:=CQ r2 h2
 have k1:=(List.getElem?_eq_some_iff.mp z1).1
 have k2:=(List.getElem?_eq_some_iff.mp z2).1
 have g1:ds[j]? = some (ds[j]'(by omega)):=List.getElem?_eq_getElem (by omega)
 have g2:es[j]? = some (es[j]'(by omega)):=List.getElem?_eq_getElem (by omega)
 have r:=ih j x1 _ x2 _ _ _ z1 g1 z2 g2 q1 q2
 have e:decide (ds[j]? = es[j]?)=decide (ds[j]'(by omega)=es[j]'(by omega)):=by rw [g1,g2]; simp
 rw [e]
 exact r
theorem Iv {xs ys:List V} {ds es:List Da} {i1 i2:List Value} (r1:Vals xs i1) (r2:Vals ys i2) (hl:xs.length=ds.length) (hl2:ys.length=es.length) :
  ((List.range (min i1.toArray.size i2.toArray.size)).all (fun j=>decide (ds[j]? = es[j]?)) && i1.toArray.size == i2.toArray.size)=decide (ds=es):=by
 have l1:=r1.length
 have l2:=r2.length
 by_cases z:ds.length=es.length
 ·have y:=oP ds es z
  have s1:i1.toArray.size=ds.length:=by simp; omega
  have s2:i2.toArray.size=ds.length:=by simp; omega
  rw [s1,s2,Nat.min_self,y]
  simp
 ·rw [decide_eq_false (fun y=>z (by rw [y]))]
  have:(i1.toArray.size == i2.toArray.size)=false:=by simp; omega
  rw [this,Bool.and_false]
theorem Iw {xs ys:List V} {ds es:List Da} {i1 i2:List Value} (r1:Vals xs i1) (r2:Vals ys i2) (hl:xs.length=ds.length) (hl2:ys.length=es.length) (z:ds.length=es.length) :
  ((List.range i1.toArray.size).all (fun j=>decide (ds[j]? = es[j]?)))=decide (ds=es):=by
 have l1:=r1.length
 have s1:i1.toArray.size=ds.length:=by simp; omega
 rw [s1,oP ds es z]
theorem yH (ds es:List Da):decide (Da.tup ds=Da.tup es)=decide (ds=es):=decide_eq_decide.mpr ⟨Da.tup.inj,congrArg _⟩
theorem yI (ds es:List Da):decide (Da.lst ds=Da.lst es)=decide (ds=es):=decide_eq_decide.mpr ⟨Da.lst.inj,congrArg _⟩
theorem CT {A:Around} {n:Nat} (hu:A.units + n < cLine) (I:Inv X pins σ H s) {x y:V} {a b:Da} (ha:gK X.K H x a) (hb:gK X.K H y b) (na:a.Nb n) (nb:b.Nb n) {u v:Value} (ru:RelV x u) (rv:RelV y v):SeqAt.EqAt A s u v (decide (a=b)):=by
 induction ha generalizing A n y b u v with
 | non =>
  obtain rfl:u=Value.none:=ru
  cases hb with
  | non=>obtain rfl:v=Value.none:=rv; exact SeqAt.EqAt.same _
  | bl _=>cases nb
  | int j=>obtain ⟨t,rfl⟩:=rv; exact SeqAt.EqAt.none_int _ _
  | str j=>obtain ⟨t,rfl⟩:=rv; exact SeqAt.EqAt.none_str _ _
  | tup hq=>cases rv; obtain ⟨its,r1,p1,_⟩:=I.tuple hq; exact SeqAt.EqAt.none_tuple p1 (by omega)
  | lst hq=>cases rv; obtain ⟨its,r1,p1,_⟩:=I.list hq; exact SeqAt.EqAt.none_list p1.isList (by omega)
 | bl _=>cases na
 | int i =>
  obtain ⟨t0,rfl⟩:=ru
  cases hb with
  | non=>obtain rfl:v=Value.none:=rv; exact SeqAt.EqAt.int_none _ _
  | bl _=>cases nb
  | int j =>
   obtain ⟨t,rfl⟩:=rv
   have:=SeqAt.EqAt.int_int (A:=A) (s:=s) i t0 j t
   have e:(i == j)=decide (Da.int i=Da.int j):=by
    by_cases z:i=j
    ·subst z; simp
    ·rw [decide_eq_false (fun y=>z (Da.int.inj y))]; simp [z]
   rwa [e] at this
  | str j=>obtain ⟨t,rfl⟩:=rv; exact SeqAt.EqAt.int_str _ _ _ _
  | tup hq=>cases rv; obtain ⟨its,r1,p1,_⟩:=I.tuple hq; exact SeqAt.EqAt.int_tuple _ _ p1 (by omega)
  | lst hq=>cases rv; obtain ⟨its,r1,p1,_⟩:=I.list hq; exact SeqAt.EqAt.int_list _ _ p1.isList (by omega)
 | str i =>
  obtain ⟨t0,rfl⟩:=ru
  cases hb with
  | non=>obtain rfl:v=Value.none:=rv; exact SeqAt.EqAt.str_none _ _
  | bl _=>cases nb
  | int j=>obtain ⟨t,rfl⟩:=rv; exact SeqAt.EqAt.str_int _ _ _ _
  | str j =>
   obtain ⟨t,rfl⟩:=rv
   have:=SeqAt.EqAt.str_str (A:=A) (s:=s) i t0 j t
   have e:(i == j)=decide (Da.str i=Da.str j):=by
    by_cases z:i=j
    ·subst z; simp
    ·rw [decide_eq_false (fun y=>z (Da.str.inj y))]; simp [z]
   rwa [e] at this
  | tup hq=>cases rv; obtain ⟨its,r1,p1,_⟩:=I.tuple hq; exact SeqAt.EqAt.str_tuple _ _ p1 (by omega)
  | lst hq=>cases rv; obtain ⟨its,r1,p1,_⟩:=I.list hq; exact SeqAt.EqAt.str_list _ _ p1.isList (by omega)
 | @tup p xs ds hp hl hd ih =>
  cases ru
  obtain ⟨i1,r1,t1,_⟩:=I.tuple hp
  cases hb with
  | non=>obtain rfl:v=Value.none:=rv; exact SeqAt.EqAt.tuple_none t1 (by omega)
  | bl _=>cases nb
  | int j=>obtain ⟨t,rfl⟩:=rv; exact SeqAt.EqAt.tuple_int _ _ t1 (by omega)
  | str j=>obtain ⟨t,rfl⟩:=rv; exact SeqAt.EqAt.tuple_str _ _ t1 (by omega)
  | @tup q ys es hq hl2 hd2 =>
   cases rv
   by_cases c:p=q
   ·subst c
    have:=sr I (gK.tup hp hl hd) (gK.tup hq hl2 hd2)
    rw [decide_eq_true this]
    exact SeqAt.EqAt.same _
   cases na with
   | @tup m l na =>
   cases nb with
   | @tup m l nb =>
   obtain ⟨i2,r2,t2,_⟩:=I.tuple hq
   have key:=SeqAt.RcAt.tuples (A:=A) (s:=s) (e:=fun j=>decide (ds[j]? = es[j]?)) t1 t2 (by omega) (ny (m:=m) r1 r2 hl hl2 fun j x d y e u v h1 h2 h3 h4 ru rv =>
    ih j x d h1 h2 (A:=A.in1) (n:=m) (by show A.units + 1 + m < cLine; omega) (hd2 j y e h3 h4) (na _ (List.mem_of_getElem? h2)) (nb _ (List.mem_of_getElem? h4)) ru rv)
   rw [Iv r1 r2 hl hl2] at key
   rw [yH]
   exact SeqAt.EqAt.of_refs c key
  | @lst q ys es hq hl2 hd2 =>
   cases rv
   obtain ⟨i2,r2,t2,_⟩:=I.list hq
   by_cases c:p=q
   ·subst c
    exact (kl t1 t2.isList).elim
   ·exact SeqAt.EqAt.of_refs c (SeqAt.RcAt.tuple_list t1 t2.isList (by omega))
 | @lst p xs ds hp hl hd ih =>
  cases ru
  obtain ⟨i1,r1,t1,_⟩:=I.list hp
  cases hb with
  | non=>obtain rfl:v=Value.none:=rv; exact SeqAt.EqAt.list_none t1.isList (by omega)
  | bl _=>cases nb
  | int j=>obtain ⟨t,rfl⟩:=rv; exact SeqAt.EqAt.list_int _ _ t1.isList (by omega)
  | str j=>obtain ⟨t,rfl⟩:=rv; exact SeqAt.EqAt.list_str _ _ t1.isList (by omega)
  | @lst q ys es hq hl2 hd2 =>
   cases rv
   by_cases c:p=q
   ·subst c
    have:=sr I (gK.lst hp hl hd) (gK.lst hq hl2 hd2)
    rw [decide_eq_true this]
    exact SeqAt.EqAt.same _
   cases na with
   | @lst m l na =>
   cases nb with
   | @lst m l nb =>
   obtain ⟨i2,r2,t2,_⟩:=I.list hq
   have l1:=r1.length
   have l2:=r2.length
   rw [yI]
   by_cases z:ds.length=es.length
   ·have key:=SeqAt.RcAt.lists (A:=A) (s:=s) (e:=fun j=>decide (ds[j]? = es[j]?)) t1.isList t2.isList (by simp; omega) (by omega) (ny (m:=m) r1 r2 hl hl2 fun j x d y e u v h1 h2 h3 h4 ru rv =>
     ih j x d h1 h2 (A:=A.in1) (n:=m) (by show A.units + 1 + m < cLine; omega) (hd2 j y e h3 h4) (na _ (List.mem_of_getElem? h2)) (nb _ (List.mem_of_getElem? h4)) ru rv)
    rw [Iw r1 r2 hl hl2 z] at key
    exact SeqAt.EqAt.of_refs c key
   ·rw [decide_eq_false (fun y=>z (by rw [y]))]
    exact SeqAt.EqAt.of_refs c (SeqAt.RcAt.lists_lengths t1.isList t2.isList (by simp; omega) (by omega))
  | @tup q ys es hq hl2 hd2 =>
   cases rv
   obtain ⟨i2,r2,t2,_⟩:=I.tuple hq
   by_cases c:p=q
   ·subst c
    exact (kl t2 t1.isList).elim
   ·exact SeqAt.EqAt.of_refs c (SeqAt.RcAt.list_tuple t1.isList t2 (by omega))
end
def MX (K:PySem.W.Frag) (ne:Bool):R2:=fun x y H Q=>∃ (n:Nat) (p q:Addr) (a b:Da),x=.ref p∧y=.ref q∧gK K H x a∧gK K H y b∧a.Nb n∧b.Nb n∧n ≤ 6∧Q (.bl (ne ^^ decide (a=b))) H
section
variable {X:Cx}
theorem Kb (hu:X.A.units + 6 < cLine):jS X (compareOp .Eq) (MX X.K false):=by
 intro pins s σ H x y v u Q I rx ry h
 obtain ⟨n,p,q,a,b,rfl,rfl,ha,hb,na,nb,hn,k⟩:=h
 cases rx
 cases ry
 rw [Bool.false_xor] at k
 cases ha with
 | @tup p xs ds hp hl hd =>
  obtain ⟨i1,r1,t1,_⟩:=I.tuple hp
  cases hb with
  | @tup q ys es hq hl2 hd2 =>
   cases na with
   | @tup m l na =>
   cases nb with
   | @tup m l nb =>
   obtain ⟨i2,r2,t2,_⟩:=I.tuple hq
   have key:=SeqAt.RcAt.tuples (A:=X.A) (s:=s) (e:=fun j=>decide (ds[j]? = es[j]?)) t1 t2 (by omega) (ny (m:=m) r1 r2 hl hl2 fun j x d y e u v h1 h2 h3 h4 ru rv =>
    CT (A:=X.A.in1) (n:=m) (by show X.A.units + 1 + m < cLine; omega) I (hd j x d h1 h2) (hd2 j y e h3 h4) (na _ (List.mem_of_getElem? h2)) (nb _ (List.mem_of_getElem? h4)) ru rv)
   rw [Iv r1 r2 hl hl2] at key
   rw [yH] at k
   exact key _ _ _ _ ⟨.bl _,H,I,rfl,k⟩
  | @lst q ys es hq hl2 hd2 =>
   obtain ⟨i2,r2,t2,_⟩:=I.list hq
   exact (SeqAt.RcAt.tuple_list (A:=X.A) t1 t2.isList (by omega)) _ _ _ _ ⟨.bl _,H,I,rfl,k⟩
 | @lst p xs ds hp hl hd =>
  obtain ⟨i1,r1,t1,_⟩:=I.list hp
  cases hb with
  | @lst q ys es hq hl2 hd2 =>
   cases na with
   | @lst m l na =>
   cases nb with
   | @lst m l nb =>
   obtain ⟨i2,r2,t2,_⟩:=I.list hq
   have l1:=r1.length
   have l2:=r2.length
   rw [yI] at k
   by_cases z:ds.length=es.length
   ·have key:=SeqAt.RcAt.lists (A:=X.A) (s:=s) (e:=fun j=>decide (ds[j]? = es[j]?)) t1.isList t2.isList (by simp; omega) (by omega) (ny (m:=m) r1 r2 hl hl2 fun j x d y e u v h1 h2 h3 h4 ru rv =>
     CT (A:=X.A.in1) (n:=m) (by show X.A.units + 1 + m < cLine; omega) I (hd j x d h1 h2) (hd2 j y e h3 h4) (na _ (List.mem_of_getElem? h2)) (nb _ (List.mem_of_getElem? h4)) ru rv)
    rw [Iw r1 r2 hl hl2 z] at key
    exact key _ _ _ _ ⟨.bl _,H,I,rfl,k⟩
   ·rw [decide_eq_false (fun y=>z (by rw [y]))] at k
    exact (SeqAt.RcAt.lists_lengths (A:=X.A) t1.isList t2.isList (by simp; omega) (by omega)) _ _ _ _ ⟨.bl _,H,I,rfl,k⟩
  | @tup q ys es hq hl2 hd2 =>
   obtain ⟨i2,r2,t2,_⟩:=I.tuple hq
   exact (SeqAt.RcAt.list_tuple (A:=X.A) t1.isList t2 (by omega)) _ _ _ _ ⟨.bl _,H,I,rfl,k⟩
end
section
variable {X:Cx}
end
end L2
namespace L2
open PySem PySem.W PySem.Spec PySem.Calls PyProof.Rows
def FC (K:PySem.W.Frag) (P:Params) (a:Addr):Prop:=∃ (es:Array DictEntry) (n:Nat),K.lookup a=some ⟨.type "dict",none,.dict es n,#[]⟩∧PySem.W.KeysLit P es.toList∧(a == sysModules)=false
section
variable {X:Cx} {o i:Expr} {pos:Pos} {td ty:TE}
end
def FD (K:PySem.W.Frag) (P:Params) (ty td:TE):TE:=fun σ H Q=>ty σ H fun y H1=>td σ H1 fun x H2=>∃ a k r,x=.ref a∧y=.str k∧dE K P a k r∧Q (.bl (!r.isSome)) H2
theorem Aq {X:Cx} {o i:Expr} {td ty:TE} (hi:PE X i ty) (ho:PE X o td):PC X .NotIn i o (FD X.K X.w.params ty td):=by
 intro pins s σ H Q I h
 refine cC (hi pins s σ H _ I h) fun iv s1 ⟨y,H1,I1,ry,q1⟩=>cC (ho pins s1 σ H1 _ I1 q1) fun u s2 ⟨x,H2,I2,rx,a,k,r,ex,ey,g,q2⟩=>?_
 subst ex ey
 obtain rfl:u=Value.ref a:=rx
 obtain ⟨t,rfl⟩:=ry
 obtain ⟨es,n,hl,hk,hm,q,hq,rq⟩:=g
 have mo:=PySem.W.mapOf_K (prog:=X.prog) (w:=X.w) I2.lq hl hk
 refine wpAny_notIn_of (strKind_is X.prog X.w k t) hm mo ?_
 rw [PySem.W.find_K hl hq,← rq.hZ]
 exact ⟨.bl (!r.isSome),H2,I2.tok _,rfl,q2⟩
section
variable {X:Cx} {o i:Expr} {pos:Pos} {td ty:TE}
end
end L2
namespace L2
open PySem PySem.Spec PyProof.Rows
section
variable {X:Cx}
end
end L2
namespace SF
open PySem PySem.Calls PyProof.Rows
section
variable {prog:Program} {w:World} {A:Around} {E:Value→Shared→Prop} {s:Shared}
set_option maxHeartbeats 8000000 in
end
end SF
namespace L2
open PySem PySem.Spec PyProof.Rows
section
variable {X:Cx}
end
def iU (f:Int→Int) (j v:Int):Int→Int:=fun i=>if i=j then v else f i
structure Rep (d:List (Key × V)) (f:Int→Int):Prop where
 isI:∃ kvs:List (Int × Int),d=iD kvs∧(kvs.map (·.1)).Nodup
 val:∀ j,(cH d (Sum.inl j)).getD (.int 0)=.int (f j)
theorem Rep.nil:Rep [] (fun _=>0):=⟨⟨[],rfl,List.nodup_nil⟩,fun _=>rfl⟩
theorem CU {j v:Int}:∀ {kvs:List (Int × Int)},(kvs.map (·.1)).Nodup→(j,v) ∈ kvs→cH (iD kvs) (Sum.inl j)=some (.int v)
 | [],_,h=>by simp at h
 | p :: r,hn,h=>by
  rw [List.map_cons,List.nodup_cons] at hn
  rcases List.mem_cons.mp h with e | h
  ·rw [show iD (p :: r)=(Sum.inl p.1,V.int p.2) :: iD r from rfl,dg (by rw [← e])]
   rw [← e]
  ·have ne:¬ (Sum.inl p.1:Key)=Sum.inl j:=fun z=>hn.1 (by rw [Sum.inl.inj z]; exact List.mem_map.mpr ⟨_,h,rfl⟩)
   rw [show iD (p :: r)=(Sum.inl p.1,V.int p.2) :: iD r from rfl,dh ne]
   exact CU hn.2 h
theorem CV {kvs:List (Int × Int)} {j v:Int} (hn:(kvs.map (·.1)).Nodup):∃ kvs',putK (iD kvs) (Sum.inl j) (.int v)=iD kvs'∧(kvs'.map (·.1)).Nodup∧kvs'.length ≤ kvs.length + 1∧(v ≠ 0→(∀ p ∈ kvs,p.2 ≠ 0)→∀ p ∈ kvs',p.2 ≠ 0):=by
 by_cases h:cH (iD kvs) (Sum.inl j:Key)=none
 ·refine ⟨kvs ++ [(j,v)],?_,?_,by simp,fun hv hz p hp=>?_⟩
  ·rw [uN _ h]
   simp [iD]
  ·rw [List.map_append,List.nodup_append]
   refine ⟨hn,by simp,fun a ha b hb e=>?_⟩
   have hb:b=j:=by simpa using hb
   subst hb
   have:=Cm h
   apply this
   obtain ⟨p,hp,rfl⟩:=List.mem_map.mp ha
   exact List.mem_map.mpr ⟨(Sum.inl p.1,.int p.2),List.mem_map.mpr ⟨p,hp,rfl⟩,by rw [e]⟩
  ·rcases List.mem_append.mp hp with hp | hp
   ·exact hz p hp
   ·rw [List.mem_singleton.mp hp]
    exact hv
 ·refine ⟨kvs.map fun p=>if p.1=j then (p.1,v) else p,?_,?_,by simp,fun hv hz p hp=>?_⟩
  ·unfold putK
   rw [ei,if_pos (by cases e:cH (iD kvs) (Sum.inl j:Key) with | none=>exact absurd e h | some _=>rfl)]
   unfold iD
   rw [List.map_map,List.map_map]
   refine List.map_congr_left fun p _=>?_
   show (if (Sum.inl p.1:Key)=Sum.inl j then ((Sum.inl p.1:Key),V.int v) else (Sum.inl p.1,V.int p.2))=(Sum.inl (if p.1=j then (p.1,v) else p).1,V.int (if p.1=j then (p.1,v) else p).2)
   by_cases e:p.1=j
   ·rw [if_pos (by rw [e]),if_pos e]
   ·rw [if_neg (fun z=>e (Sum.inl.inj z)),if_neg e]
  ·rw [List.map_map]
   have:((fun p:Int × Int=>p.1) ∘ fun p=>if p.1=j then (p.1,v) else p)=fun p=>p.1:=by
    funext p
    show (if p.1=j then (p.1,v) else p).1=p.1
    split <;> rfl
   rw [this]
   exact hn
  ·obtain ⟨q,hq,rfl⟩:=List.mem_map.mp hp
   by_cases e:q.1=j
   ·rw [if_pos e]; exact hv
   ·rw [if_neg e]; exact hz q hq
theorem Rep.put {d:List (Key × V)} {f:Int→Int} (r:Rep d f) (j v:Int):Rep (putK d (Sum.inl j) (.int v)) (iU f j v):=by
 obtain ⟨⟨kvs,rfl,hn⟩,hv⟩:=r
 obtain ⟨kvs',e,hn',_⟩:=CV (j:=j) (v:=v) hn
 refine ⟨⟨kvs',e,hn'⟩,fun i=>?_⟩
 rw [ou]
 unfold iU
 by_cases h:i=j
 ·rw [if_pos (by rw [h]),if_pos h]
  rfl
 ·rw [if_neg (fun z=>h (Sum.inl.inj z)),if_neg h]
  exact hv i
theorem CW:∀ (a b:List Int),a.Nodup→(∀ x ∈ a,x ∈ b)→a.length ≤ b.length
 | [],_,_,_=>Nat.zero_le _
 | x :: a,b,hn,h=>by
  rw [List.nodup_cons] at hn
  have hx:=h x (by simp)
  have:=CW a (b.erase x) hn.2 fun y hy=>(List.mem_erase_of_ne (show y ≠ x from fun e=>hn.1 (by rw [← e]; exact hy))).mpr (h y (by simp [hy]))
  rw [List.length_erase_of_mem hx] at this
  have:0 < b.length:=List.length_pos_of_mem hx
  simp only [List.length_cons]
  omega
end L2
namespace L2
open PySem PySem.W PySem.Spec PySem.Calls PyProof.Rows
section
variable {X:Cx} {pins:List (Addr × Obj)} {σ:St} {H:Hp} {s:Shared}
end
theorem su {X:Cx}:hC X (.type "dict") (fun xs H Q=>∃ (p:Addr) (kvs:List (Key × V)),xs=[.ref p]∧H p=some (.dK kvs)∧∀ l,H l=none→Q (.ref l) (upd H l (.dK kvs))):=by
 intro pins s σ H xs QW Q I r h
 obtain ⟨p,kvs,rfl,hp,q⟩:=h
 obtain ⟨u,rfl,ru⟩:=vals1 r
 cases ru
 exact Cj I (.of hp) fun l s' hl I'=>⟨.ref l,_,I',rfl,q l hl⟩
theorem mz {X:Cx} (hc:X.calm=true):hC X (.type "dict") (fun xs H Q=>∃ (p:Addr) (ts:List Addr) (kvs:List (Key × V)),xs=[.ref p]∧H p=some (.lst (ts.map V.ref))∧ts.length=kvs.length∧(∀ (i:Nat) t k v,ts[i]? = some t→kvs[i]? = some (k,v)→H t=some (.tup [kV k,v])) ∧
  kvs.length ≤ 5000∧∀ l,H l=none→Q (.ref l) (upd H l (.dK (eA [] kvs)))):=by
 intro pins s σ H xs QW Q I r h
 obtain ⟨p,ts,kvs,rfl,hp,hl,ht,hz,q⟩:=h
 obtain ⟨u,rfl,ru⟩:=vals1 r
 cases ru
 obtain ⟨_,its,nn,rv,hpo⟩:=(show cv X.prog X.w H s.heap p (.lst (ts.map V.ref)) from I.hok p _ hp)
 have hil:its.length=ts.length:=by rw [← rv.length,List.length_map]
 have hti:∀ (i:Nat) t,ts[i]? = some t→its[i]? = some (Value.ref t):=fun i t hi=>by
  obtain ⟨w',hw,lK⟩:=rv.get (i:=i) (x:=V.ref t) (by rw [List.getElem?_map,hi]; rfl)
  cases lK
  exact hw
 have pick:∀ (i:Nat) k v,kvs[i]? = some (k,v)→∃ t key u,ts[i]? = some t∧IsTup s.heap t #[key,u]∧RelV (kV k) key∧RelV v u:=fun i k v hi=>by
  have hlt:i < ts.length:=by rw [hl]; exact (List.getElem?_eq_some_iff.mp hi).1
  have h1:ts[i]? = some ts[i]:=List.getElem?_eq_getElem hlt
  obtain ⟨_,tis,tv,tt⟩:=(show cv X.prog X.w H s.heap ts[i] (.tup [kV k,v]) from I.hok _ _ (ht i _ k v h1 hi))
  cases tv with
  | cons a b =>
   cases b with
   | cons c d =>
    cases d
    exact ⟨ts[i],_,_,h1,tt,a,c⟩
 have hvs:∃ vs:List (Key × Value),KV kvs vs∧∀ (i:Nat) k u,vs[i]? = some (k,u)→∃ t key,ts[i]? = some t∧IsTup s.heap t #[key,u]∧RelV (kV k) key:=by
  have gen:∀ (ks:List (Key × V)) (o:Nat),(∀ (i:Nat) k v,ks[i]? = some (k,v)→kvs[o + i]? = some (k,v))→∃ vs:List (Key × Value),KV ks vs∧∀ (i:Nat) k u,vs[i]? = some (k,u)→∃ t key,ts[o + i]? = some t∧IsTup s.heap t #[key,u]∧RelV (kV k) key:=by
   intro ks
   induction ks with
   | nil=>intro o _; exact ⟨[],.nil,fun i k u h=>by simp at h⟩
   | cons c ks ih =>
    intro o ho
    obtain ⟨t,key,u,a1,a2,a3,a4⟩:=pick o c.1 c.2 (ho 0 c.1 c.2 rfl)
    obtain ⟨vs,b1,b2⟩:=ih (o + 1) fun i k v hi=>by
     have:=ho (i + 1) k v (by simpa using hi)
     rwa [show o + (i + 1)=o + 1 + i by omega] at this
    refine ⟨(c.1,u) :: vs,.cons ⟨rfl,a4⟩ b1,fun i k u' hi=>?_⟩
    cases i with
    | zero =>
     have e:=Option.some.inj hi
     cases e
     exact ⟨t,key,a1,a2,a3⟩
    | succ i =>
     obtain ⟨t',key',c1,c2,c3⟩:=b2 i k u' (by simpa using hi)
     exact ⟨t',key',by rw [show o + (i + 1)=o + 1 + i by omega]; exact c1,c2,c3⟩
  obtain ⟨vs,a,b⟩:=gen kvs 0 fun i k v hi=>by rw [Nat.zero_add]; exact hi
  exact ⟨vs,a,fun i k u hi=>by have:=b i k u hi; rwa [Nat.zero_add] at this⟩
 obtain ⟨vs,hkv,hvt⟩:=hvs
 have hvl:=hkv.length
 have hh:=I.ok.hd hc
 refine callType_codes (Q₁:=fun obj s1=>obj=.ref s.heap.objs.size∧s1={ s with heap:=s.heap.push { cls:=.type "dict",data:=.dict #[] } }) PySem.F.kt_called_dict (PySem.F.kt_typeCall_dict_1 _) PySem.F.entry_dict_init (kt_code_dict_new _ ⟨rfl,rfl⟩) (fun obj s1 hs=>?_)
 obtain ⟨rfl,rfl⟩:=hs
 have nw:(s.heap.push { cls:=.type "dict",data:=.dict #[] }).DictOf (bF X.prog X.w) s.heap.objs.size []:=Heap.DictOf.new s.heap
 have old:∀ b o,s.heap.get? b=some o→(s.heap.push { cls:=.type "dict",data:=.dict #[] }).get? b=some o:=fun b o e=>Heap.get?_push_of_some _ e
 refine ⟨nw.typeIs,PySem.F.args_dict_init_2 _ _,?_⟩
 (unfold Builtin.«dict.__init__»; refine wpAny_bind ?_; unfold Builtin.Dict.selfAndRest; refine wpAny_bind (wpAny_notOrdered_dict nw.typeIs ?_))
 (show wpAny _ _ (pure (s.heap.objs.size,[Value.ref p])) _ _ _; refine wpAny_pure ?_; show wpAny _ _ (Builtin.Dict.updateFrom "dict.__init__" s.heap.objs.size (.ref p) [] .none) _ _ _; unfold Builtin.Dict.updateFrom)
 refine wpAny_bind (wpAny_typeOf (T := "list") ⟨_,old _ _ hpo,rfl⟩ ?_)
 rw [if_pos (by decide)]
 refine wpAny_bind (wD (old _ _ hpo) hh fun h1 tk1 k1=>?_)
 rw [if_pos (show (none:Option Value).isNone=true from rfl)]
 refine wpAny_bind (wpAny_rule ?_)
 have Sr:h1.IsList p its.toArray:=⟨_,k1 _ _ (old _ _ hpo),rfl,nn,rfl⟩
 refine wpAny_bind (wpAny_pyIter_list (l:=p) (items:=its.toArray) Sr ?_)
 have lt:∀ b o,s.heap.get? b=some o→b < s.heap.objs.size:=fun b o e=>Heap.lt_size e
 have dN:h1.get? s.heap.objs.size=some { cls:=.type "dict",data:=.dict #[] }:=k1 _ _ (Heap.get?_push_size _ rfl)
 have Q5:@LT.lt Nat _ s.heap.objs.size h1.objs.size:=Heap.lt_size dN
 have up:∀ b o,h1.get? b=some o→(h1.push { cls:=.type "list_iterator",data:=.fields #[.ref p,.int 0 0] }).get? b=some o:=fun b o e=>Heap.get?_push_of_some _ e
 have ltp:=lt _ _ hpo
 have itr:(h1.push { cls:=.type "list_iterator",data:=.fields #[.ref p,.int 0 0] }).IsListIter h1.objs.size p 0:=⟨_,Heap.get?_push_size _ rfl,rfl,rfl⟩
 have Ss:(h1.push { cls:=.type "list_iterator",data:=.fields #[.ref p,.int 0 0] }).IsList p its.toArray:=⟨_,up _ _ (k1 _ _ (old _ _ hpo)),rfl,nn,rfl⟩
 have Sv:(h1.push { cls:=.type "list_iterator",data:=.fields #[.ref p,.int 0 0] }).DictOf (bF X.prog X.w) s.heap.objs.size []:=by
  obtain ⟨o,es,ep,ho,rr⟩:=nw
  exact ⟨o,es,ep,up _ _ (k1 _ _ ho),rr⟩
 refine wpAny_pure ⟨plainId_quiet jb _,?_⟩
 refine wF (A:=X.A.in1) (knd:=bF X.prog X.w) hh (d:=s.heap.objs.size) (it:=h1.objs.size) (l:=p) (items:=its.toArray) (ks:=vs) (Nat.ne_of_lt Q5) (Nat.ne_of_lt ltp) (Nat.ne_of_lt (Nat.lt_trans ltp Q5)) (by rw [List.size_toArray,hil,hl,hvl]) (by rw [List.size_toArray,hil,hl]; exact hz) its.toArray.size 0 _ [] _ (by omega) (Nat.zero_le _) ?_ ?_ ?_ (Nat.le_refl _) ?_ ?_
 ·exact itr
 ·exact Ss
 ·exact Sv
 ·intro j k v hj
  obtain ⟨t,key,a1,⟨o,a2,a3⟩,a4⟩:=hvt j k v hj
  have ltt:=lt _ _ a2
  exact ⟨t,key,by rw [List.getElem?_toArray]; exact hti j t a1,⟨o,up _ _ (k1 _ _ (old _ _ a2)),a3⟩,ow a4,Nat.ne_of_lt ltt,Nat.ne_of_lt (Nat.lt_trans ltt Q5)⟩
 ·intro h' tk hd' kp
  rw [List.drop_zero] at hd'
  have hml:=fu kvs []
  rw [List.length_nil] at hml
  refine ⟨rfl,.ref s.heap.objs.size,_,I.laid (a:=s.heap.objs.size) (o:=.dK (eA [] kvs)) (t':=tk) (fun b o e=>?_) (Nat.le_refl _) ?_,rfl,q _ (I.hok.fresh (Nat.le_refl _))⟩
  ·have ltb:=lt b o e
   exact kp b o (Nat.ne_of_lt ltb) (Nat.ne_of_lt (Nat.lt_trans ltb Q5)) (up _ _ (k1 _ _ (old _ _ e)))
  ·exact rY (by rw [sizeLine_eq]; omega) (beq_eq_false_iff_ne.mpr (Ne.symm (Nat.ne_of_lt I.big))) (hkv.merge .nil) hd'
end L2
namespace L2
open PySem PySem.Spec PyProof.Rows
inductive HD (H:Hp):V→Da→Prop
 | non:HD H .non .non
 | bl (b:Bool):HD H (.bl b) (.bl b)
 | int (i:Int):HD H (.int i) (.int i)
 | str (s:Str):HD H (.str s) (.str s)
 | tup {p:Addr} {xs:List V} {ds:List Da} (h:H p=some (.tup xs)) (l:xs.length=ds.length) (e:∀ (i:Nat) x d,xs[i]? = some x→ds[i]? = some d→HD H x d):HD H (.ref p) (.tup ds)
 | lst {p:Addr} {xs:List V} {ds:List Da} (h:H p=some (.lst xs)) (l:xs.length=ds.length) (e:∀ (i:Nat) x d,xs[i]? = some x→ds[i]? = some d→HD H x d):HD H (.ref p) (.lst ds)
theorem HD.da {H:Hp} {v:V} {d:Da} (K:PySem.W.Frag) (h:HD H v d):gK K H v d:=by
 induction h with
 | non=>exact .non
 | bl b=>exact .bl b
 | int i=>exact .int i
 | str x=>exact .str x
 | tup h l e ih=>exact .tup (bp.of h) l ih
 | lst h l e ih=>exact .lst (aZ.of h) l ih
inductive FE (H:Hp):List V→List Da→Prop
 | nil:FE H [] []
 | cons {x:V} {d:Da} {xs:List V} {ds:List Da} (h:HD H x d) (r:FE H xs ds):FE H (x :: xs) (d :: ds)
theorem FE.len {H:Hp} {xs:List V} {ds:List Da} (h:FE H xs ds):xs.length=ds.length:=by
 induction h with
 | nil=>rfl
 | cons h r ih=>rw [List.length_cons,List.length_cons,ih]
theorem FE.get {H:Hp} {xs:List V} {ds:List Da} (h:FE H xs ds):∀ (i:Nat) x d,xs[i]? = some x→ds[i]? = some d→HD H x d:=by
 induction h with
 | nil=>intro i x d h; simp at h
 | cons h r ih =>
  intro i x d h1 h2
  cases i with
  | zero=>cases h1; cases h2; exact h
  | succ i=>exact ih i x d (by simpa using h1) (by simpa using h2)
theorem CY {σ:St} {H:Hp} {te:TE} {g:TG} {u:TS} {D:Ends} {rt:VK} {bk ct:St→Hp→Prop} (h:te σ H fun x H1=>g x σ H1 (u D)):Ends.nx (Ends.mk (Jy (BW te g) u D) rt bk ct) σ H:=h
theorem vd {i:Nat} {v:V} {σ:St} {H:Hp} {Q:St→Hp→Prop} (h:Q (σ.set i (some v)) H):gF i v σ H Q:=h
section
variable {σ:St} {H:Hp}
end
end L2
namespace L2
open PySem PySem.W PySem.Spec PySem.Calls PyProof.Rows
section
variable {X:Cx} {pins:List (Addr × Obj)} {σ:St} {H:Hp} {s:Shared} {A:Around}
end
end L2
namespace L2
open PySem PySem.Spec PyProof.Rows
open Builtin Builtin.Str
section
variable {X:Cx}
end
section
variable {X:Cx}
end
end L2
namespace L2
open PySem PySem.W PySem.Spec PySem.Calls PyProof.Rows
open Builtin Builtin.Str
section
variable {X:Cx} {pins:List (Addr × Obj)} {σ:St} {H:Hp} {s:Shared}
open Classical in
noncomputable def jJ (K:PySem.W.Frag) (H:Hp) (d:Da) (w:Value):Bool:=decide (∃ a,w=.ref a∧gK K H (.ref a) d)
theorem yJ {K:PySem.W.Frag} {d:Da} {w:Value} (h:∃ a,w=.ref a∧gK K H (.ref a) d):jJ K H d w=true:=by
 unfold jJ
 exact @decide_eq_true _ (Classical.propDecidable _) h
theorem yK {K:PySem.W.Frag} {d:Da} {w:Value} (h:¬ ∃ a,w=.ref a∧gK K H (.ref a) d):jJ K H d w=false:=by
 unfold jJ
 exact @decide_eq_false _ (Classical.propDecidable _) h
theorem CZ (I:Inv X pins σ H s) {d:Da}:∀ {xs:List V} {us:List Value} {ds:List Da},Vals xs us→FE H xs ds→(∀ x ∈ xs,∃ a,x=.ref a)→us.any (jJ X.K H d)=decide (d ∈ ds)
 | _,_,_,.nil,.nil,_=>rfl
 | _,_,_,.cons (l₂:=us) (b:=u) r t,.cons (d:=e) (ds:=ds) h g,hr=>by
  obtain ⟨a,rfl⟩:=hr _ List.mem_cons_self
  have hu:u=Value.ref a:=r
  subst hu
  have ih:=CZ I (d:=d) t g fun x hx=>hr x (by simp [hx])
  rw [List.any_cons,ih]
  have e1:jJ X.K H d (.ref a)=decide (d=e):=by
   by_cases c:d=e
   ·subst c
    rw [decide_eq_true rfl]
    exact yJ ⟨a,rfl,h.da X.K⟩
   ·rw [decide_eq_false c]
    refine yK ?_
    rintro ⟨b,eb,hb⟩
    cases eb
    exact c (sr I hb (h.da X.K))
  rw [e1]
  by_cases c:d=e
  ·simp [c]
  ·simp [c]
end
end L2
namespace L2
open PySem PySem.W PySem.Spec PySem.Calls PyProof.Rows
open Builtin Builtin.Str
def Kc (K:PySem.W.Frag):R2:=fun x y H Q=>∃ (q p:Addr) (xs:List V) (d:Da) (ds:List Da) (n:Nat),x=.ref q∧y=.ref p∧H p=some (.tup xs)∧HD H x d∧FE H xs ds∧(∀ x ∈ xs,∃ a,x=.ref a)∧d.Nb n∧(∀ e ∈ ds,e.Nb n)∧n ≤ 5∧Q (.bl (decide (d ∈ ds))) H
theorem Kd {X:Cx} (hu:X.A.units + 6 < cLine):jS X (compareOp .In) (Kc X.K):=by
 intro pins s σ H x y v u Q I rx ry h
 obtain ⟨q,p,xs,d,ds,n,rfl,rfl,hp,hd,hs,hr,nd,nds,hn,k⟩:=h
 cases ry
 obtain ⟨its,r,pl,hz⟩:=I.tuple (bp.of hp)
 have key:=CZ I (d:=d) r hs hr
 refine SeqAt.in_tupleAt (jJ X.K H d) pl (fun w hw=>?_) ⟨.bl _,H,I,rfl,?_⟩
 ·have hw:w ∈ its:=by simpa using hw
  obtain ⟨j,hj,ej⟩:=List.getElem_of_mem hw
  have hl:=r.length
  have hx:xs[j]? = some xs[j]:=List.getElem?_eq_getElem (by omega)
  have hdl:=hs.len
  have he:ds[j]? = some ds[j]:=List.getElem?_eq_getElem (by omega)
  obtain ⟨w',hw',lK⟩:=r.get hx
  have ew:w'=w:=by
   rw [List.getElem?_eq_getElem hj,ej] at hw'
   exact (Option.some.inj hw').symm
  subst ew
  obtain ⟨a,ea⟩:=hr xs[j] (List.getElem_mem _)
  have h1:=hs.get j _ _ hx he
  have h2:=CT (A:=X.A.in1) (n:=n) (by show X.A.units + 1 + n < cLine; omega) I (h1.da X.K) (hd.da X.K) (nds _ (List.getElem_mem _)) nd lK rx
  have e1:jJ X.K H d w'=decide (ds[j]=d):=by
   have lK:=lK
   rw [ea] at lK h1
   have ew:w'=Value.ref a:=lK
   subst ew
   by_cases c:ds[j]=d
   ·rw [decide_eq_true c]
    exact yJ ⟨a,rfl,c ▸ h1.da X.K⟩
   ·rw [decide_eq_false c]
    refine yK ?_
    rintro ⟨b,eb,hb⟩
    cases eb
    exact c (sr I (h1.da X.K) hb)
  rw [e1]
  exact h2
 ·rw [show its.toArray.any (jJ X.K H d)=its.any (jJ X.K H d) by simp,key]
  exact k
end L2
namespace L2
open PySem PySem.Spec PyProof.Rows
def C0 (n:Nat):It:=⟨fun i _=>i < n,fun i H x H'=>H'=H∧x=.int ((i:Int) * 12),fun i _=>n ≤ i⟩
theorem FG {P:Program} {w:World} {K:PySem.W.Frag} {tg:Expr} (it:Addr) (n:Nat):Turn P w K tg (C0 n) [it] it (fun i h=>IsRangeIter h it ((0:Int) + (i:Nat) * 12) ((n:Int) - (i:Nat)) 12) where
 mem:=by simp
 obj:=fun i h st b hb=>by
  have e:b=it:=by simpa using hb
  subst e
  exact ⟨_,st,fun v z=>by
   have z':Data.fields _=Data.cell v:=z
   cases z'⟩
 keep:=fun i h h' st k=>k it (by simp) _ st
 item:=by
  intro X hP hw hK hc i pins s σ H E I hf st hg
  subst hP hw hK
  obtain ⟨f0,f1,f2,f3,f4,f5⟩:=hf it (by simp)
  have W:=Walks.range (prog:=X.prog) (w:=X.w) (I.ok.hd hc) it 0 12 n
  refine W.item i s _ _ hg st fun v h' tk hv st' kk=>?_
  obtain ⟨t,rfl⟩:=hv
  have I1:Inv X pins σ H { s with heap:=h',toks:=tk }:=I.turned (fun b o hb e=>kk b o (by simpa using hb) e) f0 f1 f3 f4 f5
  refine ⟨_,rfl,yo (s:={ s with heap:=h',toks:=tk }) (n := "range_iterator") st' rfl rfl (by decide) ⟨.int ((i:Int) * 12),H,I1,⟨t,?_⟩,⟨rfl,rfl⟩,st',fun b hb=>(hf b hb).1⟩⟩
  rw [Int.zero_add]
 done:=by
  intro X hP hw hK hc i pins s σ H E I hf st hg
  subst hP hw hK
  obtain ⟨f0,f1,f2,f3,f4,f5⟩:=hf it (by simp)
  exact wpAny_pyNext_range_end (I.ok.hd hc) st (by have:n ≤ i:=hg; omega) fun h' eb=>⟨rfl,I.turned (t':=s.toks) (fun b o hb e=>eb b o hb e) f0 f1 f3 f4 f5⟩
 self:=fun _ _ _ _ _ st h=>wpAny_pyIter_rangeiter st h
section
variable {X:Cx} {tg:Expr}
def Ke (ta:TA):TI:=fun σ H R=>ta σ H fun vs H1=>∃ j:Nat,vs=[.int 0,.int (j:Int),.int 12]∧j < 1000000∧R (C0 ((j + 11) / 12)) H1
theorem wH {a b c:Expr} {ta:TA} {p pos:Pos} (hg:Gl X "range") (hm:X.mg "range" = none) (ha:PA X [a,b,c] ta) (hs:starEach [a,b,c] X.env=[(false,eval a X.env),(false,eval b X.env),(false,eval c X.env)]:=by rfl) (hs2:starEach [b,c] X.env=[(false,eval b X.env),(false,eval c X.env)]:=by rfl) :
  PI X tg (.Call (.Name "range" p) [a,b,c] [] pos) (Ke ta):=by
 intro pins s σ H R I h
 refine Call_ (jP I hg hm boot_range (PyProof.Rows.callWith_type1 (cC (ha pos pins s σ H _ I h) fun us s1 ⟨vs,H1,I1,r1,q1⟩=>?_) (by rw [hs,hs2]) (by rw [hs2]; rfl)))
 obtain ⟨j,e,hj,q⟩:=q1
 subst e
 cases r1 with
 | cons r rr =>
  cases rr with
  | cons r' rr =>
   cases rr with
   | cons r'' rr =>
   cases rr
   obtain ⟨t,rfl⟩:=r
   obtain ⟨t',rfl⟩:=r'
   obtain ⟨t'',rfl⟩:=r''
   refine call_range_3 (by decide) ?_ (Or.inl (PyProof.noPylong_small (by decide)))
   have eS:Builtin.Range.rangeSize 0 (j:Int) 12=(((j + 11) / 12:Nat):Int):=by
    unfold Builtin.Range.rangeSize
    rw [if_pos (by decide)]
    by_cases c:(0:Int) < (j:Int)
    ·rw [if_pos c]
     omega
    ·rw [if_neg c]
     omega
   have hsm:Builtin.Range.small 0 (j:Int) 12=true:=by
    have hk:(j + 11) / 12 ≤ 1000000:=by omega
    unfold Builtin.Range.small
    rw [eS]
    generalize (j + 11) / 12=k at hk
    clear eS
    unfold Builtin.Range.rangeFitsLong
    rw [if_pos (by decide)]
    simp only [Bool.and_eq_true,Bool.or_eq_true,decide_eq_true_eq]
    exact ⟨⟨⟨⟨by omega,by omega⟩,by omega⟩,by omega⟩,Or.inr (by omega)⟩
   refine wpAny_pyIter_range (IsRange.new ..) hsm ?_
   rw [eS]
   have I2:Inv X pins σ H1 { s1 with heap:=s1.heap.push { cls:=.type "range",data:=.fields #[.int 0 t,.int (j:Int) t',.int 12 t''] },toks:=s1.toks }:=I1.kept fun b o e=>Heap.get?_push_of_some _ e
   refine ⟨_,[(s1.heap.push { cls:=.type "range",data:=.fields #[.int 0 t,.int (j:Int) t',.int 12 t''] }).objs.size],_,_,H1,rfl,I2.kept (t':=s1.toks) fun b o e=>Heap.get?_push_of_some _ e,FG _ ((j + 11) / 12),?_,fun b hb=>?_,q⟩
   ·show IsRangeIter _ _ ((0:Int) + ((0:Nat):Int) * 12) ((((j + 11) / 12:Nat):Int) - ((0:Nat):Int)) 12
    rw [show (0:Int) + ((0:Nat):Int) * 12=0 by decide,show (((j + 11) / 12:Nat):Int) - ((0:Nat):Int)=(((j + 11) / 12:Nat):Int) by omega]
    exact Heap.get?_push_size _ rfl
   ·have e:b=(s1.heap.push { cls:=.type "range",data:=.fields #[.int 0 t,.int (j:Int) t',.int 12 t''] }).objs.size:=by simpa using hb
    subst e
    exact I2.zU (Nat.le_refl _) (I2.hok.fresh (Nat.le_refl _))
end
theorem Kf {n:Nat} {g:TG} {tb:TS} {D:Ends} {σ:St} {H:Hp} (Pv:Nat→St→Hp→Prop) (h0:Pv 0 σ H)
  (hs:∀ i σ H,i < n→Pv i σ H→g (.int ((i:Int) * 12)) σ H fun σ2 H2=>tb { D with nx:=Pv (i + 1),ct:=Pv (i + 1),bk:=D.nx } σ2 H2) (hd:∀ σ H,Pv n σ H→D.nx σ H) :
  ∃ W:Nat→Nat→St→Hp→Prop,(∃ m,W 0 m σ H)∧∀ i m σ H,W i m σ H →
   ((C0 n).stop i H∧D.nx σ H)∨((C0 n).go i H∧∃ N:St→Hp→Prop,(∀ σ' H',N σ' H'→∃ m',m' < m∧W (i + 1) m' σ' H')∧∀ x H',(C0 n).zT i H x H'→g x σ H' fun σ2 H2=>tb { D with nx:=N,ct:=N,bk:=D.nx } σ2 H2):=by
 refine ⟨fun i m σ H=>m=n - i∧i ≤ n∧Pv i σ H,⟨n,by simp,Nat.zero_le _,h0⟩,?_⟩
 rintro i m σ H ⟨rfl,hi,p⟩
 by_cases hlt:i < n
 ·refine .inr ⟨hlt,Pv (i + 1),fun σ' H' p'=>⟨n - (i + 1),by omega,rfl,hlt,p'⟩,fun x H' y=>?_⟩
  obtain ⟨e,y⟩:=y
  subst e y
  exact hs i σ _ hlt p
 ·have e:i=n:=by omega
  subst e
  exact .inl ⟨Nat.le_refl _,hd σ H p⟩
end L2
namespace L2
open PySem PySem.W PySem.Spec PySem.Calls PyProof.Rows
theorem wI {us:List (Key × Value)} (hn:(us.map (·.1)).Nodup) {k:Key} {y:Value}:∀ {j:Nat},us[j]? = some (k,y)→valueAt us k=some y:=by
 intro j hj
 have hmem:(k,y) ∈ us:=List.mem_of_getElem? hj
 unfold valueAt
 have hf:∀ (l:List (Key × Value)),(l.map (·.1)).Nodup→(k,y) ∈ l→l.find? (fun kv=>decide (kv.1=k))=some (k,y):=by
  intro l
  induction l with
  | nil=>intro _ h; simp at h
  | cons x l ih =>
   intro hnd hx
   rw [List.map_cons,List.nodup_cons] at hnd
   rcases List.mem_cons.mp hx with rfl | hx
   ·simp
   ·have ne:¬ x.1=k:=fun z=>hnd.1 (by rw [z]; exact List.mem_map.mpr ⟨_,hx,rfl⟩)
    rw [List.find?_cons_of_neg (by simpa using ne)]
    exact ih hnd.2 hx
 rw [hf us hn hmem]
 rfl
section
variable {X:Cx} {pins:List (Addr × Obj)} {σ:St} {H:Hp} {s:Shared} {A:Around}
theorem yL (hu:A.units + 1 < cLine) (I:Inv X pins σ H s) {ub:List (Key × Value)} (hn:(ub.map (·.1)).Nodup) :
  ∀ (ka kb:List (Key × V)) (ua:List (Key × Value)) (o:Nat),KV ka ua→KV kb (ub.drop o)→ka.map (·.1)=kb.map (·.1)→(∀ (i:Nat) x y,(ka.map (·.2))[i]? = some x→(kb.map (·.2))[i]? = some y→LW H x y)→KeqHits A s ub ua true
 | [],[],_,_,.nil,_,_,_=>.nil
 | [],_ :: _,_,_,_,_,h,_=>by simp at h
 | _ :: _,[],_,_,_,_,h,_=>by simp at h
 | (k,x) :: ka,(k',y) :: kb,_,o,r1,r2,hk,h1=>by
  rw [List.map_cons,List.map_cons] at hk
  obtain ⟨e1,e2⟩:=List.cons.inj hk
  simp only at e1
  subst e1
  generalize hub:ub.drop o=ud at r2
  cases r1 with
  | @cons _ u _ ua hu1 r1 =>
  cases r2 with
  | @cons _ v _ uc hv1 r2 =>
  obtain ⟨u1,u2⟩:=u
  obtain ⟨v1,v2⟩:=v
  obtain ⟨a1,a2⟩:=hu1
  obtain ⟨b1,b2⟩:=hv1
  simp only at a1 a2 b1 b2
  subst a1 b1
  have hat:ub[o]? = some (k,v2):=by
   have:(ub.drop o)[0]? = some (k,v2):=by rw [hub]; rfl
   rwa [List.getElem?_drop,Nat.add_zero] at this
  have hdr:ub.drop (o + 1)=uc:=by
   rw [← List.drop_drop,hub]; rfl
  have h3:=CH (A:=A) hu I (h1 0 x y rfl rfl) a2 b2
  have r:=yL hu I hn ka kb ua (o + 1) r1 (by rw [hdr]; exact r2) e2 (fun i x y p q=>h1 (i + 1) x y p q)
  exact KeqHits.hit (wI hn hat) h3 r
end
def MY:R2:=fun x y H Q=>∃ (p q:Addr) (ka kb:List (Key × V)),x=.ref p∧y=.ref q∧H p=some (.dK ka)∧H q=some (.dK kb)∧ka.map (·.1)=kb.map (·.1)∧(∀ (i:Nat) x y,(ka.map (·.2))[i]? = some x→(kb.map (·.2))[i]? = some y→LW H x y)∧Q (.bl false) H
theorem FH {X:Cx} (hu:X.A.units + 6 < cLine):jS X (compareOp .NotEq) MY:=by
 intro pins s σ H x y v u Q I rx ry h
 obtain ⟨p,q,ka,kb,rfl,rfl,hp,hq,hk,h1,k⟩:=h
 cases rx
 cases ry
 obtain ⟨_,y1,va,r1,d1⟩:=qT I.hok hp
 obtain ⟨_,y2,vb,r2,d2⟩:=qT I.hok hq
 have hnb:(vb.map (·.1)).Nodup:=by
  obtain ⟨_,_,_,_,_,_,_,_,hn⟩:=d2
  exact hn
 have la:=r1.length
 have lb:=r2.length
 have lk:ka.length=kb.length:=by have:=congrArg List.length hk; simpa using this
 refine keq_ne y1 y2 d1 d2 (by omega) (r:=true) (fun _=>yL (A:=X.A.in1) (by show X.A.units + 1 + 1 < cLine; omega) I hnb ka kb va 0 r1 (by rw [List.drop_zero]; exact r2) hk h1) ?_
 have e3:(va.length == vb.length && true)=true:=by simp; omega
 rw [e3]
 exact ⟨.bl false,H,I,rfl,k⟩
def EqS (H:Hp) (x y:V):Prop:=(∃ p q xs,x=.ref p∧y=.ref q∧H p=some (.lst xs)∧H q=some (.lst xs)∧∀ z ∈ xs,∃ c,z=.ref c)∨LW H x y
section
variable {X:Cx} {pins:List (Addr × Obj)} {σ:St} {H:Hp} {s:Shared}
theorem Kg {A:Around} {c:Addr} {u v:Value} (ru:RelV (.ref c) u) (rv:RelV (.ref c) v):SeqAt.EqAt A s u v true:=by
 cases ru
 cases rv
 exact SeqAt.EqAt.same _
theorem Kh {A:Around} (hu:A.units + 1 < cLine) (I:Inv X pins σ H s) {x y:V} {u v:Value} (h:EqS H x y) (ru:RelV x u) (rv:RelV y v):SeqAt.EqAt A s u v true:=by
 rcases h with ⟨p,q,xs,rfl,rfl,hp,hq,hs⟩ | h
 ·cases ru
  cases rv
  by_cases e:p=q
  ·subst e; exact SeqAt.EqAt.same _
  ·refine SeqAt.EqAt.of_refs e (oN (by omega) I hp hq rfl fun i a b u v ha hb r1 r2=>?_)
   rw [ha] at hb
   cases hb
   obtain ⟨c,rfl⟩:=hs a (List.mem_of_getElem? ha)
   exact Kg r1 r2
 ·exact CH hu I h ru rv
end
def MZ:R2:=fun x y H Q=>∃ (p q:Addr) (xs ys:List V),x=.ref p∧y=.ref q∧H p=some (.tup xs)∧H q=some (.tup ys)∧xs.length=ys.length∧(∀ (i:Nat) a b,xs[i]? = some a→ys[i]? = some b→EqS H a b)∧Q (.bl false) H
theorem FI {X:Cx} (hu:X.A.units + 2 < cLine):jS X (compareOp .NotEq) MZ:=by
 intro pins s σ H x y v u Q I rx ry h
 obtain ⟨p,q,xs,ys,rfl,rfl,hp,hq,hl,hs,k⟩:=h
 cases rx
 cases ry
 obtain ⟨_,i1,r1,t1⟩:=(show cv X.prog X.w H s.heap p (.tup xs) from I.hok p _ hp)
 obtain ⟨_,i2,r2,t2⟩:=(show cv X.prog X.w H s.heap q (.tup ys) from I.hok q _ hq)
 have l1:=r1.length
 have l2:=r2.length
 have key:=SeqAt.RcNeAt.tuples (A:=X.A) (s:=s) (e:=fun _=>true) t1 t2 (by omega) fun j h1 h2=>by
  have j1:j < xs.length:=by simp at h1; omega
  have j2:j < ys.length:=by omega
  have z1:xs[j]? = some xs[j]:=List.getElem?_eq_getElem j1
  have z2:ys[j]? = some ys[j]:=List.getElem?_eq_getElem j2
  obtain ⟨u1,w1,q1⟩:=r1.get z1
  obtain ⟨u2,w2,q2⟩:=r2.get z2
  have e1:i1.toArray[j]=u1:=by
   have:i1[j]? = some i1[j]:=List.getElem?_eq_getElem (by omega)
   rw [this] at w1
   simpa using w1
  have e2:i2.toArray[j]=u2:=by
   have:i2[j]? = some i2[j]:=List.getElem?_eq_getElem (by omega)
   rw [this] at w2
   simpa using w2
  rw [e1,e2]
  exact Kh (A:=X.A.in1) (by show X.A.units + 1 + 1 < cLine; omega) I (hs j _ _ z1 z2) q1 q2
 rw [all_true] at key
 have e3:(!(true && i1.toArray.size == i2.toArray.size))=false:=by simp; omega
 rw [e3] at key
 exact key _ _ _ _ ⟨.bl false,H,I,rfl,k⟩
end L2
namespace L2
open PySem PySem.Spec PyProof.Rows
section
variable {X:Cx}
def FJ (K:PySem.W.Frag):V→List V→Hp→VK→Prop:=fun x vs H Q=>∃ (p:Addr) (ns:List Int) (k:Int),x=.ref p∧vs=[.int k]∧aZ K H p (ns.map V.int)∧Q (.int (ns.count k:Nat)) H
theorem qZ {k:Int}:∀ {ns:List Int} {its:List Value},Vals (ns.map V.int) its→its.countP (uq (.int k))=ns.count k
 | [],[],_=>rfl
 | n :: ns,u :: its,.cons h r=>by
  have e:uq (.int k) u=(n == k):=by rw [wg (y:=.int n) h rfl]; rfl
  rw [List.countP_cons,List.count_cons,qZ r,e]
theorem Ar:QT X "list.count" (FJ X.K):=by
 intro pins s σ H x vs v us Q I rx rv h
 obtain ⟨p,ns,k,rfl,rfl,hp,q⟩:=h
 cases rx
 obtain ⟨u,rfl,ru⟩:=rv.one
 obtain ⟨t,rfl⟩:=ru
 obtain ⟨its,r,pl,hz⟩:=I.list hp
 obtain ⟨o,ho,hc,m,hdat⟩:=pl.isList
 obtain ⟨oc,od,odt,osl⟩:=o
 have hc:oc=_:=hc
 have hdat:odt=_:=hdat
 subst hc hdat
 have fl:(ns.map V.int).all jH=true:=by
  rw [List.all_eq_true]
  intro y hy
  obtain ⟨i,_,rfl⟩:=List.mem_map.mp hy
  rfl
 refine call_meets F.slot_list_count ⟨_,ho,rfl⟩ F.entry_list_count (F.args_list_count_2 _ _)
  (SeqAt.list_countAt p its.toArray m od osl (.int k t) (uq (.int k))) ⟨ho,fun y hy=>hU (x:=.int k) ⟨t,rfl⟩ rfl r fl y (by simpa using hy),⟨.int (ns.count k:Nat),H,I.tok _,⟨s.toks,by rw [List.toList_toArray,qZ r]⟩,q⟩⟩
end
section
variable {X:Cx}
def Sw (K:PySem.W.Frag):List V→Hp→VK→Prop:=fun xs H Q=>∃ (p:Addr) (ns:List Int),xs=[.ref p]∧aZ K H p (ns.map V.int)∧Q (.int ns.sum) H
theorem vf (hc:X.calm=true):hC X (.builtin "sum") (Sw X.K):=by
 intro pins s σ H xs QW Q I r h
 obtain ⟨p,ns,rfl,hp,q⟩:=h
 obtain ⟨u,rfl,ru⟩:=vals1 r
 cases ru
 obtain ⟨its,hv,pl,_⟩:=I.list hp
 have hi:=intsAre_of hv
 obtain ⟨xs,hx⟩:=hi.allInts.items
 have hl':s.heap.IsList p (intItems xs):=hx ▸ pl.isList
 refine sum_intListG (I.ok.hd hc) hl' fun h' tk t' hk=>?_
 have e1:ns=xs.toList.map (·.1):=by
  rw [← nums_intItems,← hx]
  exact (show numsOf its.toArray.toList=ns from hi.numsOf).symm
 have e2:preSum (numAt xs) xs.size=ns.sum:=by
  rw [preSum_eq,List.take_of_length_le (by simp),e1]
 rw [e2]
 exact ⟨.int ns.sum,H,I.kept hk,⟨_,rfl⟩,q⟩
end
end L2
namespace PySem.W.Fast
def tw1023048999646403208:Nat:=0
def tw15381754874948127396:Nat:=0
def tw5451158313088501892:Nat:=0
def tw12325941455784419443:Nat:=0
def tw7964279015651289382:Nat:=0
def tw2316720772917344153:Nat:=0
def tw17539957646151326345:Nat:=0
def tw4861609708987512712:Nat:=0
def tw3951222658631189866:Nat:=0
def tw1499942140900873621:Nat:=0
def tw16191526661627202365:Nat:=0
def tw74041953783516652:Nat:=0
def tw132844967409834815:Nat:=0
def tw10588027724165752458:Nat:=0
def tw4645125379257014737:Nat:=0
def tw10323128051264561614:Nat:=0
def tw14297812969712465960:Nat:=0
def tw9945072653436091677:Nat:=0
def tw6600925294686329809:Nat:=0
def tw8984282260603315143:Nat:=0
def tw4007080537664486313:Nat:=0
def tw6340753447717441831:Nat:=0
def tw13789182319562474890:Nat:=0
def tw7451565580894271955:Nat:=0
def tw15881968293601515815:Nat:=0
def tw8048744048556662521:Nat:=0
def tw515153039114372784:Nat:=0
def tw2076450654168764508:Nat:=0
def tw6500367657078054852:Nat:=0
def tw5880192826644852645:Nat:=0
def tw12667411500371307878:Nat:=0
def tw11223302035203253335:Nat:=0
def tw11874468410806671831:Nat:=0
def tw14355515690133595673:Nat:=0
def tw17049399472092514260:Nat:=0
def tw424182355472605753:Nat:=0
def tw11155070365843000010:Nat:=0
def tw8211624870862248833:Nat:=0
def tw11035598203695983375:Nat:=0
def tw16338860445817061662:Nat:=0
def tw5727018555523303766:Nat:=0
def tw17774059468108690466:Nat:=0
def tw8295344292405886328:Nat:=0
def tw17372324109964032854:Nat:=0
def tw2633329589275448545:Nat:=0
def tw13356225193798574393:Nat:=0
def tw17937592945938075847:Nat:=0
def tw8093207276791468744:Nat:=0
def tw3148571408193919717:Nat:=0
def tw2539435498783093999:Nat:=0
def tw13746212926989170067:Nat:=0
def tw10347439263369697742:Nat:=0
def tw11829276033680131075:Nat:=0
def tw6019955277398310674:Nat:=0
def tw4046163208698198380:Nat:=0
def tw15658119948498086958:Nat:=0
def tw13649909045447878033:Nat:=0
def tw1135996766171400928:Nat:=0
def tw13630425053662934974:Nat:=0
def tw12833609032491654290:Nat:=0
def tw14907042600477291621:Nat:=0
def tw12533804541579131508:Nat:=0
def tw5653505005150631834:Nat:=0
def tw3118646596114790549:Nat:=0
def tw11480439521563671965:Nat:=0
def tw14910034639124066317:Nat:=0
def tw5094425886398157502:Nat:=0
def tw16719226964217963870:Nat:=0
def tw3797570065444362431:Nat:=0
def tw5157694688912736369:Nat:=0
def tw1206590022199888593:Nat:=0
def tw12066334716311944484:Nat:=0
def tw5159647103790243998:Nat:=0
def tw6516131564344167038:Nat:=0
def tw8346199054238848015:Nat:=0
def tw11066408351482095442:Nat:=0
def tw8352963413736828532:Nat:=0
def tw4507516595127135502:Nat:=0
def tw13644090549584916438:Nat:=0
def tw16232375001595124668:Nat:=0
def tw9536137249411572306:Nat:=0
def tw8795123799746983408:Nat:=0
def tw1927907128712784724:Nat:=0
def tw11822490108939355600:Nat:=0
def tw18214493581301583358:Nat:=0
def tw17087199151737212187:Nat:=0
def tw13922946695326546028:Nat:=0
def tw16344698254105131793:Nat:=0
def tw3215940573179960790:Nat:=0
def tw1137305521045826096:Nat:=0
def tw2480744830660586171:Nat:=0
def tw10475539080581566720:Nat:=0
def tw4794722320148919879:Nat:=0
def tw7623837586193436045:Nat:=0
def tw5203590522551801997:Nat:=0
def tw14018278493924101654:Nat:=0
def tw211918055421135673:Nat:=0
def tw12963971258475901558:Nat:=0
def tw6050450729555674668:Nat:=0
def tw2885124490123712364:Nat:=0
def tw11657389766248886083:Nat:=0
def tw16130600017722184954:Nat:=0
def tw8378804749436691496:Nat:=0
def tw6851546391149747328:Nat:=0
def tw14601990471208862958:Nat:=0
def tw7707837850595976490:Nat:=0
def tw10400215456713701258:Nat:=0
def tw12680844941234885764:Nat:=0
def tw12517231304588300125:Nat:=0
def tw4638169144549894723:Nat:=0
def tw14704908367320191365:Nat:=0
def tw6152674870386839579:Nat:=0
def tw9526768127799027832:Nat:=0
def tw15208329618177061720:Nat:=0
def tw3235689213277360095:Nat:=0
def tw6452823928608581666:Nat:=0
def tw18255619748541530052:Nat:=0
def tw18244526430001689441:Nat:=0
def tw3742482487124929634:Nat:=0
def tw2195275882600457220:Nat:=0
def tw12227672105588379927:Nat:=0
def tw14468836384479503425:Nat:=0
def tw13089812135649514433:Nat:=0
def tw4644477346713046269:Nat:=0
def tw10601705943515673458:Nat:=0
def tw8892732709254368710:Nat:=0
def tw2905936854157925809:Nat:=0
def tw4087963133232661066:Nat:=0
def tw8418854625388878737:Nat:=0
def tw16221155539470929629:Nat:=0
def tw15464321658598396029:Nat:=0
def tw7406582151639844795:Nat:=0
def tw16144161216345481476:Nat:=0
def tw5868757553795663987:Nat:=0
def tw15683522751906044045:Nat:=0
def tw18028136499328021702:Nat:=0
def tw11424614402370553210:Nat:=0
def tw14621735825131615398:Nat:=0
def tw11129072016867391703:Nat:=0
def tw10419387026625580457:Nat:=0
end PySem.W.Fast
namespace My
open PySem L2
theorem _root_.L2.fc.u {n:Nat} {A:Around} (hr:fc n A) (k:Nat) (h:k ≤ 64:=by decide):A.units + k < cLine:=Nat.lt_of_le_of_lt (Nat.add_le_add_left h _) hr.units
abbrev KI (K:PySem.W.Frag) (f:Addr):Prop:=PySem.W.keepIn K (.ref f)=true
theorem sv:0 ≤ sizeLine:=by decide
theorem qw:1 ≤ sizeLine:=by decide
theorem dG:2 ≤ sizeLine:=by decide
theorem km:3 ≤ sizeLine:=by decide
theorem C1:4 ≤ sizeLine:=by decide
theorem Sx:5 ≤ sizeLine:=by decide
theorem Sy:7 ≤ sizeLine:=by decide
theorem M4:13 ≤ sizeLine:=by decide
theorem M6:20 ≤ sizeLine:=by decide
theorem C2:(0:Int) < 2:=by decide
theorem Sz:(0:Int) < 3:=by decide
theorem wJ:(0:Int) < 4:=by decide
theorem SA:(0:Int) < 5:=by decide
theorem SD:(0:Int) < 6:=by decide
theorem SE:(0:Int) < 7:=by decide
theorem Ki:(0:Int) < 8:=by decide
theorem M7:(0:Int) < 9:=by decide
theorem M8:(0:Int) < 12:=by decide
theorem M9:(0:Int) < 16:=by decide
theorem Nc:(0:Int) < 19:=by decide
theorem Nf:(0:Int) < 20:=by decide
theorem Ng:(0:Int) < 41:=by decide
theorem FK:(0:Int) < 2001:=by decide
theorem oQ:(0:Int) < 1000001:=by decide
theorem qx:(0:Int) < 2147483629:=by decide
theorem jK:(0:Int) < 2147483647:=by decide
open List (any_cons append_nil eq_nil_or_concat filter filter_append filter_cons length_append length_cons length_drop length_eq_zero_iff length_filter_le length_map length_set length_take map_append map_cons map_drop map_map map_set map_take mem_append mem_cons mem_filter mem_map mem_singleton nodup_cons nodup_nil not_mem_nil replicate sum_cons take_add_one take_length take_of_length_le zip_cons_cons)
open PySem.W (Frag KeysLit OpenLaw WalkO codeIn findIn fnOf isFn kIn_of keepIn kitMeta kitOne mg_none_of mg_of nsIn)
open Option (map_eq_some_iff)
open Nat (le_of_ble_eq_true le_refl le_succ le_trans lt_of_le_of_lt lt_or_ge min_eq_left zero_add zero_le)
def top (i:Nat):Stmt:=PySem.Challenge.pw_widenrows_k54_whole_places_add_up.main.body.getD i (.Pass ⟨0,0,0,0⟩)
abbrev s_end:Stmt:=top 7
abbrev jd:Stmt:=top 8
abbrev je:Stmt:=top 9
abbrev jf:Stmt:=top 10
abbrev ko:Stmt:=top 11
abbrev jg:Stmt:=top 12
abbrev jh:Stmt:=top 13
abbrev kr:Stmt:=top 14
abbrev ji:Stmt:=top 15
abbrev jj:Stmt:=top 16
abbrev jk:Stmt:=top 17
abbrev jl:Stmt:=top 18
abbrev ku:Stmt:=top 19
abbrev kx:Stmt:=top 20
abbrev jm:Stmt:=top 21
abbrev jn:Stmt:=top 22
abbrev jo:Stmt:=top 23
abbrev iE:Stmt:=top 24
abbrev jq:Stmt:=top 25
abbrev jr:Stmt:=top 26
abbrev iF:Stmt:=top 27
abbrev gn:Stmt:=top 33
abbrev dX:Stmt:=top 34
abbrev gq:Stmt:=top 35
abbrev fe:Stmt:=top 41
abbrev dm:Stmt:=top 42
abbrev dF:Stmt:=top 43
abbrev gw:Stmt:=top 44
abbrev dP:Stmt:=top 45
abbrev gA:Stmt:=top 46
abbrev ia:Stmt:=top 47
abbrev cL:Stmt:=top 48
abbrev dY:Stmt:=top 49
abbrev fh:Stmt:=top 54
abbrev gB:Stmt:=top 55
abbrev gC:Stmt:=top 56
abbrev dn:Stmt:=top 57
abbrev cM:Stmt:=top 58
abbrev cO:Stmt:=top 59
abbrev bV:Stmt:=top 60
abbrev cD:Stmt:=top 62
abbrev fj:Stmt:=top 63
abbrev eI:Stmt:=top 64
abbrev cV:Stmt:=top 65
abbrev ib:Stmt:=top 66
abbrev dZ:Stmt:=top 67
abbrev er:Stmt:=top 69
abbrev eO:Stmt:=top 70
abbrev ic:Stmt:=top 71
abbrev ez:Stmt:=top 72
abbrev gG:Stmt:=top 73
abbrev eC:Stmt:=top 74
abbrev bQ:Stmt:=top 76
abbrev cY:Stmt:=top 77
abbrev dQ:Stmt:=top 78
abbrev dI:Stmt:=top 79
abbrev gD:Stmt:=top 80
abbrev iV:Stmt:=top 81
theorem jt:bootBuiltins "list" = some (.type "list"):=by decide +kernel
theorem ky:bootBuiltins "tuple" = some (.type "tuple"):=by decide +kernel
theorem C3:bootBuiltins "set" = some (.type "set"):=by decide +kernel
theorem FL:bootBuiltins "bool" = some (.type "bool"):=by decide +kernel
theorem cn:bootBuiltins "len" = some (.builtin "len"):=by decide +kernel
theorem rc:bootBuiltins "sorted" = some (.builtin "sorted"):=by decide +kernel
theorem iW:bootBuiltins "isinstance" = some (.builtin "isinstance"):=by decide +kernel
theorem at0 {α:Type} (a:α) (r:List α):oq (a :: r) 0=some a:=cw (j:=0) rfl
theorem at1 {α:Type} (a b:α) (r:List α):oq (a :: b :: r) 1=some b:=cw (j:=1) rfl
theorem at2 {α:Type} (a b c:α) (r:List α):oq (a :: b :: c :: r) 2=some c:=cw (j:=2) rfl
theorem strEq {a b:Str} (h:decide (V.str a=V.str b)=true):a=b:=V.str.inj (of_decide_eq_true h)
theorem Iy {a b:Str} (h:¬ decide (V.str a=V.str b)=true):¬ a=b:=fun e=>h (by rw [e]; exact decide_eq_true rfl)
theorem fQ (w:Str):∀ ss:List Str,inV (.str w) (ss.map V.str)=decide (w ∈ ss)
 | []=>rfl
 | x :: r=>by
  have ih:=fQ w r
  unfold inV at ih ⊢
  rw [map_cons,any_cons,ih]
  show ((x == w) || _)=_
  by_cases h:x=w
  ·subst h
   simp
  ·have h':¬ w=x:=fun e=>h e.symm
   simp [h,h']
theorem ai {H:Hp} {l:Addr} {o:HO} (h:H l=none):Same H (upd H l o):=fun b u e=>by
 rw [aK (aw e h)]
 exact e
theorem sx:bootBuiltins "int" = some (.type "int"):=by decide +kernel
theorem Kj:bootBuiltins "str" = some (.type "str"):=by decide +kernel
theorem wK:bootBuiltins "all" = some (.builtin "all"):=by decide +kernel
theorem iX {H:Hp} {l a:Addr} {o u:HO} (n:H l=none) (h:H a=some u):upd H l o a=some u:=by
 rw [aK (aw h n)]
 exact h
theorem bz {H H1:Hp} {l:Addr} {o:HO} (e:Same H H1) (h:H l=none):Same H (upd H1 l o):=fun b u z=>by
 rw [aK (aw z h)]
 exact e b u z
theorem Kk {K:Frag} {a b:String} {r:Bool} (h1:(Value.type a == Value.type b)=false) (h2:kitMeta b=true) (h3:(fastBuiltinMro a).map (·.contains (Value.type b))=some r):kitOne K (.type a) (.type b)=some r:=by
 unfold kitOne
 rw [if_neg (by rw [h1]; decide)]
 show (if kitMeta b=true then (fastBuiltinMro a).map (·.contains (Value.type b)) else none)=some r
 rw [if_pos h2]
 exact h3
theorem sy {K:Frag} {a:String} (h:(Value.type a == Value.type a)=true):kitOne K (.type a) (.type a)=some true:=by
 unfold kitOne
 rw [if_pos h]
theorem wL {K:Frag}:kitOne K (.type "int") (.type "bool")=some false:=Kk (by decide) (by decide +kernel) (by decide +kernel)
theorem Au {K:Frag}:kitOne K (.type "int") (.type "int")=some true:=sy (by decide)
theorem gW {K:Frag}:kitOne K (.type "tuple") (.type "tuple")=some true:=sy (by decide)
theorem mj {K:Frag}:kitOne K (.type "list") (.type "list")=some true:=sy (by decide)
def cy:List Str:=["stop", "back", "halt", "jump"]
def fX:List Str:=["jump", "call", "mark"]
def zb:List Str:=["zero", "below"]
def Parts (H:Hp) (w:Str) (items:List V) (ts:List Int):Prop :=
 if w = "table" then ∃ (b:V) (q:Addr),items=[b,.ref q]∧H q=some (.tup (ts.map V.int))
 else if w ∈ fX then ∃ (t:Int) (f:V),items=[.int t,f]∧ts=[t]
 else if w ∈ zb then ∃ (b:V) (t:Int) (f:V),items=[b,.int t,f]∧ts=[t] else ts=[]
def oR (H:Hp) (r:Addr) (w:Str) (ts:List Int):Prop:=∃ items,H r=some (.tup (.str w :: items))∧Parts H w items ts
theorem Parts.same {H H':Hp} {w:Str} {items:List V} {ts:List Int} (e:Same H H') (h:Parts H w items ts):Parts H' w items ts:=by
 unfold Parts at h ⊢
 split
 ·rename_i h1
  rw [if_pos h1] at h
  obtain ⟨b,q,h2,h3⟩:=h
  exact ⟨b,q,h2,e _ _ h3⟩
 ·rename_i h1
  rw [if_neg h1] at h
  exact h
theorem oR.same {H H':Hp} {r:Addr} {w:Str} {ts:List Int} (e:Same H H') (h:oR H r w ts):oR H' r w ts:=by
 obtain ⟨items,h1,h2⟩:=h
 exact ⟨items,e _ _ h1,h2.same e⟩
structure Txt (K:Frag) (pr:Params) (mg:Str→Option Value):Prop where
 oS:∃ p,mg "NOT_GOING_ON" = some (.ref p)∧∀ H,bp K H p [.str "stop",.str "back",.str "halt",.str "jump"]
 vg:∃ t,mg "MOST_ROWS" = some (.int (4000) t)
 oU:∃ t,mg "MOST_TARGETS" = some (.int (16) t)
 C4:∃ p,mg "BOUNDS" = some (.ref p)∧FC K pr p∧(∃ q,dE K pr p "box" (some (.ref q))∧∀ H,bp K H q [.int 0,.int 7])∧(∃ q,dE K pr p "aside" (some (.ref q))∧∀ H,bp K H q [.int 0,.int 1000000])∧(∃ q,dE K pr p "target" (some (.ref q))∧∀ H,bp K H q [.int 0,.int 1000000000])∧(∃ q,dE K pr p "number" (some (.ref q))∧∀ H,bp K H q [.int 0,.int 1000000])∧(∃ q,dE K pr p "value" (some (.ref q))∧∀ H,bp K H q [.int (-1000000000),.int 1000000000])∧(∃ q,dE K pr p "far" (some (.ref q))∧∀ H,bp K H q [.int 0,.int 1])
 FN:∃ p,mg "PARTS" = some (.ref p)∧FC K pr p∧(∃ q,dE K pr p "stop" (some (.ref q))∧∀ H,bp K H q [])∧(∃ q,dE K pr p "back" (some (.ref q))∧∀ H,bp K H q [])∧(∃ q,dE K pr p "halt" (some (.ref q))∧∀ H,bp K H q [.str "number"])∧(∃ q,dE K pr p "set" (some (.ref q))∧∀ H,bp K H q [.str "box",.str "value"])∧(∃ q,dE K pr p "more" (some (.ref q))∧∀ H,bp K H q [.str "box",.str "value"])∧(∃ q,dE K pr p "copy" (some (.ref q))∧∀ H,bp K H q [.str "box",.str "box"])∧(∃ q,dE K pr p "add" (some (.ref q))∧∀ H,bp K H q [.str "box",.str "box"])∧(∃ q,dE K pr p "less" (some (.ref q))∧∀ H,bp K H q [.str "box",.str "box"])∧(∃ q,dE K pr p "load" (some (.ref q))∧∀ H,bp K H q [.str "box",.str "box"])∧(∃ q,dE K pr p "keep" (some (.ref q))∧∀ H,bp K H q [.str "box",.str "box"])∧(∃ q,dE K pr p "tell" (some (.ref q))∧∀ H,bp K H q [.str "box"])∧(∃ q,dE K pr p "see" (some (.ref q))∧∀ H,bp K H q [.str "box",.str "number"])∧(∃ q,dE K pr p "put" (some (.ref q))∧∀ H,bp K H q [.str "box",.str "aside"])∧(∃ q,dE K pr p "take" (some (.ref q))∧∀ H,bp K H q [.str "box",.str "aside"])∧(∃ q,dE K pr p "jump" (some (.ref q))∧∀ H,bp K H q [.str "target",.str "far"])∧(∃ q,dE K pr p "zero" (some (.ref q))∧∀ H,bp K H q [.str "box",.str "target",.str "far"])∧(∃ q,dE K pr p "below" (some (.ref q))∧∀ H,bp K H q [.str "box",.str "target",.str "far"])∧(∃ q,dE K pr p "call" (some (.ref q))∧∀ H,bp K H q [.str "target",.str "far"])∧(∃ q,dE K pr p "mark" (some (.ref q))∧∀ H,bp K H q [.str "target",.str "far"])∧(∃ q,dE K pr p "table" (some (.ref q))∧∀ H,bp K H q [.str "box",.str "targets"])
 qy:∃ t,mg "MOST_WISHES" = some (.int (12) t)
 C5:∃ p,mg "PLACES" = some (.ref p)∧FC K pr p∧dE K pr p "before" (some (.int 2))∧dE K pr p "after" (some (.int 2))∧dE K pr p "way" (some (.int 3))
 FO:∃ p,mg "WHATS" = some (.ref p)∧FC K pr p∧(∃ q,dE K pr p "look" (some (.ref q))∧∀ H,bp K H q [.str "number",.str "box"])∧(∃ q,dE K pr p "count" (some (.ref q))∧∀ H,bp K H q [.str "number"])∧(∃ q,dE K pr p "guard" (some (.ref q))∧∀ H,bp K H q [.str "number",.str "box"])
 len:mg "len" = none
 list:mg "list" = none
 tuple:mg "tuple" = none
 int:mg "int" = none
 bool:mg "bool" = none
 str:mg "str" = none
 dict:mg "dict" = none
 Iz:mg "isinstance" = none
 enum:mg "enumerate" = none
 range:mg "range" = none
 sum:mg "sum" = none
 all:mg "all" = none
 zip:mg "zip" = none
 sorted:mg "sorted" = none
 set:mg "set" = none
def isStar:Expr→Bool
 | .Starred _ _=>true
 | _=>false
theorem FP {e:Expr} {es:List Expr} {env:Env} (h:isStar e=false):starEach (e :: es) env=(false,eval e env) :: starEach es env:=starEach.eq_3 _ _ _ (fun e1 p h1=>by rw [h1] at h; cases h)
inductive Kl (X:Cx):List Expr→List TE→Prop where
 | nil:Kl X [] []
 | cons {e:Expr} {te:TE} {es:List Expr} {ts:List TE} (h:PE X e te) (r:Kl X es ts) (hs:isStar e=false:=by rfl):Kl X (e :: es) (te :: ts)
def FQ:List TE→TA
 | []=>B6
 | te :: ts=>Iq te (FQ ts)
theorem Kl.pa {X:Cx} {es:List Expr} {ts:List TE} (h:Kl X es ts):PA X es (FQ ts):=by
 induction h with
 | nil=>exact ak
 | cons h r hs ih=>exact ae h ih (FP hs)
theorem FT {X:Cx} {es:List Expr} {ts:List TE} {pos:Pos} (h:Kl X es ts):PE X (.List es pos) (B7 (FQ ts)):=cr h.pa
@[irreducible] def LZ (X:Cx) (e:Expr) (t:TE):Prop:=PE X e t
@[irreducible] def Q6 (X:Cx) (e:Stmt) (t:TS):Prop:=PS X e t
theorem FU {X:Cx} {es:List Expr} {ts:List TE} {pos:Pos} (h:Kl X es ts):LZ X (.List es pos) (B7 (FQ ts)):=by
 unfold LZ
 exact cr h.pa
theorem yM {X:Cx} {pos:Pos} {i:Nat} {x:Str} {e:Expr} {te:TE} {pos':Pos} (hN:X.N.Nodup) (hi:X.N[i]? = some x) (hx:Loc X.env.scope x) (he:LZ X e te) (hs:swapsWith e (some (.Name x pos')) pos.line X.env=pure false:=by rfl) (hf:X.fn x=true∨X.env.scope.names.lookup x=some .local:=by first | exact .inl rfl | exact .inr rfl | assumption) :
  Q6 X (.Assign [.Name x pos'] e pos) (BW te (gF i)):=by
 unfold LZ at he
 unfold Q6
 exact aT hN hi hx he hs hf
theorem vh {X:Cx} {st:Stmt} {t:TS} (h:Q6 X st t):LY X st t:=by
 unfold Q6 at h
 exact aA h
theorem eP {c A B:Prop} [Decidable c] (h:c) (a:A):if c then A else B:=by rw [if_pos h]; exact a
theorem cQ {c A B:Prop} [Decidable c] (h:¬ c) (b:B):if c then A else B:=by rw [if_neg h]; exact b
theorem ju {n:Nat} (h:n ≤ 1000000):n ≤ sizeLine:=le_trans h (by decide)
theorem bu {n:Nat} (h:n ≤ 1000000):n < sizeLine:=lt_of_le_of_lt h (by decide)
theorem iY {X:Cx} {K:Frag} (hK:X.K=K) {i j:Nat} {x y:Str} {px py pt:Pos} {k:Nat} (hc:X.calm=true) (hN:X.N.Nodup) (hi:X.N[i]? = some x) (hx:Loc X.env.scope x) (hj:X.N[j]? = some y) (hy:Loc X.env.scope y)
  (hf:X.fn x=true∨X.env.scope.names.lookup x=some .local:=by first | exact .inl rfl | exact .inr rfl) (hf2:X.fn y=true∨X.env.scope.names.lookup y=some .local:=by first | exact .inl rfl | exact .inr rfl) :
  PG X (.Tuple [.Name x px,.Name y py] k pt) (JC K 2 (uH (gF i) (uH (gF j) JB))):=hK ▸ JD (n:=2) hc (uI (cG hN hi hx hf) (uI (cG hN hj hy hf2) Fe))
abbrev IA:Stmt:=er
abbrev yN:Stmt:=eO
abbrev Nh:Stmt:=ic
abbrev IB:Stmt:=ez
abbrev IC:Stmt:=gG
def iZ:List Str:=["stop", "back", "halt", "set", "more", "copy", "add", "less", "load", "keep", "tell", "see", "put", "take", "jump", "zero", "below", "call", "mark", "table"]
def w2:List Str:=["copy", "add", "less", "load", "keep"]
def w1:List Str:=["set", "more", "tell", "see", "put", "take", "zero", "below", "table"]
def nG (u:Str) (items:List V):Prop:=(u ∈ w2→∃ b c:Int,items=[.int b,.int c])∧(u ∈ w1→∃ (b:Int) (r:List V),items=.int b :: r)
theorem nG.one {u:Str} {b:Int} {r:List V} (h:¬ u ∈ w2):nG u (.int b :: r):=⟨fun z=>absurd z h,fun _=>⟨b,r,rfl⟩⟩
def kinds:List (Str × List Str):=[("stop",[]),("back",[]),("halt",["number"]),("set",["box", "value"]),("more",["box", "value"]),("copy",["box", "box"]),("add",["box", "box"]),("less",["box", "box"]),("load",["box", "box"]),("keep",["box", "box"]),
 ("tell",["box"]),("see",["box", "number"]),("put",["box", "aside"]),("take",["box", "aside"]),("jump",["target", "far"]),("zero",["box", "target", "far"]),("below",["box", "target", "far"]),("call",["target", "far"]),("mark",["target", "far"]),("table",["box", "targets"])]
def five:List Str:=["jump", "call", "mark", "zero", "below"]
def fZ (u:Str):List Str:=((kinds.find? fun x=>x.1 == u).map (·.2)).getD []
def Q7 (u:Str):Nat:=(fZ u).length
theorem sC (w:Int):∀ ss:List Int,inV (.int w) (ss.map V.int)=decide (w ∈ ss)
 | []=>rfl
 | x :: r=>by
  have ih:=sC w r
  unfold inV at ih ⊢
  rw [map_cons,any_cons,ih]
  show ((x == w) || _)=_
  by_cases h:x=w
  ·subst h
   simp
  ·have h':¬ w=x:=fun e=>h e.symm
   simp [h,h']
theorem rh (ms:List Int):(ms.map V.int).all jH=true:=by
 rw [List.all_eq_true]
 intro x hx
 obtain ⟨i,_,rfl⟩:=mem_map.mp hx
 rfl
theorem rj:∀ {ms xs:List Int},ms.Nodup→(∀ j ∈ ms,j ∈ xs)→ms.length ≤ xs.length
 | [],_,_,_=>zero_le _
 | m :: ms,xs,hn,h=>by
  have hm:m ∈ xs:=h m (by simp)
  have:=rj (ms:=ms) (xs:=xs.erase m) (nodup_cons.mp hn).2 (fun j hj=>(List.mem_erase_of_ne (fun (e:j=m)=>(nodup_cons.mp hn).1 (by rw [← e]; exact hj))).mpr (h j (by simp [hj])))
  rw [List.length_erase_of_mem hm] at this
  have:0 < xs.length:=List.length_pos_of_mem hm
  simp
  omega
structure FR where
 u:Str
 is:List Int
 ts:List Int
def FR.Ok (d:FR):Prop:=d.u ∈ iZ∧(d.u = "table" → ∃ b,d.is=[b]∧d.ts ≠ [])∧(d.u ∈ fX→∃ t f,d.is=[t,f]∧d.ts=[t])∧(d.u ∈ zb→∃ b t f,d.is=[b,t,f]∧d.ts=[t]) ∧
 (¬ d.u = "table" → ¬ d.u ∈ fX→¬ d.u ∈ zb→d.ts=[]∧d.is.length=Q7 d.u)∧(d.u ∈ w2→∃ b c,d.is=[b,c])∧(d.u ∈ w1→∃ b r,d.is=b :: r)
def SG (H:Hp) (q:Addr) (d:FR):Prop:=(d.u = "table" ∧ ∃ b p,d.is=[b]∧H q=some (.tup [.str d.u,.int b,.ref p])∧H p=some (.tup (d.ts.map V.int)))∨(¬ d.u = "table" ∧ H q=some (.tup (.str d.u :: d.is.map V.int)))
def d9 (H:Hp) (q:Addr) (d:FR):Prop:=d.Ok∧SG H q d
theorem d9.same {H H':Hp} {q:Addr} {d:FR} (s:Same H H') (h:d9 H q d):d9 H' q d:=by
 obtain ⟨o,h⟩:=h
 refine ⟨o,?_⟩
 rcases h with ⟨a,b,p,e,h1,h2⟩ | ⟨a,h1⟩
 ·exact .inl ⟨a,b,p,e,s _ _ h1,s _ _ h2⟩
 ·exact .inr ⟨a,s _ _ h1⟩
theorem d9.parts {H:Hp} {q:Addr} {d:FR} (h:d9 H q d):∃ items,H q=some (.tup (.str d.u :: items))∧nG d.u items∧Parts H d.u items d.ts∧∀ (i:Nat) (b:Int),(d.u ∈ w1∨d.u ∈ w2)→i < 2→(d.u ∈ w1→i=0)→(items[i]? = some (.int b)↔d.is[i]? = some b):=by
 obtain ⟨⟨hu,h1,h2,h3,h4,h5,h6⟩,h⟩:=h
 rcases h with ⟨a,b,p,e,g1,g2⟩ | ⟨a,g1⟩
 ·refine ⟨_,g1,nG.one (by rw [a]; decide),?_,fun i b' _ hi hw=>?_⟩
  ·unfold Parts
   rw [if_pos a]
   exact ⟨_,p,rfl,g2⟩
  ·have:i=0:=hw (by rw [a]; decide)
   subst this
   rw [e]
   simp
 ·refine ⟨_,g1,⟨fun z=>?_,fun z=>?_⟩,?_,fun i b' _ hi hw=>?_⟩
  ·obtain ⟨b,c,e⟩:=h5 z
   exact ⟨b,c,by rw [e]; rfl⟩
  ·obtain ⟨b,r,e⟩:=h6 z
   exact ⟨b,r.map V.int,by rw [e]; rfl⟩
  ·unfold Parts
   rw [if_neg a]
   split
   ·rename_i z
    obtain ⟨t,f,e1,e2⟩:=h2 z
    exact ⟨t,.int f,by rw [e1]; rfl,e2⟩
   ·rename_i z1
    split
    ·rename_i z
     obtain ⟨b,t,f,e1,e2⟩:=h3 z
     exact ⟨.int b,t,.int f,by rw [e1]; rfl,e2⟩
    ·rename_i z2
     exact (h4 a z1 z2).1
  ·rw [List.getElem?_map,map_eq_some_iff]
   exact ⟨fun ⟨y,e1,e2⟩=>by cases e2; exact e1,fun e=>⟨b',e,rfl⟩⟩
def eU (H:Hp) (lr:Addr) (ds:List FR):Prop:=∃ qs:List Addr,H lr=some (.lst (qs.map V.ref))∧qs.length=ds.length∧∀ (i:Nat) q d,qs[i]? = some q→ds[i]? = some d→d9 H q d
theorem eU.same {H H':Hp} {lr:Addr} {ds:List FR} (s:Same H H') (h:eU H lr ds):eU H' lr ds:=by
 obtain ⟨qs,a,b,c⟩:=h
 exact ⟨qs,s _ _ a,b,fun i q d h1 h2=>(c i q d h1 h2).same s⟩
theorem eU.get {H:Hp} {lr:Addr} {ds:List FR} {r:Nat} {d:FR} (h:eU H lr ds) (hd:ds[r]? = some d):∃ (qs:List Addr) (q:Addr),H lr=some (.lst (qs.map V.ref))∧oq (qs.map V.ref) (r:Int)=some (.ref q)∧(qs.map V.ref)[r]? = some (.ref q)∧d9 H q d:=by
 obtain ⟨qs,a,b,c⟩:=h
 have hr:=(List.getElem?_eq_some_iff.mp hd).1
 have hq:qs[r]? = some (qs[r]'(by omega)):=List.getElem?_eq_getElem _
 have hq':(qs.map V.ref)[r]? = some (.ref (qs[r]'(by omega))):=by rw [List.getElem?_map,hq]; rfl
 exact ⟨qs,_,a,cw hq',hq',c r _ d hq hd⟩
def Ni (d:FR):Int:=d.is.getLastD 0
theorem cg {X:Cx}:jS X (binaryOp .FloorDiv) (rI (fun _ j=>0 < j∧j < 18446744073709551616) fun i j=>.int (i / j)):=QS fun i j _ _ _ _ _ hc q=>by
 have h1:(0:Int) < j:=hc.1
 have h2:j < 18446744073709551616:=hc.2
 refine PyProof.Rows.floordiv_int (by omega) (by rw [Int.fdiv_eq_ediv_of_nonneg i (by omega)]; exact q) (.inl (PyProof.noPylong_of_log2 ?_))
 have h3:j.natAbs.log2 < 64:=(Nat.log2_lt (by omega)).mpr (by omega)
 omega
theorem oV (xs:List V) (n:Nat):eJ xs none (some (n:Int))=xs.take n:=by
 unfold eJ
 have h1:HT.ef xs.length 0 none=0:=rfl
 have h2:HT.ef xs.length xs.length (some (n:Int))=min n xs.length:=HT.iA ..
 rw [h1,h2,List.drop_zero,Nat.sub_zero]
 rcases Nat.le_total n xs.length with h | h
 ·rw [min_eq_left h]
 ·rw [Nat.min_eq_right h,take_length,take_of_length_le h]
section
variable {P:Program} {w:World} {K:Frag} {mg:Str→Option Value} {base:Heap}
def C6:Sp:=fun vs H Q _=>∃ (a:Addr) (ns:List Int) (k:Int),vs=[.ref a,.int k]∧aZ K H a (ns.map V.int)∧0 ≤ k∧∀ c:Int,Q (.int c) H
theorem Km:aG ["_law_script", "_law_k"] ["_law_script", "_law_k"] (aj IA):=⟨rfl,rfl,rfl,by decide +kernel,rfl,by decide +kernel,by decide +kernel⟩
theorem FV {f:Addr} {fd:FuncData} (F:d6 K "_law_cell_at" "_law_cell_at" IA f fd) (T:Txt K w.params mg):aM P w K mg base bw 1 f fd ["_law_script", "_law_k"] (C6 (K:=K)):=by
 refine F.ok Km (fun vs H Q E h=>?_) (fun cdv A outer s H vs Q E hr h=>?_)
 ·obtain ⟨a,ns,k,rfl,_⟩:=h
  rfl
 ·obtain ⟨a,ns,k,rfl,hS,hk,q⟩:=h
  refine ⟨_,aH (dv (aP iQ (pv 1) (aQ aL (by rfl) T.len cn (ae (pv 0) ak)) (aY _)) (az (aS (aB aV (pv 0) (pv 1) (fun _ _=>rfl)))) aU)
   (az (aS ao)),?_⟩
  refine ⟨_,rfl,_,rfl,a,_,rfl,.inl hS,_,_,rfl,rfl,_,rfl,?_⟩
  refine d7 (fun h1=>?_) (fun h1=>?_)
  ·have h1:=of_decide_eq_true h1
   rw [length_map] at h1
   obtain ⟨j,rfl⟩:=Int.eq_ofNat_of_zero_le hk
   have hj:j < ns.length:=by omega
   refine ⟨_,rfl,_,rfl,a,_,_,.int ns[j],rfl,rfl,hS,cw (j:=j) ?_,q _⟩
   rw [List.getElem?_map,List.getElem?_eq_getElem hj]
   rfl
  ·exact q 0
def oW:Sp:=fun vs H Q _=>∃ (c:Int) (n:Nat),vs=[.int c,.int (n:Int)]∧n ≤ 10000∧∀ (l:Addr) (ms:List Int) (H':Hp),Same H H'→H l=none→H' l=some (.lst (ms.map V.int))→ms.length=n→(∀ x ∈ ms,0 ≤ x)→Q (.ref l) H'
theorem ml:aG ["_law_cell", "_law_many", "_law_found", "_law_number", "_law_k"] ["_law_cell", "_law_many"] (aj yN):=⟨rfl,rfl,rfl,by decide +kernel,rfl,by decide +kernel,by decide +kernel⟩
theorem Av {f:Addr} {fd:FuncData} (F:d6 K "_law_stream" "_law_stream" yN f fd) (T:Txt K w.params mg):aM P w K mg base bw 1 f fd ["_law_cell", "_law_many"] oW:=by
 refine F.ok ml (fun vs H Q E h=>?_) (fun cdv A outer s H vs Q E hr h=>?_)
 ·obtain ⟨c,n,rfl,_⟩:=h
  rfl
 ·obtain ⟨c,n,rfl,hn,k⟩:=h
  refine dA (au (aA (aT (i:=2) ml.nd rfl (Or.inl rfl) (cr ak)))
   (au (aA (aT (i:=3) ml.nd rfl (Or.inl rfl) (aJ cg (pv 0) ao)))
   (CP (aA (og PassesOwn.never (jR (aP eM (aJ bt (pv 0) ao) ao (aY _)) (jR (aP qM (pv 3) ao (aY _)) (j4 (aP iQ (aQ aL (by rfl) T.len cn (ae (pv 2) ak)) (pv 1) (aY _))))).pt (aH (bZ (hV PySem.F.plainAttrs_list PySem.F.slot_list_append PySem.F.type_list_append cJ (pv 2) (ae (aJ bt (pv 3) (aJ vP ao ao)) ak)))
   (az (aT (i:=3) ml.nd rfl (Or.inl rfl) (aJ cg (pv 3) (aJ vP ao ao)))))))
   (au (aA (aT (i:=3) ml.nd rfl (Or.inl rfl) (aJ bt (aJ rP (aJ cS (aJ cg (pv 0) ao) ao) ao) ao)))
   (au (aA (gU PassesOwn.never rfl (gm rfl T.range (ae (pv 1) ak)) (cG (i:=4) ml.nd rfl (Or.inl rfl)) (aH (aT (i:=3) ml.nd rfl (Or.inl rfl) (aJ bt (aJ rP (pv 3) (aJ cS (aJ cS (aJ cg (pv 3) ao) ao) (pv 4))) ao))
   (aH (bZ (hV PySem.F.plainAttrs_list PySem.F.slot_list_append PySem.F.type_list_append cJ (pv 2) (ae (aJ bt (aJ rP (pv 3) (aJ cS (aJ cg (pv 3) ao) ao)) ao) ak)))
   (az (aT (i:=3) ml.nd rfl (Or.inl rfl) (aJ cS (pv 3) ao)))))))
   (aO (aA (aS (dO gh (pv 2) iB (dC (pv 1))))))))))) ?_
  refine ⟨le_of_ble_eq_true rfl,fun l nl=>?_⟩
  have s0:=ai (o:=.lst []) nl
  have h0:upd H l (.lst []) l=some (.lst (([]:List Int).map V.int)):=ah
  generalize upd H l (.lst [])=G0 at s0 h0 ⊢
  refine ⟨_,rfl,_,_,rfl,rfl,⟨by show (0:Int) < 2; decide,by show (2:Int) < _; decide⟩,?_⟩
  have cp:JJ 10 9:=⟨by decide,by decide,by decide⟩
  refine ⟨fun σ G=>∃ (x:Int) (ms:List Int),σ=[some (.int c),some (.int (n:Int)),some (.ref l),some (.int x),none]∧Same H G∧G l=some (.lst (ms.map V.int))∧(∀ y ∈ ms,0 ≤ y)∧ms.length ≤ n,?_,?_⟩
  ·refine ⟨fun mm σ G=>∃ (x:Int) (ms:List Int),σ=[some (.int c),some (.int (n:Int)),some (.ref l),some (.int x),none]∧Same H G∧G l=some (.lst (ms.map V.int))∧(∀ y ∈ ms,0 ≤ y)∧ms.length ≤ n∧mm=n - ms.length,⟨_,_,[],rfl,s0,h0,fun y hy=>(not_mem_nil hy).elim,zero_le _,rfl⟩,?_⟩
   rintro mm σ G ⟨x,ms,rfl,s1,h1,hp,hl,rfl⟩
   refine ⟨_,rfl,_,_,rfl,rfl,C2,rfl,_,rfl,?_⟩
   refine d7 (fun _=>?_) (fun _=>cQ (by decide) ⟨x,ms,rfl,s1,h1,hp,hl⟩)
   refine ⟨_,rfl,_,_,rfl,rfl,_,rfl,?_⟩
   refine d7 (fun _=>?_) (fun _=>cQ (by decide) ⟨x,ms,rfl,s1,h1,hp,hl⟩)
   refine ⟨_,rfl,l,_,rfl,.inl (aZ.of h1),_,rfl,_,_,rfl,rfl,_,rfl,?_⟩
   refine d7 (fun e=>?_) (fun _=>⟨x,ms,rfl,s1,h1,hp,hl⟩)
   have e:=of_decide_eq_true e
   rw [length_map] at e
   have hlt:ms.length < n:=by omega
   refine ⟨fun σ' G'=>∃ (x':Int) (EV:List Int),σ'=[some (.int c),some (.int (n:Int)),some (.ref l),some (.int x'),none]∧Same H G'∧G' l=some (.lst (EV.map V.int))∧(∀ y ∈ EV,0 ≤ y)∧EV.length=ms.length + 1,?_,?_⟩
   ·rintro σ' G' ⟨x',EV,rfl,a1,a2,a3,a4⟩
    exact ⟨n - EV.length,by omega,x',EV,rfl,a1,a2,a3,by omega,rfl⟩
   refine ⟨_,rfl,.inl ⟨rfl,_,aZ.of h1⟩,_,rfl,_,_,rfl,rfl,cp,_,_,rfl,rfl,(by show (0:Int) < 10 ^ (9:Int).toNat; decide),l,_,_,rfl,rfl,h1,bu (by rw [length_map]; omega),?_⟩
   refine ⟨_,rfl,_,_,rfl,rfl,cp,_,_,rfl,rfl,⟨by show (0:Int) < 10 ^ (9:Int).toNat; decide,by show (10:Int) ^ (9:Int).toNat < 18446744073709551616; decide⟩,?_⟩
   refine ⟨_,ms ++ [x % 10 ^ (9:Int).toNat],rfl,bz s1 nl,by rw [ah,map_append]; rfl,fun y hy=>?_,by rw [length_append]; rfl⟩
   rcases mem_append.mp hy with z | z
   ·exact hp y z
   ·rw [mem_singleton.mp z]
    exact Int.emod_nonneg _ (by decide)
  rintro σ G ⟨x,ms,rfl,s1,h1,hp,hl⟩
  refine ⟨_,rfl,_,_,rfl,rfl,⟨by show (0:Int) < 2; decide,by show (2:Int) < _; decide⟩,_,_,rfl,rfl,_,_,rfl,rfl,.inr ⟨by decide,by decide⟩,_,_,rfl,rfl,jK,?_⟩
  have hx0:0 ≤ (c / 2 + 7919) * 48271 % 2147483647∧(c / 2 + 7919) * 48271 % 2147483647 < 2147483647:=⟨Int.emod_nonneg _ (by decide),Int.emod_lt_of_pos _ (by decide)⟩
  refine ⟨_,rfl,_,rfl,by omega,by omega,?_⟩
  refine ly (lo:=0) (n:=((n:Nat):Int).toNat) (fun i σ G=>∃ (x:Int) (v:Option V) (ms:List Int),σ=[some (.int c),some (.int (n:Int)),some (.ref l),some (.int x),v]∧0 ≤ x∧x ≤ 2147483647∧Same H G∧G l=some (.lst (ms.map V.int))∧(∀ y ∈ ms,0 ≤ y)∧i ≤ ms.length∧ms.length ≤ n + i) ?_ ?_ ?_
  ·exact ⟨_,none,ms,rfl,hx0.1,Int.le_of_lt hx0.2,s1,h1,hp,zero_le _,by omega⟩
  ·rintro i σ G hi ⟨x,v,ms,rfl,b1,b2,s1,h1,hp,g1,g2⟩
   have e0:(0:Int) + (i:Int)=(i:Int):=by omega
   rw [e0]
   have hin:i < n:=by rw [Int.toNat_natCast] at hi; exact hi
   refine ⟨_,rfl,_,rfl,_,_,rfl,rfl,⟨by show (0:Int) < 1009; decide,by show (1009:Int) < _; decide⟩,_,_,rfl,rfl,_,rfl,_,_,rfl,rfl,_,_,rfl,rfl,.inl ⟨by omega,by omega⟩,_,_,rfl,rfl,jK,?_⟩
   have hy0:0 ≤ x * (x / 1009 + 69621 + (i:Int)) % 2147483647∧x * (x / 1009 + 69621 + (i:Int)) % 2147483647 < 2147483647:=⟨Int.emod_nonneg _ (by decide),Int.emod_lt_of_pos _ (by decide)⟩
   have hy1:x * (x / 1009 + 69621 + (i:Int)) % 2147483647 ≤ 2147483646:=by omega
   refine ⟨_,rfl,.inl ⟨rfl,_,aZ.of h1⟩,_,rfl,_,rfl,_,_,rfl,rfl,⟨by show (0:Int) < 127; decide,by show (127:Int) < _; decide⟩,_,_,rfl,rfl,_,_,rfl,rfl,.inl ⟨by show -(2 ^ 64) < (x * (x / 1009 + 69621 + (i:Int)) % 2147483647); omega,by show (x * (x / 1009 + 69621 + (i:Int)) % 2147483647) < 2 ^ 64; omega⟩,_,_,rfl,rfl,qx,l,_,_,rfl,rfl,h1,bu (by rw [length_map]; omega),?_⟩
   have hz0:0 ≤ (x * (x / 1009 + 69621 + (i:Int)) % 2147483647) * ((x * (x / 1009 + 69621 + (i:Int)) % 2147483647) / 127 + 40009) % 2147483629:=Int.emod_nonneg _ (by decide)
   refine ⟨_,rfl,_,_,rfl,rfl,?_⟩
   refine ⟨(x * (x / 1009 + 69621 + (i:Int)) % 2147483647) + 1,_,ms ++ [(x * (x / 1009 + 69621 + (i:Int)) % 2147483647) * ((x * (x / 1009 + 69621 + (i:Int)) % 2147483647) / 127 + 40009) % 2147483629],rfl,by omega,by omega,bz s1 nl,by rw [ah,map_append]; rfl,fun y hy=>?_,by rw [length_append,List.length_singleton]; omega,by rw [length_append,List.length_singleton]; omega⟩
   rcases mem_append.mp hy with z | z
   ·exact hp y z
   ·rw [mem_singleton.mp z]
    exact hz0
  ·rintro σ G ⟨x,v,ms,rfl,b1,b2,s1,h1,hp,g1,g2⟩
   rw [Int.toNat_natCast] at g1
   refine ⟨_,rfl,_,rfl,(n:Int),rfl,l,_,rfl,aZ.of h1,fun lc nc=>?_⟩
   have ec:eJ (ms.map V.int) none (some (n:Int))=(ms.take n).map V.int:=by rw [oV,map_take]
   rw [ec]
   exact k lc (ms.take n) _ (s1.trans (ai nc)) (s1.free nc) ah (by rw [length_take]; omega) fun y hy=>hp y (List.mem_of_mem_take hy)
end
def wM (u:Str):Prop:=u ∈ iZ∧¬ u = "table" ∧ ¬ u ∈ fX∧¬ u ∈ zb
instance {u:Str}:Decidable (wM u):=by unfold wM; infer_instance
def i0 (n:Nat) (u:Str):Prop:=wM u∧Q7 u=n
instance {n:Nat} {u:Str}:Decidable (i0 n u):=by unfold i0; infer_instance
theorem sD {H:Hp} {q:Addr} {u:Str} {b c:Int} (hu:i0 2 u) (h:H q=some (.tup [.str u,.int b,.int c])):d9 H q ⟨u,[b,c],[]⟩ :=
 ⟨⟨hu.1.1,fun z=>absurd z hu.1.2.1,fun z=>absurd z hu.1.2.2.1,fun z=>absurd z hu.1.2.2.2,fun _ _ _=>⟨rfl,hu.2.symm⟩,fun _=>⟨b,c,rfl⟩,fun _=>⟨b,[c],rfl⟩⟩,.inr ⟨hu.1.2.1,h⟩⟩
theorem nI {H:Hp} {q:Addr} {u:Str} {b:Int} (hu:i0 1 u∧¬ u ∈ w2) (h:H q=some (.tup [.str u,.int b])):d9 H q ⟨u,[b],[]⟩ :=
 ⟨⟨hu.1.1.1,fun z=>absurd z hu.1.1.2.1,fun z=>absurd z hu.1.1.2.2.1,fun z=>absurd z hu.1.1.2.2.2,fun _ _ _=>⟨rfl,hu.1.2.symm⟩,fun z=>absurd z hu.2,fun _=>⟨b,[],rfl⟩⟩,.inr ⟨hu.1.1.2.1,h⟩⟩
theorem sE {H:Hp} {q:Addr} {u:Str} (hu:i0 0 u∧¬ u ∈ w2∧¬ u ∈ w1) (h:H q=some (.tup [.str u])):d9 H q ⟨u,[],[]⟩ :=
 ⟨⟨hu.1.1.1,fun z=>absurd z hu.1.1.2.1,fun z=>absurd z hu.1.1.2.2.1,fun z=>absurd z hu.1.1.2.2.2,fun _ _ _=>⟨rfl,hu.1.2.symm⟩,fun z=>absurd z hu.2.1,fun z=>absurd z hu.2.2⟩,.inr ⟨hu.1.1.2.1,h⟩⟩
theorem yO {H:Hp} {q:Addr} {u:Str} {t f:Int} (hu:u ∈ fX) (h:H q=some (.tup [.str u,.int t,.int f])):d9 H q ⟨u,[t,f],[t]⟩:=by
 have hw:=(by decide:∀ u ∈ fX,u ∈ iZ∧¬ u = "table" ∧ ¬ u ∈ zb∧¬ u ∈ w2∧¬ u ∈ w1) u hu
 exact ⟨⟨hw.1,fun z=>absurd z hw.2.1,fun _=>⟨t,f,rfl,rfl⟩,fun z=>absurd z hw.2.2.1,fun _ z=>absurd hu z,fun z=>absurd z hw.2.2.2.1,fun z=>absurd z hw.2.2.2.2⟩,.inr ⟨hw.2.1,h⟩⟩
theorem Kn {H:Hp} {q:Addr} {u:Str} {b t f:Int} (hu:u ∈ zb) (h:H q=some (.tup [.str u,.int b,.int t,.int f])):d9 H q ⟨u,[b,t,f],[t]⟩:=by
 have hw:=(by decide:∀ u ∈ zb,u ∈ iZ∧¬ u = "table" ∧ ¬ u ∈ fX∧¬ u ∈ w2) u hu
 exact ⟨⟨hw.1,fun z=>absurd z hw.2.1,fun z=>absurd z hw.2.2.1,fun _=>⟨b,t,f,rfl,rfl⟩,fun _ _ z=>absurd hu z,fun z=>absurd z hw.2.2.2,fun _=>⟨b,_,rfl⟩⟩,.inr ⟨hw.2.1,h⟩⟩
theorem Aw {H:Hp} {q p:Addr} {b:Int} {ts:List Int} (h:H q=some (.tup [.str "table",.int b,.ref p])) (hp:H p=some (.tup (ts.map V.int))) (hne:ts ≠ []):d9 H q ⟨"table",[b],ts⟩ :=
 ⟨⟨(by decide:("table" : Str) ∈ iZ),fun _=>⟨b,rfl,hne⟩,fun z=>absurd z (by decide:¬ ("table" : Str) ∈ fX),fun z=>absurd z (by decide:¬ ("table" : Str) ∈ zb),fun z=>absurd rfl z,fun z=>absurd z (by decide:¬ ("table" : Str) ∈ w2),fun _=>⟨b,[],rfl⟩⟩,.inl ⟨rfl,b,p,rfl,h,hp⟩⟩
def Nj (d:FR):Prop:=d.u ∈ five→Ni d=0∨Ni d=1
def oX (k:Str):Int × Int:=if k = "box" then (0,7) else if k = "value" then (-1000000000,1000000000) else if k = "target" then (0,1000000000) else if k = "far" then (0,1) else (0,1000000)
def vJ (k:Str) (v:Int):Prop:=(oX k).1 ≤ v∧v ≤ (oX k).2
def iG (d:FR):Prop:=∀ x ∈ (fZ d.u).zip d.is,vJ x.1 x.2
theorem sF {u:Str} {ts:List Int}:iG ⟨u,[],ts⟩:=fun x hx=>by
 have hx:x ∈ (fZ u).zip ([]:List Int):=hx
 simp at hx
theorem oY {u k1:Str} {r:List Str} {b:Int} {ts:List Int} (h:fZ u=k1 :: r) (hb:vJ k1 b):iG ⟨u,[b],ts⟩:=fun x hx=>by
 have hx:x ∈ (fZ u).zip [b]:=hx
 rw [h] at hx
 rw [show x=(k1,b) by simpa using hx]
 exact hb
theorem oZ {u k1 k2:Str} {b c:Int} {ts:List Int} (h:fZ u=[k1,k2]) (hb:vJ k1 b) (hc:vJ k2 c):iG ⟨u,[b,c],ts⟩:=fun x hx=>by
 have hx:x ∈ (fZ u).zip [b,c]:=hx
 rw [h] at hx
 rcases (show x=(k1,b)∨x=(k2,c) by simpa using hx) with rfl | rfl
 ·exact hb
 ·exact hc
theorem Ko {u k1 k2 k3:Str} {b c e:Int} {ts:List Int} (h:fZ u=[k1,k2,k3]) (hb:vJ k1 b) (hc:vJ k2 c) (he:vJ k3 e):iG ⟨u,[b,c,e],ts⟩:=fun x hx=>by
 have hx:x ∈ (fZ u).zip [b,c,e]:=hx
 rw [h] at hx
 rcases (show x=(k1,b)∨x=(k2,c)∨x=(k3,e) by simpa using hx) with rfl | rfl | rfl
 ·exact hb
 ·exact hc
 ·exact he
def GoodR (d:FR) (n:Int):Prop:=d.ts.length ≤ 16∧(∀ t ∈ d.ts,0 ≤ t∧t < n)∧Nj d∧iG d
theorem kj:∀ u ∈ fX,fZ u=(["target", "far"]:List Str):=by decide +kernel
theorem kz:∀ u ∈ zb,fZ u=(["box", "target", "far"]:List Str):=by decide +kernel
theorem GoodR.plain {u:Str} {is:List Int} {n:Int} (h:¬ u ∈ five) (hp:iG ⟨u,is,[]⟩):GoodR ⟨u,is,[]⟩ n:=⟨zero_le _,fun t ht=>(not_mem_nil ht).elim,fun z=>absurd z h,hp⟩
theorem Ax (ws:List Str) (d:Int) (h0:0 ≤ d) (h1:d < ws.length):∃ u,u ∈ ws∧oq (ws.map V.str) d=some (.str u):=by
 obtain ⟨j,rfl⟩:=Int.eq_ofNat_of_zero_le h0
 have hl:j < ws.length:=by omega
 refine ⟨ws[j],List.getElem_mem hl,cw (j:=j) ?_⟩
 rw [List.getElem?_map,List.getElem?_eq_getElem hl]
 rfl
theorem vi (ws:List Int) (d:Int) (h0:0 ≤ d) (h1:d < ws.length):∃ u,u ∈ ws∧oq (ws.map V.int) d=some (.int u):=by
 obtain ⟨j,rfl⟩:=Int.eq_ofNat_of_zero_le h0
 have hl:j < ws.length:=by omega
 refine ⟨ws[j],List.getElem_mem hl,cw (j:=j) ?_⟩
 rw [List.getElem?_map,List.getElem?_eq_getElem hl]
 rfl
theorem jB (x:Int) {n:Int} (h:0 < n):0 ≤ x % n∧x % n < n:=⟨Int.emod_nonneg _ (by omega),Int.emod_lt_of_pos _ h⟩
theorem Kp (a b:V):eA [] [((Sum.inr "tell" : Key),a),(Sum.inr "halt",b)]=([((Sum.inr "tell" : Key),a),(Sum.inr "halt",b)]:List (Key × V)):=rfl
theorem Ay (a b:V):cH [((Sum.inr "tell" : Key),a),(Sum.inr "halt",b)] (Sum.inr "tell")=some a:=rfl
theorem Az (a b:V):cH [((Sum.inr "tell" : Key),a),(Sum.inr "halt",b)] (Sum.inr "halt")=some b:=rfl
theorem AB (a b:V):cH [((Sum.inr "tell" : Key),a),(Sum.inr "halt",b)] (Sum.inr "stop")=none:=rfl
theorem AF (a b:V):cH [((Sum.inr "tell" : Key),a),(Sum.inr "halt",b)] (Sum.inr "back")=none:=rfl
def w20:List Str:=(["set", "more", "copy", "add", "less", "load", "keep", "tell", "see", "put", "take", "jump", "zero"]:List Str) ++ (["below", "call", "mark", "table", "stop", "back", "halt"]:List Str)
section
variable {P:Program} {w:World} {K:Frag} {mg:Str→Option Value} {base:Heap}
def IE:Sp:=fun vs H Q _=>∃ (x n c:Int),vs=[.int x,.int n,.int c]∧0 < n∧n < 1000000∧0 < c∧c ≤ 16∧∀ (p:Addr) (ts:List Int) (H':Hp),Same H H'→H' p=some (.tup (ts.map V.int))→ts.length ≤ 16∧ts ≠ []→(∀ t ∈ ts,0 ≤ t∧t < n)→Q (.ref p) H'
theorem yP:aG ["_law_x", "_law_many", "_law_count", "_law_found", "_law_k"] ["_law_x", "_law_many", "_law_count"] (aj IB):=⟨rfl,rfl,rfl,by decide +kernel,rfl,by decide +kernel,by decide +kernel⟩
theorem Kq {f:Addr} {fd:FuncData} (F:d6 K "_law_targets" "_law_targets" IB f fd) (T:Txt K w.params mg):aM P w K mg base bw 1 f fd ["_law_x", "_law_many", "_law_count"] IE:=by
 refine F.ok yP (fun vs H Q E h=>?_) (fun cdv A outer s H vs Q E hr h=>?_)
 ·obtain ⟨x,n,c,rfl,_⟩:=h
  rfl
 ·obtain ⟨x,n,c,rfl,hn,hn2,hc,hc2,k⟩:=h
  refine dA (au (aA (aT (i:=3) yP.nd rfl (Or.inl rfl) (cr ak)))
   (au (aA (gU PassesOwn.never rfl (gm rfl T.range (ae (pv 2) ak)) (cG (i:=4) yP.nd rfl (Or.inl rfl)) (aH (bZ (hV PySem.F.plainAttrs_list PySem.F.slot_list_append PySem.F.type_list_append cJ (pv 3) (ae (aJ bt (pv 0) (pv 1)) ak)))
   (az (aT (i:=0) yP.nd rfl (Or.inl rfl) (aJ cg (pv 0) (pv 1)))))))
   (aO (aA (aS (cU qr (by rfl) T.tuple ky (ae (pv 3) ak))))))) ?_
  refine ⟨le_of_ble_eq_true rfl,fun l nl=>?_⟩
  have s0:=ai (o:=.lst []) nl
  have h0:upd H l (.lst []) l=some (.lst (([]:List Int).map V.int)):=ah
  generalize upd H l (.lst [])=G0 at s0 h0 ⊢
  refine ⟨_,rfl,_,rfl,by omega,by omega,?_⟩
  refine ly (lo:=0) (n:=c.toNat) (fun i σ G=>∃ (x:Int) (v:Option V) (ts:List Int),σ=[some (.int x),some (.int n),some (.int c),some (.ref l),v]∧Same H G∧G l=some (.lst (ts.map V.int))∧(∀ t ∈ ts,0 ≤ t∧t < n)∧ts.length=i) ?_ ?_ ?_
  ·exact ⟨x,none,[],rfl,s0,h0,fun t ht=>(not_mem_nil ht).elim,rfl⟩
  ·rintro i σ G hi ⟨x,v,ts,rfl,s1,h1,hp,hl⟩
   refine ⟨_,rfl,.inl ⟨rfl,_,aZ.of h1⟩,_,rfl,_,rfl,_,_,rfl,rfl,hn,l,_,_,rfl,rfl,h1,bu (by rw [length_map]; omega),?_⟩
   refine ⟨_,rfl,_,rfl,_,_,rfl,rfl,⟨hn,by omega⟩,?_⟩
   refine ⟨_,_,ts ++ [x % n],rfl,bz s1 nl,by rw [ah,map_append]; rfl,fun t ht=>?_,by rw [length_append,hl]; rfl⟩
   rcases mem_append.mp ht with z | z
   ·exact hp t z
   ·rw [mem_singleton.mp z]
    exact jB x hn
  ·rintro σ G ⟨x,v,ts,rfl,s1,h1,hp,hl⟩
   refine ⟨_,rfl,l,_,rfl,.inl ⟨aZ.of h1,fun t nt=>?_⟩⟩
   exact k t ts _ (s1.trans (ai nt)) ah ⟨by omega,by rintro rfl; simp at hl; omega⟩ hp
def IG:Sp:=fun vs H Q _=>∃ (x n:Int),vs=[.int x,.int n]∧0 < n∧n < 1000000∧∀ (p:Addr) (d:FR) (H':Hp),Same H H'→d9 H' p d→GoodR d n→Q (.ref p) H'
theorem rm:aG ["_law_x", "_law_many", "_law_words", "_law_word", "_law_box", "_law_target"] ["_law_x", "_law_many"] (aj Nh):=⟨rfl,rfl,rfl,by decide +kernel,rfl,by decide +kernel,by decide +kernel⟩
theorem Kr {f fT:Addr} {fd C7:FuncData} (F:d6 K "_law_row" "_law_row" Nh f fd) (T:Txt K w.params mg) (GT:aM P w K mg base bw 1 fT C7 ["_law_x", "_law_many", "_law_count"] IE) (kT:KI K fT) (bT:Binds K C7 ["_law_x", "_law_many", "_law_count"] []) (mT:mg "_law_targets" = some (.ref fT)):aM P w K mg base bw 2 f fd ["_law_x", "_law_many"] IG:=by
 refine F.ok rm (fun vs H Q E h=>?_) (fun cdv A outer s H vs Q E hr h=>?_)
 ·obtain ⟨x,n,rfl,_⟩:=h
  rfl
 ·obtain ⟨x,n,rfl,hn,hn2,k⟩:=h
  have hu:=hr.u 1
  refine dA (au (vh (yM (i:=2) rm.nd rfl (Or.inl rfl) (FU (.cons ay (.cons ay (.cons ay (.cons ay (.cons ay (.cons ay (.cons ay (.cons ay (.cons ay (.cons ay (.cons ay (.cons ay (.cons ay .nil))))))))))))))))
   (au (aA (aT (i:=3) rm.nd rfl (Or.inl rfl) (aB aV (aJ lL (pv 2) (FT (.cons ay (.cons ay (.cons ay (.cons ay (.cons ay (.cons ay (.cons ay .nil))))))))) (aJ bt (pv 0) ao) (fun _ _=>rfl))))
   (au (aA (aT (i:=4) rm.nd rfl (Or.inl rfl) (aJ bt (aJ cg (pv 0) ao) ao)))
   (au (aA (aT (i:=0) rm.nd rfl (Or.inl rfl) (aJ cg (pv 0) ao)))
   (au (aA (aT (i:=5) rm.nd rfl (Or.inl rfl) (aJ bt (pv 0) (pv 1))))
   (au (dk (aP dH (pv 3) (bf (ae ay (ae ay ak))) rfl) (aO (aA (aS (bf (ae (pv 3) (ae (pv 4) (ae (aJ rP (aJ jT (aJ bt (pv 0) ao) ao) (aB aV (cr (ae ao (ae ao (ae (aJ vP ao ao) ak)))) (aJ bt (aJ cg (pv 0) ao) ao) (fun _ _=>rfl))) ak))))))) (bX aU))
   (au (dk (aP dH (pv 3) (bf (ae ay (ae ay (ae ay (ae ay (ae ay ak)))))) rfl) (aO (aA (aS (bf (ae (pv 3) (ae (pv 4) (ae (aJ bt (pv 0) ao) ak))))))) (bX aU))
   (au (dk (aP dH (pv 3) (bf (ae ay (ae ay (ae ay ak)))) rfl) (aO (aA (aS (bf (ae (pv 3) (ae (pv 4) (ae (aB aV (cr (ae (aJ bt (pv 0) ao) (ae (aJ bt (pv 0) ao) ak))) (aJ bt (aJ cg (pv 0) ao) ao) (fun _ _=>rfl)) ak))))))) (bX aU))
   (au (dk (aP dH (pv 3) (bf (ae ay (ae ay (ae ay ak)))) rfl) (aO (aA (aS (bf (ae (pv 3) (ae (pv 5) (ae (aJ bt (aJ cg (pv 0) (pv 1)) ao) ak))))))) (bX aU))
   (au (dk (aP dH (pv 3) (bf (ae ay (ae ay ak))) rfl) (aO (aA (aS (bf (ae (pv 3) (ae (pv 4) (ae (pv 5) (ae (aJ bt (aJ cg (pv 0) (pv 1)) ao) ak)))))))) (bX aU))
   (au (dk (aP eM (pv 3) ay (aY _)) (aO (aA (aS (bf (ae (pv 3) (ae (pv 4) (ae (aN GT hr (by rfl) mT kT bT .nil aW (ae (aJ cg (pv 0) ao) (ae (pv 1) (ae (aJ cS ao (aJ bt (pv 0) ao)) ak)))) ak))))))) (bX aU))
   (aO (aA (aS (oF hu (yA (oB ay (bf (ae (pv 3) (ae (pv 4) ak))) (oB ay (bf (ae (pv 3) (ae (aJ bt (pv 0) ao) ak))) yz)) rfl rfl (List.cons_ne_nil _ _) (le_of_ble_eq_true rfl)) (pv 3) (bf (ae (pv 3) ak)) ⟨rfl,rfl,rfl,rfl⟩))))))))))))))) ?_
  refine ⟨M4,fun lw nw=>?_⟩
  have s1:=ai (o:=.lst [V.str "set",V.str "more",V.str "copy",V.str "add",V.str "less",V.str "load",V.str "keep",V.str "tell",V.str "see",V.str "put",V.str "take",V.str "jump",V.str "zero"]) nw
  have h1:upd H lw (.lst [V.str "set",V.str "more",V.str "copy",V.str "add",V.str "less",V.str "load",V.str "keep",V.str "tell",V.str "see",V.str "put",V.str "take",V.str "jump",V.str "zero"]) lw=some (.lst ((["set", "more", "copy", "add", "less", "load", "keep", "tell", "see", "put", "take", "jump", "zero"]:List Str).map V.str)):=ah
  generalize upd H lw (.lst [V.str "set",V.str "more",V.str "copy",V.str "add",V.str "less",V.str "load",V.str "keep",V.str "tell",V.str "see",V.str "put",V.str "take",V.str "jump",V.str "zero"])=G1 at s1 h1 ⊢
  refine ⟨_,rfl,Sy,fun l7 n7=>?_⟩
  have s2:=s1.trans (ai (o:=.lst [V.str "below",V.str "call",V.str "mark",V.str "table",V.str "stop",V.str "back",V.str "halt"]) n7)
  have h12:=ai (o:=.lst [V.str "below",V.str "call",V.str "mark",V.str "table",V.str "stop",V.str "back",V.str "halt"]) n7 _ _ h1
  have h2:upd G1 l7 (.lst [V.str "below",V.str "call",V.str "mark",V.str "table",V.str "stop",V.str "back",V.str "halt"]) l7=some (.lst ((["below", "call", "mark", "table", "stop", "back", "halt"]:List Str).map V.str)):=ah
  generalize upd G1 l7 (.lst [V.str "below",V.str "call",V.str "mark",V.str "table",V.str "stop",V.str "back",V.str "halt"])=G2 at s2 h12 h2 ⊢
  refine ⟨lw,l7,_,_,rfl,rfl,h12,h2,M6,fun lx nx=>?_⟩
  have s3:=s2.trans (ai (o:=.lst ((["set", "more", "copy", "add", "less", "load", "keep", "tell", "see", "put", "take", "jump", "zero"]:List Str).map V.str ++ (["below", "call", "mark", "table", "stop", "back", "halt"]:List Str).map V.str)) nx)
  have h3:upd G2 lx (.lst ((["set", "more", "copy", "add", "less", "load", "keep", "tell", "see", "put", "take", "jump", "zero"]:List Str).map V.str ++ (["below", "call", "mark", "table", "stop", "back", "halt"]:List Str).map V.str)) lx=some (.lst (w20.map V.str)):=by rw [ah]; unfold w20; rw [map_append]
  generalize upd G2 lx (.lst ((["set", "more", "copy", "add", "less", "load", "keep", "tell", "see", "put", "take", "jump", "zero"]:List Str).map V.str ++ (["below", "call", "mark", "table", "stop", "back", "halt"]:List Str).map V.str))=G3 at s3 h3 ⊢
  obtain ⟨u,Nk,hat⟩:=Ax w20 (x % 20) (jB x (by decide)).1 (jB x (by decide)).2
  refine ⟨_,rfl,_,_,rfl,rfl,Nf,lx,_,_,_,rfl,rfl,aZ.of h3,hat,?_⟩
  have hall:u ∈ iZ:=(by decide +kernel:∀ u ∈ w20,u ∈ iZ) u Nk
  refine ⟨_,rfl,_,_,rfl,rfl,⟨by show (0:Int) < 20; decide,by show (20:Int) < _; decide⟩,_,_,rfl,rfl,Ki,?_⟩
  refine ⟨_,rfl,_,_,rfl,rfl,⟨by show (0:Int) < 160; decide,by show (160:Int) < _; decide⟩,?_⟩
  refine ⟨_,rfl,_,rfl,_,_,rfl,rfl,hn,?_⟩
  have ht:=jB (x / 160) hn
  have hp1:JJ 10 8:=⟨by decide,by decide,by decide⟩
  have m8:=jB (x / 20) (show (0:Int) < 8 by decide)
  have m88:=jB (x / 160) (show (0:Int) < 8 by decide)
  have hbx:vJ "box" (x / 20 % 8):=⟨m8.1,show x / 20 % 8 ≤ 7 by omega⟩
  refine ⟨_,rfl,dG,fun t3 BJ=>⟨t3,(["set", "more"]:List Str).map V.str,rfl,.inr (bp.of ah),rfl,rfl,_,rfl,?_⟩⟩
  have s4:=s3.trans (ai (o:=.tup [V.str "set",V.str "more"]) BJ)
  rw [show inV (.str u) ((["set", "more"]:List Str).map V.str)=decide (u ∈ (["set", "more"]:List Str)) from fQ _ _]
  generalize upd G3 t3 (.tup [V.str "set",V.str "more"])=G4 at s4 ⊢
  refine d7 (fun e3=>?_) (fun e3=>?_)
  ·have hw:=(by decide +kernel:∀ u ∈ (["set", "more"]:List Str),i0 2 u∧¬ u ∈ five) u (of_decide_eq_true e3)
   obtain ⟨v,SH,hv⟩:=vi [1,1,10 ^ (8:Int).toNat] ((x / 160) / 19 % 3) (jB _ (by decide)).1 (jB _ (by decide)).2
   have h19:=jB (x / 160) (show (0:Int) < 19 by decide)
   refine ⟨_,rfl,_,rfl,_,rfl,_,_,rfl,rfl,Nc,_,_,rfl,rfl,_,_,rfl,rfl,hp1,km,fun l3 n3=>⟨_,rfl,_,_,rfl,rfl,⟨by show (0:Int) < 19; decide,by show (19:Int) < _; decide⟩,_,_,rfl,rfl,Sz,l3,_,_,.int v,rfl,rfl,aZ.of (show _=some (.lst (([1,1,10 ^ (8:Int).toNat]:List Int).map V.int)) from ah),hv,_,_,rfl,rfl,.inl ⟨by show -(2 ^ 64) < (x / 160) % 19 - 9; omega,by show (x / 160) % 19 - 9 < 2 ^ 64; omega⟩,km,fun q nq=>?_⟩⟩
   have SJ:vJ "value" ((x / 160 % 19 - 9) * v):=by
    rcases (show v=1∨v=100000000 by simpa using SH) with rfl | rfl
    ·exact ⟨show -1000000000 ≤ _ by omega,show _ ≤ 1000000000 by omega⟩
    ·exact ⟨show -1000000000 ≤ _ by omega,show _ ≤ 1000000000 by omega⟩
   exact k q ⟨u,[_,_],[]⟩ _ ((s4.trans (ai n3)).trans (ai nq)) (sD hw.1 ah) (GoodR.plain hw.2 (oZ ((by decide +kernel:∀ u ∈ (["set", "more"]:List Str),fZ u=(["box", "value"]:List Str)) u (of_decide_eq_true e3)) hbx SJ))
  refine ⟨_,rfl,Sx,fun t4 nt4=>⟨t4,(["copy", "add", "less", "load", "keep"]:List Str).map V.str,rfl,.inr (bp.of ah),rfl,rfl,_,rfl,?_⟩⟩
  have s5:=s4.trans (ai (o:=.tup [V.str "copy",V.str "add",V.str "less",V.str "load",V.str "keep"]) nt4)
  rw [show inV (.str u) ((["copy", "add", "less", "load", "keep"]:List Str).map V.str)=decide (u ∈ (["copy", "add", "less", "load", "keep"]:List Str)) from fQ _ _]
  generalize upd G4 t4 (.tup [V.str "copy",V.str "add",V.str "less",V.str "load",V.str "keep"])=G5 at s5 ⊢
  refine d7 (fun e4=>?_) (fun e4=>?_)
  ·have hw:=(by decide +kernel:∀ u ∈ (["copy", "add", "less", "load", "keep"]:List Str),i0 2 u∧¬ u ∈ five) u (of_decide_eq_true e4)
   refine ⟨_,rfl,_,rfl,_,rfl,_,_,rfl,rfl,Ki,km,fun q nq=>?_⟩
   exact k q ⟨u,[_,_],[]⟩ _ (s5.trans (ai nq)) (sD hw.1 ah) (GoodR.plain hw.2 (oZ ((by decide +kernel:∀ u ∈ (["copy", "add", "less", "load", "keep"]:List Str),fZ u=(["box", "box"]:List Str)) u (of_decide_eq_true e4)) hbx ⟨m88.1,show x / 160 % 8 ≤ 7 by omega⟩))
  refine ⟨_,rfl,km,fun t5 nt5=>⟨t5,(["see", "put", "take"]:List Str).map V.str,rfl,.inr (bp.of ah),rfl,rfl,_,rfl,?_⟩⟩
  have s6:=s5.trans (ai (o:=.tup [V.str "see",V.str "put",V.str "take"]) nt5)
  rw [show inV (.str u) ((["see", "put", "take"]:List Str).map V.str)=decide (u ∈ (["see", "put", "take"]:List Str)) from fQ _ _]
  generalize upd G5 t5 (.tup [V.str "see",V.str "put",V.str "take"])=G6 at s6 ⊢
  refine d7 (fun e5=>?_) (fun e5=>?_)
  ·have hw:=(by decide +kernel:∀ u ∈ (["see", "put", "take"]:List Str),i0 2 u∧¬ u ∈ five) u (of_decide_eq_true e5)
   obtain ⟨v,SH,hv⟩:=vi [(x / 160) % 4,(x / 160) % 1000001] ((x / 160) / 4 % 2) (jB _ (by decide)).1 (jB _ (by decide)).2
   refine ⟨_,rfl,_,rfl,_,rfl,_,_,rfl,rfl,wJ,_,rfl,_,_,rfl,rfl,oQ,dG,fun l3 n3=>⟨_,rfl,_,_,rfl,rfl,⟨by show (0:Int) < 4; decide,by show (4:Int) < _; decide⟩,_,_,rfl,rfl,C2,l3,_,_,.int v,rfl,rfl,aZ.of (show _=some (.lst (([(x / 160) % 4,(x / 160) % 1000001]:List Int).map V.int)) from ah),hv,km,fun q nq=>?_⟩⟩
   obtain ⟨k2,ek,hk2⟩:=(by decide +kernel:∀ u ∈ (["see", "put", "take"]:List Str),∃ k ∈ (["number", "aside"]:List Str),fZ u=(["box",k]:List Str)) u (of_decide_eq_true e5)
   have SJ:vJ k2 v:=by
    have hv2:0 ≤ v∧v ≤ 1000000:=by
     have a1:=jB (x / 160) (show (0:Int) < 4 by decide)
     have a2:=jB (x / 160) (show (0:Int) < 1000001 by decide)
     rcases (show v=x / 160 % 4∨v=x / 160 % 1000001 by simpa using SH) with rfl | rfl
     ·omega
     ·omega
    rcases (show k2 = "number" ∨ k2 = "aside" by simpa using ek) with rfl | rfl
    ·exact hv2
    ·exact hv2
   exact k q ⟨u,[_,_],[]⟩ _ ((s6.trans (ai n3)).trans (ai nq)) (sD hw.1 ah) (GoodR.plain hw.2 (oZ hk2 hbx SJ))
  have h2:(x / 160) / n % 2=0∨(x / 160) / n % 2=1:=by omega
  refine ⟨_,rfl,km,fun t6 nt6=>⟨t6,(["jump", "call", "mark"]:List Str).map V.str,rfl,.inr (bp.of ah),rfl,rfl,_,rfl,?_⟩⟩
  have s7:=s6.trans (ai (o:=.tup [V.str "jump",V.str "call",V.str "mark"]) nt6)
  rw [show inV (.str u) ((["jump", "call", "mark"]:List Str).map V.str)=decide (u ∈ (["jump", "call", "mark"]:List Str)) from fQ _ _]
  generalize upd G6 t6 (.tup [V.str "jump",V.str "call",V.str "mark"])=G7 at s7 ⊢
  refine d7 (fun e6=>?_) (fun e6=>?_)
  ·refine ⟨_,rfl,_,rfl,_,rfl,_,rfl,_,_,rfl,rfl,⟨hn,by omega⟩,_,_,rfl,rfl,C2,km,fun q nq=>?_⟩
   exact k q ⟨u,[_,_],[_]⟩ _ (s7.trans (ai nq)) (yO (of_decide_eq_true e6) ah) ⟨(by show 1 ≤ 16; decide),(fun t ht'=>by rw [mem_singleton.mp ht']; exact ht),fun _=>h2,oZ (kj u (of_decide_eq_true e6)) ⟨ht.1,show _ ≤ 1000000000 by omega⟩ ⟨show 0 ≤ _ by omega,show _ ≤ 1 by omega⟩⟩
  refine ⟨_,rfl,dG,fun t7 nt7=>⟨t7,(["zero", "below"]:List Str).map V.str,rfl,.inr (bp.of ah),rfl,rfl,_,rfl,?_⟩⟩
  have s8:=s7.trans (ai (o:=.tup [V.str "zero",V.str "below"]) nt7)
  rw [show inV (.str u) ((["zero", "below"]:List Str).map V.str)=decide (u ∈ (["zero", "below"]:List Str)) from fQ _ _]
  generalize upd G7 t7 (.tup [V.str "zero",V.str "below"])=G8 at s8 ⊢
  refine d7 (fun e7=>?_) (fun e7=>?_)
  ·refine ⟨_,rfl,_,rfl,_,rfl,_,rfl,_,rfl,_,_,rfl,rfl,⟨hn,by omega⟩,_,_,rfl,rfl,C2,C1,fun q nq=>?_⟩
   exact k q ⟨u,[_,_,_],[_]⟩ _ (s8.trans (ai nq)) (Kn (of_decide_eq_true e7) ah) ⟨(by show 1 ≤ 16; decide),(fun t ht'=>by rw [mem_singleton.mp ht']; exact ht),fun _=>h2,Ko (kz u (of_decide_eq_true e7)) hbx ⟨ht.1,show _ ≤ 1000000000 by omega⟩ ⟨show 0 ≤ _ by omega,show _ ≤ 1 by omega⟩⟩
  refine ⟨_,rfl,rfl,_,rfl,?_⟩
  refine d7 (fun e8=>?_) (fun e8=>?_)
  ·have e8:=strEq e8
   have h4:=jB (x / 160) (show (0:Int) < 4 by decide)
   refine ⟨_,rfl,_,rfl,_,rfl,_,_,rfl,rfl,⟨by show (0:Int) < 4; decide,by show (4:Int) < _; decide⟩,_,rfl,_,rfl,_,_,rfl,rfl,wJ,_,_,rfl,rfl,_,n,_,rfl,hn,hn2,(by show (0:Int) < 1 + (x / 160) % 4; omega),(by show 1 + (x / 160) % 4 ≤ 16; omega),fun p ts G9 s9 hp hl hts=>⟨km,fun q nq=>?_⟩⟩
   subst e8
   exact k q ⟨"table",[_],ts⟩ _ ((s8.trans s9).trans (ai nq)) (Aw ah (ai nq _ _ hp) hl.2) ⟨hl.1,hts,fun z=>absurd z (by show ¬ ("table" : Str) ∈ five; decide),oY (k1 := "box") (r:=["targets"]) rfl hbx⟩
  ·have e8:=Iy e8
   refine fun p0 np0=>?_
   have s9:=s8.trans (ai (o:=.dK []) np0)
   have hp9:upd G8 p0 (.dK []) p0=_:=ah
   generalize upd G8 p0 (.dK [])=G9 at s9 hp9 ⊢
   refine ⟨_,rfl,_,rfl,dG,fun t1 Nm=>?_⟩
   have a1:=s9.trans (ai (o:=.tup [V.str u,V.int (x / 20 % 8)]) Nm)
   have b1:=ai (o:=.tup [V.str u,V.int (x / 20 % 8)]) Nm _ _ hp9
   have c1:upd G9 t1 (.tup [V.str u,V.int (x / 20 % 8)]) t1=_:=ah
   generalize upd G9 t1 (.tup [V.str u,V.int (x / 20 % 8)])=X1 at a1 b1 c1 ⊢
   refine ⟨_,rfl,_,rfl,_,_,rfl,rfl,oQ,dG,fun t2 EW=>?_⟩
   have a2:=a1.trans (ai (o:=.tup [V.str u,V.int (x / 160 % 1000001)]) EW)
   have b2:=ai (o:=.tup [V.str u,V.int (x / 160 % 1000001)]) EW _ _ b1
   have c12:=ai (o:=.tup [V.str u,V.int (x / 160 % 1000001)]) EW _ _ c1
   have c2:upd X1 t2 (.tup [V.str u,V.int (x / 160 % 1000001)]) t2=_:=ah
   refine ⟨b2,[(Sum.inr "tell",.ref t1),(Sum.inr "halt",.ref t2)],rfl,(by show 2 ≤ 15; decide),?_⟩
   refine ⟨p0,rfl,.inl ⟨_,.inl ah⟩,_,rfl,_,rfl,qw,fun t3 BJ=>?_⟩
   rw [Kp] at BJ ⊢
   have hp8:G8 p0=none:=np0
   have a3:Same H (upd (upd X1 t2 (.tup [V.str u,V.int (x / 160 % 1000001)])) p0 (.dK [(Sum.inr "tell",.ref t1),(Sum.inr "halt",.ref t2)])):=bz a2 (s8.free np0)
   refine ⟨_,iR.k (k:=Sum.inr u) (ai BJ _ _ ah),?_⟩
   have SK:t1 ≠ p0:=fun z=>by rw [z] at c1; rw [b1] at c1; cases c1
   have Fx:t2 ≠ p0:=fun z=>by rw [z] at EW; rw [b1] at EW; cases EW
   have r1:upd (upd X1 t2 (.tup [V.str u,V.int (x / 160 % 1000001)])) p0 (.dK [(Sum.inr "tell",.ref t1),(Sum.inr "halt",.ref t2)]) t1=some (.tup [V.str u,V.int (x / 20 % 8)]):=by rw [aK SK]; exact c12
   have r2:upd (upd X1 t2 (.tup [V.str u,V.int (x / 160 % 1000001)])) p0 (.dK [(Sum.inr "tell",.ref t1),(Sum.inr "halt",.ref t2)]) t2=some (.tup [V.str u,V.int (x / 160 % 1000001)]):=by rw [aK Fx]; exact c2
   have a4:=a3.trans (ai (o:=.tup [V.str u]) BJ)
   have hcase:=(by decide +kernel:∀ u ∈ w20,¬ u ∈ (["set", "more"]:List Str)→¬ u ∈ (["copy", "add", "less", "load", "keep"]:List Str)→¬ u ∈ (["see", "put", "take"]:List Str)→¬ u ∈ (["jump", "call", "mark"]:List Str)→¬ u ∈ (["zero", "below"]:List Str)→¬ u = "table" → u = "tell" ∨ u = "halt" ∨ u = "stop" ∨ u = "back") u Nk (fun z=>e3 (decide_eq_true z)) (fun z=>e4 (decide_eq_true z)) (fun z=>e5 (decide_eq_true z)) (fun z=>e6 (decide_eq_true z)) (fun z=>e7 (decide_eq_true z)) e8
   rcases hcase with rfl | rfl | rfl | rfl
   ·rw [Ay]
    exact k t1 ⟨"tell",[_],[]⟩ _ a4 (nI (by decide) (ai BJ _ _ r1)) (GoodR.plain (by decide) (oY (k1 := "box") (r:=[]) rfl hbx))
   ·rw [Az]
    exact k t2 ⟨"halt",[_],[]⟩ _ a4 (nI (by decide) (ai BJ _ _ r2)) (GoodR.plain (by decide) (oY (k1 := "number") (r:=[]) rfl ⟨(jB (x / 160) (show (0:Int) < 1000001 by decide)).1,show x / 160 % 1000001 ≤ 1000000 by omega⟩))
   ·rw [AB]
    exact k t3 ⟨"stop",[],[]⟩ _ a4 (sE (by decide) ah) (GoodR.plain (by decide) sF)
   ·rw [AF]
    exact k t3 ⟨"back",[],[]⟩ _ a4 (sE (by decide) ah) (GoodR.plain (by decide) sF)
end
section
variable {P:Program} {w:World} {K:Frag} {mg:Str→Option Value} {base:Heap}
def C8:Sp:=fun vs H Q _=>∃ (p:Addr) (x n:Int) (d:FR),vs=[.ref p,.int x]∧d9 H p d∧GoodR d n∧0 < n∧∀ (p:Addr) (d:FR) (H':Hp),Same H H'→d9 H' p d→GoodR d n→d.u ∈ cy→Q (.ref p) H'
theorem Ks:aG ["_law_row_here", "_law_x"] ["_law_row_here", "_law_x"] (aj IC):=⟨rfl,rfl,rfl,by decide +kernel,rfl,by decide +kernel,by decide +kernel⟩
theorem FW {f:Addr} {fd:FuncData} (F:d6 K "_law_last" "_law_last" IC f fd) (T:Txt K w.params mg):aM P w K mg base bw 1 f fd ["_law_row_here", "_law_x"] C8:=by
 refine F.ok Ks (fun vs H Q E h=>?_) (fun cdv A outer s H vs Q E hr h=>?_)
 ·obtain ⟨p,x,n,d,rfl,_⟩:=h
  rfl
 ·obtain ⟨p,x,n,d,rfl,hR,hg,hn,k⟩:=h
  obtain ⟨items,i1,_,_,_⟩:=hR.parts
  refine dA (au (dk (aP dH (aB aI (pv 0) ao (fun _ _=>rfl)) (bf (ae ay (ae ay (ae ay (ae ay ak))))) rfl) (aO (aA (aS (pv 0)))) (bX aU))
   (aO (aA (aS (aB aV (cr (ae (bf (ae ay ak)) (ae (bf (ae ay ak)) (ae (bf (ae ay (ae (aJ bt (pv 1) ao) ak))) (ae (bf (ae ay (ae ao (ae (aJ bt (aJ cg (pv 1) ao) ao) ak)))) ak))))) (aJ bt (aJ cg (pv 1) ao) ao) (fun _ _=>rfl)))))) ?_
  refine ⟨_,rfl,p,_,0,_,rfl,rfl,bp.of i1,at0 _ _,C1,fun t nt=>⟨t,(["stop", "back", "halt", "jump"]:List Str).map V.str,rfl,.inr (bp.of ah),rfl,rfl,_,rfl,?_⟩⟩
  have s0:=ai (o:=.tup [V.str "stop",V.str "back",V.str "halt",V.str "jump"]) nt
  rw [show inV (.str d.u) ((["stop", "back", "halt", "jump"]:List Str).map V.str)=decide (d.u ∈ (["stop", "back", "halt", "jump"]:List Str)) from fQ _ _]
  generalize upd H t (.tup [V.str "stop",V.str "back",V.str "halt",V.str "jump"])=G0 at s0 ⊢
  refine d7 (fun e=>?_) (fun e=>?_)
  ·exact ⟨_,rfl,k p d _ s0 (hR.same s0) hg (of_decide_eq_true e)⟩
  ·have h2:x / 9 % 2=0∨x / 9 % 2=1:=by omega
   refine ⟨qw,fun t0 nt0=>?_⟩
   have s1:=s0.trans (ai (o:=.tup [V.str "stop"]) nt0)
   have h01:upd G0 t0 (.tup [V.str "stop"]) t0=_:=ah
   generalize upd G0 t0 (.tup [V.str "stop"])=G1 at s1 h01 ⊢
   refine ⟨qw,fun t1 Nm=>?_⟩
   have s2:=s1.trans (ai (o:=.tup [V.str "back"]) Nm)
   have h12:upd G1 t1 (.tup [V.str "back"]) t1=_:=ah
   have h02:=ai (o:=.tup [V.str "back"]) Nm _ _ h01
   generalize upd G1 t1 (.tup [V.str "back"])=G2 at s2 h02 h12 ⊢
   refine ⟨_,rfl,_,_,rfl,rfl,M7,dG,fun t2 EW=>?_⟩
   have s3:=s2.trans (ai (o:=.tup [V.str "halt",V.int (x % 9)]) EW)
   have h23:upd G2 t2 (.tup [V.str "halt",V.int (x % 9)]) t2=_:=ah
   have h03:=ai (o:=.tup [V.str "halt",V.int (x % 9)]) EW _ _ h02
   have h13:=ai (o:=.tup [V.str "halt",V.int (x % 9)]) EW _ _ h12
   generalize upd G2 t2 (.tup [V.str "halt",V.int (x % 9)])=G3 at s3 h03 h13 h23 ⊢
   refine ⟨_,rfl,_,_,rfl,rfl,⟨by show (0:Int) < 9; decide,by show (9:Int) < _; decide⟩,_,_,rfl,rfl,C2,km,fun t3 BJ=>?_⟩
   have s4:=s3.trans (ai (o:=.tup [V.str "jump",V.int 0,V.int (x / 9 % 2)]) BJ)
   have h34:upd G3 t3 (.tup [V.str "jump",V.int 0,V.int (x / 9 % 2)]) t3=_:=ah
   have h04:=ai (o:=.tup [V.str "jump",V.int 0,V.int (x / 9 % 2)]) BJ _ _ h03
   have h14:=ai (o:=.tup [V.str "jump",V.int 0,V.int (x / 9 % 2)]) BJ _ _ h13
   have h24:=ai (o:=.tup [V.str "jump",V.int 0,V.int (x / 9 % 2)]) BJ _ _ h23
   generalize upd G3 t3 (.tup [V.str "jump",V.int 0,V.int (x / 9 % 2)])=G4 at s4 h04 h14 h24 h34 ⊢
   refine ⟨C1,fun l nl=>?_⟩
   have s5:=s4.trans (ai (o:=.lst [.ref t0,.ref t1,.ref t2,.ref t3]) nl)
   have h6:upd G4 l (.lst [.ref t0,.ref t1,.ref t2,.ref t3]) l=_:=ah
   have h05:=ai (o:=.lst [.ref t0,.ref t1,.ref t2,.ref t3]) nl _ _ h04
   have h15:=ai (o:=.lst [.ref t0,.ref t1,.ref t2,.ref t3]) nl _ _ h14
   have h25:=ai (o:=.lst [.ref t0,.ref t1,.ref t2,.ref t3]) nl _ _ h24
   have h35:=ai (o:=.lst [.ref t0,.ref t1,.ref t2,.ref t3]) nl _ _ h34
   generalize upd G4 l (.lst [.ref t0,.ref t1,.ref t2,.ref t3])=G5 at s5 h6 h05 h15 h25 h35 ⊢
   refine ⟨_,rfl,_,_,rfl,rfl,⟨by show (0:Int) < 20; decide,by show (20:Int) < _; decide⟩,_,_,rfl,rfl,wJ,?_⟩
   have hc:x / 20 % 4=0∨x / 20 % 4=1∨x / 20 % 4=2∨x / 20 % 4=3:=by omega
   rcases hc with hc | hc | hc | hc
   ·exact ⟨l,_,0,_,rfl,congrArg V.int hc,aZ.of h6,rfl,k t0 ⟨"stop",[],[]⟩ _ s5 (sE (by decide) h05) (GoodR.plain (by decide) sF) (by decide:("stop" : Str) ∈ cy)⟩
   ·exact ⟨l,_,1,_,rfl,congrArg V.int hc,aZ.of h6,rfl,k t1 ⟨"back",[],[]⟩ _ s5 (sE (by decide) h15) (GoodR.plain (by decide) sF) (by decide:("back" : Str) ∈ cy)⟩
   ·exact ⟨l,_,2,_,rfl,congrArg V.int hc,aZ.of h6,rfl,k t2 ⟨"halt",[_],[]⟩ _ s5 (nI (by decide) h25) (GoodR.plain (by decide) (oY (k1 := "number") (r:=[]) rfl ⟨show 0 ≤ x % 9 by omega,show x % 9 ≤ 1000000 by omega⟩)) (by decide:("halt" : Str) ∈ cy)⟩
   ·exact ⟨l,_,3,_,rfl,congrArg V.int hc,aZ.of h6,rfl,k t3 ⟨"jump",[_,_],[_]⟩ _ s5 (yO (by decide) h35) ⟨(by show 1 ≤ 16; decide),(fun t ht=>by rw [mem_singleton.mp ht]; exact ⟨Int.le_refl _,hn⟩),fun _=>h2,oZ (k1 := "target") (k2 := "far") rfl ⟨Int.le_refl _,show (0:Int) ≤ 1000000000 by decide⟩ ⟨show 0 ≤ x / 9 % 2 by omega,show x / 9 % 2 ≤ 1 by omega⟩⟩ (by decide:("jump" : Str) ∈ cy)⟩
end
def Bx (b:Int):Prop:=0 ≤ b∧b < 8
abbrev Nn:Stmt:=top 7
theorem dr:∀ (ns:List Str) (vs:List V) (i:Nat) (x:Str),ns.Nodup→ns[i]? = some x→(ns.zip vs).lookup x=vs[i]?
 | [],_,i,x,_,h=>by simp at h
 | n :: ns,[],i,x,_,h=>by simp
 | n :: ns,v :: vs,0,x,_,h=>by
  have e:n=x:=by simpa using h
  subst e
  rw [zip_cons_cons,List.lookup_cons_self]
  rfl
 | n :: ns,v :: vs,i + 1,x,hn,h=>by
  have hn':=nodup_cons.mp hn
  have hm:x ∈ ns:=List.mem_of_getElem? (by simpa using h)
  have ne:¬ x=n:=fun e=>hn'.1 (e ▸ hm)
  rw [zip_cons_cons,List.lookup_cons,show (x == n)=false from beq_eq_false_iff_ne.mpr ne]
  exact dr ns vs i x hn'.2 (by simpa using h)
theorem yQ:∀ (ns:List Str) (vs:List V) (x:Str),¬ x ∈ ns→(ns.zip vs).lookup x=none
 | [],_,_,_=>by simp
 | _ :: _,[],_,_=>by simp
 | n :: ns,v :: vs,x,h=>by
  have ne:¬ x=n:=fun e=>h (by simp [e])
  rw [zip_cons_cons,List.lookup_cons,show (x == n)=false from beq_eq_false_iff_ne.mpr ne]
  exact yQ ns vs x fun z=>h (by simp [z])
theorem nJ (y:V):∀ (ns:List Str) (vs:List V) (i:Nat) (x:Str),ns.Nodup→ns[i]? = some x→i < vs.length→dU x y (ns.zip vs)=ns.zip (vs.set i y)
 | [],_,i,x,_,h,_=>by simp at h
 | n :: ns,[],i,x,_,h,l=>by simp at l
 | n :: ns,v :: vs,0,x,_,h,_=>by
  have e:n=x:=by simpa using h
  subst e
  show (if n=n then _ else _)=_
  rw [if_pos rfl]
  rfl
 | n :: ns,v :: vs,i + 1,x,hn,h,l=>by
  have hn':=nodup_cons.mp hn
  have hm:x ∈ ns:=List.mem_of_getElem? (by simpa using h)
  have ne:¬ n=x:=fun e=>hn'.1 (e ▸ hm)
  show (if n=x then _ else (n,v) :: dU x y (ns.zip vs))=_
  rw [if_neg ne,nJ y ns vs i x hn'.2 (by simpa using h) (by simpa using l)]
  rfl
theorem eV (y:V) (x:Str):∀ (ns:List Str) (vs:List V),¬ x ∈ ns→ns.length=vs.length→dU x y (ns.zip vs)=(ns ++ [x]).zip (vs ++ [y])
 | [],[],_,_=>rfl
 | [],_ :: _,_,h=>by simp at h
 | _ :: _,[],_,h=>by simp at h
 | n :: ns,v :: vs,h,l=>by
  have ne:¬ n=x:=fun e=>h (by simp [e])
  show (if n=x then _ else (n,v) :: dU x y (ns.zip vs))=_
  rw [if_neg ne,eV y x ns vs (fun z=>h (by simp [z])) (by simpa using l)]
  rfl
def names:List Str:=["program", "in_boxes", "in_cells", "in_asides", "rung", "told_numbers", "seen_numbers", "pile", "marks_done", "here", "how_ended"]
theorem cZ:names.Nodup:=by decide +kernel
structure MA where
 (dx p1 p2 p3 p4 p5 p6 p7 p8:Addr)
def vals (m:MA) (k:Int) (h w:V):List V:=[.ref m.p1,.ref m.p2,.ref m.p3,.ref m.p4,.ref m.p5,.ref m.p6,.ref m.p7,.ref m.p8,.int k,h,w]
abbrev eK (m:MA) (k:Int) (h w:V):List (Str × V):=names.zip (vals m k h w)
section
variable {m:MA} {k:Int} {h w v:V}
theorem Kt:(eK m k h w).lookup ("program" : Str)=some (V.ref m.p1):=dr names _ 0 _ cZ rfl
theorem dR:(eK m k h w).lookup ("in_boxes" : Str)=some (V.ref m.p2):=dr names _ 1 _ cZ rfl
theorem C9:(eK m k h w).lookup ("in_cells" : Str)=some (V.ref m.p3):=dr names _ 2 _ cZ rfl
theorem IH:(eK m k h w).lookup ("in_asides" : Str)=some (V.ref m.p4):=dr names _ 3 _ cZ rfl
theorem Ku:(eK m k h w).lookup ("rung" : Str)=some (V.ref m.p5):=dr names _ 4 _ cZ rfl
theorem Kv:(eK m k h w).lookup ("told_numbers" : Str)=some (V.ref m.p6):=dr names _ 5 _ cZ rfl
theorem Kw:(eK m k h w).lookup ("seen_numbers" : Str)=some (V.ref m.p7):=dr names _ 6 _ cZ rfl
theorem wN:(eK m k h w).lookup ("pile" : Str)=some (V.ref m.p8):=dr names _ 7 _ cZ rfl
theorem FX:(eK m k h w).lookup ("marks_done" : Str)=some (V.int k):=dr names _ 8 _ cZ rfl
theorem o8:(eK m k h w).lookup ("here" : Str)=some h:=dr names _ 9 _ cZ rfl
theorem mF {x:Str} (hx:¬ x ∈ names):(eK m k h w).lookup x=none:=yQ names _ x hx
theorem i3:dU "here" v (eK m k h w)=eK m k v w:=(nJ v names (vals m k h w) 9 _ cZ rfl (by show 9 < 11; decide)).trans rfl
theorem Np:dU "how_ended" v (eK m k h w)=eK m k h v:=(nJ v names (vals m k h w) 10 _ cZ rfl (by show 10 < 11; decide)).trans rfl
theorem FY {j:Int}:dU "marks_done" (.int j) (eK m k h w)=eK m j h w:=(nJ (.int j) names (vals m k h w) 8 _ cZ rfl (by show 8 < 11; decide)).trans rfl
theorem jL:(eK m k h w).length < 1000:=by
 show 11 < 1000
 decide
end
def Own (m:MA) (x c:Addr):Prop:=c=x∨c=m.p2∨c=m.p3∨c=m.p4∨c=m.p5∨c=m.p6∨c=m.p7∨c=m.p8
def Fr (m:MA) (x:Addr) (H H':Hp):Prop:=∀ c o,¬ Own m x c→H c=some o→H' c=some o
theorem Fr.refl {m:MA} {x:Addr} {H:Hp}:Fr m x H H:=fun _ _ _ e=>e
theorem Fr.trans {m:MA} {x:Addr} {H H1 H2:Hp} (a:Fr m x H H1) (b:Fr m x H1 H2):Fr m x H H2:=fun c o n e=>b c o n (a c o n e)
theorem Fr.same {m:MA} {x:Addr} {H H1:Hp} (e:Same H H1):Fr m x H H1:=fun c o _ h=>e c o h
theorem Fr.upd {m:MA} {x p:Addr} {H:Hp} {o:HO} (h:Own m x p):Fr m x H (upd H p o):=fun c u n e=>by
 have ne:c ≠ p:=fun z=>n (by rw [z]; exact h)
 rw [aK ne]
 exact e
structure Zt where
 here:V
 how:Option (List V)
 bs:List Int
 cf:Int→Int
 af:Int→Int
 told:List Int
 seen:List (Int × Int)
 pile:List Int
 k:Int
def iI (H:Hp) (v:V):Option (List V)→Prop
 | none=>v=.non
 | some xs=>∃ p,v=.ref p∧H p=some (.tup xs)
def gH (H:Hp) (ps:List Addr) (sn:List (Int × Int)):Prop:=ps.length=sn.length∧∀ (i:Nat) p c,ps[i]? = some p→sn[i]? = some c→H p=some (.tup [.int c.1,.int c.2])
def cF (H H':Hp):Prop:=∀ b xs,H b=some (.tup xs)→H' b=some (.tup xs)
theorem cF.of {H H':Hp} (e:Same H H'):cF H H':=fun b xs h=>e b _ h
theorem cF.upd {H:Hp} {p:Addr} {o o':HO} (h:H p=some o) (n:∀ xs,o ≠ .tup xs):cF H (upd H p o'):=fun b xs e=>by
 rw [aK (cm e h (fun z=>n xs z.symm))]
 exact e
theorem iI.tups {H H':Hp} {v:V} {w:Option (List V)} (e:cF H H') (h:iI H v w):iI H' v w:=by
 cases w with
 | none=>exact h
 | some xs =>
  obtain ⟨p,a,b⟩:=h
  exact ⟨p,a,e _ _ b⟩
theorem gH.tups {H H':Hp} {ps:List Addr} {sn:List (Int × Int)} (e:cF H H') (h:gH H ps sn):gH H' ps sn:=⟨h.1,fun i p c a b=>e _ _ (h.2 i p c a b)⟩
structure Apart (m:MA):Prop where
 (n12:m.p1 ≠ m.p2) (n16:m.p1 ≠ m.p6) (n17:m.p1 ≠ m.p7) (n18:m.p1 ≠ m.p8) (n26:m.p2 ≠ m.p6) (n27:m.p2 ≠ m.p7) (n28:m.p2 ≠ m.p8) (Q8:m.p6 ≠ m.p7) (Q9:m.p6 ≠ m.p8) (Ra:m.p7 ≠ m.p8)
 (n34:m.p3 ≠ m.p4) (n35:m.p3 ≠ m.p5) (n45:m.p4 ≠ m.p5)
structure MG (C:Addr) (H:Hp) (x:Addr) (m:MA) (rows:List V) (aq:List (Key × V)) (B:Nat) (z:Zt):Prop where
 obj:∃ w,H x=some (.ins C m.dx (eK m z.k z.here w))∧iI H w z.how
 prog:H m.p1=some (.lst rows)
 box:H m.p2=some (.lst (z.bs.map V.int))
 b8:z.bs.length=8
 cell:∃ d,H m.p3=some (.dK d)∧Rep d z.cf∧d.length ≤ B
 yR:∃ d,H m.p4=some (.dK d)∧Rep d z.af∧d.length ≤ B
 rg:H m.p5=some (.dK aq)
 told:H m.p6=some (.lst (z.told.map V.int))
 seen:∃ ps,H m.p7=some (.lst (ps.map V.ref))∧gH H ps z.seen
 nK:H m.p8=some (.lst (z.pile.map V.int))
 ap:Apart m
 lens:z.told.length ≤ B∧z.seen.length ≤ B∧z.pile.length ≤ B
 big:B ≤ 900
section
variable {C x:Addr} {H H':Hp} {m:MA} {rows:List V} {aq:List (Key × V)} {B:Nat} {z:Zt}
theorem MG.same (M:MG C H x m rows aq B z) (e:Same H H'):MG C H' x m rows aq B z:=by
 obtain ⟨w,o1,o2⟩:=M.obj
 obtain ⟨d,c1,c2⟩:=M.cell
 obtain ⟨d',a1,a2⟩:=M.yR
 obtain ⟨ps,s1,s2⟩:=M.seen
 exact ⟨⟨w,e _ _ o1,o2.tups (.of e)⟩,e _ _ M.prog,e _ _ M.box,M.b8,⟨d,e _ _ c1,c2⟩,⟨d',e _ _ a1,a2⟩,e _ _ M.rg,e _ _ M.told,⟨ps,e _ _ s1,s2.tups (.of e)⟩,e _ _ M.nK,M.ap,M.lens,M.big⟩
theorem MG.more (M:MG C H x m rows aq B z) {B':Nat} (h:B ≤ B') (hb:B' ≤ 900):MG C H x m rows aq B' z:=by
 obtain ⟨d,c1,c2,c3⟩:=M.cell
 obtain ⟨d',a1,a2,a3⟩:=M.yR
 obtain ⟨l1,l2,l3⟩:=M.lens
 exact ⟨M.obj,M.prog,M.box,M.b8,⟨d,c1,c2,by omega⟩,⟨d',a1,a2,by omega⟩,M.rg,M.told,M.seen,M.nK,M.ap,⟨by omega,by omega,by omega⟩,hb⟩
theorem MG.Kx (M:MG C H x m rows aq B z) {q:Addr} {xs:List V} (h:H q=some (.tup xs)):¬ Own m x q:=by
 obtain ⟨w,o1,o2⟩:=M.obj
 obtain ⟨d,c1,c2⟩:=M.cell
 obtain ⟨d',a1,a2⟩:=M.yR
 obtain ⟨ps,s1,s2⟩:=M.seen
 rintro (rfl | rfl | rfl | rfl | rfl | rfl | rfl | rfl)
 ·rw [o1] at h; cases h
 ·rw [M.box] at h; cases h
 ·rw [c1] at h; cases h
 ·rw [a1] at h; cases h
 ·rw [M.rg] at h; cases h
 ·rw [M.told] at h; cases h
 ·rw [s1] at h; cases h
 ·rw [M.nK] at h; cases h
theorem MG.put (M:MG C H x m rows aq B z) {k':Int} {gP w':V} {Ky:Option (List V)} (hw:iI H w' Ky):MG C (upd H x (.ins C m.dx (eK m k' gP w'))) x m rows aq B { z with k:=k',here:=gP,how:=Ky }:=by
 obtain ⟨w,o1,o2⟩:=M.obj
 obtain ⟨d,c1,c2⟩:=M.cell
 obtain ⟨d',a1,a2⟩:=M.yR
 obtain ⟨ps,s1,s2⟩:=M.seen
 have e:∀ {c o},H c=some o→(∀ fs,o ≠ .ins C m.dx fs)→upd H x (.ins C m.dx (eK m k' gP w')) c=some o:=fun {c o} h n=>by
  rw [aK (cm h o1 (n _))]
  exact h
 have t:cF H (upd H x (.ins C m.dx (eK m k' gP w'))):=.upd o1 (by intro _ z; cases z)
 exact ⟨⟨w',ah,hw.tups t⟩,e M.prog (by intro _ z; cases z),e M.box (by intro _ z; cases z),M.b8,⟨d,e c1 (by intro _ z; cases z),c2⟩,⟨d',e a1 (by intro _ z; cases z),a2⟩,e M.rg (by intro _ z; cases z),e M.told (by intro _ z; cases z),⟨ps,e s1 (by intro _ z; cases z),s2.tups t⟩,e M.nK (by intro _ z; cases z),M.ap,M.lens,M.big⟩
theorem MG.x_ (M:MG C H x m rows aq B z) {p:Addr} {o:HO} (h:H p=some o) (n:∀ fs,o ≠ .ins C m.dx fs):x ≠ p:=by
 obtain ⟨w,o1,_⟩:=M.obj
 exact cm o1 h (fun z=>n _ z.symm)
theorem MG.o9 (M:MG C H x m rows aq B z) {bs':List Int} (h8:bs'.length=8):MG C (upd H m.p2 (.lst (bs'.map V.int))) x m rows aq B { z with bs:=bs' }:=by
 obtain ⟨w,o1,o2⟩:=M.obj
 obtain ⟨d,c1,c2⟩:=M.cell
 obtain ⟨d',a1,a2⟩:=M.yR
 obtain ⟨ps,s1,s2⟩:=M.seen
 have t:cF H (upd H m.p2 (.lst (bs'.map V.int))):=.upd M.box (by intro _ z; cases z)
 have e:∀ {c o},H c=some o→c ≠ m.p2→upd H m.p2 (.lst (bs'.map V.int)) c=some o:=fun {c o} h n=>by rw [aK n]; exact h
 exact ⟨⟨w,e o1 (M.x_ M.box (by intro _ z; cases z)),o2.tups t⟩,e M.prog M.ap.n12,ah,h8,⟨d,e c1 (cm c1 M.box (by intro z; cases z)),c2⟩,⟨d',e a1 (cm a1 M.box (by intro z; cases z)),a2⟩,e M.rg (cm M.rg M.box (by intro z; cases z)),e M.told M.ap.n26.symm,⟨ps,e s1 M.ap.n27.symm,s2.tups t⟩,e M.nK M.ap.n28.symm,M.ap,M.lens,M.big⟩
theorem MG.Nq (M:MG C H x m rows aq B z) {t':List Int} (hl:t'.length ≤ B):MG C (upd H m.p6 (.lst (t'.map V.int))) x m rows aq B { z with told:=t' }:=by
 obtain ⟨w,o1,o2⟩:=M.obj
 obtain ⟨d,c1,c2⟩:=M.cell
 obtain ⟨d',a1,a2⟩:=M.yR
 obtain ⟨ps,s1,s2⟩:=M.seen
 have t:cF H (upd H m.p6 (.lst (t'.map V.int))):=.upd M.told (by intro _ z; cases z)
 have e:∀ {c o},H c=some o→c ≠ m.p6→upd H m.p6 (.lst (t'.map V.int)) c=some o:=fun {c o} h n=>by rw [aK n]; exact h
 exact ⟨⟨w,e o1 (M.x_ M.told (by intro _ z; cases z)),o2.tups t⟩,e M.prog M.ap.n16,e M.box M.ap.n26,M.b8,⟨d,e c1 (cm c1 M.told (by intro z; cases z)),c2⟩,⟨d',e a1 (cm a1 M.told (by intro z; cases z)),a2⟩,e M.rg (cm M.rg M.told (by intro z; cases z)),ah,⟨ps,e s1 M.ap.Q8.symm,s2.tups t⟩,e M.nK M.ap.Q9.symm,M.ap,⟨hl,M.lens.2⟩,M.big⟩
theorem MG.yS (M:MG C H x m rows aq B z) {ps:List Addr} {sn:List (Int × Int)} (hs:gH H ps sn) (hl:sn.length ≤ B):MG C (upd H m.p7 (.lst (ps.map V.ref))) x m rows aq B { z with seen:=sn }:=by
 obtain ⟨w,o1,o2⟩:=M.obj
 obtain ⟨d,c1,c2⟩:=M.cell
 obtain ⟨d',a1,a2⟩:=M.yR
 obtain ⟨ps0,s1,s2⟩:=M.seen
 have t:cF H (upd H m.p7 (.lst (ps.map V.ref))):=.upd s1 (by intro _ z; cases z)
 have e:∀ {c o},H c=some o→c ≠ m.p7→upd H m.p7 (.lst (ps.map V.ref)) c=some o:=fun {c o} h n=>by rw [aK n]; exact h
 exact ⟨⟨w,e o1 (M.x_ s1 (by intro _ z; cases z)),o2.tups t⟩,e M.prog M.ap.n17,e M.box M.ap.n27,M.b8,⟨d,e c1 (cm c1 s1 (by intro z; cases z)),c2⟩,⟨d',e a1 (cm a1 s1 (by intro z; cases z)),a2⟩,e M.rg (cm M.rg s1 (by intro z; cases z)),e M.told M.ap.Q8,⟨ps,ah,hs.tups t⟩,e M.nK M.ap.Ra.symm,M.ap,⟨M.lens.1,hl,M.lens.2.2⟩,M.big⟩
theorem MG.II (M:MG C H x m rows aq B z) {p':List Int} (hl:p'.length ≤ B):MG C (upd H m.p8 (.lst (p'.map V.int))) x m rows aq B { z with pile:=p' }:=by
 obtain ⟨w,o1,o2⟩:=M.obj
 obtain ⟨d,c1,c2⟩:=M.cell
 obtain ⟨d',a1,a2⟩:=M.yR
 obtain ⟨ps,s1,s2⟩:=M.seen
 have t:cF H (upd H m.p8 (.lst (p'.map V.int))):=.upd M.nK (by intro _ z; cases z)
 have e:∀ {c o},H c=some o→c ≠ m.p8→upd H m.p8 (.lst (p'.map V.int)) c=some o:=fun {c o} h n=>by rw [aK n]; exact h
 exact ⟨⟨w,e o1 (M.x_ M.nK (by intro _ z; cases z)),o2.tups t⟩,e M.prog M.ap.n18,e M.box M.ap.n28,M.b8,⟨d,e c1 (cm c1 M.nK (by intro z; cases z)),c2⟩,⟨d',e a1 (cm a1 M.nK (by intro z; cases z)),a2⟩,e M.rg (cm M.rg M.nK (by intro z; cases z)),e M.told M.ap.Q9,⟨ps,e s1 M.ap.Ra,s2.tups t⟩,ah,M.ap,⟨M.lens.1,M.lens.2.1,hl⟩,M.big⟩
theorem MG.cells (M:MG C H x m rows aq B z) {d0:List (Key × V)} {f:Int→Int} (r:Rep d0 f) (hl:d0.length ≤ B):MG C (upd H m.p3 (.dK d0)) x m rows aq B { z with cf:=f }:=by
 obtain ⟨w,o1,o2⟩:=M.obj
 obtain ⟨d,c1,c2⟩:=M.cell
 obtain ⟨d',a1,a2⟩:=M.yR
 obtain ⟨ps,s1,s2⟩:=M.seen
 have t:cF H (upd H m.p3 (.dK d0)):=.upd c1 (by intro _ z; cases z)
 have e:∀ {c o},H c=some o→c ≠ m.p3→upd H m.p3 (.dK d0) c=some o:=fun {c o} h n=>by rw [aK n]; exact h
 exact ⟨⟨w,e o1 (M.x_ c1 (by intro _ z; cases z)),o2.tups t⟩,e M.prog (cm M.prog c1 (by intro z; cases z)),e M.box (cm M.box c1 (by intro z; cases z)),M.b8,⟨d0,ah,r,hl⟩,⟨d',e a1 M.ap.n34.symm,a2⟩,e M.rg M.ap.n35.symm,e M.told (cm M.told c1 (by intro z; cases z)),⟨ps,e s1 (cm s1 c1 (by intro z; cases z)),s2.tups t⟩,e M.nK (cm M.nK c1 (by intro z; cases z)),M.ap,M.lens,M.big⟩
theorem MG.Nr (M:MG C H x m rows aq B z) {d0:List (Key × V)} {f:Int→Int} (r:Rep d0 f) (hl:d0.length ≤ B):MG C (upd H m.p4 (.dK d0)) x m rows aq B { z with af:=f }:=by
 obtain ⟨w,o1,o2⟩:=M.obj
 obtain ⟨d,c1,c2⟩:=M.cell
 obtain ⟨d',a1,a2⟩:=M.yR
 obtain ⟨ps,s1,s2⟩:=M.seen
 have t:cF H (upd H m.p4 (.dK d0)):=.upd a1 (by intro _ z; cases z)
 have e:∀ {c o},H c=some o→c ≠ m.p4→upd H m.p4 (.dK d0) c=some o:=fun {c o} h n=>by rw [aK n]; exact h
 exact ⟨⟨w,e o1 (M.x_ a1 (by intro _ z; cases z)),o2.tups t⟩,e M.prog (cm M.prog a1 (by intro z; cases z)),e M.box (cm M.box a1 (by intro z; cases z)),M.b8,⟨d,e c1 M.ap.n34,c2⟩,⟨d0,ah,r,hl⟩,e M.rg M.ap.n45.symm,e M.told (cm M.told a1 (by intro z; cases z)),⟨ps,e s1 (cm s1 a1 (by intro z; cases z)),s2.tups t⟩,e M.nK (cm M.nK a1 (by intro z; cases z)),M.ap,M.lens,M.big⟩
theorem MG.at (M:MG C H x m rows aq B z) {b:Int} (hb:Bx b):oq (z.bs.map V.int) b=some (.int (z.bs.getD b.toNat 0)):=by
 obtain ⟨j,rfl⟩:=Int.eq_ofNat_of_zero_le hb.1
 have hj:j < z.bs.length:=by have:=hb.2; have:=M.b8; omega
 refine cw (j:=j) ?_
 rw [List.getElem?_map,List.getElem?_eq_getElem hj,Int.toNat_natCast,List.getD_eq_getElem?_getD,List.getElem?_eq_getElem hj]
 rfl
theorem MG.ix (M:MG C H x m rows aq B z) {b:Int} (hb:Bx b):BI (z.bs.map V.int).length b=some b.toNat:=by
 obtain ⟨j,rfl⟩:=Int.eq_ofNat_of_zero_le hb.1
 rw [length_map,M.b8]
 have:=hb.2
 unfold BI
 rw [if_pos (by omega),if_pos (by omega)]
end
structure j3 (K:Frag) (mg:Str→Option Value) (C:Addr):Prop where
 cl:Cls K C
 nP:dJ K C "program"
 nB:dJ K C "in_boxes"
 nC:dJ K C "in_cells"
 nA:dJ K C "in_asides"
 nR:dJ K C "rung"
 nT:dJ K C "told_numbers"
 nS:dJ K C "seen_numbers"
 nL:dJ K C "pile"
 nM:dJ K C "marks_done"
 nH:dJ K C "here"
 nE:dJ K C "how_ended"
abbrev sH:Stmt:=top 8
abbrev sI:Stmt:=top 9
abbrev sJ:Stmt:=top 10
abbrev yT:Stmt:=top 11
abbrev sL:Stmt:=top 12
abbrev sM:Stmt:=top 13
abbrev yU:Stmt:=top 14
abbrev sO:Stmt:=top 15
abbrev sP:Stmt:=top 16
abbrev sQ:Stmt:=top 17
abbrev sR:Stmt:=top 18
abbrev yV:Stmt:=top 19
abbrev yW:Stmt:=top 20
abbrev sS:Stmt:=top 21
abbrev sU:Stmt:=top 22
abbrev sV:Stmt:=top 23
abbrev nQ:Stmt:=top 24
abbrev sW:Stmt:=top 25
abbrev sY:Stmt:=top 26
abbrev nU:Stmt:=top 27
section
variable {P:Program} {w:World} {K:Frag} {mg:Str→Option Value} {base:Heap}
abbrev Zt.bx (z:Zt) (b:Int):Int:=z.bs.getD b.toNat 0
def IJ (C:Addr):Sp:=fun vs H Q _=>∃ (x q:Addr) (m:MA) (rows:List V) (aq:List (Key × V)) (B:Nat) (z:Zt) (h:Int) (u:Str) (b v:Int),vs=[.ref x,.ref q]∧MG C H x m rows aq B z∧B < 900∧z.here=.int h∧H q=some (.tup [.str u,.int b,.int v])∧Bx b∧∀ H',Fr m x H H'→MG C H' x m rows aq (B + 1) { z with bs:=z.bs.set b.toNat (v) }→Q .non H'
def Dc (C:Addr):Sp:=fun vs H Q _=>∃ (x q:Addr) (m:MA) (rows:List V) (aq:List (Key × V)) (B:Nat) (z:Zt) (h:Int) (u:Str) (b v:Int),vs=[.ref x,.ref q]∧MG C H x m rows aq B z∧B < 900∧z.here=.int h∧H q=some (.tup [.str u,.int b,.int v])∧Bx b∧∀ H',Fr m x H H'→MG C H' x m rows aq (B + 1) { z with bs:=z.bs.set b.toNat (z.bx b + v) }→Q .non H'
def Dd (C:Addr):Sp:=fun vs H Q _=>∃ (x q:Addr) (m:MA) (rows:List V) (aq:List (Key × V)) (B:Nat) (z:Zt) (h:Int) (u:Str) (b v:Int),vs=[.ref x,.ref q]∧MG C H x m rows aq B z∧B < 900∧z.here=.int h∧H q=some (.tup [.str u,.int b,.int v])∧Bx b∧Bx v∧∀ H',Fr m x H H'→MG C H' x m rows aq (B + 1) { z with bs:=z.bs.set b.toNat (z.bx v) }→Q .non H'
def IK (C:Addr):Sp:=fun vs H Q _=>∃ (x q:Addr) (m:MA) (rows:List V) (aq:List (Key × V)) (B:Nat) (z:Zt) (h:Int) (u:Str) (b v:Int),vs=[.ref x,.ref q]∧MG C H x m rows aq B z∧B < 900∧z.here=.int h∧H q=some (.tup [.str u,.int b,.int v])∧Bx b∧Bx v∧∀ H',Fr m x H H'→MG C H' x m rows aq (B + 1) { z with bs:=z.bs.set b.toNat (z.bx b + z.bx v) }→Q .non H'
def De (C:Addr):Sp:=fun vs H Q _=>∃ (x q:Addr) (m:MA) (rows:List V) (aq:List (Key × V)) (B:Nat) (z:Zt) (h:Int) (u:Str) (b v:Int),vs=[.ref x,.ref q]∧MG C H x m rows aq B z∧B < 900∧z.here=.int h∧H q=some (.tup [.str u,.int b,.int v])∧Bx b∧Bx v∧∀ H',Fr m x H H'→MG C H' x m rows aq (B + 1) { z with bs:=z.bs.set b.toNat (z.bx b - z.bx v) }→Q .non H'
def Df (C:Addr):Sp:=fun vs H Q _=>∃ (x q:Addr) (m:MA) (rows:List V) (aq:List (Key × V)) (B:Nat) (z:Zt) (h:Int) (u:Str) (b v:Int),vs=[.ref x,.ref q]∧MG C H x m rows aq B z∧B < 900∧z.here=.int h∧H q=some (.tup [.str u,.int b,.int v])∧Bx b∧Bx v∧∀ H',Fr m x H H'→MG C H' x m rows aq (B + 1) { z with bs:=z.bs.set b.toNat (z.cf (z.bx v)) }→Q .non H'
def Dg (C:Addr):Sp:=fun vs H Q _=>∃ (x q:Addr) (m:MA) (rows:List V) (aq:List (Key × V)) (B:Nat) (z:Zt) (h:Int) (u:Str) (b v:Int),vs=[.ref x,.ref q]∧MG C H x m rows aq B z∧B < 900∧z.here=.int h∧H q=some (.tup [.str u,.int b,.int v])∧Bx b∧∀ H',Fr m x H H'→MG C H' x m rows aq (B + 1) { z with bs:=z.bs.set b.toNat (z.af v) }→Q .non H'
def Dh (C:Addr):Sp:=fun vs H Q _=>∃ (x q:Addr) (m:MA) (rows:List V) (aq:List (Key × V)) (B:Nat) (z:Zt) (h:Int) (u:Str) (b v:Int),vs=[.ref x,.ref q]∧MG C H x m rows aq B z∧B < 900∧z.here=.int h∧H q=some (.tup [.str u,.int b,.int v])∧Bx b∧Bx v∧∀ H',Fr m x H H'→MG C H' x m rows aq (B + 1) { z with cf:=iU z.cf (z.bx b) (z.bx v) }→Q .non H'
def IL (C:Addr):Sp:=fun vs H Q _=>∃ (x q:Addr) (m:MA) (rows:List V) (aq:List (Key × V)) (B:Nat) (z:Zt) (h:Int) (u:Str) (b v:Int),vs=[.ref x,.ref q]∧MG C H x m rows aq B z∧B < 900∧z.here=.int h∧H q=some (.tup [.str u,.int b,.int v])∧Bx b∧∀ H',Fr m x H H'→MG C H' x m rows aq (B + 1) { z with af:=iU z.af v (z.bx b) }→Q .non H'
def Di (C:Addr):Sp:=fun vs H Q _=>∃ (x q:Addr) (m:MA) (rows:List V) (aq:List (Key × V)) (B:Nat) (z:Zt) (h:Int) (u:Str) (b:Int),vs=[.ref x,.ref q]∧MG C H x m rows aq B z∧B < 900∧z.here=.int h∧H q=some (.tup [.str u,.int b])∧Bx b∧∀ H',Fr m x H H'→MG C H' x m rows aq (B + 1) { z with told:=z.told ++ [z.bx b] }→Q .non H'
def IQ (C:Addr):Sp:=fun vs H Q _=>∃ (x q:Addr) (m:MA) (rows:List V) (aq:List (Key × V)) (B:Nat) (z:Zt) (h:Int) (u:Str) (b v:Int),vs=[.ref x,.ref q]∧MG C H x m rows aq B z∧B < 900∧z.here=.int h∧H q=some (.tup [.str u,.int b,.int v])∧Bx b∧∀ H',Fr m x H H'→MG C H' x m rows aq (B + 1) { z with seen:=z.seen ++ [(v,z.bx b)] }→Q .non H'
def Dj (C:Addr):Sp:=fun vs H Q _=>∃ (x q:Addr) (m:MA) (rows:List V) (aq:List (Key × V)) (B:Nat) (z:Zt) (h:Int) (u:Str) (t f:Int),vs=[.ref x,.ref q]∧MG C H x m rows aq B z∧B < 900∧z.here=.int h∧H q=some (.tup [.str u,.int t,.int f])∧∀ H',Fr m x H H'→MG C H' x m rows aq (B + 1) { z with here:=.int t }→Q .non H'
def Dk (C:Addr):Sp:=fun vs H Q _=>∃ (x q:Addr) (m:MA) (rows:List V) (aq:List (Key × V)) (B:Nat) (z:Zt) (h:Int) (u:Str) (b t f:Int),vs=[.ref x,.ref q]∧MG C H x m rows aq B z∧B < 900∧z.here=.int h∧H q=some (.tup [.str u,.int b,.int t,.int f])∧Bx b∧∀ H',Fr m x H H'→MG C H' x m rows aq (B + 1) { z with here:=.int (if z.bx b=0 then t else h) }→Q .non H'
def yX (C:Addr):Sp:=fun vs H Q _=>∃ (x q:Addr) (m:MA) (rows:List V) (aq:List (Key × V)) (B:Nat) (z:Zt) (h:Int) (u:Str) (b t f:Int),vs=[.ref x,.ref q]∧MG C H x m rows aq B z∧B < 900∧z.here=.int h∧H q=some (.tup [.str u,.int b,.int t,.int f])∧Bx b∧∀ H',Fr m x H H'→MG C H' x m rows aq (B + 1) { z with here:=.int (if z.bx b < 0 then t else h) }→Q .non H'
def yZ (C:Addr):Sp:=fun vs H Q _=>∃ (x q:Addr) (m:MA) (rows:List V) (aq:List (Key × V)) (B:Nat) (z:Zt) (h:Int) (u:Str) (b:Int) (p:Addr) (ts:List Int),vs=[.ref x,.ref q]∧MG C H x m rows aq B z∧B < 900∧z.here=.int h∧H q=some (.tup [.str u,.int b,.ref p])∧Bx b∧H p=some (.tup (ts.map V.int))∧∀ H',Fr m x H H'→MG C H' x m rows aq (B + 1) { z with here:=.int (if 0 ≤ z.bx b∧z.bx b < ts.length then ts.getD (z.bx b).toNat 0 else h) }→Q .non H'
def wO (C:Addr):Sp:=fun vs H Q _=>∃ (x q:Addr) (m:MA) (rows:List V) (aq:List (Key × V)) (B:Nat) (z:Zt) (h:Int) (u:Str) (t f:Int),vs=[.ref x,.ref q]∧MG C H x m rows aq B z∧B < 900∧z.here=.int h∧H q=some (.tup [.str u,.int t,.int f])∧∀ H',Fr m x H H'→MG C H' x m rows aq (B + 1) { z with pile:=z.pile ++ [h],here:=.int t }→Q .non H'
def Dl (C:Addr):Sp:=fun vs H Q _=>∃ (x q:Addr) (m:MA) (rows:List V) (aq:List (Key × V)) (B:Nat) (z:Zt) (h:Int) (u:Str) (items:List V),vs=[.ref x,.ref q]∧MG C H x m rows aq B z∧B < 900∧z.here=.int h∧H q=some (.tup (.str u :: items))∧∀ H',Fr m x H H'→MG C H' x m rows aq (B + 1) { z with here:=.non,how:=some [.str "stop"] }→Q .non H'
def Dm (C:Addr):Sp:=fun vs H Q _=>∃ (x q:Addr) (m:MA) (rows:List V) (aq:List (Key × V)) (B:Nat) (z:Zt) (h:Int) (u:Str) (v:Int),vs=[.ref x,.ref q]∧MG C H x m rows aq B z∧B < 900∧z.here=.int h∧H q=some (.tup [.str u,.int v])∧∀ H',Fr m x H H'→MG C H' x m rows aq (B + 1) { z with here:=.non,how:=some [.str "halt",.int v] }→Q .non H'
def Dn (C:Addr):Sp:=fun vs H Q _=>∃ (x q:Addr) (m:MA) (rows:List V) (aq:List (Key × V)) (B:Nat) (z:Zt) (h:Int) (u:Str) (t f:Int) (o:Option V),vs=[.ref x,.ref q]∧MG C H x m rows aq B z∧B < 900∧z.here=.int h∧H q=some (.tup [.str u,.int t,.int f])∧cH aq (Sum.inl z.k)=o∧(o.isSome=true→∀ H',Fr m x H H'→MG C H' x m rows aq (B + 1) { z with k:=z.k + 1,pile:=z.pile ++ [h],here:=.int t }→Q .non H')∧(o.isSome=false→∀ H',Fr m x H H'→MG C H' x m rows aq (B + 1) { z with k:=z.k + 1 }→Q .non H')
def Dp (C:Addr):Sp:=fun vs H Q _=>∃ (x q:Addr) (m:MA) (rows:List V) (aq:List (Key × V)) (B:Nat) (z:Zt) (h:Int) (u:Str) (items:List V),vs=[.ref x,.ref q]∧MG C H x m rows aq B z∧B < 900∧z.here=.int h∧H q=some (.tup (.str u :: items))∧(z.pile=[]→∀ H',Fr m x H H'→MG C H' x m rows aq (B + 1) { z with here:=.non,how:=some [.str "home"] }→Q .non H')∧(∀ (r:List Int) (p:Int),z.pile=r ++ [p]→∀ H',Fr m x H H'→MG C H' x m rows aq (B + 1) { z with pile:=r,here:=.int p }→Q .non H')
def y0 (C:Addr):Sp:=fun vs H Q _=>∃ (x p:Addr) (xs:List V) (m:MA) (rows:List V) (aq:List (Key × V)) (B:Nat) (z:Zt),vs=[.ref x,.ref p]∧H p=some (.tup xs)∧MG C H x m rows aq B z∧∀ H',Fr m x H H'→MG C H' x m rows aq B { z with here:=.non,how:=some xs }→Q .non H'
theorem Nt:aG ["machine", "how"] ["machine", "how"] (aj Nn):=⟨rfl,rfl,rfl,by decide +kernel,rfl,by decide +kernel,by decide +kernel⟩
theorem Kz {f C:Addr} {fd:FuncData} (F:d6 K "end" "end" Nn f fd) (T:j3 K mg C):aM P w K mg base bw 1 f fd ["machine", "how"] (y0 C):=by
 refine F.ok Nt (fun vs H Q E h=>?_) (fun cdv A outer s H vs Q E hr h=>?_)
 ·obtain ⟨x,p,xs,m,rows,aq,B,z,rfl,_⟩:=h
  rfl
 ·obtain ⟨x,p,xs,m,rows,aq,B,z,rfl,hp,M,k⟩:=h
  obtain ⟨w0,ho,hw⟩:=M.obj
  refine ⟨_,aH (dc (pv 0) gS rfl) (az (dc (pv 0) (pv 1) rfl)),?_⟩
  refine ⟨_,rfl,x,C,m.dx,_,rfl,ho,T.cl,T.nH,jL,?_⟩
  rw [i3]
  have M2:=M.put (k':=z.k) (gP:=.non) hw
  refine ⟨_,rfl,_,rfl,x,C,m.dx,_,rfl,ah,T.cl,T.nE,jL,?_⟩
  rw [Np]
  have hp2:upd H x (.ins C m.dx (eK m z.k .non w0)) p=some (.tup xs):=by
   rw [aK (cm hp ho (by intro z; cases z))]
   exact hp
  exact k _ ((Fr.upd (.inl rfl)).trans (Fr.upd (.inl rfl))) (M2.put (k':=z.k) (gP:=.non) (w':=.ref p) (Ky:=some xs) ⟨p,rfl,hp2⟩)
theorem KA:aG ["machine", "row"] ["machine", "row"] (aj yT):=⟨rfl,rfl,rfl,by decide +kernel,rfl,by decide +kernel,by decide +kernel⟩
theorem KC {f C:Addr} {fd:FuncData} (F:d6 K "do_set" "do_set" yT f fd) (T:j3 K mg C):aM P w K mg base bw 1 f fd ["machine", "row"] (IJ C):=by
 refine F.ok KA (fun vs H Q E h=>?_) (fun cdv A outer s H vs Q E hr h=>?_)
 ·obtain ⟨x,q,m,rows,aq,B,z,h,u,b,v,rfl,_⟩:=h
  rfl
 ·obtain ⟨x,q,m,rows,aq,B,z,h,u,b,v,rfl,M,hB,hh,hq,hb,k⟩:=h
  have hu:=cK hr
  obtain ⟨w0,ho,hw⟩:=M.obj
  have M1:=M.more (le_succ B) (by omega)
  refine ⟨_,az (iP (aB aI (pv 1) ao (fun _ _=>rfl)) (iO (bq (pv 0) rfl) (aB aI (pv 1) ao (fun _ _=>rfl)) set_list)),?_⟩
  refine ⟨_,rfl,q,_,_,.int v,rfl,rfl,bp.of hq,at2 _ _ _ _,_,rfl,x,C,m.dx,_,_,rfl,ho,T.cl,T.nB,dR,_,rfl,q,_,_,.int b,rfl,rfl,bp.of hq,at1 _ _ _,m.p2,_,_,_,rfl,rfl,M.box,M.ix hb,?_⟩
  rw [← map_set]
  exact k _ (Fr.upd (.inr (.inl rfl))) (M1.o9 (by rw [length_set]; exact M.b8))
theorem FZ:aG ["machine", "row"] ["machine", "row"] (aj sL):=⟨rfl,rfl,rfl,by decide +kernel,rfl,by decide +kernel,by decide +kernel⟩
theorem Ge {f C:Addr} {fd:FuncData} (F:d6 K "do_more" "do_more" sL f fd) (T:j3 K mg C):aM P w K mg base bw 1 f fd ["machine", "row"] (Dc C):=by
 refine F.ok FZ (fun vs H Q E h=>?_) (fun cdv A outer s H vs Q E hr h=>?_)
 ·obtain ⟨x,q,m,rows,aq,B,z,h,u,b,v,rfl,_⟩:=h
  rfl
 ·obtain ⟨x,q,m,rows,aq,B,z,h,u,b,v,rfl,M,hB,hh,hq,hb,k⟩:=h
  have hu:=cK hr
  obtain ⟨w0,ho,hw⟩:=M.obj
  have M1:=M.more (le_succ B) (by omega)
  refine ⟨_,az (iP (aJ cS (aB aV (bq (pv 0) rfl) (aB aI (pv 1) ao (fun _ _=>rfl)) (fun _ _=>rfl)) (aB aI (pv 1) ao (fun _ _=>rfl))) (iO (bq (pv 0) rfl) (aB aI (pv 1) ao (fun _ _=>rfl)) set_list)),?_⟩
  refine ⟨_,rfl,x,C,m.dx,_,_,rfl,ho,T.cl,T.nB,dR,_,rfl,q,_,_,.int b,rfl,rfl,bp.of hq,at1 _ _ _,m.p2,_,_,_,rfl,rfl,aZ.of M.box,M.at hb,_,rfl,q,_,_,.int v,rfl,rfl,bp.of hq,at2 _ _ _ _,_,_,rfl,rfl,_,rfl,x,C,m.dx,_,_,rfl,ho,T.cl,T.nB,dR,_,rfl,q,_,_,.int b,rfl,rfl,bp.of hq,at1 _ _ _,m.p2,_,_,_,rfl,rfl,M.box,M.ix hb,?_⟩
  rw [← map_set]
  exact k _ (Fr.upd (.inr (.inl rfl))) (M1.o9 (by rw [length_set]; exact M.b8))
theorem Gf:aG ["machine", "row"] ["machine", "row"] (aj sM):=⟨rfl,rfl,rfl,by decide +kernel,rfl,by decide +kernel,by decide +kernel⟩
theorem Gg {f C:Addr} {fd:FuncData} (F:d6 K "do_copy" "do_copy" sM f fd) (T:j3 K mg C):aM P w K mg base bw 1 f fd ["machine", "row"] (Dd C):=by
 refine F.ok Gf (fun vs H Q E h=>?_) (fun cdv A outer s H vs Q E hr h=>?_)
 ·obtain ⟨x,q,m,rows,aq,B,z,h,u,b,v,rfl,_⟩:=h
  rfl
 ·obtain ⟨x,q,m,rows,aq,B,z,h,u,b,v,rfl,M,hB,hh,hq,hb,hv,k⟩:=h
  have hu:=cK hr
  obtain ⟨w0,ho,hw⟩:=M.obj
  have M1:=M.more (le_succ B) (by omega)
  refine ⟨_,az (iP (aB aV (bq (pv 0) rfl) (aB aI (pv 1) ao (fun _ _=>rfl)) (fun _ _=>rfl)) (iO (bq (pv 0) rfl) (aB aI (pv 1) ao (fun _ _=>rfl)) set_list)),?_⟩
  refine ⟨_,rfl,x,C,m.dx,_,_,rfl,ho,T.cl,T.nB,dR,_,rfl,q,_,_,.int v,rfl,rfl,bp.of hq,at2 _ _ _ _,m.p2,_,_,_,rfl,rfl,aZ.of M.box,M.at hv,_,rfl,x,C,m.dx,_,_,rfl,ho,T.cl,T.nB,dR,_,rfl,q,_,_,.int b,rfl,rfl,bp.of hq,at1 _ _ _,m.p2,_,_,_,rfl,rfl,M.box,M.ix hb,?_⟩
  rw [← map_set]
  exact k _ (Fr.upd (.inr (.inl rfl))) (M1.o9 (by rw [length_set]; exact M.b8))
theorem KD:aG ["machine", "row"] ["machine", "row"] (aj yU):=⟨rfl,rfl,rfl,by decide +kernel,rfl,by decide +kernel,by decide +kernel⟩
theorem KG {f C:Addr} {fd:FuncData} (F:d6 K "do_add" "do_add" yU f fd) (T:j3 K mg C):aM P w K mg base bw 1 f fd ["machine", "row"] (IK C):=by
 refine F.ok KD (fun vs H Q E h=>?_) (fun cdv A outer s H vs Q E hr h=>?_)
 ·obtain ⟨x,q,m,rows,aq,B,z,h,u,b,v,rfl,_⟩:=h
  rfl
 ·obtain ⟨x,q,m,rows,aq,B,z,h,u,b,v,rfl,M,hB,hh,hq,hb,hv,k⟩:=h
  have hu:=cK hr
  obtain ⟨w0,ho,hw⟩:=M.obj
  have M1:=M.more (le_succ B) (by omega)
  refine ⟨_,az (iP (aJ cS (aB aV (bq (pv 0) rfl) (aB aI (pv 1) ao (fun _ _=>rfl)) (fun _ _=>rfl)) (aB aV (bq (pv 0) rfl) (aB aI (pv 1) ao (fun _ _=>rfl)) (fun _ _=>rfl))) (iO (bq (pv 0) rfl) (aB aI (pv 1) ao (fun _ _=>rfl)) set_list)),?_⟩
  refine ⟨_,rfl,x,C,m.dx,_,_,rfl,ho,T.cl,T.nB,dR,_,rfl,q,_,_,.int b,rfl,rfl,bp.of hq,at1 _ _ _,m.p2,_,_,_,rfl,rfl,aZ.of M.box,M.at hb,_,rfl,x,C,m.dx,_,_,rfl,ho,T.cl,T.nB,dR,_,rfl,q,_,_,.int v,rfl,rfl,bp.of hq,at2 _ _ _ _,m.p2,_,_,_,rfl,rfl,aZ.of M.box,M.at hv,_,_,rfl,rfl,_,rfl,x,C,m.dx,_,_,rfl,ho,T.cl,T.nB,dR,_,rfl,q,_,_,.int b,rfl,rfl,bp.of hq,at1 _ _ _,m.p2,_,_,_,rfl,rfl,M.box,M.ix hb,?_⟩
  rw [← map_set]
  exact k _ (Fr.upd (.inr (.inl rfl))) (M1.o9 (by rw [length_set]; exact M.b8))
theorem Gh:aG ["machine", "row"] ["machine", "row"] (aj sO):=⟨rfl,rfl,rfl,by decide +kernel,rfl,by decide +kernel,by decide +kernel⟩
theorem Gi {f C:Addr} {fd:FuncData} (F:d6 K "do_less" "do_less" sO f fd) (T:j3 K mg C):aM P w K mg base bw 1 f fd ["machine", "row"] (De C):=by
 refine F.ok Gh (fun vs H Q E h=>?_) (fun cdv A outer s H vs Q E hr h=>?_)
 ·obtain ⟨x,q,m,rows,aq,B,z,h,u,b,v,rfl,_⟩:=h
  rfl
 ·obtain ⟨x,q,m,rows,aq,B,z,h,u,b,v,rfl,M,hB,hh,hq,hb,hv,k⟩:=h
  have hu:=cK hr
  obtain ⟨w0,ho,hw⟩:=M.obj
  have M1:=M.more (le_succ B) (by omega)
  refine ⟨_,az (iP (aJ jT (aB aV (bq (pv 0) rfl) (aB aI (pv 1) ao (fun _ _=>rfl)) (fun _ _=>rfl)) (aB aV (bq (pv 0) rfl) (aB aI (pv 1) ao (fun _ _=>rfl)) (fun _ _=>rfl))) (iO (bq (pv 0) rfl) (aB aI (pv 1) ao (fun _ _=>rfl)) set_list)),?_⟩
  refine ⟨_,rfl,x,C,m.dx,_,_,rfl,ho,T.cl,T.nB,dR,_,rfl,q,_,_,.int b,rfl,rfl,bp.of hq,at1 _ _ _,m.p2,_,_,_,rfl,rfl,aZ.of M.box,M.at hb,_,rfl,x,C,m.dx,_,_,rfl,ho,T.cl,T.nB,dR,_,rfl,q,_,_,.int v,rfl,rfl,bp.of hq,at2 _ _ _ _,m.p2,_,_,_,rfl,rfl,aZ.of M.box,M.at hv,_,_,rfl,rfl,_,rfl,x,C,m.dx,_,_,rfl,ho,T.cl,T.nB,dR,_,rfl,q,_,_,.int b,rfl,rfl,bp.of hq,at1 _ _ _,m.p2,_,_,_,rfl,rfl,M.box,M.ix hb,?_⟩
  rw [← map_set]
  exact k _ (Fr.upd (.inr (.inl rfl))) (M1.o9 (by rw [length_set]; exact M.b8))
theorem Gj:aG ["machine", "row"] ["machine", "row"] (aj sP):=⟨rfl,rfl,rfl,by decide +kernel,rfl,by decide +kernel,by decide +kernel⟩
theorem Gk {f C:Addr} {fd:FuncData} (F:d6 K "do_load" "do_load" sP f fd) (T:j3 K mg C):aM P w K mg base bw 1 f fd ["machine", "row"] (Df C):=by
 refine F.ok Gj (fun vs H Q E h=>?_) (fun cdv A outer s H vs Q E hr h=>?_)
 ·obtain ⟨x,q,m,rows,aq,B,z,h,u,b,v,rfl,_⟩:=h
  rfl
 ·obtain ⟨x,q,m,rows,aq,B,z,h,u,b,v,rfl,M,hB,hh,hq,hb,hv,k⟩:=h
  have hu:=cK hr
  obtain ⟨w0,ho,hw⟩:=M.obj
  have M1:=M.more (le_succ B) (by omega)
  refine ⟨_,az (iP (oF hu (bq (pv 0) rfl) (aB aV (bq (pv 0) rfl) (aB aI (pv 1) ao (fun _ _=>rfl)) (fun _ _=>rfl)) ao ⟨rfl,rfl,rfl,rfl⟩) (iO (bq (pv 0) rfl) (aB aI (pv 1) ao (fun _ _=>rfl)) set_list)),?_⟩
  obtain ⟨d,c1,c2,c3⟩:=M.cell
  refine ⟨_,rfl,x,C,m.dx,_,_,rfl,ho,T.cl,T.nC,C9,m.p3,rfl,.inl ⟨_,.of c1⟩,_,rfl,x,C,m.dx,_,_,rfl,ho,T.cl,T.nB,dR,_,rfl,q,_,_,.int v,rfl,rfl,bp.of hq,at2 _ _ _ _,m.p2,_,_,_,rfl,rfl,aZ.of M.box,M.at hv,_,iR.k (k:=Sum.inl (z.bx v)) c1,?_⟩
  rw [c2.val]
  refine ⟨_,rfl,x,C,m.dx,_,_,rfl,ho,T.cl,T.nB,dR,_,rfl,q,_,_,.int b,rfl,rfl,bp.of hq,at1 _ _ _,m.p2,_,_,_,rfl,rfl,M.box,M.ix hb,?_⟩
  rw [← map_set]
  exact k _ (Fr.upd (.inr (.inl rfl))) (M1.o9 (by rw [length_set]; exact M.b8))
theorem Gm:aG ["machine", "row"] ["machine", "row"] (aj sS):=⟨rfl,rfl,rfl,by decide +kernel,rfl,by decide +kernel,by decide +kernel⟩
theorem Gn {f C:Addr} {fd:FuncData} (F:d6 K "do_take" "do_take" sS f fd) (T:j3 K mg C):aM P w K mg base bw 1 f fd ["machine", "row"] (Dg C):=by
 refine F.ok Gm (fun vs H Q E h=>?_) (fun cdv A outer s H vs Q E hr h=>?_)
 ·obtain ⟨x,q,m,rows,aq,B,z,h,u,b,v,rfl,_⟩:=h
  rfl
 ·obtain ⟨x,q,m,rows,aq,B,z,h,u,b,v,rfl,M,hB,hh,hq,hb,k⟩:=h
  have hu:=cK hr
  obtain ⟨w0,ho,hw⟩:=M.obj
  have M1:=M.more (le_succ B) (by omega)
  refine ⟨_,az (iP (oF hu (bq (pv 0) rfl) (aB aI (pv 1) ao (fun _ _=>rfl)) ao ⟨rfl,rfl,rfl,rfl⟩) (iO (bq (pv 0) rfl) (aB aI (pv 1) ao (fun _ _=>rfl)) set_list)),?_⟩
  obtain ⟨d,c1,c2,c3⟩:=M.yR
  refine ⟨_,rfl,x,C,m.dx,_,_,rfl,ho,T.cl,T.nA,IH,m.p4,rfl,.inl ⟨_,.of c1⟩,_,rfl,q,_,_,.int v,rfl,rfl,bp.of hq,at2 _ _ _ _,_,iR.k (k:=Sum.inl (v)) c1,?_⟩
  rw [c2.val]
  refine ⟨_,rfl,x,C,m.dx,_,_,rfl,ho,T.cl,T.nB,dR,_,rfl,q,_,_,.int b,rfl,rfl,bp.of hq,at1 _ _ _,m.p2,_,_,_,rfl,rfl,M.box,M.ix hb,?_⟩
  rw [← map_set]
  exact k _ (Fr.upd (.inr (.inl rfl))) (M1.o9 (by rw [length_set]; exact M.b8))
theorem Gp:aG ["machine", "row"] ["machine", "row"] (aj sQ):=⟨rfl,rfl,rfl,by decide +kernel,rfl,by decide +kernel,by decide +kernel⟩
theorem Gq {f C:Addr} {fd:FuncData} (F:d6 K "do_keep" "do_keep" sQ f fd) (T:j3 K mg C):aM P w K mg base bw 1 f fd ["machine", "row"] (Dh C):=by
 refine F.ok Gp (fun vs H Q E h=>?_) (fun cdv A outer s H vs Q E hr h=>?_)
 ·obtain ⟨x,q,m,rows,aq,B,z,h,u,b,v,rfl,_⟩:=h
  rfl
 ·obtain ⟨x,q,m,rows,aq,B,z,h,u,b,v,rfl,M,hB,hh,hq,hb,hv,k⟩:=h
  have hu:=cK hr
  obtain ⟨w0,ho,hw⟩:=M.obj
  have M1:=M.more (le_succ B) (by omega)
  refine ⟨_,az (iC hu (bq (pv 0) rfl) (aB aV (bq (pv 0) rfl) (aB aI (pv 1) ao (fun _ _=>rfl)) (fun _ _=>rfl)) (aB aV (bq (pv 0) rfl) (aB aI (pv 1) ao (fun _ _=>rfl)) (fun _ _=>rfl)) rfl),?_⟩
  obtain ⟨d,c1,c2,c3⟩:=M.cell
  have hb9:=M.big
  refine ⟨_,rfl,x,C,m.dx,_,_,rfl,ho,T.cl,T.nB,dR,_,rfl,q,_,_,.int v,rfl,rfl,bp.of hq,at2 _ _ _ _,m.p2,_,_,_,rfl,rfl,aZ.of M.box,M.at hv,_,rfl,x,C,m.dx,_,_,rfl,ho,T.cl,T.nC,C9,_,rfl,x,C,m.dx,_,_,rfl,ho,T.cl,T.nB,dR,_,rfl,q,_,_,.int b,rfl,rfl,bp.of hq,at1 _ _ _,m.p2,_,_,_,rfl,rfl,aZ.of M.box,M.at hb,m.p3,_,rfl,oA.k (k:=Sum.inl (z.bx b)) c1 (dW (by omega)),?_⟩
  exact k _ (Fr.upd (.inr (.inr (.inl rfl)))) (M1.cells (c2.put _ _) (le_trans (eE d _ _) (by omega)))
theorem KH:aG ["machine", "row"] ["machine", "row"] (aj yW):=⟨rfl,rfl,rfl,by decide +kernel,rfl,by decide +kernel,by decide +kernel⟩
theorem KJ {f C:Addr} {fd:FuncData} (F:d6 K "do_put" "do_put" yW f fd) (T:j3 K mg C):aM P w K mg base bw 1 f fd ["machine", "row"] (IL C):=by
 refine F.ok KH (fun vs H Q E h=>?_) (fun cdv A outer s H vs Q E hr h=>?_)
 ·obtain ⟨x,q,m,rows,aq,B,z,h,u,b,v,rfl,_⟩:=h
  rfl
 ·obtain ⟨x,q,m,rows,aq,B,z,h,u,b,v,rfl,M,hB,hh,hq,hb,k⟩:=h
  have hu:=cK hr
  obtain ⟨w0,ho,hw⟩:=M.obj
  have M1:=M.more (le_succ B) (by omega)
  refine ⟨_,az (iC hu (bq (pv 0) rfl) (aB aI (pv 1) ao (fun _ _=>rfl)) (aB aV (bq (pv 0) rfl) (aB aI (pv 1) ao (fun _ _=>rfl)) (fun _ _=>rfl)) rfl),?_⟩
  obtain ⟨d,c1,c2,c3⟩:=M.yR
  have hb9:=M.big
  refine ⟨_,rfl,x,C,m.dx,_,_,rfl,ho,T.cl,T.nB,dR,_,rfl,q,_,_,.int b,rfl,rfl,bp.of hq,at1 _ _ _,m.p2,_,_,_,rfl,rfl,aZ.of M.box,M.at hb,_,rfl,x,C,m.dx,_,_,rfl,ho,T.cl,T.nA,IH,_,rfl,q,_,_,.int v,rfl,rfl,bp.of hq,at2 _ _ _ _,m.p4,_,rfl,oA.k (k:=Sum.inl v) c1 (dW (by omega)),?_⟩
  exact k _ (Fr.upd (.inr (.inr (.inr (.inl rfl))))) (M1.Nr (c2.put _ _) (le_trans (eE d _ _) (by omega)))
theorem Gr:aG ["machine", "row"] ["machine", "row"] (aj sR):=⟨rfl,rfl,rfl,by decide +kernel,rfl,by decide +kernel,by decide +kernel⟩
theorem Gu {f C:Addr} {fd:FuncData} (F:d6 K "do_tell" "do_tell" sR f fd) (T:j3 K mg C):aM P w K mg base bw 1 f fd ["machine", "row"] (Di C):=by
 refine F.ok Gr (fun vs H Q E h=>?_) (fun cdv A outer s H vs Q E hr h=>?_)
 ·obtain ⟨x,q,m,rows,aq,B,z,h,u,b,rfl,_⟩:=h
  rfl
 ·obtain ⟨x,q,m,rows,aq,B,z,h,u,b,rfl,M,hB,hh,hq,hb,k⟩:=h
  have hu:=cK hr
  obtain ⟨w0,ho,hw⟩:=M.obj
  have M1:=M.more (le_succ B) (by omega)
  refine ⟨_,az (bZ (hV PySem.F.plainAttrs_list PySem.F.slot_list_append PySem.F.type_list_append cJ (bq (pv 0) rfl) (ae (aB aV (bq (pv 0) rfl) (aB aI (pv 1) ao (fun _ _=>rfl)) (fun _ _=>rfl)) ak))),?_⟩
  have hb9:=M.big
  have hl:=M.lens
  refine ⟨_,rfl,x,C,m.dx,_,_,rfl,ho,T.cl,T.nT,Kv,.inl ⟨rfl,_,aZ.of M.told⟩,_,rfl,x,C,m.dx,_,_,rfl,ho,T.cl,T.nB,dR,_,rfl,q,_,_,.int b,rfl,rfl,bp.of hq,at1 _ _ _,m.p2,_,_,_,rfl,rfl,aZ.of M.box,M.at hb,m.p6,_,_,rfl,rfl,M.told,(by rw [length_map]; exact dW (by omega)),?_⟩
  rw [show z.told.map V.int ++ [V.int (z.bx b)]=(z.told ++ [z.bx b]).map V.int by simp]
  exact k _ (Fr.upd (.inr (.inr (.inr (.inr (.inr (.inl rfl))))))) (M1.Nq (by rw [length_append]; show z.told.length + 1 ≤ B + 1; omega))
theorem KL:aG ["machine", "row"] ["machine", "row"] (aj yV):=⟨rfl,rfl,rfl,by decide +kernel,rfl,by decide +kernel,by decide +kernel⟩
theorem KN {f C:Addr} {fd:FuncData} (F:d6 K "do_see" "do_see" yV f fd) (T:j3 K mg C):aM P w K mg base bw 1 f fd ["machine", "row"] (IQ C):=by
 refine F.ok KL (fun vs H Q E h=>?_) (fun cdv A outer s H vs Q E hr h=>?_)
 ·obtain ⟨x,q,m,rows,aq,B,z,h,u,b,v,rfl,_⟩:=h
  rfl
 ·obtain ⟨x,q,m,rows,aq,B,z,h,u,b,v,rfl,M,hB,hh,hq,hb,k⟩:=h
  have hu:=cK hr
  obtain ⟨w0,ho,hw⟩:=M.obj
  have M1:=M.more (le_succ B) (by omega)
  refine ⟨_,az (bZ (hV PySem.F.plainAttrs_list PySem.F.slot_list_append PySem.F.type_list_append cJ (bq (pv 0) rfl) (ae (bf (ae (aB aI (pv 1) ao (fun _ _=>rfl)) (ae (aB aV (bq (pv 0) rfl) (aB aI (pv 1) ao (fun _ _=>rfl)) (fun _ _=>rfl)) ak))) ak))),?_⟩
  have hb9:=M.big
  have hl:=M.lens
  obtain ⟨ps,s1,s2⟩:=M.seen
  have hpl:=s2.1
  refine ⟨_,rfl,x,C,m.dx,_,_,rfl,ho,T.cl,T.nS,Kw,.inl ⟨rfl,_,aZ.of s1⟩,_,rfl,q,_,_,.int v,rfl,rfl,bp.of hq,at2 _ _ _ _,_,rfl,x,C,m.dx,_,_,rfl,ho,T.cl,T.nB,dR,_,rfl,q,_,_,.int b,rfl,rfl,bp.of hq,at1 _ _ _,m.p2,_,_,_,rfl,rfl,aZ.of M.box,M.at hb,dG,fun t nt=>?_⟩
  have e1:=ai (o:=.tup [.int v,.int (z.bx b)]) nt
  refine ⟨m.p7,_,_,rfl,rfl,e1 _ _ s1,(by rw [length_map]; exact dW (by omega)),?_⟩
  rw [show ps.map V.ref ++ [V.ref t]=(ps ++ [t]).map V.ref by simp]
  refine k _ ((Fr.same e1).trans (Fr.upd (.inr (.inr (.inr (.inr (.inr (.inr (.inl rfl))))))))) ((M1.same e1).yS ⟨by rw [length_append,length_append,hpl]; rfl,fun i p c hp hc=>?_⟩ (by rw [length_append]; show z.seen.length + 1 ≤ B + 1; omega))
  rcases lt_or_ge i ps.length with hi | hi
  ·rw [List.getElem?_append_left hi] at hp
   rw [List.getElem?_append_left (by omega)] at hc
   exact e1 _ _ (s2.2 i p c hp hc)
  ·rw [List.getElem?_append_right hi] at hp
   rw [List.getElem?_append_right (by omega)] at hc
   have h0:i - ps.length=0:=by
    have:=(List.getElem?_eq_some_iff.mp hp).1
    simp at this
    omega
   have h1:i - z.seen.length=0:=by omega
   rw [h0] at hp
   rw [h1] at hc
   have hp:=Option.some.inj hp
   have hc:=Option.some.inj hc
   subst hp hc
   exact ah
theorem Gv:aG ["machine", "row"] ["machine", "row"] (aj sU):=⟨rfl,rfl,rfl,by decide +kernel,rfl,by decide +kernel,by decide +kernel⟩
theorem Gw {f C:Addr} {fd:FuncData} (F:d6 K "do_jump" "do_jump" sU f fd) (T:j3 K mg C):aM P w K mg base bw 1 f fd ["machine", "row"] (Dj C):=by
 refine F.ok Gv (fun vs H Q E h=>?_) (fun cdv A outer s H vs Q E hr h=>?_)
 ·obtain ⟨x,q,m,rows,aq,B,z,h,u,t,f,rfl,_⟩:=h
  rfl
 ·obtain ⟨x,q,m,rows,aq,B,z,h,u,t,f,rfl,M,hB,hh,hq,k⟩:=h
  have hu:=cK hr
  obtain ⟨w0,ho,hw⟩:=M.obj
  have M1:=M.more (le_succ B) (by omega)
  refine ⟨_,az (dc (pv 0) (aB aI (pv 1) ao (fun _ _=>rfl)) rfl),?_⟩
  refine ⟨_,rfl,q,_,_,.int t,rfl,rfl,bp.of hq,at1 _ _ _,_,rfl,x,C,m.dx,_,rfl,ho,T.cl,T.nH,jL,?_⟩
  rw [i3]
  exact k _ (Fr.upd (.inl rfl)) (M1.put (k':=z.k) (gP:=.int t) hw)
theorem Gx:aG ["machine", "row"] ["machine", "row"] (aj sV):=⟨rfl,rfl,rfl,by decide +kernel,rfl,by decide +kernel,by decide +kernel⟩
theorem Gy {f C:Addr} {fd:FuncData} (F:d6 K "do_zero" "do_zero" sV f fd) (T:j3 K mg C):aM P w K mg base bw 1 f fd ["machine", "row"] (Dk C):=by
 refine F.ok Gx (fun vs H Q E h=>?_) (fun cdv A outer s H vs Q E hr h=>?_)
 ·obtain ⟨x,q,m,rows,aq,B,z,h,u,b,t,f,rfl,_⟩:=h
  rfl
 ·obtain ⟨x,q,m,rows,aq,B,z,h,u,b,t,f,rfl,M,hB,hh,hq,hb,k⟩:=h
  have hu:=cK hr
  obtain ⟨w0,ho,hw⟩:=M.obj
  have M1:=M.more (le_succ B) (by omega)
  refine ⟨_,az (dv (aP eM (aB aV (bq (pv 0) rfl) (aB aI (pv 1) ao (fun _ _=>rfl)) (fun _ _=>rfl)) ao (aY _)) (az (dc (pv 0) (aB aI (pv 1) ao (fun _ _=>rfl)) rfl)) aU),?_⟩
  refine ⟨_,rfl,x,C,m.dx,_,_,rfl,ho,T.cl,T.nB,dR,_,rfl,q,_,_,.int b,rfl,rfl,bp.of hq,at1 _ _ _,m.p2,_,_,_,rfl,rfl,aZ.of M.box,M.at hb,rfl,_,rfl,?_⟩
  refine d7 (fun e=>?_) (fun e=>?_)
  ·have e:=V.int.inj (of_decide_eq_true e)
   refine ⟨_,rfl,q,_,_,.int t,rfl,rfl,bp.of hq,at2 _ _ _ _,_,rfl,x,C,m.dx,_,rfl,ho,T.cl,T.nH,jL,?_⟩
   rw [i3]
   rw [if_pos e] at k
   exact k _ (Fr.upd (.inl rfl)) (M1.put (k':=z.k) (gP:=.int t) hw)
  ·rw [if_neg (fun c=>e (decide_eq_true (congrArg V.int c))),← hh] at k
   exact k _ Fr.refl M1
theorem Dq:aG ["machine", "row"] ["machine", "row"] (aj nQ):=⟨rfl,rfl,rfl,by decide +kernel,rfl,by decide +kernel,by decide +kernel⟩
theorem Dr {f C:Addr} {fd:FuncData} (F:d6 K "do_below" "do_below" nQ f fd) (T:j3 K mg C):aM P w K mg base bw 1 f fd ["machine", "row"] (yX C):=by
 refine F.ok Dq (fun vs H Q E h=>?_) (fun cdv A outer s H vs Q E hr h=>?_)
 ·obtain ⟨x,q,m,rows,aq,B,z,h,u,b,t,f,rfl,_⟩:=h
  rfl
 ·obtain ⟨x,q,m,rows,aq,B,z,h,u,b,t,f,rfl,M,hB,hh,hq,hb,k⟩:=h
  have hu:=cK hr
  obtain ⟨w0,ho,hw⟩:=M.obj
  have M1:=M.more (le_succ B) (by omega)
  refine ⟨_,az (dv (aP iQ (aB aV (bq (pv 0) rfl) (aB aI (pv 1) ao (fun _ _=>rfl)) (fun _ _=>rfl)) ao (aY _)) (az (dc (pv 0) (aB aI (pv 1) ao (fun _ _=>rfl)) rfl)) aU),?_⟩
  refine ⟨_,rfl,x,C,m.dx,_,_,rfl,ho,T.cl,T.nB,dR,_,rfl,q,_,_,.int b,rfl,rfl,bp.of hq,at1 _ _ _,m.p2,_,_,_,rfl,rfl,aZ.of M.box,M.at hb,_,_,rfl,rfl,_,rfl,?_⟩
  refine d7 (fun e=>?_) (fun e=>?_)
  ·have e:=of_decide_eq_true e
   refine ⟨_,rfl,q,_,_,.int t,rfl,rfl,bp.of hq,at2 _ _ _ _,_,rfl,x,C,m.dx,_,rfl,ho,T.cl,T.nH,jL,?_⟩
   rw [i3]
   rw [if_pos e] at k
   exact k _ (Fr.upd (.inl rfl)) (M1.put (k':=z.k) (gP:=.int t) hw)
  ·rw [if_neg (fun c=>e (decide_eq_true c)),← hh] at k
   exact k _ Fr.refl M1
theorem GF:aG ["machine", "row"] ["machine", "row"] (aj sH):=⟨rfl,rfl,rfl,by decide +kernel,rfl,by decide +kernel,by decide +kernel⟩
theorem GJ {f C:Addr} {fd:FuncData} (F:d6 K "do_stop" "do_stop" sH f fd) (T:j3 K mg C)
  {fE:Addr} {IU:FuncData} (GE:aM P w K mg base bw 1 fE IU ["machine", "how"] (y0 C)) (kE:KI K fE) (bE:Binds K IU ["machine", "how"] []) (mE:mg "end" = some (.ref fE)):aM P w K mg base bw 2 f fd ["machine", "row"] (Dl C):=by
 refine F.ok GF (fun vs H Q E h=>?_) (fun cdv A outer s H vs Q E hr h=>?_)
 ·obtain ⟨x,q,m,rows,aq,B,z,h,u,items,rfl,_⟩:=h
  rfl
 ·obtain ⟨x,q,m,rows,aq,B,z,h,u,items,rfl,M,hB,hh,hq,k⟩:=h
  have hu:=cK hr
  obtain ⟨w0,ho,hw⟩:=M.obj
  have M1:=M.more (le_succ B) (by omega)
  refine ⟨_,az (bZ (aN GE hr rfl mE kE bE .nil aW (ae (pv 0) (ae (bf (ae ay ak)) ak)))),?_⟩
  refine ⟨_,rfl,qw,fun t nt=>?_⟩
  have s1:=ai (o:=.tup [.str "stop"]) nt
  exact ⟨x,t,_,m,rows,aq,B + 1,z,rfl,ah,M1.same s1,fun H' e=>k H' ((Fr.same s1).trans e)⟩
theorem GQ:aG ["machine", "row"] ["machine", "row"] (aj sI):=⟨rfl,rfl,rfl,by decide +kernel,rfl,by decide +kernel,by decide +kernel⟩
theorem GU {f C:Addr} {fd:FuncData} (F:d6 K "do_halt" "do_halt" sI f fd) (T:j3 K mg C)
  {fE:Addr} {IU:FuncData} (GE:aM P w K mg base bw 1 fE IU ["machine", "how"] (y0 C)) (kE:KI K fE) (bE:Binds K IU ["machine", "how"] []) (mE:mg "end" = some (.ref fE)):aM P w K mg base bw 2 f fd ["machine", "row"] (Dm C):=by
 refine F.ok GQ (fun vs H Q E h=>?_) (fun cdv A outer s H vs Q E hr h=>?_)
 ·obtain ⟨x,q,m,rows,aq,B,z,h,u,v,rfl,_⟩:=h
  rfl
 ·obtain ⟨x,q,m,rows,aq,B,z,h,u,v,rfl,M,hB,hh,hq,k⟩:=h
  have hu:=cK hr
  obtain ⟨w0,ho,hw⟩:=M.obj
  have M1:=M.more (le_succ B) (by omega)
  refine ⟨_,az (bZ (aN GE hr rfl mE kE bE .nil aW (ae (pv 0) (ae (bf (ae ay (ae (aB aI (pv 1) ao (fun _ _=>rfl)) ak))) ak)))),?_⟩
  refine ⟨_,rfl,_,rfl,q,_,_,.int v,rfl,rfl,bp.of hq,at1 _ _ _,dG,fun t nt=>?_⟩
  have s1:=ai (o:=.tup [.str "halt",.int v]) nt
  exact ⟨x,t,_,m,rows,aq,B + 1,z,rfl,ah,M1.same s1,fun H' e=>k H' ((Fr.same s1).trans e)⟩
theorem GV:aG ["machine", "row"] ["machine", "row"] (aj sJ):=⟨rfl,rfl,rfl,by decide +kernel,rfl,by decide +kernel,by decide +kernel⟩
theorem GX {f C:Addr} {fd:FuncData} (F:d6 K "do_back" "do_back" sJ f fd) (T:j3 K mg C)
  {fE:Addr} {IU:FuncData} (GE:aM P w K mg base bw 1 fE IU ["machine", "how"] (y0 C)) (kE:KI K fE) (bE:Binds K IU ["machine", "how"] []) (mE:mg "end" = some (.ref fE)) (ln:mg "len" = none):aM P w K mg base bw 2 f fd ["machine", "row"] (Dp C):=by
 refine F.ok GV (fun vs H Q E h=>?_) (fun cdv A outer s H vs Q E hr h=>?_)
 ·obtain ⟨x,q,m,rows,aq,B,z,h,u,items,rfl,_⟩:=h
  rfl
 ·obtain ⟨x,q,m,rows,aq,B,z,h,u,items,rfl,M,hB,hh,hq,k⟩:=h
  have hu:=cK hr
  obtain ⟨w0,ho,hw⟩:=M.obj
  have M1:=M.more (le_succ B) (by omega)
  refine ⟨_,az (dv (aP eM (aQ aL (by rfl) ln cn (ae (bq (pv 0) rfl) ak)) ao (aY _)) (az (bZ (aN GE hr (by rfl) mE kE bE .nil aW (ae (pv 0) (ae (bf (ae ay ak)) ak))))) (az (dc (pv 0) (JR PySem.F.plainAttrs_list PySem.F.slot_list_pop PySem.F.type_list_pop JU (bq (pv 0) rfl)) rfl))),?_⟩
  refine ⟨_,rfl,x,C,m.dx,_,_,rfl,ho,T.cl,T.nL,wN,m.p8,_,rfl,.inl (aZ.of M.nK),rfl,_,rfl,?_⟩
  refine d7 (fun e=>?_) (fun e=>?_)
  ·have e:=V.int.inj (of_decide_eq_true e)
   rw [length_map] at e
   have e2:z.pile=[]:=List.eq_nil_of_length_eq_zero (by omega)
   refine ⟨_,rfl,qw,fun t nt=>?_⟩
   have s1:=ai (o:=.tup [.str "home"]) nt
   exact ⟨x,t,_,m,rows,aq,B + 1,z,rfl,ah,M1.same s1,fun H' e=>k.1 e2 H' ((Fr.same s1).trans e)⟩
  ·have e2:z.pile ≠ []:=fun c=>e (by rw [c]; exact decide_eq_true rfl)
   obtain ⟨r,p,e3⟩:∃ r p,z.pile=r ++ [p]:=⟨z.pile.dropLast,z.pile.getLast e2,(List.dropLast_concat_getLast e2).symm⟩
   have hl:(z.pile.map V.int)[(z.pile.map V.int).length - 1]? = some (V.int p):=by
    rw [e3]
    simp
   have hd:(z.pile.map V.int).dropLast=r.map V.int:=by
    rw [e3]
    simp
   refine ⟨_,rfl,x,C,m.dx,_,_,rfl,ho,T.cl,T.nL,wN,.inl ⟨rfl,_,aZ.of M.nK⟩,m.p8,_,V.int p,rfl,rfl,M.nK,hl,?_⟩
   rw [hd]
   have M2:=M1.II (p':=r) (by have:=M.lens.2.2; have:z.pile.length=r.length + 1:=(by rw [e3]; simp); omega)
   obtain ⟨w2,ho2,hw2⟩:=M2.obj
   refine ⟨_,rfl,x,C,m.dx,_,rfl,ho2,T.cl,T.nH,jL,?_⟩
   rw [i3]
   exact k.2 r p e3 _ ((Fr.upd (.inr (.inr (.inr (.inr (.inr (.inr (.inr rfl)))))))).trans (Fr.upd (.inl rfl))) (M2.put (k':=z.k) (gP:=.int p) hw2)
theorem GZ:aG ["machine", "row"] ["machine", "row"] (aj sW):=⟨rfl,rfl,rfl,by decide +kernel,rfl,by decide +kernel,by decide +kernel⟩
theorem y9 {f C:Addr} {fd:FuncData} (F:d6 K "do_call" "do_call" sW f fd) (T:j3 K mg C):aM P w K mg base bw 1 f fd ["machine", "row"] (wO C):=by
 refine F.ok GZ (fun vs H Q E h=>?_) (fun cdv A outer s H vs Q E hr h=>?_)
 ·obtain ⟨x,q,m,rows,aq,B,z,h,u,t,f,rfl,_⟩:=h
  rfl
 ·obtain ⟨x,q,m,rows,aq,B,z,h,u,t,f,rfl,M,hB,hh,hq,k⟩:=h
  have hu:=cK hr
  obtain ⟨w0,ho,hw⟩:=M.obj
  have M1:=M.more (le_succ B) (by omega)
  refine ⟨_,aH (bZ (hV PySem.F.plainAttrs_list PySem.F.slot_list_append PySem.F.type_list_append cJ (bq (pv 0) rfl) (ae (bq (pv 0) rfl) ak))) (az (dc (pv 0) (aB aI (pv 1) ao (fun _ _=>rfl)) rfl)),?_⟩
  have hb9:=M.big
  have hl:=M.lens
  have hf:(eK m z.k z.here w0).lookup ("here" : Str)=some (V.int h):=by rw [o8,hh]
  refine ⟨_,rfl,x,C,m.dx,_,_,rfl,ho,T.cl,T.nL,wN,.inl ⟨rfl,_,aZ.of M.nK⟩,_,rfl,x,C,m.dx,_,_,rfl,ho,T.cl,T.nH,hf,m.p8,_,_,rfl,rfl,M.nK,(by rw [length_map]; exact dW (by omega)),?_⟩
  rw [show z.pile.map V.int ++ [V.int h]=(z.pile ++ [h]).map V.int by simp]
  have M2:=M1.II (p':=z.pile ++ [h]) (by rw [length_append]; show z.pile.length + 1 ≤ B + 1; omega)
  obtain ⟨w2,ho2,hw2⟩:=M2.obj
  have hq2:upd H m.p8 (.lst ((z.pile ++ [h]).map V.int)) q=some (.tup [.str u,.int t,.int f]):=by
   rw [aK (cm hq M.nK (by intro z; cases z))]
   exact hq
  refine ⟨_,rfl,q,_,_,.int t,rfl,rfl,bp.of hq2,at1 _ _ _,_,rfl,x,C,m.dx,_,rfl,ho2,T.cl,T.nH,jL,?_⟩
  rw [i3]
  exact k _ ((Fr.upd (.inr (.inr (.inr (.inr (.inr (.inr (.inr rfl)))))))).trans (Fr.upd (.inl rfl))) (M2.put (k':=z.k) (gP:=.int t) hw2)
theorem za:aG ["machine", "row", "number"] ["machine", "row"] (aj sY):=⟨rfl,rfl,rfl,by decide +kernel,rfl,by decide +kernel,by decide +kernel⟩
theorem Ha {f C:Addr} {fd:FuncData} (F:d6 K "do_mark" "do_mark" sY f fd) (T:j3 K mg C)
  {fC:Addr} {Nu:FuncData} (GC:aM P w K mg base bw 1 fC Nu ["machine", "row"] (wO C)) (kC:KI K fC) (bC:Binds K Nu ["machine", "row"] []) (mC:mg "do_call" = some (.ref fC)):aM P w K mg base bw 2 f fd ["machine", "row"] (Dn C):=by
 refine F.ok za (fun vs H Q E h=>?_) (fun cdv A outer s H vs Q E hr h=>?_)
 ·obtain ⟨x,q,m,rows,aq,B,z,h,u,t,f,o,rfl,_⟩:=h
  rfl
 ·obtain ⟨x,q,m,rows,aq,B,z,h,u,t,f,o,rfl,M,hB,hh,hq,hv,k⟩:=h
  have hu:=cK hr
  obtain ⟨w0,ho,hw⟩:=M.obj
  have M1:=M.more (le_succ B) (by omega)
  refine ⟨_,aH (aT (i:=2) za.nd rfl (Or.inl rfl) (bq (pv 0) rfl)) (aH (dc (pv 0) (aJ cS (pv 2) ao) rfl) (az (dv (BU (JX hu (pv 2) (bq (pv 0) rfl))) (az (bZ (aN GC hr (by rfl) mC kC bC .nil aW (ae (pv 0) (ae (pv 1) ak))))) aU))),?_⟩
  refine ⟨_,rfl,x,C,m.dx,_,_,rfl,ho,T.cl,T.nM,FX,?_⟩
  refine ⟨_,rfl,_,_,rfl,rfl,_,rfl,x,C,m.dx,_,rfl,ho,T.cl,T.nM,jL,?_⟩
  rw [FY]
  have M2:=M.put (k':=z.k + 1) (gP:=z.here) hw
  refine ⟨_,rfl,_,rfl,x,C,m.dx,_,_,rfl,ah,T.cl,T.nR,Ku,m.p5,_,rfl,iR.k (k:=Sum.inl z.k) M2.rg,_,rfl,?_⟩
  rw [hv]
  refine d7 (fun e=>?_) (fun e=>?_)
  ·have hq2:upd H x (.ins C m.dx (eK m (z.k + 1) z.here w0)) q=some (.tup [.str u,.int t,.int f]):=by
    rw [aK (cm hq ho (by intro z; cases z))]
    exact hq
   exact ⟨_,rfl,_,rfl,x,q,m,rows,aq,B,_,h,u,t,f,rfl,M2,hB,hh,hq2,fun H' e1 e2=>k.1 e H' ((Fr.upd (.inl rfl)).trans e1) e2⟩
  ·exact k.2 (by simpa using e) _ (Fr.upd (.inl rfl)) (M2.more (le_succ B) (by omega))
theorem vj:aG ["machine", "row", "k"] ["machine", "row"] (aj nU):=⟨rfl,rfl,rfl,by decide +kernel,rfl,by decide +kernel,by decide +kernel⟩
theorem Ds {f C:Addr} {fd:FuncData} (F:d6 K "do_table" "do_table" nU f fd) (T:j3 K mg C) (ln:mg "len" = none):aM P w K mg base bw 1 f fd ["machine", "row"] (yZ C):=by
 refine F.ok vj (fun vs H Q E h=>?_) (fun cdv A outer s H vs Q E hr h=>?_)
 ·obtain ⟨x,q,m,rows,aq,B,z,h,u,b,p,ts,rfl,_⟩:=h
  rfl
 ·obtain ⟨x,q,m,rows,aq,B,z,h,u,b,p,ts,rfl,M,hB,hh,hq,hb,hp,k⟩:=h
  have hu:=cK hr
  obtain ⟨w0,ho,hw⟩:=M.obj
  have M1:=M.more (le_succ B) (by omega)
  refine ⟨_,aH (aT (i:=2) vj.nd rfl (Or.inl rfl) (aB aV (bq (pv 0) rfl) (aB aI (pv 1) ao (fun _ _=>rfl)) (fun _ _=>rfl))) (az (dv (om qL iQ ao (pv 2) (aQ aL (by rfl) ln cn (ae (aB aI (pv 1) ao (fun _ _=>rfl)) ak))) (az (dc (pv 0) (aB aI (aB aI (pv 1) ao (fun _ _=>rfl)) (pv 2) (fun _ _=>rfl)) rfl)) aU)),?_⟩
  refine ⟨_,rfl,x,C,m.dx,_,_,rfl,ho,T.cl,T.nB,dR,_,rfl,q,_,_,.int b,rfl,rfl,bp.of hq,at1 _ _ _,m.p2,_,_,_,rfl,rfl,aZ.of M.box,M.at hb,?_⟩
  unfold Zt.bx at k
  generalize z.bs.getD b.toNat 0=c at k
  refine ⟨_,rfl,_,_,rfl,rfl,_,rfl,?_⟩
  refine d7 (fun e1=>?_) (fun e1=>?_)
  ·have e1:=of_decide_eq_true e1
   refine ⟨_,rfl,q,_,_,.ref p,rfl,rfl,bp.of hq,at2 _ _ _ _,p,_,rfl,.inr (bp.of hp),_,_,rfl,rfl,_,rfl,?_⟩
   refine d7 (fun e2=>?_) (fun e2=>?_)
   ·have e2:=of_decide_eq_true e2
    rw [length_map] at e2
    obtain ⟨j,rfl⟩:=Int.eq_ofNat_of_zero_le e1
    have hj:j < ts.length:=by omega
    have hat:oq (ts.map V.int) (j:Int)=some (.int (ts.getD j 0)):=by
     refine cw (j:=j) ?_
     rw [List.getElem?_map,List.getElem?_eq_getElem hj,List.getD_eq_getElem?_getD,List.getElem?_eq_getElem hj]
     rfl
    refine ⟨_,rfl,q,_,_,.ref p,rfl,rfl,bp.of hq,at2 _ _ _ _,_,rfl,p,_,_,_,rfl,rfl,bp.of hp,hat,_,rfl,x,C,m.dx,_,rfl,ho,T.cl,T.nH,jL,?_⟩
    rw [i3]
    rw [if_pos ⟨e1,e2⟩,Int.toNat_natCast] at k
    exact k _ (Fr.upd (.inl rfl)) (M1.put (k':=z.k) (gP:=.int (ts.getD j 0)) hw)
   ·rw [if_neg (fun c=>e2 (decide_eq_true (by rw [length_map]; exact c.2))),← hh] at k
    exact k _ Fr.refl M1
  ·rw [if_neg (fun c=>e1 (decide_eq_true c.1)),← hh] at k
   exact ⟨_,rfl,Fn (k _ Fr.refl M1)⟩
end
abbrev rA:Stmt:=inClass (top 30) 0
abbrev rB:Stmt:=inClass (top 30) 1
abbrev rC:Stmt:=inClass (top 30) 10
theorem zc:bootBuiltins "dict" = some (.type "dict"):=by decide +kernel
def bj (a:Addr) (H H':Hp):Prop:=∀ c o,c ≠ a→H c=some o→H' c=some o
theorem bj.refl {a:Addr} {H:Hp}:bj a H H:=fun _ _ _ e=>e
theorem bj.trans {a:Addr} {H H' H'':Hp} (e:bj a H H') (e':bj a H' H''):bj a H H'':=fun c o n h=>e' c o n (e c o n h)
theorem bj.put {a:Addr} {H:Hp} {o:HO}:bj a H (upd H a o):=fun c u n h=>by rw [aK n]; exact h
theorem bj.same {a:Addr} {H H':Hp} (e:Same H H'):bj a H H':=fun c o _ h=>e c o h
theorem bj.free {l:Addr} {H H1:Hp} {q:Addr} (x:bj l H H1) (h:q ≠ l) (n:H1 q=none):H q=none:=by
 cases e:H q with
 | none=>rfl
 | some o=>rw [x q o h e] at n; exact absurd n (by simp)
section
variable {P:Program} {w:World} {K:Frag} {mg:Str→Option Value} {base:Heap}
def z0 (bs:List Int) (cf:Int→Int):Zt:=⟨.int 0,none,bs,cf,fun _=>0,[],[],[],0⟩
def wQ (C:Addr):Sp:=fun vs H Q _=>∃ (x dx a1 a2 a3 a4:Addr) (rows:List V) (bs bells:List Int) (d0:List (Key × V)) (cf:Int→Int),vs=[.ref x,.ref a1,.ref a2,.ref a3,.ref a4]∧H x=some (.ins C dx [])∧H a1=some (.lst rows)∧H a2=some (.lst (bs.map V.int))∧bs.length=8 ∧
 H a3=some (.dK d0)∧Rep d0 cf∧d0.length ≤ 50∧H a4=some (.lst (bells.map V.int))∧bells.length ≤ 100∧∀ (m:MA) (aq:List (Key × V)) (H':Hp),(∀ j:Int,(cH aq (Sum.inl j)).isSome=decide (j ∈ bells))→MG C H' x m rows aq 50 (z0 bs cf)→bj x H H'→(∀ c,Own m x c∨c=m.p1→c ≠ x→H c=none)→Q .non H'
theorem Dt:aG ["self", "rows", "boxes", "cells", "bells", "bell"] ["self", "rows", "boxes", "cells", "bells"] (aj rA):=⟨rfl,rfl,rfl,by decide +kernel,rfl,by decide +kernel,by decide +kernel⟩
theorem zf {f C:Addr} {fd:FuncData} (F:d6 K "__init__" "Machine.__init__" rA f fd) (TT:Txt K w.params mg) (T:j3 K mg C):aM P w K mg base bw 1 f fd ["self", "rows", "boxes", "cells", "bells"] (wQ C):=by
 refine F.ok Dt (fun vs H Q E h=>?_) (fun cdv A outer s H vs Q E hr h=>?_)
 ·obtain ⟨x,dx,a1,a2,a3,a4,rows,bs,bells,d0,cf,rfl,_⟩:=h
  rfl
 ·obtain ⟨x,dx,a1,a2,a3,a4,rows,bs,bells,d0,cf,rfl,hx,h1,h2,b8,h3,hrep,hdl,h4,bl,z⟩:=h
  have hu:=cK hr
  refine ⟨_,aH (dc (pv 0) (cU gi (by rfl) TT.list jt (ae (pv 1) ak)) rfl)
   (aH (dc (pv 0) (cU gi (by rfl) TT.list jt (ae (pv 2) ak)) rfl)
   (aH (dc (pv 0) (cU su (by rfl) TT.dict zc (ae (pv 3) ak)) rfl)
   (aH (dc (pv 0) j9 rfl) (aH (dc (pv 0) j9 rfl)
   (aH (gU PassesOwn.never rfl (dS (pv 4)) (cG (i:=5) Dt.nd rfl (Or.inl rfl)) (az (iC hu (bq (pv 0) rfl) (pv 5) jG rfl)))
   (aH (dc (pv 0) (cr ak) rfl) (aH (dc (pv 0) (cr ak) rfl) (aH (dc (pv 0) (cr ak) rfl)
   (aH (dc (pv 0) ao rfl) (aH (dc (pv 0) ao rfl) (az (dc (pv 0) gS rfl)))))))))))),?_⟩
  have xa:∀ {a o},H a=some o→(∀ fs,o ≠ .ins C dx fs)→a ≠ x:=fun {a o} e n=>cm e hx (n _)
  have x1:=xa h1 (by intro _ z; cases z)
  have x2:=xa h2 (by intro _ z; cases z)
  have x3:=xa h3 (by intro _ z; cases z)
  have x4:=xa h4 (by intro _ z; cases z)
  have S0:bj x H H:=bj.refl
  have O0:=hx
  refine ⟨_,rfl,a1,_,rfl,.inl (aZ.of h1),fun p1 n1=>?_⟩
  have y1:p1 ≠ x:=(aw O0 n1).symm
  have f1:H p1=none:=S0.free y1 n1
  refine ⟨_,rfl,x,C,dx,([]:List (Str × V)),rfl,ai n1 _ _ O0,T.cl,T.nP,(by show 0 < 1000; decide),?_⟩
  rw [show dU ("program" : Str) (V.ref p1) ([]:List (Str × V))=(List.zip ["program"] [V.ref p1]:List (Str × V)) from rfl]
  obtain ⟨G1,E1⟩:∃ G,G=upd (upd H p1 (.lst rows)) x (.ins C dx (List.zip ["program"] [V.ref p1]:List (Str × V))):=⟨_,rfl⟩
  have R1:bj x H G1:=by rw [E1]; exact (bj.same (ai n1)).trans bj.put
  have K1:G1 p1=some (.lst rows):=by rw [E1,aK y1]; exact ah
  have O1:G1 x=some (.ins C dx (List.zip ["program"] [V.ref p1]:List (Str × V))):=by rw [E1]; exact ah
  have S1:bj x H G1:=S0.trans R1
  rw [← E1]
  clear E1
  refine ⟨_,rfl,a2,_,rfl,.inl (aZ.of (S1 _ _ x2 h2)),fun p2 n2=>?_⟩
  have y2:p2 ≠ x:=(aw O1 n2).symm
  have f2:H p2=none:=S1.free y2 n2
  refine ⟨_,rfl,x,C,dx,(List.zip ["program"] [V.ref p1]:List (Str × V)),rfl,ai n2 _ _ O1,T.cl,T.nB,(by show 1 < 1000; decide),?_⟩
  rw [show dU ("in_boxes" : Str) (V.ref p2) (List.zip ["program"] [V.ref p1]:List (Str × V))=(List.zip ["program", "in_boxes"] [V.ref p1,V.ref p2]:List (Str × V)) from eV _ _ _ _ (by decide +kernel) rfl]
  obtain ⟨G2,E2⟩:∃ G,G=upd (upd G1 p2 (.lst (bs.map V.int))) x (.ins C dx (List.zip ["program", "in_boxes"] [V.ref p1,V.ref p2]:List (Str × V))):=⟨_,rfl⟩
  have R2:bj x G1 G2:=by rw [E2]; exact (bj.same (ai n2)).trans bj.put
  have K2:G2 p2=some (.lst (bs.map V.int)):=by rw [E2,aK y2]; exact ah
  have O2:G2 x=some (.ins C dx (List.zip ["program", "in_boxes"] [V.ref p1,V.ref p2]:List (Str × V))):=by rw [E2]; exact ah
  have S2:bj x H G2:=S1.trans R2
  rw [← E2]
  clear E2
  refine ⟨_,rfl,a3,_,rfl,S2 _ _ x3 h3,fun p3 n3=>?_⟩
  have y3:p3 ≠ x:=(aw O2 n3).symm
  have f3:H p3=none:=S2.free y3 n3
  refine ⟨_,rfl,x,C,dx,(List.zip ["program", "in_boxes"] [V.ref p1,V.ref p2]:List (Str × V)),rfl,ai n3 _ _ O2,T.cl,T.nC,(by show 2 < 1000; decide),?_⟩
  rw [show dU ("in_cells" : Str) (V.ref p3) (List.zip ["program", "in_boxes"] [V.ref p1,V.ref p2]:List (Str × V))=(List.zip ["program", "in_boxes", "in_cells"] [V.ref p1,V.ref p2,V.ref p3]:List (Str × V)) from eV _ _ _ _ (by decide +kernel) rfl]
  obtain ⟨G3,E3⟩:∃ G,G=upd (upd G2 p3 (.dK d0)) x (.ins C dx (List.zip ["program", "in_boxes", "in_cells"] [V.ref p1,V.ref p2,V.ref p3]:List (Str × V))):=⟨_,rfl⟩
  have R3:bj x G2 G3:=by rw [E3]; exact (bj.same (ai n3)).trans bj.put
  have K3:G3 p3=some (.dK d0):=by rw [E3,aK y3]; exact ah
  have O3:G3 x=some (.ins C dx (List.zip ["program", "in_boxes", "in_cells"] [V.ref p1,V.ref p2,V.ref p3]:List (Str × V))):=by rw [E3]; exact ah
  have S3:bj x H G3:=S2.trans R3
  rw [← E3]
  clear E3
  intro p4 n4
  have y4:p4 ≠ x:=(aw O3 n4).symm
  have f4:H p4=none:=S3.free y4 n4
  refine ⟨_,rfl,x,C,dx,(List.zip ["program", "in_boxes", "in_cells"] [V.ref p1,V.ref p2,V.ref p3]:List (Str × V)),rfl,ai n4 _ _ O3,T.cl,T.nA,(by show 3 < 1000; decide),?_⟩
  rw [show dU ("in_asides" : Str) (V.ref p4) (List.zip ["program", "in_boxes", "in_cells"] [V.ref p1,V.ref p2,V.ref p3]:List (Str × V))=(List.zip ["program", "in_boxes", "in_cells", "in_asides"] [V.ref p1,V.ref p2,V.ref p3,V.ref p4]:List (Str × V)) from eV _ _ _ _ (by decide +kernel) rfl]
  obtain ⟨G4,E4⟩:∃ G,G=upd (upd G3 p4 (.dK [])) x (.ins C dx (List.zip ["program", "in_boxes", "in_cells", "in_asides"] [V.ref p1,V.ref p2,V.ref p3,V.ref p4]:List (Str × V))):=⟨_,rfl⟩
  have R4:bj x G3 G4:=by rw [E4]; exact (bj.same (ai n4)).trans bj.put
  have K4:G4 p4=some (.dK []):=by rw [E4,aK y4]; exact ah
  have O4:G4 x=some (.ins C dx (List.zip ["program", "in_boxes", "in_cells", "in_asides"] [V.ref p1,V.ref p2,V.ref p3,V.ref p4]:List (Str × V))):=by rw [E4]; exact ah
  have S4:bj x H G4:=S3.trans R4
  rw [← E4]
  clear E4
  intro p5 n5
  have y5:p5 ≠ x:=(aw O4 n5).symm
  have f5:H p5=none:=S4.free y5 n5
  refine ⟨_,rfl,x,C,dx,(List.zip ["program", "in_boxes", "in_cells", "in_asides"] [V.ref p1,V.ref p2,V.ref p3,V.ref p4]:List (Str × V)),rfl,ai n5 _ _ O4,T.cl,T.nR,(by show 4 < 1000; decide),?_⟩
  rw [show dU ("rung" : Str) (V.ref p5) (List.zip ["program", "in_boxes", "in_cells", "in_asides"] [V.ref p1,V.ref p2,V.ref p3,V.ref p4]:List (Str × V))=(List.zip ["program", "in_boxes", "in_cells", "in_asides", "rung"] [V.ref p1,V.ref p2,V.ref p3,V.ref p4,V.ref p5]:List (Str × V)) from eV _ _ _ _ (by decide +kernel) rfl]
  obtain ⟨G5,E5⟩:∃ G,G=upd (upd G4 p5 (.dK [])) x (.ins C dx (List.zip ["program", "in_boxes", "in_cells", "in_asides", "rung"] [V.ref p1,V.ref p2,V.ref p3,V.ref p4,V.ref p5]:List (Str × V))):=⟨_,rfl⟩
  have R5:bj x G4 G5:=by rw [E5]; exact (bj.same (ai n5)).trans bj.put
  have K5:G5 p5=some (.dK []):=by rw [E5,aK y5]; exact ah
  have O5:G5 x=some (.ins C dx (List.zip ["program", "in_boxes", "in_cells", "in_asides", "rung"] [V.ref p1,V.ref p2,V.ref p3,V.ref p4,V.ref p5]:List (Str × V))):=by rw [E5]; exact ah
  have S5:bj x H G5:=S4.trans R5
  rw [← E5]
  clear E5
  refine ⟨_,rfl,a4,rfl,⟨_,aZ.of (S5 _ _ x4 h4)⟩,j6 (xs:=bells.map V.int) (fun i σ Hc=>∃ (v:Option V) (aq:List (Key × V)),σ=[some (.ref x),some (.ref a1),some (.ref a2),some (.ref a3),some (.ref a4),v]∧(∀ c o,c ≠ p5→G5 c=some o→Hc c=some o)∧Hc p5=some (.dK aq)∧aq.length ≤ i∧∀ j:Int,(cH aq (Sum.inl j)).isSome=decide (j ∈ bells.take i)) ?_ ?_ ?_ ?_⟩
  ·exact ⟨none,[],rfl,fun _ _ _ e=>e,K5,le_refl _,fun j=>by simp [cH]⟩
  ·rintro i σ Hc _ ⟨v,aq,rfl,e5,_⟩
   have q5:a4 ≠ p5:=aw h4 f5
   exact aZ.of (e5 _ _ q5 (S5 _ _ x4 h4))
  ·rintro i y σ Hc hy ⟨v,aq,rfl,e5,k5,rl,rv⟩
   rw [List.getElem?_map] at hy
   obtain ⟨b,hb,rfl⟩:=map_eq_some_iff.mp hy
   have hil:=(List.getElem?_eq_some_iff.mp hb).1
   refine ⟨_,rfl,x,C,dx,_,_,rfl,e5 _ _ y5.symm O5,T.cl,T.nR,(dr ["program", "in_boxes", "in_cells", "in_asides", "rung"] _ 4 _ (by decide +kernel) rfl),_,rfl,p5,_,rfl,oA.k (k:=Sum.inl b) k5 (dW (by omega)),?_⟩
   refine ⟨_,_,rfl,fun c o n e=>?_,ah,?_,fun j=>?_⟩
   ·rw [aK n]
    exact e5 c o n e
   ·have:=eE aq (Sum.inl b:Key) (V.bl true)
    omega
   ·rw [ou,List.take_succ,hb]
    by_cases hj:j=b
    ·subst hj
     rw [if_pos rfl]
     simp
    ·rw [if_neg (by intro e; exact hj (Sum.inl.inj e)),rv j]
     simp [hj]
  ·rintro σ Rb ⟨v,aq,rfl,e5,k5,rl,rv⟩
   rw [length_map,take_length] at rv
   have O5':=e5 _ _ y5.symm O5
   have S5':bj x H Rb:=fun c o n e=>by
    have hc:c ≠ p5:=aw e f5
    exact e5 c o hc (S5 c o n e)
   refine ⟨sv,fun p6 n6=>?_⟩
   have y6:p6 ≠ x:=(aw O5' n6).symm
   have f6:H p6=none:=S5'.free y6 n6
   refine ⟨_,rfl,x,C,dx,(List.zip ["program", "in_boxes", "in_cells", "in_asides", "rung"] [V.ref p1,V.ref p2,V.ref p3,V.ref p4,V.ref p5]:List (Str × V)),rfl,ai n6 _ _ O5',T.cl,T.nT,(by show 5 < 1000; decide),?_⟩
   rw [show dU ("told_numbers" : Str) (V.ref p6) (List.zip ["program", "in_boxes", "in_cells", "in_asides", "rung"] [V.ref p1,V.ref p2,V.ref p3,V.ref p4,V.ref p5]:List (Str × V))=(List.zip ["program", "in_boxes", "in_cells", "in_asides", "rung", "told_numbers"] [V.ref p1,V.ref p2,V.ref p3,V.ref p4,V.ref p5,V.ref p6]:List (Str × V)) from eV _ _ _ _ (by decide +kernel) rfl]
   obtain ⟨G6,E6⟩:∃ G,G=upd (upd Rb p6 (.lst [])) x (.ins C dx (List.zip ["program", "in_boxes", "in_cells", "in_asides", "rung", "told_numbers"] [V.ref p1,V.ref p2,V.ref p3,V.ref p4,V.ref p5,V.ref p6]:List (Str × V))):=⟨_,rfl⟩
   have R6:bj x Rb G6:=by rw [E6]; exact (bj.same (ai n6)).trans bj.put
   have K6:G6 p6=some (.lst []):=by rw [E6,aK y6]; exact ah
   have O6:G6 x=some (.ins C dx (List.zip ["program", "in_boxes", "in_cells", "in_asides", "rung", "told_numbers"] [V.ref p1,V.ref p2,V.ref p3,V.ref p4,V.ref p5,V.ref p6]:List (Str × V))):=by rw [E6]; exact ah
   have S6:bj x H G6:=S5'.trans R6
   rw [← E6]
   clear E6
   refine ⟨sv,fun p7 n7=>?_⟩
   have y7:p7 ≠ x:=(aw O6 n7).symm
   have f7:H p7=none:=S6.free y7 n7
   refine ⟨_,rfl,x,C,dx,(List.zip ["program", "in_boxes", "in_cells", "in_asides", "rung", "told_numbers"] [V.ref p1,V.ref p2,V.ref p3,V.ref p4,V.ref p5,V.ref p6]:List (Str × V)),rfl,ai n7 _ _ O6,T.cl,T.nS,(by show 6 < 1000; decide),?_⟩
   rw [show dU ("seen_numbers" : Str) (V.ref p7) (List.zip ["program", "in_boxes", "in_cells", "in_asides", "rung", "told_numbers"] [V.ref p1,V.ref p2,V.ref p3,V.ref p4,V.ref p5,V.ref p6]:List (Str × V))=(List.zip ["program", "in_boxes", "in_cells", "in_asides", "rung", "told_numbers", "seen_numbers"] [V.ref p1,V.ref p2,V.ref p3,V.ref p4,V.ref p5,V.ref p6,V.ref p7]:List (Str × V)) from eV _ _ _ _ (by decide +kernel) rfl]
   obtain ⟨G7,E7⟩:∃ G,G=upd (upd G6 p7 (.lst [])) x (.ins C dx (List.zip ["program", "in_boxes", "in_cells", "in_asides", "rung", "told_numbers", "seen_numbers"] [V.ref p1,V.ref p2,V.ref p3,V.ref p4,V.ref p5,V.ref p6,V.ref p7]:List (Str × V))):=⟨_,rfl⟩
   have R7:bj x G6 G7:=by rw [E7]; exact (bj.same (ai n7)).trans bj.put
   have K7:G7 p7=some (.lst []):=by rw [E7,aK y7]; exact ah
   have O7:G7 x=some (.ins C dx (List.zip ["program", "in_boxes", "in_cells", "in_asides", "rung", "told_numbers", "seen_numbers"] [V.ref p1,V.ref p2,V.ref p3,V.ref p4,V.ref p5,V.ref p6,V.ref p7]:List (Str × V))):=by rw [E7]; exact ah
   have S7:bj x H G7:=S6.trans R7
   rw [← E7]
   clear E7
   refine ⟨sv,fun p8 n8=>?_⟩
   have y8:p8 ≠ x:=(aw O7 n8).symm
   have f8:H p8=none:=S7.free y8 n8
   refine ⟨_,rfl,x,C,dx,(List.zip ["program", "in_boxes", "in_cells", "in_asides", "rung", "told_numbers", "seen_numbers"] [V.ref p1,V.ref p2,V.ref p3,V.ref p4,V.ref p5,V.ref p6,V.ref p7]:List (Str × V)),rfl,ai n8 _ _ O7,T.cl,T.nL,(by show 7 < 1000; decide),?_⟩
   rw [show dU ("pile" : Str) (V.ref p8) (List.zip ["program", "in_boxes", "in_cells", "in_asides", "rung", "told_numbers", "seen_numbers"] [V.ref p1,V.ref p2,V.ref p3,V.ref p4,V.ref p5,V.ref p6,V.ref p7]:List (Str × V))=(List.zip ["program", "in_boxes", "in_cells", "in_asides", "rung", "told_numbers", "seen_numbers", "pile"] [V.ref p1,V.ref p2,V.ref p3,V.ref p4,V.ref p5,V.ref p6,V.ref p7,V.ref p8]:List (Str × V)) from eV _ _ _ _ (by decide +kernel) rfl]
   obtain ⟨G8,E8⟩:∃ G,G=upd (upd G7 p8 (.lst [])) x (.ins C dx (List.zip ["program", "in_boxes", "in_cells", "in_asides", "rung", "told_numbers", "seen_numbers", "pile"] [V.ref p1,V.ref p2,V.ref p3,V.ref p4,V.ref p5,V.ref p6,V.ref p7,V.ref p8]:List (Str × V))):=⟨_,rfl⟩
   have R8:bj x G7 G8:=by rw [E8]; exact (bj.same (ai n8)).trans bj.put
   have K8:G8 p8=some (.lst []):=by rw [E8,aK y8]; exact ah
   have O8:G8 x=some (.ins C dx (List.zip ["program", "in_boxes", "in_cells", "in_asides", "rung", "told_numbers", "seen_numbers", "pile"] [V.ref p1,V.ref p2,V.ref p3,V.ref p4,V.ref p5,V.ref p6,V.ref p7,V.ref p8]:List (Str × V))):=by rw [E8]; exact ah
   have S8:bj x H G8:=S7.trans R8
   rw [← E8]
   clear E8
   refine ⟨_,rfl,x,C,dx,(List.zip ["program", "in_boxes", "in_cells", "in_asides", "rung", "told_numbers", "seen_numbers", "pile"] [V.ref p1,V.ref p2,V.ref p3,V.ref p4,V.ref p5,V.ref p6,V.ref p7,V.ref p8]:List (Str × V)),rfl,O8,T.cl,T.nM,(by show 8 < 1000; decide),?_⟩
   rw [show dU ("marks_done" : Str) (V.int 0) (List.zip ["program", "in_boxes", "in_cells", "in_asides", "rung", "told_numbers", "seen_numbers", "pile"] [V.ref p1,V.ref p2,V.ref p3,V.ref p4,V.ref p5,V.ref p6,V.ref p7,V.ref p8]:List (Str × V))=(List.zip ["program", "in_boxes", "in_cells", "in_asides", "rung", "told_numbers", "seen_numbers", "pile", "marks_done"] [V.ref p1,V.ref p2,V.ref p3,V.ref p4,V.ref p5,V.ref p6,V.ref p7,V.ref p8,V.int 0]:List (Str × V)) from eV _ _ _ _ (by decide +kernel) rfl]
   obtain ⟨G9,E9⟩:∃ G,G=upd G8 x (.ins C dx (List.zip ["program", "in_boxes", "in_cells", "in_asides", "rung", "told_numbers", "seen_numbers", "pile", "marks_done"] [V.ref p1,V.ref p2,V.ref p3,V.ref p4,V.ref p5,V.ref p6,V.ref p7,V.ref p8,V.int 0]:List (Str × V))):=⟨_,rfl⟩
   have R9:bj x G8 G9:=by rw [E9]; exact bj.put
   have O9:G9 x=some (.ins C dx (List.zip ["program", "in_boxes", "in_cells", "in_asides", "rung", "told_numbers", "seen_numbers", "pile", "marks_done"] [V.ref p1,V.ref p2,V.ref p3,V.ref p4,V.ref p5,V.ref p6,V.ref p7,V.ref p8,V.int 0]:List (Str × V))):=by rw [E9]; exact ah
   have S9:bj x H G9:=S8.trans R9
   rw [← E9]
   clear E9
   refine ⟨_,rfl,x,C,dx,(List.zip ["program", "in_boxes", "in_cells", "in_asides", "rung", "told_numbers", "seen_numbers", "pile", "marks_done"] [V.ref p1,V.ref p2,V.ref p3,V.ref p4,V.ref p5,V.ref p6,V.ref p7,V.ref p8,V.int 0]:List (Str × V)),rfl,O9,T.cl,T.nH,(by show 9 < 1000; decide),?_⟩
   rw [show dU ("here" : Str) (V.int 0) (List.zip ["program", "in_boxes", "in_cells", "in_asides", "rung", "told_numbers", "seen_numbers", "pile", "marks_done"] [V.ref p1,V.ref p2,V.ref p3,V.ref p4,V.ref p5,V.ref p6,V.ref p7,V.ref p8,V.int 0]:List (Str × V))=(List.zip ["program", "in_boxes", "in_cells", "in_asides", "rung", "told_numbers", "seen_numbers", "pile", "marks_done", "here"] [V.ref p1,V.ref p2,V.ref p3,V.ref p4,V.ref p5,V.ref p6,V.ref p7,V.ref p8,V.int 0,V.int 0]:List (Str × V)) from eV _ _ _ _ (by decide +kernel) rfl]
   obtain ⟨Nv,E10⟩:∃ G,G=upd G9 x (.ins C dx (List.zip ["program", "in_boxes", "in_cells", "in_asides", "rung", "told_numbers", "seen_numbers", "pile", "marks_done", "here"] [V.ref p1,V.ref p2,V.ref p3,V.ref p4,V.ref p5,V.ref p6,V.ref p7,V.ref p8,V.int 0,V.int 0]:List (Str × V))):=⟨_,rfl⟩
   have Nw:bj x G9 Nv:=by rw [E10]; exact bj.put
   have O10:Nv x=some (.ins C dx (List.zip ["program", "in_boxes", "in_cells", "in_asides", "rung", "told_numbers", "seen_numbers", "pile", "marks_done", "here"] [V.ref p1,V.ref p2,V.ref p3,V.ref p4,V.ref p5,V.ref p6,V.ref p7,V.ref p8,V.int 0,V.int 0]:List (Str × V))):=by rw [E10]; exact ah
   have S10:bj x H Nv:=S9.trans Nw
   rw [← E10]
   clear E10
   refine ⟨_,rfl,x,C,dx,(List.zip ["program", "in_boxes", "in_cells", "in_asides", "rung", "told_numbers", "seen_numbers", "pile", "marks_done", "here"] [V.ref p1,V.ref p2,V.ref p3,V.ref p4,V.ref p5,V.ref p6,V.ref p7,V.ref p8,V.int 0,V.int 0]:List (Str × V)),rfl,O10,T.cl,T.nE,(by show 10 < 1000; decide),?_⟩
   rw [show dU ("how_ended" : Str) (V.non) (List.zip ["program", "in_boxes", "in_cells", "in_asides", "rung", "told_numbers", "seen_numbers", "pile", "marks_done", "here"] [V.ref p1,V.ref p2,V.ref p3,V.ref p4,V.ref p5,V.ref p6,V.ref p7,V.ref p8,V.int 0,V.int 0]:List (Str × V))=(List.zip ["program", "in_boxes", "in_cells", "in_asides", "rung", "told_numbers", "seen_numbers", "pile", "marks_done", "here", "how_ended"] [V.ref p1,V.ref p2,V.ref p3,V.ref p4,V.ref p5,V.ref p6,V.ref p7,V.ref p8,V.int 0,V.int 0,V.non]:List (Str × V)) from eV _ _ _ _ (by decide +kernel) rfl]
   obtain ⟨Nx,E11⟩:∃ G,G=upd Nv x (.ins C dx (List.zip ["program", "in_boxes", "in_cells", "in_asides", "rung", "told_numbers", "seen_numbers", "pile", "marks_done", "here", "how_ended"] [V.ref p1,V.ref p2,V.ref p3,V.ref p4,V.ref p5,V.ref p6,V.ref p7,V.ref p8,V.int 0,V.int 0,V.non]:List (Str × V))):=⟨_,rfl⟩
   have Ny:bj x Nv Nx:=by rw [E11]; exact bj.put
   have O11:Nx x=some (.ins C dx (List.zip ["program", "in_boxes", "in_cells", "in_asides", "rung", "told_numbers", "seen_numbers", "pile", "marks_done", "here", "how_ended"] [V.ref p1,V.ref p2,V.ref p3,V.ref p4,V.ref p5,V.ref p6,V.ref p7,V.ref p8,V.int 0,V.int 0,V.non]:List (Str × V))):=by rw [E11]; exact ah
   have S11:bj x H Nx:=S10.trans Ny
   rw [← E11]
   clear E11
   have Nz:bj x Rb Nx:=R6.trans (R7.trans (R8.trans (R9.trans (Nw.trans Ny))))
   have n15:p1 ≠ p5:=aw (R4 _ _ y1 (R3 _ _ y1 (R2 _ _ y1 K1))) n5
   have n25:p2 ≠ p5:=aw (R4 _ _ y2 (R3 _ _ y2 K2)) n5
   have n35:p3 ≠ p5:=aw (R4 _ _ y3 K3) n5
   have n45:p4 ≠ p5:=aw K4 n5
   have g1:=e5 _ _ n15 (R5 _ _ y1 (R4 _ _ y1 (R3 _ _ y1 (R2 _ _ y1 K1))))
   have g2:=e5 _ _ n25 (R5 _ _ y2 (R4 _ _ y2 (R3 _ _ y2 K2)))
   have g3:=e5 _ _ n35 (R5 _ _ y3 (R4 _ _ y3 K3))
   have g4:=e5 _ _ n45 (R5 _ _ y4 K4)
   have R67:=R6.trans R7
   have n12:p1 ≠ p2:=aw K1 n2
   have n34:p3 ≠ p4:=aw K3 n4
   have n16:p1 ≠ p6:=aw g1 n6
   have n26:p2 ≠ p6:=aw g2 n6
   have n17:p1 ≠ p7:=aw (R6 _ _ y1 g1) n7
   have n27:p2 ≠ p7:=aw (R6 _ _ y2 g2) n7
   have Q8:p6 ≠ p7:=aw K6 n7
   have n18:p1 ≠ p8:=aw (R67 _ _ y1 g1) n8
   have n28:p2 ≠ p8:=aw (R67 _ _ y2 g2) n8
   have Q9:p6 ≠ p8:=aw (R7 _ _ y6 K6) n8
   have Ra:p7 ≠ p8:=aw K7 n8
   refine z ⟨dx,p1,p2,p3,p4,p5,p6,p7,p8⟩ aq Nx rv ⟨⟨_,O11,rfl⟩,Nz _ _ y1 g1,Nz _ _ y2 g2,b8,⟨d0,Nz _ _ y3 g3,hrep,hdl⟩,⟨[],Nz _ _ y4 g4,Rep.nil,by simp⟩,Nz _ _ y5 k5,(R7.trans (R8.trans (R9.trans (Nw.trans Ny)))) _ _ y6 K6,⟨[],(R8.trans (R9.trans (Nw.trans Ny))) _ _ y7 K7,rfl,fun i p c e=>by simp at e⟩,(R9.trans (Nw.trans Ny)) _ _ y8 K8,⟨n12,n16,n17,n18,n26,n27,n28,Q8,Q9,Ra,n34,n35,n45⟩,⟨by simp [z0],by simp [z0],by simp [z0]⟩,by omega⟩ S11 ?_
   rintro c ((rfl | rfl | rfl | rfl | rfl | rfl | rfl | rfl) | rfl) hc
   ·exact absurd rfl hc
   ·exact f2
   ·exact f3
   ·exact f4
   ·exact f5
   ·exact f6
   ·exact f7
   ·exact f8
   ·exact f1
end
inductive Rw where
 | stop | back | halt (v:Int) | two (u:Str) (b v:Int) | tell (b:Int) | fX (u:Str) (t f:Int) | zb (u:Str) (b t f:Int) | table (b:Int) (ts:List Int)
def ten:List Str:=["set", "more", "copy", "add", "less", "load", "keep", "see", "put", "take"]
def ie (H:Hp) (q:Addr) (n:Int):Rw→Prop
 | .stop=>H q=some (.tup [.str "stop"])
 | .back=>H q=some (.tup [.str "back"])
 | .halt v=>H q=some (.tup [.str "halt",.int v])
 | .two u b v=>H q=some (.tup [.str u,.int b,.int v])∧u ∈ ten∧Bx b∧(u ∈ w2→Bx v)
 | .tell b=>H q=some (.tup [.str "tell",.int b])∧Bx b
 | .fX u t f=>H q=some (.tup [.str u,.int t,.int f])∧u ∈ My.fX∧0 ≤ t∧t < n
 | .zb u b t f=>H q=some (.tup [.str u,.int b,.int t,.int f])∧u ∈ My.zb∧Bx b∧0 ≤ t∧t < n
 | .table b ts=>∃ p,H q=some (.tup [.str "table",.int b,.ref p])∧H p=some (.tup (ts.map V.int))∧Bx b∧∀ t ∈ ts,0 ≤ t∧t < n
theorem ie.tups {H H':Hp} {q:Addr} {n:Int} {r:Rw} (e:cF H H') (h:ie H q n r):ie H' q n r:=by
 cases r with
 | stop=>exact e _ _ h
 | back=>exact e _ _ h
 | halt v=>exact e _ _ h
 | two u b v=>exact ⟨e _ _ h.1,h.2⟩
 | tell b=>exact ⟨e _ _ h.1,h.2⟩
 | fX u t f=>exact ⟨e _ _ h.1,h.2⟩
 | zb u b t f=>exact ⟨e _ _ h.1,h.2⟩
 | table b ts =>
  obtain ⟨p,h1,h2,h3⟩:=h
  exact ⟨p,e _ _ h1,e _ _ h2,h3⟩
def Rw.word:Rw→Str
 | .stop => "stop" | .back => "back" | .halt _ => "halt" | .two u _ _=>u | .tell _ => "tell" | .fX u _ _=>u | .zb u _ _ _=>u | .table _ _ => "table"
def Rw.goes (r:Rw):Prop:=¬ r.word ∈ cy
def num (u:Str) (b v:Int) (z:Zt):Int :=
 if u = "set" then v else if u = "more" then z.bx b + v else if u = "copy" then z.bx v else if u = "add" then z.bx b + z.bx v else if u = "less" then z.bx b - z.bx v
 else if u = "load" then z.cf (z.bx v) else z.af v
def aX (ring:Int→Bool) (r:Rw) (h:Int) (z:Zt):Zt :=
 match r with
 | .stop=>{ z with here:=.non,how:=some [.str "stop"] }
 | .halt v=>{ z with here:=.non,how:=some [.str "halt",.int v] }
 | .back=>match z.pile.getLast? with
  | none=>{ z with here:=.non,how:=some [.str "home"] }
  | some p=>{ z with here:=.int p,pile:=z.pile.dropLast }
 | .two u b v =>
  if u = "keep" then { z with here:=.int (h + 1),cf:=iU z.cf (z.bx b) (z.bx v) }
  else if u = "put" then { z with here:=.int (h + 1),af:=iU z.af v (z.bx b) }
  else if u = "see" then { z with here:=.int (h + 1),seen:=z.seen ++ [(v,z.bx b)] }
  else { z with here:=.int (h + 1),bs:=z.bs.set b.toNat (num u b v z) }
 | .tell b=>{ z with here:=.int (h + 1),told:=z.told ++ [z.bx b] }
 | .fX u t _ =>
  if u = "jump" then { z with here:=.int t }
  else if u = "call" then { z with here:=.int t,pile:=z.pile ++ [h + 1] }
  else if ring z.k=true then { z with here:=.int t,pile:=z.pile ++ [h + 1],k:=z.k + 1 } else { z with here:=.int (h + 1),k:=z.k + 1 }
 | .zb u b t _=>{ z with here:=.int (if (u = "zero" ∧ z.bx b=0)∨(u = "below" ∧ z.bx b < 0) then t else h + 1) }
 | .table b ts=>{ z with here:=.int (if 0 ≤ z.bx b∧z.bx b < ts.length then ts.getD (z.bx b).toNat 0 else h + 1) }
theorem kF {z:Zt} {h:Int} {ring:Int→Bool} {r:List Int} {p:Int} (e:z.pile=r ++ [p]):aX ring .back h z={ z with here:=.int p,pile:=r }:=by
 unfold aX
 have e1:z.pile.getLast? = some p:=by rw [e]; simp
 have e2:z.pile.dropLast=r:=by rw [e]; simp
 simp only [e1,e2]
theorem ig {z:Zt} {h:Int} {ring:Int→Bool} (e:z.pile=[]):aX ring .back h z={ z with here:=.non,how:=some [.str "home"] }:=by
 unfold aX
 have e1:z.pile.getLast? = none:=by rw [e]; rfl
 simp only [e1]
def gX (n:Nat) (z:Zt):Prop:=(z.here=.non∨∃ r:Nat,z.here=.int r∧r < n)∧∀ p ∈ z.pile,0 ≤ p∧p < n
theorem gX.step {n:Nat} {z:Zt} {ring:Int→Bool} {r:Rw} {h:Nat} {H:Hp} {q:Addr} (S:gX n z) (hh:h < n) (hr:ie H q n r) (hg:h + 1=n→r.word ∈ cy):gX n (aX ring r h z):=by
 have next:r.goes→∃ r':Nat,((h:Int) + 1)=r'∧r' < n:=fun g=>⟨h + 1,by omega,by
  rcases lt_or_ge (h + 1) n with l | l
  ·exact l
  ·exact absurd (hg (by omega)) g⟩
 have tgt:∀ t:Int,0 ≤ t→t < n→∃ r':Nat,t=r'∧r' < n:=fun t a b=>⟨t.toNat,by omega,by omega⟩
 cases r with
 | stop=>exact ⟨.inl rfl,S.2⟩
 | halt v=>exact ⟨.inl rfl,S.2⟩
 | back =>
  rcases eq_nil_or_concat z.pile with e | ⟨r,p,e⟩
  ·rw [ig e]
   exact ⟨.inl rfl,S.2⟩
  ·have e:z.pile=r ++ [p]:=by simpa using e
   rw [kF e]
   have hp:=S.2 p (by rw [e]; simp)
   obtain ⟨r',e1,e2⟩:=tgt p hp.1 hp.2
   exact ⟨.inr ⟨r',by show V.int p=_; rw [e1],e2⟩,fun p' hp'=>S.2 p' (by rw [e]; exact List.mem_append_left _ hp')⟩
 | two u b v =>
  obtain ⟨r',e1,e2⟩:=next ((by decide +kernel:∀ u ∈ ten,¬ u ∈ cy) u hr.2.1)
  have e1:V.int ((h:Int) + 1)=.int r':=by rw [e1]
  simp only [aX]
  split
  ·exact ⟨.inr ⟨r',e1,e2⟩,S.2⟩
  split
  ·exact ⟨.inr ⟨r',e1,e2⟩,S.2⟩
  split
  ·exact ⟨.inr ⟨r',e1,e2⟩,S.2⟩
  ·exact ⟨.inr ⟨r',e1,e2⟩,S.2⟩
 | tell b =>
  obtain ⟨r',e1,e2⟩:=next (show ¬ ("tell" : Str) ∈ cy by decide +kernel)
  exact ⟨.inr ⟨r',by show V.int ((h:Int) + 1)=_; rw [e1],e2⟩,S.2⟩
 | fX u t f =>
  obtain ⟨t',e1,e2⟩:=tgt t hr.2.2.1 hr.2.2.2
  have e1:V.int t=.int t':=by rw [e1]
  simp only [aX]
  by_cases hj:u = "jump"
  ·simp only [if_pos hj]
   exact ⟨.inr ⟨t',e1,e2⟩,S.2⟩
  obtain ⟨r',e3,e4⟩:=next (by
   show ¬ u ∈ cy
   rcases (show u = "jump" ∨ u = "call" ∨ u = "mark" by simpa [My.fX] using hr.2.1) with rfl | rfl | rfl
   ·exact absurd rfl hj
   ·decide +kernel
   ·decide +kernel)
  have pl:∀ p ∈ z.pile ++ [(h:Int) + 1],0 ≤ p∧p < n:=fun p hp=>by
   rcases mem_append.mp hp with hp | hp
   ·exact S.2 p hp
   ·rw [mem_singleton.mp hp,e3]
    omega
  have e3:V.int ((h:Int) + 1)=.int r':=by rw [e3]
  simp only [if_neg hj]
  split
  ·exact ⟨.inr ⟨t',e1,e2⟩,pl⟩
  split
  ·exact ⟨.inr ⟨t',e1,e2⟩,pl⟩
  ·exact ⟨.inr ⟨r',e3,e4⟩,S.2⟩
 | zb u b t f =>
  obtain ⟨t',e1,e2⟩:=tgt t hr.2.2.2.1 hr.2.2.2.2
  obtain ⟨r',e3,e4⟩:=next ((by decide +kernel:∀ u ∈ My.zb,¬ u ∈ cy) u hr.2.1)
  refine ⟨.inr ?_,S.2⟩
  show ∃ r:Nat,V.int (if (u = "zero" ∧ z.bx b=0)∨(u = "below" ∧ z.bx b < 0) then t else (h:Int) + 1)=.int r∧r < n
  split
  ·exact ⟨t',by rw [e1],e2⟩
  ·exact ⟨r',by rw [e3],e4⟩
 | table b ts =>
  obtain ⟨r',e3,e4⟩:=next (show ¬ ("table" : Str) ∈ cy by decide +kernel)
  refine ⟨.inr ?_,S.2⟩
  show ∃ r:Nat,V.int (if 0 ≤ z.bx b∧z.bx b < ts.length then ts.getD (z.bx b).toNat 0 else (h:Int) + 1)=.int r∧r < n
  split
  ·rename_i c
   have hl:(z.bx b).toNat < ts.length:=by omega
   obtain ⟨p,_,_,_,ht⟩:=hr
   have hm:=ht (ts.getD (z.bx b).toNat 0) (by rw [List.getD_eq_getElem?_getD,List.getElem?_eq_getElem hl]; exact List.getElem_mem hl)
   obtain ⟨t',e1,e2⟩:=tgt _ hm.1 hm.2
   exact ⟨t',by rw [e1],e2⟩
  ·exact ⟨r',by rw [e3],e4⟩
theorem NA {m:MA} {k:Int} {h w:V}:(eK m k h w).lookup ("how_ended" : Str)=some w:=dr names _ 10 _ cZ rfl
abbrev jv:Stmt:=inClass (top 30) 2
abbrev lR:Stmt:=inClass (top 30) 3
section
variable {P:Program} {w:World} {K:Frag} {mg:Str→Option Value} {base:Heap}
abbrev SL (C:Addr) (H:Hp) (x:Addr) (z:Zt) (B:Nat):Prop:=∃ m rows aq,MG C H x m rows aq B z
def sZ (C:Addr):Sp:=fun vs H Q _=>∃ (x:Addr) (z:Zt) (B:Nat),vs=[.ref x]∧SL C H x z B∧Q z.here H
theorem KO:aG ["self"] ["self"] (aj rB):=⟨rfl,rfl,rfl,by decide +kernel,rfl,by decide +kernel,by decide +kernel⟩
theorem tf {f C:Addr} {fd:FuncData} (F:d6 K "row" "Machine.row" rB f fd) (TT:Txt K w.params mg) (T:j3 K mg C):aM P w K mg base bw 1 f fd ["self"] (sZ C):=by
 refine F.ok KO (fun vs H Q E h=>?_) (fun cdv A outer s H vs Q E hr h=>?_)
 ·obtain ⟨x,z,B,rfl,_⟩:=h
  rfl
 ·obtain ⟨x,z,B,rfl,⟨m,rows,aq,M⟩,q⟩:=h
  obtain ⟨w0,ho,hw⟩:=M.obj
  refine ⟨_,az (aS (bq (pv 0) rfl)),?_⟩
  exact ⟨_,rfl,x,C,m.dx,_,_,rfl,ho,T.cl,T.nH,o8,q⟩
def pd (C:Addr):Sp:=fun vs H Q _=>∃ (x:Addr) (z:Zt) (B:Nat),vs=[.ref x]∧SL C H x z B∧∀ v,iI H v z.how→Q v H
theorem Du:aG ["self"] ["self"] (aj jv):=⟨rfl,rfl,rfl,by decide +kernel,rfl,by decide +kernel,by decide +kernel⟩
theorem rD {f C:Addr} {fd:FuncData} (F:d6 K "ending" "Machine.ending" jv f fd) (TT:Txt K w.params mg) (T:j3 K mg C):aM P w K mg base bw 1 f fd ["self"] (pd C):=by
 refine F.ok Du (fun vs H Q E h=>?_) (fun cdv A outer s H vs Q E hr h=>?_)
 ·obtain ⟨x,z,B,rfl,_⟩:=h
  rfl
 ·obtain ⟨x,z,B,rfl,⟨m,rows,aq,M⟩,q⟩:=h
  obtain ⟨w0,ho,hw⟩:=M.obj
  refine ⟨_,az (aS (bq (pv 0) rfl)),?_⟩
  exact ⟨_,rfl,x,C,m.dx,_,_,rfl,ho,T.cl,T.nE,NA,q _ hw⟩
def tj (C:Addr):Sp:=fun vs H Q _=>∃ (x:Addr) (z:Zt) (B:Nat),vs=[.ref x]∧SL C H x z B∧∀ l,H l=none→Q (.ref l) (upd H l (.lst (z.bs.map V.int)))
theorem Hb:aG ["self"] ["self"] (aj lR):=⟨rfl,rfl,rfl,by decide +kernel,rfl,by decide +kernel,by decide +kernel⟩
theorem vk {f C:Addr} {fd:FuncData} (F:d6 K "boxes" "Machine.boxes" lR f fd) (TT:Txt K w.params mg) (T:j3 K mg C):aM P w K mg base bw 1 f fd ["self"] (tj C):=by
 refine F.ok Hb (fun vs H Q E h=>?_) (fun cdv A outer s H vs Q E hr h=>?_)
 ·obtain ⟨x,z,B,rfl,_⟩:=h
  rfl
 ·obtain ⟨x,z,B,rfl,⟨m,rows,aq,M⟩,q⟩:=h
  obtain ⟨w0,ho,hw⟩:=M.obj
  refine ⟨_,az (aS (cU gi (by rfl) TT.list jt (ae (bq (pv 0) rfl) ak))),?_⟩
  exact ⟨_,rfl,x,C,m.dx,_,_,rfl,ho,T.cl,T.nB,dR,m.p2,_,rfl,.inl (aZ.of M.box),q⟩
end
section
variable {P:Program} {w:World} {K:Frag} {mg:Str→Option Value} {base:Heap}
theorem KP {ring:Int→Bool} {b v h:Int} {z:Zt}:aX ring (.two "set" b v) h z={ z with here:=.int (h + 1),bs:=z.bs.set b.toNat (v) }:=by
 simp only [aX,num,if_neg (show ¬ ("set" : Str) = "keep" by decide +kernel),if_neg (show ¬ ("set" : Str) = "put" by decide +kernel),if_neg (show ¬ ("set" : Str) = "see" by decide +kernel),if_pos rfl,if_true]
theorem Hd {ring:Int→Bool} {b v h:Int} {z:Zt}:aX ring (.two "more" b v) h z={ z with here:=.int (h + 1),bs:=z.bs.set b.toNat (z.bx b + v) }:=by
 simp only [aX,num,if_neg (show ¬ ("more" : Str) = "keep" by decide +kernel),if_neg (show ¬ ("more" : Str) = "put" by decide +kernel),if_neg (show ¬ ("more" : Str) = "see" by decide +kernel),if_neg (show ¬ ("more" : Str) = "set" by decide +kernel),if_pos rfl,if_true]
theorem He {ring:Int→Bool} {b v h:Int} {z:Zt}:aX ring (.two "copy" b v) h z={ z with here:=.int (h + 1),bs:=z.bs.set b.toNat (z.bx v) }:=by
 simp only [aX,num,if_neg (show ¬ ("copy" : Str) = "keep" by decide +kernel),if_neg (show ¬ ("copy" : Str) = "put" by decide +kernel),if_neg (show ¬ ("copy" : Str) = "see" by decide +kernel),if_neg (show ¬ ("copy" : Str) = "set" by decide +kernel),if_neg (show ¬ ("copy" : Str) = "more" by decide +kernel),if_pos rfl,if_true]
theorem KQ {ring:Int→Bool} {b v h:Int} {z:Zt}:aX ring (.two "add" b v) h z={ z with here:=.int (h + 1),bs:=z.bs.set b.toNat (z.bx b + z.bx v) }:=by
 simp only [aX,num,if_neg (show ¬ ("add" : Str) = "keep" by decide +kernel),if_neg (show ¬ ("add" : Str) = "put" by decide +kernel),if_neg (show ¬ ("add" : Str) = "see" by decide +kernel),if_neg (show ¬ ("add" : Str) = "set" by decide +kernel),if_neg (show ¬ ("add" : Str) = "more" by decide +kernel),if_neg (show ¬ ("add" : Str) = "copy" by decide +kernel),if_pos rfl,if_true]
theorem Hf {ring:Int→Bool} {b v h:Int} {z:Zt}:aX ring (.two "less" b v) h z={ z with here:=.int (h + 1),bs:=z.bs.set b.toNat (z.bx b - z.bx v) }:=by
 simp only [aX,num,if_neg (show ¬ ("less" : Str) = "keep" by decide +kernel),if_neg (show ¬ ("less" : Str) = "put" by decide +kernel),if_neg (show ¬ ("less" : Str) = "see" by decide +kernel),if_neg (show ¬ ("less" : Str) = "set" by decide +kernel),if_neg (show ¬ ("less" : Str) = "more" by decide +kernel),if_neg (show ¬ ("less" : Str) = "copy" by decide +kernel),if_neg (show ¬ ("less" : Str) = "add" by decide +kernel),if_pos rfl,if_true]
theorem Hg {ring:Int→Bool} {b v h:Int} {z:Zt}:aX ring (.two "load" b v) h z={ z with here:=.int (h + 1),bs:=z.bs.set b.toNat (z.cf (z.bx v)) }:=by
 simp only [aX,num,if_neg (show ¬ ("load" : Str) = "keep" by decide +kernel),if_neg (show ¬ ("load" : Str) = "put" by decide +kernel),if_neg (show ¬ ("load" : Str) = "see" by decide +kernel),if_neg (show ¬ ("load" : Str) = "set" by decide +kernel),if_neg (show ¬ ("load" : Str) = "more" by decide +kernel),if_neg (show ¬ ("load" : Str) = "copy" by decide +kernel),if_neg (show ¬ ("load" : Str) = "add" by decide +kernel),if_neg (show ¬ ("load" : Str) = "less" by decide +kernel),if_pos rfl,if_true]
theorem Hh {ring:Int→Bool} {b v h:Int} {z:Zt}:aX ring (.two "keep" b v) h z={ z with here:=.int (h + 1),cf:=iU z.cf (z.bx b) (z.bx v) }:=by
 simp only [aX,num,if_pos rfl,if_true]
theorem KR {ring:Int→Bool} {b v h:Int} {z:Zt}:aX ring (.two "see" b v) h z={ z with here:=.int (h + 1),seen:=z.seen ++ [(v,z.bx b)] }:=by
 simp only [aX,num,if_neg (show ¬ ("see" : Str) = "keep" by decide +kernel),if_neg (show ¬ ("see" : Str) = "put" by decide +kernel),if_pos rfl,if_true]
theorem KS {ring:Int→Bool} {b v h:Int} {z:Zt}:aX ring (.two "put" b v) h z={ z with here:=.int (h + 1),af:=iU z.af v (z.bx b) }:=by
 simp only [aX,num,if_neg (show ¬ ("put" : Str) = "keep" by decide +kernel),if_pos rfl,if_true]
theorem Hi {ring:Int→Bool} {b v h:Int} {z:Zt}:aX ring (.two "take" b v) h z={ z with here:=.int (h + 1),bs:=z.bs.set b.toNat (z.af v) }:=by
 simp only [aX,num,if_neg (show ¬ ("take" : Str) = "keep" by decide +kernel),if_neg (show ¬ ("take" : Str) = "put" by decide +kernel),if_neg (show ¬ ("take" : Str) = "see" by decide +kernel),if_neg (show ¬ ("take" : Str) = "set" by decide +kernel),if_neg (show ¬ ("take" : Str) = "more" by decide +kernel),if_neg (show ¬ ("take" : Str) = "copy" by decide +kernel),if_neg (show ¬ ("take" : Str) = "add" by decide +kernel),if_neg (show ¬ ("take" : Str) = "less" by decide +kernel),if_neg (show ¬ ("take" : Str) = "load" by decide +kernel)]
theorem Hj {ring:Int→Bool} {t f h:Int} {z:Zt}:aX ring (.fX "jump" t f) h z={ z with here:=.int t }:=by
 simp only [aX,if_pos rfl,if_true]
theorem Hk {ring:Int→Bool} {t f h:Int} {z:Zt}:aX ring (.fX "call" t f) h z={ z with here:=.int t,pile:=z.pile ++ [h + 1] }:=by
 simp only [aX,if_neg (show ¬ ("call" : Str) = "jump" by decide +kernel),if_pos rfl,if_true]
theorem Dv {ring:Int→Bool} {t f h:Int} {z:Zt} (c:ring z.k=true):aX ring (.fX "mark" t f) h z={ z with here:=.int t,pile:=z.pile ++ [h + 1],k:=z.k + 1 }:=by
 simp only [aX,if_neg (show ¬ ("mark" : Str) = "jump" by decide +kernel),if_neg (show ¬ ("mark" : Str) = "call" by decide +kernel),if_pos c]
theorem Dw {ring:Int→Bool} {t f h:Int} {z:Zt} (c:ring z.k=false):aX ring (.fX "mark" t f) h z={ z with here:=.int (h + 1),k:=z.k + 1 }:=by
 simp only [aX,if_neg (show ¬ ("mark" : Str) = "jump" by decide +kernel),if_neg (show ¬ ("mark" : Str) = "call" by decide +kernel),if_neg (show ¬ ring z.k=true by rw [c]; decide)]
theorem Hl {ring:Int→Bool} {b t f h:Int} {z:Zt}:aX ring (.zb "zero" b t f) h z={ z with here:=.int (if z.bx b=0 then t else h + 1) }:=by
 show ({ z with here:=.int (if (("zero" : Str) = "zero" ∧ z.bx b=0)∨(("zero" : Str) = "below" ∧ z.bx b < 0) then t else h + 1) }:Zt)=_
 by_cases c:z.bx b=0
 ·rw [if_pos (.inl ⟨rfl,c⟩),if_pos c]
 ·rw [if_neg (fun y=>y.elim (fun y=>c y.2) (fun y=>absurd y.1 (by decide +kernel))),if_neg c]
theorem Dx {ring:Int→Bool} {b t f h:Int} {z:Zt}:aX ring (.zb "below" b t f) h z={ z with here:=.int (if z.bx b < 0 then t else h + 1) }:=by
 show ({ z with here:=.int (if (("below" : Str) = "zero" ∧ z.bx b=0)∨(("below" : Str) = "below" ∧ z.bx b < 0) then t else h + 1) }:Zt)=_
 by_cases c:z.bx b < 0
 ·rw [if_pos (.inr ⟨rfl,c⟩),if_pos c]
 ·rw [if_neg (fun y=>y.elim (fun y=>absurd y.1 (by decide +kernel)) (fun y=>c y.2)),if_neg c]
def qz (P:Program) (w:World) (K:Frag) (mg:Str→Option Value) (base:Heap) (pD:Addr) (u:Str) (sp:Sp):Prop:=∃ (f:Addr) (fd:FuncData),dE K w.params pD u (some (.ref f))∧aM P w K mg base bw 2 f fd ["machine", "row"] sp∧Binds K fd ["machine", "row"] []∧KI K f
structure IV (P:Program) (w:World) (K:Frag) (mg:Str→Option Value) (base:Heap) (C pD:Addr):Prop where
 sH:qz P w K mg base pD "stop" (Dl C)
 sI:qz P w K mg base pD "halt" (Dm C)
 sJ:qz P w K mg base pD "back" (Dp C)
 yT:qz P w K mg base pD "set" (IJ C)
 sL:qz P w K mg base pD "more" (Dc C)
 sM:qz P w K mg base pD "copy" (Dd C)
 yU:qz P w K mg base pD "add" (IK C)
 sO:qz P w K mg base pD "less" (De C)
 sP:qz P w K mg base pD "load" (Df C)
 sQ:qz P w K mg base pD "keep" (Dh C)
 sR:qz P w K mg base pD "tell" (Di C)
 yV:qz P w K mg base pD "see" (IQ C)
 yW:qz P w K mg base pD "put" (IL C)
 sS:qz P w K mg base pD "take" (Dg C)
 sU:qz P w K mg base pD "jump" (Dj C)
 sV:qz P w K mg base pD "zero" (Dk C)
 nQ:qz P w K mg base pD "below" (yX C)
 sW:qz P w K mg base pD "call" (wO C)
 sY:qz P w K mg base pD "mark" (Dn C)
 nU:qz P w K mg base pD "table" (yZ C)
abbrev cA (aq:List (Key × V)):Int→Bool:=fun j=>(cH aq (Sum.inl j)).isSome
def wR (C:Addr):Sp:=fun vs H Q _=>∃ (x q:Addr) (m:MA) (rows:List V) (aq:List (Key × V)) (B:Nat) (z:Zt) (r:Nat) (n:Int) (rw:Rw),vs=[.ref x]∧MG C H x m rows aq B z∧B < 900∧z.here=.int r∧rows[r]? = some (.ref q)∧ie H q n rw ∧
 ∀ H',Fr m x H H'→MG C H' x m rows aq (B + 1) (aX (cA aq) rw r z)→Q .non H'
theorem Dy:aG ["self", "row"] ["self"] (aj rC):=⟨rfl,rfl,rfl,by decide +kernel,rfl,by decide +kernel,by decide +kernel⟩
theorem ie.word {H:Hp} {q:Addr} {n:Int} {rw:Rw} (h:ie H q n rw):∃ items,H q=some (.tup (.str rw.word :: items)):=by
 cases rw with
 | stop=>exact ⟨_,h⟩
 | back=>exact ⟨_,h⟩
 | halt v=>exact ⟨_,h⟩
 | two u b v=>exact ⟨_,h.1⟩
 | tell b=>exact ⟨_,h.1⟩
 | fX u t f=>exact ⟨_,h.1⟩
 | zb u b t f=>exact ⟨_,h.1⟩
 | table b ts =>
  obtain ⟨p,h,_⟩:=h
  exact ⟨_,h⟩
theorem zg {f C pD:Addr} {fd:FuncData} (F:d6 K "step" "Machine.step" rC f fd) (T:j3 K mg C) (mD:mg "DEEDS" = some (.ref pD)) (D:IV P w K mg base C pD):aM P w K mg base bw 3 f fd ["self"] (wR C):=by
 refine F.ok Dy (fun vs H Q E h=>?_) (fun cdv A outer s H vs Q E hr h=>?_)
 ·obtain ⟨x,q,m,rows,aq,B,z,r,n,rw,rfl,_⟩:=h
  rfl
 ·obtain ⟨x,q,m,rows,aq,B,z,r,n,rw,rfl,M,hB,hh,hrow,hR,zz⟩:=h
  obtain ⟨w0,ho,hw⟩:=M.obj
  obtain ⟨items,hq⟩:=hR.word
  refine ⟨_,aH (dv (aP lz (bq (pv 0) rfl) gS (aY _)) lu aU)
   (aH (aT (i:=1) Dy.nd rfl (Or.inl rfl) (aB aV (bq (pv 0) rfl) (bq (pv 0) rfl) (fun _ _=>rfl)))
   (aH (dc (pv 0) (aJ cS (bq (pv 0) rfl) ao) rfl)
   (az (bZ (CJ (k:=2) (jc (dB (v:=.ref pD) (by rfl) mD rfl) (aB aI (pv 1) ao (fun _ _=>rfl)) (fun _ _=>rfl)) hr (ae (pv 0) (ae (pv 1) ak))))))),?_⟩
  rw [hh] at ho
  refine ⟨_,rfl,x,C,m.dx,_,_,rfl,ho,T.cl,T.nH,o8,rfl,_,rfl,?_⟩
  refine Fn ?_
  refine ⟨_,rfl,x,C,m.dx,_,_,rfl,ho,T.cl,T.nP,Kt,_,rfl,x,C,m.dx,_,_,rfl,ho,T.cl,T.nH,o8,m.p1,_,_,.ref q,rfl,rfl,aZ.of M.prog,cw (j:=r) hrow,?_⟩
  refine ⟨_,rfl,x,C,m.dx,_,_,rfl,ho,T.cl,T.nH,o8,_,_,rfl,rfl,_,rfl,x,C,m.dx,_,rfl,ho,T.cl,T.nH,jL,?_⟩
  rw [i3]
  have M2:=M.put (k':=z.k) (gP:=.int ((r:Int) + 1)) hw
  have fr:Fr m x H (upd H x (.ins C m.dx (eK m z.k (.int ((r:Int) + 1)) w0))):=Fr.upd (.inl rfl)
  have tt:cF H (upd H x (.ins C m.dx (eK m z.k (.int ((r:Int) + 1)) w0))):=.upd ho (by intro _ z; cases z)
  have Dz:=hR.tups tt
  have hq2:=tt _ _ hq
  refine ⟨_,rfl,q,_,0,.str rw.word,rfl,rfl,bp.of hq2,at0 _ _,pD,rw.word,?_⟩
  suffices hs:∃ sp:Sp,qz P w K mg base pD rw.word sp∧sp ([.ref x,.ref q] ++ []) (upd H x (.ins C m.dx (eK m z.k (.int ((r:Int) + 1)) w0))) (fun _ H1=>Q .non H1) E0 by
   obtain ⟨sp,⟨f,fd,a1,a2,a3,a4⟩,hs⟩:=hs
   exact ⟨.ref f,rfl,rfl,a1,f,fd,_,_,rfl,a2,a3,a4,_,rfl,_,rfl,hs⟩
  have fin:∀ z',z'=aX (cA aq) rw r z→∀ H',Fr m x (upd H x (.ins C m.dx (eK m z.k (.int ((r:Int) + 1)) w0))) H'→MG C H' x m rows aq (B + 1) z'→Q .non H':=fun z' e H' e1 e2=>zz H' (fr.trans e1) (e ▸ e2)
  cases rw with
  | stop=>exact ⟨_,D.sH,x,q,m,rows,aq,B,_,_,_,_,rfl,M2,hB,rfl,Dz,fin _ rfl⟩
  | halt v=>exact ⟨_,D.sI,x,q,m,rows,aq,B,_,_,_,v,rfl,M2,hB,rfl,Dz,fin _ rfl⟩
  | back=>exact ⟨_,D.sJ,x,q,m,rows,aq,B,_,_,_,_,rfl,M2,hB,rfl,Dz,fun ep=>fin _ (ig (z:=z) (h:=r) (ring:=cA aq) ep).symm,fun r' p ep=>fin _ (kF (z:=z) (h:=r) (ring:=cA aq) ep).symm⟩
  | tell b=>exact ⟨_,D.sR,x,q,m,rows,aq,B,_,_,_,b,rfl,M2,hB,rfl,Dz.1,Dz.2,fin _ rfl⟩
  | table b ts =>
   obtain ⟨p,h1,h2,h3,h4⟩:=Dz
   exact ⟨_,D.nU,x,q,m,rows,aq,B,_,_,_,b,p,ts,rfl,M2,hB,rfl,h1,h3,h2,fin _ rfl⟩
  | two u b v =>
   obtain ⟨h1,h2,h3,h4⟩:=Dz
   rcases (show u = "set" ∨ u = "more" ∨ u = "copy" ∨ u = "add" ∨ u = "less" ∨ u = "load" ∨ u = "keep" ∨ u = "see" ∨ u = "put" ∨ u = "take" by simpa [ten] using h2) with rfl | rfl | rfl | rfl | rfl | rfl | rfl | rfl | rfl | rfl
   ·exact ⟨_,D.yT,x,q,m,rows,aq,B,_,_,_,b,v,rfl,M2,hB,rfl,h1,h3,fin _ (KP (z:=z) (ring:=cA aq)).symm⟩
   ·exact ⟨_,D.sL,x,q,m,rows,aq,B,_,_,_,b,v,rfl,M2,hB,rfl,h1,h3,fin _ (Hd (z:=z) (ring:=cA aq)).symm⟩
   ·exact ⟨_,D.sM,x,q,m,rows,aq,B,_,_,_,b,v,rfl,M2,hB,rfl,h1,h3,h4 (by decide +kernel),fin _ (He (z:=z) (ring:=cA aq)).symm⟩
   ·exact ⟨_,D.yU,x,q,m,rows,aq,B,_,_,_,b,v,rfl,M2,hB,rfl,h1,h3,h4 (by decide +kernel),fin _ (KQ (z:=z) (ring:=cA aq)).symm⟩
   ·exact ⟨_,D.sO,x,q,m,rows,aq,B,_,_,_,b,v,rfl,M2,hB,rfl,h1,h3,h4 (by decide +kernel),fin _ (Hf (z:=z) (ring:=cA aq)).symm⟩
   ·exact ⟨_,D.sP,x,q,m,rows,aq,B,_,_,_,b,v,rfl,M2,hB,rfl,h1,h3,h4 (by decide +kernel),fin _ (Hg (z:=z) (ring:=cA aq)).symm⟩
   ·exact ⟨_,D.sQ,x,q,m,rows,aq,B,_,_,_,b,v,rfl,M2,hB,rfl,h1,h3,h4 (by decide +kernel),fin _ (Hh (z:=z) (ring:=cA aq)).symm⟩
   ·exact ⟨_,D.yV,x,q,m,rows,aq,B,_,_,_,b,v,rfl,M2,hB,rfl,h1,h3,fin _ (KR (z:=z) (ring:=cA aq)).symm⟩
   ·exact ⟨_,D.yW,x,q,m,rows,aq,B,_,_,_,b,v,rfl,M2,hB,rfl,h1,h3,fin _ (KS (z:=z) (ring:=cA aq)).symm⟩
   ·exact ⟨_,D.sS,x,q,m,rows,aq,B,_,_,_,b,v,rfl,M2,hB,rfl,h1,h3,fin _ (Hi (z:=z) (ring:=cA aq)).symm⟩
  | fX u t f' =>
   obtain ⟨h1,h2,h3,h4⟩:=Dz
   rcases (show u = "jump" ∨ u = "call" ∨ u = "mark" by simpa [My.fX] using h2) with rfl | rfl | rfl
   ·exact ⟨_,D.sU,x,q,m,rows,aq,B,_,_,_,t,f',rfl,M2,hB,rfl,h1,fin _ (Hj (z:=z) (ring:=cA aq)).symm⟩
   ·exact ⟨_,D.sW,x,q,m,rows,aq,B,_,_,_,t,f',rfl,M2,hB,rfl,h1,fin _ (Hk (z:=z) (ring:=cA aq)).symm⟩
   ·exact ⟨_,D.sY,x,q,m,rows,aq,B,_,_,_,t,f',_,rfl,M2,hB,rfl,h1,rfl,fun c=>fin _ (Dv (z:=z) (ring:=cA aq) c).symm,fun c=>fin _ (Dw (z:=z) (ring:=cA aq) c).symm⟩
  | zb u b t f' =>
   obtain ⟨h1,h2,h3,h4⟩:=Dz
   rcases (show u = "zero" ∨ u = "below" by simpa [My.zb] using h2) with rfl | rfl
   ·exact ⟨_,D.sV,x,q,m,rows,aq,B,_,_,_,b,t,f',rfl,M2,hB,rfl,h1,h3,fin _ (Hl (z:=z) (ring:=cA aq)).symm⟩
   ·exact ⟨_,D.nQ,x,q,m,rows,aq,B,_,_,_,b,t,f',rfl,M2,hB,rfl,h1,h3,fin _ (Dx (z:=z) (ring:=cA aq)).symm⟩
end
def Keeps (R:Addr→Prop) (H H':Hp):Prop:=∀ c o,H c=some o→(¬ R c∨∃ xs,o=.tup xs)→H' c=some o
theorem Keeps.refl {R:Addr→Prop} {H:Hp}:Keeps R H H:=fun _ _ e _=>e
theorem Keeps.trans {R:Addr→Prop} {H H1 H2:Hp} (a:Keeps R H H1) (b:Keeps R H1 H2):Keeps R H H2:=fun c o e n=>b c o (a c o e n) n
theorem Keeps.same {R:Addr→Prop} {H H':Hp} (s:Same H H'):Keeps R H H':=fun c o e _=>s c o e
theorem Keeps.more {R R':Addr→Prop} {H H':Hp} (a:Keeps R H H') (h:∀ c,R c→R' c):Keeps R' H H':=fun c o e n=>a c o e (n.imp (fun z y=>z (h c y)) id)
theorem Keeps.tups {R:Addr→Prop} {H H':Hp} (a:Keeps R H H'):cF H H':=fun b xs e=>a b _ e (.inr ⟨xs,rfl⟩)
theorem Keeps.upd {R:Addr→Prop} {H H':Hp} {p:Addr} {o o':HO} (a:Keeps R H H') (h:H' p=some o) (hn:∀ xs,o ≠ .tup xs) (hp:R p):Keeps R H (L2.upd H' p o'):=fun c u e n=>by
 have e':=a c u e n
 have:c ≠ p:=fun z=>by
  rw [z,h] at e'
  have e':=Option.some.inj e'
  rcases n with n | ⟨xs,rfl⟩
  ·exact n (z ▸ hp)
  ·exact hn xs e'
 rw [aK this]
 exact e'
section
variable {C x:Addr} {H H':Hp} {m:MA} {rows:List V} {aq:List (Key × V)} {B:Nat} {z:Zt}
theorem MG.fr (M:MG C H x m rows aq B z) (f:Fr m x H H'):Keeps (Own m x) H H':=fun c o e n=>by
 rcases n with n | ⟨xs,rfl⟩
 ·exact f c o n e
 ·exact f c _ (M.Kx e) e
def vm (m:MA) (x c:Addr):Prop:=Own m x c∨c=m.p1
theorem MG.keeps {R:Addr→Prop} (M:MG C H x m rows aq B z) (k:Keeps R H H') (d:∀ c,vm m x c→¬ R c):MG C H' x m rows aq B z:=by
 obtain ⟨w,o1,o2⟩:=M.obj
 obtain ⟨d1,c1,c2⟩:=M.cell
 obtain ⟨d2,a1,a2⟩:=M.yR
 obtain ⟨ps,s1,s2⟩:=M.seen
 have e:∀ {c o},vm m x c→H c=some o→H' c=some o:=fun {c o} h g=>k c o g (.inl (d c h))
 exact ⟨⟨w,e (.inl (.inl rfl)) o1,o2.tups k.tups⟩,e (.inr rfl) M.prog,e (.inl (.inr (.inl rfl))) M.box,M.b8,⟨d1,e (.inl (.inr (.inr (.inl rfl)))) c1,c2⟩,⟨d2,e (.inl (.inr (.inr (.inr (.inl rfl))))) a1,a2⟩,
  e (.inl (.inr (.inr (.inr (.inr (.inl rfl)))))) M.rg,e (.inl (.inr (.inr (.inr (.inr (.inr (.inl rfl))))))) M.told,⟨ps,e (.inl (.inr (.inr (.inr (.inr (.inr (.inr (.inl rfl)))))))) s1,s2.tups k.tups⟩,e (.inl (.inr (.inr (.inr (.inr (.inr (.inr (.inr rfl)))))))) M.nK,M.ap,M.lens,M.big⟩
theorem MG.pe (M:MG C H x m rows aq B z):∀ c,vm m x c→∃ o,H c=some o:=by
 obtain ⟨w,o1,o2⟩:=M.obj
 obtain ⟨d1,c1,c2⟩:=M.cell
 obtain ⟨d2,a1,a2⟩:=M.yR
 obtain ⟨ps,s1,s2⟩:=M.seen
 rintro c ((rfl | rfl | rfl | rfl | rfl | rfl | rfl | rfl) | rfl)
 ·exact ⟨_,o1⟩
 ·exact ⟨_,M.box⟩
 ·exact ⟨_,c1⟩
 ·exact ⟨_,a1⟩
 ·exact ⟨_,M.rg⟩
 ·exact ⟨_,M.told⟩
 ·exact ⟨_,s1⟩
 ·exact ⟨_,M.nK⟩
 ·exact ⟨_,M.prog⟩
end
def gL (ns:List Str) (vs:List V):List (Key × V):=(ns.zip vs).map fun p=>(Sum.inr p.1,p.2)
theorem jw:∀ (ns:List Str) (vs:List V) (i:Nat) (x:Str),ns.Nodup→ns[i]? = some x→cH (gL ns vs) (Sum.inr x:Key)=vs[i]?
 | [],_,i,x,_,h=>by simp at h
 | n :: ns,[],i,x,_,h=>by simp [gL,cH]
 | n :: ns,v :: vs,0,x,_,h=>by
  have e:n=x:=by simpa using h
  subst e
  exact dg rfl
 | n :: ns,v :: vs,i + 1,x,hn,h=>by
  have hn':=nodup_cons.mp hn
  have hm:x ∈ ns:=List.mem_of_getElem? (by simpa using h)
  have ne:¬ n=x:=fun e=>hn'.1 (e ▸ hm)
  rw [show gL (n :: ns) (v :: vs)=(Sum.inr n,v) :: gL ns vs from rfl,dh (fun z=>ne (Sum.inr.inj z))]
  exact jw ns vs i x hn'.2 (by simpa using h)
theorem DA (y:V):∀ (ns:List Str) (vs:List V) (i:Nat) (x:Str),ns.Nodup→ns[i]? = some x→i < vs.length→ns.length=vs.length→putK (gL ns vs) (Sum.inr x:Key) y=gL ns (vs.set i y):=by
 intro ns vs i x hn hi hl hlen
 have hs:(cH (gL ns vs) (Sum.inr x:Key)).isSome=true:=by
  rw [jw ns vs i x hn hi,List.getElem?_eq_getElem hl]
  rfl
 unfold putK
 rw [ei,if_pos hs]
 have go:∀ (ns:List Str) (vs:List V) (i:Nat),ns.Nodup→ns[i]? = some x→(gL ns vs).map (fun kv=>if kv.1=(Sum.inr x:Key) then (kv.1,y) else kv)=gL ns (vs.set i y):=by
  intro ns
  induction ns with
  | nil=>intro vs i _ h; simp at h
  | cons n ns ih =>
   intro vs i hn hi
   cases vs with
   | nil=>rfl
   | cons v vs =>
    have hn':=nodup_cons.mp hn
    cases i with
    | zero =>
     have e:n=x:=by simpa using hi
     subst e
     show (if (Sum.inr n:Key)=Sum.inr n then _ else _) :: _=(Sum.inr n,y) :: gL ns vs
     rw [if_pos rfl]
     congr 1
     have:∀ p ∈ gL ns vs,(if p.1=(Sum.inr n:Key) then (p.1,y) else p)=p:=fun p hp=>by
      unfold gL at hp
      obtain ⟨q,hq,rfl⟩:=mem_map.mp hp
      have:q.1 ∈ ns:=(List.of_mem_zip hq).1
      rw [if_neg (fun e=>hn'.1 (by rw [← Sum.inr.inj e]; exact this))]
     show (gL ns vs).map (fun kv=>if kv.1=(Sum.inr n:Key) then (kv.1,y) else kv)=gL ns vs
     rw [List.map_congr_left this,List.map_id']
    | succ i =>
     have hm:x ∈ ns:=List.mem_of_getElem? (by simpa using hi)
     have ne:¬ n=x:=fun e=>hn'.1 (e ▸ hm)
     show (if (Sum.inr n:Key)=Sum.inr x then _ else (Sum.inr n,v)) :: (gL ns vs).map _=(Sum.inr n,v) :: gL ns (vs.set i y)
     rw [if_neg (fun z=>ne (Sum.inr.inj z)),ih vs i hn'.2 (by simpa using hi)]
 exact go ns vs i hn hi
theorem jC {H:Hp} {a:Addr} {kvs:List (Key × V)} {x:Str} {v:V} (h:H a=some (.dK kvs)) (e:cH kvs (Sum.inr x:Key)=some v):iR H a (.str x) (some v):=e ▸ iR.k (k:=Sum.inr x) h
section
variable {m:LA} {k:Int} {h w v:V}
end
section
variable {H H':Hp} {a:Addr} {m:LA} {B:Nat} {z:Zt}
end
abbrev bg (bells:List Int):Int→Bool:=fun j=>decide (j ∈ bells)
theorem AG {kvs:List (Key × V)} {k:Key} (h:¬ k ∈ kvs.map (·.1)):cH kvs k=none:=by
 cases e:cH kvs k with
 | none=>rfl
 | some v =>
  exfalso
  have h2:(kvs.any fun kv=>decide (kv.1=k))=true:=by rw [ei,e]; rfl
  obtain ⟨p,hp,hk⟩:=List.any_eq_true.mp h2
  exact h (mem_map.mpr ⟨p,hp,of_decide_eq_true hk⟩)
theorem rE:∀ (more acc:List (Key × V)),((acc ++ more).map (·.1)).Nodup→eA acc more=acc ++ more
 | [],acc,_=>by show acc=acc ++ []; simp
 | p :: r,acc,h=>by
  have h1:¬ p.1 ∈ acc.map (·.1):=by
   rw [map_append,List.nodup_append] at h
   intro z
   exact h.2.2 p.1 z p.1 (by simp) rfl
  show eA (putK acc p.1 p.2) r=_
  rw [uN _ (AG h1)]
  have:acc ++ p :: r=acc ++ [(p.1,p.2)] ++ r:=by simp
  rw [this] at h ⊢
  exact rE r _ h
theorem AH {ns:List Str} {vs:List V} (h:ns.Nodup) (hl:ns.length ≤ vs.length):eA [] (gL ns vs)=gL ns vs:=by
 have e:(gL ns vs).map (·.1)=ns.map Sum.inr:=by
  unfold gL
  rw [map_map]
  have:((fun x:Key × V=>x.1) ∘ fun p:Str × V=>((Sum.inr p.1:Key),p.2))=Sum.inr ∘ Prod.fst:=rfl
  rw [this,← map_map,List.map_fst_zip hl]
 rw [rE _ [] (by rw [List.nil_append,e]; exact h.map _ (fun a b n z=>n (Sum.inr.inj z)))]
 rfl
theorem DB {H:Hp} {q:Addr} {n:Int} {r:Rw} (h:ie H q n r):∃ xs,H q=some (.tup (.str r.word :: xs)):=by
 cases r with
 | stop=>exact ⟨_,h⟩
 | back=>exact ⟨_,h⟩
 | halt v=>exact ⟨_,h⟩
 | two u b v=>exact ⟨_,h.1⟩
 | tell b=>exact ⟨_,h.1⟩
 | fX u t f=>exact ⟨_,h.1⟩
 | zb u b t f=>exact ⟨_,h.1⟩
 | table b ts=>obtain ⟨p,h1,_⟩:=h; exact ⟨_,h1⟩
theorem gH.snoc {H:Hp} {ts:List Addr} {ps:List (Int × Int)} {t:Addr} {p:Int × Int} (h:gH H ts ps) (ht:H t=some (.tup [.int p.1,.int p.2])):gH H (ts ++ [t]) (ps ++ [p]):=by
 refine ⟨by simp [h.1],fun i t' p' a b=>?_⟩
 rcases lt_or_ge i ts.length with z | z
 ·rw [List.getElem?_append_left z] at a
  rw [List.getElem?_append_left (by have:=h.1; omega)] at b
  exact h.2 i t' p' a b
 ·rw [List.getElem?_append_right z] at a
  rw [List.getElem?_append_right (by have:=h.1; omega)] at b
  cases hz:i - ts.length with
  | zero =>
   have hz2:i - ps.length=0:=by have:=h.1; omega
   rw [hz] at a
   rw [hz2] at b
   simp at a b
   subst a
   subst b
   exact ht
  | succ d=>rw [hz] at a; simp at a
theorem at4 (a b c d i:Int) (h:0 ≤ i∧i < 4):∃ v:Int,oq [V.int a,.int b,.int c,.int d] i=some (.int v):=by
 rcases (show i=0∨i=1∨i=2∨i=3 by omega) with rfl | rfl | rfl | rfl
 ·exact ⟨a,rfl⟩
 ·exact ⟨b,rfl⟩
 ·exact ⟨c,rfl⟩
 ·exact ⟨d,rfl⟩
theorem zh (ns:List Int) (lo hi:Option Int):∃ cs:List Int,eJ (ns.map V.int) lo hi=cs.map V.int∧cs.length ≤ ns.length:=by
 refine ⟨(ns.drop (HT.ef ns.length 0 lo)).take (HT.ef ns.length ns.length hi - HT.ef ns.length 0 lo),?_,?_⟩
 ·unfold eJ
  rw [length_map,map_take,map_drop]
 ·rw [length_take,length_drop]
  omega
theorem NB (ns:List Int) (h:ns.length=14):eJ (ns.map V.int) none (some 8)=(ns.take 8).map V.int:=by
 unfold eJ
 rw [show (some (8:Int))=some ((8:Nat):Int) from rfl,HT.iA,HT.uL,List.drop_zero,Nat.sub_zero,length_map,h,map_take]
 rfl
theorem rF:∀ (ps:List (Int × Int)) (acc:List (Key × V)) (f:Int→Int),Rep acc f→∃ f',Rep (eA acc (iD ps)) f'
 | [],acc,f,r=>⟨f,r⟩
 | p :: ps,acc,f,r=>rF ps _ _ (r.put p.1 p.2)
section
variable {P:Program} {w:World} {K:Frag} {mg:Str→Option Value} {base:Heap}
def IW:Sp:=fun vs H Q _=>∃ c:Int,vs=[.int c]∧∀ (t pb pc pl:Addr) (bs bells:List Int) (d:List (Key × V)) (cf:Int→Int) (H':Hp),Same H H'→H' t=some (.tup [.ref pb,.ref pc,.ref pl])→H' pb=some (.lst (bs.map V.int))→bs.length=8 →
 H' pc=some (.dK d)→Rep d cf→d.length ≤ 50→H' pl=some (.lst (bells.map V.int))→bells.length ≤ 100→Q (.ref t) H'
theorem zi:aG ["_law_cell", "_law_xs", "_law_boxes", "_law_cells"] ["_law_cell"] (aj bQ):=⟨rfl,rfl,rfl,by decide +kernel,rfl,by decide +kernel,by decide +kernel⟩
def Hm:Scope:={ kind:=.function,names:=[(".0",.local),("_law_x",.local)],isGenerator:=false,isCoroutine:=false,more:=[] }
theorem zj:dD (aj bQ) Hm ["_law_cell", "_law_xs", "_law_boxes", "_law_cells"] ["_law_x"] [none]:=⟨rfl,by decide +kernel,by decide +kernel,by decide +kernel,by decide +kernel,by decide +kernel⟩
def Hn:Scope:={ kind:=.function,names:=[(".0",.local),("_law_x",.local)],isGenerator:=false,isCoroutine:=false,more:=[] }
theorem zk:dD (aj bQ) Hn ["_law_cell", "_law_xs", "_law_boxes", "_law_cells"] ["_law_x"] [none]:=⟨rfl,by decide +kernel,by decide +kernel,by decide +kernel,by decide +kernel,by decide +kernel⟩
def Ho:Scope:={ kind:=.function,names:=[(".0",.local),("_law_x",.local)],isGenerator:=false,isCoroutine:=false,more:=[] }
theorem zm:dD (aj bQ) Ho ["_law_cell", "_law_xs", "_law_boxes", "_law_cells"] ["_law_x"] [none]:=⟨rfl,by decide +kernel,by decide +kernel,by decide +kernel,by decide +kernel,by decide +kernel⟩
theorem KU {f fS:Addr} {fd zp:FuncData} (F:d6 K "_law_beginning" "_law_beginning" bQ f fd) (T:Txt K w.params mg)
  (GS:aM P w K mg base bw 1 fS zp ["_law_cell", "_law_many"] oW) (kS:KI K fS) (bS:Binds K zp ["_law_cell", "_law_many"] []) (mS:mg "_law_stream" = some (.ref fS)):aM P w K mg base bw 2 f fd ["_law_cell"] IW:=by
 refine F.ok zi (fun vs H Q E h=>?_) (fun cdv A outer s H vs Q E hr h=>?_)
 ·obtain ⟨c,rfl,_⟩:=h
  rfl
 ·obtain ⟨c,rfl,k⟩:=h
  have hu:=cK hr
  refine ⟨_,(aH (aT (i:=1) zi.nd rfl (Or.inl rfl) (aN GS hr (by rfl) mS kS bS .nil aW (ae (pv 0) (ae ao ak))))
   (aH (kf (i:=2) (N':=["_law_x"]) (fr:=[none]) zi.nd rfl rfl zj rfl (dS (dO gh (pv 1) iB (dC ao))) (fun C s0 H0 fp=>(cG (i:=0) zj.nd rfl (Or.inl rfl))) (fun C s0 H0 fp=>fz) (fun C s0 H0 fp=>(aB (r:=JN K) aV (cr (ae (aJ jT (aJ bt (pv 0) ao) ao) (ae (aJ bt (pv 0) ao) (ae (aJ jT (aJ bt (pv 0) ao) ao) (ae (aJ bt (pv 0) ao) ak))))) (aJ bt (aJ cg (pv 0) ao) ao) (fun _ _=>rfl))))
   (aH (aT (i:=3) zi.nd rfl (Or.inl rfl) (cU (mz rfl) (by rfl) T.dict zc (ae (fF (N':=["_law_x"]) (fr:=[none]) zk rfl (dS (dO gh (pv 1) (dC ao) (dC (aJ cS ao (aJ bt (aB aV (pv 1) ao (fun _ _=>rfl)) ao))))) (fun C s0 H0 fp=>(cG (i:=0) zk.nd rfl (Or.inl rfl))) (fun C s0 H0 fp=>fz) (fun C s0 H0 fp=>(bf (ae (aJ jT (aJ bt (pv 0) ao) ao) (ae (aJ jT (aJ bt (aJ cg (pv 0) ao) ao) ao) ak))))) ak)))
   (az (aS (bf (ae (pv 2) (ae (pv 3) (ae (fF (N':=["_law_x"]) (fr:=[none]) zm rfl (dS (dO gh (pv 1) (dC ao) (dC (aJ cS ao (aJ bt (aB aV (pv 1) ao (fun _ _=>rfl)) ao))))) (fun C s0 H0 fp=>(cG (i:=0) zm.nd rfl (Or.inl rfl))) (fun C s0 H0 fp=>fz) (fun C s0 H0 fp=>(aJ bt (pv 0) ao))) ak))))))))),?_⟩
  refine ⟨_,rfl,c,14,rfl,(by decide),fun l ms H1 s1 nl hl h14 _=>?_⟩
  refine ⟨_,rfl,_,rfl,l,_,rfl,aZ.of hl,fun l2 n2=>?_⟩
  rw [NB ms h14]
  have s2:=ai (o:=.lst ((ms.take 8).map V.int)) n2
  have h2:upd H1 l2 (.lst ((ms.take 8).map V.int)) l2=_:=ah
  generalize upd H1 l2 (.lst ((ms.take 8).map V.int))=H2 at s2 h2 ⊢
  refine ⟨l2,rfl,⟨_,aZ.of h2⟩,fun D nD=>eG (K:=K) (a:=l2) (xs:=(ms.take 8).map V.int) (fun j σ ys G=>∃ (v:Option V) (zs:List Int),σ=[v]∧ys=zs.map V.int∧zs.length=j∧Same H2 G∧G D=some (.lst ys)) ?_ ?_ ?_ ?_⟩
  ·exact ⟨none,[],rfl,rfl,rfl,ai nD,ah⟩
  ·rintro j σ ys G _ ⟨v,zs,rfl,rfl,_,s3,_⟩
   exact aZ.of (s3 _ _ h2)
  ·rintro j x σ ys G hx ⟨v,zs,rfl,rfl,hz,s3,hD⟩
   have hjl:=(List.getElem?_eq_some_iff.mp hx).1
   rw [List.getElem?_map] at hx
   obtain ⟨y,_,rfl⟩:=map_eq_some_iff.mp hx
   rw [length_map,length_take] at hjl
   obtain ⟨u,hat⟩:=at4 (y % 5 - 2) (y % 16) (y % 2001 - 1000) (y % 4) (y / 2001 % 4) (jB _ (by decide))
   refine ⟨_,rfl,_,_,rfl,rfl,SA,_,_,rfl,rfl,_,rfl,_,_,rfl,rfl,M9,_,rfl,_,_,rfl,rfl,FK,_,_,rfl,rfl,_,rfl,_,_,rfl,rfl,wJ,C1,fun l4 n4=>⟨_,rfl,_,_,rfl,rfl,⟨by show (0:Int) < 2001; decide,by show (2001:Int) < _; decide⟩,_,_,rfl,rfl,wJ,l4,_,_,.int u,rfl,rfl,aZ.of ah,hat,iX n4 hD,bu (by rw [length_map]; omega),_,zs ++ [u],rfl,by simp,by simp [hz],bz (s3.trans (ai n4)) nD,ah⟩⟩
  rintro σ ys H3 ⟨v,bs,rfl,rfl,b8,s3,hD⟩
  rw [length_map,length_take,h14] at b8
  have hl3:=s3 _ _ (s2 _ _ hl)
  have a11:∀ (i:Nat) (hi:i < 14),oq (ms.map V.int) (i:Int)=some (.int (ms[i]'(by omega))):=fun i hi=>cw (by rw [List.getElem?_map,List.getElem?_eq_getElem (by omega)]; rfl)
  refine ⟨_,rfl,_,rfl,_,rfl,l,_,_,_,rfl,rfl,aZ.of hl3,a11 11 (by decide),_,_,rfl,rfl,wJ,_,_,rfl,rfl,_,rfl,l,_,rfl,aZ.of hl3,fun l5 n5=>?_⟩
  obtain ⟨cs,ec,lc⟩:=zh ms (some 8) (some ((8:Int) + ms[11]'(by omega) % 4))
  rw [show eJ (ms.map V.int) (some 8) (some ((8:Int) + ms[11]'(by omega) % 4))=cs.map V.int from ec]
  have s5:=ai (o:=.lst (cs.map V.int)) n5
  have h5:upd H3 l5 (.lst (cs.map V.int)) l5=_:=ah
  generalize upd H3 l5 (.lst (cs.map V.int))=H5 at s5 h5 ⊢
  refine ⟨l5,rfl,⟨_,aZ.of h5⟩,fun D2 IY=>eG (K:=K) (a:=l5) (xs:=cs.map V.int) (fun j σ ys G=>∃ (v:Option V) (ts:List Addr) (ps:List (Int × Int)),σ=[v]∧ys=ts.map V.ref∧ps.length=j∧gH G ts ps∧Same H5 G∧G D2=some (.lst ys)) ?_ ?_ ?_ ?_⟩
  ·exact ⟨none,[],[],rfl,rfl,rfl,⟨rfl,fun i p c e=>by simp at e⟩,ai IY,ah⟩
  ·rintro j σ ys G _ ⟨v,ts,ps,rfl,rfl,_,_,s6,_⟩
   exact aZ.of (s6 _ _ h5)
  ·rintro j x σ ys G hx ⟨v,ts,ps,rfl,rfl,hz,hS,s6,hD2⟩
   have hjl:=(List.getElem?_eq_some_iff.mp hx).1
   rw [List.getElem?_map] at hx
   obtain ⟨y,_,rfl⟩:=map_eq_some_iff.mp hx
   rw [length_map] at hjl
   refine ⟨_,rfl,_,_,rfl,rfl,M7,_,_,rfl,rfl,_,rfl,_,_,rfl,rfl,⟨by show (0:Int) < 9; decide,by show (9:Int) < _; decide⟩,_,_,rfl,rfl,SE,_,_,rfl,rfl,dG,fun t nt=>⟨iX nt hD2,bu (by rw [length_map,hS.1]; omega),_,ts ++ [t],ps ++ [(y % 9 - 3,y / 9 % 7 - 3)],rfl,by simp,by simp [hz],?_,bz (s6.trans (ai nt)) IY,ah⟩⟩
   have t2:t ≠ D2:=(aw hD2 nt).symm
   refine (hS.tups (fun b xs e=>?_)).snoc (p:=(y % 9 - 3,y / 9 % 7 - 3)) ?_
   ·rw [aK (cm e hD2 (by intro z; cases z))]
    exact iX nt e
   ·rw [aK t2]
    exact ah
  rintro σ ys H6 ⟨v,ts,ps,rfl,rfl,hpl,hS,s6,hD2⟩
  rw [length_map] at hpl
  have il:(iD ps).length=ps.length:=by unfold iD; rw [length_map]
  refine ⟨D2,ts,iD ps,rfl,hD2,by rw [il]; exact hS.1,fun i t kk v a b=>?_,by rw [il]; omega,fun l7 n7=>?_⟩
  ·unfold iD at b
   rw [List.getElem?_map] at b
   obtain ⟨p,hp,hpe⟩:=map_eq_some_iff.mp b
   have hk:kk=Sum.inl p.1:=(congrArg Prod.fst hpe).symm
   have hy:v=V.int p.2:=(congrArg Prod.snd hpe).symm
   subst hk hy
   exact hS.2 i t p a hp
  obtain ⟨cf,hrep⟩:=rF ps [] _ Rep.nil
  have hml:=fu (iD ps) []
  rw [il,List.length_nil] at hml
  have s7:=ai (o:=.dK (eA [] (iD ps))) n7
  have h7:upd H6 l7 (.dK (eA [] (iD ps))) l7=_:=ah
  generalize upd H6 l7 (.dK (eA [] (iD ps)))=H7 at s7 h7 ⊢
  have SM:=s5.trans (s6.trans s7)
  have hl7:=SM _ _ hl3
  refine ⟨_,rfl,_,rfl,_,rfl,_,rfl,_,rfl,l,_,_,_,rfl,rfl,aZ.of hl7,a11 12 (by decide),_,_,rfl,rfl,wJ,_,_,rfl,rfl,_,rfl,l,_,rfl,aZ.of hl7,fun l8 n8=>?_⟩
  obtain ⟨NC,ec3,lc3⟩:=zh ms (some 11) (some ((11:Int) + ms[12]'(by omega) % 4))
  rw [show eJ (ms.map V.int) (some 11) (some ((11:Int) + ms[12]'(by omega) % 4))=NC.map V.int from ec3]
  have s8:=ai (o:=.lst (NC.map V.int)) n8
  have h8:upd H7 l8 (.lst (NC.map V.int)) l8=_:=ah
  generalize upd H7 l8 (.lst (NC.map V.int))=H8 at s8 h8 ⊢
  refine ⟨l8,rfl,⟨_,aZ.of h8⟩,fun D3 nD3=>eG (K:=K) (a:=l8) (xs:=NC.map V.int) (fun j σ ys G=>∃ (v:Option V) (zs:List Int),σ=[v]∧ys=zs.map V.int∧zs.length=j∧Same H8 G∧G D3=some (.lst ys)) ?_ ?_ ?_ ?_⟩
  ·exact ⟨none,[],rfl,rfl,rfl,ai nD3,ah⟩
  ·rintro j σ ys G _ ⟨v,zs,rfl,rfl,_,s9,_⟩
   exact aZ.of (s9 _ _ h8)
  ·rintro j x σ ys G hx ⟨v,zs,rfl,rfl,hz,s9,Hq⟩
   have hjl:=(List.getElem?_eq_some_iff.mp hx).1
   rw [List.getElem?_map] at hx
   obtain ⟨y,_,rfl⟩:=map_eq_some_iff.mp hx
   rw [length_map] at hjl
   exact ⟨_,rfl,_,_,rfl,rfl,SD,Hq,bu (by rw [length_map]; omega),_,zs ++ [y % 6],rfl,by simp,by simp [hz],bz s9 nD3,ah⟩
  rintro σ ys H9 ⟨v,bells,rfl,rfl,L0,s9,Hq⟩
  rw [length_map] at L0
  refine ⟨km,fun t nt=>?_⟩
  have SN:=s8.trans (s9.trans (ai (o:=.tup [V.ref D,.ref l7,.ref D3]) nt))
  exact k t D l7 D3 bs bells _ cf _ ((s1.trans (s2.trans s3)).trans (SM.trans SN)) ah ((SM.trans SN) _ _ hD) b8 (SN _ _ h7) hrep (by omega) (iX nt Hq) (by omega)
end
def tu:Da→V
 | .int i=>.int i
 | .str s=>.str s
 | _=>.non
def Flat (l:List Da):Prop:=∀ d ∈ l,(∃ i,d=.int i)∨∃ s,d=.str s
def du (r:Int):List Da:=[.str "before",.int r]
def fq (r:Int):List Da:=[.str "after",.int r]
def cj (r s:Int):List Da:=[.str "way",.int r,.int s]
structure Wi where
 (p:List Da) (u:Str) (n b:Int)
def Wi.vs (x:Wi):List V:=if x.u = "count" then [.str x.u,.int x.n] else [.str x.u,.int x.n,.int x.b]
theorem vn {H:Hp} {p:Addr}:∀ {ds:List Da},Flat ds→H p=some (.tup (ds.map tu))→HD H (.ref p) (.tup ds):=fun {ds} f h=>.tup h (by simp) fun i x d hx hd=>by
 rw [List.getElem?_map,hd] at hx
 cases hx
 rcases f d (List.mem_of_getElem? hd) with ⟨i,rfl⟩ | ⟨s,rfl⟩
 ·exact .int i
 ·exact .str s
theorem vo {ds:List Da} (f:Flat ds):Da.Nb 1 (.tup ds):=.tup fun d hd=>by
 rcases f d hd with ⟨i,rfl⟩ | ⟨s,rfl⟩
 ·exact .int
 ·exact .str
theorem wU (r:Int):Flat (du r):=fun d h=>by
 rcases (show d=.str "before" ∨ d=.int r by simpa [du] using h) with rfl | rfl
 ·exact .inr ⟨_,rfl⟩
 ·exact .inl ⟨_,rfl⟩
theorem wV (r:Int):Flat (fq r):=fun d h=>by
 rcases (show d=.str "after" ∨ d=.int r by simpa [fq] using h) with rfl | rfl
 ·exact .inr ⟨_,rfl⟩
 ·exact .inl ⟨_,rfl⟩
theorem tD (r s:Int):Flat (cj r s):=fun d h=>by
 rcases (show d=.str "way" ∨ d=.int r∨d=.int s by simpa [cj] using h) with rfl | rfl | rfl
 ·exact .inr ⟨_,rfl⟩
 ·exact .inl ⟨_,rfl⟩
 ·exact .inl ⟨_,rfl⟩
def tE (H:Hp) (q:Addr) (x:Wi):Prop:=∃ p h,H q=some (.tup [.ref p,.ref h])∧H p=some (.tup (x.p.map tu))∧Flat x.p∧H h=some (.tup x.vs)
theorem tE.tups {H H':Hp} {q:Addr} {x:Wi} (h:tE H q x) (e:cF H H'):tE H' q x:=by
 obtain ⟨p,w,a,b,c,d⟩:=h
 exact ⟨p,w,e _ _ a,e _ _ b,c,e _ _ d⟩
def i5 (H:Hp) (lw:Addr) (xs:List Wi):Prop:=∃ qs:List Addr,H lw=some (.lst (qs.map V.ref))∧qs.length=xs.length∧∀ (i:Nat) q x,qs[i]? = some q→xs[i]? = some x→tE H q x
theorem i5.keeps {R:Addr→Prop} {H H':Hp} {lw:Addr} {xs:List Wi} (h:i5 H lw xs) (k:Keeps R H H') (n:¬ R lw):i5 H' lw xs:=by
 obtain ⟨qs,a,b,c⟩:=h
 exact ⟨qs,k _ _ a (.inl n),b,fun i q x h1 h2=>(c i q x h1 h2).tups k.tups⟩
theorem i5.same {H H':Hp} {lw:Addr} {xs:List Wi} (h:i5 H lw xs) (s:Same H H'):i5 H' lw xs:=h.keeps (R:=fun _=>False) (.same s) id
def uv (H:Hp) (hs:List Addr) (ws:List Wi):Prop:=hs.length=ws.length∧∀ (i:Nat) h x,hs[i]? = some h→ws[i]? = some x→H h=some (.tup x.vs)
theorem uv.tups {H H':Hp} {hs:List Addr} {ws:List Wi} (h:uv H hs ws) (e:cF H H'):uv H' hs ws:=⟨h.1,fun i a x h1 h2=>e _ _ (h.2 i a x h1 h2)⟩
theorem kI {α β:Type} {R:α→β→Prop} {as:List α} {bs:List β} {cs:List α} {ds:List β} (hl:as.length=bs.length) (h:∀ (i:Nat) x y,as[i]? = some x→bs[i]? = some y→R x y) (h2:∀ (i:Nat) x y,cs[i]? = some x→ds[i]? = some y→R x y):∀ (i:Nat) x y,(as ++ cs)[i]? = some x→(bs ++ ds)[i]? = some y→R x y:=fun i x y a b=>by
 rcases lt_or_ge i as.length with z | z
 ·rw [List.getElem?_append_left z] at a
  rw [List.getElem?_append_left (by omega)] at b
  exact h i x y a b
 ·rw [List.getElem?_append_right z] at a
  rw [List.getElem?_append_right (by omega),← hl] at b
  exact h2 _ x y a b
theorem uv.app {H:Hp} {hs gs:List Addr} {ws vs:List Wi} (h:uv H hs ws) (k:uv H gs vs):uv H (hs ++ gs) (ws ++ vs):=⟨by simp [h.1,k.1],kI (R:=fun a x=>H a=some (.tup (Wi.vs x))) h.1 h.2 k.2⟩
theorem uv.one {H:Hp} {h:Addr} {x:Wi} (e:H h=some (.tup x.vs)):uv H [h] [x]:=⟨rfl,fun i a y h1 h2=>by
 cases i with
 | zero=>cases h1; cases h2; exact e
 | succ i=>simp at h1⟩
theorem zq {K:Frag} {lw D:Addr} {qs:List Addr} {xs:List Wi} {c:Wi→Bool} {tt:TT} {R:Hp→Prop} {σr:St} {H:Hp} (h0:H lw=some (.lst (qs.map V.ref))) (hl:qs.length=xs.length) (hw:∀ (i:Nat) q x,qs[i]? = some q→xs[i]? = some x→tE H q x) (h100:xs.length ≤ 100) (nD:H D=none)
  (ht:∀ (x:Wi) (p h:Addr) (G:Hp) (Q:Bool→Hp→Prop),x ∈ xs→Same H G→G p=some (.tup (x.p.map tu))→Flat x.p→(∀ G',Same G G'→Q (c x) G')→tt (some (.ref p) :: some (.ref h) :: σr) G Q)
  (hR:∀ (hs:List Addr) (G:Hp),Same H G→G D=some (.lst (hs.map V.ref))→uv G hs (xs.filter c)→R G) :
  ∃ W:Nat→Nat→St→List V→Hp→Prop,(∃ m,W 0 m (none :: none :: σr) [] (upd H D (.lst [])))∧∀ i m σ ys H,W i m σ ys H →
   ((BX K lw).stop i H∧R H)∨((BX K lw).go i H∧∃ N:St→List V→Hp→Prop,(∀ σ' ys' H',N σ' ys' H'→∃ m',m' < m∧W (i + 1) m' σ' ys' H')∧∀ x H',(BX K lw).zT i H x H'→JC K 2 (uH (gF 0) (uH (gF 1) JB)) x σ H' fun σ2 H2=>tt σ2 H2 fun b H3 =>
    if b=true then Jv 1 σ2 H3 fun v H4=>H4 D=some (.lst ys)∧ys.length < sizeLine∧N σ2 (ys ++ [v]) (upd H4 D (.lst (ys ++ [v]))) else N σ2 ys H3):=by
 refine eG (K:=K) (a:=lw) (xs:=qs.map V.ref) (fun j σ ys G=>∃ (v1 v2:Option V) (hs:List Addr),σ=v1 :: v2 :: σr∧ys=hs.map V.ref∧Same H G∧G D=some (.lst ys)∧uv G hs ((xs.take j).filter c)) ?_ ?_ ?_ ?_
 ·exact ⟨none,none,[],rfl,rfl,ai nD,ah,rfl,fun i h x e=>by simp at e⟩
 ·rintro j σ ys G _ ⟨v1,v2,hs,rfl,rfl,s,_⟩
  exact aZ.of (s _ _ h0)
 ·rintro j x σ ys G hx ⟨v1,v2,hs,rfl,rfl,s,hD,hW⟩
  rw [List.getElem?_map] at hx
  obtain ⟨q,hq,rfl⟩:=map_eq_some_iff.mp hx
  have hjl:j < xs.length:=by have:=(List.getElem?_eq_some_iff.mp hq).1; omega
  have hx:xs[j]? = some xs[j]:=List.getElem?_eq_getElem hjl
  obtain ⟨p,h,a1,a2,a3,a4⟩:=hw j q _ hq hx
  have hm:=List.getElem_mem hjl
  generalize xs[j]=x at hx a2 a3 a4 hm
  refine ⟨q,_,rfl,bp.of (s _ _ a1),rfl,_,_,rfl,_,_,rfl,rfl,ht x p h G _ hm s (s _ _ a2) a3 fun G' s'=>?_⟩
  have tk:(xs.take (j + 1)).filter c=(xs.take j).filter c ++ [x].filter c:=by rw [take_add_one,hx,filter_append]; rfl
  have hl2:hs.length ≤ 100:=by
   rw [hW.1]
   exact le_trans (length_filter_le _ _) (by rw [length_take]; omega)
  have sT:=s.trans s'
  refine d7 (fun e=>?_) (fun e=>?_)
  ·refine ⟨_,rfl,s' _ _ hD,bu (by rw [length_map]; omega),_,_,hs ++ [h],rfl,by simp,bz sT nD,ah,?_⟩
   rw [tk,show [x].filter c=[x] by simp [e]]
   have T2:cF G (upd G' D (.lst (hs.map V.ref ++ [V.ref h]))):=fun b ys e=>by
    rw [aK (cm e hD (by intro z; cases z))]
    exact s' _ _ e
   exact (hW.tups T2).app (.one (T2 _ _ (s _ _ a4)))
  ·refine ⟨_,_,hs,rfl,rfl,sT,s' _ _ hD,?_⟩
   rw [tk,show [x].filter c=[] by simp [e],append_nil]
   exact hW.tups (.of s')
 ·rintro σ ys G ⟨v1,v2,hs,rfl,rfl,s,hD,hW⟩
  rw [length_map,hl,take_length] at hW
  exact hR hs G s hD hW
def gg (r:Int) (x:Wi):Bool:=decide (x.p=du r)
def kJ (r s:Int) (x:Wi):Bool:=decide (x.p=fq r) || decide (x.p=cj r s)
theorem Hr {r s:Int} {x:Wi}:decide (Da.tup x.p ∈ [Da.tup (fq r),Da.tup (cj r s)])=kJ r s x:=by
 unfold kJ
 rw [← Bool.decide_or]
 exact decide_eq_decide.mpr (by simp)
section
variable {P:Program} {w:World} {K:Frag} {mg:Str→Option Value} {base:Heap}
def KW:Sp:=fun vs H Q _=>∃ (lw:Addr) (xs:List Wi) (r:Int),vs=[.ref lw,.int r]∧i5 H lw xs∧xs.length ≤ 100∧∀ (l:Addr) (hs:List Addr) (H':Hp),Same H H'→H l=none→H' l=some (.lst (hs.map V.ref))→uv H' hs (xs.filter (gg r))→Q (.ref l) H'
theorem SO:aG ["wishes", "r"] ["wishes", "r"] (aj cM):=⟨rfl,rfl,rfl,by decide +kernel,rfl,by decide +kernel,by decide +kernel⟩
def KY:Scope:={ kind:=.function,names:=[(".0",.local),("place",.local),("what",.local),("r",.free)],isGenerator:=false,isCoroutine:=false,more:=[] }
theorem DC:dD (aj cM) KY ["wishes", "r"] ["place", "what", "r"] [none,none,some 1]:=⟨rfl,by decide +kernel,by decide +kernel,by decide +kernel,by decide +kernel,by decide +kernel⟩
theorem ND {f:Addr} {fd:FuncData} (F:d6 K "whats_before" "whats_before" cM f fd) (T:Txt K w.params mg):aM P w K mg base bw 1 f fd ["wishes", "r"] KW:=by
 refine F.ok SO (fun vs H Q E h=>?_) (fun cdv A outer s H vs Q E hr h=>?_)
 ·obtain ⟨lw,xs,r,rfl,_⟩:=h
  rfl
 ·obtain ⟨lw,xs,r,rfl,⟨qs,h0,hl,hw⟩,h100,k⟩:=h
  have NF:=lt_of_le_of_lt (Nat.add_le_add_left (by decide:6 ≤ 64) _) hr.units
  refine ⟨_,(az (aS (fF (N':=["place", "what", "r"]) (fr:=[none,none,some 1]) DC rfl (dS (pv 0)) (fun C s0 H0 fp=>(iY (K:=K) (i:=0) (j:=1) rfl rfl DC.nd rfl (Or.inl rfl) rfl (Or.inl rfl))) (fun C s0 H0 fp=>(ke (aP (r:=MX K false) (Kb NF) (pv 0) (bf (ae ay (ae (pv 2) ak))) (aY _)))) (fun C s0 H0 fp=>(pv 1))))),?_⟩
  refine ⟨_,rfl,lw,rfl,⟨_,aZ.of h0⟩,fun D nD=>zq (K:=K) (σr:=[some (.int r)]) (c:=gg r) h0 hl hw h100 nD (fun x p h G Q' _ sG hp fl kk=>?_) (fun hs G sG hD hW=>k D hs G sG nD hD hW)⟩
  refine ⟨_,rfl,_,rfl,dG,fun t nt=>?_⟩
  have s2:=ai (o:=.tup [V.str "before",V.int r]) nt
  refine ⟨1,p,t,.tup x.p,.tup (du r),rfl,rfl,(vn fl (s2 _ _ hp)).da K,(vn (wU r) ah).da K,vo fl,vo (wU r),by decide,_,rfl,?_⟩
  rw [show (false ^^ decide (Da.tup x.p=Da.tup (du r)))=gg r x by rw [Bool.false_xor]; exact decide_eq_decide.mpr ⟨fun e=>Da.tup.inj e,fun e=>congrArg _ e⟩]
  exact kk _ s2
def NG:Sp:=fun vs H Q _=>∃ (lw:Addr) (xs:List Wi) (r s:Int),vs=[.ref lw,.int r,.int s]∧i5 H lw xs∧xs.length ≤ 100∧∀ (l:Addr) (hs:List Addr) (H':Hp),Same H H'→H l=none→H' l=some (.lst (hs.map V.ref))→uv H' hs (xs.filter (kJ r s))→Q (.ref l) H'
theorem SQ:aG ["wishes", "r", "s"] ["wishes", "r", "s"] (aj cO):=⟨rfl,rfl,rfl,by decide +kernel,rfl,by decide +kernel,by decide +kernel⟩
def KZ:Scope:={ kind:=.function,names:=[(".0",.local),("place",.local),("what",.local),("r",.free),("s",.free)],isGenerator:=false,isCoroutine:=false,more:=[] }
theorem DE:dD (aj cO) KZ ["wishes", "r", "s"] ["place", "what", "r", "s"] [none,none,some 1,some 2]:=⟨rfl,by decide +kernel,by decide +kernel,by decide +kernel,by decide +kernel,by decide +kernel⟩
theorem K0 {H:Hp} {x:Wi} {r s:Int} {p t1 t2 t3:Addr} {Q:V→Hp→Prop} (fl:Flat x.p) (hp:H p=some (.tup (x.p.map tu))) (h1:H t1=some (.tup ((fq r).map tu))) (h2:H t2=some (.tup ((cj r s).map tu))) (h3:H t3=some (.tup [.ref t1,.ref t2])) (k:Q (.bl (kJ r s x)) H):Kc K (.ref p) (.ref t3) H Q:=by
 refine ⟨p,t3,_,.tup x.p,[.tup (fq r),.tup (cj r s)],1,rfl,rfl,h3,vn fl hp,.cons (vn (wV r) h1) (.cons (vn (tD r s) h2) .nil),fun y hy=>?_,vo fl,fun e he=>?_,by decide,Hr ▸ k⟩
 ·rcases (show y=.ref t1∨y=.ref t2 by simpa using hy) with rfl | rfl
  ·exact ⟨_,rfl⟩
  ·exact ⟨_,rfl⟩
 ·rcases (show e=.tup (fq r)∨e=.tup (cj r s) by simpa using he) with rfl | rfl
  ·exact vo (wV r)
  ·exact vo (tD r s)
theorem NH {f:Addr} {fd:FuncData} (F:d6 K "whats_on_way" "whats_on_way" cO f fd) (T:Txt K w.params mg):aM P w K mg base bw 1 f fd ["wishes", "r", "s"] NG:=by
 refine F.ok SQ (fun vs H Q E h=>?_) (fun cdv A outer s H vs Q E hr h=>?_)
 ·obtain ⟨lw,xs,r,s,rfl,_⟩:=h
  rfl
 ·obtain ⟨lw,xs,r,s',rfl,⟨qs,h0,hl,hw⟩,h100,k⟩:=h
  have NF:=lt_of_le_of_lt (Nat.add_le_add_left (by decide:6 ≤ 64) _) hr.units
  refine ⟨_,(az (aS (fF (N':=["place", "what", "r", "s"]) (fr:=[none,none,some 1,some 2]) DE rfl (dS (pv 0)) (fun C s0 H0 fp=>(iY (K:=K) (i:=0) (j:=1) rfl rfl DE.nd rfl (Or.inl rfl) rfl (Or.inl rfl))) (fun C s0 H0 fp=>(ke (aP (r:=Kc K) (Kd NF) (pv 0) (bf (ae (bf (ae ay (ae (pv 2) ak))) (ae (bf (ae ay (ae (pv 2) (ae (pv 3) ak)))) ak))) rfl))) (fun C s0 H0 fp=>(pv 1))))),?_⟩
  refine ⟨_,rfl,lw,rfl,⟨_,aZ.of h0⟩,fun D nD=>zq (K:=K) (σr:=[some (.int r),some (.int s')]) (c:=kJ r s') h0 hl hw h100 nD (fun x p h G Q' _ sG hp fl kk=>?_) (fun hs G sG hD hW=>k D hs G sG nD hD hW)⟩
  refine ⟨_,rfl,_,rfl,dG,fun t1 n1=>⟨_,rfl,_,rfl,km,fun t2 n2=>⟨dG,fun t3 n3=>?_⟩⟩⟩
  have s1:=ai (o:=.tup [V.str "after",V.int r]) n1
  have s2:=ai (o:=.tup [V.str "way",V.int r,V.int s']) n2
  have s3:=ai (o:=.tup [V.ref t1,V.ref t2]) n3
  exact K0 fl ((s1.trans (s2.trans s3)) _ _ hp) ((s2.trans s3) _ _ ah) (s3 _ _ ah) ah ⟨_,rfl,kk _ (s1.trans (s2.trans s3))⟩
end
section
variable {P:Program} {w:World} {K:Frag} {mg:Str→Option Value} {base:Heap}
def wW:Sp:=fun vs H Q _=>∃ (r:Addr) (w:Str) (items:List V),vs=[.ref r]∧H r=some (.tup (.str w :: items))∧Q (.bl (!decide (w ∈ cy))) H
theorem K9:aG ["row"] ["row"] (aj gn):=⟨rfl,rfl,rfl,by decide +kernel,rfl,by decide +kernel,by decide +kernel⟩
theorem wX {f:Addr} {fd:FuncData} (F:d6 K "goes_on" "goes_on" gn f fd) (T:Txt K w.params mg):aM P w K mg base bw 1 f fd ["row"] wW:=by
 refine F.ok K9 (fun vs H Q E h=>?_) (fun cdv A outer s H vs Q E hr h=>?_)
 ·obtain ⟨r,w,items,rfl,_⟩:=h
  rfl
 ·obtain ⟨r,w',items,rfl,hR,k⟩:=h
  obtain ⟨p,hp,hq⟩:=T.oS
  refine ⟨_,az (aS (ft rW (aB aI (pv 0) ao (fun _ _=>rfl)) (dB (v:=.ref p) rfl hp rfl) rfl)),?_⟩
  refine ⟨_,rfl,r,_,0,.str w',rfl,rfl,bp.of hR,at0 _ _,p,_,rfl,.inr (hq _),rfl,rfl,?_⟩
  show Q (.bl (!inV (.str w') (cy.map V.str))) H
  rw [fQ]
  exact k
def lU:Sp:=fun vs H Q _=>∃ (r:Addr) (w:Str) (ts:List Int),vs=[.ref r]∧oR H r w ts∧∀ (l:Addr) (H':Hp),Same H H'→H l=none→H' l=some (.lst (ts.map V.int))→Q (.ref l) H'
theorem rG:aG ["row", "word"] ["row"] (aj dX):=⟨rfl,rfl,rfl,by decide +kernel,rfl,by decide +kernel,by decide +kernel⟩
theorem qB {f:Addr} {fd:FuncData} (F:d6 K "targets_of" "targets_of" dX f fd) (T:Txt K w.params mg):aM P w K mg base bw 1 f fd ["row"] lU:=by
 refine F.ok rG (fun vs H Q E h=>?_) (fun cdv A outer s H vs Q E hr h=>?_)
 ·obtain ⟨r,w,ts,rfl,_⟩:=h
  rfl
 ·obtain ⟨r,w',ts,rfl,⟨items,hR,hP⟩,k⟩:=h
  refine ⟨_,aH (aT (i:=1) rG.nd rfl (Or.inl rfl) (aB aI (pv 0) ao (fun _ _=>rfl)))
   (aH (dv (aP eM (pv 1) ay (aY _)) (az (aS (cU gi (by rfl) T.list jt (ae (aB aI (pv 0) ao (fun _ _=>rfl)) ak)))) aU)
   (aH (dv (aP dH (pv 1) (bf (ae ay (ae ay (ae ay ak)))) rfl) (az (aS (cr (ae (aB aI (pv 0) ao (fun _ _=>rfl)) ak)))) aU)
   (aH (dv (aP dH (pv 1) (bf (ae ay (ae ay ak))) rfl) (az (aS (cr (ae (aB aI (pv 0) ao (fun _ _=>rfl)) ak)))) aU)
   (az (aS (cr ak)))))),?_⟩
  refine ⟨_,rfl,r,_,0,.str w',rfl,rfl,bp.of hR,at0 _ _,_,rfl,rfl,_,rfl,?_⟩
  refine d7 (fun h1=>?_) (fun h1=>?_)
  ·have h1:=strEq h1
   unfold Parts at hP
   rw [if_pos h1] at hP
   obtain ⟨b,q,rfl,hq⟩:=hP
   refine ⟨_,rfl,r,_,2,.ref q,rfl,rfl,bp.of hR,at2 _ _ _ _,q,_,rfl,.inr (bp.of hq),fun l hl=>?_⟩
   exact k l _ (ai hl) hl ah
  ·have h1:=Iy h1
   unfold Parts at hP
   rw [if_neg h1] at hP
   refine ⟨_,rfl,km,fun t ht=>⟨t,fX.map V.str,rfl,.inr (bp.of ah),rfl,rfl,_,rfl,?_⟩⟩
   have s1:=ai (o:=.tup (fX.map V.str)) ht
   have AI:=s1 _ _ hR
   rw [show inV (.str w') (fX.map V.str)=decide (w' ∈ fX) from fQ _ _]
   refine d7 (fun h2=>?_) (fun h2=>?_)
   ·have h2:=of_decide_eq_true h2
    rw [if_pos h2] at hP
    obtain ⟨t',f',rfl,rfl⟩:=hP
    refine ⟨_,rfl,r,_,1,.int t',rfl,rfl,bp.of AI,at1 _ _ _,qw,fun l hl=>?_⟩
    exact k l _ (s1.trans (ai hl)) (s1.free hl) ah
   ·have h2:¬ w' ∈ fX:=fun e=>h2 (decide_eq_true e)
    rw [if_neg h2] at hP
    refine ⟨_,rfl,dG,fun t2 MO=>⟨t2,zb.map V.str,rfl,.inr (bp.of ah),rfl,rfl,_,rfl,?_⟩⟩
    have s2:=s1.trans (ai (o:=.tup (zb.map V.str)) MO)
    have Dz:=s2 _ _ hR
    rw [show inV (.str w') (zb.map V.str)=decide (w' ∈ zb) from fQ _ _]
    refine d7 (fun h3=>?_) (fun h3=>?_)
    ·have h3:=of_decide_eq_true h3
     rw [if_pos h3] at hP
     obtain ⟨b,t',f',rfl,rfl⟩:=hP
     refine ⟨_,rfl,r,_,2,.int t',rfl,rfl,bp.of Dz,at2 _ _ _ _,qw,fun l hl=>?_⟩
     exact k l _ (s2.trans (ai hl)) (s2.free hl) ah
    ·have h3:¬ w' ∈ zb:=fun e=>h3 (decide_eq_true e)
     rw [if_neg h3] at hP
     subst hP
     refine ⟨sv,fun l hl=>?_⟩
     exact k l _ (s2.trans (ai hl)) (s2.free hl) ah
def wY:Sp:=fun vs H Q _=>∃ (p q:Addr) (rows:List V) (r:Nat) (w:Str) (ts:List Int),vs=[.ref p,.int r]∧aZ K H p rows∧rows[r]? = some (.ref q)∧oR H q w ts∧ts.length ≤ 16 ∧
 ∀ (l:Addr) (ms:List Int) (H':Hp),Same H H'→H l=none→H' l=some (.lst (ms.map V.int))→ms.Pairwise (· ≤ ·)→ms.Nodup→(∀ j,j ∈ ms↔j ∈ ts∨(¬ w ∈ cy∧j=r + 1))→Q (.ref l) H'
theorem DF:aG ["rows", "r", "ways"] ["rows", "r"] (aj gq):=⟨rfl,rfl,rfl,by decide +kernel,rfl,by decide +kernel,by decide +kernel⟩
theorem wZ {f fG fT:Addr} {fd NI C7:FuncData} (F:d6 K "ways_of" "ways_of" gq f fd) (T:Txt K w.params mg) (GG:aM P w K mg base bw 1 fG NI ["row"] wW) (kG:KI K fG) (bG:Binds K NI ["row"] []) (mG:mg "goes_on" = some (.ref fG)) (GT:aM P w K mg base bw 1 fT C7 ["row"] lU) (kT:KI K fT) (bT:Binds K C7 ["row"] []) (mT:mg "targets_of" = some (.ref fT)):aM P w K mg base bw 2 f fd ["rows", "r"] (wY (K:=K)):=by
 refine F.ok DF (fun vs H Q E h=>?_) (fun cdv A outer s H vs Q E hr h=>?_)
 ·obtain ⟨p,q,rows,r,w,ts,rfl,_⟩:=h
  rfl
 ·obtain ⟨p,q,rows,r,w',ts,rfl,hS,hq,hR,hlen,k⟩:=h
  refine ⟨_,aH (aT (i:=2) DF.nd rfl (Or.inl rfl) (aN GT hr (by rfl) mT kT bT .nil aW (ae (aB aV (pv 0) (pv 1) (fun _ _=>rfl)) ak)))
   (aH (dv (gE (aN GG hr (by rfl) mG kG bG .nil aW (ae (aB aV (pv 0) (pv 1) (fun _ _=>rfl)) ak)))
    (az (bZ (hV PySem.F.plainAttrs_list PySem.F.slot_list_append PySem.F.type_list_append cJ (pv 2) (ae (aJ cS (pv 1) ao) ak)))) aU)
   (az (aS (aQ (iT rfl) (by rfl) T.sorted rc (ae (cU (mh rfl) (by rfl) T.set C3 (ae (pv 2) ak)) ak))))),?_⟩
  refine ⟨_,rfl,_,rfl,p,rows,r,.ref q,rfl,rfl,hS,cw hq,q,w',ts,rfl,hR,fun l H1 s1 nl hl=>?_⟩
  have hS1:=s1.seq hS
  obtain ⟨items,hq1,_⟩:=hR.same s1
  refine ⟨_,rfl,_,rfl,p,rows,r,.ref q,rfl,rfl,hS1,cw hq,q,w',items,rfl,hq1,_,rfl,?_⟩
  have fin:∀ (ns:List Int) (H2:Hp),Same H H2→H2 l=some (.lst (ns.map V.int))→ns.length ≤ 17→(∀ j,j ∈ ns↔j ∈ ts∨(¬ w' ∈ cy∧j=r + 1)) →
    ∃ v,[some (V.ref p),some (V.int r),some (V.ref l)][2]? = some (some v)∧∃ (p':Addr) (ns':List Int),[v]=[V.ref p']∧aZ K H2 p' (ns'.map V.int)∧ns'.length < 4000∧∀ (l':Addr) (us:List Int),H2 l'=none→us.length ≤ ns'.length→us.Nodup→(∀ j,j ∈ us↔j ∈ ns') →
     ∃ (p2:Addr) (ML:List Int),[V.ref l']=[V.ref p2]∧(upd H2 l' (qv P w l' us)) p2=some (qv P w p2 ML)∧ML.length < 64∧∀ (l2:Addr) (ms:List Int),(upd H2 l' (qv P w l' us)) l2=none→ms.Perm ML→ms.Pairwise (· ≤ ·)→Q (.ref l2) (upd (upd H2 l' (qv P w l' us)) l2 (.lst (ms.map V.int))):=by
   intro ns H2 s2 h2 hl2 hm
   refine ⟨_,rfl,l,ns,rfl,aZ.of h2,by omega,fun l' us SR hu hnd SU=>⟨l',us,rfl,ah,by omega,fun l2 ms NJ hp Fu=>?_⟩⟩
   have s3:=s2.trans (ai (o:=qv P w l' us) SR)
   exact k l2 ms _ (s3.trans (ai NJ)) (s3.free NJ) ah Fu (hp.nodup_iff.mpr hnd) (fun j=>by rw [hp.mem_iff,SU,hm])
  refine d7 (fun h1=>?_) (fun h1=>?_)
  ·have h1:¬ w' ∈ cy:=by simpa using h1
   refine ⟨_,rfl,.inl ⟨rfl,_,aZ.of hl⟩,_,rfl,_,_,rfl,rfl,l,_,_,rfl,rfl,hl,?_,?_⟩
   ·rw [length_map]
    exact dW (by omega)
   ·have e:(ts.map V.int ++ [V.int ((r:Int) + 1)])=(ts ++ [(r:Int) + 1]).map V.int:=by simp
    rw [e]
    refine fin (ts ++ [(r:Int) + 1]) _ ?_ ah (by simp; omega) (fun j=>?_)
    ·intro b o z
     rw [aK (aw z nl)]
     exact s1 b o z
    ·rw [mem_append,mem_singleton]
     exact ⟨fun z=>z.imp id fun e=>⟨h1,e⟩,fun z=>z.imp id fun e=>e.2⟩
  ·have h1:w' ∈ cy:=by simpa using h1
   refine fin ts _ s1 hl (by omega) (fun j=>⟨.inl,fun z=>z.elim id fun e=>absurd h1 e.1⟩)
end
def kdN:List Str:=["box", "aside", "target", "number", "value", "far"]
def Hs (H:Hp) (kd:Str) (v:V):Prop:=(kd = "targets" ∧ ∃ (p:Addr) (ts:List Int),v=.ref p∧H p=some (.tup (ts.map V.int))∧ts ≠ []∧ts.length ≤ 16∧∀ t ∈ ts,0 ≤ t∧t ≤ 1000000000)∨(kd ∈ kdN∧∃ i,v=.int i∧vJ kd i)
theorem Hs.same {H H':Hp} {kd:Str} {v:V} (h:Hs H kd v) (s:Same H H'):Hs H' kd v:=by
 rcases h with ⟨a,p,ts,b,c,d⟩ | h
 ·exact .inl ⟨a,p,ts,b,s _ _ c,d⟩
 ·exact .inr h
theorem ph (n:Nat):(replicate n true).map V.bl ++ [V.bl true]=(replicate (n + 1) true).map V.bl:=by
 rw [List.replicate_succ',map_append]
 rfl
theorem tF (n:Nat):(replicate n true).all id=true:=by simp
theorem IZ (a:V) (l:List V):eJ (a :: l) (some 1) none=l:=by
 unfold eJ
 simp [HT.ef]
section
variable {P:Program} {w:World} {K:Frag} {mg:Str→Option Value} {base:Heap}
def La:Sp:=fun vs H Q _=>∃ i:Int,vs=[.int i]∧Q (.bl true) H
theorem SV:aG ["thing"] ["thing"] (aj fe):=⟨rfl,rfl,rfl,by decide +kernel,rfl,by decide +kernel,by decide +kernel⟩
theorem vp {f:Addr} {fd:FuncData} (F:d6 K "is_whole" "is_whole" fe f fd) (T:Txt K w.params mg)  : aM P w K mg base bw 1 f fd ["thing"] La:=by
 refine F.ok SV (fun vs H Q E h=>?_) (fun cdv A outer s H vs Q E hr h=>?_)
 ·obtain ⟨i,rfl,_⟩:=h
  rfl
 ·obtain ⟨i,rfl,k⟩:=h
  refine dA (aO (aA (aS (gT (aQ dy (by rfl) T.Iz iW (ae (pv 0) (ae (gN (v:=.ty "int") (by rfl) T.int sx rfl) ak))) (iL (Jx (aQ dy (by rfl) T.Iz iW (ae (pv 0) (ae (gN (v:=.ty "bool") (by rfl) T.bool FL rfl) ak))))))))) ?_
  exact ⟨_,rfl,_,_,_,_,rfl,.int _,Au,_,rfl,eP rfl ⟨_,rfl,_,_,_,_,rfl,.int _,wL,_,rfl,k⟩⟩
def Ht:Sp:=fun vs H Q _=>∃ (q:Addr) (u:Str) (r:List V),vs=[.ref q]∧H q=some (.tup (.str u :: r))∧Q (.str u) H
theorem SW:aG ["thing"] ["thing"] (aj gA):=⟨rfl,rfl,rfl,by decide +kernel,rfl,by decide +kernel,by decide +kernel⟩
theorem w6 {f:Addr} {fd:FuncData} (F:d6 K "word_of" "word_of" gA f fd) (T:Txt K w.params mg)  : aM P w K mg base bw 1 f fd ["thing"] Ht:=by
 refine F.ok SW (fun vs H Q E h=>?_) (fun cdv A outer s H vs Q E hr h=>?_)
 ·obtain ⟨q,u,r,rfl,_⟩:=h
  rfl
 ·obtain ⟨q,u,r,rfl,hq,k⟩:=h
  refine dA (au (dk (jR (gE (aQ dy (by rfl) T.Iz iW (ae (pv 0) (ae (gN (v:=.ty "tuple") (by rfl) T.tuple ky rfl) ak)))) (jR (aP qM (aQ aL (by rfl) T.len cn (ae (pv 0) ak)) ao (aY _)) (j4 (gE (aQ dy (by rfl) T.Iz iW (ae (aB aI (pv 0) ao (fun _ _=>rfl)) (ae (gN (v:=.ty "str") (by rfl) T.str Kj rfl) ak))))))).pt (aO (aA (aS (aB aI (pv 0) ao (fun _ _=>rfl))))) (bX aU))
   (aO (aA (aS gS)))) ?_
  refine ⟨_,rfl,_,_,_,_,rfl,.tup hq,gW,_,rfl,eP rfl ?_⟩
  refine ⟨_,rfl,q,_,rfl,.inr (bp.of hq),_,_,rfl,rfl,_,rfl,eP (decide_eq_true (by rw [length_cons]; omega)) ?_⟩
  exact ⟨_,rfl,q,_,0,_,rfl,rfl,bp.of hq,at0 _ _,_,_,_,_,rfl,.str _,sy (by decide),_,rfl,eP rfl ⟨_,rfl,q,_,0,_,rfl,rfl,bp.of hq,at0 _ _,k⟩⟩
def Lb:Sp:=fun vs H Q _=>∃ (kd:Str) (i:Int),vs=[.str kd,.int i]∧kd ∈ kdN∧vJ kd i∧Q (.bl true) H
theorem Txt.bnd {pr:Params} (T:Txt K pr mg):∃ p,mg "BOUNDS" = some (.ref p)∧∀ kd ∈ kdN,∃ q,dE K pr p kd (some (.ref q))∧∀ H,bp K H q [.int (oX kd).1,.int (oX kd).2]:=by
 obtain ⟨p,hp,_,h0,h1,h2,h3,h4,h5⟩:=T.C4
 refine ⟨p,hp,fun kd hk=>?_⟩
 rcases (by decide +kernel:∀ kd:Str,kd ∈ kdN→(kd=("box" : Str)∧oX kd=(0,7))∨(kd=("aside" : Str)∧oX kd=(0,1000000))∨(kd=("target" : Str)∧oX kd=(0,1000000000))∨(kd=("number" : Str)∧oX kd=(0,1000000))∨(kd=("value" : Str)∧oX kd=(-1000000000,1000000000))∨(kd=("far" : Str)∧oX kd=(0,1))) kd hk with ⟨rfl,e⟩ | ⟨rfl,e⟩ | ⟨rfl,e⟩ | ⟨rfl,e⟩ | ⟨rfl,e⟩ | ⟨rfl,e⟩ <;> rw [e] <;> assumption
theorem SY:aG ["kind", "thing"] ["kind", "thing"] (aj dm):=⟨rfl,rfl,rfl,by decide +kernel,rfl,by decide +kernel,by decide +kernel⟩
theorem mI {f fW:Addr} {fd rH:FuncData} (F:d6 K "is_number_of" "is_number_of" dm f fd) (T:Txt K w.params mg) (GW:aM P w K mg base bw 1 fW rH ["thing"] La) (kW:KI K fW) (bW:Binds K rH ["thing"] []) (mW:mg "is_whole" = some (.ref fW)):aM P w K mg base bw 2 f fd ["kind", "thing"] Lb:=by
 refine F.ok SY (fun vs H Q E h=>?_) (fun cdv A outer s H vs Q E hr h=>?_)
 ·obtain ⟨kd,i,rfl,_⟩:=h
  rfl
 ·obtain ⟨kd,i,rfl,hk,hi,k⟩:=h
  obtain ⟨pb,hpb,hpk⟩:=T.bnd
  obtain ⟨q,hq,hS⟩:=hpk kd hk
  refine dA (aO (aA (aS (gT (aN GW hr (by rfl) mW kW bW .nil aW (ae (pv 1) ak)) (iL (B3 qL qL (aB aI (jc (dB (v:=.ref pb) (by rfl) hpb rfl) (pv 0) (fun _ _=>rfl)) ao (fun _ _=>rfl)) (pv 1) (aB aI (jc (dB (v:=.ref pb) (by rfl) hpb rfl) (pv 0) (fun _ _=>rfl)) ao (fun _ _=>rfl)))))))) ?_
  refine ⟨_,rfl,i,rfl,_,rfl,eP rfl ?_⟩
  refine ⟨_,rfl,pb,kd,_,rfl,rfl,hq,q,_,0,_,rfl,rfl,hS _,at0 _ _,_,rfl,_,_,rfl,rfl,_,rfl,eP (decide_eq_true hi.1) ?_⟩
  refine ⟨_,rfl,pb,kd,_,rfl,rfl,hq,q,_,1,_,rfl,rfl,hS _,at1 _ _ _,_,_,rfl,rfl,?_⟩
  show Q (.bl (decide (i ≤ (oX kd).2))) H
  rw [decide_eq_true hi.2]
  exact k
def NK:Sp:=fun vs H Q _=>∃ (p:Addr) (ts:List Int),vs=[.ref p]∧H p=some (.tup (ts.map V.int))∧ts ≠ []∧ts.length ≤ 16∧(∀ t ∈ ts,0 ≤ t∧t ≤ 1000000000)∧∀ H',Same H H'→Q (.bl true) H'
theorem SZ:aG ["thing"] ["thing"] (aj dF):=⟨rfl,rfl,rfl,by decide +kernel,rfl,by decide +kernel,by decide +kernel⟩
def Lc:Scope:={ kind:=.function,names:=[(".0",.local),("target",.local),("is_number_of",.globalImplicit)],isGenerator:=false,isCoroutine:=false,more:=[] }
theorem DG:dD (aj dF) Lc ["thing"] ["target"] [none]:=⟨rfl,by decide +kernel,by decide +kernel,by decide +kernel,by decide +kernel,by decide +kernel⟩
theorem qC {f fN:Addr} {fd zr:FuncData} (F:d6 K "is_targets" "is_targets" dF f fd) (T:Txt K w.params mg) (GN:aM P w K mg base bw 2 fN zr ["kind", "thing"] Lb) (kN:KI K fN) (bN:Binds K zr ["kind", "thing"] []) (mN:mg "is_number_of" = some (.ref fN)):aM P w K mg base bw 3 f fd ["thing"] NK:=by
 refine F.ok SZ (fun vs H Q E h=>?_) (fun cdv A outer s H vs Q E hr h=>?_)
 ·obtain ⟨p,ts,rfl,_⟩:=h
  rfl
 ·obtain ⟨p,ts,rfl,hp,c1,c2,hts,k⟩:=h
  obtain ⟨tm,hmt⟩:=T.oU
  have c1:0 < ts.length:=List.length_pos_iff.mpr c1
  refine dA (au (dk (nZ (iy (gE (aQ dy (by rfl) T.Iz iW (ae (pv 0) (ae (gN (v:=.ty "tuple") (by rfl) T.tuple ky rfl) ak))))) (jQ (iy (om qL qL ao (aQ aL (by rfl) T.len cn (ae (pv 0) ak)) (dB (v:=.int 16) (by rfl) hmt ⟨_,rfl⟩))))).pt (aO (aA (aS jG))) (bX aU))
   (aO (aA (aS (aQ (lQ rfl) (by rfl) T.all wK (ae (fF (N':=["target"]) (fr:=[none]) DG rfl (JF (pv 0)) (fun C s0 H0 fp=>(cG (i:=0) DG.nd rfl (Or.inl rfl))) (fun C s0 H0 fp=>fz) (fun C s0 H0 fp=>(aN GN hr (by rfl) mN kN bN .nil aW (ae ay (ae (pv 0) ak))))) ak)))))) ?_
  refine ⟨_,rfl,_,_,_,_,rfl,.tup hp,gW,_,rfl,cQ (by decide) ?_⟩
  refine ⟨_,rfl,p,_,rfl,.inr (bp.of hp),_,_,rfl,rfl,_,rfl,eP (decide_eq_true (by rw [length_map]; omega)) ⟨_,_,rfl,rfl,_,rfl,cQ (by rw [decide_eq_true (by rw [length_map]; omega)]; decide) ?_⟩⟩
  refine ⟨_,rfl,p,rfl,⟨_,bp.of hp⟩,fun D nD=>CN (K:=K) (a:=p) (xs:=ts.map V.int) (fun i σ ys G=>∃ v:Option V,σ=[v]∧i ≤ 16∧ys=(replicate i true).map V.bl∧Same H G∧G D=some (.lst ys)) ?_ ?_ ?_ ?_⟩
  ·exact ⟨none,rfl,zero_le _,rfl,ai nD,ah⟩
  ·rintro i σ ys G _ ⟨v,rfl,_,_,s2,_⟩
   exact bp.of (s2 _ _ hp)
  ·rintro i x σ ys G hx ⟨v,rfl,h16,rfl,s2,hD⟩
   rw [List.getElem?_map] at hx
   obtain ⟨t,ht,rfl⟩:=map_eq_some_iff.mp hx
   have hi:=(List.getElem?_eq_some_iff.mp ht).1
   refine ⟨_,rfl, "target",t,rfl,by decide +kernel,hts t (List.mem_of_getElem? ht),hD,bu (by rw [length_map,List.length_replicate]; omega),_,rfl,by omega,ph i,bz s2 nD,ah⟩
  rintro σ ys G ⟨v,rfl,_,rfl,s2,hD⟩
  refine ⟨D,_,rfl,aZ.of hD,?_⟩
  rw [tF]
  exact k G s2
def NM:Sp:=fun vs H Q _=>∃ (kd:Str) (v:V),vs=[.str kd,v]∧Hs H kd v∧∀ H',Same H H'→Q (.bl true) H'
theorem Ta:aG ["kind", "thing"] ["kind", "thing"] (aj gw):=⟨rfl,rfl,rfl,by decide +kernel,rfl,by decide +kernel,by decide +kernel⟩
theorem w8 {f fN fS:Addr} {fd zr zp:FuncData} (F:d6 K "is_part" "is_part" gw f fd) (T:Txt K w.params mg) (GN:aM P w K mg base bw 2 fN zr ["kind", "thing"] Lb) (kN:KI K fN) (bN:Binds K zr ["kind", "thing"] []) (mN:mg "is_number_of" = some (.ref fN)) (GS:aM P w K mg base bw 3 fS zp ["thing"] NK) (kS:KI K fS) (bS:Binds K zp ["thing"] []) (mS:mg "is_targets" = some (.ref fS)):aM P w K mg base bw 4 f fd ["kind", "thing"] NM:=by
 refine F.ok Ta (fun vs H Q E h=>?_) (fun cdv A outer s H vs Q E hr h=>?_)
 ·obtain ⟨kd,v,rfl,_⟩:=h
  rfl
 ·obtain ⟨kd,v,rfl,h,k⟩:=h
  refine dA (au (dk (aP eM (pv 0) ay (aY _)) (aO (aA (aS (aN GS hr (by rfl) mS kS bS .nil aW (ae (pv 1) ak))))) (bX aU))
   (aO (aA (aS (aN GN (hr.mono (by decide)) (by rfl) mN kN bN .nil aW (ae (pv 0) (ae (pv 1) ak))))))) ?_
  refine ⟨_,rfl,rfl,_,rfl,?_⟩
  rcases h with ⟨rfl,p,ts,rfl,hp,c1,c2,hts⟩ | ⟨hk,i,rfl,hi⟩
  ·exact eP (decide_eq_true rfl) ⟨_,rfl,p,ts,rfl,hp,c1,c2,hts,k⟩
  ·refine cQ (fun z=>?_) ⟨_,rfl,_,rfl,kd,i,rfl,hk,hi,k _ (.refl _)⟩
   rw [strEq z] at hk
   exact absurd hk (by decide +kernel)
def Ld:Sp:=fun vs H Q _=>∃ (q p1:Addr) (ks:List Str) (xs:List V),vs=[.ref q,.ref p1]∧(∀ H,bp K H q (ks.map V.str))∧H p1=some (.tup xs)∧ks.length ≤ 3∧xs.length=ks.length∧(∀ (i:Nat) kd x,ks[i]? = some kd→xs[i]? = some x→Hs H kd x)∧∀ H',Same H H'→Q (.bl true) H'
theorem Tb:aG ["kinds", "things"] ["kinds", "things"] (aj dP):=⟨rfl,rfl,rfl,by decide +kernel,rfl,by decide +kernel,by decide +kernel⟩
def Le:Scope:={ kind:=.function,names:=[(".0",.local),("kind",.local),("thing",.local),("is_part",.globalImplicit)],isGenerator:=false,isCoroutine:=false,more:=[] }
theorem DH:dD (aj dP) Le ["kinds", "things"] ["kind", "thing"] [none,none]:=⟨rfl,by decide +kernel,by decide +kernel,by decide +kernel,by decide +kernel,by decide +kernel⟩
theorem tG {f fP:Addr} {fd DI:FuncData} (F:d6 K "are_parts" "are_parts" dP f fd) (T:Txt K w.params mg) (GP:aM P w K mg base bw 4 fP DI ["kind", "thing"] NM) (kP:KI K fP) (bP:Binds K DI ["kind", "thing"] []) (mP:mg "is_part" = some (.ref fP)):aM P w K mg base bw 5 f fd ["kinds", "things"] (Ld (K:=K)):=by
 refine F.ok Tb (fun vs H Q E h=>?_) (fun cdv A outer s H vs Q E hr h=>?_)
 ·obtain ⟨q,p1,ks,xs,rfl,_⟩:=h
  rfl
 ·obtain ⟨q,p1,ks,xs,rfl,hq,hp1,h3,hlen,hg,k⟩:=h
  refine dA (aO (aA (aS (gT (ft eM (aQ aL (by rfl) T.len cn (ae (pv 1) ak)) (aQ aL (by rfl) T.len cn (ae (pv 0) ak)) (aY _)) (iL (aQ (lQ rfl) (by rfl) T.all wK (ae (fF (N':=["kind", "thing"]) (fr:=[none,none]) DH rfl (J9 rfl T.zip (ae (pv 0) (ae (pv 1) ak))) (fun C s0 H0 fp=>(iY (K:=K) (i:=0) (j:=1) rfl rfl DH.nd rfl (Or.inl rfl) rfl (Or.inl rfl))) (fun C s0 H0 fp=>fz) (fun C s0 H0 fp=>(aN GP hr (by rfl) mP kP bP .nil aW (ae (pv 0) (ae (pv 1) ak))))) ak))))))) ?_
  refine ⟨_,rfl,p1,_,rfl,.inr (bp.of hp1),_,rfl,q,_,rfl,.inr (hq _),rfl,_,rfl,eP (decide_eq_true (by rw [length_map,hlen])) ?_⟩
  refine ⟨_,rfl,_,rfl,q,p1,rfl,⟨_,hq _⟩,⟨_,bp.of hp1⟩,fun D nD=>CO (K:=K) (a:=q) (b:=p1) (xs:=ks.map V.str) (zs:=xs) (by rw [length_map,hlen])
    (fun i σ ys H1=>∃ (v1 v2:Option V),σ=[v1,v2]∧ys=(replicate i true).map V.bl∧Same H H1∧H1 D=some (.lst ys)) ?_ ?_ ?_ ?_⟩
  ·exact ⟨none,none,rfl,rfl,ai nD,ah⟩
  ·rintro i σ ys H1 _ ⟨v1,v2,rfl,rfl,s1,_⟩
   exact ⟨hq _,bp.of (s1 _ _ hp1)⟩
  ·rintro i y z σ ys H1 t hy hz nt ⟨v1,v2,rfl,rfl,s1,hD⟩
   rw [List.getElem?_map] at hy
   obtain ⟨kd,hkd,rfl⟩:=map_eq_some_iff.mp hy
   have hil:=(List.getElem?_eq_some_iff.mp hkd).1
   have s3:=ai (o:=.tup [.str kd,z]) nt
   refine ⟨t,_,rfl,bp.of ah,rfl,_,_,rfl,_,_,rfl,rfl,?_⟩
   exact ⟨_,rfl,_,rfl,kd,z,rfl,(hg i kd z hkd hz).same (s1.trans s3),fun H5 s5=>⟨s5 _ _ (s3 _ _ hD),bu (by rw [length_map,List.length_replicate]; omega),_,_,rfl,ph i,bz ((s1.trans s3).trans s5) nD,ah⟩⟩
  ·rintro σ ys H1 ⟨v1,v2,rfl,rfl,s1,hD⟩
   refine ⟨D,_,rfl,aZ.of hD,?_⟩
   rw [tF]
   exact k H1 s1
theorem Txt.prt {pr:Params} (T:Txt K pr mg):∃ p,mg "PARTS" = some (.ref p)∧∀ x ∈ kinds,∃ q,dE K pr p x.1 (some (.ref q))∧∀ H,bp K H q (x.2.map V.str):=by
 obtain ⟨p,hp,hl,h0,h1,h2,h3,h4,h5,h6,h7,h8,h9,h10,h11,h12,h13,h14,h15,h16,h17,h18,h19⟩:=T.FN
 refine ⟨p,hp,fun x hx=>?_⟩
 unfold kinds at hx
 iterate 19 (rcases mem_cons.mp hx with rfl | hx; · assumption)
 rw [mem_singleton.mp hx]
 assumption
theorem NN:∀ u ∈ iZ,(u,fZ u) ∈ kinds:=by decide +kernel
theorem DJ:∀ u ∈ iZ,(fZ u).length ≤ 3∧(¬ u = "table" → ∀ k ∈ fZ u,k ∈ kdN):=by decide +kernel
theorem AJ {H:Hp} {q:Addr} {d:FR} {n:Int} (h:d9 H q d) (g:GoodR d n) (hn:n ≤ 1000):∃ items,H q=some (.tup (.str d.u :: items))∧items.length=(fZ d.u).length∧∀ (i:Nat) kd x,(fZ d.u)[i]? = some kd→items[i]? = some x→Hs H kd x:=by
 obtain ⟨⟨o1,o2,o3,o4,o5,_⟩,hA⟩:=h
 rcases hA with ⟨hu,b,p,e,h1,h2⟩ | ⟨hu,h1⟩
 ·obtain ⟨_,_,hne⟩:=o2 hu
  have hk:fZ d.u=(["box", "targets"]:List Str):=by rw [hu]; rfl
  refine ⟨_,h1,by rw [hk]; rfl,fun i kd x a1 a2=>?_⟩
  rw [hk] at a1
  match i with
  | 0 =>
   cases a1; cases a2
   refine .inr ⟨by decide +kernel,b,rfl,?_⟩
   exact g.2.2.2 ("box",b) (by rw [hk,e]; simp)
  | 1 =>
   cases a1; cases a2
   exact .inl ⟨rfl,p,d.ts,rfl,h2,hne,g.1,fun t ht=>⟨(g.2.1 t ht).1,by have:=(g.2.1 t ht).2; omega⟩⟩
  | i + 2=>simp at a1
 ·have hl:d.is.length=(fZ d.u).length:=by
   by_cases c1:d.u ∈ fX
   ·obtain ⟨t,f,e,_⟩:=o3 c1
    rw [e,kj _ c1]; rfl
   by_cases c2:d.u ∈ zb
   ·obtain ⟨b,t,f,e,_⟩:=o4 c2
    rw [e,kz _ c2]; rfl
   exact (o5 hu c1 c2).2
  refine ⟨_,h1,by rw [length_map,hl],fun i kd x a1 a2=>?_⟩
  rw [List.getElem?_map] at a2
  obtain ⟨v,hv,rfl⟩:=map_eq_some_iff.mp a2
  exact .inr ⟨(DJ _ o1).2 hu kd (List.mem_of_getElem? a1),v,rfl,g.2.2.2 (kd,v) (List.mem_of_getElem? (i:=i) (List.getElem?_zip_eq_some.mpr ⟨a1,hv⟩))⟩
def NP:Sp:=fun vs H Q _=>∃ (q:Addr) (d:FR) (n:Int),vs=[.ref q]∧d9 H q d∧GoodR d n∧n ≤ 1000∧∀ H',Same H H'→Q (.bl true) H'
theorem NQ:aG ["row", "word"] ["row"] (aj ia):=⟨rfl,rfl,rfl,by decide +kernel,rfl,by decide +kernel,by decide +kernel⟩
theorem AK {f fO fA:Addr} {fd DK NR:FuncData} (F:d6 K "is_row" "is_row" ia f fd) (T:Txt K w.params mg) (GO:aM P w K mg base bw 1 fO DK ["thing"] Ht) (kO:KI K fO) (bO:Binds K DK ["thing"] []) (mO:mg "word_of" = some (.ref fO)) (GA:aM P w K mg base bw 5 fA NR ["kinds", "things"] (Ld (K:=K))) (kA:KI K fA) (bA:Binds K NR ["kinds", "things"] []) (mA:mg "are_parts" = some (.ref fA)):aM P w K mg base bw 6 f fd ["row"] NP:=by
 refine F.ok NQ (fun vs H Q E h=>?_) (fun cdv A outer s H vs Q E hr h=>?_)
 ·obtain ⟨q,d,n,rfl,_⟩:=h
  rfl
 ·obtain ⟨q,d,n,rfl,hR,hg,hn,k⟩:=h
  obtain ⟨pp,hpp,h1⟩:=T.prt
  obtain ⟨items,hq,hl,hgp⟩:=AJ hR hg hn
  obtain ⟨qk,NS,hS⟩:=h1 _ (NN _ hR.1.1)
  refine dA (au (aA (aT (i:=1) NQ.nd rfl (Or.inl rfl) (aN GO (hr.mono (by decide)) (by rfl) mO kO bO .nil aW (ae (pv 0) ak))))
   (aO (aA (aS (gT (BQ (CK (pv 1) (dB (v:=.ref pp) (by rfl) hpp rfl)) rfl) (iL (aN GA hr (by rfl) mA kA bA .nil aW (ae (jc (dB (v:=.ref pp) (by rfl) hpp rfl) (pv 1) (fun _ _=>rfl)) (ae (dO Ca (pv 0) (dC ao) iB) ak))))))))) ?_
  refine ⟨_,rfl,q,d.u,items,rfl,hq,?_⟩
  refine ⟨_,rfl,pp,d.u,_,rfl,rfl,NS,_,rfl,eP rfl ?_⟩
  refine ⟨_,rfl,pp,d.u,_,rfl,rfl,NS,_,rfl,1,rfl,q,_,rfl,bp.of hq,?_,fun t nt=>?_⟩
  ·intro z
   have:HT.ef (V.str d.u :: items).length 0 (some 1)=0:=z.1
   simp [HT.ef] at this
  rw [IZ]
  exact ⟨qk,t,fZ d.u,items,rfl,hS,ah,(DJ _ hR.1.1).1,hl,fun i kd x a1 a2=>(hgp i kd x a1 a2).same (ai nt),fun H' s'=>k H' ((ai nt).trans s')⟩
def NT:Sp:=fun vs H Q _=>∃ (q:Addr) (u:Str) (ts:List Int) (n:Int),vs=[.ref q,.int n]∧oR H q u ts∧ts.length ≤ 16∧(∀ t ∈ ts,0 ≤ t∧t < n)∧∀ H',Same H H'→Q (.bl true) H'
theorem Tc:aG ["row", "how_many"] ["row", "how_many"] (aj cL):=⟨rfl,rfl,rfl,by decide +kernel,rfl,by decide +kernel,by decide +kernel⟩
def Lf:Scope:={ kind:=.function,names:=[(".0",.local),("target",.local),("how_many",.free)],isGenerator:=false,isCoroutine:=false,more:=[] }
theorem DL:dD (aj cL) Lf ["row", "how_many"] ["target", "how_many"] [none,some 1]:=⟨rfl,by decide +kernel,by decide +kernel,by decide +kernel,by decide +kernel,by decide +kernel⟩
theorem mJ {f fT:Addr} {fd C7:FuncData} (F:d6 K "stays_within" "stays_within" cL f fd) (T:Txt K w.params mg) (GT:aM P w K mg base bw 1 fT C7 ["row"] lU) (kT:KI K fT) (bT:Binds K C7 ["row"] []) (mT:mg "targets_of" = some (.ref fT)):aM P w K mg base bw 2 f fd ["row", "how_many"] NT:=by
 refine F.ok Tc (fun vs H Q E h=>?_) (fun cdv A outer s H vs Q E hr h=>?_)
 ·obtain ⟨q,u,ts,n,rfl,_⟩:=h
  rfl
 ·obtain ⟨q,u,ts,n,rfl,hR,h16,hts,k⟩:=h
  refine dA (aO (aA (aS (aQ (lQ rfl) (by rfl) T.all wK (ae (fF (N':=["target", "how_many"]) (fr:=[none,some 1]) DL rfl (dS (aN GT hr (by rfl) mT kT bT .nil aW (ae (pv 0) ak))) (fun C s0 H0 fp=>(cG (i:=0) DL.nd rfl (Or.inl rfl))) (fun C s0 H0 fp=>fz) (fun C s0 H0 fp=>(ft iQ (pv 0) (pv 1) (aY _)))) ak))))) ?_
  refine ⟨_,rfl,q,u,ts,rfl,hR,fun l G1 s1 nl hl=>?_⟩
  refine ⟨l,rfl,⟨_,aZ.of hl⟩,fun D nD=>eG (K:=K) (a:=l) (xs:=ts.map V.int) (fun i σ ys G=>∃ v:Option V,σ=[v,some (.int n)]∧i ≤ 16∧ys=(replicate i true).map V.bl∧Same G1 G∧G D=some (.lst ys)) ?_ ?_ ?_ ?_⟩
  ·exact ⟨none,rfl,zero_le _,rfl,ai nD,ah⟩
  ·rintro i σ ys G _ ⟨v,rfl,_,_,s2,_⟩
   exact aZ.of (s2 _ _ hl)
  ·rintro i x σ ys G hx ⟨v,rfl,_,rfl,s2,hD⟩
   rw [List.getElem?_map] at hx
   obtain ⟨t,ht,rfl⟩:=map_eq_some_iff.mp hx
   have hi:=(List.getElem?_eq_some_iff.mp ht).1
   refine ⟨_,rfl,_,rfl,_,_,rfl,rfl,hD,bu (by rw [length_map,List.length_replicate]; omega),_,rfl,by omega,?_,bz s2 nD,ah⟩
   show _ ++ [V.bl (decide (t < n))]=_
   rw [decide_eq_true (hts t (List.mem_of_getElem? ht)).2]
   exact ph i
  rintro σ ys G ⟨v,rfl,_,rfl,s2,hD⟩
  refine ⟨D,_,rfl,aZ.of hD,?_⟩
  rw [tF]
  exact k G (s1.trans s2)
end
def I0 (d:FR) (r s:Int):Prop:=s ∈ d.ts∨(¬ d.u ∈ cy∧s=r + 1)
def EX (ds:List FR) (p:List Da):Prop:=∃ (r:Nat) (d:FR),ds[r]? = some d∧(p=du r∨(p=fq r∧∃ s,I0 d r s)∨∃ s,p=cj r s∧I0 d r s)
def Td (x:Wi):Prop:=(x.u = "look" ∨ x.u = "count" ∨ x.u = "guard")∧vJ "number" x.n∧vJ "box" x.b
def L1 (u:Str):List Str:=if u = "count" then ["number"] else ["number", "box"]
theorem d9.at_ {H:Hp} {q:Addr} {d:FR} (h:d9 H q d):oR H q d.u d.ts:=by
 obtain ⟨items,h1,_,h2,_⟩:=h.parts
 exact ⟨items,h1,h2⟩
theorem tH {xs:List V} {v:V} {n:Nat} (hl:xs.length=n + 1) (h:xs[n]? = some v):oq xs (-1)=some v:=by
 unfold oq BI
 rw [if_neg (by decide),if_pos (by omega)]
 show xs[((-1:Int) + (xs.length:Int)).toNat]? = _
 rw [show ((-1:Int) + (xs.length:Int)).toNat=n by omega]
 exact h
section
variable {P:Program} {w:World} {K:Frag} {mg:Str→Option Value} {base:Heap}
def ik (ds:List FR):Prop:=0 < ds.length∧ds.length ≤ 1000∧(∀ d ∈ ds,GoodR d (ds.length:Nat))∧∃ d,ds[ds.length - 1]? = some d∧d.u ∈ cy
def NU:Sp:=fun vs H Q _=>∃ (lr:Addr) (ds:List FR),vs=[.ref lr]∧eU H lr ds∧ik ds∧∀ H',Same H H'→Q .non H'
theorem NV:aG ["rows", "at", "row"] ["rows"] (aj dY):=⟨rfl,rfl,rfl,by decide +kernel,rfl,by decide +kernel,by decide +kernel⟩
theorem qD {f fR fS fG:Addr} {fd Ja zp NI:FuncData} (F:d6 K "check_rows" "check_rows" dY f fd) (T:Txt K w.params mg) (GR:aM P w K mg base bw 6 fR Ja ["row"] NP) (kR:KI K fR) (bR:Binds K Ja ["row"] []) (mR:mg "is_row" = some (.ref fR)) (GS:aM P w K mg base bw 2 fS zp ["row", "how_many"] NT) (kS:KI K fS) (bS:Binds K zp ["row", "how_many"] []) (mS:mg "stays_within" = some (.ref fS)) (GG:aM P w K mg base bw 1 fG NI ["row"] wW) (kG:KI K fG) (bG:Binds K NI ["row"] []) (mG:mg "goes_on" = some (.ref fG)):aM P w K mg base bw 7 f fd ["rows"] NU:=by
 refine F.ok NV (fun vs H Q E h=>?_) (fun cdv A outer s H vs Q E hr h=>?_)
 ·obtain ⟨lr,ds,rfl,_⟩:=h
  rfl
 ·obtain ⟨lr,ds,rfl,hR,hG,k⟩:=h
  obtain ⟨tm,hmr⟩:=T.vg
  obtain ⟨hl0,hl1,hgd,dl,hdl,hno⟩:=hG
  obtain ⟨qs,h0,hql,hqr⟩:=id hR
  have hxl:(qs.map V.ref).length=ds.length:=by rw [length_map,hql]
  refine dA (au (dk (nZ (iy (gE (aQ dy (by rfl) T.Iz iW (ae (pv 0) (ae (gN (v:=.ty "list") (by rfl) T.list jt rfl) ak))))) (jQ (aP eM (aQ aL (by rfl) T.len cn (ae (pv 0) ak)) ao (aY _)))).pt (aO (aA iN)) (bX aU))
   (au (aA (gU PassesOwn.never rfl (sj rfl T.enum (ae (dO gh (pv 0) iB (dC (dB (v:=.int 4000) (by rfl) hmr ⟨_,rfl⟩))) ak)) (iY (K:=K) (i:=1) (j:=2) rfl rfl NV.nd rfl (Or.inl rfl) rfl (Or.inl rfl)) (az (dv (nZ (iy (gE (aN GR hr (by rfl) mR kR bR .nil aW (ae (pv 2) ak)))) (jQ (iy (gE (aN GS (hr.mono (by decide)) (by rfl) mS kS bS .nil aW (ae (pv 2) (ae (aQ aL (by rfl) T.len cn (ae (pv 0) ak)) ak))))))).pt lu aU))))
   (au (dk (aP qM (aQ aL (by rfl) T.len cn (ae (pv 0) ak)) (dB (v:=.int 4000) (by rfl) hmr ⟨_,rfl⟩) (aY _)) (aO (aA iN)) (bX aU))
   (aO (dk (gE (aN GG (hr.mono (by decide)) (by rfl) mG kG bG .nil aW (ae (aB aV (pv 0) (yp rQ ao) (fun _ _=>rfl)) ak))) (aO (aA iN)) (bX aU)))))) ?_
  refine ⟨_,rfl,_,_,_,_,rfl,.lst h0,mj,_,rfl,cQ (by decide) ?_⟩
  refine ⟨_,rfl,lr,_,rfl,.inl (aZ.of h0),rfl,_,rfl,cQ (fun z=>?_) ?_⟩
  ·have:=V.int.inj (of_decide_eq_true z)
   omega
  refine ⟨_,rfl,_,rfl,lr,_,rfl,aZ.of h0,fun lc NW=>?_⟩
  rw [show eJ (qs.map V.ref) none (some 4000)=(qs.map V.ref).take 4000 from oV _ 4000,take_of_length_le (by omega)]
  have s1:=ai (o:=.lst (qs.map V.ref)) NW
  have BK:upd H lc (.lst (qs.map V.ref)) lc=_:=ah
  generalize upd H lc (.lst (qs.map V.ref))=G1 at s1 BK ⊢
  refine ⟨lc,rfl,⟨_,aZ.of BK⟩,u6 (K:=K) (xs:=qs.map V.ref) (fun i σ G=>∃ v2 v3:Option V,σ=[some (.ref lr),v2,v3]∧Same G1 G) ?_ ?_ ?_ ?_⟩
  ·exact ⟨none,none,rfl,.refl _⟩
  ·rintro i σ G _ ⟨v2,v3,rfl,s2⟩
   exact aZ.of (s2 _ _ BK)
  ·rintro i x σ G tt hx NX ⟨v2,v3,rfl,s2⟩
   rw [List.getElem?_map] at hx
   obtain ⟨q,hq,rfl⟩:=map_eq_some_iff.mp hx
   have hil:i < ds.length:=by have:=(List.getElem?_eq_some_iff.mp hq).1; omega
   have hd:ds[i]? = some ds[i]:=List.getElem?_eq_getElem hil
   have hg:=hgd _ (List.getElem_mem hil)
   generalize ds[i]=d at hd hg
   have s3:=s2.trans (ai (o:=.tup [V.int i,.ref q]) NX)
   have htt:upd G tt (.tup [V.int i,.ref q]) tt=_:=ah
   generalize upd G tt (.tup [V.int i,.ref q])=G3 at s3 htt ⊢
   have DM:=s1.trans s3
   refine ⟨tt,_,rfl,bp.of htt,rfl,_,_,rfl,_,_,rfl,rfl,?_⟩
   have hF:=(hqr i q d hq hd).same DM
   refine ⟨_,rfl,q,d,_,rfl,hF,hg,by omega,fun G4 s4=>⟨_,rfl,cQ (by decide) ?_⟩⟩
   refine ⟨_,rfl,_,rfl,lr,_,rfl,.inl (aZ.of (s4 _ _ (DM _ _ h0))),q,d.u,d.ts,(ds.length:Nat),by rw [hxl]; rfl,(hF.same s4).at_,hg.1,hg.2.1,fun G5 s5=>⟨_,rfl,cQ (by decide) ?_⟩⟩
   exact ⟨_,_,rfl,(s3.trans s4).trans s5⟩
  ·rintro σ G ⟨v2,v3,rfl,s2⟩
   have s3:=s1.trans s2
   have h3:=s3 _ _ h0
   refine ⟨_,rfl,lr,_,rfl,.inl (aZ.of h3),_,_,rfl,rfl,_,rfl,cQ (fun z=>by have:=of_decide_eq_true z; omega) ?_⟩
   have Hu:qs[ds.length - 1]? = some (qs[ds.length - 1]'(by omega)):=List.getElem?_eq_getElem _
   generalize (qs[ds.length - 1]'(by omega))=q at Hu
   obtain ⟨items,hq,_⟩:=((hqr _ q dl Hu hdl).same s3).parts
   have hat:oq (qs.map V.ref) (-1)=some (.ref q):=tH (n:=ds.length - 1) (by omega) (by rw [List.getElem?_map,Hu]; rfl)
   refine ⟨_,rfl,_,rfl,lr,_,_,.ref q,rfl,rfl,aZ.of h3,hat,q,dl.u,items,rfl,hq,_,rfl,?_⟩
   rw [decide_eq_true hno]
   exact cQ (by decide) (k _ s3)
def NY:Sp:=fun vs H Q _=>∃ (lr p:Addr) (ds:List FR) (pl:List Da),vs=[.ref lr,.ref p]∧eU H lr ds∧ik ds∧H p=some (.tup (pl.map tu))∧EX ds pl∧∀ H',Same H H'→Q (.bl true) H'
theorem Hv:aG ["rows", "place", "word", "r", "ways"] ["rows", "place"] (aj fh):=⟨rfl,rfl,rfl,by decide +kernel,rfl,by decide +kernel,by decide +kernel⟩
theorem vq {f fO fH fW:Addr} {fd DK fdH rH:FuncData} (F:d6 K "is_place" "is_place" fh f fd) (T:Txt K w.params mg) (GO:aM P w K mg base bw 1 fO DK ["thing"] Ht) (kO:KI K fO) (bO:Binds K DK ["thing"] []) (mO:mg "word_of" = some (.ref fO)) (GH:aM P w K mg base bw 1 fH fdH ["thing"] La) (kH:KI K fH) (bH:Binds K fdH ["thing"] []) (mH:mg "is_whole" = some (.ref fH)) (GW:aM P w K mg base bw 2 fW rH ["rows", "r"] (wY (K:=K))) (kW:KI K fW) (bW:Binds K rH ["rows", "r"] []) (mW:mg "ways_of" = some (.ref fW)):aM P w K mg base bw 3 f fd ["rows", "place"] NY:=by
 refine F.ok Hv (fun vs H Q E h=>?_) (fun cdv A outer s H vs Q E hr h=>?_)
 ·obtain ⟨lr,p,ds,pl,rfl,_⟩:=h
  rfl
 ·obtain ⟨lr,p,ds,pl,rfl,hR,hG,hp,hpl,k⟩:=h
  have Te:=hr.mono (show 1 ≤ _ by decide)
  obtain ⟨pp,hpp,_,h1,h2,h3⟩:=T.C5
  obtain ⟨qs,g1,g2,g3⟩:=id hR
  obtain ⟨r,d,hd,hpl⟩:=hpl
  have hrl:=(List.getElem?_eq_some_iff.mp hd).1
  have hgd:=hG.2.2.1 d (List.mem_of_getElem? hd)
  obtain ⟨qs',q,y1,y2,y3,y4⟩:=hR.get hd
  refine dA (au (aA (aT (i:=2) Hv.nd rfl (Or.inl rfl) (aN GO Te (by rfl) mO kO bO .nil aW (ae (pv 1) ak))))
   (au (dk (nZ (BU (Aq (pv 2) (dB (v:=.ref pp) (by rfl) hpp rfl)) rfl) (jQ (aP uJ (aQ aL (by rfl) T.len cn (ae (pv 1) ak)) (jc (dB (v:=.ref pp) (by rfl) hpp rfl) (pv 2) (fun _ _=>rfl)) (aY _)))).pt (aO (aA (aS jG))) (bX aU))
   (au (aA (aT (i:=3) Hv.nd rfl (Or.inl rfl) (aB aI (pv 1) ao (fun _ _=>rfl))))
   (au (dk (nZ (iy (gE (aN GH Te (by rfl) mH kH bH .nil aW (ae (pv 3) ak)))) (jQ (iy (om qL iQ ao (pv 3) (aQ aL (by rfl) T.len cn (ae (pv 0) ak)))))).pt (aO (aA (aS jG))) (bX aU))
   (au (dk (aP eM (pv 2) ay (aY _)) (aO (aA (aS jG))) (bX aU))
   (au (aA (aT (i:=4) Hv.nd rfl (Or.inl rfl) (aN GW hr (by rfl) mW kW bW .nil aW (ae (pv 0) (ae (pv 3) ak)))))
   (au (dk (aP eM (pv 2) ay (aY _)) (aO (aA (aS (ft qM (aQ aL (by rfl) T.len cn (ae (pv 4) ak)) ao (aY _))))) (bX aU))
   (aO (aA (aS (gT (aN GH Te (by rfl) mH kH bH .nil aW (ae (aB aI (pv 1) ao (fun _ _=>rfl)) ak)) (iL (ft dH (aB aI (pv 1) ao (fun _ _=>rfl)) (pv 4) rfl))))))))))))) ?_
  rcases hpl with rfl | ⟨rfl,sw,hsw⟩ | ⟨sw,rfl,hsw⟩
  ·skip
   have hp':H p=some (.tup [.str "before",.int (r:Int)]):=hp
   refine ⟨_,rfl,p, "before",_,rfl,hp',?_⟩
   refine ⟨_,rfl,pp, "before",_,rfl,rfl,h1,_,rfl,cQ Bool.false_ne_true ?_⟩
   refine ⟨_,rfl,p,_,rfl,.inr (bp.of hp'),_,rfl,pp, "before",_,rfl,rfl,h1,rfl,_,rfl,cQ (by show ¬ ((!decide (V.int 2=V.int 2))=true); decide) ?_⟩
   refine ⟨_,rfl,p,_,1,_,rfl,rfl,bp.of hp',at1 _ _ _,?_⟩
   refine ⟨_,rfl,_,rfl,_,rfl,cQ Bool.false_ne_true ?_⟩
   refine ⟨_,rfl,_,_,rfl,rfl,_,rfl,eP (decide_eq_true (by omega)) ?_⟩
   refine ⟨_,rfl,lr,_,rfl,.inl (aZ.of g1),_,_,rfl,rfl,_,rfl,cQ (by rw [decide_eq_true (by rw [length_map,g2]; omega)]; decide) ?_⟩
   exact ⟨_,rfl,rfl,_,rfl,eP (decide_eq_true rfl) (k _ (.refl _))⟩
  ·skip
   have hp':H p=some (.tup [.str "after",.int (r:Int)]):=hp
   refine ⟨_,rfl,p, "after",_,rfl,hp',?_⟩
   refine ⟨_,rfl,pp, "after",_,rfl,rfl,h2,_,rfl,cQ Bool.false_ne_true ?_⟩
   refine ⟨_,rfl,p,_,rfl,.inr (bp.of hp'),_,rfl,pp, "after",_,rfl,rfl,h2,rfl,_,rfl,cQ (by show ¬ ((!decide (V.int 2=V.int 2))=true); decide) ?_⟩
   refine ⟨_,rfl,p,_,1,_,rfl,rfl,bp.of hp',at1 _ _ _,?_⟩
   refine ⟨_,rfl,_,rfl,_,rfl,cQ Bool.false_ne_true ?_⟩
   refine ⟨_,rfl,_,_,rfl,rfl,_,rfl,eP (decide_eq_true (by omega)) ?_⟩
   refine ⟨_,rfl,lr,_,rfl,.inl (aZ.of g1),_,_,rfl,rfl,_,rfl,cQ (by rw [decide_eq_true (by rw [length_map,g2]; omega)]; decide) ?_⟩
   refine ⟨_,rfl,rfl,_,rfl,cQ (by decide) ?_⟩
   refine ⟨_,rfl,_,rfl,lr,q,_,r,d.u,d.ts,rfl,aZ.of y1,y3,y4.at_,hgd.1,fun l ms H1 s1 nl hl' Fu hnd hmem=>?_⟩
   refine ⟨_,rfl,rfl,_,rfl,eP (decide_eq_true rfl) ?_⟩
   refine ⟨_,rfl,l,_,rfl,.inl (aZ.of hl'),_,_,rfl,rfl,?_⟩
   have hm:sw ∈ ms:=(hmem sw).mpr hsw
   have:=List.length_pos_of_mem hm
   show Q (.bl (decide ((0:Int) < ((ms.map V.int).length:Nat)))) H1
   rw [decide_eq_true (show (0:Int) < ((ms.map V.int).length:Nat) by rw [length_map]; omega)]
   exact k _ s1
  ·skip
   have hp':H p=some (.tup [.str "way",.int (r:Int),.int sw]):=hp
   refine ⟨_,rfl,p, "way",_,rfl,hp',?_⟩
   refine ⟨_,rfl,pp, "way",_,rfl,rfl,h3,_,rfl,cQ Bool.false_ne_true ?_⟩
   refine ⟨_,rfl,p,_,rfl,.inr (bp.of hp'),_,rfl,pp, "way",_,rfl,rfl,h3,rfl,_,rfl,cQ (by show ¬ ((!decide (V.int 3=V.int 3))=true); decide) ?_⟩
   refine ⟨_,rfl,p,_,1,_,rfl,rfl,bp.of hp',at1 _ _ _,?_⟩
   refine ⟨_,rfl,_,rfl,_,rfl,cQ Bool.false_ne_true ?_⟩
   refine ⟨_,rfl,_,_,rfl,rfl,_,rfl,eP (decide_eq_true (by omega)) ?_⟩
   refine ⟨_,rfl,lr,_,rfl,.inl (aZ.of g1),_,_,rfl,rfl,_,rfl,cQ (by rw [decide_eq_true (by rw [length_map,g2]; omega)]; decide) ?_⟩
   refine ⟨_,rfl,rfl,_,rfl,cQ (by decide) ?_⟩
   refine ⟨_,rfl,_,rfl,lr,q,_,r,d.u,d.ts,rfl,aZ.of y1,y3,y4.at_,hgd.1,fun l ms H1 s1 nl hl' Fu hnd hmem=>?_⟩
   refine ⟨_,rfl,rfl,_,rfl,cQ (by decide) ?_⟩
   have hp1:=s1 _ _ hp'
   refine ⟨_,rfl,p,_,2,_,rfl,rfl,bp.of hp1,at2 _ _ _ _,sw,rfl,_,rfl,eP rfl ?_⟩
   refine ⟨_,rfl,p,_,2,.int sw,rfl,rfl,bp.of hp1,at2 _ _ _ _,_,rfl,l,_,rfl,.inl (aZ.of hl'),rfl,rh _,?_⟩
   show Q (.bl (inV (.int sw) (ms.map V.int))) H1
   rw [sC,decide_eq_true ((hmem sw).mpr hsw)]
   exact k _ s1
theorem Txt.whs {pr:Params} (T:Txt K pr mg):∃ p,mg "WHATS" = some (.ref p)∧∀ u:Str,(u = "look" ∨ u = "count" ∨ u = "guard")→∃ q,dE K pr p u (some (.ref q))∧∀ H,bp K H q ((L1 u).map V.str):=by
 obtain ⟨p,hp,hl,h0,h1,h2⟩:=T.FO
 refine ⟨p,hp,fun u hu=>?_⟩
 rcases hu with rfl | rfl | rfl
 ·exact h0
 ·exact h1
 ·exact h2
theorem vt {H:Hp} {x:Wi} (g:Td x):∃ items,x.vs=.str x.u :: items∧(L1 x.u).length ≤ 3∧items.length=(L1 x.u).length∧∀ (i:Nat) kd v,(L1 x.u)[i]? = some kd→items[i]? = some v→Hs H kd v:=by
 have h0:Hs H "number" (.int x.n):=.inr ⟨by decide +kernel,_,rfl,g.2.1⟩
 have h1:Hs H "box" (.int x.b):=.inr ⟨by decide +kernel,_,rfl,g.2.2⟩
 unfold Wi.vs L1
 split
 ·refine ⟨_,rfl,by decide,rfl,fun i kd v a b=>?_⟩
  match i with
  | 0=>cases a; cases b; exact h0
  | i + 1=>simp at a
 ·refine ⟨_,rfl,by decide,rfl,fun i kd v a b=>?_⟩
  match i with
  | 0=>cases a; cases b; exact h0
  | 1=>cases a; cases b; exact h1
  | i + 2=>simp at a
def NZ:Sp:=fun vs H Q _=>∃ (h:Addr) (x:Wi),vs=[.ref h]∧H h=some (.tup x.vs)∧Td x∧∀ H',Same H H'→Q (.bl true) H'
theorem N0:aG ["what", "word"] ["what"] (aj gB):=⟨rfl,rfl,rfl,by decide +kernel,rfl,by decide +kernel,by decide +kernel⟩
theorem xc {f fO fA:Addr} {fd DK NR:FuncData} (F:d6 K "is_what" "is_what" gB f fd) (T:Txt K w.params mg) (GO:aM P w K mg base bw 1 fO DK ["thing"] Ht) (kO:KI K fO) (bO:Binds K DK ["thing"] []) (mO:mg "word_of" = some (.ref fO)) (GA:aM P w K mg base bw 5 fA NR ["kinds", "things"] (Ld (K:=K))) (kA:KI K fA) (bA:Binds K NR ["kinds", "things"] []) (mA:mg "are_parts" = some (.ref fA)):aM P w K mg base bw 6 f fd ["what"] NZ:=by
 refine F.ok N0 (fun vs H Q E h=>?_) (fun cdv A outer s H vs Q E hr h=>?_)
 ·obtain ⟨h,x,rfl,_⟩:=h
  rfl
 ·obtain ⟨h,x,rfl,hh,hx,k⟩:=h
  obtain ⟨pw,Fu,h1⟩:=T.whs
  obtain ⟨qk,NS,hS⟩:=h1 _ hx.1
  obtain ⟨items,e,h3,hl,_⟩:=vt (H:=H) hx
  rw [e] at hh
  refine dA (au (aA (aT (i:=1) N0.nd rfl (Or.inl rfl) (aN GO (hr.mono (by decide)) (by rfl) mO kO bO .nil aW (ae (pv 0) ak))))
   (aO (aA (aS (gT (BQ (CK (pv 1) (dB (v:=.ref pw) (by rfl) Fu rfl)) rfl) (iL (aN GA hr (by rfl) mA kA bA .nil aW (ae (jc (dB (v:=.ref pw) (by rfl) Fu rfl) (pv 1) (fun _ _=>rfl)) (ae (dO Ca (pv 0) (dC ao) iB) ak))))))))) ?_
  refine ⟨_,rfl,h,x.u,items,rfl,hh,?_⟩
  refine ⟨_,rfl,pw,x.u,_,rfl,rfl,NS,_,rfl,eP rfl ?_⟩
  refine ⟨_,rfl,pw,x.u,_,rfl,rfl,NS,_,rfl,1,rfl,h,_,rfl,bp.of hh,?_,fun t nt=>?_⟩
  ·intro z
   have:HT.ef (V.str x.u :: items).length 0 (some 1)=0:=z.1
   simp [HT.ef] at this
  rw [IZ]
  refine ⟨qk,t,L1 x.u,items,rfl,hS,ah,h3,hl,?_,fun H' s'=>k H' ((ai nt).trans s')⟩
  obtain ⟨items',e',_,_,hp⟩:=vt (H:=upd H t (.tup items)) hx
  rw [e] at e'
  cases e'
  exact hp
def L3 (ds:List FR) (x:Wi):Prop:=EX ds x.p∧Td x
def N2:Sp:=fun vs H Q _=>∃ (lr q:Addr) (ds:List FR) (x:Wi),vs=[.ref lr,.ref q]∧eU H lr ds∧ik ds∧tE H q x∧L3 ds x∧∀ H',Same H H'→Q (.bl true) H'
theorem Tf:aG ["rows", "wish"] ["rows", "wish"] (aj gC):=⟨rfl,rfl,rfl,by decide +kernel,rfl,by decide +kernel,by decide +kernel⟩
theorem xg {f fL fW:Addr} {fd N3 rH:FuncData} (F:d6 K "is_wish" "is_wish" gC f fd) (T:Txt K w.params mg) (GL:aM P w K mg base bw 3 fL N3 ["rows", "place"] NY) (kL:KI K fL) (bL:Binds K N3 ["rows", "place"] []) (mL:mg "is_place" = some (.ref fL)) (GW:aM P w K mg base bw 6 fW rH ["what"] NZ) (kW:KI K fW) (bW:Binds K rH ["what"] []) (mW:mg "is_what" = some (.ref fW)):aM P w K mg base bw 7 f fd ["rows", "wish"] N2:=by
 refine F.ok Tf (fun vs H Q E h=>?_) (fun cdv A outer s H vs Q E hr h=>?_)
 ·obtain ⟨lr,q,ds,x,rfl,_⟩:=h
  rfl
 ·obtain ⟨lr,q,ds,x,rfl,hR,hG,hW,hx,k⟩:=h
  obtain ⟨p,h,hq,hp,fl,hh⟩:=hW
  refine dA (aO (aA (aS (gT (aQ dy (by rfl) T.Iz iW (ae (pv 1) (ae (gN (v:=.ty "tuple") (by rfl) T.tuple ky rfl) ak))) (gT (ft eM (aQ aL (by rfl) T.len cn (ae (pv 1) ak)) ao (aY _)) (gT (aN GL (hr.mono (by decide)) (by rfl) mL kL bL .nil aW (ae (pv 0) (ae (aB aI (pv 1) ao (fun _ _=>rfl)) ak))) (iL (aN GW hr (by rfl) mW kW bW .nil aW (ae (aB aI (pv 1) ao (fun _ _=>rfl)) ak))))))))) ?_
  refine ⟨_,rfl,_,_,_,_,rfl,.tup hq,gW,_,rfl,eP rfl ?_⟩
  refine ⟨_,rfl,q,_,rfl,.inr (bp.of hq),rfl,_,rfl,eP (decide_eq_true rfl) ?_⟩
  refine ⟨_,rfl,_,rfl,q,_,0,_,rfl,rfl,bp.of hq,at0 _ _,lr,p,ds,x.p,rfl,hR,hG,hp,hx.1,fun H1 s1=>⟨_,rfl,eP rfl ?_⟩⟩
  exact ⟨_,rfl,q,_,1,_,rfl,rfl,bp.of (s1 _ _ hq),at1 _ _ _,h,x,rfl,s1 _ _ hh,hx.2,fun H2 s2=>k H2 (s1.trans s2)⟩
def N4:Sp:=fun vs H Q _=>∃ (lr lw:Addr) (ds:List FR) (xs:List Wi),vs=[.ref lr,.ref lw]∧eU H lr ds∧ik ds∧i5 H lw xs∧xs.length ≤ 12∧(∀ x ∈ xs,L3 ds x)∧∀ H',Same H H'→Q .non H'
theorem N5:aG ["rows", "wishes", "at", "wish"] ["rows", "wishes"] (aj dn):=⟨rfl,rfl,rfl,by decide +kernel,rfl,by decide +kernel,by decide +kernel⟩
theorem mQ {f fW:Addr} {fd rH:FuncData} (F:d6 K "check_wishes" "check_wishes" dn f fd) (T:Txt K w.params mg) (GW:aM P w K mg base bw 7 fW rH ["rows", "wish"] N2) (kW:KI K fW) (bW:Binds K rH ["rows", "wish"] []) (mW:mg "is_wish" = some (.ref fW)):aM P w K mg base bw 8 f fd ["rows", "wishes"] N4:=by
 refine F.ok N5 (fun vs H Q E h=>?_) (fun cdv A outer s H vs Q E hr h=>?_)
 ·obtain ⟨lr,lw,ds,xs,rfl,_⟩:=h
  rfl
 ·obtain ⟨lr,lw,ds,xs,rfl,hR,hG,hW,h12,hx,k⟩:=h
  obtain ⟨tm,hm⟩:=T.qy
  obtain ⟨qs,h0,hql,N6⟩:=hW
  have hxl:(qs.map V.ref).length=xs.length:=by rw [length_map,hql]
  refine dA (au (dk (iy (gE (aQ dy (by rfl) T.Iz iW (ae (pv 1) (ae (gN (v:=.ty "list") (by rfl) T.list jt rfl) ak))))) (aO (aA iN)) (bX aU))
   (au (aA (gU PassesOwn.never rfl (sj rfl T.enum (ae (dO gh (pv 1) iB (dC (dB (v:=.int 12) (by rfl) hm ⟨_,rfl⟩))) ak)) (iY (K:=K) (i:=2) (j:=3) rfl rfl N5.nd rfl (Or.inl rfl) rfl (Or.inl rfl)) (az (dv (iy (gE (aN GW hr (by rfl) mW kW bW .nil aW (ae (pv 0) (ae (pv 3) ak))))) lu aU))))
   (aO (dk (aP qM (aQ aL (by rfl) T.len cn (ae (pv 1) ak)) (dB (v:=.int 12) (by rfl) hm ⟨_,rfl⟩) (aY _)) (aO (aA iN)) (bX aU))))) ?_
  refine ⟨_,rfl,_,_,_,_,rfl,.lst h0,mj,_,rfl,cQ (by decide) ?_⟩
  refine ⟨_,rfl,_,rfl,lw,_,rfl,aZ.of h0,fun lc NW=>?_⟩
  rw [show eJ (qs.map V.ref) none (some 12)=(qs.map V.ref).take 12 from oV _ 12,take_of_length_le (by omega)]
  have s1:=ai (o:=.lst (qs.map V.ref)) NW
  have BK:upd H lc (.lst (qs.map V.ref)) lc=_:=ah
  generalize upd H lc (.lst (qs.map V.ref))=G1 at s1 BK ⊢
  refine ⟨lc,rfl,⟨_,aZ.of BK⟩,u6 (K:=K) (xs:=qs.map V.ref) (fun i σ G=>∃ v2 v3:Option V,σ=[some (.ref lr),some (.ref lw),v2,v3]∧Same G1 G) ?_ ?_ ?_ ?_⟩
  ·exact ⟨none,none,rfl,.refl _⟩
  ·rintro i σ G _ ⟨v2,v3,rfl,s2⟩
   exact aZ.of (s2 _ _ BK)
  ·rintro i x σ G tt hx' NX ⟨v2,v3,rfl,s2⟩
   rw [List.getElem?_map] at hx'
   obtain ⟨q,hq,rfl⟩:=map_eq_some_iff.mp hx'
   have hil:i < xs.length:=by have:=(List.getElem?_eq_some_iff.mp hq).1; omega
   have hd:xs[i]? = some xs[i]:=List.getElem?_eq_getElem hil
   have hg:=hx _ (List.getElem_mem hil)
   generalize xs[i]=d at hd hg
   have s3:=s2.trans (ai (o:=.tup [V.int i,.ref q]) NX)
   have htt:upd G tt (.tup [V.int i,.ref q]) tt=_:=ah
   generalize upd G tt (.tup [V.int i,.ref q])=G3 at s3 htt ⊢
   have DM:=s1.trans s3
   refine ⟨tt,_,rfl,bp.of htt,rfl,_,_,rfl,_,_,rfl,rfl,?_⟩
   exact ⟨_,rfl,_,rfl,lr,q,ds,d,rfl,hR.same DM,hG,(N6 i q d hq hd).tups (.of DM),hg,fun G4 s4=>⟨_,rfl,cQ (by decide) ⟨_,_,rfl,s3.trans s4⟩⟩⟩
  ·rintro σ G ⟨v2,v3,rfl,s2⟩
   have s3:=s1.trans s2
   exact ⟨_,rfl,lw,_,rfl,.inl (aZ.of (s3 _ _ h0)),_,_,rfl,rfl,_,rfl,cQ (fun z=>by have:=of_decide_eq_true z; omega) (k _ s3)⟩
end
structure CR (d:List (Key × V)) (ks:List Int) (f:Int→Int):Prop where
 isI:∃ kvs:List (Int × Int),d=iD kvs∧(kvs.map (·.1)).Nodup
 val:∀ j:Int,cH d (Sum.inl j:Key)=if j ∈ ks then some (.int (f j)) else none
theorem CR.nil {f:Int→Int}:CR [] [] f:=⟨⟨[],rfl,nodup_nil⟩,fun _=>rfl⟩
theorem CR.put {d:List (Key × V)} {ks ks':List Int} {f:Int→Int} (r:CR d ks f) (j v:Int) (h:∀ i,i ∈ ks'↔i=j∨i ∈ ks):CR (putK d (Sum.inl j) (.int v)) ks' (iU f j v):=by
 obtain ⟨⟨kvs,rfl,hn⟩,hv⟩:=r
 obtain ⟨kvs',e,hn',_⟩:=CV (j:=j) (v:=v) hn
 refine ⟨⟨kvs',e,hn'⟩,fun i=>?_⟩
 rw [ou]
 unfold iU
 by_cases c:i=j
 ·rw [if_pos (by rw [c]),if_pos ((h i).mpr (.inl c)),if_pos c]
 ·rw [if_neg (fun z=>c (Sum.inl.inj z)),if_neg c,hv i]
  by_cases c2:i ∈ ks
  ·rw [if_pos c2,if_pos ((h i).mpr (.inr c2))]
  ·rw [if_neg c2,if_neg (fun z=>((h i).mp z).elim c c2)]
def kQ:List Str:=["seen", "counts", "rows", "ending"]
theorem ip:kQ.Nodup:=by decide +kernel
structure TA where
 (s c r:Addr)
abbrev td (m:TA) (w:V):List (Key × V):=gL kQ [.ref m.s,.ref m.c,.ref m.r,w]
section
variable {m:TA} {w v:V}
theorem xh:cH (td m w) (Sum.inr "seen" : Key)=some (.ref m.s):=jw kQ _ 0 _ ip rfl
theorem zt:cH (td m w) (Sum.inr "counts" : Key)=some (.ref m.c):=jw kQ _ 1 _ ip rfl
theorem pj:cH (td m w) (Sum.inr "rows" : Key)=some (.ref m.r):=jw kQ _ 2 _ ip rfl
theorem zu:cH (td m w) (Sum.inr "ending" : Key)=some (w):=jw kQ _ 3 _ ip rfl
theorem DN:putK (td m w) (Sum.inr "ending" : Key) v=td m v:=DA v kQ _ 3 _ ip rfl (by show 3 < 4; decide) rfl
theorem Jb:(td m w).length < sizeLine:=Nat.lt_of_lt_of_le (show 4 < 1001 by decide) (by decide)
end
structure Tl where
 (sn:List (Int × Int)) (ks:List Int) (cf:Int→Int) (rows:List Int) (en:Option (List V))
def eY (m:TA) (a c:Addr):Prop:=c=a∨c=m.s∨c=m.c∨c=m.r
structure TS (H:Hp) (a:Addr) (m:TA) (B:Nat) (t:Tl):Prop where
 st:∃ w,H a=some (.dK (td m w))∧iI H w t.en
 seen:∃ ps,H m.s=some (.lst (ps.map V.ref))∧gH H ps t.sn
 cnt:∃ d,H m.c=some (.dK d)∧CR d t.ks t.cf∧d.length ≤ 100
 rws:H m.r=some (.lst (t.rows.map V.int))
 Jc:m.s ≠ m.r
 Jd:a ≠ m.c
 lens:t.sn.length ≤ B∧t.rows.length ≤ B
 big:B ≤ 2000
section
variable {H H':Hp} {a:Addr} {m:TA} {B:Nat} {t:Tl}
theorem TS.keeps {R:Addr→Prop} (M:TS H a m B t) (k:Keeps R H H') (d:∀ c,eY m a c→¬ R c):TS H' a m B t:=by
 obtain ⟨w,o1,o2⟩:=M.st
 obtain ⟨ps,s1,s2⟩:=M.seen
 obtain ⟨d1,c1,c2⟩:=M.cnt
 have e:∀ {c o},eY m a c→H c=some o→H' c=some o:=fun {c o} h g=>k c o g (.inl (d c h))
 exact ⟨⟨w,e (.inl rfl) o1,o2.tups k.tups⟩,⟨ps,e (.inr (.inl rfl)) s1,s2.tups k.tups⟩,⟨d1,e (.inr (.inr (.inl rfl))) c1,c2⟩,e (.inr (.inr (.inr rfl))) M.rws,M.Jc,M.Jd,M.lens,M.big⟩
theorem TS.same (M:TS H a m B t) (s:Same H H'):TS H' a m B t:=M.keeps (R:=fun _=>False) (.same s) (fun _ _ h=>h)
theorem TS.more (M:TS H a m B t) {B':Nat} (h:B ≤ B') (hb:B' ≤ 2000):TS H a m B' t:=⟨M.st,M.seen,M.cnt,M.rws,M.Jc,M.Jd,⟨le_trans M.lens.1 h,le_trans M.lens.2 h⟩,hb⟩
theorem TS.a_ (M:TS H a m B t) {p:Addr} {xs:List V} (h:H p=some (.lst xs)):a ≠ p:=by
 obtain ⟨w,o1,_⟩:=M.st
 exact cm o1 h (by intro z; cases z)
theorem TS.put (M:TS H a m B t) {w':V} {en':Option (List V)} (hw:iI H w' en'):TS (upd H a (.dK (td m w'))) a m B { t with en:=en' }:=by
 obtain ⟨w,o1,o2⟩:=M.st
 obtain ⟨ps,s1,s2⟩:=M.seen
 obtain ⟨d1,c1,c2⟩:=M.cnt
 have tt:cF H (upd H a (.dK (td m w'))):=.upd o1 (by intro _ z; cases z)
 have e:∀ {c o},H c=some o→c ≠ a→upd H a (.dK (td m w')) c=some o:=fun {c o} h n=>by rw [aK n]; exact h
 exact ⟨⟨w',ah,hw.tups tt⟩,⟨ps,e s1 (M.a_ s1).symm,s2.tups tt⟩,⟨d1,e c1 M.Jd.symm,c2⟩,e M.rws (M.a_ M.rws).symm,M.Jc,M.Jd,M.lens,M.big⟩
theorem TS.yS (M:TS H a m B t) {ps:List Addr} {sn:List (Int × Int)} (hs:gH H ps sn) (hl:sn.length ≤ B):TS (upd H m.s (.lst (ps.map V.ref))) a m B { t with sn:=sn }:=by
 obtain ⟨w,o1,o2⟩:=M.st
 obtain ⟨ps0,s1,s2⟩:=M.seen
 obtain ⟨d1,c1,c2⟩:=M.cnt
 have tt:cF H (upd H m.s (.lst (ps.map V.ref))):=.upd s1 (by intro _ z; cases z)
 have e:∀ {c o},H c=some o→c ≠ m.s→upd H m.s (.lst (ps.map V.ref)) c=some o:=fun {c o} h n=>by rw [aK n]; exact h
 exact ⟨⟨w,e o1 (M.a_ s1),o2.tups tt⟩,⟨ps,ah,hs.tups tt⟩,⟨d1,e c1 (cm c1 s1 (by intro z; cases z)),c2⟩,e M.rws M.Jc.symm,M.Jc,M.Jd,⟨hl,M.lens.2⟩,M.big⟩
theorem TS.N7 (M:TS H a m B t) {rs:List Int} (hl:rs.length ≤ B):TS (upd H m.r (.lst (rs.map V.int))) a m B { t with rows:=rs }:=by
 obtain ⟨w,o1,o2⟩:=M.st
 obtain ⟨ps,s1,s2⟩:=M.seen
 obtain ⟨d1,c1,c2⟩:=M.cnt
 have tt:cF H (upd H m.r (.lst (rs.map V.int))):=.upd M.rws (by intro _ z; cases z)
 have e:∀ {c o},H c=some o→c ≠ m.r→upd H m.r (.lst (rs.map V.int)) c=some o:=fun {c o} h n=>by rw [aK n]; exact h
 exact ⟨⟨w,e o1 (M.a_ M.rws),o2.tups tt⟩,⟨ps,e s1 M.Jc,s2.tups tt⟩,⟨d1,e c1 (cm c1 M.rws (by intro z; cases z)),c2⟩,ah,M.Jc,M.Jd,⟨M.lens.1,hl⟩,M.big⟩
theorem TS.Tg (M:TS H a m B t) {d:List (Key × V)} {ks:List Int} {f:Int→Int} (hz:CR d ks f) (hl:d.length ≤ 100):TS (upd H m.c (.dK d)) a m B { t with ks:=ks,cf:=f }:=by
 obtain ⟨w,o1,o2⟩:=M.st
 obtain ⟨ps,s1,s2⟩:=M.seen
 obtain ⟨d1,c1,c2⟩:=M.cnt
 have tt:cF H (upd H m.c (.dK d)):=.upd c1 (by intro _ z; cases z)
 have e:∀ {c o},H c=some o→c ≠ m.c→upd H m.c (.dK d) c=some o:=fun {c o} h n=>by rw [aK n]; exact h
 exact ⟨⟨w,e o1 M.Jd,o2.tups tt⟩,⟨ps,e s1 (cm s1 c1 (by intro z; cases z)),s2.tups tt⟩,⟨d,ah,hz,hl⟩,e M.rws (cm M.rws c1 (by intro z; cases z)),M.Jc,M.Jd,M.lens,M.big⟩
end
def zv (bs:List Int) (b:Int):Int:=bs.getD b.toNat 0
theorem DO {bs:List Int} (h8:bs.length=8) {b:Int} (hb:Bx b):oq (bs.map V.int) b=some (.int (zv bs b)):=by
 obtain ⟨j,rfl⟩:=Int.eq_ofNat_of_zero_le hb.1
 have hj:j < bs.length:=by have:=hb.2; omega
 refine cw (j:=j) ?_
 unfold zv
 rw [List.getElem?_map,List.getElem?_eq_getElem hj,Int.toNat_natCast,List.getD_eq_getElem?_getD,List.getElem?_eq_getElem hj]
 rfl
def gY (bs:List Int) (t:Tl) (x:Wi):Tl :=
 if x.u = "look" then { t with sn:=t.sn ++ [(x.n,zv bs x.b)] } else if x.u = "count" then { t with cf:=iU t.cf x.n (t.cf x.n + 1) }
 else if zv bs x.b < 0 then { t with en:=some [.str "halt",.int x.n] } else t
def cB (bs:List Int):Tl→List Wi→Tl
 | t,[]=>t
 | t,x :: r=>cB bs (if t.en=none then gY bs t x else t) r
theorem rJ (bs:List Int):∀ (a b:List Wi) (t:Tl),cB bs t (a ++ b)=cB bs (cB bs t a) b
 | [],b,t=>rfl
 | x :: a,b,t=>rJ bs a b _
structure zx (ks:List Int) (x:Wi):Prop where
 u:x.u = "look" ∨ x.u = "count" ∨ x.u = "guard"
 b:Bx x.b
 k:x.u = "count" → x.n ∈ ks
theorem Hw {bs:List Int} {t:Tl} {x:Wi}:(gY bs t x).ks=t.ks∧(gY bs t x).rows=t.rows:=by
 unfold gY
 split
 ·exact ⟨rfl,rfl⟩
 split
 ·exact ⟨rfl,rfl⟩
 split
 ·exact ⟨rfl,rfl⟩
 ·exact ⟨rfl,rfl⟩
theorem gJ {bs:List Int}:∀ {a:List Wi} {t:Tl},(cB bs t a).ks=t.ks∧(cB bs t a).rows=t.rows
 | [],t=>⟨rfl,rfl⟩
 | x :: a,t=>by
  have h:=gJ (bs:=bs) (a:=a) (t:=if t.en=none then gY bs t x else t)
  have e:(if t.en=none then gY bs t x else t).ks=t.ks∧(if t.en=none then gY bs t x else t).rows=t.rows:=by
   split
   ·exact Hw
   ·exact ⟨rfl,rfl⟩
  exact ⟨h.1.trans e.1,h.2.trans e.2⟩
section
variable {P:Program} {w:World} {K:Frag} {mg:Str→Option Value} {base:Heap}
def N8:Sp:=fun vs H Q _=>∃ (a h pb:Addr) (m:TA) (B:Nat) (t:Tl) (x:Wi) (bs:List Int),vs=[.ref a,.ref h,.ref pb]∧TS H a m B t∧B < 2000∧H h=some (.tup x.vs)∧zx t.ks x∧H pb=some (.lst (bs.map V.int))∧bs.length=8 ∧
 ∀ H',Keeps (eY m a) H H'→TS H' a m (B + 1) (gY bs t x)→Q .non H'
theorem Lg:aG ["reading", "what", "boxes", "word", "number"] ["reading", "what", "boxes"] (aj fj):=⟨rfl,rfl,rfl,by decide +kernel,rfl,by decide +kernel,by decide +kernel⟩
theorem N9 {f:Addr} {fd:FuncData} (F:d6 K "see_what" "see_what" fj f fd) (T:Txt K w.params mg):aM P w K mg base bw 1 f fd ["reading", "what", "boxes"] N8:=by
 refine F.ok Lg (fun vs H Q E h=>?_) (fun cdv A outer s H vs Q E hr h=>?_)
 ·obtain ⟨a,h,pb,m,B,t,x,bs,rfl,_⟩:=h
  rfl
 ·obtain ⟨a,h,pb,m,B,t,x,bs,rfl,M0,hB,hh,g,hpb,b8,k⟩:=h
  have M:=M0.more (le_succ B) (by omega)
  have hu:=cK hr
  obtain ⟨w0,ho,hw⟩:=M.st
  obtain ⟨ps,s1,s2⟩:=M.seen
  obtain ⟨d,c1,c2,c3⟩:=M.cnt
  obtain ⟨xp,xu,xn,xb⟩:=x
  obtain ⟨gu,gb,gk⟩:=g
  have lm:=M0.lens
  refine ⟨_,(aH (aT (i:=3) Lg.nd rfl (Or.inl rfl) (aB aI (pv 1) ao (fun _ _=>rfl)))
   (aH (aT (i:=4) Lg.nd rfl (Or.inl rfl) (aB aI (pv 1) ao (fun _ _=>rfl)))
   (az (dv (aP eM (pv 3) ay (aY _)) (az (bZ (hV PySem.F.plainAttrs_list PySem.F.slot_list_append PySem.F.type_list_append cJ (cP hu (pv 0) ay (fun _ _=>rfl)) (ae (bf (ae (pv 4) (ae (aB aV (pv 2) (aB aI (pv 1) ao (fun _ _=>rfl)) (fun _ _=>rfl)) ak))) ak)))) (az (dv (aP eM (pv 3) ay (aY _)) (az (iC hu (cP hu (pv 0) ay (fun _ _=>rfl)) (pv 4) (aJ cS (cP hu (cP hu (pv 0) ay (fun _ _=>rfl)) (pv 4) (fun _ _=>rfl)) ao) rfl)) (az (dv (aP iQ (aB aV (pv 2) (aB aI (pv 1) ao (fun _ _=>rfl)) (fun _ _=>rfl)) ao (aY _)) (az (iC hu (pv 0) ay (bf (ae ay (ae (pv 4) ak))) rfl)) aU)))))))),?_⟩
  rcases gu with rfl | rfl | rfl
  ·have hh:H h=some (.tup [.str "look",.int xn,.int xb]):=hh
   refine ⟨_,rfl,h,_,_,_,rfl,rfl,bp.of hh,at0 _ _,?_⟩
   refine ⟨_,rfl,h,_,_,.int xn,rfl,rfl,bp.of hh,at1 _ _ _,?_⟩
   refine ⟨_,rfl,rfl,_,rfl,eP (by decide +kernel) ?_⟩
   refine ⟨_,rfl,a,_,rfl,jC ho xh,.inl ⟨rfl,_,aZ.of s1⟩,_,rfl,_,rfl,_,rfl,h,_,_,.int xb,rfl,rfl,bp.of hh,at2 _ _ _ _,pb,_,_,_,rfl,rfl,aZ.of hpb,DO b8 gb,dG,fun t1 n1=>⟨m.s,_,_,rfl,rfl,iX n1 s1,bu (by rw [length_map,s2.1]; omega),?_⟩⟩
   have sN:=ai (o:=.tup [V.int xn,V.int (zv bs xb)]) n1
   rw [show ps.map V.ref ++ [V.ref t1]=(ps ++ [t1]).map V.ref by simp]
   refine k _ ((Keeps.same sN).upd (sN _ _ s1) (by intro _ z; cases z) (.inr (.inl rfl))) ?_
   rw [show gY bs t ⟨xp, "look",xn,xb⟩={ t with sn:=t.sn ++ [(xn,zv bs xb)] } from if_pos rfl]
   exact (M.same sN).yS ((s2.tups (.of sN)).snoc (p:=(xn,zv bs xb)) ah) (by simp; omega)
  ·have hh:H h=some (.tup [.str "count",.int xn]):=hh
   have kn:cH d (Sum.inl xn:Key)=some (.int (t.cf xn)):=by rw [c2.val,if_pos (gk rfl)]
   refine ⟨_,rfl,h,_,_,_,rfl,rfl,bp.of hh,at0 _ _,?_⟩
   refine ⟨_,rfl,h,_,_,.int xn,rfl,rfl,bp.of hh,at1 _ _ _,?_⟩
   refine ⟨_,rfl,rfl,_,rfl,cQ (by decide +kernel) ?_⟩
   refine ⟨_,rfl,rfl,_,rfl,eP (by decide +kernel) ?_⟩
   refine ⟨_,rfl,a,_,rfl,jC ho zt,_,rfl,m.c,_,rfl,kn ▸ iR.k (k:=Sum.inl xn) c1,_,_,rfl,rfl,_,rfl,a,_,rfl,jC ho zt,_,rfl,m.c,_,rfl,oA.k (k:=Sum.inl xn) c1 (bu (by omega)),?_⟩
   refine k _ (Keeps.refl.upd c1 (by intro _ z; cases z) (.inr (.inr (.inl rfl)))) ?_
   rw [show gY bs t ⟨xp, "count",xn,xb⟩={ t with cf:=iU t.cf xn (t.cf xn + 1) } from (if_neg (show ¬ ("count" : Str) = "look" by decide +kernel)).trans (if_pos rfl)]
   refine M.Tg (c2.put xn _ fun i=>⟨.inr,fun z=>z.elim (fun e=>e ▸ gk rfl) id⟩) ?_
   have hs:(cH d (Sum.inl xn:Key)).isSome=true:=by rw [kn]; rfl
   unfold putK
   rw [ei,if_pos hs,length_map]
   exact c3
  ·have hh:H h=some (.tup [.str "guard",.int xn,.int xb]):=hh
   refine ⟨_,rfl,h,_,_,_,rfl,rfl,bp.of hh,at0 _ _,?_⟩
   refine ⟨_,rfl,h,_,_,.int xn,rfl,rfl,bp.of hh,at1 _ _ _,?_⟩
   refine ⟨_,rfl,rfl,_,rfl,cQ (by decide +kernel) ?_⟩
   refine ⟨_,rfl,rfl,_,rfl,cQ (by decide +kernel) ?_⟩
   refine ⟨_,rfl,_,rfl,h,_,_,.int xb,rfl,rfl,bp.of hh,at2 _ _ _ _,pb,_,_,_,rfl,rfl,aZ.of hpb,DO b8 gb,_,_,rfl,rfl,_,rfl,?_⟩
   have e0:gY bs t ⟨xp, "guard",xn,xb⟩=if zv bs xb < 0 then { t with en:=some [.str "halt",.int xn] } else t:=(if_neg (show ¬ ("guard" : Str) = "look" by decide +kernel)).trans (if_neg (show ¬ ("guard" : Str) = "count" by decide +kernel))
   rw [e0] at k
   refine d7 (fun c=>?_) (fun c=>?_)
   ·have c:zv bs xb < 0:=of_decide_eq_true c
    rw [if_pos c] at k
    refine ⟨_,rfl,dG,fun t1 n1=>⟨_,rfl,a,_,rfl,oA.k (k:=Sum.inr "ending") (iX n1 ho) Jb,?_⟩⟩
    rw [DN]
    have sN:=ai (o:=.tup [V.str "halt",V.int xn]) n1
    exact k _ ((Keeps.same sN).upd (iX n1 ho) (by intro _ z; cases z) (.inl rfl)) ((M.same sN).put ⟨t1,rfl,ah⟩)
   ·rw [if_neg (fun z=>c (decide_eq_true z))] at k
    exact k _ Keeps.refl M
def Oa:Sp:=fun vs H Q _=>∃ (a lh pb:Addr) (m:TA) (B:Nat) (t:Tl) (hs:List Addr) (ws:List Wi) (bs:List Int),vs=[.ref a,.ref lh,.ref pb]∧TS H a m B t∧B + ws.length ≤ 2000∧H lh=some (.lst (hs.map V.ref))∧uv H hs ws∧(∀ x ∈ ws,zx t.ks x)∧H pb=some (.lst (bs.map V.int))∧bs.length=8∧¬ eY m a lh∧¬ eY m a pb ∧
 ∀ H',Keeps (eY m a) H H'→TS H' a m (B + ws.length) (cB bs t ws)→Q .non H'
theorem Ob:aG ["reading", "whats", "boxes", "what"] ["reading", "whats", "boxes"] (aj eI):=⟨rfl,rfl,rfl,by decide +kernel,rfl,by decide +kernel,by decide +kernel⟩
theorem Oc {f fW:Addr} {fd rH:FuncData} (F:d6 K "see_whats" "see_whats" eI f fd) (T:Txt K w.params mg)
  (GW:aM P w K mg base bw 1 fW rH ["reading", "what", "boxes"] N8) (kW:KI K fW) (bW:Binds K rH ["reading", "what", "boxes"] []) (mW:mg "see_what" = some (.ref fW)):aM P w K mg base bw 2 f fd ["reading", "whats", "boxes"] Oa:=by
 refine F.ok Ob (fun vs H Q E h=>?_) (fun cdv A outer s H vs Q E hr h=>?_)
 ·obtain ⟨a,lh,pb,m,B,t,hs,ws,bs,rfl,_⟩:=h
  rfl
 ·obtain ⟨a,lh,pb,m,B,t,hs,ws,bs,rfl,M,hB,Hx,hW,g,hpb,b8,n1,n2,k⟩:=h
  have hu:=cK hr
  refine ⟨_,(az (gU PassesOwn.never rfl (dS (pv 1)) (cG (i:=3) Ob.nd rfl (Or.inl rfl)) (az (dv (aP lz (cP hu (pv 0) ay (fun _ _=>rfl)) gS (aY _)) (az (bZ (aN GW hr (by rfl) mW kW bW .nil aW (ae (pv 0) (ae (pv 3) (ae (pv 2) ak)))))) aU)))),?_⟩
  refine ⟨_,rfl,lh,rfl,⟨_,aZ.of Hx⟩,j6 (K:=K) (a:=lh) (xs:=hs.map V.ref) (fun j σ G=>∃ v:Option V,σ=[some (.ref a),some (.ref lh),some (.ref pb),v]∧Keeps (eY m a) H G∧TS G a m (B + j) (cB bs t (ws.take j))) ?_ ?_ ?_ ?_⟩
  ·exact ⟨none,rfl,Keeps.refl,M⟩
  ·rintro j σ G _ ⟨v,rfl,kp,_⟩
   exact aZ.of (kp _ _ Hx (.inl n1))
  ·rintro j x σ G hx ⟨v,rfl,kp,MT⟩
   rw [List.getElem?_map] at hx
   obtain ⟨q,hq,rfl⟩:=map_eq_some_iff.mp hx
   have hjl:j < ws.length:=by have:=(List.getElem?_eq_some_iff.mp hq).1; have:=hW.1; omega
   have hx:ws[j]? = some ws[j]:=List.getElem?_eq_getElem hjl
   have hh:=hW.2 j q _ hq hx
   have gx:=g _ (List.getElem_mem hjl)
   generalize ws[j]=x at hx hh gx
   have tk:ws.take (j + 1)=ws.take j ++ [x]:=by rw [take_add_one,hx]; rfl
   have eS:cB bs t (ws.take (j + 1))=if (cB bs t (ws.take j)).en=none then gY bs (cB bs t (ws.take j)) x else cB bs t (ws.take j):=by rw [tk,rJ]; rfl
   obtain ⟨w0,ho,hw⟩:=MT.st
   refine ⟨_,rfl,a,_,rfl,jC ho zu,?_⟩
   cases he:(cB bs t (ws.take j)).en with
   | none =>
    rw [he] at hw
    have hw:w0=.non:=hw
    subst hw
    refine ⟨rfl,_,rfl,eP (by decide) ?_⟩
    refine ⟨_,rfl,_,rfl,_,rfl,a,q,pb,m,B + j,_,x,bs,rfl,MT,by omega,kp.tups _ _ hh,by rw [gJ.1]; exact gx,kp _ _ hpb (.inl n2),b8,fun H' k' M'=>⟨_,rfl,kp.trans k',?_⟩⟩
    rw [eS,if_pos he]
    exact M'
   | some zs =>
    rw [he] at hw
    obtain ⟨p,rfl,_⟩:=hw
    refine ⟨rfl,_,rfl,cQ (fun z=>by cases of_decide_eq_true z) ?_⟩
    refine ⟨_,rfl,kp,?_⟩
    rw [eS,if_neg (by rw [he]; intro z; cases z)]
    exact MT.more (by omega) (by omega)
  ·rintro σ G ⟨v,rfl,kp,MT⟩
   rw [length_map,hW.1,take_length] at MT
   exact k _ kp MT
end
theorem tI:¬ ("row" : Str) ∈ names:=by decide +kernel
theorem jx:¬ ("ending" : Str) ∈ names:=by decide +kernel
theorem vv:¬ ("boxes" : Str) ∈ names:=by decide +kernel
theorem zy:¬ ("step" : Str) ∈ names:=by decide +kernel
theorem zA {ring:Int→Bool} {r:Rw} {h:Int} {z:Zt} (hn:z.how=none):((aX ring r h z).here=.non∧∃ xs,(aX ring r h z).how=some xs)∨((∃ t,(aX ring r h z).here=.int t)∧(aX ring r h z).how=none):=by
 cases r with
 | stop=>exact .inl ⟨rfl,_,rfl⟩
 | halt v=>exact .inl ⟨rfl,_,rfl⟩
 | back =>
  rcases eq_nil_or_concat z.pile with e | ⟨r,p,e⟩
  ·rw [ig e]
   exact .inl ⟨rfl,_,rfl⟩
  ·have e:z.pile=r ++ [p]:=by simpa using e
   rw [kF e]
   exact .inr ⟨⟨_,rfl⟩,hn⟩
 | two u b v =>
  simp only [aX]
  split
  ·exact .inr ⟨⟨_,rfl⟩,hn⟩
  split
  ·exact .inr ⟨⟨_,rfl⟩,hn⟩
  split
  ·exact .inr ⟨⟨_,rfl⟩,hn⟩
  ·exact .inr ⟨⟨_,rfl⟩,hn⟩
 | fX u t f =>
  simp only [aX]
  split
  ·exact .inr ⟨⟨_,rfl⟩,hn⟩
  split
  ·exact .inr ⟨⟨_,rfl⟩,hn⟩
  split
  ·exact .inr ⟨⟨_,rfl⟩,hn⟩
  ·exact .inr ⟨⟨_,rfl⟩,hn⟩
 | _=>exact .inr ⟨⟨_,rfl⟩,hn⟩
def xj (r:Rw) (h s:Int):Int:=if r.word = "back" then s - 1 else h
def tJ (xs:List Wi) (l s:Int):List Wi:=xs.filter (kJ l s) ++ xs.filter (gg s)
def mU (r:Rw) (bs:List Int) (t:Tl):Tl:=match r with
 | .two u b v=>if u = "see" then { t with sn:=t.sn ++ [(v,zv bs b)] } else t
 | _=>t
section
variable {P:Program} {w:World} {K:Frag} {mg:Str→Option Value} {base:Heap}
def Od:Sp:=fun vs H Q _=>∃ (lr lw q:Addr) (rows:List V) (xs:List Wi) (r:Nat) (s n:Int) (rw:Rw),vs=[.ref lr,.ref lw,.int (r:Int),.int s]∧H lr=some (.lst rows)∧rows[r]? = some (.ref q)∧ie H q n rw∧i5 H lw xs∧xs.length ≤ 100 ∧
 ∀ (l:Addr) (hs:List Addr) (H':Hp),Same H H'→H l=none→H' l=some (.lst (hs.map V.ref))→uv H' hs (tJ xs (xj rw r s) s)→Q (.ref l) H'
theorem Oe:aG ["rows", "wishes", "r", "s", "leaving"] ["rows", "wishes", "r", "s"] (aj cV):=⟨rfl,rfl,rfl,by decide +kernel,rfl,by decide +kernel,by decide +kernel⟩
theorem Og {f fY fB:Addr} {fd fdY Je:FuncData} (F:d6 K "whats_between" "whats_between" cV f fd) (T:Txt K w.params mg)
  (GY:aM P w K mg base bw 1 fY fdY ["wishes", "r", "s"] NG) (kY:KI K fY) (bY:Binds K fdY ["wishes", "r", "s"] []) (mY:mg "whats_on_way" = some (.ref fY))
  (GB:aM P w K mg base bw 1 fB Je ["wishes", "r"] KW) (kB:KI K fB) (bB:Binds K Je ["wishes", "r"] []) (mB:mg "whats_before" = some (.ref fB)):aM P w K mg base bw 2 f fd ["rows", "wishes", "r", "s"] Od:=by
 refine F.ok Oe (fun vs H Q E h=>?_) (fun cdv A outer s H vs Q E hr h=>?_)
 ·obtain ⟨lr,lw,q,rows,xs,r,s,n,rw,rfl,_⟩:=h
  rfl
 ·obtain ⟨lr,lw,q,rows,xs,r,s',n,rw,rfl,hlr,hrow,hR,hW,h100,k⟩:=h
  have hu:=cK hr
  obtain ⟨items,HQ⟩:=DB hR
  refine ⟨_,(aH (aT (i:=4) Oe.nd rfl (Or.inl rfl) (uG (aP eM (aB aI (aB aV (pv 0) (pv 2) (fun _ _=>rfl)) ao (fun _ _=>rfl)) ay (aY _)) (aJ jT (pv 3) ao) (pv 2)))
   (az (aS (aJ lL (aN GY hr (by rfl) mY kY bY .nil aW (ae (pv 1) (ae (pv 4) (ae (pv 3) ak)))) (aN GB hr (by rfl) mB kB bB .nil aW (ae (pv 1) (ae (pv 3) ak))))))),?_⟩
  refine ⟨_,rfl,_,rfl,lr,_,_,.ref q,rfl,rfl,aZ.of hlr,cw (j:=r) hrow,q,_,_,.str rw.word,rfl,rfl,bp.of HQ,at0 _ _,rfl,_,rfl,?_⟩
  refine d7 (fun c=>?_) (fun c=>?_)
  ·have e:xj rw r s'=s' - 1:=if_pos (strEq c)
   rw [e] at k
   refine ⟨_,rfl,_,_,rfl,rfl,?_⟩
   refine ⟨_,rfl,_,rfl,_,rfl,lw,xs,(s' - 1),s',rfl,hW,h100,fun l1 hs1 H1 s1 n1 h1 w1=>⟨_,rfl,_,rfl,lw,xs,s',rfl,hW.same s1,h100,fun l2 hs2 H2 s2 n2 h2 w2=>⟨l1,l2,_,_,rfl,rfl,s2 _ _ h1,h2,?_,fun l3 n3=>?_⟩⟩⟩
   ·have e1:=w1.1
    have e2:=w2.1
    have e3:=length_filter_le (kJ (s' - 1) s') xs
    have e4:=length_filter_le (gg s') xs
    rw [length_map,length_map]
    exact le_trans (show _ ≤ 200 by omega) (by decide)
   ·rw [← map_append]
    have s3:=ai (o:=.lst ((hs1 ++ hs2).map V.ref)) n3
    exact k l3 (hs1 ++ hs2) _ (s1.trans (s2.trans s3)) ((s1.trans s2).free n3) ah (((w1.tups (.of s2)).app w2).tups (.of s3))
  ·have e:xj rw r s'=r:=if_neg (fun z=>c (by rw [z]; exact decide_eq_true rfl))
   rw [e] at k
   refine ⟨_,rfl,?_⟩
   refine ⟨_,rfl,_,rfl,_,rfl,lw,xs,r,s',rfl,hW,h100,fun l1 hs1 H1 s1 n1 h1 w1=>⟨_,rfl,_,rfl,lw,xs,s',rfl,hW.same s1,h100,fun l2 hs2 H2 s2 n2 h2 w2=>⟨l1,l2,_,_,rfl,rfl,s2 _ _ h1,h2,?_,fun l3 n3=>?_⟩⟩⟩
   ·have e1:=w1.1
    have e2:=w2.1
    have e3:=length_filter_le (kJ r s') xs
    have e4:=length_filter_le (gg s') xs
    rw [length_map,length_map]
    exact le_trans (show _ ≤ 200 by omega) (by decide)
   ·rw [← map_append]
    have s3:=ai (o:=.lst ((hs1 ++ hs2).map V.ref)) n3
    exact k l3 (hs1 ++ hs2) _ (s1.trans (s2.trans s3)) ((s1.trans s2).free n3) ah (((w1.tups (.of s2)).app w2).tups (.of s3))
def Oh (C:Addr):Sp:=fun vs H Q _=>∃ (a lr lw x q:Addr) (mt:TA) (Bt:Nat) (t:Tl) (m:MA) (rows:List V) (aq:List (Key × V)) (B:Nat) (z:Zt) (r:Nat) (n:Int) (rw:Rw) (xs:List Wi),vs=[.ref a,.ref lr,.ref lw,.ref x]∧TS H a mt Bt t∧Bt < 2000∧H lr=some (.lst rows)∧MG C H x m rows aq B z∧B < 900∧z.here=.int r∧z.how=none ∧
 rows[r]? = some (.ref q)∧ie H q n rw∧i5 H lw xs∧xs.length ≤ 100∧(∀ c,eY mt a c→¬ vm m x c)∧¬ eY mt a lr∧¬ Own m x lr∧¬ eY mt a lw∧¬ Own m x lw ∧
 ∀ (l:Addr) (hs:List Addr) (H':Hp),Keeps (fun c=>eY mt a c∨Own m x c) H H'→TS H' a mt (Bt + 1) { mU rw z.bs t with en:=(aX (cA aq) rw r z).how }→MG C H' x m rows aq (B + 1) (aX (cA aq) rw r z)→H l=none→H' l=some (.lst (hs.map V.ref)) →
  uv H' hs (match (aX (cA aq) rw r z).here with | .int s=>tJ xs (xj rw r s) s | _=>[])→Q (.ref l) H'
theorem Lh:aG ["reading", "rows", "wishes", "machine", "r", "s"] ["reading", "rows", "wishes", "machine"] (aj ib):=⟨rfl,rfl,rfl,by decide +kernel,rfl,by decide +kernel,by decide +kernel⟩
theorem Oi {f fT C f0 f1 f2 fs:Addr} {fd C7 Jf Oj fd2 fds:FuncData} (F:d6 K "do_row" "do_row" ib f fd) (T:Txt K w.params mg) (TM:j3 K mg C)
  (M0:Meth K C "row" f0) (G0:aM P w K mg base bw 1 f0 Jf ["self"] (sZ C)) (b0:Binds K Jf ["self"] [])
  (M1:Meth K C "ending" f1) (G1:aM P w K mg base bw 1 f1 Oj ["self"] (pd C)) (b1:Binds K Oj ["self"] [])
  (M2:Meth K C "boxes" f2) (G2:aM P w K mg base bw 1 f2 fd2 ["self"] (tj C)) (b2:Binds K fd2 ["self"] [])
  (Ms:Meth K C "step" fs) (Gs:aM P w K mg base bw 3 fs fds ["self"] (wR C)) (Ti:Binds K fds ["self"] [])
  (GT:aM P w K mg base bw 2 fT C7 ["rows", "wishes", "r", "s"] Od) (kT:KI K fT) (bT:Binds K C7 ["rows", "wishes", "r", "s"] []) (mT:mg "whats_between" = some (.ref fT)):aM P w K mg base bw 4 f fd ["reading", "rows", "wishes", "machine"] (Oh C):=by
 refine F.ok Lh (fun vs H Q E h=>?_) (fun cdv A outer s H vs Q E hr h=>?_)
 ·obtain ⟨a,lr,lw,x,q,mt,Bt,t,m,rows,aq,B,z,r,n,rw,xs,rfl,_⟩:=h
  rfl
 ·obtain ⟨a,lr,lw,x,q,mt,Bt,t,m,rows,aq,B,z,r,n,rw,xs,rfl,MT0,hBt,hlr,M,hB,hh,hn,hrow,hR,hW,h100,dj,t1,o1,t2,o2,k⟩:=h
  have hu:=cK hr
  have hr1:=hr.mono (show 1 ≤ 3 by decide)
  have hr2:=hr.mono (show 2 ≤ 3 by decide)
  have MT:=MT0.more (le_succ Bt) (by omega)
  obtain ⟨w0,ho,hw⟩:=M.obj
  obtain ⟨wt,hot,Li⟩:=MT.st
  obtain ⟨ps,ps1,ps2⟩:=MT.seen
  obtain ⟨items,HQ⟩:=DB hR
  have lm:=MT0.lens
  refine ⟨_,(aH (aT (i:=4) Lh.nd rfl (Or.inl rfl) (dM (pv 3) TM.cl M0 G0 hr1 b0 .nil aW))
   (nu (dv (aP eM (aB aI (aB aV (pv 1) (pv 4) (fun _ _=>rfl)) ao (fun _ _=>rfl)) ay (aY _)) (az (bZ (hV PySem.F.plainAttrs_list PySem.F.slot_list_append PySem.F.type_list_append cJ (cP hu (pv 0) ay (fun _ _=>rfl)) (ae (bf (ae (aB aI (aB aV (pv 1) (pv 4) (fun _ _=>rfl)) ao (fun _ _=>rfl)) (ae (aB aV (dM (pv 3) TM.cl M2 G2 hr1 b2 .nil aW) (aB aI (aB aV (pv 1) (pv 4) (fun _ _=>rfl)) ao (fun _ _=>rfl)) (fun _ _=>rfl)) ak))) ak)))) aU)
   (aH (bZ (dM (pv 3) TM.cl Ms Gs hr Ti .nil aW))
   (aH (iC hu (pv 0) ay (dM (pv 3) TM.cl M1 G1 hr1 b1 .nil aW) rfl)
   (aH (aT (i:=5) Lh.nd rfl (Or.inl rfl) (dM (pv 3) TM.cl M0 G0 hr1 b0 .nil aW))
   (az (aS (uG (aP lz (pv 5) gS (aY _)) (cr ak) (aN GT hr2 (by rfl) mT kT bT .nil aW (ae (pv 1) (ae (pv 2) (ae (pv 4) (ae (pv 5) ak))))))))))))),?_⟩
  refine ⟨_,rfl,x,m.dx,_,rfl,ho,mF tI,x,z,B,rfl,⟨m,rows,aq,M⟩,?_⟩
  refine ⟨fun σ G=>σ=[some (.ref a),some (.ref lr),some (.ref lw),some (.ref x),some z.here,none]∧Keeps (eY mt a) H G∧TS G a mt (Bt + 1) (mU rw z.bs t),?_,?_⟩
  ·refine ⟨_,rfl,_,rfl,lr,_,_,.ref q,rfl,hh,aZ.of hlr,cw (j:=r) hrow,q,_,_,.str rw.word,rfl,rfl,bp.of HQ,at0 _ _,rfl,_,rfl,?_⟩
   refine d7 (fun c=>?_) (fun c=>?_)
   ·have c:rw.word = "see" := strEq c
    obtain ⟨b,v,rfl⟩:∃ b v,rw=.two "see" b v:=by
     cases rw with
     | two u b v=>exact ⟨b,v,by rw [show u = "see" from c]⟩
     | stop=>exact absurd c (by decide +kernel)
     | back=>exact absurd c (by decide +kernel)
     | halt v=>exact absurd c (show ¬ ("halt" : Str) = "see" by decide +kernel)
     | tell v=>exact absurd c (show ¬ ("tell" : Str) = "see" by decide +kernel)
     | table b ts=>exact absurd c (show ¬ ("table" : Str) = "see" by decide +kernel)
     | fX u t f=>exact absurd c ((by decide +kernel:∀ u ∈ My.fX,¬ u = "see") u hR.2.1)
     | zb u b t f=>exact absurd c ((by decide +kernel:∀ u ∈ My.zb,¬ u = "see") u hR.2.1)
    obtain ⟨HQ2,_,hb,_⟩:=hR
    refine ⟨_,rfl,a,_,rfl,jC hot xh,.inl ⟨rfl,_,aZ.of ps1⟩,_,rfl,_,rfl,lr,_,_,.ref q,rfl,hh,aZ.of hlr,cw (j:=r) hrow,q,_,_,.int v,rfl,rfl,bp.of HQ2,at2 _ _ _ _,?_⟩
    refine ⟨_,rfl,x,m.dx,_,rfl,ho,mF vv,x,z,B,rfl,⟨m,rows,aq,M⟩,fun lb nb=>?_⟩
    have sb:=ai (o:=.lst (z.bs.map V.int)) nb
    refine ⟨_,rfl,_,rfl,lr,_,_,.ref q,rfl,hh,aZ.of (sb _ _ hlr),cw (j:=r) hrow,q,_,_,.int b,rfl,rfl,bp.of (sb _ _ HQ2),at1 _ _ _,lb,_,_,_,rfl,rfl,aZ.of ah,DO M.b8 hb,dG,fun t3 n3=>⟨mt.s,_,_,rfl,rfl,iX n3 (sb _ _ ps1),bu (by rw [length_map,ps2.1]; omega),?_⟩⟩
    have sN:=sb.trans (ai (o:=.tup [V.int v,V.int (zv z.bs b)]) n3)
    rw [show ps.map V.ref ++ [V.ref t3]=(ps ++ [t3]).map V.ref by simp]
    refine ⟨rfl,(Keeps.same sN).upd (sN _ _ ps1) (by intro _ z; cases z) (.inr (.inl rfl)),?_⟩
    rw [show mU (.two "see" b v) z.bs t={ t with sn:=t.sn ++ [(v,zv z.bs b)] } by simp only [mU,if_true]]
    exact (MT.same sN).yS ((ps2.tups (.of sN)).snoc (p:=(v,zv z.bs b)) ah) (by simp; omega)
   ·have e:mU rw z.bs t=t:=by
     cases rw with
     | two u b v=>exact if_neg (fun e=>c (decide_eq_true (congrArg V.str e)))
     | _=>rfl
    rw [e]
    exact ⟨rfl,Keeps.refl,MT⟩
  rintro σ G ⟨rfl,k1,EY⟩
  have M1:=M.keeps k1 (fun c hc ht=>dj c ht hc)
  obtain ⟨w1,ho1,hw1⟩:=M1.obj
  refine ⟨_,rfl,x,m.dx,_,rfl,ho1,mF zy,x,q,m,rows,aq,B,z,r,n,rw,rfl,M1,hB,hh,hrow,hR.tups k1.tups,fun G2 fr M2=>?_⟩
  have k2:=M1.fr fr
  have EZ:=EY.keeps k2 (fun c hc hm=>dj c hc (.inl hm))
  obtain ⟨w2,ho2,hw2⟩:=M2.obj
  obtain ⟨wt2,Hy,Tj⟩:=EZ.st
  refine ⟨_,rfl,x,m.dx,_,rfl,ho2,mF jx,x,_,B + 1,rfl,⟨m,rows,aq,M2⟩,fun v hv=>⟨_,rfl,a,_,rfl,oA.k (k:=Sum.inr "ending") Hy Jb,?_⟩⟩
  rw [DN]
  have AO:=EZ.put hv
  have k3:Keeps (eY mt a) G2 (upd G2 a (.dK (td mt v))):=Keeps.refl.upd Hy (by intro _ z; cases z) (.inl rfl)
  generalize upd G2 a (.dK (td mt v))=G3 at AO k3 ⊢
  have M3:=M2.keeps k3 (fun c hc ht=>dj c ht hc)
  obtain ⟨w3,ho3,hw3⟩:=M3.obj
  have kA:Keeps (fun c=>eY mt a c∨Own m x c) H G3:=(k1.more fun _=>.inl).trans ((k2.more fun _=>.inr).trans (k3.more fun _=>.inl))
  refine ⟨_,rfl,x,m.dx,_,rfl,ho3,mF tI,x,_,B + 1,rfl,⟨m,rows,aq,M3⟩,?_⟩
  have fresh:∀ l,G3 l=none→H l=none:=fun l hl=>by
   cases e:H l with
   | none=>rfl
   | some o =>
    by_cases c:eY mt a l∨Own m x l
    ·rcases c with c | c
     ·have:∃ o,G3 l=some o:=by
       obtain ⟨wz,oz,_⟩:=AO.st
       obtain ⟨pz,sz,_⟩:=AO.seen
       obtain ⟨dz,cz,_⟩:=AO.cnt
       rcases c with rfl | rfl | rfl | rfl
       ·exact ⟨_,oz⟩
       ·exact ⟨_,sz⟩
       ·exact ⟨_,cz⟩
       ·exact ⟨_,AO.rws⟩
      obtain ⟨o',e'⟩:=this
      rw [hl] at e'
      cases e'
     ·obtain ⟨o',e'⟩:=M3.pe l (.inl c)
      rw [hl] at e'
      cases e'
    ·have:=kA l o e (.inl c)
     rw [hl] at this
     cases this
  have Tn:=kA _ _ hlr (.inl (fun z=>z.elim t1 o1))
  have hW3:=hW.keeps kA (fun z=>z.elim t2 o2)
  have kk:=fun l hs H'=>k l hs H'
  rcases zA (ring:=cA aq) (r:=rw) (h:=r) (z:=z) hn with ⟨e,_⟩ | ⟨⟨s',e⟩,_⟩
  ·refine ⟨_,rfl,?_⟩
   rw [e] at kk ⊢
   refine ⟨rfl,_,rfl,eP (by decide) ?_⟩
   refine ⟨sv,fun l nl=>?_⟩
   have s4:=ai (o:=.lst []) nl
   exact kk l [] _ (kA.trans (.same s4)) (AO.same s4) (M3.same s4) (fresh l nl) ah ⟨rfl,fun i h x e=>by simp at e⟩
  ·refine ⟨_,rfl,?_⟩
   rw [e] at kk ⊢
   refine ⟨rfl,_,rfl,cQ (fun z=>by cases of_decide_eq_true z) ?_⟩
   refine ⟨_,rfl,_,rfl,_,rfl,_,rfl,lr,lw,q,rows,xs,r,s',n,rw,?_,Tn,hrow,hR.tups kA.tups,hW3,h100,fun l hs H' s4 nl hl hw=>?_⟩
   ·rw [hh]; rfl
   ·exact kk l hs H' (kA.trans (.same s4)) (AO.same s4) (M3.same s4) (fresh l nl) hl hw
end
def come (bs:List Int) (ws:List Wi) (s:Int) (t:Tl):Tl:=if (cB bs t ws).en=none then { cB bs t ws with rows:=(cB bs t ws).rows ++ [s] } else cB bs t ws
def vw (H:Hp) (lr:Addr) (rws:List Rw):Prop:=∃ qs:List Addr,H lr=some (.lst (qs.map V.ref))∧qs.length=rws.length∧∀ (i:Nat) q rw,qs[i]? = some q→rws[i]? = some rw→ie H q (rws.length:Nat) rw
theorem vw.keeps {R:Addr→Prop} {H H':Hp} {lr:Addr} {rws:List Rw} (h:vw H lr rws) (k:Keeps R H H') (n:¬ R lr):vw H' lr rws:=by
 obtain ⟨qs,a,b,c⟩:=h
 exact ⟨qs,k _ _ a (.inl n),b,fun i q x h1 h2=>(c i q x h1 h2).tups k.tups⟩
def bh (z:Zt):Int:=match z.here with
 | .int i=>i
 | _=>0
def jD (rws:List Rw) (z:Zt):Rw:=rws.getD (bh z).toNat .stop
def df (ring:Int→Bool) (rws:List Rw) (z:Zt):Zt:=aX ring (jD rws z) (bh z) z
def nextT (ring:Int→Bool) (rws:List Rw) (z:Zt) (t:Tl):Tl:={ mU (jD rws z) z.bs t with en:=(df ring rws z).how }
def rK (ring:Int→Bool) (rws:List Rw) (xs:List Wi) (z:Zt):List Wi:=tJ xs (xj (jD rws z) (bh z) (bh (df ring rws z))) (bh (df ring rws z))
def gM (ring:Int→Bool) (rws:List Rw) (xs:List Wi):Nat→Zt→Tl→List Wi→Tl
 | 0,_,t,_=>t
 | n + 1,z,t,ws=>if (come z.bs ws (bh z) t).en=none∧n ≠ 0 then (if (df ring rws z).how=none then gM ring rws xs n (df ring rws z) (nextT ring rws z (come z.bs ws (bh z) t)) (rK ring rws xs z) else nextT ring rws z (come z.bs ws (bh z) t)) else come z.bs ws (bh z) t
def Jg (ring:Int→Bool) (rws:List Rw) (xs:List Wi) (n:Nat) (z:Zt) (t:Tl):Tl :=
 if t.en=none∧n ≠ 0 then (if (df ring rws z).how=none then gM ring rws xs n (df ring rws z) (nextT ring rws z t) (rK ring rws xs z) else nextT ring rws z t) else t
theorem vx {ring:Int→Bool} {rws:List Rw} {xs:List Wi} {n:Nat} {z:Zt} {t:Tl} {ws:List Wi}:gM ring rws xs (n + 1) z t ws=Jg ring rws xs n z (come z.bs ws (bh z) t):=rfl
def vK (xs:List Wi):List Int:=(xs.filter fun x=>decide (x.u=("count" : Str))).map (·.n)
def xk (xs:List Wi):Tl:=⟨[],vK xs,fun _=>0,[],none⟩
theorem CR.len {d:List (Key × V)} {ks:List Int} {f:Int→Int} (r:CR d ks f):d.length ≤ ks.length:=by
 obtain ⟨⟨kvs,rfl,hn⟩,hv⟩:=r
 have e:(iD kvs).length=(kvs.map (·.1)).length:=by unfold iD; rw [length_map,length_map]
 rw [e]
 refine CW _ _ hn fun x hx=>?_
 obtain ⟨p,hp,rfl⟩:=mem_map.mp hx
 have h1:=CU hn (show (p.1,p.2) ∈ kvs from hp)
 have h2:=hv p.1
 rw [h1] at h2
 by_cases c:p.1 ∈ ks
 ·exact c
 ·rw [if_neg c] at h2
  cases h2
theorem Ol (j:Int):iU (fun _=>0) j 0=fun _=>0:=by
 funext i
 unfold iU
 split <;> rfl
theorem Hz {bs:List Int} {ws:List Wi} {s:Int} {t:Tl}:(come bs ws s t).ks=t.ks:=by
 unfold come
 split
 ·exact gJ.1
 ·exact gJ.1
theorem tK {r:Rw} {bs:List Int} {t:Tl}:(mU r bs t).ks=t.ks∧(mU r bs t).rows=t.rows:=by
 cases r with
 | two u b v =>
  simp only [mU]
  split
  ·exact ⟨rfl,rfl⟩
  ·exact ⟨rfl,rfl⟩
 | _=>exact ⟨rfl,rfl⟩
def Up (rws:List Rw) (z:Zt):Prop:=z.how=none∧∃ r:Nat,z.here=.int r∧r < rws.length
theorem Keeps.DP {R:Addr→Prop} {H H':Hp} (k:Keeps R H H') (n:∀ c,R c→H c=none):Same H H':=fun c o e=>k c o e (.inl fun r=>by rw [n c r] at e; cases e)
theorem CR.congr {d:List (Key × V)} {ks ks':List Int} {f:Int→Int} (r:CR d ks f) (h:∀ i,i ∈ ks'↔i ∈ ks):CR d ks' f:=⟨r.isI,fun j=>by
 rw [r.val j]
 by_cases c:j ∈ ks
 ·rw [if_pos c,if_pos ((h j).mpr c)]
 ·rw [if_neg c,if_neg fun z=>c ((h j).mp z)]⟩
theorem tL (xs:List Wi):(vK xs).length ≤ xs.length:=by
 unfold vK
 rw [length_map]
 exact length_filter_le _ _
theorem Lj (x:Wi):∃ r,x.vs=.str x.u :: .int x.n :: r:=by unfold Wi.vs; split <;> exact ⟨_,rfl⟩
section
variable {P:Program} {w:World} {K:Frag} {mg:Str→Option Value} {base:Heap}
def Om:Sp:=fun vs H Q _=>∃ (lw:Addr) (xs:List Wi),vs=[.ref lw,.str "count"]∧i5 H lw xs∧xs.length ≤ 12∧∀ (l:Addr) (ms:List Int) (H':Hp),Same H H'→H l=none→H' l=some (.lst (ms.map V.int))→ms.length ≤ 12→(∀ j,j ∈ vK xs↔j ∈ ms)→Q (.ref l) H'
theorem Tp:aG ["wishes", "word"] ["wishes", "word"] (aj bV):=⟨rfl,rfl,rfl,by decide +kernel,rfl,by decide +kernel,by decide +kernel⟩
def Lk:Scope:={ kind:=.function,names:=[(".0",.local),("place",.local),("what",.local),("word",.free)],isGenerator:=false,isCoroutine:=false,more:=[] }
theorem DQ:dD (aj bV) Lk ["wishes", "word"] ["place", "what", "word"] [none,none,some 1]:=⟨rfl,by decide +kernel,by decide +kernel,by decide +kernel,by decide +kernel,by decide +kernel⟩
theorem Oo {f:Addr} {fd:FuncData} (F:d6 K "numbers_of_whats" "numbers_of_whats" bV f fd) (T:Txt K w.params mg)  : aM P w K mg base bw 1 f fd ["wishes", "word"] Om:=by
 refine F.ok Tp (fun vs H Q E h=>?_) (fun cdv A outer s H vs Q E hr h=>?_)
 ·obtain ⟨lw,xs,rfl,_⟩:=h
  rfl
 ·obtain ⟨lw,xs,rfl,hW,h12,k⟩:=h
  obtain ⟨qs,h0,hql,N6⟩:=hW
  refine dA (aO (aA (aS (aQ (iT rfl) (by rfl) T.sorted rc (ae (cU (mh rfl) (by rfl) T.set C3 (ae (fF (N':=["place", "what", "word"]) (fr:=[none,none,some 1]) DQ rfl (dS (pv 0)) (fun C s0 H0 fp=>(iY (K:=K) (i:=0) (j:=1) rfl rfl DQ.nd rfl (Or.inl rfl) rfl (Or.inl rfl))) (fun C s0 H0 fp=>(ke (aP eM (aB (r:=JO K) aI (pv 1) ao (fun _ _=>rfl)) (pv 2) (aY _)))) (fun C s0 H0 fp=>(aB (r:=JO K) aI (pv 1) ao (fun _ _=>rfl)))) ak)) ak))))) ?_
  refine ⟨_,rfl,lw,rfl,⟨_,aZ.of h0⟩,fun D nD=>eG (K:=K) (a:=lw) (xs:=qs.map V.ref) (fun j σ ys G=>∃ v1 v2:Option V,σ=[v1,v2,some (.str "count")]∧ys=(vK (xs.take j)).map V.int∧Same H G∧G D=some (.lst ys)) ?_ ?_ ?_ ?_⟩
  ·exact ⟨none,none,rfl,rfl,ai nD,ah⟩
  ·rintro j σ ys G _ ⟨v1,v2,rfl,rfl,s,_⟩
   exact aZ.of (s _ _ h0)
  ·rintro j x σ ys G hx ⟨v1,v2,rfl,rfl,s,hD⟩
   rw [List.getElem?_map] at hx
   obtain ⟨q,hqj,rfl⟩:=map_eq_some_iff.mp hx
   have hjl:j < xs.length:=by have:=(List.getElem?_eq_some_iff.mp hqj).1; omega
   have hx:xs[j]? = some xs[j]:=List.getElem?_eq_getElem hjl
   obtain ⟨p,h,a1,a2,a3,a4⟩:=(N6 j q _ hqj hx).tups (.of s)
   generalize xs[j]=x at hx a2 a3 a4
   have tk:xs.take (j + 1)=xs.take j ++ [x]:=by rw [take_add_one,hx]; rfl
   have cl:=tL (xs.take j)
   rw [length_take] at cl
   obtain ⟨r,hv⟩:=Lj x
   rw [hv] at a4
   refine ⟨q,_,rfl,bp.of a1,rfl,_,_,rfl,_,_,rfl,rfl,?_⟩
   refine ⟨_,rfl,h,_,0,.str x.u,rfl,rfl,bp.of a4,at0 _ _,_,rfl,rfl,_,rfl,d7 (fun c=>?_) (fun c=>?_)⟩
   ·have c:x.u = "count" := strEq c
    refine ⟨_,rfl,h,_,1,.int x.n,rfl,rfl,bp.of a4,at1 _ _ _,hD,dW (by rw [length_map]; omega),_,_,rfl,?_,bz s nD,ah⟩
    unfold vK
    rw [tk,filter_append,map_append,map_append]
    simp [c]
   ·have c:¬ x.u = "count" := fun e=>c (decide_eq_true (congrArg V.str e))
    refine ⟨_,_,rfl,?_,s,hD⟩
    unfold vK
    rw [tk,filter_append,map_append,map_append]
    simp [c]
  rintro σ ys G ⟨v1,v2,rfl,rfl,s,hD⟩
  rw [length_map,hql,take_length] at hD
  have cl:=tL xs
  refine ⟨D,_,rfl,aZ.of hD,by omega,fun l' us SR hu hnd SU=>⟨l',us,rfl,ah,by omega,fun l2 ms NJ hp Fu=>?_⟩⟩
  have s3:=s.trans (ai (o:=qv P w l' us) SR)
  exact k l2 ms _ (s3.trans (ai NJ)) (s3.free NJ) ah (by rw [hp.length_eq]; omega) (fun j=>by rw [hp.mem_iff,SU])
def Oq:Sp:=fun vs H Q _=>∃ (lw:Addr) (xs:List Wi),vs=[.ref lw]∧i5 H lw xs∧xs.length ≤ 12∧∀ (l:Addr) (d:List (Key × V)) (H':Hp),Same H H'→H l=none→H' l=some (.dK d)→CR d (vK xs) (fun _=>0)→Q (.ref l) H'
theorem Ln:aG ["wishes", "counts", "number"] ["wishes"] (aj cD):=⟨rfl,rfl,rfl,by decide +kernel,rfl,by decide +kernel,by decide +kernel⟩
theorem Ot {f fN:Addr} {fd zr:FuncData} (F:d6 K "nothing_counted" "nothing_counted" cD f fd) (T:Txt K w.params mg) (GN:aM P w K mg base bw 1 fN zr ["wishes", "word"] Om) (kN:KI K fN) (bN:Binds K zr ["wishes", "word"] []) (mN:mg "numbers_of_whats" = some (.ref fN)):aM P w K mg base bw 2 f fd ["wishes"] Oq:=by
 refine F.ok Ln (fun vs H Q E h=>?_) (fun cdv A outer s H vs Q E hr h=>?_)
 ·obtain ⟨lw,xs,rfl,_⟩:=h
  rfl
 ·obtain ⟨lw,xs,rfl,hW,h12,k⟩:=h
  have hu:=cK hr
  refine dA (au (aA (aT (i:=1) Ln.nd rfl (Or.inl rfl) j9))
   (au (aA (gU PassesOwn.never rfl (dS (aN GN hr (by rfl) mN kN bN .nil aW (ae (pv 0) (ae ay ak)))) (cG (i:=2) Ln.nd rfl (Or.inl rfl)) (az (iC hu (pv 1) (pv 2) ao rfl))))
   (aO (aA (aS (pv 1)))))) ?_
  refine fun ld nd=>?_
  have s0:=ai (o:=.dK []) nd
  have hd0:upd H ld (.dK []) ld=some (.dK []):=ah
  generalize upd H ld (.dK [])=G0 at s0 hd0 ⊢
  refine ⟨_,rfl,lw,xs,rfl,hW.same s0,h12,fun ln ms G1 s1 nn hln hm12 hmem=>?_⟩
  have nld:ld ≠ ln:=aw hd0 nn
  refine ⟨ln,rfl,⟨_,aZ.of hln⟩,j6 (K:=K) (a:=ln) (xs:=ms.map V.int) (fun j σ G=>∃ (v:Option V) (d:List (Key × V)),σ=[some (.ref lw),some (.ref ld),v]∧Same H G∧G ln=some (.lst (ms.map V.int))∧G ld=some (.dK d)∧CR d (ms.take j) (fun _=>0)) ?_ ?_ ?_ ?_⟩
  ·exact ⟨none,[],rfl,s0.trans s1,hln,s1 _ _ hd0,CR.nil⟩
  ·rintro j σ G _ ⟨v,d,rfl,s,hn,_⟩
   exact aZ.of hn
  ·rintro j x σ G hx ⟨v,d,rfl,s,hn,hd,hc⟩
   rw [List.getElem?_map] at hx
   obtain ⟨n,hnj,rfl⟩:=map_eq_some_iff.mp hx
   have cl:=hc.len
   rw [length_take] at cl
   refine ⟨_,rfl,_,rfl,ld,_,rfl,oA.k (k:=Sum.inl n) hd (dW (by omega)),_,_,rfl,bz s nd,by rw [aK nld.symm]; exact hn,ah,?_⟩
   have h9:=hc.put (ks':=ms.take (j + 1)) n 0 (fun i=>by rw [take_add_one,hnj,mem_append]; simp [or_comm])
   rw [Ol] at h9
   exact h9
  rintro σ G ⟨v,d,rfl,s,hn,hd,hc⟩
  rw [length_map,take_length] at hc
  exact ⟨_,rfl,k ld d G s nd hd (hc.congr hmem)⟩
end
def cu (d:FR):Rw :=
 if d.u = "stop" then .stop else if d.u = "back" then .back else if d.u = "halt" then .halt (d.is.getD 0 0) else if d.u = "tell" then .tell (d.is.getD 0 0) else if d.u = "table" then .table (d.is.getD 0 0) d.ts
 else if d.u ∈ fX then .fX d.u (d.is.getD 0 0) (d.is.getD 1 0) else if d.u ∈ zb then .zb d.u (d.is.getD 0 0) (d.is.getD 1 0) (d.is.getD 2 0) else .two d.u (d.is.getD 0 0) (d.is.getD 1 0)
theorem vy {d:FR} (h:d.u ∈ fX):cu d=.fX d.u (d.is.getD 0 0) (d.is.getD 1 0):=by
 have a:=(by decide +kernel:∀ u ∈ fX,¬ u = "stop" ∧ ¬ u = "back" ∧ ¬ u = "halt" ∧ ¬ u = "tell" ∧ ¬ u = "table") _ h
 unfold cu
 rw [if_neg a.1,if_neg a.2.1,if_neg a.2.2.1,if_neg a.2.2.2.1,if_neg a.2.2.2.2,if_pos h]
theorem zB {d:FR} (h:d.u ∈ zb):cu d=.zb d.u (d.is.getD 0 0) (d.is.getD 1 0) (d.is.getD 2 0):=by
 have a:=(by decide +kernel:∀ u ∈ zb,¬ u = "stop" ∧ ¬ u = "back" ∧ ¬ u = "halt" ∧ ¬ u = "tell" ∧ ¬ u = "table" ∧ ¬ u ∈ fX) _ h
 unfold cu
 rw [if_neg a.1,if_neg a.2.1,if_neg a.2.2.1,if_neg a.2.2.2.1,if_neg a.2.2.2.2.1,if_neg a.2.2.2.2.2,if_pos h]
theorem vz {d:FR} (h:d.u ∈ ten):cu d=.two d.u (d.is.getD 0 0) (d.is.getD 1 0):=by
 have a:=(by decide +kernel:∀ u ∈ ten,¬ u = "stop" ∧ ¬ u = "back" ∧ ¬ u = "halt" ∧ ¬ u = "tell" ∧ ¬ u = "table" ∧ ¬ u ∈ fX∧¬ u ∈ zb) _ h
 unfold cu
 rw [if_neg a.1,if_neg a.2.1,if_neg a.2.2.1,if_neg a.2.2.2.1,if_neg a.2.2.2.2.1,if_neg a.2.2.2.2.2.1,if_neg a.2.2.2.2.2.2]
theorem tM {d:FR} {b:Int} {r:List Int} {ks:List Str} (hp:iG d) (h:d.is=b :: r) (hk:fZ d.u=("box" : Str) :: ks):Bx b:=by
 have:=hp ("box",b) (by rw [hk,h,zip_cons_cons]; exact List.mem_cons_self)
 have h1:(0:Int) ≤ b:=this.1
 have h2:b ≤ 7:=this.2
 exact ⟨h1,by omega⟩
theorem rw_is {H:Hp} {q:Addr} {d:FR} {n:Int} (h:d9 H q d) (g:GoodR d n):ie H q n (cu d)∧(cu d).word=d.u:=by
 have ht:=g.2.1
 have hp:=g.2.2.2
 obtain ⟨⟨o1,o2,o3,o4,o5,o6,o7⟩,hA⟩:=h
 have Lp:¬ d.u = "table" → H q=some (.tup (.str d.u :: d.is.map V.int)):=fun z=>by
  rcases hA with ⟨a,_⟩ | ⟨_,a⟩
  ·exact absurd a z
  ·exact a
 have cls:=(by decide +kernel:∀ u ∈ iZ,u = "stop" ∨ u = "back" ∨ u = "halt" ∨ u = "tell" ∨ u = "table" ∨ u ∈ fX∨u ∈ zb∨u ∈ ten) _ o1
 rcases cls with hu | hu | hu | hu | hu | hu | hu | hu
 ·have l:=(o5 (by rw [hu]; decide) (by rw [hu]; decide) (by rw [hu]; decide)).2
  rw [hu] at l
  have e1:d.is=[]:=length_eq_zero_iff.mp (l.trans rfl)
  have hq:=Lp (by rw [hu]; decide)
  rw [e1,hu] at hq
  unfold cu
  rw [if_pos hu]
  exact ⟨hq,hu.symm⟩
 ·have l:=(o5 (by rw [hu]; decide) (by rw [hu]; decide) (by rw [hu]; decide)).2
  rw [hu] at l
  have e1:d.is=[]:=length_eq_zero_iff.mp (l.trans rfl)
  have hq:=Lp (by rw [hu]; decide)
  rw [e1,hu] at hq
  unfold cu
  rw [if_neg (by rw [hu]; decide),if_pos hu]
  exact ⟨hq,hu.symm⟩
 ·have l:=(o5 (by rw [hu]; decide) (by rw [hu]; decide) (by rw [hu]; decide)).2
  rw [hu] at l
  obtain ⟨v,e1⟩:=List.length_eq_one_iff.mp (l.trans rfl)
  have hq:=Lp (by rw [hu]; decide)
  rw [e1,hu] at hq
  unfold cu
  rw [if_neg (by rw [hu]; decide),if_neg (by rw [hu]; decide),if_pos hu,e1]
  exact ⟨hq,hu.symm⟩
 ·have l:=(o5 (by rw [hu]; decide) (by rw [hu]; decide) (by rw [hu]; decide)).2
  rw [hu] at l
  obtain ⟨v,e1⟩:=List.length_eq_one_iff.mp (l.trans rfl)
  have hq:=Lp (by rw [hu]; decide)
  have hb:=tM (ks:=[]) hp e1 (by rw [hu]; rfl)
  rw [e1,hu] at hq
  unfold cu
  rw [if_neg (by rw [hu]; decide),if_neg (by rw [hu]; decide),if_neg (by rw [hu]; decide),if_pos hu,e1]
  exact ⟨⟨hq,hb⟩,hu.symm⟩
 ·rcases hA with ⟨_,b,p,e1,h1,h2⟩ | ⟨a,_⟩
  ·have hb:=tM (ks:=["targets"]) hp e1 (by rw [hu]; rfl)
   unfold cu
   rw [if_neg (by rw [hu]; decide),if_neg (by rw [hu]; decide),if_neg (by rw [hu]; decide),if_neg (by rw [hu]; decide),if_pos hu,e1]
   rw [hu] at h1
   exact ⟨⟨p,h1,h2,hb,ht⟩,hu.symm⟩
  ·exact absurd hu a
 ·obtain ⟨t,f,e1,e2⟩:=o3 hu
  have hq:=Lp ((by decide +kernel:∀ u ∈ fX,¬ u = "table") _ hu)
  rw [e1] at hq
  rw [vy hu,e1]
  rw [e2] at ht
  exact ⟨⟨hq,hu,(ht t (by simp)).1,(ht t (by simp)).2⟩,rfl⟩
 ·obtain ⟨b,t,f,e1,e2⟩:=o4 hu
  have hq:=Lp ((by decide +kernel:∀ u ∈ zb,¬ u = "table") _ hu)
  have hb:=tM hp e1 (kz _ hu)
  rw [e1] at hq
  rw [zB hu,e1]
  rw [e2] at ht
  exact ⟨⟨hq,hu,hb,(ht t (by simp)).1,(ht t (by simp)).2⟩,rfl⟩
 ·have a:=(by decide +kernel:∀ u ∈ ten,Q7 u=2∧¬ u = "table" ∧ ¬ u ∈ fX∧¬ u ∈ zb∧(∃ k ∈ (["box", "value", "number", "aside"]:List Str),fZ u=(["box",k]:List Str)∧(u ∈ w2→k = "box"))) _ hu
  obtain ⟨k2,_,ek,ew⟩:=a.2.2.2.2
  obtain ⟨b,v,e1⟩:∃ b v,d.is=[b,v]:=by
   match hh:d.is,(o5 a.2.1 a.2.2.1 a.2.2.2.1).2.trans a.1 with
   | [b,v],_=>exact ⟨b,v,rfl⟩
  have hq:=Lp a.2.1
  have hb:=tM hp e1 ek
  have hv:d.u ∈ w2→Bx v:=fun z=>by
   have hk:=ew z
   subst hk
   have:=hp ("box",v) (by rw [ek,e1]; simp)
   have h1:(0:Int) ≤ v:=this.1
   have h2:v ≤ 7:=this.2
   exact ⟨h1,by omega⟩
  rw [e1] at hq
  rw [vz hu,e1]
  exact ⟨⟨hq,hu,hb,hv⟩,rfl⟩
theorem pq {H:Hp} {lr:Addr} {ds:List FR} (h:eU H lr ds) (g:∀ d ∈ ds,GoodR d (ds.length:Nat)):vw H lr (ds.map cu):=by
 obtain ⟨qs,a,b,c⟩:=h
 refine ⟨qs,a,by rw [length_map,b],fun i q rw h1 h2=>?_⟩
 rw [List.getElem?_map] at h2
 obtain ⟨d,hd,rfl⟩:=map_eq_some_iff.mp h2
 rw [length_map]
 exact (rw_is (c i q d h1 hd) (g d (List.mem_of_getElem? hd))).1
theorem lV {H:Hp} {lr:Addr} {ds:List FR} (h:eU H lr ds) (g:ik ds):∀ rw,(ds.map cu)[(ds.map cu).length - 1]? = some rw→rw.word ∈ cy:=fun rw hrw=>by
 obtain ⟨qs,a,b,c⟩:=h
 obtain ⟨g0,_,g1,d,hd,hn⟩:=g
 rw [length_map,List.getElem?_map,hd] at hrw
 cases hrw
 have hq:qs[ds.length - 1]? = some (qs[ds.length - 1]'(by omega)):=List.getElem?_eq_getElem _
 rw [(rw_is (c _ _ d hq hd) (g1 d (List.mem_of_getElem? hd))).2]
 exact hn
theorem TS.pe {H:Hp} {a:Addr} {m:TA} {B:Nat} {t:Tl} (M:TS H a m B t):∀ c,eY m a c→∃ o,H c=some o:=by
 obtain ⟨wz,oz,_⟩:=M.st
 obtain ⟨pz,sz,_⟩:=M.seen
 obtain ⟨dz,cz,_⟩:=M.cnt
 rintro c (rfl | rfl | rfl | rfl)
 ·exact ⟨_,oz⟩
 ·exact ⟨_,sz⟩
 ·exact ⟨_,cz⟩
 ·exact ⟨_,M.rws⟩
theorem AQ {σ:St} {H1:Hp} {Q:V→Hp→Prop} {te:TE} {xs:List Wi} (h12:xs.length ≤ 12) (hte:∀ (G:Hp) (Q':V→Hp→Prop),Same H1 G→(∀ (l2:Addr) (d:List (Key × V)) (G':Hp),Same G G'→G l2=none→G' l2=some (.dK d)→CR d (vK xs) (fun _=>0)→Q' (.ref l2) G')→te σ G Q')
  (k:∀ (at_:Addr) (mt:TA) (H2:Hp),Same H1 H2→(∀ c,eY mt at_ c→H1 c=none)→TS H2 at_ mt 0 (xk xs)→Q (.ref at_) H2) :
  Ci [(tC (.str "seen"),B7 B6),(tC (.str "counts"),te),(tC (.str "rows"),B7 B6),(tC (.str "ending"),tC .non)] σ H1 Q:=by
 refine fun at_ na=>?_
 refine ⟨sv,fun l1 n1=>?_⟩
 have q0:=ai (o:=.dK []) na
 have q1:=ai (o:=.lst []) n1
 have Tq:=q0.trans q1
 refine hte _ _ Tq fun l2 d G2 q2 n2 hd2 hc2=>?_
 refine ⟨sv,fun l3 n3=>?_⟩
 have q3:=ai (o:=.lst []) n3
 refine ⟨(q1.trans (q2.trans q3)) at_ _ ah,gL kQ [.ref l1,.ref l2,.ref l3,.non],rfl,(show 4 ≤ 15 by decide),?_⟩
 have e4:kQ.length ≤ ([.ref l1,.ref l2,.ref l3,.non]:List V).length:=le_refl 4
 rw [AH ip e4]
 have f1:=(q2.trans q3) l1 _ ah
 have f2:=q3 l2 _ hd2
 have d1:l1 ≠ at_:=(aw ah n1).symm
 have d2:l2 ≠ at_:=(aw (q1 _ _ ah) n2).symm
 have d3:l3 ≠ at_:=(aw ((q1.trans q2) _ _ ah) n3).symm
 have qA:=q0.trans (q1.trans (q2.trans q3))
 refine k at_ ⟨l1,l2,l3⟩ _ (fun c o e=>?_) ?_ ⟨⟨.non,ah,rfl⟩,⟨[],?_,rfl,fun i p c e=>by simp at e⟩,⟨d,?_,hc2,?_⟩,?_,aw (q2 _ _ ah) n3,d2.symm,⟨le_refl _,le_refl _⟩,by decide⟩
 ·rw [aK (aw e na)]
  exact qA _ _ e
 ·rintro c (rfl | rfl | rfl | rfl)
  ·exact na
  ·exact q0.free n1
  ·exact Tq.free n2
  ·exact (Tq.trans q2).free n3
 ·rw [aK d1]
  exact f1
 ·rw [aK d2]
  exact f2
 ·have a:=hc2.len
  have b:=tL xs
  omega
 ·rw [aK d3]
  exact ah
inductive L4 (X:Cx) (pos:Pos):List (Option Expr)→List Expr→List (TE × TE)→Prop where
 | nil:L4 X pos [] [] []
 | cons {k v:Expr} {ks:List (Option Expr)} {vs:List Expr} {tk tv:TE} {ur:List (TE × TE)} (hk:PE X k tk) (hv:PE X v tv) (hr:L4 X pos ks vs ur):L4 X pos (some k :: ks) (v :: vs) ((tk,tv) :: ur)
theorem L4.pps {X:Cx} {pos:Pos} {ks:List (Option Expr)} {vs:List Expr} {ur:List (TE × TE)} (h:L4 X pos ks vs ur):MK X pos ks vs ur:=by
 induction h with
 | nil=>exact yz
 | cons hk hv _ ih=>exact oB hk hv ih
theorem DR {X:Cx} {pos:Pos} {keys:List (Option Expr)} {values:List Expr} {ur:List (TE × TE)} (h:L4 X pos keys values ur) (hall:keys.all (·.isSome)=true) (hl:keys.length=values.length) (h0:keys ≠ []) (h15:keys.length ≤ 15):LZ X (.Dict keys values pos) (Ci ur):=by
 unfold LZ
 exact yA h.pps hall hl h0 h15
def PsI (C:Addr) (ring:Int→Bool) (rws:List Rw) (xs:List Wi) (most:Nat) (F:Tl) (H:Hp) (x:Addr) (m:MA) (rows:List V) (aq:List (Key × V)) (at_:Addr) (mt:TA) (lh:Addr) (i:Nat) (G:Hp):Prop:=∃ (z:Zt) (t:Tl) (ws:List Wi) (hs:List Addr),i ≤ most∧Keeps (fun c=>eY mt at_ c∨Own m x c) H G∧MG C G x m rows aq (50 + i) z∧TS G at_ mt (26 * i) t∧t.ks=vK xs∧G lh=some (.lst (hs.map V.ref))∧uv G hs ws∧¬ eY mt at_ lh∧ws.length ≤ 24∧(∀ y ∈ ws,y ∈ xs)∧(t.en=none→t.rows.length=i∧Up rws z∧gX rws.length z∧F=gM ring rws xs (most - i) z t ws)∧(¬ t.en=none→F=t)
theorem zC {xs:List Wi} {l s:Int}:(tJ xs l s).length ≤ 2 * xs.length∧∀ y ∈ tJ xs l s,y ∈ xs:=by
 unfold tJ
 refine ⟨?_,fun y hy=>?_⟩
 ·rw [length_append]
  have h1:=length_filter_le (kJ l s) xs
  have h2:=length_filter_le (gg s) xs
  omega
 ·rcases mem_append.mp hy with z | z
  ·exact (mem_filter.mp z).1
  ·exact (mem_filter.mp z).1
theorem zD {bs:List Int} {ws:List Wi} {s:Int} {t:Tl} (h:(cB bs t ws).en=none):come bs ws s t={ cB bs t ws with rows:=(cB bs t ws).rows ++ [s] }:=if_pos h
theorem HA {bs:List Int} {ws:List Wi} {s:Int} {t:Tl} (h:¬ (cB bs t ws).en=none):come bs ws s t=cB bs t ws:=if_neg h
section
variable {ring:Int→Bool} {rws:List Rw} {xs:List Wi}
def arr (ring:Int→Bool) (rws:List Rw):Nat→Zt→Option Int→List (Option Int × Int)
 | 0,_,_=>[]
 | n + 1,z,l=>(l,bh z) :: if n ≠ 0∧(df ring rws z).how=none then arr ring rws n (df ring rws z) (some (xj (jD rws z) (bh z) (bh (df ring rws z)))) else []
def fin (ring:Int→Bool) (rws:List Rw):Nat→Zt→Option (List V)
 | 0,_=>none
 | n + 1,z=>if n ≠ 0 then (if (df ring rws z).how=none then fin ring rws n (df ring rws z) else (df ring rws z).how) else none
def qj (xs:List Wi) (a:Option Int × Int):List Wi:=match a.1 with
 | none=>xs.filter (gg a.2)
 | some l=>tJ xs l a.2
def cW (u:Str) (ws:List Wi) (j:Int):Nat:=(ws.filter fun x=>decide (x.u=u∧x.n=j)).length
def Lq (xs:List Wi):Prop:=∀ x ∈ xs,x.u = "look" ∨ x.u = "count"
def jX (t:Tl) (j:Int):Nat:=(t.sn.filter fun p=>decide (p.1=j)).length
theorem jy {u:Str} {x:Wi} {r:List Wi} {j:Int}:cW u (x :: r) j=(if x.u=u∧x.n=j then 1 else 0) + cW u r j:=by
 unfold cW
 rw [filter_cons]
 by_cases c:x.u=u∧x.n=j
 ·rw [if_pos (decide_eq_true c),if_pos c,length_cons]
  omega
 ·rw [if_neg (by rw [decide_eq_false c]; decide),if_neg c]
  omega
theorem Lr {u:Str} {a b:List Wi} {j:Int}:cW u (a ++ b) j=cW u a j + cW u b j:=by
 unfold cW
 rw [filter_append,length_append]
theorem AR {t:Tl} {p:Int × Int} {j:Int}:jX { t with sn:=t.sn ++ [p] } j=jX t j + if p.1=j then 1 else 0:=by
 unfold jX
 show ((t.sn ++ [p]).filter _).length=_
 rw [filter_append,length_append]
 by_cases c:p.1=j
 ·rw [if_pos c]; simp [c]
 ·rw [if_neg c]; simp [c]
theorem pA {bs:List Int}:∀ (ws:List Wi) (t:Tl),Lq ws→t.en=none→(cB bs t ws).en=none∧(∀ j,(cB bs t ws).cf j=t.cf j + (cW "count" ws j:Nat))∧∀ j,jX (cB bs t ws) j=jX t j + cW "look" ws j
 | [],t,_,h=>⟨h,fun j=>by show t.cf j=t.cf j + ((0:Nat):Int); omega,fun j=>rfl⟩
 | x :: r,t,hg,h=>by
  have e:cB bs t (x :: r)=cB bs (gY bs t x) r:=by
   show cB bs (if t.en=none then gY bs t x else t) r=_
   rw [if_pos h]
  have hr:Lq r:=fun y hy=>hg y (by simp [hy])
  rcases hg x (by simp) with hu | hu
  ·have es:gY bs t x={ t with sn:=t.sn ++ [(x.n,zv bs x.b)] }:=if_pos hu
   obtain ⟨a,b,c⟩:=pA r (gY bs t x) hr (by rw [es]; exact h)
   rw [e]
   refine ⟨a,fun j=>?_,fun j=>?_⟩
   ·rw [b j,es,jy,if_neg (by rw [hu]; intro z; exact absurd z.1 (by decide +kernel)),zero_add]
   ·rw [c j,es,AR,jy]
    by_cases q:x.n=j
    ·rw [if_pos q,if_pos ⟨hu,q⟩]; omega
    ·rw [if_neg q,if_neg (fun z=>q z.2)]; omega
  ·have es:gY bs t x={ t with cf:=iU t.cf x.n (t.cf x.n + 1) }:=by
    unfold gY
    rw [if_neg (by rw [hu]; decide +kernel),if_pos hu]
   obtain ⟨a,b,c⟩:=pA r (gY bs t x) hr (by rw [es]; exact h)
   rw [e]
   refine ⟨a,fun j=>?_,fun j=>?_⟩
   ·rw [b j,es,jy]
    show iU t.cf x.n (t.cf x.n + 1) j + _=_
    unfold iU
    by_cases q:x.n=j
    ·rw [if_pos q.symm,if_pos ⟨hu,q⟩,q]; omega
    ·rw [if_neg (fun z=>q z.symm),if_neg (fun z=>q z.2)]; omega
   ·rw [c j,es,jy,if_neg (by rw [hu]; intro z; exact absurd z.1 (by decide +kernel)),zero_add]
    rfl
theorem HB {r:Rw} {bs:List Int} {t:Tl} (h:¬ r.word = "see"):mU r bs t=t:=by
 cases r with
 | two u b v=>exact if_neg h
 | _=>rfl
theorem DS (hs:∀ rw ∈ rws,¬ rw.word = "see") (z:Zt):¬ (jD rws z).word = "see" := by
 unfold jD
 rw [List.getD_eq_getElem?_getD]
 cases e:rws[(bh z).toNat]? with
 | none=>show ¬ ("stop" : Str) = "see"; decide +kernel
 | some rw=>exact hs rw (List.mem_of_getElem? e)
theorem Ls (hx:Lq xs) (a:Option Int × Int):Lq (qj xs a):=fun y hy=>by
 refine hx y ?_
 unfold qj at hy
 split at hy
 ·exact (mem_filter.mp hy).1
 ·exact zC.2 y hy
theorem nV (hx:Lq xs) (hs:∀ rw ∈ rws,¬ rw.word = "see"):∀ (n:Nat) (z:Zt) (t:Tl) (l:Option Int),t.en=none →
  (gM ring rws xs n z t (qj xs (l,bh z))).rows=t.rows ++ (arr ring rws n z l).map (·.2)∧(gM ring rws xs n z t (qj xs (l,bh z))).en=fin ring rws n z ∧
  (∀ j,(gM ring rws xs n z t (qj xs (l,bh z))).cf j=t.cf j + (((arr ring rws n z l).map fun a=>cW "count" (qj xs a) j).sum:Nat)) ∧
  ∀ j,jX (gM ring rws xs n z t (qj xs (l,bh z))) j=jX t j + ((arr ring rws n z l).map fun a=>cW "look" (qj xs a) j).sum
 | 0,z,t,l,h=>⟨by show t.rows=t.rows ++ []; simp,h,fun j=>by show t.cf j=t.cf j + ((0:Nat):Int); omega,fun j=>rfl⟩
 | n + 1,z,t,l,h=>by
  obtain ⟨a1,a2,a3⟩:=pA (bs:=z.bs) (qj xs (l,bh z)) t (Ls hx _) h
  rw [vx,zD a1]
  have rs:(cB z.bs t (qj xs (l,bh z))).rows=t.rows:=gJ.2
  generalize hw:qj xs (l,bh z)=w at a1 a2 a3 rs
  obtain ⟨t1,L5⟩:∃ t1:Tl,t1={ cB z.bs t w with rows:=(cB z.bs t w).rows ++ [bh z] }:=⟨_,rfl⟩
  rw [← L5]
  have b1:t1.en=none:=by rw [L5]; exact a1
  have b2:∀ j,t1.cf j=t.cf j + (cW "count" w j:Nat):=by rw [L5]; exact a2
  have b3:∀ j,jX t1 j=jX t j + cW "look" w j:=by rw [L5]; exact a3
  have b4:t1.rows=t.rows ++ [bh z]:=by rw [L5]; show _ ++ _=_; rw [rs]
  clear L5 a1 a2 a3 rs
  have eT:nextT ring rws z t1={ t1 with en:=(df ring rws z).how }:=by unfold nextT; rw [HB (DS hs z)]
  unfold Jg arr fin
  by_cases hn:n=0
  ·subst hn
   rw [if_neg (fun y=>y.2 rfl),if_neg (fun y=>y.1 rfl),if_neg (fun y=>y rfl)]
   refine ⟨by rw [b4]; rfl,b1,fun j=>?_,fun j=>?_⟩
   ·rw [b2]
    show _=t.cf j + ((cW "count" (qj xs (l,bh z)) j + 0:Nat):Int)
    rw [hw]
    rfl
   ·rw [b3]
    show _=jX t j + (cW "look" (qj xs (l,bh z)) j + 0)
    rw [hw]
    rfl
  rw [if_pos ⟨b1,hn⟩,if_pos hn]
  by_cases hh:(df ring rws z).how=none
  ·rw [if_pos hh,if_pos ⟨hn,hh⟩,if_pos hh]
   have ih:=nV hx hs n (df ring rws z) (nextT ring rws z t1) (some (xj (jD rws z) (bh z) (bh (df ring rws z)))) (by rw [eT]; exact hh)
   obtain ⟨c1,c2,c3,c4⟩:=ih
   have ew:qj xs (some (xj (jD rws z) (bh z) (bh (df ring rws z))),bh (df ring rws z))=rK ring rws xs z:=rfl
   rw [ew] at c1 c2 c3 c4
   refine ⟨?_,c2,fun j=>?_,fun j=>?_⟩
   ·rw [c1,eT]
    show t1.rows ++ _=_
    rw [b4,List.append_assoc]
    rfl
   ·rw [c3 j,eT]
    show t1.cf j + _=_
    rw [b2 j,map_cons,sum_cons,hw]
    omega
   ·rw [c4 j,eT]
    show jX t1 j + _=_
    rw [b3 j,map_cons,sum_cons,hw]
    omega
  ·rw [if_neg hh,if_neg (fun y=>hh y.2),if_neg hh,eT]
   refine ⟨by show t1.rows=_; rw [b4]; rfl,rfl,fun j=>?_,fun j=>?_⟩
   ·show t1.cf j=t.cf j + ((cW "count" (qj xs (l,bh z)) j + 0:Nat):Int)
    rw [b2,hw]
    rfl
   ·show jX t1 j=jX t j + (cW "look" (qj xs (l,bh z)) j + 0)
    rw [b3,hw]
    rfl
end
def i6 (p:List Da) (a:Option Int × Int):Bool:=decide (p=du a.2) || match a.1 with
 | none=>false
 | some l=>decide (p=fq l) || decide (p=cj l a.2)
def hits (A:List (Option Int × Int)) (p:List Da):Nat:=(A.filter (i6 p)).length
theorem zE {α:Type} {P:α→Bool}:∀ (A:List α),(A.map fun a=>if P a=true then 1 else 0).sum=(A.filter P).length
 | []=>rfl
 | a :: A=>by
  rw [map_cons,sum_cons,zE A,filter_cons]
  split
  ·rw [length_cons]; omega
  ·omega
theorem HC {u:Str} {xs:List Wi} {j:Int} (h:¬ j ∈ xs.map (·.n)) (P:Wi→Bool):cW u (xs.filter P) j=0:=by
 unfold cW
 rw [length_eq_zero_iff,List.filter_eq_nil_iff]
 intro x hx z
 exact h (mem_map.mpr ⟨x,(mem_filter.mp hx).1,(of_decide_eq_true z).2⟩)
theorem tN {u:Str} {x:Wi} {P:Wi→Bool}:∀ {xs:List Wi},(xs.map (·.n)).Nodup→(∀ y ∈ xs,y.u=u)→x ∈ xs→cW u (xs.filter P) x.n=if P x=true then 1 else 0
 | [],_,_,h=>by simp at h
 | y :: r,hn,hu,h=>by
  rw [map_cons,nodup_cons] at hn
  rcases mem_cons.mp h with rfl | h
  ·have h0:=HC (u:=u) hn.1 P
   rw [filter_cons]
   by_cases c:P x=true
   ·rw [if_pos c,if_pos c,jy,if_pos ⟨hu x (by simp),rfl⟩,h0]
   ·rw [if_neg c,if_neg c,h0]
  ·have ih:=tN (P:=P) hn.2 (fun y hy=>hu y (by simp [hy])) h
   have ne:¬ y.n=x.n:=fun z=>hn.1 (by rw [z]; exact mem_map.mpr ⟨x,h,rfl⟩)
   rw [filter_cons]
   by_cases c:P y=true
   ·rw [if_pos c,jy,if_neg (fun z=>ne z.2),ih]; omega
   ·rw [if_neg c,ih]
theorem xl {a b:Str} {r q:List Da} (h:Da.str a :: r=Da.str b :: q):a=b:=Da.str.inj (List.cons.inj h).1
theorem nW (r l:Int):¬ du r=fq l:=fun z=>absurd (xl (show Da.str "before" :: _=Da.str "after" :: _ from z)) (by decide +kernel)
theorem nX (r l s:Int):¬ du r=cj l s:=fun z=>absurd (xl (show Da.str "before" :: _=Da.str "way" :: _ from z)) (by decide +kernel)
theorem zF (r l s:Int):¬ fq r=cj l s:=fun z=>absurd (xl (show Da.str "after" :: _=Da.str "way" :: _ from z)) (by decide +kernel)
theorem Lv {u:Str} {xs:List Wi} {x:Wi} (hn:(xs.map (·.n)).Nodup) (hu:∀ y ∈ xs,y.u=u) (hx:x ∈ xs) (a:Option Int × Int):cW u (qj xs a) x.n=if i6 x.p a=true then 1 else 0:=by
 obtain ⟨o,s⟩:=a
 cases o with
 | none =>
  show cW u (xs.filter (gg s)) x.n=_
  rw [tN hn hu hx]
  congr 1
  show (decide (x.p=du s)=true)=((decide (x.p=du s) || false)=true)
  rw [Bool.or_false]
 | some l =>
  show cW u (xs.filter (kJ l s) ++ xs.filter (gg s)) x.n=_
  rw [Lr,tN hn hu hx,tN hn hu hx]
  have eh:i6 x.p (some l,s)=(gg s x || kJ l s x):=rfl
  rw [eh]
  cases h1:gg s x with
  | false=>cases h2:kJ l s x <;> rfl
  | true =>
   have e:x.p=du s:=of_decide_eq_true h1
   have h2:kJ l s x=false:=by
    unfold kJ
    rw [e,decide_eq_false (nW s l),decide_eq_false (nX s l s)]
    rfl
   rw [h2]
   rfl
theorem vA {u:Str} {xs:List Wi} {x:Wi} (hn:(xs.map (·.n)).Nodup) (hu:∀ y ∈ xs,y.u=u) (hx:x ∈ xs) (A:List (Option Int × Int)):(A.map fun a=>cW u (qj xs a) x.n).sum=hits A x.p:=by
 rw [show (fun a=>cW u (qj xs a) x.n)=fun a=>if i6 x.p a=true then 1 else 0 from funext fun a=>Lv hn hu hx a]
 exact zE A
def Rw.tg:Rw→List Int
 | .fX _ t _=>[t]
 | .zb _ _ t _=>[t]
 | .table _ ts=>ts
 | _=>[]
def isW (r:Rw) (i s:Int):Prop:=s ∈ r.tg∨(r.goes∧s=i + 1)
def Tr (rws:List Rw) (z:Zt):Prop:=∀ p ∈ z.pile,∃ (q:Nat) (rw:Rw),p=(q:Int) + 1∧rws[q]? = some rw∧(rw.word = "call" ∨ rw.word = "mark")
def Val (rws:List Rw) (a:Option Int × Int):Prop:=∀ l,a.1=some l→∃ (q:Nat) (rw:Rw),l=(q:Int)∧rws[q]? = some rw∧isW rw q a.2
theorem Lw {r:Rw} {h s:Int} (hb:¬ r.word = "back"):xj r h s=h:=if_neg hb
theorem DT {ring:Int→Bool} {rws:List Rw} {z:Zt} {h:Nat} {r:Rw} {H:Hp} {q:Addr} {n s:Int} (hp:Tr rws z) (hr:rws[h]? = some r) (hi:ie H q n r) (hs:(aX ring r h z).here=.int s) :
  Tr rws (aX ring r h z)∧Val rws (some (xj r h s),s):=by
 have own:¬ r.word = "back" → isW r h s→Val rws (some (xj r h s),s):=fun hb hw l e=>by
  cases e
  exact ⟨h,r,Lw hb,hr,hw⟩
 cases r with
 | stop=>cases hs
 | halt v=>cases hs
 | back =>
  rcases eq_nil_or_concat z.pile with e | ⟨r0,p,e⟩
  ·rw [ig e] at hs
   cases hs
  ·have e:z.pile=r0 ++ [p]:=by simpa using e
   rw [kF e] at hs ⊢
   have es:p=s:=V.int.inj hs
   refine ⟨fun p' hp'=>hp p' (by rw [e]; exact List.mem_append_left _ hp'),fun l el=>?_⟩
   cases el
   obtain ⟨q',lK,e1,e2,e3⟩:=hp p (by rw [e]; simp)
   refine ⟨q',lK,?_,e2,.inr ⟨?_,es ▸ e1⟩⟩
   ·show (if ("back" : Str) = "back" then s - 1 else _)=_
    rw [if_pos rfl]
    omega
   ·show ¬ lK.word ∈ cy
    rcases e3 with e3 | e3 <;> rw [e3] <;> decide +kernel
 | two u b v =>
  have hu:=(by decide +kernel:∀ u ∈ ten,¬ u ∈ cy∧¬ u = "back") u hi.2.1
  have go:∀ s:Int,s=(h:Int) + 1→isW (.two u b v) h s:=fun s e=>.inr ⟨hu.1,e⟩
  simp only [aX] at hs ⊢
  split at hs
  ·rename_i c; rw [if_pos c]; cases hs; exact ⟨hp,own hu.2 (go _ rfl)⟩
  rename_i c1
  rw [if_neg c1]
  split at hs
  ·rename_i c; rw [if_pos c]; cases hs; exact ⟨hp,own hu.2 (go _ rfl)⟩
  rename_i c2
  rw [if_neg c2]
  split at hs
  ·rename_i c; rw [if_pos c]; cases hs; exact ⟨hp,own hu.2 (go _ rfl)⟩
  rename_i c3
  rw [if_neg c3]
  cases hs
  exact ⟨hp,own hu.2 (go _ rfl)⟩
 | tell b =>
  cases hs
  exact ⟨hp,own (show ¬ ("tell" : Str) = "back" by decide +kernel) (.inr ⟨show ¬ ("tell" : Str) ∈ cy by decide +kernel,rfl⟩)⟩
 | fX u t f =>
  have hu:=(by decide +kernel:∀ u ∈ My.fX,¬ u = "back" ∧ (u = "jump" ∨ u = "call" ∨ u = "mark")) u hi.2.1
  have tg:isW (.fX u t f) h t:=.inl (mem_singleton.mpr rfl)
  have pl:u = "call" ∨ u = "mark" → ∀ p ∈ z.pile ++ [(h:Int) + 1],∃ (q:Nat) (rw:Rw),p=(q:Int) + 1∧rws[q]? = some rw∧(rw.word = "call" ∨ rw.word = "mark"):=fun hu p hp'=>by
   rcases mem_append.mp hp' with z1 | z1
   ·exact hp p z1
   ·exact ⟨h,_,mem_singleton.mp z1,hr,hu⟩
  simp only [aX] at hs ⊢
  split at hs
  ·rename_i c; rw [if_pos c]; cases hs; exact ⟨hp,own hu.1 tg⟩
  rename_i c1
  rw [if_neg c1]
  split at hs
  ·rename_i c; rw [if_pos c]; cases hs; exact ⟨pl (.inl c),own hu.1 tg⟩
  rename_i c2
  rw [if_neg c2]
  have hm:u = "mark" := by rcases hu.2 with e | e | e; exact absurd e c1; exact absurd e c2; exact e
  split at hs
  ·rename_i c; rw [if_pos c]; cases hs; exact ⟨pl (.inr hm),own hu.1 tg⟩
  ·rename_i c; rw [if_neg c]; cases hs; exact ⟨hp,own hu.1 (.inr ⟨show ¬ u ∈ cy by rw [hm]; decide +kernel,rfl⟩)⟩
 | zb u b t f =>
  have hu:=(by decide +kernel:∀ u ∈ My.zb,¬ u = "back" ∧ ¬ u ∈ cy) u hi.2.1
  have hs:V.int (if (u = "zero" ∧ z.bx b=0)∨(u = "below" ∧ z.bx b < 0) then t else (h:Int) + 1)=.int s:=hs
  refine ⟨hp,own hu.1 ?_⟩
  split at hs
  ·cases hs; exact .inl (mem_singleton.mpr rfl)
  ·cases hs; exact .inr ⟨hu.2,rfl⟩
 | table b ts =>
  have hs:V.int (if 0 ≤ z.bx b∧z.bx b < ts.length then ts.getD (z.bx b).toNat 0 else (h:Int) + 1)=.int s:=hs
  refine ⟨hp,own (show ¬ ("table" : Str) = "back" by decide +kernel) ?_⟩
  split at hs
  ·rename_i c
   cases hs
   refine .inl ?_
   show ts.getD (z.bx b).toNat 0 ∈ ts
   have hl:(z.bx b).toNat < ts.length:=by omega
   rw [List.getD_eq_getElem?_getD,List.getElem?_eq_getElem hl]
   exact List.getElem_mem hl
  ·cases hs; exact .inr ⟨show ¬ ("table" : Str) ∈ cy by decide +kernel,rfl⟩
theorem zG {ring:Int→Bool} {rws:List Rw} {H:Hp} {lr:Addr} (hR:vw H lr rws) (DU:∀ rw,rws[rws.length - 1]? = some rw→rw.word ∈ cy):∀ (n:Nat) (z:Zt) (l:Option Int),Up rws z→gX rws.length z→Tr rws z→Val rws (l,bh z)→∀ a ∈ arr ring rws n z l,Val rws a
 | 0,_,_,_,_,_,_,a,h=>by simp [arr] at h
 | n + 1,z,l,⟨hn,r,DV,hrn⟩,hst,hp,hv,a,h=>by
  unfold arr at h
  rcases mem_cons.mp h with rfl | h
  ·exact hv
  split at h
  rotate_left
  ·simp at h
  rename_i c
  have hI:bh z=r:=by unfold bh; rw [DV]
  have hwr:rws[r]? = some rws[r]:=List.getElem?_eq_getElem hrn
  have hOf:jD rws z=rws[r]:=by unfold jD; rw [hI,Int.toNat_natCast,List.getD_eq_getElem?_getD,hwr]; rfl
  obtain ⟨qs,hq,hql,N6⟩:=id hR
  have hqr:qs[r]? = some (qs[r]'(by omega)):=List.getElem?_eq_getElem _
  have AT:=N6 r _ _ hqr hwr
  have mn:r + 1=rws.length→rws[r].word ∈ cy:=fun e=>DU _ (by rw [show rws.length - 1=r by omega]; exact hwr)
  generalize rws[r]=rw at hwr hOf AT mn
  have eZ:df ring rws z=aX ring rw r z:=by unfold df; rw [hOf,hI]
  have hst':=hst.step (ring:=ring) hrn AT mn
  rw [eZ,hOf,hI] at h
  rw [eZ] at c
  rcases zA (ring:=ring) (r:=rw) (h:=r) (z:=z) hn with ⟨_,ys,e2⟩ | ⟨⟨s,e1⟩,e2⟩
  ·rw [e2] at c
   cases c.2
  have hs:bh (aX ring rw r z)=s:=by unfold bh; rw [e1]
  obtain ⟨w1,w2⟩:=DT (ring:=ring) hp hwr AT e1
  refine zG hR DU n _ _ ⟨e2,?_⟩ hst' w1 ?_ a h
  ·rcases hst'.1 with y | ⟨r',y1,y2⟩
   ·rw [e1] at y; cases y
   ·exact ⟨r',y1,y2⟩
  ·rw [hs]
   exact w2
theorem tO (l:Int):∀ (Q:List Int),Q.Nodup→(Q.map fun q=>if q=l then 1 else 0).sum=if l ∈ Q then 1 else 0
 | [],_=>by simp
 | q :: Q,h=>by
  rw [nodup_cons] at h
  rw [map_cons,sum_cons,tO l Q h.2]
  by_cases c:q=l
  ·subst c
   rw [if_pos rfl,if_neg h.1,if_pos (by simp)]
  ·rw [if_neg c]
   by_cases d:l ∈ Q
   ·rw [if_pos d,if_pos (by simp [d])]
   ·rw [if_neg d,if_neg (by simp [d]; exact fun z=>c z.symm)]
theorem sum_add {f g:Int→Nat}:∀ (Q:List Int),(Q.map fun q=>f q + g q).sum=(Q.map f).sum + (Q.map g).sum
 | []=>rfl
 | q :: Q=>by
  rw [map_cons,sum_cons,map_cons,sum_cons,map_cons,sum_cons,sum_add Q]
  omega
theorem iq:∀ (Q:List Int),(Q.map fun _=>0).sum=0
 | []=>rfl
 | q :: Q=>by rw [map_cons,sum_cons,iq Q]
theorem pB {p:List Da} {f:Int→List Da} {Q:List Int}:∀ (A:List (Option Int × Int)),(∀ a ∈ A,(Q.map fun q=>if i6 (f q) a=true then 1 else 0).sum=if i6 p a=true then 1 else 0)→(Q.map fun q=>hits A (f q)).sum=hits A p
 | [],_=>iq Q
 | a :: A,h=>by
  have e:∀ p:List Da,hits (a :: A) p=(if i6 p a=true then 1 else 0) + hits A p:=fun p=>by
   unfold hits
   rw [filter_cons]
   split
   ·rw [length_cons]; omega
   ·omega
  rw [show (fun q=>hits (a :: A) (f q))=fun q=>(if i6 (f q) a=true then 1 else 0) + hits A (f q) from funext fun q=>e _,sum_add,e p,h a (by simp),pB A fun b hb=>h b (by simp [hb])]
theorem nY (q r:Int) (l s:Int):i6 (cj q r) (some l,s)=decide (q=l∧r=s):=by
 show (decide (cj q r=du s) || (decide (cj q r=fq l) || decide (cj q r=cj l s)))=_
 rw [decide_eq_false (show ¬ cj q r=du s from fun z=>nX s q r z.symm),decide_eq_false (show ¬ cj q r=fq l from fun z=>zF l q r z.symm),Bool.false_or,Bool.false_or]
 refine decide_eq_decide.mpr ⟨fun z=>?_,fun z=>by rw [z.1,z.2]⟩
 have h1:=(List.cons.inj z).2
 have h2:=List.cons.inj h1
 exact ⟨Da.int.inj h2.1,Da.int.inj (List.cons.inj h2.2).1⟩
theorem vB (q r s:Int):i6 (cj q r) (none,s)=false:=by
 show (decide (cj q r=du s) || false)=false
 rw [decide_eq_false (show ¬ cj q r=du s from fun z=>nX s q r z.symm)]
 rfl
theorem tP (r:Int) (a:Option Int × Int):i6 (du r) a=decide (r=a.2):=by
 obtain ⟨o,s⟩:=a
 have e:decide (du r=du s)=decide (r=s):=decide_eq_decide.mpr ⟨fun z=>Da.int.inj (List.cons.inj (List.cons.inj z).2).1,fun z=>by rw [z]⟩
 cases o with
 | none =>
  show (decide (du r=du s) || false)=_
  rw [Bool.or_false,e]
 | some l =>
  show (decide (du r=du s) || (decide (du r=fq l) || decide (du r=cj l s)))=_
  rw [decide_eq_false (nW r l),decide_eq_false (nX r l s),Bool.false_or,Bool.or_false,e]
theorem HE (r:Int) (a:Option Int × Int):i6 (fq r) a=decide (a.1=some r):=by
 obtain ⟨o,s⟩:=a
 cases o with
 | none =>
  show (decide (fq r=du s) || false)=decide (none=some r)
  rw [decide_eq_false (show ¬ fq r=du s from fun z=>nW s r z.symm)]
  rfl
 | some l =>
  show (decide (fq r=du s) || (decide (fq r=fq l) || decide (fq r=cj l s)))=decide (some l=some r)
  rw [decide_eq_false (show ¬ fq r=du s from fun z=>nW s r z.symm),decide_eq_false (zF r l s),Bool.false_or,Bool.or_false]
  exact decide_eq_decide.mpr ⟨fun z=>by rw [Da.int.inj (List.cons.inj (List.cons.inj z).2).1],fun z=>by rw [Option.some.inj z]⟩
theorem HF {rws:List Rw} {A:List (Option Int × Int)} {r:Nat} {rw:Rw} {ms:List Int} (hv:∀ a ∈ A,Val rws a) (hr:rws[r]? = some rw) (hn:ms.Nodup) (hm:∀ j,j ∈ ms↔isW rw r j):(ms.map fun s=>hits A (cj r s)).sum=hits A (fq r):=by
 refine pB (f:=fun s=>cj r s) A fun a ha=>?_
 obtain ⟨o,s⟩:=a
 rw [HE]
 cases o with
 | none =>
  rw [show (fun q:Int=>if i6 (cj r q) (none,s)=true then 1 else 0)=fun _=>0 from funext fun q=>by rw [vB]; rfl,iq]
  rfl
 | some l =>
  by_cases c:l=r
  ·subst c
   rw [show (fun q:Int=>if i6 (cj r q) (some (r:Int),s)=true then 1 else 0)=fun q=>if q=s then 1 else 0 from funext fun q=>by rw [nY]; simp,tO _ _ hn]
   obtain ⟨q,lK,e1,e2,e3⟩:=hv _ ha _ rfl
   have e1:r=q:=by exact Int.ofNat.inj e1
   subst e1
   rw [hr] at e2
   cases e2
   rw [if_pos ((hm s).mpr e3)]
   simp
  ·rw [show (fun q:Int=>if i6 (cj r q) (some l,s)=true then 1 else 0)=fun _=>0 from funext fun q=>by rw [nY,decide_eq_false (fun z=>c z.1.symm)]; rfl,iq,decide_eq_false (fun z=>c (Option.some.inj z))]
   rfl
theorem Lx {rws:List Rw} {B:List (Option Int × Int)} {r:Int} {Q:List Int} (hv:∀ a ∈ B,Val rws a) (hb:∀ a ∈ B,∃ l,a.1=some l) (hn:Q.Nodup) (hm:∀ (q:Nat) rw,rws[q]? = some rw→isW rw q r→(q:Int) ∈ Q):(Q.map fun q=>hits B (cj q r)).sum=hits B (du r):=by
 refine pB (f:=fun q=>cj q r) B fun a ha=>?_
 obtain ⟨l,hl⟩:=hb a ha
 obtain ⟨o,s⟩:=a
 have hl:o=some l:=hl
 subst hl
 rw [tP]
 by_cases c:r=s
 ·subst c
  rw [show (fun q:Int=>if i6 (cj q r) (some l,r)=true then 1 else 0)=fun q=>if q=l then 1 else 0 from funext fun q=>by rw [nY]; simp,tO _ _ hn]
  obtain ⟨q,lK,e1,e2,e3⟩:=hv _ ha _ rfl
  rw [if_pos (by rw [show l=q from e1]; exact hm q lK e2 e3)]
  simp
 ·rw [show (fun q:Int=>if i6 (cj q r) (some l,s)=true then 1 else 0)=fun _=>0 from funext fun q=>by rw [nY,decide_eq_false (fun z=>c z.2)]; rfl,iq,decide_eq_false (show ¬ r=(some l,s).2 from c)]
  rfl
theorem vC {ring:Int→Bool} {rws:List Rw}:∀ (n:Nat) (z:Zt) (l:Int),∀ a ∈ arr ring rws n z (some l),∃ l,a.1=some l
 | 0,_,_,a,h=>by simp [arr] at h
 | n + 1,z,l,a,h=>by
  unfold arr at h
  rcases mem_cons.mp h with rfl | h
  ·exact ⟨l,rfl⟩
  split at h
  ·exact vC n _ _ a h
  ·simp at h
theorem DW {ring:Int→Bool} {rws:List Rw} {z:Zt} {r:Int} {Q:List Int} (n:Nat) (h0:bh z=0) (hv:∀ a ∈ arr ring rws n z none,Val rws a) (hn:Q.Nodup) (hm:∀ (q:Nat) rw,rws[q]? = some rw→isW rw q r→(q:Int) ∈ Q):(Q.map fun q=>hits (arr ring rws n z none) (cj q r)).sum + (if r=0∧0 < n then 1 else 0)=hits (arr ring rws n z none) (du r):=by
 cases n with
 | zero =>
  show (Q.map fun q=>0).sum + _=0
  rw [iq,if_neg (fun z=>absurd z.2 (by decide))]
 | succ n =>
  unfold arr at hv ⊢
  generalize hB:(if n ≠ 0∧(df ring rws z).how=none then arr ring rws n (df ring rws z) (some (xj (jD rws z) (bh z) (bh (df ring rws z)))) else [])=B at hv ⊢
  have hb:∀ a ∈ B,∃ l,a.1=some l:=fun a ha=>by
   rw [← hB] at ha
   split at ha
   ·exact vC _ _ _ a ha
   ·simp at ha
  have e:=Lx (r:=r) (fun a ha=>hv a (by simp [ha])) hb hn hm
  have e1:∀ q,hits ((none,bh z) :: B) (cj q r)=hits B (cj q r):=fun q=>by
   unfold hits
   rw [filter_cons,if_neg (by rw [vB]; decide)]
  rw [show (fun q=>hits ((none,bh z) :: B) (cj q r))=fun q=>hits B (cj q r) from funext e1,e]
  unfold hits
  rw [filter_cons,tP,h0]
  by_cases c:r=0
  ·rw [if_pos ⟨c,by omega⟩,if_pos (decide_eq_true c),length_cons]
  ·rw [if_neg (fun z=>c z.1),if_neg (by rw [decide_eq_false c]; decide)]
   omega
section
variable {P:Program} {w:World} {K:Frag} {mg:Str→Option Value} {base:Heap}
def HG:Sp:=fun vs H Q _=>∃ (lr lw pb pc pl:Addr) (most:Nat) (ds:List FR) (xs:List Wi) (bs bells:List Int) (d:List (Key × V)) (cf:Int→Int),vs=[.ref lr,.ref lw,.ref pb,.ref pc,.ref pl,.int (most:Int)]∧most ≤ 61∧eU H lr ds∧ik ds∧i5 H lw xs∧xs.length ≤ 12∧(∀ x ∈ xs,L3 ds x)∧(∀ x ∈ xs,zx (vK xs) x) ∧
 H pb=some (.lst (bs.map V.int))∧bs.length=8∧H pc=some (.dK d)∧Rep d cf∧d.length ≤ 50∧H pl=some (.lst (bells.map V.int))∧bells.length ≤ 100 ∧
 ∀ (a:Addr) (mt:TA) (H':Hp),Same H H'→(∀ c,eY mt a c→H c=none)→TS H' a mt 1999 (gM (bg bells) (ds.map cu) xs most (z0 bs cf) (xk xs) (xs.filter (gg 0)))→Q (.ref a) H'
theorem DX:aG ["rows", "wishes", "boxes", "cells", "bells", "most", "machine", "reading", "whats"] ["rows", "wishes", "boxes", "cells", "bells", "most"] (aj dZ):=⟨rfl,rfl,rfl,by decide +kernel,rfl,by decide +kernel,by decide +kernel⟩
theorem Ou {f fK fW fN fB fS fD C fI f0 f2:Addr} {fd Ov rH zr Je zp fdD Ow Jf fd2:FuncData} (F:d6 K "plain_seen" "plain_seen" dZ f fd) (T:Txt K w.params mg)
  (GK:aM P w K mg base bw 7 fK Ov ["rows"] NU) (kK:KI K fK) (bK:Binds K Ov ["rows"] []) (mK:mg "check_rows" = some (.ref fK))
  (GW:aM P w K mg base bw 8 fW rH ["rows", "wishes"] N4) (kW:KI K fW) (bW:Binds K rH ["rows", "wishes"] []) (mW:mg "check_wishes" = some (.ref fW))
  (GN:aM P w K mg base bw 2 fN zr ["wishes"] Oq) (kN:KI K fN) (bN:Binds K zr ["wishes"] []) (mN:mg "nothing_counted" = some (.ref fN))
  (GB:aM P w K mg base bw 1 fB Je ["wishes", "r"] KW) (kB:KI K fB) (bB:Binds K Je ["wishes", "r"] []) (mB:mg "whats_before" = some (.ref fB))
  (GS:aM P w K mg base bw 2 fS zp ["reading", "whats", "boxes"] Oa) (kS:KI K fS) (bS:Binds K zp ["reading", "whats", "boxes"] []) (mS:mg "see_whats" = some (.ref fS))
  (GD:aM P w K mg base bw 4 fD fdD ["reading", "rows", "wishes", "machine"] (Oh C)) (kD:KI K fD) (bD:Binds K fdD ["reading", "rows", "wishes", "machine"] []) (mD:mg "do_row" = some (.ref fD))
  (TM:j3 K mg C) (Ts:mg "Machine" = some (.ref C)) (Mk:Mk K C fI) (GI:aM P w K mg base bw 1 fI Ow ["self", "rows", "boxes", "cells", "bells"] (wQ C)) (bI:Binds K Ow ["self", "rows", "boxes", "cells", "bells"] [])
  (M0:Meth K C "row" f0) (G0:aM P w K mg base bw 1 f0 Jf ["self"] (sZ C)) (b0:Binds K Jf ["self"] [])
  (M2:Meth K C "boxes" f2) (G2:aM P w K mg base bw 1 f2 fd2 ["self"] (tj C)) (b2:Binds K fd2 ["self"] []):aM P w K mg base bw 9 f fd ["rows", "wishes", "boxes", "cells", "bells", "most"] HG:=by
 refine F.ok DX (fun vs H Q E h=>?_) (fun cdv A outer s H vs Q E hr h=>?_)
 ·obtain ⟨lr,lw,pb,pc,pl,most,ds,xs,bs,bells,d,cf,rfl,_⟩:=h
  rfl
 ·obtain ⟨lr,lw,pb,pc,pl,most,ds,xs,bs,bells,d,cf,rfl,hmo,zH,hG,hW,h12,hwg,hg,hpb,b8,hpc,hrep,hdl,hpl,DY,k⟩:=h
  have hu:=cK hr
  have hr2:=hr.mono (show 2 ≤ 8 by decide)
  have hr1:=hr.mono (show 1 ≤ 8 by decide)
  refine dA (au (aA (bZ (aN GK (hr.mono (by decide)) (by rfl) mK kK bK .nil aW (ae (pv 0) ak))))
   (au (aA (bZ (aN GW hr (by rfl) mW kW bW .nil aW (ae (pv 0) (ae (pv 1) ak)))))
   (au (aA (aT (i:=6) DX.nd rfl (Or.inl rfl) (yr Mk GI hr2 rfl Ts bI .nil aW (ae (pv 0) (ae (pv 2) (ae (pv 3) (ae (pv 4) ak)))))))
   (au (vh (yM (i:=7) DX.nd rfl (Or.inl rfl) (DR (.cons ay (cr ak) (.cons ay (aN GN (hr.mono (by decide)) (by rfl) mN kN bN .nil aW (ae (pv 1) ak)) (.cons ay (cr ak) (.cons ay gS .nil)))) rfl rfl (List.cons_ne_nil _ _) (le_of_ble_eq_true rfl))))
   (au (aA (aT (i:=8) DX.nd rfl (Or.inl rfl) (aN GB (hr.mono (by decide)) (by rfl) mB kB bB .nil aW (ae (pv 1) (ae ao ak)))))
   (au (aA (og PassesOwn.never (jR (aP iQ (aQ aL (by rfl) T.len cn (ae (cP hu (pv 7) ay (fun _ _=>rfl)) ak)) (pv 5) (aY _)) (j4 (aP lz (cP hu (pv 7) ay (fun _ _=>rfl)) gS (aY _)))).pt (aH (bZ (aN GS (hr.mono (by decide)) (by rfl) mS kS bS .nil aW (ae (pv 7) (ae (pv 8) (ae (dM (pv 6) TM.cl M2 G2 hr1 b2 .nil aW) ak)))))
   (az (dv (aP lz (cP hu (pv 7) ay (fun _ _=>rfl)) gS (aY _)) (aH (bZ (hV PySem.F.plainAttrs_list PySem.F.slot_list_append PySem.F.type_list_append cJ (cP hu (pv 7) ay (fun _ _=>rfl)) (ae (dM (pv 6) TM.cl M0 G0 hr1 b0 .nil aW) ak)))
   (az (dv (aP iQ (aQ aL (by rfl) T.len cn (ae (cP hu (pv 7) ay (fun _ _=>rfl)) ak)) (pv 5) (aY _)) (az (aT (i:=8) DX.nd rfl (Or.inl rfl) (aN GD (hr.mono (by decide)) (by rfl) mD kD bD .nil aW (ae (pv 7) (ae (pv 0) (ae (pv 1) (ae (pv 6) ak))))))) aU))) aU)))))
   (aO (aA (aS (pv 7)))))))))) ?_
  refine ⟨_,rfl,lr,ds,rfl,zH,hG,fun H1 s1=>?_⟩
  refine ⟨_,rfl,_,rfl,lr,lw,ds,xs,rfl,zH.same s1,hG,hW.same s1,h12,hwg,fun H2 s2=>?_⟩
  have sA:=s1.trans s2
  obtain ⟨qs,g1,g2,g3⟩:=id zH
  refine ⟨_,rfl,_,rfl,_,rfl,_,rfl,fun x dx nx ndx Tt=>?_⟩
  have u1:∀ {c o},H2 c=some o→upd (upd H2 dx (.own x)) x (.ins C dx []) c=some o:=fun {c o} h=>by
   rw [aK (aw h nx),aK (aw h ndx)]
   exact h
  refine ⟨x,dx,lr,pb,pc,pl,qs.map V.ref,bs,bells,d,cf,rfl,ah,u1 (sA _ _ g1),u1 (sA _ _ hpb),b8,u1 (sA _ _ hpc),hrep,hdl,u1 (sA _ _ hpl),DY,fun m aq HX Tv M SX own=>⟨rfl,?_⟩⟩
  have eR:cA aq=bg bells:=funext Tv
  have tX:Same H2 HX:=fun c o h=>SX _ _ (aw h nx) (u1 h)
  have sX:=sA.trans tX
  have nO:∀ c,vm m x c→H c=none:=fun c hc=>by
   cases e:H c with
   | none=>rfl
   | some o =>
    have e2:=sA _ _ e
    have:=own c hc (aw e2 nx)
    rw [u1 e2] at this
    cases this
  clear u1 SX own nx ndx Tt
  show gF _ _ _ _ _
  refine vd (CY ?_)
  refine AQ (xs:=xs) h12 (fun G Q' sG kk=>⟨_,rfl,lw,xs,rfl,hW.same (sX.trans sG),h12,kk⟩) fun at_ mt H3 s3 Tw MT=>?_
  show gF _ _ _ _ _
  refine vd ?_
  have nT:∀ c,eY mt at_ c→H c=none:=fun c hc=>sX.free (Tw c hc)
  have dj:∀ c,eY mt at_ c→¬ vm m x c:=fun c hc hl=>by
   obtain ⟨o,e⟩:=M.pe c hl
   rw [Tw c hc] at e
   cases e
  have nR:∀ c,(eY mt at_ c∨Own m x c)→H c=none:=fun c hc=>hc.elim (nT c) fun z=>nO c (.inl z)
  have nr:∀ c o,H c=some o→¬ (eY mt at_ c∨Own m x c):=fun c o e z=>by rw [nR c z] at e; cases e
  refine ⟨_,rfl,lw,xs,0,rfl,hW.same (sX.trans s3),by omega,fun lh hs H4 s4 nlh Hx L6=>?_⟩
  have sT:¬ eY mt at_ lh:=fun z=>by
   obtain ⟨o,e⟩:=MT.pe lh z
   rw [nlh] at e
   cases e
  generalize hF:gM (bg bells) (ds.map cu) xs most (z0 bs cf) (xk xs) (xs.filter (gg 0))=Fi at k
  have Jh:=pq zH hG.2.2.1
  have DU:=lV zH hG
  have AI:1 ≤ (ds.map cu).length:=by rw [length_map]; exact hG.1
  generalize ds.map cu=rws at hF Jh DU AI
  have Ly:gX rws.length (z0 bs cf):=⟨.inr ⟨0,rfl,AI⟩,fun p hp=>absurd hp (by simp [z0])⟩
  have wl0:=length_filter_le (gg 0) xs
  refine ⟨fun n σ G=>∃ lh i,σ=[some (.ref lr),some (.ref lw),some (.ref pb),some (.ref pc),some (.ref pl),some (.int (most:Int)),some (.ref x),some (.ref at_),some (.ref lh)]∧n=most - i∧PsI C (bg bells) rws xs most Fi H x m (qs.map V.ref) aq at_ mt lh i G,⟨_,lh,0,rfl,rfl,z0 bs cf,xk xs,_,hs,zero_le _,.same (sX.trans (s3.trans s4)),(M.same s3).same s4,MT.same s4,rfl,Hx,L6,sT,by omega,fun y hy=>(mem_filter.mp hy).1,fun _=>⟨rfl,⟨rfl,0,rfl,AI⟩,Ly,hF.symm⟩,fun z=>absurd rfl z⟩,?_⟩
  clear hF MT M Hx L6 sT wl0 nlh s4 s3 Tw
  rintro n σ G ⟨lh,i,rfl,rfl,z,t,ws,hs,hi,kG,M,MT,hks,Hx,L6,sT,hwl,hwi,hup,hdn⟩
  obtain ⟨wt,hot,Li⟩:=MT.st
  have fin:Fi=t→Q (.ref at_) G:=fun e=>k at_ mt G (kG.DP nR) nT (e ▸ MT.more (by omega) (by decide))
  refine ⟨_,rfl,at_,_,rfl,jC hot pj,mt.r,_,rfl,.inl (aZ.of MT.rws),_,rfl,_,_,rfl,rfl,_,rfl,d7 (fun c1=>?_) (fun c1=>?_)⟩
  ·refine ⟨_,rfl,at_,_,rfl,jC hot zu,?_⟩
   cases he:t.en with
   | some zs =>
    rw [he] at Li
    obtain ⟨p,rfl,_⟩:=Li
    exact ⟨rfl,_,rfl,cQ (fun z=>by cases of_decide_eq_true z) ⟨_,rfl,fin (hdn (by rw [he]; intro z; cases z))⟩⟩
   | none =>
   rw [he] at Li
   have Li:wt=.non:=Li
   subst Li
   obtain ⟨hrl,⟨hn,r,DV,hrn⟩,hst,hFF⟩:=hup he
   have c1:t.rows.length < most:=by have:=of_decide_eq_true c1; rw [length_map] at this; omega
   refine ⟨rfl,_,rfl,eP (by decide) ⟨fun σ' G'=>∃ lh,σ'=[some (.ref lr),some (.ref lw),some (.ref pb),some (.ref pc),some (.ref pl),some (.int (most:Int)),some (.ref x),some (.ref at_),some (.ref lh)]∧PsI C (bg bells) rws xs most Fi H x m (qs.map V.ref) aq at_ mt lh (i + 1) G',?_,?_⟩⟩
   ·rintro σ' G' ⟨lh,rfl,h⟩
    exact ⟨most - (i + 1),by omega,lh,i + 1,rfl,rfl,h⟩
   have Ji:bh z=r:=by unfold bh; rw [DV]
   obtain ⟨n0,hn0⟩:∃ n0,most - i=n0 + 1:=⟨most - i - 1,by omega⟩
   have hn1:most - (i + 1)=n0:=by omega
   rw [hn0,vx,Ji] at hFF
   obtain ⟨w0,ho,hw0⟩:=M.obj
   refine ⟨_,rfl,_,rfl,_,rfl,x,m.dx,_,rfl,ho,mF vv,x,z,50 + i,rfl,⟨m,_,aq,M⟩,fun lb nb=>?_⟩
   have sb:=ai (o:=.lst (z.bs.map V.int)) nb
   have sTb:¬ eY mt at_ lb:=fun y=>by
    obtain ⟨o,e⟩:=MT.pe lb y
    rw [nb] at e
    cases e
   refine ⟨at_,lh,lb,mt,26 * i,t,hs,ws,z.bs,rfl,MT.same sb,by omega,sb _ _ Hx,L6.tups (.of sb),fun y hy=>by rw [hks]; exact hg y (hwi y hy),ah,M.b8,sT,sTb,fun G1 k1 EY=>?_⟩
   have k1:=(Keeps.same (R:=eY mt at_) sb).trans k1
   have M1:=M.keeps k1 (fun c hc ht=>dj c ht hc)
   have kG1:=kG.trans (k1.more fun _=>Or.inl)
   have Tx:(cB z.bs t ws).ks=vK xs:=gJ.1.trans hks
   have Rc:(cB z.bs t ws).rows=t.rows:=gJ.2
   have cN:=HA (bs:=z.bs) (ws:=ws) (s:=(r:Int)) (t:=t)
   have cE:=zD (bs:=z.bs) (ws:=ws) (s:=(r:Int)) (t:=t)
   generalize cB z.bs t ws=t1 at EY Tx Rc cN cE
   obtain ⟨wt1,CI,AU⟩:=EY.st
   refine ⟨_,rfl,at_,_,rfl,jC CI zu,?_⟩
   cases J6:t1.en with
   | some zs =>
    rw [J6] at AU
    obtain ⟨p,rfl,_⟩:=AU
    have hne:¬ t1.en=none:=by rw [J6]; intro z; cases z
    rw [cN hne] at hFF
    refine ⟨rfl,_,rfl,cQ (fun z=>by cases of_decide_eq_true z) ⟨lh,rfl,z,t1,ws,hs,by omega,kG1,M1.more (by omega) (by omega),EY.more (by omega) (by omega),Tx,k1 _ _ Hx (.inl sT),L6.tups k1.tups,sT,hwl,hwi,fun e=>absurd e hne,fun _=>?_⟩⟩
    rw [hFF]
    exact if_neg (fun y=>hne y.1)
   | none =>
   rw [J6] at AU
   have AU:wt1=.non:=AU
   subst AU
   rw [cE J6] at hFF
   obtain ⟨w1,ho1,hw1⟩:=M1.obj
   have lm:=EY.lens
   refine ⟨rfl,_,rfl,eP (by decide) ?_⟩
   refine ⟨_,rfl,at_,_,rfl,jC CI pj,.inl ⟨rfl,_,aZ.of EY.rws⟩,_,rfl,x,m.dx,_,rfl,ho1,mF tI,x,z,50 + i,rfl,⟨m,_,aq,M1⟩,mt.r,_,_,rfl,rfl,EY.rws,bu (by rw [length_map,Rc]; omega),?_⟩
   rw [DV,show t1.rows.map V.int ++ [V.int (r:Int)]=(t1.rows ++ [(r:Int)]).map V.int by simp]
   have EZ:=(EY.more (show 26 * i + ws.length ≤ 26 * i + 25 by omega) (by omega)).N7 (rs:=t1.rows ++ [(r:Int)]) (by rw [length_append,Rc]; simp; omega)
   have k2:Keeps (eY mt at_) G1 (upd G1 mt.r (.lst ((t1.rows ++ [(r:Int)]).map V.int))):=Keeps.refl.upd EY.rws (by intro _ z; cases z) (.inr (.inr (.inr rfl)))
   generalize upd G1 mt.r (.lst ((t1.rows ++ [(r:Int)]).map V.int))=G2 at EZ k2 ⊢
   have M2:=M1.keeps k2 (fun c hc ht=>dj c ht hc)
   have Fb:=kG1.trans (k2.more fun _=>Or.inl)
   have Tz:=k2 _ _ (k1 _ _ Hx (.inl sT)) (.inl sT)
   have TB:=(L6.tups k1.tups).tups k2.tups
   have rl2:(t1.rows ++ [(r:Int)]).length=i + 1:=by rw [length_append,Rc,hrl]; rfl
   obtain ⟨t2,Ox⟩:∃ t2:Tl,t2={ t1 with rows:=t1.rows ++ [(r:Int)] }:=⟨_,rfl⟩
   rw [← Ox] at EZ hFF
   have ks2:t2.ks=vK xs:=by rw [Ox]; exact Tx
   have en2:t2.en=none:=by rw [Ox]; exact J6
   have rw2:t2.rows.length=i + 1:=by rw [Ox]; exact rl2
   clear Ox
   obtain ⟨wt2,Hy,Tj⟩:=EZ.st
   refine ⟨_,rfl,at_,_,rfl,jC Hy pj,mt.r,_,rfl,.inl (aZ.of EZ.rws),_,rfl,_,_,rfl,rfl,_,rfl,d7 (fun c2=>?_) (fun c2=>?_)⟩
   rotate_left
   ·have c2:¬ (t2.rows.length:Int) < (most:Int):=fun z=>c2 (decide_eq_true (by rw [length_map]; exact z))
    have e0:n0=0:=by omega
    refine ⟨lh,rfl,z,t2,ws,hs,by omega,Fb,M2.more (by omega) (by omega),EZ.more (by omega) (by omega),ks2,Tz,TB,sT,hwl,hwi,fun _=>⟨rw2,⟨hn,r,DV,hrn⟩,hst,?_⟩,fun e=>absurd en2 e⟩
    rw [hFF,hn1,e0]
    exact if_neg (fun y=>y.2 rfl)
   have c2:t2.rows.length < most:=by have:=of_decide_eq_true c2; rw [length_map] at this; omega
   have hne:n0 ≠ 0:=by omega
   obtain ⟨DZ,e0,e0l,TF⟩:=Jh.keeps Fb (nr lr _ g1)
   have hq0:DZ=qs:=by
    rw [Fb _ _ g1 (.inl (nr lr _ g1))] at e0
    exact (List.map_inj_right (fun a b h=>V.ref.inj h)).mp (HO.lst.inj (Option.some.inj e0)).symm
   subst hq0
   have hqr:DZ[r]? = some DZ[r]:=List.getElem?_eq_getElem (by omega)
   have hwr:rws[r]? = some rws[r]:=List.getElem?_eq_getElem hrn
   have AT:=TF r _ _ hqr hwr
   have hOf:jD rws z=rws[r]:=by unfold jD; rw [Ji,Int.toNat_natCast,List.getD_eq_getElem?_getD,hwr]; rfl
   have mn:r + 1=rws.length→rws[r].word ∈ cy:=fun e=>DU _ (by rw [show rws.length - 1=r by omega]; exact hwr)
   generalize rws[r]=rw at hwr AT hOf mn
   generalize DZ[r]=q at hqr AT
   have hrow:(DZ.map V.ref)[r]? = some (.ref q):=by rw [List.getElem?_map,hqr]; rfl
   obtain ⟨qsw,ew,_⟩:=id hW
   have nlr:=nr lr _ g1
   have Jj:=nr lw _ ew
   refine ⟨_,rfl,_,rfl,_,rfl,_,rfl,at_,lr,lw,x,q,mt,26 * i + 25,t2,m,_,aq,50 + i,z,r,_,rw,xs,rfl,EZ,by omega,e0,M2,by omega,DV,hn,hrow,AT,hW.keeps Fb Jj,by omega,dj,fun y=>nlr (.inl y),fun y=>nlr (.inr y),fun y=>Jj (.inl y),fun y=>Jj (.inr y),fun l hs' G3 k3 AO M3 nl hl' hw'=>?_⟩
   rw [eR] at AO M3 hw'
   have eZ:df (bg bells) rws z=aX (bg bells) rw r z:=by unfold df; rw [hOf,Ji]
   have eT:nextT (bg bells) rws z t2={ mU rw z.bs t2 with en:=(aX (bg bells) rw r z).how }:=by unfold nextT; rw [hOf,eZ]
   have hst':gX rws.length (aX (bg bells) rw r z):=hst.step hrn AT mn
   have rn:=zA (ring:=bg bells) (r:=rw) (h:=r) (z:=z) hn
   have eF:Fi=if (aX (bg bells) rw r z).how=none then gM (bg bells) rws xs n0 (aX (bg bells) rw r z) (nextT (bg bells) rws z t2) (rK (bg bells) rws xs z) else nextT (bg bells) rws z t2:=by
    rw [hFF,← eZ]
    exact if_pos ⟨en2,hne⟩
   have eW:rK (bg bells) rws xs z=tJ xs (xj rw r (bh (aX (bg bells) rw r z))) (bh (aX (bg bells) rw r z)):=by unfold rK; rw [hOf,Ji,eZ]
   rw [← eT] at AO
   generalize aX (bg bells) rw r z=z' at AO M3 hw' eZ eT hst' rn eF eW
   have hk3:(nextT (bg bells) rws z t2).ks=vK xs:=by rw [eT]; exact tK.1.trans ks2
   have hr3:(nextT (bg bells) rws z t2).rows.length=i + 1:=by rw [eT]; show (mU rw z.bs t2).rows.length=i + 1; rw [tK.2]; exact rw2
   have he3:(nextT (bg bells) rws z t2).en=z'.how:=by rw [eT]
   have Oy:=Fb.trans k3
   have sT3:¬ eY mt at_ l:=fun y=>by
    obtain ⟨o,e⟩:=EZ.pe l y
    rw [nl] at e
    cases e
   rcases rn with ⟨e1,ys,e2⟩ | ⟨⟨s',e1⟩,e2⟩
   ·rw [e1] at hw'
    refine ⟨l,rfl,z',_,[],hs',by omega,Oy,M3.more (by omega) (by omega),AO.more (by omega) (by omega),hk3,hl',hw',sT3,by simp,fun y hy=>absurd hy (by simp),(fun e=>by rw [he3,e2] at e; cases e),fun _=>?_⟩
    rw [eF,if_neg (by rw [e2]; intro z; cases z)]
   ·rw [e1] at hw'
    have hw':uv G3 hs' (tJ xs (xj rw r s') s'):=hw'
    have hs2:bh z'=s':=by unfold bh; rw [e1]
    rw [hs2] at eW
    have bl:=zC (xs:=xs) (l:=xj rw r s') (s:=s')
    refine ⟨l,rfl,z',_,_,hs',by omega,Oy,M3.more (by omega) (by omega),AO.more (by omega) (by omega),hk3,hl',hw',sT3,by have:=bl.1; omega,bl.2,fun _=>⟨hr3,⟨e2,?_⟩,hst',?_⟩,fun e=>absurd (he3.trans e2) e⟩
    ·rcases hst'.1 with y | ⟨r',y1,y2⟩
     ·rw [e1] at y
      cases y
     ·exact ⟨r',y1,y2⟩
    ·rw [eF,if_pos e2,hn1,← eW]
  ·refine Fn ⟨_,rfl,fin ?_⟩
   have c1:¬ (t.rows.length:Int) < (most:Int):=fun z=>c1 (decide_eq_true (by rw [length_map]; exact z))
   cases he:t.en with
   | some zs=>exact hdn (by rw [he]; intro z; cases z)
   | none =>
    obtain ⟨hrl,_,_,hFF⟩:=hup he
    rw [hFF,show most - i=0 by omega]
    rfl
end
theorem Lz (a:Int) {n:Nat} (h:0 < n):∃ k:Nat,a % (n:Int)=(k:Int)∧k < n:=by
 have h1:=Int.emod_nonneg a (show (n:Int) ≠ 0 by omega)
 have h2:=Int.emod_lt_of_pos a (show (0:Int) < n by omega)
 obtain ⟨k,hk⟩:=Int.eq_ofNat_of_zero_le h1
 exact ⟨k,hk,by omega⟩
theorem HI (n:Nat):BI (n + 1) (-1)=some n:=by
 unfold BI
 rw [if_neg (by decide),if_pos (by omega)]
 congr 1
 omega
theorem d9.tups {H H':Hp} {q:Addr} {d:FR} (h:d9 H q d) (s:cF H H'):d9 H' q d:=by
 obtain ⟨o,h⟩:=h
 refine ⟨o,?_⟩
 rcases h with ⟨a,b,p,e,h1,h2⟩ | ⟨a,h1⟩
 ·exact .inl ⟨a,b,p,e,s _ _ h1,s _ _ h2⟩
 ·exact .inr ⟨a,s _ _ h1⟩
theorem iu {H:Hp} {l:Addr} {xs:List V} {o:HO} (h:H l=some (.lst xs)):cF H (upd H l o):=fun b ys e=>by
 rw [aK (cm e h (by intro z; cases z))]
 exact e
section
variable {P:Program} {w:World} {K:Frag} {mg:Str→Option Value} {base:Heap}
def Oz:Sp:=fun vs H Q _=>∃ (c:Int) (n:Nat),vs=[.int c,.int (n:Int)]∧0 < n∧n ≤ 1000∧∀ (lr:Addr) (ds:List FR) (H':Hp),Same H H'→H lr=none→eU H' lr ds→ik ds→ds.length=n→Q (.ref lr) H'
theorem LB:aG ["_law_cell", "_law_many", "_law_xs", "_law_rows_here"] ["_law_cell", "_law_many"] (aj eC):=⟨rfl,rfl,rfl,by decide +kernel,rfl,by decide +kernel,by decide +kernel⟩
def LC:Scope:={ kind:=.function,names:=[(".0",.local),("_law_k",.local),("_law_row",.globalImplicit),("_law_many",.free),("_law_xs",.free)],isGenerator:=false,isCoroutine:=false,more:=[] }
theorem D0:dD (aj eC) LC ["_law_cell", "_law_many", "_law_xs", "_law_rows_here"] ["_law_k", "_law_many", "_law_xs"] [none,some 1,some 2]:=⟨rfl,by decide +kernel,by decide +kernel,by decide +kernel,by decide +kernel,by decide +kernel⟩
theorem vD {f fS fR fL:Addr} {fd zp Ja N3:FuncData} (F:d6 K "_law_rows" "_law_rows" eC f fd) (T:Txt K w.params mg) (GS:aM P w K mg base bw 1 fS zp ["_law_cell", "_law_many"] oW) (kS:KI K fS) (bS:Binds K zp ["_law_cell", "_law_many"] []) (mS:mg "_law_stream" = some (.ref fS)) (GR:aM P w K mg base bw 2 fR Ja ["_law_x", "_law_many"] IG) (kR:KI K fR) (bR:Binds K Ja ["_law_x", "_law_many"] []) (mR:mg "_law_row" = some (.ref fR)) (GL:aM P w K mg base bw 1 fL N3 ["_law_row_here", "_law_x"] C8) (kL:KI K fL) (bL:Binds K N3 ["_law_row_here", "_law_x"] []) (mL:mg "_law_last" = some (.ref fL)):aM P w K mg base bw 3 f fd ["_law_cell", "_law_many"] Oz:=by
 refine F.ok LB (fun vs H Q E h=>?_) (fun cdv A outer s H vs Q E hr h=>?_)
 ·obtain ⟨c,n,rfl,_⟩:=h
  rfl
 ·obtain ⟨c,n,rfl,hn0,hn1,k⟩:=h
  refine dA (au (aA (aT (i:=2) LB.nd rfl (Or.inr rfl) (aN GS (hr.mono (by decide)) (by rfl) mS kS bS .nil aW (ae (pv 0) (ae (pv 1) ak)))))
   (au (aA (kf (i:=3) (N':=["_law_k", "_law_many", "_law_xs"]) (fr:=[none,some 1,some 2]) LB.nd rfl rfl D0 rfl (gm rfl T.range (ae (pv 1) ak)) (fun C s0 H0 fp=>(cG (i:=0) D0.nd rfl (Or.inl rfl))) (fun C s0 H0 fp=>fz) (fun C s0 H0 fp=>(aN GR hr (by rfl) mR kR bR .nil aW (ae (aB (r:=JN K) aV (pv 2) (pv 0) (fun _ _=>rfl)) (ae (pv 1) ak))))))
   (au (aA (iP (aN GL (hr.mono (by decide)) (by rfl) mL kL bL .nil aW (ae (aB aV (pv 3) (yp rQ ao) (fun _ _=>rfl)) (ae (aB aV (pv 2) (yp rQ ao) (fun _ _=>rfl)) ak))) (iO (pv 3) (yp rQ ao) set_list)))
   (aO (aA (aS (pv 3))))))) ?_
  refine ⟨_,rfl,_,rfl,c,n,rfl,by omega,fun lx ms H1 s1 nlx hlx hml _=>?_⟩
  refine ⟨_,rfl,_,rfl,by omega,by omega,fun D nD=>?_⟩
  have nDx:D ≠ lx:=fun z=>by rw [z,hlx] at nD; cases nD
  refine jU (lo:=0) (n:=((n:Nat):Int).toNat) (fun i σ ys G=>∃ (v:Option V) (qs:List Addr) (ds:List FR),σ=[v,some (.int (n:Int)),some (.ref lx)]∧ys=qs.map V.ref∧qs.length=i∧ds.length=i∧(∀ (j:Nat) q d,qs[j]? = some q→ds[j]? = some d→d9 G q d)∧(∀ d ∈ ds,GoodR d (n:Int))∧Same H1 G∧G D=some (.lst ys)) ?_ ?_ ?_
  ·exact ⟨none,[],[],rfl,rfl,rfl,rfl,(fun j q d e=>by simp at e),fun d hd=>absurd hd not_mem_nil,ai nD,ah⟩
  ·rintro i σ ys G hi ⟨v,qs,ds,rfl,rfl,hq,hd,hR,hg,s2,hD⟩
   rw [Int.toNat_natCast] at hi
   have hmi:ms[i]? = some (ms[i]'(by omega)):=List.getElem?_eq_getElem _
   generalize ms[i]'(by omega)=mi at hmi
   have hat:oq (ms.map V.int) (0 + (i:Int))=some (.int mi):=by rw [Int.zero_add]; exact cw (j:=i) (by rw [List.getElem?_map,hmi]; rfl)
   refine ⟨_,rfl,_,rfl,lx,_,_,.int mi,rfl,rfl,aZ.of (s2 _ _ hlx),hat,_,rfl,mi,n,rfl,by omega,by omega,fun p d G' s' TH hgd=>⟨s' _ _ hD,bu (by rw [length_map]; omega),_,qs ++ [p],ds ++ [d],rfl,by simp,by simp [hq],by simp [hd],?_,fun e he=>?_,bz (s2.trans s') nD,ah⟩⟩
   ·have T:=iu (o:=.lst (qs.map V.ref ++ [V.ref p])) (s' _ _ hD)
    refine kI (as:=qs) (bs:=ds) (cs:=[p]) (ds:=[d]) (R:=d9 (upd G' D (.lst (qs.map V.ref ++ [V.ref p])))) (by omega) (fun j q d a b=>((hR j q d a b).same s').tups T) (fun j q d a b=>?_)
    cases j with
    | zero=>cases a; cases b; exact TH.tups T
    | succ j=>simp at a
   ·rcases mem_append.mp he with z | z
    ·exact hg e z
    ·rw [mem_singleton.mp z]; exact hgd
  rintro σ ys G ⟨v,qs,ds,rfl,rfl,hq,hd,hR,hg,s2,hD⟩
  rw [Int.toNat_natCast] at hq hd
  obtain ⟨n,rfl⟩:∃ n0,n=n0 + 1:=⟨n - 1,by omega⟩
  have Hu:qs[n]? = some (qs[n]'(by omega)):=List.getElem?_eq_getElem _
  generalize (qs[n]'(by omega))=q at Hu
  have hdi:ds[n]? = some (ds[n]'(by omega)):=List.getElem?_eq_getElem _
  generalize (ds[n]'(by omega))=d at hdi
  have hmi:ms[n]? = some (ms[n]'(by omega)):=List.getElem?_eq_getElem _
  generalize (ms[n]'(by omega))=mi at hmi
  refine ⟨_,rfl,_,rfl,D,_,_,.ref q,rfl,rfl,aZ.of hD,tH (n:=n) (by rw [length_map,hq]) (by rw [List.getElem?_map,Hu]; rfl),?_⟩
  refine ⟨_,rfl,_,rfl,lx,_,_,.int mi,rfl,rfl,aZ.of (s2 _ _ hlx),tH (n:=n) (by rw [length_map,hml]) (by rw [List.getElem?_map,hmi]; rfl),?_⟩
  refine ⟨q,mi,((n + 1:Nat):Int),d,rfl,hR n q d Hu hdi,hg d (List.mem_of_getElem? hdi),by omega,fun p d' G' s' TH hgd hno=>?_⟩
  have hD':=s' _ _ hD
  refine ⟨_,rfl,_,rfl,D,_,_,n,rfl,rfl,hD',?_,?_⟩
  ·rw [length_map,hq]
   exact HI n
  have T:=iu (o:=.lst ((qs.map V.ref).set n (.ref p))) hD'
  have sA:Same H (upd G' D (.lst ((qs.map V.ref).set n (.ref p)))):=s1.trans (bz (s2.trans s') nD)
  have hDn:upd G' D (.lst ((qs.map V.ref).set n (.ref p))) D=_:=ah
  generalize upd G' D (.lst ((qs.map V.ref).set n (.ref p)))=G9 at T sA hDn ⊢
  refine ⟨_,rfl,k D (ds.set n d') G9 sA (s1.free nD) ⟨qs.set n p,by rw [hDn,map_set],by rw [length_set,length_set,hq,hd],fun i q1 d1 a b=>?_⟩ ⟨by rw [length_set]; omega,by rw [length_set]; omega,fun e he=>?_,d',?_,hno⟩ (by rw [length_set,hd])⟩
  ·rw [List.getElem?_set] at a b
   by_cases c:n=i
   ·rw [if_pos c,if_pos (by omega)] at a
    rw [if_pos c,if_pos (by omega)] at b
    cases a; cases b
    exact TH.tups T
   ·rw [if_neg c] at a b
    exact ((hR i q1 d1 a b).same s').tups T
  ·rw [length_set,hd]
   rcases List.mem_or_eq_of_mem_set he with z | z
   ·exact hg e z
   ·rw [z]; exact hgd
  ·rw [length_set,hd,show n + 1 - 1=n by omega,List.getElem?_set,if_pos rfl,if_pos (by omega)]
end
def vL (d:FR):FR:=if d.u = "see" then ⟨"tell",[d.is.getD 0 0],[]⟩ else d
theorem LD (d:FR):¬ (vL d).u = "see" := by
 unfold vL
 split
 ·show ¬ ("tell" : Str) = "see"
  decide +kernel
 ·rename_i c
  exact c
theorem zI {H:Hp} {q:Addr} {d:FR} {n:Int} (h:d9 H q d) (g:GoodR d n) (hu:d.u = "see"):∃ b v,d.is=[b,v]∧H q=some (.tup [.str d.u,.int b,.int v])∧vJ "box" b:=by
 obtain ⟨⟨_,_,_,_,o5,_⟩,hA⟩:=h
 have hl:=(o5 (by rw [hu]; decide +kernel) (by rw [hu]; decide +kernel) (by rw [hu]; decide +kernel)).2
 rw [hu] at hl
 obtain ⟨b,v,e⟩:∃ b v,d.is=[b,v]:=by
  match hh:d.is,hl.trans (show Q7 "see" = 2 by decide +kernel) with
  | [b,v],_=>exact ⟨b,v,rfl⟩
 refine ⟨b,v,e,?_,?_⟩
 ·rcases hA with ⟨z,_⟩ | ⟨_,z⟩
  ·rw [hu] at z
   exact absurd z (by decide +kernel)
  ·rw [e] at z
   exact z
 ·exact g.2.2.2 ("box",b) (by rw [hu,e,show fZ "see" = (["box", "number"]:List Str) by decide +kernel]; simp)
theorem HJ {H:Hp} {q:Addr} {d:FR} {n:Int} (h:d9 H q d) (g:GoodR d n):GoodR (vL d) n:=by
 unfold vL
 split
 ·rename_i c
  obtain ⟨b,v,e,_,hb⟩:=zI h g c
  rw [e]
  exact GoodR.plain (show ¬ ("tell" : Str) ∈ five by decide +kernel) (oY (k1 := "box") (r:=[]) (by decide +kernel) hb)
 ·exact g
section
variable {P:Program} {w:World} {K:Frag} {mg:Str→Option Value} {base:Heap}
def OB:Sp:=fun vs H Q _=>∃ (lr:Addr) (ds:List FR),vs=[.ref lr]∧eU H lr ds∧ik ds∧∀ (l:Addr) (ds':List FR) (H':Hp),Same H H'→H l=none→eU H' l ds'→ik ds'→ds'.length=ds.length→(∀ d ∈ ds',¬ d.u = "see")→Q (.ref l) H'
theorem HK:aG ["_law_rows_here", "_law_found", "_law_row_here"] ["_law_rows_here"] (aj gD):=⟨rfl,rfl,rfl,by decide +kernel,rfl,by decide +kernel,by decide +kernel⟩
theorem LG {f:Addr} {fd:FuncData} (F:d6 K "_law_odd" "_law_odd" gD f fd) (T:Txt K w.params mg)  : aM P w K mg base bw 1 f fd ["_law_rows_here"] OB:=by
 refine F.ok HK (fun vs H Q E h=>?_) (fun cdv A outer s H vs Q E hr h=>?_)
 ·obtain ⟨lr,ds,rfl,_⟩:=h
  rfl
 ·obtain ⟨lr,ds,rfl,hR,hG,k⟩:=h
  obtain ⟨qs,g1,g2,g3⟩:=id hR
  obtain ⟨p0,p1,p2,dl,p3,p4⟩:=hG
  refine dA (au (aA (aT (i:=1) HK.nd rfl (Or.inl rfl) (cr ak)))
   (au (aA (gU PassesOwn.never rfl (dS (pv 0)) (cG (i:=2) HK.nd rfl (Or.inl rfl)) (nu (dv (aP eM (aB aI (pv 2) ao (fun _ _=>rfl)) ay (aY _)) (az (aT (i:=2) HK.nd rfl (Or.inl rfl) (bf (ae ay (ae (aB aI (pv 2) ao (fun _ _=>rfl)) ak))))) aU)
   (az (bZ (hV PySem.F.plainAttrs_list PySem.F.slot_list_append PySem.F.type_list_append cJ (pv 1) (ae (pv 2) ak)))))))
   (aO (aA (aS (pv 1)))))) ?_
  refine ⟨le_of_ble_eq_true rfl,fun lf nf=>?_⟩
  have s0:=ai (o:=.lst []) nf
  have h0:upd H lf (.lst []) lf=some (.lst (([]:List Addr).map V.ref)):=ah
  generalize upd H lf (.lst [])=G0 at s0 h0 ⊢
  refine ⟨_,rfl,lr,rfl,⟨_,aZ.of (s0 _ _ g1)⟩,j6 (K:=K) (a:=lr) (xs:=qs.map V.ref) (fun j σ G=>∃ (v:Option V) (fs:List Addr),σ=[some (.ref lr),some (.ref lf),v]∧Same H G∧G lf=some (.lst (fs.map V.ref))∧fs.length=j∧∀ (i:Nat) q d,fs[i]? = some q→((ds.take j).map vL)[i]? = some d→d9 G q d) ?_ ?_ ?_ ?_⟩
  ·exact ⟨none,[],rfl,s0,h0,rfl,fun i q d e=>by simp at e⟩
  ·rintro j σ G _ ⟨v,fs,rfl,s1,_⟩
   exact aZ.of (s1 _ _ g1)
  ·rintro j x σ G hx ⟨v,fs,rfl,s1,h1,hfl,hf⟩
   rw [List.getElem?_map] at hx
   obtain ⟨q,hq,rfl⟩:=map_eq_some_iff.mp hx
   have hjl:j < ds.length:=by have:=(List.getElem?_eq_some_iff.mp hq).1; omega
   have hd:ds[j]? = some ds[j]:=List.getElem?_eq_getElem hjl
   have hg:=p2 _ (List.getElem_mem hjl)
   have zH:=(g3 j q _ hq hd).same s1
   generalize ds[j]=d at hd hg zH
   have tk:(ds.take (j + 1)).map vL=(ds.take j).map vL ++ [vL d]:=by rw [take_add_one,hd,map_append]; rfl
   refine ⟨fun σ G'=>∃ q',σ=[some (.ref lr),some (.ref lf),some (.ref q')]∧Same G G'∧d9 G' q' (vL d),?_,?_⟩
   ·obtain ⟨items,hq1,_⟩:=zH.parts
    refine ⟨_,rfl,q,_,0,.str d.u,rfl,rfl,bp.of hq1,at0 _ _,rfl,_,rfl,d7 (fun c=>?_) (fun c=>?_)⟩
    ·have c:d.u = "see" := strEq c
     obtain ⟨b,v',e,hq2,hb⟩:=zI zH hg c
     refine ⟨_,rfl,q,_,1,.int b,rfl,rfl,bp.of hq2,at1 _ _ _,le_of_ble_eq_true rfl,fun tn OD=>⟨tn,rfl,ai OD,?_⟩⟩
     unfold vL
     rw [if_pos c,e]
     exact nI (by decide +kernel) ah
    ·refine ⟨q,rfl,.refl _,?_⟩
     unfold vL
     rw [if_neg (fun e=>c (decide_eq_true (congrArg V.str e)))]
     exact zH
   rintro σ' G' ⟨q',rfl,s2,hR'⟩
   have h2:=s2 _ _ h1
   refine ⟨_,rfl,.inl ⟨rfl,_,aZ.of h2⟩,_,rfl,lf,_,_,rfl,rfl,h2,bu (by rw [length_map]; omega),?_⟩
   have T:=iu (o:=.lst (fs.map V.ref ++ [V.ref q'])) h2
   refine ⟨_,fs ++ [q'],rfl,bz (s1.trans s2) nf,by rw [ah,map_append]; rfl,by rw [length_append,hfl]; rfl,?_⟩
   rw [tk]
   refine kI (as:=fs) (bs:=(ds.take j).map vL) (cs:=[q']) (ds:=[vL d]) (R:=d9 (upd G' lf (.lst (fs.map V.ref ++ [V.ref q'])))) (by rw [length_map,length_take]; omega) (fun i q d a b=>((hf i q d a b).same s2).tups T) (fun i q d a b=>?_)
   cases i with
   | zero=>cases a; cases b; exact hR'.tups T
   | succ i=>simp at a
  rintro σ G ⟨v,fs,rfl,s1,h1,hfl,hf⟩
  rw [length_map,g2] at hfl
  rw [length_map,g2,take_length] at hf
  refine ⟨_,rfl,k lf (ds.map vL) G s1 nf ⟨fs,h1,by rw [length_map,hfl],hf⟩ ⟨by rw [length_map]; exact p0,by rw [length_map]; exact p1,fun d hd=>?_,vL dl,?_,?_⟩ (length_map ..) fun d hd=>?_⟩
  ·obtain ⟨d0,hd0,rfl⟩:=mem_map.mp hd
   obtain ⟨i,hi⟩:=List.getElem?_of_mem hd0
   have hil:=(List.getElem?_eq_some_iff.mp hi).1
   have Hu:qs[i]? = some (qs[i]'(by omega)):=List.getElem?_eq_getElem _
   rw [length_map]
   exact HJ (g3 i _ d0 Hu hi) (p2 d0 hd0)
  ·rw [length_map,List.getElem?_map,p3]
   rfl
  ·unfold vL
   rw [if_neg (fun e=>by rw [e] at p4; exact absurd p4 (by decide +kernel))]
   exact p4
  ·obtain ⟨d0,_,rfl⟩:=mem_map.mp hd
   exact LD d0
def McI (C:Addr) (ring:Int→Bool) (rws:List Rw) (most:Nat) (A:List Int) (E:Option (List V)) (H:Hp) (x:Addr) (m:MA) (rows:List V) (aq:List (Key × V)) (ls:Addr) (i:Nat) (G:Hp):Prop:=∃ (z:Zt) (l:Option Int) (st:List Int),i ≤ most∧Keeps (fun c=>c=ls∨Own m x c) H G∧MG C G x m rows aq (50 + i) z∧G ls=some (.lst (st.map V.int))∧st.length ≤ i∧(z.how=none→st.length=i∧Up rws z∧gX rws.length z∧A=st ++ (arr ring rws (most - i) z l).map (·.2)∧E=fin ring rws (most - i) z)∧(¬ z.how=none→A=st∧E=z.how)
def OG (C:Addr):Sp:=fun vs H Q _=>∃ (lr tb pb pc pl:Addr) (most:Nat) (ds:List FR) (bs bells:List Int) (d:List (Key × V)) (cf:Int→Int),vs=[.ref lr,.ref tb,.int (most:Int)]∧most ≤ 61∧eU H lr ds∧ik ds∧H tb=some (.tup [.ref pb,.ref pc,.ref pl]) ∧
 H pb=some (.lst (bs.map V.int))∧bs.length=8∧H pc=some (.dK d)∧Rep d cf∧d.length ≤ 50∧H pl=some (.lst (bells.map V.int))∧bells.length ≤ 100 ∧
 ∀ (t l:Addr) (v:V) (H':Hp),Same H H'→H' t=some (.tup [.ref l,v])→H' l=some (.lst (((arr (bg bells) (ds.map cu) most (z0 bs cf) none).map (·.2)).map V.int))→iI H' v (fin (bg bells) (ds.map cu) most (z0 bs cf))→Q (.ref t) H'
theorem LH:aG ["_law_rows_here", "_law_beginning_here", "_law_most", "_law_machine_here", "_law_stood"] ["_law_rows_here", "_law_beginning_here", "_law_most"] (aj dI):=⟨rfl,rfl,rfl,by decide +kernel,rfl,by decide +kernel,by decide +kernel⟩
theorem OI {f C fI f0 f1 fs:Addr} {fd Ow Jf Oj fds:FuncData} (F:d6 K "_law_machine" "_law_machine" dI f fd) (T:Txt K w.params mg)
  (TM:j3 K mg C) (Ts:mg "Machine" = some (.ref C)) (Mk:Mk K C fI) (GI:aM P w K mg base bw 1 fI Ow ["self", "rows", "boxes", "cells", "bells"] (wQ C)) (bI:Binds K Ow ["self", "rows", "boxes", "cells", "bells"] [])
  (M0:Meth K C "row" f0) (G0:aM P w K mg base bw 1 f0 Jf ["self"] (sZ C)) (b0:Binds K Jf ["self"] [])
  (M1:Meth K C "ending" f1) (G1:aM P w K mg base bw 1 f1 Oj ["self"] (pd C)) (b1:Binds K Oj ["self"] [])
  (Ms:Meth K C "step" fs) (Gs:aM P w K mg base bw 3 fs fds ["self"] (wR C)) (Ti:Binds K fds ["self"] []):aM P w K mg base bw 4 f fd ["_law_rows_here", "_law_beginning_here", "_law_most"] (OG C):=by
 refine F.ok LH (fun vs H Q E h=>?_) (fun cdv A outer s H vs Q E hr h=>?_)
 ·obtain ⟨lr,tb,pb,pc,pl,most,ds,bs,bells,d,cf,rfl,_⟩:=h
  rfl
 ·obtain ⟨lr,tb,pb,pc,pl,most,ds,bs,bells,d,cf,rfl,hmo,zH,hG,htb,hpb,b8,hpc,hrep,hdl,hpl,DY,k⟩:=h
  have hr2:=hr.mono (show 2 ≤ 3 by decide)
  have hr1:=hr.mono (show 1 ≤ 3 by decide)
  refine dA (au (aA (aT (i:=3) LH.nd rfl (Or.inl rfl) (yr Mk GI hr2 rfl Ts bI .nil aW (ae (pv 0) (ae (aB aI (pv 1) ao (fun _ _=>rfl)) (ae (aB aI (pv 1) ao (fun _ _=>rfl)) (ae (aB aI (pv 1) ao (fun _ _=>rfl)) ak)))))))
   (au (aA (aT (i:=4) LH.nd rfl (Or.inl rfl) (cr ak)))
   (au (aA (og PassesOwn.never (jR (aP iQ (aQ aL (by rfl) T.len cn (ae (pv 4) ak)) (pv 2) (aY _)) (j4 (aP lz (dM (pv 3) TM.cl M1 G1 hr1 b1 .nil aW) gS (aY _)))).pt (aH (bZ (hV PySem.F.plainAttrs_list PySem.F.slot_list_append PySem.F.type_list_append cJ (pv 4) (ae (dM (pv 3) TM.cl M0 G0 hr1 b0 .nil aW) ak)))
   (az (dv (aP iQ (aQ aL (by rfl) T.len cn (ae (pv 4) ak)) (pv 2) (aY _)) (az (bZ (dM (pv 3) TM.cl Ms Gs hr Ti .nil aW))) aU)))))
   (aO (aA (aS (bf (ae (pv 4) (ae (dM (pv 3) TM.cl M1 G1 hr1 b1 .nil aW) ak))))))))) ?_
  obtain ⟨qs,g1,g2,g3⟩:=id zH
  refine ⟨_,rfl,_,rfl,tb,_,0,_,rfl,rfl,bp.of htb,at0 _ _,_,rfl,tb,_,1,_,rfl,rfl,bp.of htb,at1 _ _ _,_,rfl,tb,_,2,_,rfl,rfl,bp.of htb,at2 _ _ _ _,fun x dx nx ndx Tt=>?_⟩
  have u1:∀ {c o},H c=some o→upd (upd H dx (.own x)) x (.ins C dx []) c=some o:=fun {c o} h=>by
   rw [aK (aw h nx),aK (aw h ndx)]
   exact h
  refine ⟨x,dx,lr,pb,pc,pl,qs.map V.ref,bs,bells,d,cf,rfl,ah,u1 g1,u1 hpb,b8,u1 hpc,hrep,hdl,u1 hpl,DY,fun m aq HX Tv M SX own=>⟨rfl,?_⟩⟩
  have eR:cA aq=bg bells:=funext Tv
  have sX:Same H HX:=fun c o h=>SX _ _ (aw h nx) (u1 h)
  have nO:∀ c,vm m x c→H c=none:=fun c hc=>by
   cases e:H c with
   | none=>rfl
   | some o =>
    have:=own c hc (aw e nx)
    rw [u1 e] at this
    cases this
  clear u1 SX own nx ndx Tt
  refine ⟨le_of_ble_eq_true rfl,fun ls Rf=>?_⟩
  have s3:=ai (o:=.lst []) Rf
  have hls:upd HX ls (.lst []) ls=some (.lst (([]:List Int).map V.int)):=ah
  have nlo:¬ vm m x ls:=fun hl=>by
   obtain ⟨o,e⟩:=M.pe ls hl
   rw [Rf] at e
   cases e
  have TJ:=sX.free Rf
  have M3:=M.same s3
  have sX3:=sX.trans s3
  generalize upd HX ls (.lst [])=H3 at hls M3 sX3 ⊢
  have nR:∀ c,(c=ls∨Own m x c)→H c=none:=fun c hc=>hc.elim (fun z=>z ▸ TJ) fun z=>nO c (.inl z)
  have nr:∀ c o,H c=some o→¬ (c=ls∨Own m x c):=fun c o e z=>by rw [nR c z] at e; cases e
  have Jh:=pq zH hG.2.2.1
  have DU:=lV zH hG
  have AI:1 ≤ (ds.map cu).length:=by rw [length_map]; exact hG.1
  generalize ds.map cu=rws at k Jh DU AI
  have Ly:gX rws.length (z0 bs cf):=⟨.inr ⟨0,rfl,AI⟩,fun p hp=>absurd hp (by simp [z0])⟩
  generalize hA:(arr (bg bells) rws most (z0 bs cf) none).map (·.2)=AA at k
  generalize hE:fin (bg bells) rws most (z0 bs cf)=EE at k
  refine ⟨fun n σ G=>∃ i,σ=[some (.ref lr),some (.ref tb),some (.int (most:Int)),some (.ref x),some (.ref ls)]∧n=most - i∧McI C (bg bells) rws most AA EE H x m (qs.map V.ref) aq ls i G,⟨_,0,rfl,rfl,z0 bs cf,none,[],zero_le _,.same sX3,M3,hls,le_refl _,fun _=>⟨rfl,⟨rfl,0,rfl,AI⟩,Ly,hA.symm,hE.symm⟩,fun z=>absurd rfl z⟩,?_⟩
  clear hA hE M3 hls M Rf s3
  rintro n σ G ⟨i,rfl,rfl,z,l,st,hi,kG,M,hls,hsl,hup,hdn⟩
  obtain ⟨w0,ho,hw0⟩:=M.obj
  have fin:AA=st→EE=z.how→∀ v,iI G v z.how→∀ t,G t=none→Q (.ref t) (upd G t (.tup [.ref ls,v])):=fun e1 e2 v hv t nt=>by
   have sN:=ai (o:=.tup [.ref ls,v]) nt
   refine k t ls v _ ((kG.DP nR).trans sN) ah ?_ ?_
   ·rw [e1]
    exact sN _ _ hls
   ·rw [e2]
    exact hv.tups (.of sN)
  refine ⟨_,rfl,ls,_,rfl,.inl (aZ.of hls),_,rfl,_,_,rfl,rfl,_,rfl,d7 (fun c1=>?_) (fun c1=>?_)⟩
  ·refine ⟨_,rfl,x,m.dx,_,rfl,ho,mF jx,x,z,50 + i,rfl,⟨m,_,aq,M⟩,fun v hv=>?_⟩
   cases he:z.how with
   | some zs =>
    rw [he] at hv
    obtain ⟨p,rfl,_⟩:=hv
    have hne:¬ z.how=none:=by rw [he]; intro z; cases z
    exact ⟨rfl,_,rfl,cQ (fun z=>by cases of_decide_eq_true z) ⟨_,rfl,_,rfl,x,m.dx,_,rfl,ho,mF jx,x,z,50 + i,rfl,⟨m,_,aq,M⟩,fun v hv=>⟨le_of_ble_eq_true rfl,fun t nt=>fin (hdn hne).1 (hdn hne).2 v hv t nt⟩⟩⟩
   | none =>
   rw [he] at hv
   have hv:v=.non:=hv
   subst hv
   obtain ⟨hsi,⟨_,r,DV,hrn⟩,hst,hAA,AV⟩:=hup he
   have c1:st.length < most:=by have:=of_decide_eq_true c1; rw [length_map] at this; omega
   refine ⟨rfl,_,rfl,eP (by decide) ⟨fun σ' G'=>σ'=[some (.ref lr),some (.ref tb),some (.int (most:Int)),some (.ref x),some (.ref ls)]∧McI C (bg bells) rws most AA EE H x m (qs.map V.ref) aq ls (i + 1) G',?_,?_⟩⟩
   ·rintro σ' G' ⟨rfl,h⟩
    exact ⟨most - (i + 1),by omega,i + 1,rfl,rfl,h⟩
   have Ji:bh z=r:=by unfold bh; rw [DV]
   obtain ⟨n0,hn0⟩:∃ n0,most - i=n0 + 1:=⟨most - i - 1,by omega⟩
   have hn1:most - (i + 1)=n0:=by omega
   rw [hn0] at hAA AV
   unfold arr at hAA
   unfold My.fin at AV
   rw [map_cons,List.append_cons] at hAA
   dsimp only at hAA
   rw [Ji] at hAA
   refine ⟨_,rfl,.inl ⟨rfl,_,aZ.of hls⟩,_,rfl,x,m.dx,_,rfl,ho,mF tI,x,z,50 + i,rfl,⟨m,_,aq,M⟩,ls,_,_,rfl,rfl,hls,bu (by rw [length_map]; omega),?_⟩
   rw [DV,show st.map V.int ++ [V.int (r:Int)]=(st ++ [(r:Int)]).map V.int by simp]
   have k2:Keeps (fun c=>c=ls) G (upd G ls (.lst ((st ++ [(r:Int)]).map V.int))):=Keeps.refl.upd hls (by intro _ z; cases z) rfl
   have M2:=M.keeps k2 (fun c hc e=>nlo (e ▸ hc))
   have hls2:upd G ls (.lst ((st ++ [(r:Int)]).map V.int)) ls=some (.lst ((st ++ [(r:Int)]).map V.int)):=ah
   generalize upd G ls (.lst ((st ++ [(r:Int)]).map V.int))=G2 at k2 M2 hls2 ⊢
   have Fb:=kG.trans (k2.more fun _=>Or.inl)
   have sl2:(st ++ [(r:Int)]).length=i + 1:=by rw [length_append,hsi]; rfl
   refine ⟨_,rfl,ls,_,rfl,.inl (aZ.of hls2),_,rfl,_,_,rfl,rfl,_,rfl,d7 (fun c2=>?_) (fun c2=>?_)⟩
   rotate_left
   ·have c2:¬ ((st ++ [(r:Int)]).length:Int) < (most:Int):=fun z=>c2 (decide_eq_true (by rw [length_map]; exact z))
    have e0:n0=0:=by omega
    subst e0
    refine ⟨rfl,z,l,st ++ [(r:Int)],by omega,Fb,M2.more (by omega) (by omega),hls2,by omega,fun _=>⟨sl2,⟨he,r,DV,hrn⟩,hst,?_,?_⟩,fun e=>absurd he e⟩
    ·rw [hAA,hn1,if_neg (fun y=>y.1 rfl)]
     rfl
    ·rw [AV,hn1,if_neg (fun y=>y rfl)]
     rfl
   have c2:(st ++ [(r:Int)]).length < most:=by have:=of_decide_eq_true c2; rw [length_map] at this; omega
   have hne:n0 ≠ 0:=by omega
   obtain ⟨DZ,e0,e0l,TF⟩:=Jh.keeps Fb (nr lr _ g1)
   have hq0:DZ=qs:=by
    rw [Fb _ _ g1 (.inl (nr lr _ g1))] at e0
    exact (List.map_inj_right (fun a b h=>V.ref.inj h)).mp (HO.lst.inj (Option.some.inj e0)).symm
   subst hq0
   have hqr:DZ[r]? = some DZ[r]:=List.getElem?_eq_getElem (by omega)
   have hwr:rws[r]? = some rws[r]:=List.getElem?_eq_getElem hrn
   have AT:=TF r _ _ hqr hwr
   have hOf:jD rws z=rws[r]:=by unfold jD; rw [Ji,Int.toNat_natCast,List.getD_eq_getElem?_getD,hwr]; rfl
   have mn:r + 1=rws.length→rws[r].word ∈ cy:=fun e=>DU _ (by rw [show rws.length - 1=r by omega]; exact hwr)
   generalize rws[r]=rw at hwr AT hOf mn
   generalize DZ[r]=q at hqr AT
   have hrow:(DZ.map V.ref)[r]? = some (.ref q):=by rw [List.getElem?_map,hqr]; rfl
   obtain ⟨w2,ho2,hw2⟩:=M2.obj
   refine ⟨_,rfl,x,m.dx,_,rfl,ho2,mF zy,x,q,m,_,aq,50 + i,z,r,_,rw,rfl,M2,by omega,DV,hrow,AT,fun G3 fr M3=>?_⟩
   rw [eR] at M3
   have k3:=M2.fr fr
   have eZ:df (bg bells) rws z=aX (bg bells) rw r z:=by unfold df; rw [hOf,Ji]
   have hst':gX rws.length (aX (bg bells) rw r z):=hst.step hrn AT mn
   have rn:=zA (ring:=bg bells) (r:=rw) (h:=r) (z:=z) he
   rw [eZ] at hAA AV
   generalize aX (bg bells) rw r z=z' at M3 hAA AV hst' rn
   have OJ:=k3 _ _ hls2 (.inl fun z=>nlo (.inl z))
   have Oy:=Fb.trans (k3.more fun _=>Or.inr)
   rw [if_pos hne] at AV
   rcases rn with ⟨e1,ys,e2⟩ | ⟨⟨s',e1⟩,e2⟩
   ·have hno:¬ z'.how=none:=by rw [e2]; intro z; cases z
    rw [if_neg (fun y=>hno y.2),List.map_nil,append_nil] at hAA
    rw [if_neg hno] at AV
    exact ⟨rfl,z',l,_,by omega,Oy,M3,OJ,by omega,fun e=>absurd e hno,fun _=>⟨hAA,AV⟩⟩
   ·rw [if_pos ⟨hne,e2⟩] at hAA
    rw [if_pos e2] at AV
    refine ⟨rfl,z',_,_,by omega,Oy,M3,OJ,by omega,fun _=>⟨sl2,⟨e2,?_⟩,hst',by rw [hn1]; exact hAA,by rw [hn1]; exact AV⟩,fun e=>absurd e2 e⟩
    rcases hst'.1 with y | ⟨r',y1,y2⟩
    ·rw [e1] at y
     cases y
    ·exact ⟨r',y1,y2⟩
  ·refine Fn ?_
   have c1:¬ (st.length:Int) < (most:Int):=fun z=>c1 (decide_eq_true (by rw [length_map]; exact z))
   have key:AA=st∧EE=z.how:=by
    cases he:z.how with
    | some zs =>
     rw [← he]
     exact hdn (by rw [he]; intro z; cases z)
    | none =>
     obtain ⟨hsi,_,_,hAA,AV⟩:=hup he
     rw [show most - i=0 by omega] at hAA AV
     exact ⟨by rw [hAA]; show st ++ []=st; simp,AV⟩
   exact ⟨_,rfl,_,rfl,x,m.dx,_,rfl,ho,mF jx,x,z,50 + i,rfl,⟨m,_,aq,M⟩,fun v hv=>⟨le_of_ble_eq_true rfl,fun t nt=>fin key.1 key.2 v hv t nt⟩⟩
end
theorem xm {ring:Int→Bool} {rws:List Rw} {xs:List Wi}:∀ (n:Nat) (z:Zt) (t:Tl) (ws:List Wi),(gM ring rws xs n z t ws).ks=t.ks
 | 0,_,_,_=>rfl
 | n + 1,z,t,ws=>by
  have h1:(come z.bs ws (bh z) t).ks=t.ks:=Hz
  have h2:(nextT ring rws z (come z.bs ws (bh z) t)).ks=t.ks:=tK.1.trans h1
  unfold gM
  split
  ·split
   ·rw [xm n,h2]
   ·exact h2
  ·exact h1
def i7 (H:Hp) (lp:Addr) (ps:List (List Da)):Prop:=∃ qs:List Addr,H lp=some (.lst (qs.map V.ref))∧qs.length=ps.length∧∀ (i:Nat) q p,qs[i]? = some q→ps[i]? = some p→H q=some (.tup (p.map tu))∧Flat p
theorem i7.same {H H':Hp} {lp:Addr} {ps:List (List Da)} (h:i7 H lp ps) (s:Same H H'):i7 H' lp ps:=by
 obtain ⟨qs,a,b,c⟩:=h
 exact ⟨qs,s _ _ a,b,fun i q p h1 h2=>⟨s _ _ (c i q p h1 h2).1,(c i q p h1 h2).2⟩⟩
def eL:Nat→List (List Da)→List Wi
 | _,[]=>[]
 | k,p :: r=>⟨p, "count",(k:Nat),0⟩ :: eL (k + 1) r
theorem tQ:∀ (k:Nat) (ps:List (List Da)),(eL k ps).length=ps.length
 | _,[]=>rfl
 | k,p :: r=>by show (eL (k + 1) r).length + 1=_; rw [tQ]; rfl
theorem xq:∀ (k j:Nat) (ps:List (List Da)),(eL k ps)[j]? = ps[j]?.map fun p=>⟨p, "count",((k + j:Nat):Int),0⟩
 | _,_,[]=>by simp [eL]
 | k,0,p :: r=>rfl
 | k,j + 1,p :: r=>by
  show (eL (k + 1) r)[j]? = r[j]?.map _
  rw [xq (k + 1) j r,show k + 1 + j=k + (j + 1) by omega]
theorem tR {k:Nat} {ps:List (List Da)} {x:Wi} (h:x ∈ eL k ps):∃ (j:Nat) (p:List Da),ps[j]? = some p∧x=⟨p, "count",((k + j:Nat):Int),0⟩:=by
 obtain ⟨j,hj⟩:=List.getElem?_of_mem h
 rw [xq] at hj
 obtain ⟨p,hp,rfl⟩:=map_eq_some_iff.mp hj
 exact ⟨j,p,hp,rfl⟩
theorem Jk:∀ (k:Nat) (ps:List (List Da)),((eL k ps).map (·.n)).Nodup
 | _,[]=>nodup_nil
 | k,p :: r=>by
  show ((k:Int) :: (eL (k + 1) r).map (·.n)).Nodup
  rw [nodup_cons]
  refine ⟨fun h=>?_,Jk (k + 1) r⟩
  obtain ⟨x,hx,e⟩:=mem_map.mp h
  obtain ⟨j,p,_,rfl⟩:=tR hx
  have e:((k + 1 + j:Nat):Int)=(k:Nat):=e
  omega
theorem OL (k:Nat) (ps:List (List Da)):Lq (eL k ps):=fun x hx=>by
 obtain ⟨j,p,_,rfl⟩:=tR hx
 exact .inr rfl
theorem OM {ds:List FR} {k:Nat} {ps:List (List Da)} (h:∀ p ∈ ps,EX ds p) (hk:k + ps.length ≤ 1000000):∀ x ∈ eL k ps,L3 ds x:=fun x hx=>by
 obtain ⟨j,p,hp,rfl⟩:=tR hx
 have hj:=(List.getElem?_eq_some_iff.mp hp).1
 exact ⟨h p (List.mem_of_getElem? hp),.inr (.inl rfl),⟨show (0:Int) ≤ ((k + j:Nat):Int) by omega,show ((k + j:Nat):Int) ≤ 1000000 by omega⟩,⟨show (0:Int) ≤ 0 by decide,show (0:Int) ≤ 7 by decide⟩⟩
theorem zJ {ds:List FR} {xs:List Wi} (h:∀ x ∈ xs,L3 ds x):∀ x ∈ xs,zx (vK xs) x:=fun x hx=>by
 obtain ⟨_,hu,_,hb⟩:=h x hx
 have b1:(0:Int) ≤ x.b:=hb.1
 have b2:x.b ≤ 7:=hb.2
 exact ⟨hu,⟨b1,by omega⟩,fun e=>mem_map.mpr ⟨x,mem_filter.mpr ⟨hx,decide_eq_true e⟩,rfl⟩⟩
theorem zK:∀ (k:Nat) (ps:List (List Da)) (p:List Da),eL k (ps ++ [p])=eL k ps ++ [⟨p, "count",((k + ps.length:Nat):Int),0⟩]
 | _,[],_=>rfl
 | k,q :: r,p=>by
  show _ :: eL (k + 1) (r ++ [p])=_ :: (eL (k + 1) r ++ _)
  rw [zK (k + 1) r p,show k + 1 + r.length=k + (q :: r).length by rw [length_cons]; omega]
theorem OO {xs:List V} {i:Nat} (h:i * 12 ≤ xs.length):eJ xs (some ((i:Int) * 12)) (some ((i:Int) * 12 + 12))=(xs.drop (i * 12)).take 12:=by
 unfold eJ
 have e1:HT.ef xs.length 0 (some ((i:Int) * 12))=i * 12:=by
  rw [show (i:Int) * 12=((i * 12:Nat):Int) by omega,HT.iA]
  omega
 have e2:HT.ef xs.length xs.length (some ((i:Int) * 12 + 12))=min (i * 12 + 12) xs.length:=by
  rw [show (i:Int) * 12 + 12=((i * 12 + 12:Nat):Int) by omega,HT.iA]
 rw [e1,e2]
 rcases Nat.le_total (i * 12 + 12) xs.length with c | c
 ·rw [min_eq_left c,show i * 12 + 12 - i * 12=12 by omega]
 ·rw [Nat.min_eq_right c,take_of_length_le (by rw [length_drop]; omega),take_of_length_le (by rw [length_drop]; omega)]
theorem xr {ds:List FR} (hG:ik ds) {H:Hp} {lr:Addr} (hR:eU H lr ds) (hs:∀ d ∈ ds,¬ d.u = "see"):∀ rw ∈ ds.map cu,¬ rw.word = "see" := fun rw hrw=>by
 obtain ⟨d,hd,rfl⟩:=mem_map.mp hrw
 obtain ⟨qs,_,b,c⟩:=hR
 obtain ⟨i,hi⟩:=List.getElem?_of_mem hd
 have hil:=(List.getElem?_eq_some_iff.mp hi).1
 rw [(rw_is (c i _ d (List.getElem?_eq_getElem (by omega)) hi) (hG.2.2.1 d hd)).2]
 exact hs d hd
structure AW (H:Hp) (tb pb pc pl:Addr) (bs bells:List Int) (d:List (Key × V)) (cf:Int→Int):Prop where
 tb:H tb=some (.tup [.ref pb,.ref pc,.ref pl])
 pb:H pb=some (.lst (bs.map V.int))
 b8:bs.length=8
 pc:H pc=some (.dK d)
 rep:Rep d cf
 dl:d.length ≤ 50
 pl:H pl=some (.lst (bells.map V.int))
 D4:bells.length ≤ 100
theorem AW.same {H H':Hp} {tb pb pc pl:Addr} {bs bells:List Int} {d:List (Key × V)} {cf:Int→Int} (h:AW H tb pb pc pl bs bells d cf) (s:Same H H'):AW H' tb pb pc pl bs bells d cf:=⟨s _ _ h.tb,s _ _ h.pb,h.b8,s _ _ h.pc,h.rep,h.dl,s _ _ h.pl,h.D4⟩
section
variable {P:Program} {w:World} {K:Frag} {mg:Str→Option Value} {base:Heap}
def OQ:Sp:=fun vs H Q _=>∃ (lr lp tb pb pc pl:Addr) (most:Nat) (ds:List FR) (ps:List (List Da)) (bs bells:List Int) (d:List (Key × V)) (cf:Int→Int),vs=[.ref lr,.ref lp,.ref tb,.int (most:Int)]∧most ≤ 61∧eU H lr ds∧ik ds∧(∀ d ∈ ds,¬ d.u = "see")∧i7 H lp ps∧ps.length ≤ 100∧(∀ p ∈ ps,EX ds p)∧AW H tb pb pc pl bs bells d cf ∧
 ∀ (l:Addr) (H':Hp),Same H H'→H l=none→H' l=some (.lst ((ps.map fun p=>((hits (arr (bg bells) (ds.map cu) most (z0 bs cf) none) p:Nat):Int)).map V.int))→Q (.ref l) H'
theorem AX:aG ["_law_rows_here", "_law_places", "_law_beginning_here", "_law_most", "_law_found", "_law_k", "_law_wishes", "_law_told"] ["_law_rows_here", "_law_places", "_law_beginning_here", "_law_most"] (aj cY):=⟨rfl,rfl,rfl,by decide +kernel,rfl,by decide +kernel,by decide +kernel⟩
def LI:Scope:={ kind:=.function,names:=[(".0",.local),("_law_j",.local),("_law_place",.local),("_law_k",.free)],isGenerator:=false,isCoroutine:=false,more:=[] }
theorem D5:dD (aj cY) LI ["_law_rows_here", "_law_places", "_law_beginning_here", "_law_most", "_law_found", "_law_k", "_law_wishes", "_law_told"] ["_law_j", "_law_place", "_law_k"] [none,none,some 5]:=⟨rfl,by decide +kernel,by decide +kernel,by decide +kernel,by decide +kernel,by decide +kernel⟩
def LJ:Scope:={ kind:=.function,names:=[(".0",.local),("_law_j",.local),("_law_k",.free),("_law_told",.free)],isGenerator:=false,isCoroutine:=false,more:=[] }
theorem D6:dD (aj cY) LJ ["_law_rows_here", "_law_places", "_law_beginning_here", "_law_most", "_law_found", "_law_k", "_law_wishes", "_law_told"] ["_law_j", "_law_told", "_law_k"] [none,some 7,some 5]:=⟨rfl,by decide +kernel,by decide +kernel,by decide +kernel,by decide +kernel,by decide +kernel⟩
theorem OS {f fP:Addr} {fd DI:FuncData} (F:d6 K "_law_counts" "_law_counts" cY f fd) (T:Txt K w.params mg) (GP:aM P w K mg base bw 9 fP DI ["rows", "wishes", "boxes", "cells", "bells", "most"] HG) (kP:KI K fP) (bP:Binds K DI ["rows", "wishes", "boxes", "cells", "bells", "most"] []) (mP:mg "plain_seen" = some (.ref fP)):aM P w K mg base bw 10 f fd ["_law_rows_here", "_law_places", "_law_beginning_here", "_law_most"] OQ:=by
 refine F.ok AX (fun vs H Q E h=>?_) (fun cdv A outer s H vs Q E hr h=>?_)
 ·obtain ⟨lr,lp,tb,pb,pc,pl,most,ds,ps,bs,bells,d,cf,rfl,_⟩:=h
  rfl
 ·obtain ⟨lr,lp,tb,pb,pc,pl,most,ds,ps,bs,bells,d,cf,rfl,hmo,hR,hG,hs,hP,h100,hpl,hB,k⟩:=h
  have hu:=cK hr
  obtain ⟨qs,g1,g2,g3⟩:=id hP
  have xt:=xr hG hR hs
  refine dA (au (aA (aT (i:=4) AX.nd rfl (Or.inl rfl) (cr ak)))
   (au (aA (gU PassesOwn.never rfl (wH rfl T.range (ae ao (ae (aQ aL (by rfl) T.len cn (ae (pv 1) ak)) (ae ao ak)))) (cG (i:=5) AX.nd rfl (Or.inr rfl)) (aH (kf (i:=6) (N':=["_law_j", "_law_place", "_law_k"]) (fr:=[none,none,some 5]) AX.nd rfl rfl D5 rfl (sj rfl T.enum (ae (dO gh (pv 1) (dC (pv 5)) (dC (aJ cS (pv 5) ao))) ak)) (fun C s0 H0 fp=>(iY (K:=K) (i:=0) (j:=1) rfl rfl D5.nd rfl (Or.inl rfl) rfl (Or.inl rfl))) (fun C s0 H0 fp=>fz) (fun C s0 H0 fp=>(bf (ae (pv 1) (ae (bf (ae ay (ae (aJ cS (pv 2) (pv 0)) ak))) ak)))))
   (aH (aT (i:=7) AX.nd rfl (Or.inr rfl) (aN GP hr (by rfl) mP kP bP .nil aW (ae (pv 0) (ae (pv 6) (ae (aB aI (pv 2) ao (fun _ _=>rfl)) (ae (aB aI (pv 2) ao (fun _ _=>rfl)) (ae (aB aI (pv 2) ao (fun _ _=>rfl)) (ae (pv 3) ak))))))))
   (az (aT (i:=4) AX.nd rfl (Or.inl rfl) (aJ lL (pv 4) (fF (N':=["_law_j", "_law_told", "_law_k"]) (fr:=[none,some 7,some 5]) D6 rfl (gm rfl T.range (ae (aQ aL (by rfl) T.len cn (ae (pv 6) ak)) ak)) (fun C s0 H0 fp=>(cG (i:=0) D6.nd rfl (Or.inl rfl))) (fun C s0 H0 fp=>fz) (fun C s0 H0 fp=>(cP hu (cP hu (pv 1) ay (fun _ _=>rfl)) (aJ cS (pv 2) (pv 0)) (fun _ _=>rfl)))))))))))
   (aO (aA (aS (pv 4)))))) ?_
  refine ⟨le_of_ble_eq_true rfl,fun l0 n0=>?_⟩
  have s0:=ai (o:=.lst []) n0
  have h0:upd H l0 (.lst []) l0=some (.lst (([]:List Int).map V.int)):=ah
  generalize upd H l0 (.lst [])=G0 at s0 h0 ⊢
  refine ⟨_,rfl,lp,_,rfl,.inl (aZ.of (s0 _ _ g1)),ps.length,by rw [length_map,g2],by omega,?_⟩
  refine Kf (n:=(ps.length + 11) / 12) (fun i σ G=>∃ (l:Addr) (v1 v2 v3:Option V),σ=[some (.ref lr),some (.ref lp),some (.ref tb),some (.int (most:Int)),some (.ref l),v1,v2,v3]∧Same H G∧H l=none∧G l=some (.lst (((ps.take (i * 12)).map fun p=>((hits (arr (bg bells) (ds.map cu) most (z0 bs cf) none) p:Nat):Int)).map V.int))) ?_ ?_ ?_
  ·exact ⟨l0,none,none,none,rfl,s0,n0,h0⟩
  ·rintro i σ G hi ⟨l,v1,v2,v3,rfl,s1,nl,hl⟩
   have hi12:i * 12 < ps.length:=by omega
   refine ⟨_,rfl,_,rfl,_,rfl,_,rfl,_,_,rfl,rfl,_,rfl,lp,_,rfl,aZ.of (s1 _ _ g1),fun lc NW=>?_⟩
   rw [show eJ (qs.map V.ref) (some ((i:Int) * 12)) (some ((fun i j:Int=>i + j) ((i:Int) * 12) 12))=(((qs.drop (i * 12)).take 12).map V.ref) from (OO (by rw [length_map]; omega)).trans (by rw [map_take,map_drop])]
   have s2:=ai (o:=.lst (((qs.drop (i * 12)).take 12).map V.ref)) NW
   have BK:upd G lc (.lst (((qs.drop (i * 12)).take 12).map V.ref)) lc=some (.lst (((qs.drop (i * 12)).take 12).map V.ref)):=ah
   generalize upd G lc (.lst (((qs.drop (i * 12)).take 12).map V.ref))=G2 at s2 BK ⊢
   obtain ⟨ch,OU⟩:∃ ch,ch=(ps.drop (i * 12)).take 12:=⟨_,rfl⟩
   obtain ⟨cq,Rg⟩:∃ cq,cq=(qs.drop (i * 12)).take 12:=⟨_,rfl⟩
   rw [← Rg] at BK
   have cl:cq.length=ch.length:=by rw [Rg,OU,length_take,length_take,length_drop,length_drop,g2]
   have c12:ch.length ≤ 12:=by rw [OU,length_take]; omega
   have s12:=s1.trans s2
   have hcp:∀ (j:Nat) q p,cq[j]? = some q→ch[j]? = some p→G2 q=some (.tup (p.map tu))∧Flat p:=fun j q p h1 h2=>by
    rw [Rg,List.getElem?_take] at h1
    rw [OU,List.getElem?_take] at h2
    split at h1
    ·rename_i hj
     rw [if_pos hj] at h2
     rw [List.getElem?_drop] at h1 h2
     exact ⟨s12 _ _ (g3 _ q p h1 h2).1,(g3 _ q p h1 h2).2⟩
    ·cases h1
   have hcg:∀ p ∈ ch,EX ds p:=fun p hp=>hpl p (by rw [OU] at hp; exact List.mem_of_mem_drop (List.mem_of_mem_take hp))
   have tke:ps.take ((i + 1) * 12)=ps.take (i * 12) ++ ch:=by rw [show (i + 1) * 12=i * 12 + 12 by omega,List.take_add,OU]
   clear Rg
   refine ⟨lc,rfl,⟨_,aZ.of BK⟩,fun D nD=>Am (K:=K) (a:=lc) (xs:=cq.map V.ref) (fun j σ ys G'=>∃ (v1 v2:Option V) (fs:List Addr),σ=[v1,v2,some (.int ((i:Int) * 12))]∧ys=fs.map V.ref∧fs.length=j∧(∀ (a:Nat) q x,fs[a]? = some q→(eL (i * 12) (ch.take j))[a]? = some x→tE G' q x)∧Same G2 G'∧G' D=some (.lst ys)) ?_ ?_ ?_ ?_⟩
   ·exact ⟨none,none,[],rfl,rfl,rfl,(fun a q x e=>by simp at e),ai nD,ah⟩
   ·rintro j σ ys G' _ ⟨v1,v2,fs,rfl,rfl,_,_,s3,_⟩
    exact aZ.of (s3 _ _ BK)
   ·rintro j x σ ys G' tt hx NX ⟨v1,v2,fs,rfl,rfl,hfl,hf,s3,hD⟩
    rw [List.getElem?_map] at hx
    obtain ⟨q,hq,rfl⟩:=map_eq_some_iff.mp hx
    have hjl:j < ch.length:=by have:=(List.getElem?_eq_some_iff.mp hq).1; omega
    have hp:ch[j]? = some ch[j]:=List.getElem?_eq_getElem hjl
    obtain ⟨c1,c2⟩:=hcp j q _ hq hp
    generalize ch[j]=p at hp c1 c2
    have s4:=ai (o:=.tup [V.int j,V.ref q]) NX
    have htt:upd G' tt (.tup [V.int j,V.ref q]) tt=_:=ah
    generalize upd G' tt (.tup [V.int j,V.ref q])=G4 at s4 htt ⊢
    have tk:ch.take (j + 1)=ch.take j ++ [p]:=by rw [take_add_one,hp]; rfl
    have tl:(ch.take j).length=j:=by rw [length_take]; omega
    refine ⟨tt,_,rfl,bp.of htt,rfl,_,_,rfl,_,_,rfl,rfl,?_⟩
    refine ⟨_,rfl,_,rfl,_,rfl,_,_,rfl,rfl,le_of_ble_eq_true rfl,fun tw TK=>⟨le_of_ble_eq_true rfl,fun tq TL=>?_⟩⟩
    have v5:=ai (o:=.tup [V.str "count",V.int ((i:Int) * 12 + j)]) TK
    have v6:=ai (o:=.tup [V.ref q,V.ref tw]) TL
    have s6:=s4.trans (v5.trans v6)
    have hD6:=s6 _ _ hD
    have hq6:=(v5.trans v6) _ _ (s4 _ _ (s3 _ _ c1))
    have hw6:=v6 _ _ (ah (H:=G4) (a:=tw) (o:=.tup [V.str "count",V.int ((i:Int) * 12 + j)]))
    have hq7:upd (upd G4 tw (.tup [V.str "count",V.int ((i:Int) * 12 + j)])) tq (.tup [V.ref q,V.ref tw]) tq=some (.tup [V.ref q,V.ref tw]):=ah
    refine ⟨hD6,bu (by rw [length_map]; omega),_,_,fs ++ [tq],rfl,by simp,by rw [length_append,hfl]; rfl,?_,bz (s3.trans s6) nD,ah⟩
    have T:=iu (o:=.lst (fs.map V.ref ++ [V.ref tq])) hD6
    rw [tk,zK,tl]
    refine kI (as:=fs) (bs:=eL (i * 12) (ch.take j)) (cs:=[tq]) (R:=tE (upd (upd (upd G4 tw (.tup [V.str "count",V.int ((i:Int) * 12 + j)])) tq (.tup [V.ref q,V.ref tw])) D (.lst (fs.map V.ref ++ [V.ref tq])))) (by rw [tQ,tl,hfl]) (fun a q x h1 h2=>((hf a q x h1 h2).tups (.of s6)).tups T) (fun a q' x h1 h2=>?_)
    cases a with
    | zero =>
     cases h1; cases h2
     refine tE.tups ⟨q,tw,hq7,hq6,c2,?_⟩ T
     show _=some (HO.tup [V.str "count",V.int ((i * 12 + j:Nat):Int)])
     rw [hw6,show (i:Int) * 12 + j=((i * 12 + j:Nat):Int) by omega]
    | succ a=>simp at h1
   rintro σ ys G3 ⟨v1,v2,fs,rfl,rfl,hfl,hf,s3,hD⟩
   rw [length_map,cl] at hfl
   rw [length_map,cl,take_length] at hf
   have OV:i5 G3 D (eL (i * 12) ch):=⟨fs,hD,by rw [tQ,hfl],hf⟩
   have DM:=s12.trans s3
   have B_:=hB.same DM
   have hwi:=OM hcg (k:=i * 12) (by omega)
   refine ⟨_,rfl,_,rfl,_,rfl,tb,_,0,_,rfl,rfl,bp.of B_.tb,at0 _ _,_,rfl,tb,_,1,_,rfl,rfl,bp.of B_.tb,at1 _ _ _,_,rfl,tb,_,2,_,rfl,rfl,bp.of B_.tb,at2 _ _ _ _,_,rfl,lr,D,pb,pc,pl,most,ds,eL (i * 12) ch,bs,bells,d,cf,rfl,hmo,hR.same DM,hG,OV,by rw [tQ]; omega,hwi,zJ hwi,B_.pb,B_.b8,B_.pc,B_.rep,B_.dl,B_.pl,B_.D4,fun a mt G5 s5 _ M5=>?_⟩
   have hks:(gM (bg bells) (ds.map cu) (eL (i * 12) ch) most (z0 bs cf) (xk (eL (i * 12) ch)) ((eL (i * 12) ch).filter (gg 0))).ks=vK (eL (i * 12) ch):=xm _ _ _ _
   have hrun:=(nV (ring:=bg bells) (OL (i * 12) ch) xt most (z0 bs cf) (xk (eL (i * 12) ch)) none rfl).2.2.1
   rw [show qj (eL (i * 12) ch) (none,bh (z0 bs cf))=(eL (i * 12) ch).filter (gg 0) from rfl] at hrun
   generalize gM (bg bells) (ds.map cu) (eL (i * 12) ch) most (z0 bs cf) (xk (eL (i * 12) ch)) ((eL (i * 12) ch).filter (gg 0))=F at M5 hks hrun
   obtain ⟨w0,ho,_⟩:=M5.st
   obtain ⟨dd,hc,hcr,_⟩:=M5.cnt
   have hv:∀ (j:Nat) p,ch[j]? = some p→cH dd (Sum.inl ((i:Int) * 12 + (0 + (j:Int))):Key)=some (.int ((hits (arr (bg bells) (ds.map cu) most (z0 bs cf) none) p:Nat):Int)):=fun j p hp=>by
    have hx:(⟨p, "count",((i * 12 + j:Nat):Int),0⟩:Wi) ∈ eL (i * 12) ch:=List.mem_of_getElem? (i:=j) (by rw [xq,hp]; rfl)
    have en:(i:Int) * 12 + (0 + (j:Int))=((i * 12 + j:Nat):Int):=by omega
    have qE:=vA (u := "count") (Jk (i * 12) ch) (fun y hy=>by obtain ⟨_,_,_,rfl⟩:=tR hy; rfl) hx (arr (bg bells) (ds.map cu) most (z0 bs cf) none)
    have hm:((i * 12 + j:Nat):Int) ∈ F.ks:=by
     rw [hks]
     exact mem_map.mpr ⟨_,mem_filter.mpr ⟨hx,decide_eq_true rfl⟩,rfl⟩
    rw [en,hcr.val,if_pos hm,hrun,qE]
    show some (V.int (0 + _))=_
    rw [Int.zero_add]
   have s15:=DM.trans s5
   refine ⟨_,rfl,_,rfl,D,_,rfl,.inl (aZ.of (s5 _ _ hD)),_,rfl,by omega,by rw [length_map]; omega,fun D2 IY=>?_⟩
   refine jU (lo:=0) (n:=(((fs.map V.ref).length:Nat):Int).toNat) (fun j σ ys G'=>∃ v:Option V,σ=[v,some (.ref a),some (.int ((i:Int) * 12))]∧ys=((ch.take j).map fun p=>((hits (arr (bg bells) (ds.map cu) most (z0 bs cf) none) p:Nat):Int)).map V.int∧Same G5 G'∧G' D2=some (.lst ys)) ?_ ?_ ?_
   ·exact ⟨none,rfl,rfl,ai IY,ah⟩
   ·rintro j σ ys G' hj ⟨v,rfl,rfl,s6,hD2⟩
    rw [Int.toNat_natCast,length_map,hfl] at hj
    have hp:ch[j]? = some ch[j]:=List.getElem?_eq_getElem hj
    generalize ch[j]=p at hp
    refine ⟨_,rfl,a,_,rfl,jC (s6 _ _ ho) zt,_,rfl,_,rfl,_,_,rfl,rfl,mt.c,_,rfl,(hv j p hp) ▸ iR.k (k:=Sum.inl ((i:Int) * 12 + (0 + (j:Int)))) (s6 _ _ hc),hD2,bu (by rw [length_map,length_map,length_take]; omega),_,rfl,?_,bz s6 IY,ah⟩
    rw [take_add_one,hp,map_append,map_append]
    rfl
   rintro σ ys G6 ⟨v,rfl,rfl,s6,hD2⟩
   rw [Int.toNat_natCast,length_map,hfl,take_length] at hD2
   have s16:=s15.trans s6
   refine ⟨l,D2,_,_,rfl,rfl,((s2.trans s3).trans (s5.trans s6)) _ _ hl,hD2,?_,fun l7 n7=>?_⟩
   ·rw [length_map,length_map,length_map,length_map,length_take]
    exact Nat.le_of_lt (bu (by omega))
   rw [← map_append,← map_append,← tke]
   exact ⟨l7,_,_,_,rfl,s16.trans (ai n7),s16.free n7,ah⟩
  ·rintro σ G ⟨l,v1,v2,v3,rfl,s1,nl,hl⟩
   rw [take_of_length_le (by omega)] at hl
   exact ⟨_,rfl,k l G s1 nl hl⟩
def OW:Sp:=fun vs H Q _=>∃ (lr q tb pb pc pl:Addr) (bx:Int) (most:Nat) (ds:List FR) (p:List Da) (bs bells:List Int) (d:List (Key × V)) (cf:Int→Int),vs=[.ref lr,.ref q,.int bx,.ref tb,.int (most:Int)]∧most ≤ 61∧eU H lr ds∧ik ds∧(∀ d ∈ ds,¬ d.u = "see")∧H q=some (.tup (p.map tu))∧Flat p∧EX ds p∧vJ "box" bx∧AW H tb pb pc pl bs bells d cf ∧
 ∀ H':Hp,Same H H'→Q (.int ((hits (arr (bg bells) (ds.map cu) most (z0 bs cf) none) p:Nat):Int)) H'
theorem LK:aG ["_law_rows_here", "_law_place", "_law_box", "_law_beginning_here", "_law_most", "_law_wishes", "_law_told"] ["_law_rows_here", "_law_place", "_law_box", "_law_beginning_here", "_law_most"] (aj dQ):=⟨rfl,rfl,rfl,by decide +kernel,rfl,by decide +kernel,by decide +kernel⟩
def LL:Scope:={ kind:=.function,names:=[(".0",.local),("_law_number",.local),("_law_value",.local)],isGenerator:=false,isCoroutine:=false,more:=[] }
theorem D7:dD (aj dQ) LL ["_law_rows_here", "_law_place", "_law_box", "_law_beginning_here", "_law_most", "_law_wishes", "_law_told"] ["_law_number", "_law_value"] [none,none]:=⟨rfl,by decide +kernel,by decide +kernel,by decide +kernel,by decide +kernel,by decide +kernel⟩
theorem OX {f fP:Addr} {fd DI:FuncData} (F:d6 K "_law_looks" "_law_looks" dQ f fd) (T:Txt K w.params mg) (GP:aM P w K mg base bw 9 fP DI ["rows", "wishes", "boxes", "cells", "bells", "most"] HG) (kP:KI K fP) (bP:Binds K DI ["rows", "wishes", "boxes", "cells", "bells", "most"] []) (mP:mg "plain_seen" = some (.ref fP)):aM P w K mg base bw 10 f fd ["_law_rows_here", "_law_place", "_law_box", "_law_beginning_here", "_law_most"] OW:=by
 refine F.ok LK (fun vs H Q E h=>?_) (fun cdv A outer s H vs Q E hr h=>?_)
 ·obtain ⟨lr,q,tb,pb,pc,pl,bx,most,ds,p,bs,bells,d,cf,rfl,_⟩:=h
  rfl
 ·obtain ⟨lr,q,tb,pb,pc,pl,bx,most,ds,p,bs,bells,d,cf,rfl,hmo,hR,hG,hs,hq,hfl,hpg,hbx,hB,k⟩:=h
  have hu:=cK hr
  have xt:=xr hG hR hs
  refine dA (au (aA (aT (i:=5) LK.nd rfl (Or.inl rfl) (cr (ae (bf (ae (pv 1) (ae (bf (ae ay (ae ao (ae (pv 2) ak)))) ak))) ak))))
   (au (aA (aT (i:=6) LK.nd rfl (Or.inl rfl) (aN GP hr (by rfl) mP kP bP .nil aW (ae (pv 0) (ae (pv 5) (ae (aB aI (pv 3) ao (fun _ _=>rfl)) (ae (aB aI (pv 3) ao (fun _ _=>rfl)) (ae (aB aI (pv 3) ao (fun _ _=>rfl)) (ae (pv 4) ak)))))))))
   (aO (aA (aS (aQ aL (by rfl) T.len cn (ae (fF (N':=["_law_number", "_law_value"]) (fr:=[none,none]) D7 rfl (dS (cP hu (pv 6) ay (fun _ _=>rfl))) (fun C s0 H0 fp=>(iY (K:=K) (i:=0) (j:=1) rfl rfl D7.nd rfl (Or.inl rfl) rfl (Or.inl rfl))) (fun C s0 H0 fp=>(ke (aP eM (pv 0) ao (aY _)))) (fun C s0 H0 fp=>(pv 0))) ak))))))) ?_
  refine ⟨_,rfl,_,rfl,le_of_ble_eq_true rfl,fun tw TK=>⟨le_of_ble_eq_true rfl,fun tq TL=>⟨le_of_ble_eq_true rfl,fun lw Jj=>?_⟩⟩⟩
  have v1:=ai (o:=.tup [V.str "look",V.int 1000000,V.int bx]) TK
  have v2:=ai (o:=.tup [V.ref q,V.ref tw]) TL
  have v3:=ai (o:=.lst [V.ref tq]) Jj
  have s1:=v1.trans (v2.trans v3)
  have OV:i5 (upd (upd (upd H tw (.tup [V.str "look",V.int 1000000,V.int bx])) tq (.tup [V.ref q,V.ref tw])) lw (.lst [V.ref tq])) lw [⟨p, "look",1000000,bx⟩]:=⟨[tq],ah,rfl,fun i q' x h1 h2=>by
   cases i with
   | zero=>cases h1; cases h2; exact ⟨q,tw,v3 _ _ ah,s1 _ _ hq,hfl,(v2.trans v3) _ _ ah⟩
   | succ i=>simp at h1⟩
  generalize upd (upd (upd H tw (.tup [V.str "look",V.int 1000000,V.int bx])) tq (.tup [V.ref q,V.ref tw])) lw (.lst [V.ref tq])=G1 at s1 OV ⊢
  obtain ⟨xs,exs⟩:∃ xs:List Wi,xs=[⟨p, "look",1000000,bx⟩]:=⟨_,rfl⟩
  have hng:Lq xs:=by rw [exs]; intro y hy; rw [mem_singleton.mp hy]; exact .inl rfl
  have hwi:∀ x ∈ xs,L3 ds x:=by rw [exs]; intro y hy; rw [mem_singleton.mp hy]; exact ⟨hpg,.inl rfl,⟨show (0:Int) ≤ 1000000 by decide,show (1000000:Int) ≤ 1000000 by decide⟩,hbx⟩
  have qE:=vA (u := "look") (xs:=xs) (x:=⟨p, "look",1000000,bx⟩) (by rw [exs]; exact nodup_cons.mpr ⟨not_mem_nil,nodup_nil⟩) (by rw [exs]; intro y hy; rw [mem_singleton.mp hy]) (by rw [exs]; simp) (arr (bg bells) (ds.map cu) most (z0 bs cf) none)
  rw [← exs] at OV
  have hl1:xs.length ≤ 12:=by rw [exs]; exact le_of_ble_eq_true rfl
  clear exs
  have B_:=hB.same s1
  refine ⟨_,rfl,_,rfl,_,rfl,tb,_,0,_,rfl,rfl,bp.of B_.tb,at0 _ _,_,rfl,tb,_,1,_,rfl,rfl,bp.of B_.tb,at1 _ _ _,_,rfl,tb,_,2,_,rfl,rfl,bp.of B_.tb,at2 _ _ _ _,_,rfl,lr,lw,pb,pc,pl,most,ds,xs,bs,bells,d,cf,rfl,hmo,hR.same s1,hG,OV,hl1,hwi,zJ hwi,B_.pb,B_.b8,B_.pc,B_.rep,B_.dl,B_.pl,B_.D4,fun a mt G5 s5 _ M5=>?_⟩
  have hrun:=(nV (ring:=bg bells) hng xt most (z0 bs cf) (xk xs) none rfl).2.2.2 1000000
  rw [show qj xs (none,bh (z0 bs cf))=xs.filter (gg 0) from rfl] at hrun
  have qE:jX (gM (bg bells) (ds.map cu) xs most (z0 bs cf) (xk xs) (xs.filter (gg 0))) 1000000=hits (arr (bg bells) (ds.map cu) most (z0 bs cf) none) p:=by
   rw [hrun,qE]
   exact zero_add _
  clear hrun
  generalize gM (bg bells) (ds.map cu) xs most (z0 bs cf) (xk xs) (xs.filter (gg 0))=F at M5 qE
  obtain ⟨w0,ho,_⟩:=M5.st
  obtain ⟨ts,ht,hts⟩:=M5.seen
  have lm:=M5.lens.1
  refine ⟨_,rfl,a,_,rfl,jC ho xh,mt.s,rfl,⟨_,aZ.of ht⟩,fun D nD=>eG (K:=K) (a:=mt.s) (xs:=ts.map V.ref) (fun j σ ys G=>∃ v1 v2:Option V,σ=[v1,v2]∧ys.length=((F.sn.take j).filter fun p=>decide (p.1=1000000)).length∧Same G5 G∧G D=some (.lst ys)) ?_ ?_ ?_ ?_⟩
  ·exact ⟨none,none,rfl,rfl,ai nD,ah⟩
  ·rintro j σ ys G _ ⟨v1,v2,rfl,_,s6,_⟩
   exact aZ.of (s6 _ _ ht)
  ·rintro j x σ ys G hx ⟨v1,v2,rfl,hyl,s6,hD⟩
   rw [List.getElem?_map] at hx
   obtain ⟨t,htj,rfl⟩:=map_eq_some_iff.mp hx
   have hjl:j < F.sn.length:=by have:=(List.getElem?_eq_some_iff.mp htj).1; have:=hts.1; omega
   have hp:F.sn[j]? = some F.sn[j]:=List.getElem?_eq_getElem hjl
   have htt:=s6 _ _ (hts.2 j t _ htj hp)
   generalize F.sn[j]=pr at hp htt
   have tk:F.sn.take (j + 1)=F.sn.take j ++ [pr]:=by rw [take_add_one,hp]; rfl
   have yb:ys.length ≤ F.sn.length:=by
    rw [hyl]
    exact le_trans (length_filter_le _ _) (by rw [length_take]; omega)
   refine ⟨t,_,rfl,bp.of htt,rfl,_,_,rfl,_,_,rfl,rfl,?_⟩
   refine ⟨_,rfl,rfl,_,rfl,d7 (fun c=>?_) (fun c=>?_)⟩
   ·have c:pr.1=1000000:=V.int.inj (of_decide_eq_true c)
    refine ⟨_,rfl,hD,bu (by omega),_,_,rfl,?_,bz s6 nD,ah⟩
    rw [tk,filter_append,length_append,length_append,hyl]
    simp [c]
   ·have c:¬ pr.1=1000000:=fun e=>c (decide_eq_true (congrArg V.int e))
    refine ⟨_,_,rfl,?_,s6,hD⟩
    rw [tk,filter_append,length_append,hyl]
    simp [c]
  rintro σ ys G ⟨v1,v2,rfl,hyl,s6,hD⟩
  rw [length_map,hts.1,take_length] at hyl
  refine ⟨D,_,rfl,.inl (aZ.of hD),?_⟩
  rw [show (ys.length:Nat)=jX F 1000000 from hyl,qE]
  exact k G ((s1.trans s5).trans s6)
end
theorem AY (l:List Int):∀ z ∈ l.map V.int,u7 z:=fun z h=>by
 obtain ⟨i,_,rfl⟩:=mem_map.mp h
 exact .inr (.inl ⟨i,rfl⟩)
theorem HL {H:Hp} {p q:Addr} {l:List Int} (h1:H p=some (.lst (l.map V.int))) (h2:H q=some (.lst (l.map V.int))):LW H (.ref p) (.ref q):=.inr (.inr (.inl ⟨p,q,_,rfl,rfl,h1,h2,AY l⟩))
def BL (t:Tl):Prop:=∀ xs,t.en=some xs→∀ z ∈ xs,u7 z
theorem HM {bs:List Int} {t:Tl} {x:Wi} (h:BL t):BL (gY bs t x):=by
 unfold gY
 split
 ·exact h
 split
 ·exact h
 split
 ·intro xs e z hz
  cases e
  rcases (show z=.str "halt" ∨ z=.int x.n by simpa using hz) with rfl | rfl
  ·exact .inr (.inr ⟨_,rfl⟩)
  ·exact .inr (.inl ⟨_,rfl⟩)
 ·exact h
theorem pC {bs:List Int}:∀ (ws:List Wi) (t:Tl),BL t→BL (cB bs t ws)
 | [],_,h=>h
 | x :: r,t,h=>pC r _ (by
  split
  ·exact HM h
  ·exact h)
theorem HN {bs:List Int} {ws:List Wi} {s:Int} {t:Tl} (h:BL t):BL (come bs ws s t):=by
 unfold come
 split
 ·exact pC ws t h
 ·exact pC ws t h
theorem OY {ring:Int→Bool} {r:Rw} {h:Int} {z:Zt} (hn:z.how=none):∀ xs,(aX ring r h z).how=some xs→∀ y ∈ xs,u7 y:=by
 have no:∀ xs,z.how=some xs→∀ y ∈ xs,u7 y:=fun xs e=>by rw [hn] at e; cases e
 cases r with
 | stop =>
  intro xs e y hy
  cases e
  rw [mem_singleton.mp hy]
  exact .inr (.inr ⟨_,rfl⟩)
 | halt v =>
  intro xs e y hy
  cases e
  rcases (show y=.str "halt" ∨ y=.int v by simpa using hy) with rfl | rfl
  ·exact .inr (.inr ⟨_,rfl⟩)
  ·exact .inr (.inl ⟨_,rfl⟩)
 | back =>
  rcases eq_nil_or_concat z.pile with e | ⟨r,p,e⟩
  ·rw [ig e]
   intro xs e y hy
   cases e
   rw [mem_singleton.mp hy]
   exact .inr (.inr ⟨_,rfl⟩)
  ·have e:z.pile=r ++ [p]:=by simpa using e
   rw [kF e]
   exact no
 | two u b v =>
  simp only [aX]
  split
  ·exact no
  split
  ·exact no
  split
  ·exact no
  ·exact no
 | fX u t f =>
  simp only [aX]
  split
  ·exact no
  split
  ·exact no
  split
  ·exact no
  ·exact no
 | _=>exact no
theorem D8 {ring:Int→Bool} {rws:List Rw} {xs:List Wi}:∀ (n:Nat) (z:Zt) (t:Tl) (ws:List Wi),z.how=none→BL t→BL (gM ring rws xs n z t ws)
 | 0,_,_,_,_,h=>h
 | n + 1,z,t,ws,hz,h=>by
  have h1:=HN (bs:=z.bs) (ws:=ws) (s:=bh z) h
  have h2:BL (nextT ring rws z (come z.bs ws (bh z) t)):=OY (ring:=ring) (r:=jD rws z) (h:=bh z) hz
  unfold gM
  split
  ·split
   ·rename_i c
    exact D8 n _ _ _ c h2
   ·exact h2
  ·exact h1
theorem LM {H:Hp} {v w:V} {t:Tl} (hz:BL t) (h1:iI H v t.en) (h2:iI H w t.en):LW H v w:=by
 cases e:t.en with
 | none =>
  rw [e] at h1 h2
  cases h1
  cases h2
  exact .inl ⟨rfl,.inl rfl⟩
 | some xs =>
  rw [e] at h1 h2
  obtain ⟨p,rfl,hp⟩:=h1
  obtain ⟨q,rfl,hq⟩:=h2
  exact .inr (.inl ⟨p,q,xs,rfl,rfl,hp,hq,hz xs e⟩)
theorem LN {xs:List Wi}:BL (xk xs):=fun _ e=>by cases e
theorem pF (r:Int):∀ (A:List (Option Int × Int)),(A.map (·.2)).count r=hits A (du r)
 | []=>rfl
 | a :: A=>by
  rw [map_cons,List.count_cons,pF r A]
  unfold hits
  rw [filter_cons,tP]
  by_cases c:r=a.2
  ·rw [if_pos (decide_eq_true c),length_cons,if_pos (by simp [c])]
  ·rw [if_neg (show ¬ (a.2 == r)=true from fun z=>c (beq_iff_eq.mp z).symm),if_neg (show ¬ decide (r=a.2)=true from fun z=>c (of_decide_eq_true z))]
   rfl
theorem pG (f:Int→Nat):∀ (Q:List Int),(Q.map fun q=>((f q:Nat):Int)).sum=((Q.map f).sum:Nat)
 | []=>rfl
 | q :: Q=>by
  rw [map_cons,sum_cons,map_cons,sum_cons,pG f Q]
  omega
theorem HP (A B C:List V):eJ (A ++ B ++ C) (some ((A.length:Nat):Int)) (some (((A.length + B.length:Nat)):Int))=B:=by
 unfold eJ
 rw [HT.iA,HT.iA,length_append,length_append,min_eq_left (by omega),min_eq_left (by omega),show A.length + B.length - A.length=B.length by omega,List.append_assoc,List.drop_left' rfl,List.take_left' rfl]
theorem HR (A C:List V):eJ (A ++ C) (some ((A.length:Nat):Int)) none=C:=by
 unfold eJ
 rw [HT.iA,HT.uL,length_append,min_eq_left (by omega),List.drop_left' rfl,take_of_length_le (by omega)]
theorem zL {H:Hp} {q:Addr} {d:FR} {n i s:Int} (h:d9 H q d) (g:GoodR d n):isW (cu d) i s↔(s ∈ d.ts∨(¬ d.u ∈ cy∧s=i + 1)):=by
 have e1:(cu d).word=d.u:=(rw_is h g).2
 have e2:(cu d).tg=d.ts:=by
  obtain ⟨⟨o1,o2,o3,o4,o5,o6,o7⟩,hA⟩:=h
  have cls:=(by decide +kernel:∀ u ∈ iZ,u = "stop" ∨ u = "back" ∨ u = "halt" ∨ u = "tell" ∨ u = "table" ∨ u ∈ fX∨u ∈ zb∨u ∈ ten) _ o1
  rcases cls with hu | hu | hu | hu | hu | hu | hu | hu
  ·rw [(o5 (by rw [hu]; decide) (by rw [hu]; decide) (by rw [hu]; decide)).1]
   unfold cu
   rw [if_pos hu]
   rfl
  ·rw [(o5 (by rw [hu]; decide) (by rw [hu]; decide) (by rw [hu]; decide)).1]
   unfold cu
   rw [if_neg (by rw [hu]; decide),if_pos hu]
   rfl
  ·rw [(o5 (by rw [hu]; decide) (by rw [hu]; decide) (by rw [hu]; decide)).1]
   unfold cu
   rw [if_neg (by rw [hu]; decide),if_neg (by rw [hu]; decide),if_pos hu]
   rfl
  ·rw [(o5 (by rw [hu]; decide) (by rw [hu]; decide) (by rw [hu]; decide)).1]
   unfold cu
   rw [if_neg (by rw [hu]; decide),if_neg (by rw [hu]; decide),if_neg (by rw [hu]; decide),if_pos hu]
   rfl
  ·unfold cu
   rw [if_neg (by rw [hu]; decide),if_neg (by rw [hu]; decide),if_neg (by rw [hu]; decide),if_neg (by rw [hu]; decide),if_pos hu]
   rfl
  ·obtain ⟨t,f,e,et⟩:=o3 hu
   rw [vy hu,e,et]
   rfl
  ·obtain ⟨b,t,f,e,et⟩:=o4 hu
   rw [zB hu,e,et]
   rfl
  ·have a:=(by decide +kernel:∀ u ∈ ten,¬ u = "table" ∧ ¬ u ∈ fX∧¬ u ∈ zb) _ hu
   rw [vz hu,(o5 a.1 a.2.1 a.2.2).1]
   rfl
 unfold isW Rw.goes
 rw [e1,e2]
def tS (ds:List FR) (r:Int) (q:Nat):Bool:=match ds[q]? with
 | some d=>decide (r ∈ d.ts∨(¬ d.u ∈ cy∧r=(q:Int) + 1))
 | none=>false
def Qf (ds:List FR) (r:Int) (j:Nat):List Int:=((List.range j).filter (tS ds r)).map fun q:Nat=>(q:Int)
theorem zM (ds:List FR) (r:Int) (j:Nat):Qf ds r (j + 1)=Qf ds r j ++ if tS ds r j=true then [(j:Int)] else []:=by
 unfold Qf
 rw [List.range_succ,filter_append,map_append]
 congr 1
 by_cases c:tS ds r j=true
 ·rw [if_pos c]; simp [c]
 ·rw [if_neg c]; simp [c]
theorem OZ (ds:List FR) (r:Int) (j:Nat):(Qf ds r j).Nodup:=by
 unfold Qf
 exact (List.nodup_range.filter _).map _ (fun a b n z=>n (by exact Int.ofNat.inj z))
theorem D9 {ds:List FR} {r:Int} {j:Nat} {x:Int}:x ∈ Qf ds r j↔∃ q:Nat,x=(q:Int)∧q < j∧tS ds r q=true:=by
 unfold Qf
 rw [mem_map]
 constructor
 ·rintro ⟨q,hq,rfl⟩
  rw [mem_filter,List.mem_range] at hq
  exact ⟨q,rfl,hq.1,hq.2⟩
 ·rintro ⟨q,rfl,h1,h2⟩
  exact ⟨q,mem_filter.mpr ⟨List.mem_range.mpr h1,h2⟩,rfl⟩
theorem Ea (ds:List FR) (r:Int) (j:Nat):(Qf ds r j).length ≤ j:=by
 unfold Qf
 rw [length_map]
 have:=length_filter_le (tS ds r) (List.range j)
 rw [List.length_range] at this
 exact this
theorem i7.app {H:Hp} {fs gs:List Addr} {ps qs:List (List Da)} (hl:fs.length=ps.length) (h1:∀ (i:Nat) q p,fs[i]? = some q→ps[i]? = some p→H q=some (.tup (p.map tu))∧Flat p) (h2:∀ (i:Nat) q p,gs[i]? = some q→qs[i]? = some p→H q=some (.tup (p.map tu))∧Flat p):∀ (i:Nat) q p,(fs ++ gs)[i]? = some q→(ps ++ qs)[i]? = some p→H q=some (.tup (p.map tu))∧Flat p:=kI (R:=fun q p=>H q=some (.tup (p.map tu))∧Flat p) hl h1 h2
theorem Eb:bootBuiltins "sum" = some (.builtin "sum"):=by decide +kernel
section
variable {P:Program} {w:World} {K:Frag} {mg:Str→Option Value} {base:Heap}
def zN:Sp:=fun vs H Q _=>∃ (a:Addr) (ns:List Int),vs=[.ref a]∧aZ K H a (ns.map V.int)∧ns.length ≤ 63∧∀ H',Q (.bl true) H'
theorem gQ:aG ["_law_script", "_law_first", "_law_rows_here", "_law_most", "_law_beginning_here", "_law_plain", "_law_r", "_law_into", "_law_out", "_law_places", "_law_counts_here", "_law_behind", "_law_come", "_law_at"] ["_law_script"] (aj iV):=⟨rfl,rfl,rfl,by decide +kernel,rfl,by decide +kernel,by decide +kernel⟩
def HS:Scope:={ kind:=.function,names:=[(".0",.local),("_law_q",.local),("ways_of",.globalImplicit),("_law_r",.free),("_law_rows_here",.free)],isGenerator:=false,isCoroutine:=false,more:=[] }
theorem zO:dD (aj iV) HS ["_law_script", "_law_first", "_law_rows_here", "_law_most", "_law_beginning_here", "_law_plain", "_law_r", "_law_into", "_law_out", "_law_places", "_law_counts_here", "_law_behind", "_law_come", "_law_at"] ["_law_q", "_law_r", "_law_rows_here"] [none,some 6,some 2]:=⟨rfl,by decide +kernel,by decide +kernel,by decide +kernel,by decide +kernel,by decide +kernel⟩
def HU:Scope:={ kind:=.function,names:=[(".0",.local),("_law_s",.local),("_law_r",.free)],isGenerator:=false,isCoroutine:=false,more:=[] }
theorem zP:dD (aj iV) HU ["_law_script", "_law_first", "_law_rows_here", "_law_most", "_law_beginning_here", "_law_plain", "_law_r", "_law_into", "_law_out", "_law_places", "_law_counts_here", "_law_behind", "_law_come", "_law_at"] ["_law_s", "_law_r"] [none,some 6]:=⟨rfl,by decide +kernel,by decide +kernel,by decide +kernel,by decide +kernel,by decide +kernel⟩
theorem LO {f C fC fR fO fB fP fM fW fN fK:Addr} {fd Nu Ja DK Je DI fdM rH zr Ov:FuncData} (F:d6 K "law" "law" iV f fd) (T:Txt K w.params mg) (GC:aM P w K mg base bw 1 fC Nu ["_law_script", "_law_k"] (C6 (K:=K))) (kC:KI K fC) (bC:Binds K Nu ["_law_script", "_law_k"] []) (mC:mg "_law_cell_at" = some (.ref fC)) (GR:aM P w K mg base bw 3 fR Ja ["_law_cell", "_law_many"] Oz) (kR:KI K fR) (bR:Binds K Ja ["_law_cell", "_law_many"] []) (mR:mg "_law_rows" = some (.ref fR)) (GO:aM P w K mg base bw 1 fO DK ["_law_rows_here"] OB) (kO:KI K fO) (bO:Binds K DK ["_law_rows_here"] []) (mO:mg "_law_odd" = some (.ref fO)) (GB:aM P w K mg base bw 2 fB Je ["_law_cell"] IW) (kB:KI K fB) (bB:Binds K Je ["_law_cell"] []) (mB:mg "_law_beginning" = some (.ref fB)) (GP:aM P w K mg base bw 9 fP DI ["rows", "wishes", "boxes", "cells", "bells", "most"] HG) (kP:KI K fP) (bP:Binds K DI ["rows", "wishes", "boxes", "cells", "bells", "most"] []) (mP:mg "plain_seen" = some (.ref fP)) (GM:aM P w K mg base bw 4 fM fdM ["_law_rows_here", "_law_beginning_here", "_law_most"] (OG C)) (kM:KI K fM) (bM:Binds K fdM ["_law_rows_here", "_law_beginning_here", "_law_most"] []) (mM:mg "_law_machine" = some (.ref fM)) (GW:aM P w K mg base bw 2 fW rH ["rows", "r"] (wY (K:=K))) (kW:KI K fW) (bW:Binds K rH ["rows", "r"] []) (mW:mg "ways_of" = some (.ref fW)) (GN:aM P w K mg base bw 10 fN zr ["_law_rows_here", "_law_places", "_law_beginning_here", "_law_most"] OQ) (kN:KI K fN) (bN:Binds K zr ["_law_rows_here", "_law_places", "_law_beginning_here", "_law_most"] []) (mN:mg "_law_counts" = some (.ref fN)) (GK:aM P w K mg base bw 10 fK Ov ["_law_rows_here", "_law_place", "_law_box", "_law_beginning_here", "_law_most"] OW) (kK:KI K fK) (bK:Binds K Ov ["_law_rows_here", "_law_place", "_law_box", "_law_beginning_here", "_law_most"] []) (mK:mg "_law_looks" = some (.ref fK)):aM P w K mg base bw 11 f fd ["_law_script"] (zN (K:=K)):=by
 refine F.ok gQ (fun vs H Q E h=>?_) (fun cdv A outer s H vs Q E hr h=>?_)
 ·obtain ⟨a,ns,rfl,_⟩:=h
  rfl
 ·obtain ⟨a,ns,rfl,hS,hn,k⟩:=h
  have hu:=cK hr
  have NF:=lt_of_le_of_lt (Nat.add_le_add_left (by decide:6 ≤ 64) _) hr.units
  refine dA (au (aA (aT (i:=1) gQ.nd rfl (Or.inl rfl) (aN GC (hr.mono (by decide)) (by rfl) mC kC bC .nil aW (ae (pv 0) (ae ao ak)))))
   (au (aA (aT (i:=2) gQ.nd rfl (Or.inr rfl) (aN GO (hr.mono (by decide)) (by rfl) mO kO bO .nil aW (ae (aN GR (hr.mono (by decide)) (by rfl) mR kR bR .nil aW (ae (aN GC (hr.mono (by decide)) (by rfl) mC kC bC .nil aW (ae (pv 0) (ae ao ak))) (ae (aJ cS ao (aJ bt (pv 1) ao)) ak))) ak))))
   (au (aA (aT (i:=3) gQ.nd rfl (Or.inl rfl) (aJ bt (aJ cg (pv 1) ao) ao)))
   (au (aA (aT (i:=4) gQ.nd rfl (Or.inl rfl) (aN GB (hr.mono (by decide)) (by rfl) mB kB bB .nil aW (ae (aN GC (hr.mono (by decide)) (by rfl) mC kC bC .nil aW (ae (pv 0) (ae ao ak))) ak))))
   (au (aA (aT (i:=5) gQ.nd rfl (Or.inl rfl) (aN GP (hr.mono (by decide)) (by rfl) mP kP bP .nil aW (ae (pv 2) (ae (cr ak) (ae (aB aI (pv 4) ao (fun _ _=>rfl)) (ae (aB aI (pv 4) ao (fun _ _=>rfl)) (ae (aB aI (pv 4) ao (fun _ _=>rfl)) (ae (pv 3) ak)))))))))
   (au (dk (nZ (aP (FI (lt_of_le_of_lt (Nat.add_le_add_left (by decide:2 ≤ 64) _) hr.units)) (bf (ae (cP hu (pv 5) ay (fun _ _=>rfl)) (ae (cP hu (pv 5) ay (fun _ _=>rfl)) ak))) (aN GM (hr.mono (by decide)) (by rfl) mM kM bM .nil aW (ae (pv 2) (ae (pv 4) (ae (pv 3) ak)))) (aY _)) (jQ (aP (FH NF) (cP hu (pv 5) ay (fun _ _=>rfl)) j9 (aY _)))).pt (aO (aA (aS jG))) (bX aU))
   (au (aA (gU PassesOwn.never rfl (gm rfl T.range (ae (aQ aL (by rfl) T.len cn (ae (pv 2) ak)) ak)) (cG (i:=6) gQ.nd rfl (Or.inr rfl)) (aH (kf (i:=7) (N':=["_law_q", "_law_r", "_law_rows_here"]) (fr:=[none,some 6,some 2]) gQ.nd rfl rfl zO rfl (gm rfl T.range (ae (aQ aL (by rfl) T.len cn (ae (pv 2) ak)) ak)) (fun C s0 H0 fp=>(cG (i:=0) zO.nd rfl (Or.inl rfl))) (fun C s0 H0 fp=>(ke (aP (r:=RN K false) dH (pv 1) (aN GW (hr.mono (by decide)) (by rfl) mW kW bW .nil aW (ae (pv 2) (ae (pv 0) ak))) rfl))) (fun C s0 H0 fp=>(bf (ae ay (ae (pv 0) (ae (pv 1) ak))))))
   (aH (kf (i:=8) (N':=["_law_s", "_law_r"]) (fr:=[none,some 6]) gQ.nd rfl rfl zP rfl (dS (aN GW (hr.mono (by decide)) (by rfl) mW kW bW .nil aW (ae (pv 2) (ae (pv 6) ak)))) (fun C s0 H0 fp=>(cG (i:=0) zP.nd rfl (Or.inl rfl))) (fun C s0 H0 fp=>fz) (fun C s0 H0 fp=>(bf (ae ay (ae (pv 1) (ae (pv 0) ak))))))
   (aH (aT (i:=9) gQ.nd rfl (Or.inl rfl) (aJ lL (aJ lL (aJ lL (cr (ae (bf (ae ay (ae (pv 6) ak))) ak)) (aJ JV (cr (ae (bf (ae ay (ae (pv 6) ak))) ak)) (cU lG (by rfl) T.int sx (ae (ft (wB (Nat.lt_of_succ_lt hu)) (pv 8) (cr ak) (aY _)) ak)))) (pv 7)) (pv 8)))
   (aH (aT (i:=10) gQ.nd rfl (Or.inl rfl) (aN GN hr (by rfl) mN kN bN .nil aW (ae (pv 2) (ae (pv 9) (ae (pv 4) (ae (pv 3) ak))))))
   (aH (aT (i:=11) gQ.nd rfl (Or.inl rfl) (aJ cS ao (cU lG (by rfl) T.int sx (ae (ft (wB (Nat.lt_of_succ_lt hu)) (pv 8) (cr ak) (aY _)) ak))))
   (aH (aT (i:=12) gQ.nd rfl (Or.inl rfl) (aJ cS (aQ (vf rfl) (by rfl) T.sum Eb (ae (dO gh (pv 10) (dC (pv 11)) (dC (aJ cS (pv 11) (aQ aL (by rfl) T.len cn (ae (pv 7) ak))))) ak)) (Ka (cU lG (by rfl) T.int sx (ae (gT (ft eM (pv 6) ao (aY _)) (iL (ft qM (pv 3) ao (aY _)))) ak)))))
   (aH (dv (nZ (aP uJ (aB aV (pv 10) ao (fun _ _=>rfl)) (hV PySem.F.plainAttrs_list PySem.F.slot_list_count PySem.F.type_list_count Ar (cP hu (pv 5) ay (fun _ _=>rfl)) (ae (pv 6) ak)) (aY _)) (jQ (aP uJ (aB aV (pv 10) ao (fun _ _=>rfl)) (pv 12) (aY _)))).pt (az (aS jG)) aU)
   (nu (dv (jR (aP (wB (Nat.lt_of_succ_lt hu)) (pv 8) (cr ak) (aY _)) (j4 (aP uJ (aB aV (pv 10) ao (fun _ _=>rfl)) (aQ (vf rfl) (by rfl) T.sum Eb (ae (dO gh (pv 10) (dC (aJ cS (pv 11) (aQ aL (by rfl) T.len cn (ae (pv 7) ak)))) iB) ak)) (aY _)))).pt (az (aS jG)) aU)
   (aH (aT (i:=13) gQ.nd rfl (Or.inl rfl) (aJ bt (aJ cg (pv 1) ao) (aQ aL (by rfl) T.len cn (ae (pv 9) ak))))
   (az (dv (aP uJ (aN GK hr (by rfl) mK kK bK .nil aW (ae (pv 2) (ae (aB aV (pv 9) (pv 13) (fun _ _=>rfl)) (ae (aJ bt (pv 6) ao) (ae (pv 4) (ae (pv 3) ak)))))) (aB aV (pv 10) (pv 13) (fun _ _=>rfl)) (aY _)) (az (aS jG)) aU)))))))))))))
   (aO (aA (aS jG)))))))))) ?_
  refine ⟨_,rfl,a,ns,1,rfl,hS,by decide,fun c1=>?_⟩
  refine ⟨_,rfl,a,ns,0,rfl,hS,by decide,fun c0=>?_⟩
  obtain ⟨n0,hn0,hnl⟩:=Lz c1 (n:=12) (by decide)
  refine ⟨_,rfl,_,_,rfl,rfl,M8,_,_,rfl,rfl,c0,n0 + 2,?_,by omega,by omega,fun lr0 ds0 H1 s1 _ hR0 hG0 hdn=>?_⟩
  ·have e:(2:Int) + c1 % 12=((n0 + 2:Nat):Int):=by omega
   show ([V.int c0,V.int (2 + c1 % 12)]:List V)=_
   rw [e]
  refine ⟨lr0,ds0,rfl,hR0,hG0,fun lr ds H2 s2 _ hR hG hdl xt=>?_⟩
  rw [hdn] at hdl
  have s12:=s1.trans s2
  obtain ⟨most,hmo,hmol⟩:=Lz (c1 / 12) (n:=41) (by decide)
  refine ⟨_,rfl,_,_,rfl,rfl,⟨by show (0:Int) < 12; decide,by show (12:Int) < _; decide⟩,_,_,rfl,rfl,Ng,?_⟩
  show gF _ (.int (c1 / 12 % ((41:Nat):Int))) _ _ _
  rw [hmo]
  refine ⟨_,rfl,a,ns,2,rfl,s12.seq hS,by decide,fun c2=>⟨c2,rfl,fun tb pb pc pl bs bells d cf H3 s3 ht hpb b8 hpc hrep Pa hpl hb=>?_⟩⟩
  have hB:AW H3 tb pb pc pl bs bells d cf:=⟨ht,hpb,b8,hpc,hrep,Pa,hpl,hb⟩
  have hR:=hR.same s3
  clear ht hpb b8 hpc hrep Pa hpl hb s3 s12 s1 s2 hR0 hG0
  refine ⟨_,rfl,le_of_ble_eq_true rfl,fun lw Jj=>?_⟩
  have s4:=ai (o:=.lst []) Jj
  have hW:i5 (upd H3 lw (.lst [])) lw []:=⟨[],ah,rfl,fun i q x e=>by simp at e⟩
  generalize upd H3 lw (.lst [])=H4 at s4 hW ⊢
  have B_:=hB.same s4
  have hR:=hR.same s4
  refine ⟨_,rfl,tb,_,0,_,rfl,rfl,bp.of B_.tb,at0 _ _,_,rfl,tb,_,1,_,rfl,rfl,bp.of B_.tb,at1 _ _ _,_,rfl,tb,_,2,_,rfl,rfl,bp.of B_.tb,at2 _ _ _ _,_,rfl,lr,lw,pb,pc,pl,most,ds,[],bs,bells,d,cf,rfl,by omega,hR,hG,hW,by decide,fun x hx=>absurd hx not_mem_nil,fun x hx=>absurd hx not_mem_nil,B_.pb,B_.b8,B_.pc,B_.rep,B_.dl,B_.pl,B_.D4,fun ap mp H5 s5 _ MP=>?_⟩
  have hB:=B_.same s5
  have hR:=hR.same s5
  clear B_ hW s4
  have hno:=xr hG hR xt
  have hrun:=nV (ring:=bg bells) (xs:=[]) (fun x hx=>absurd hx not_mem_nil) hno most (z0 bs cf) (xk []) none rfl
  have hks:(gM (bg bells) (ds.map cu) [] most (z0 bs cf) (xk []) (filter (gg 0) [])).ks=[]:=xm _ _ _ _
  have hz:BL (gM (bg bells) (ds.map cu) [] most (z0 bs cf) (xk []) (filter (gg 0) [])):=D8 _ _ _ _ rfl LN
  rw [show qj [] (none,bh (z0 bs cf))=filter (gg 0) [] from rfl] at hrun
  generalize gM (bg bells) (ds.map cu) [] most (z0 bs cf) (xk []) (filter (gg 0) [])=Fp at MP hrun hks hz
  obtain ⟨hrw,hen,_⟩:=hrun
  have hrw:Fp.rows=(arr (bg bells) (ds.map cu) most (z0 bs cf) none).map (·.2):=by rw [hrw]; rfl
  have Jh:=pq hR hG.2.2.1
  have DU:=lV hR hG
  have AI:1 ≤ (ds.map cu).length:=by rw [length_map]; exact hG.1
  have hval:=zG (ring:=bg bells) Jh DU most (z0 bs cf) none ⟨rfl,0,rfl,AI⟩ ⟨.inr ⟨0,rfl,AI⟩,fun p hp=>absurd hp (by simp [z0])⟩ (fun p hp=>absurd hp (by simp [z0])) (fun l e=>by cases e)
  obtain ⟨wp,hop,hwp⟩:=MP.st
  obtain ⟨dp,hcp,Pb,_⟩:=MP.cnt
  refine ⟨_,rfl,ap,_,rfl,jC hop pj,_,rfl,ap,_,rfl,jC hop zu,le_of_ble_eq_true rfl,fun t1 n1=>?_⟩
  have v1:=ai (o:=.tup [V.ref mp.r,wp]) n1
  have B_:=hB.same v1
  refine ⟨_,rfl,_,rfl,_,rfl,lr,tb,pb,pc,pl,most,ds,bs,bells,d,cf,rfl,by omega,hR.same v1,hG,B_.tb,B_.pb,B_.b8,B_.pc,B_.rep,B_.dl,B_.pl,B_.D4,fun t2 l2 v2 H6 s6 e1 e2 e3=>?_⟩
  have L7:=v1.trans s6
  refine ⟨t1,t2,_,_,rfl,rfl,s6 _ _ ah,e1,rfl,fun i x y hx hy=>?_,_,rfl,cQ (by decide) ?_⟩
  ·match i with
   | 0 =>
    cases hx; cases hy
    rw [← hrw] at e2
    exact .inr (HL (L7 _ _ MP.rws) e2)
   | 1 =>
    cases hx; cases hy
    rw [← hen] at e3
    exact .inr (LM hz (hwp.tups (.of L7)) e3)
   | i + 2=>simp at hx
  clear e1 e2 e3 B_
  refine ⟨_,rfl,ap,_,rfl,jC (L7 _ _ hop) zt,fun le nle=>?_⟩
  have v7:=ai (o:=.dK []) nle
  have edp:dp=[]:=by
   have:=Pb.len
   rw [hks] at this
   exact length_eq_zero_iff.mp (by simpa using this)
  subst edp
  refine ⟨mp.c,le,[],[],rfl,rfl,v7 _ _ (L7 _ _ hcp),ah,rfl,(fun i x y hx=>by simp at hx),_,rfl,cQ (by decide) ?_⟩
  have Pg:=L7.trans v7
  have hR:=hR.same Pg
  have hB:=hB.same Pg
  have MP:=MP.same Pg
  have hop:=Pg _ _ hop
  generalize upd H6 le (.dK [])=G0 at hR hB MP hop
  clear Pg v7 L7 v1 s6 nle n1 hcp Pb hwp hen hz hks Jh DU AI hno Jj s5
  obtain ⟨qs,g1,g2,g3⟩:=id hR
  have hnd:ds.length ≤ 13:=by omega
  refine ⟨_,rfl,lr,_,rfl,.inl (aZ.of g1),_,rfl,by omega,by rw [length_map]; omega,?_⟩
  refine ly (lo:=0) (n:=(((qs.map V.ref).length:Nat):Int).toNat) (fun i σ G=>∃ (v6 v7 v8 v9 v10 v11 v12 TN:Option V),σ=[some (.ref a),some (.int c1),some (.ref lr),some (.int (most:Int)),some (.ref tb),some (.ref ap),v6,v7,v8,v9,v10,v11,v12,TN]∧Same G0 G) ?_ ?_ ?_
  ·exact ⟨none,none,none,none,none,none,none,none,rfl,.refl _⟩
  rotate_left
  ·rintro σ G _
   exact k _
  rintro i σ G hi ⟨v6,v7,v8,v9,v10,v11,v12,TN,rfl,s0⟩
  rw [Int.toNat_natCast,length_map,g2] at hi
  rw [Int.zero_add]
  have hR:=hR.same s0
  have hB:=hB.same s0
  have hdi:ds[i]? = some ds[i]:=List.getElem?_eq_getElem hi
  generalize ds[i]=di at hdi
  have hw_:∀ (q:Nat) dq,ds[q]? = some dq→∃ (H:Hp) (ad:Addr),d9 H ad dq∧GoodR dq (ds.length:Nat):=fun q dq hq=>by
   have hql:=(List.getElem?_eq_some_iff.mp hq).1
   exact ⟨G0,_,g3 q _ dq (List.getElem?_eq_getElem (by omega)) hq,hG.2.2.1 dq (List.mem_of_getElem? hq)⟩
  have hval:=hval
  refine ⟨_,rfl,lr,_,rfl,.inl (aZ.of (s0 _ _ g1)),_,rfl,by omega,by rw [length_map]; omega,fun D1 nD1=>?_⟩
  refine jU (lo:=0) (n:=(((qs.map V.ref).length:Nat):Int).toNat) (fun j σ ys G'=>∃ (v:Option V) (fs:List Addr),σ=[v,some (.int (i:Int)),some (.ref lr)]∧ys=fs.map V.ref∧fs.length=(Qf ds i j).length∧(∀ (b:Nat) q p,fs[b]? = some q→((Qf ds i j).map fun q=>cj q i)[b]? = some p→G' q=some (.tup (p.map tu))∧Flat p)∧Same G G'∧G' D1=some (.lst ys)) ?_ ?_ ?_
  ·exact ⟨none,[],rfl,rfl,rfl,(fun b q p e=>by simp at e),ai nD1,ah⟩
  ·rintro j σ ys G' hj ⟨v,fs,rfl,rfl,hfl,hf,s1,hD⟩
   rw [Int.toNat_natCast,length_map,g2] at hj
   rw [Int.zero_add]
   have TQ:ds[j]? = some ds[j]:=List.getElem?_eq_getElem hj
   obtain ⟨qs',q',y1,y2,y3,y4⟩:=(hR.same s1).get TQ
   have hgj:=hG.2.2.1 _ (List.getElem_mem hj)
   generalize ds[j]=dj at TQ y4 hgj
   refine ⟨_,rfl,_,rfl,_,rfl,lr,q',_,j,dj.u,dj.ts,rfl,aZ.of y1,y3,y4.at_,hgj.1,fun l ms G2 s2 nl hl _ _ hmem=>?_⟩
   refine ⟨l,_,rfl,.inl (aZ.of hl),rfl,rh _,_,rfl,?_⟩
   rw [show inV (.int (i:Int)) (ms.map V.int)=decide ((i:Int) ∈ ms) from sC _ _]
   have ew:tS ds i j=decide ((i:Int) ∈ ms):=by
    unfold tS
    rw [TQ]
    exact decide_eq_decide.mpr (hmem i).symm
   have s12:=s1.trans s2
   have ql:=Ea ds i j
   by_cases c:(i:Int) ∈ ms
   ·rw [decide_eq_true c] at ew
    refine eP (decide_eq_true c) ?_
    refine ⟨_,rfl,_,rfl,le_of_ble_eq_true rfl,fun tn OD=>?_⟩
    have v3:=ai (o:=.tup [V.str "way",V.int j,V.int i]) OD
    have Hq:=v3 _ _ (s2 _ _ hD)
    have htn:upd G2 tn (.tup [V.str "way",V.int j,V.int i]) tn=some (.tup ((cj (j:Int) i).map tu)):=ah
    have eQ:Qf ds i (j + 1)=Qf ds i j ++ [(j:Int)]:=by rw [zM,if_pos ew]
    refine ⟨Hq,bu (by rw [length_map]; omega),_,fs ++ [tn],rfl,by simp,by rw [eQ,length_append,length_append,hfl]; rfl,?_,bz (s12.trans v3) nD1,ah⟩
    have T:=iu (o:=.lst (fs.map V.ref ++ [V.ref tn])) Hq
    rw [eQ,map_append]
    refine i7.app (by rw [length_map,hfl]) (fun b q p h1 h2=>⟨T _ _ ((s2.trans v3) _ _ (hf b q p h1 h2).1),(hf b q p h1 h2).2⟩) (fun b q p h1 h2=>?_)
    cases b with
    | zero=>cases h1; cases h2; exact ⟨T _ _ htn,tD _ _⟩
    | succ b=>simp at h1
   ·rw [decide_eq_false c] at ew
    refine cQ (by rw [decide_eq_false c]; decide) ?_
    have eQ:Qf ds i (j + 1)=Qf ds i j:=by rw [zM,if_neg (by rw [ew]; decide),append_nil]
    rw [eQ]
    exact ⟨_,fs,rfl,rfl,hfl,(fun b q p h1 h2=>⟨s2 _ _ (hf b q p h1 h2).1,(hf b q p h1 h2).2⟩),s12,s2 _ _ hD⟩
  rintro σ ys G1 ⟨v,fi,rfl,rfl,Ec,hfi,s1,hD1⟩
  rw [Int.toNat_natCast,length_map,g2] at Ec hfi
  have hQn:=OZ ds i ds.length
  have hQl:=Ea ds i ds.length
  have hQm:∀ (q:Nat) rw,(ds.map cu)[q]? = some rw→isW rw q i→(q:Int) ∈ Qf ds i ds.length:=fun q rw hq hw=>by
   rw [List.getElem?_map] at hq
   obtain ⟨dq,TU,rfl⟩:=map_eq_some_iff.mp hq
   obtain ⟨_,_,h1,h2⟩:=hw_ q dq TU
   refine D9.mpr ⟨q,rfl,(List.getElem?_eq_some_iff.mp TU).1,?_⟩
   unfold tS
   rw [TU]
   exact decide_eq_true ((zL h1 h2).mp hw)
  have hQp:∀ x ∈ Qf ds i ds.length,EX ds (cj x i):=fun x hx=>by
   obtain ⟨q,rfl,hq,hw⟩:=D9.mp hx
   unfold tS at hw
   rw [List.getElem?_eq_getElem hq] at hw
   have hw:decide ((i:Int) ∈ ds[q].ts∨(¬ ds[q].u ∈ cy∧(i:Int)=(q:Int) + 1))=true:=hw
   exact ⟨q,_,List.getElem?_eq_getElem hq,.inr (.inr ⟨i,rfl,(of_decide_eq_true hw:(i:Int) ∈ ds[q].ts∨(¬ ds[q].u ∈ cy∧(i:Int)=(q:Int) + 1))⟩)⟩
  generalize Qf ds i ds.length=Q at Ec hfi hQn hQl hQm hQp
  obtain ⟨qs',q',y1,y2,y3,y4⟩:=(hR.same s1).get hdi
  obtain ⟨_,_,hd1,hd2⟩:=hw_ i di hdi
  refine ⟨_,rfl,_,rfl,lr,q',_,i,di.u,di.ts,rfl,aZ.of y1,y3,y4.at_,hd2.1,fun lo ms G2 s2 nlo hlo _ hmn hmem=>?_⟩
  have hml:ms.length ≤ 17:=by
   have:=rj (xs:=di.ts ++ [(i:Int) + 1]) hmn fun j hj=>by
    rcases (hmem j).mp hj with z | ⟨_,z⟩
    ·exact List.mem_append_left _ z
    ·exact List.mem_append_right _ (mem_singleton.mpr z)
   rw [length_append,List.length_singleton] at this
   have:=hd2.1
   omega
  refine ⟨lo,rfl,⟨_,aZ.of hlo⟩,fun D2 IY=>eG (K:=K) (a:=lo) (xs:=ms.map V.int) (fun j σ ys G'=>∃ (v:Option V) (fs:List Addr),σ=[v,some (.int (i:Int))]∧ys=fs.map V.ref∧fs.length=j∧(∀ (b:Nat) q p,fs[b]? = some q→((ms.take j).map fun s=>cj i s)[b]? = some p→G' q=some (.tup (p.map tu))∧Flat p)∧Same G2 G'∧G' D2=some (.lst ys)) ?_ ?_ ?_ ?_⟩
  ·exact ⟨none,[],rfl,rfl,rfl,(fun b q p e=>by simp at e),ai IY,ah⟩
  ·rintro j σ ys G' _ ⟨v,fs,rfl,rfl,_,_,s3,_⟩
   exact aZ.of (s3 _ _ hlo)
  ·rintro j x σ ys G' hx ⟨v,fs,rfl,rfl,hfl,hf,s3,hD⟩
   rw [List.getElem?_map] at hx
   obtain ⟨sw,hsw,rfl⟩:=map_eq_some_iff.mp hx
   have hjl:=(List.getElem?_eq_some_iff.mp hsw).1
   refine ⟨_,rfl,_,rfl,le_of_ble_eq_true rfl,fun tn OD=>?_⟩
   have v3:=ai (o:=.tup [V.str "way",V.int i,V.int sw]) OD
   have Hq:=v3 _ _ hD
   have htn:upd G' tn (.tup [V.str "way",V.int i,V.int sw]) tn=some (.tup ((cj (i:Int) sw).map tu)):=ah
   refine ⟨Hq,bu (by rw [length_map]; omega),_,fs ++ [tn],rfl,by simp,by rw [length_append,hfl]; rfl,?_,bz (s3.trans v3) IY,ah⟩
   have T:=iu (o:=.lst (fs.map V.ref ++ [V.ref tn])) Hq
   rw [take_add_one,hsw,map_append]
   refine i7.app (by rw [length_map,length_take]; omega) (fun b q p h1 h2=>⟨T _ _ (v3 _ _ (hf b q p h1 h2).1),(hf b q p h1 h2).2⟩) (fun b q p h1 h2=>?_)
   cases b with
   | zero=>cases h1; cases h2; exact ⟨T _ _ htn,tD _ _⟩
   | succ b=>simp at h1
  rintro σ ys G3 ⟨v',fo,rfl,rfl,LP,hfo,s3,hD2⟩
  rw [length_map] at LP
  rw [length_map,take_length] at hfo
  have DM:=s1.trans (s2.trans s3)
  have Ph:=(s2.trans s3) _ _ hD1
  have Pj:∀ (b:Nat) q p,fi[b]? = some q→(Q.map fun q=>cj q i)[b]? = some p→G3 q=some (.tup (p.map tu))∧Flat p:=fun b q p h1 h2=>⟨(s2.trans s3) _ _ (hfi b q p h1 h2).1,(hfi b q p h1 h2).2⟩
  have TV:∀ s',s' ∈ ms↔isW (cu di) i s':=fun s'=>(hmem s').trans (zL hd1 hd2).symm
  have hmp:∀ s' ∈ ms,EX ds (cj i s'):=fun s' hs'=>⟨i,di,hdi,.inr (.inr ⟨s',rfl,(hmem s').mp hs'⟩)⟩
  have hap:ms ≠ []→EX ds (fq i):=fun hne=>by
   obtain ⟨s',hs'⟩:=List.exists_mem_of_ne_nil ms hne
   exact ⟨i,di,hdi,.inr (.inl ⟨rfl,s',(hmem s').mp hs'⟩)⟩
  have hout:=HF (A:=(arr (bg bells) (ds.map cu) most (z0 bs cf) none)) hval (r:=i) (by rw [List.getElem?_map,hdi]; rfl) hmn TV
  have Pk:=DW (ring:=bg bells) (r:=(i:Int)) most (show bh (z0 bs cf)=0 from rfl) hval hQn hQm
  have qE:=pF (i:Int) (arr (bg bells) (ds.map cu) most (z0 bs cf) none)
  rw [← hrw] at qE
  have Rh:fo.map V.ref=[]↔ms=[]:=by
   rw [List.map_eq_nil_iff,← length_eq_zero_iff,LP,length_eq_zero_iff]
  clear hfi s1 s2 s3 hD1 hlo hmem hval hrw
  obtain ⟨bn,hbn,L0⟩:∃ bn:Nat,(if (!decide (fo.map V.ref=[]))=true then (1:Int) else 0)=(bn:Int)∧bn=if ms=[] then 0 else 1:=by
   by_cases c:ms=[]
   ·exact ⟨0,by rw [decide_eq_true (Rh.mpr c)]; rfl,by rw [if_pos c]⟩
   ·exact ⟨1,by rw [decide_eq_false (fun z=>c (Rh.mp z))]; rfl,by rw [if_neg c]⟩
  refine ⟨_,rfl,le_of_ble_eq_true rfl,fun tA nA=>⟨le_of_ble_eq_true rfl,fun lA nlA=>⟨_,rfl,le_of_ble_eq_true rfl,fun tB nB=>⟨le_of_ble_eq_true rfl,fun lB nlB=>?_⟩⟩⟩⟩
  have u1:=ai (o:=.tup [V.str "before",V.int i]) nA
  have u2:=ai (o:=.lst [V.ref tA]) nlA
  have u3:=ai (o:=.tup [V.str "after",V.int i]) nB
  have u4:=ai (o:=.lst [V.ref tB]) nlB
  have hA1:=(u3.trans u4) lA _ ah
  have Ri:=(u2.trans (u3.trans u4)) tA _ ah
  have Rj:=u4 tB _ ah
  have hB2:upd (upd (upd (upd G3 tA (.tup [V.str "before",V.int i])) lA (.lst [V.ref tA])) tB (.tup [V.str "after",V.int i])) lB (.lst [V.ref tB]) lB=some (.lst [V.ref tB]):=ah
  have u:=u1.trans (u2.trans (u3.trans u4))
  generalize upd (upd (upd (upd G3 tA (.tup [V.str "before",V.int i])) lA (.lst [V.ref tA])) tB (.tup [V.str "after",V.int i])) lB (.lst [V.ref tB])=G4 at hA1 Ri Rj hB2 u ⊢
  clear u1 u2 u3 u4 nA nlA nB nlB
  refine ⟨_,rfl,le_of_ble_eq_true rfl,fun l0 n0=>⟨D2,l0,_,[],rfl,rfl,aZ.of (ai n0 _ _ (u _ _ hD2)),aZ.of ah,(fun i a b _ z=>by simp at z),.inr ⟨_,rfl,?_⟩⟩⟩
  rw [hbn]
  have w0:=ai (o:=.lst []) n0
  generalize upd G4 l0 (.lst [])=G5 at w0 ⊢
  have b01:bn ≤ 1:=by rw [L0]; split <;> omega
  obtain ⟨mid,hmid⟩:∃ mid:List Addr,mid=if ms=[] then [] else [tB]:=⟨_,rfl⟩
  obtain ⟨Jl,HV⟩:∃ Jl:List (List Da),Jl=if ms=[] then [] else [fq i]:=⟨_,rfl⟩
  have LQ:mid.length=bn:=by rw [hmid,L0]; split <;> rfl
  have Ed:Jl.length=bn:=by rw [HV,L0]; split <;> rfl
  have hfm:(replicate ((bn:Int).toNat) [V.ref tB]).flatten=mid.map V.ref:=by
   rw [Int.toNat_natCast,L0,hmid]
   split <;> rfl
  refine ⟨lB,_,_,rfl,rfl,w0 _ _ hB2,by omega,by omega,ju (by rw [Int.toNat_natCast]; show 1 * bn ≤ 1000000; omega),fun lC nC=>?_⟩
  rw [hfm]
  have w1:=ai (o:=.lst (mid.map V.ref)) nC
  refine ⟨lA,lC,_,_,rfl,rfl,(w0.trans w1) _ _ hA1,ah,ju (by rw [length_map]; show 1 + _ ≤ 1000000; omega),fun lD nD=>?_⟩
  have w2:=ai (o:=.lst ([V.ref tA] ++ mid.map V.ref)) nD
  have uu:=u.trans (w0.trans (w1.trans w2))
  refine ⟨_,rfl,lD,D1,_,_,rfl,rfl,ah,uu _ _ Ph,ju (by rw [length_append,length_map,length_map]; show 1 + _ + _ ≤ 1000000; omega),fun lE nE=>?_⟩
  have w3:=ai (o:=.lst ([V.ref tA] ++ mid.map V.ref ++ fi.map V.ref)) nE
  refine ⟨_,rfl,lE,D2,_,_,rfl,rfl,ah,(uu.trans w3) _ _ hD2,ju (by rw [length_append,length_append,length_map,length_map,length_map]; show 1 + _ + _ + _ ≤ 1000000; omega),fun lF nF=>?_⟩
  have w4:=ai (o:=.lst ([V.ref tA] ++ mid.map V.ref ++ fi.map V.ref ++ fo.map V.ref)) nF
  have wa:=w0.trans (w1.trans (w2.trans (w3.trans w4)))
  have hF:upd (upd (upd (upd G5 lC (.lst (mid.map V.ref))) lD (.lst ([V.ref tA] ++ mid.map V.ref))) lE (.lst ([V.ref tA] ++ mid.map V.ref ++ fi.map V.ref))) lF (.lst ([V.ref tA] ++ mid.map V.ref ++ fi.map V.ref ++ fo.map V.ref)) lF=some (.lst (([tA] ++ mid ++ fi ++ fo).map V.ref)):=by rw [ah]; simp
  generalize upd (upd (upd (upd G5 lC (.lst (mid.map V.ref))) lD (.lst ([V.ref tA] ++ mid.map V.ref))) lE (.lst ([V.ref tA] ++ mid.map V.ref ++ fi.map V.ref))) lF (.lst ([V.ref tA] ++ mid.map V.ref ++ fi.map V.ref ++ fo.map V.ref))=G6 at wa hF ⊢
  have ua:=u.trans wa
  have Ri:=wa _ _ Ri
  have Rj:=wa _ _ Rj
  have hD1:=ua _ _ Ph
  have hD2:=ua _ _ hD2
  have hPl:i7 G6 lF ([du i] ++ Jl ++ (Q.map fun q=>cj q i) ++ ms.map fun s=>cj i s):=by
   refine ⟨[tA] ++ mid ++ fi ++ fo,hF,by rw [length_append,length_append,length_append,length_append,length_append,length_append,LQ,Ed,Ec,LP,length_map,length_map]; rfl,?_⟩
   refine i7.app (by rw [length_append,length_append,length_append,length_append,LQ,Ed,Ec,length_map]; rfl) (i7.app (by rw [length_append,length_append,LQ,Ed]; rfl) (i7.app rfl (fun b q p h1 h2=>?_) (fun b q p h1 h2=>?_)) (fun b q p h1 h2=>⟨ua _ _ (Pj b q p h1 h2).1,(Pj b q p h1 h2).2⟩)) (fun b q p h1 h2=>⟨ua _ _ (hfo b q p h1 h2).1,(hfo b q p h1 h2).2⟩)
   ·cases b with
    | zero=>cases h1; cases h2; exact ⟨Ri,wU _⟩
    | succ b=>simp at h1
   ·rw [hmid] at h1
    rw [HV] at h2
    split at h1
    ·simp at h1
    ·rename_i c
     rw [if_neg c] at h2
     cases b with
     | zero=>cases h1; cases h2; exact ⟨Rj,wV _⟩
     | succ b=>simp at h1
  have TX:∀ p ∈ ([du i] ++ Jl ++ (Q.map fun q=>cj q i) ++ ms.map fun s=>cj i s),EX ds p:=fun p hp=>by
   rcases mem_append.mp hp with hp | hp
   ·rcases mem_append.mp hp with hp | hp
    ·rcases mem_append.mp hp with hp | hp
     ·rw [mem_singleton.mp hp]
      exact ⟨i,di,hdi,.inl rfl⟩
     ·rw [HV] at hp
      split at hp
      ·simp at hp
      ·rename_i c
       rw [mem_singleton.mp hp]
       exact hap c
    ·obtain ⟨x,hx,rfl⟩:=mem_map.mp hp
     exact hQp x hx
   ·obtain ⟨x,hx,rfl⟩:=mem_map.mp hp
    exact hmp x hx
  have Rk:([du i] ++ Jl ++ (Q.map fun q=>cj q i) ++ ms.map fun s=>cj i s).length=1 + bn + Q.length + ms.length:=by rw [length_append,length_append,length_append,Ed,length_map,length_map]; rfl
  have sA:=DM.trans ua
  refine ⟨_,rfl,_,rfl,_,rfl,_,rfl,lr,lF,tb,pb,pc,pl,most,ds,_,bs,bells,d,cf,rfl,by omega,hR.same sA,hG,xt,hPl,by rw [Rk]; omega,TX,hB.same sA,fun lN G7 s7 _ hN=>?_⟩
  generalize hAr:(arr (bg bells) (ds.map cu) most (z0 bs cf) none)=AA at hN hout Pk qE
  have hD1:=s7 _ _ hD1
  have hD2:=s7 _ _ hD2
  have hF:=s7 _ _ hF
  have hPl:=hPl.same s7
  have sA:=sA.trans s7
  obtain ⟨CA,Pl⟩:∃ CA:List V,CA=(([du i] ++ Jl).map fun p=>((hits AA p:Nat):Int)).map V.int:=⟨_,rfl⟩
  obtain ⟨CB,Rm⟩:∃ CB:List V,CB=(Q.map fun q=>((hits AA (cj q i):Nat):Int)).map V.int:=⟨_,rfl⟩
  obtain ⟨CC,TY⟩:∃ CC:List V,CC=(ms.map fun s=>((hits AA (cj i s):Nat):Int)).map V.int:=⟨_,rfl⟩
  have vE:G7 lN=some (.lst (CA ++ CB ++ CC)):=by
   rw [hN,Pl,Rm,TY]
   simp only [map_append,map_map]
   rfl
  have lCA:CA.length=1 + bn:=by rw [Pl,length_map,length_map,length_append,Ed]; rfl
  have lCB:CB.length=fi.length:=by rw [Rm,length_map,length_map,Ec]
  have Pm:oq (CA ++ CB ++ CC) 0=some (.int ((hits AA (du i):Nat):Int)):=by rw [Pl]; exact at0 _ _
  refine ⟨_,rfl,le_of_ble_eq_true rfl,fun l1 n1=>⟨D2,l1,_,[],rfl,rfl,aZ.of (ai n1 _ _ hD2),aZ.of ah,(fun i a b _ z=>by simp at z),.inr ⟨_,rfl,_,_,rfl,rfl,?_⟩⟩⟩
  show gF _ (.int (1 + (if (!decide (fo.map V.ref=[]))=true then (1:Int) else 0))) _ _ _
  rw [hbn,show (1:Int) + (bn:Int)=((1 + bn:Nat):Int) by omega]
  have x1:=ai (o:=.lst []) n1
  have hD1:=x1 _ _ hD1
  have hD2:=x1 _ _ hD2
  have vE:=x1 _ _ vE
  have hF:=x1 _ _ hF
  have hPl:=hPl.same x1
  have sA:=sA.trans x1
  generalize upd G7 l1 (.lst [])=G8 at hD1 hD2 vE hF hPl sA ⊢
  refine ⟨_,rfl,_,rfl,_,rfl,_,rfl,_,rfl,D1,_,rfl,.inl (aZ.of hD1),_,_,rfl,rfl,_,rfl,lN,_,rfl,aZ.of vE,fun lS nS=>?_⟩
  have LR:eJ (CA ++ CB ++ CC) (some ((1 + bn:Nat):Int)) (some (((1 + bn:Nat):Int) + (((fi.map V.ref).length:Nat):Int)))=CB:=by
   rw [length_map,← lCB,← lCA,show ((CA.length:Nat):Int) + ((CB.length:Nat):Int)=((CA.length + CB.length:Nat):Int) by omega]
   exact HP CA CB CC
  rw [show eJ (CA ++ CB ++ CC) (some ((1 + bn:Nat):Int)) (some ((fun i j:Int=>i + j) ((1 + bn:Nat):Int) (((fi.map V.ref).length:Nat):Int)))=CB from LR]
  have x2:=ai (o:=.lst CB) nS
  have hD1:=x2 _ _ hD1
  have hD2:=x2 _ _ hD2
  have vE:=x2 _ _ vE
  have hF:=x2 _ _ hF
  have hPl:=hPl.same x2
  have sA:=sA.trans x2
  have hlS:upd G8 lS (.lst CB) lS=some (.lst CB):=ah
  generalize upd G8 lS (.lst CB)=G9 at hD1 hD2 vE hF hPl sA hlS ⊢
  rw [Rm] at hlS
  refine ⟨lS,_,rfl,aZ.of hlS,?_⟩
  refine ⟨fun v G'=>v=.int (if (i:Int)=0∧0 < most then 1 else 0)∧G'=G9,?_,?_⟩
  ·refine ⟨_,rfl,rfl,_,rfl,d7 (fun c=>?_) (fun c=>?_)⟩
   ·have c:(i:Int)=0:=V.int.inj (of_decide_eq_true c)
    refine ⟨_,rfl,_,_,rfl,rfl,.inr ⟨_,rfl,?_,rfl⟩⟩
    by_cases m0:0 < most
    ·rw [if_pos (decide_eq_true (show (0:Int) < (most:Int) by omega)),if_pos ⟨c,m0⟩]
    ·rw [if_neg (fun z=>m0 (by have:=of_decide_eq_true z; omega)),if_neg (fun z=>m0 z.2)]
   ·have c':¬ (i:Int)=0:=fun e=>c (decide_eq_true (by rw [e]))
    refine .inr ⟨_,rfl,?_,rfl⟩
    rw [if_neg (by decide),if_neg (fun z=>c' z.1)]
  rintro v G' ⟨rfl,rfl⟩
  refine ⟨_,_,rfl,rfl,?_⟩
  have Pn:(Q.map fun q=>((hits AA (cj q i):Nat):Int)).sum + (if (i:Int)=0∧0 < most then (1:Int) else 0)=((hits AA (du i):Nat):Int):=by
   rw [pG (fun q=>hits AA (cj q i)),← Pk]
   split <;> omega
  show gF _ (.int ((Q.map fun q=>((hits AA (cj q i):Nat):Int)).sum + (if (i:Int)=0∧0 < most then (1:Int) else 0))) _ _ _
  rw [Pn]
  have T3:=sA _ _ (s0 _ _ MP.rws)
  refine ⟨_,rfl,lN,_,0,_,rfl,rfl,aZ.of vE,Pm,_,rfl,ap,_,rfl,jC (sA _ _ (s0 _ _ hop)) pj,.inl ⟨rfl,_,aZ.of T3⟩,_,rfl,mp.r,_,_,rfl,rfl,aZ.of T3,rfl,_,rfl,cQ (by rw [qE,decide_eq_true rfl]; decide) ?_⟩
  refine ⟨_,rfl,lN,_,0,_,rfl,rfl,aZ.of vE,Pm,_,rfl,rfl,_,rfl,cQ (by rw [decide_eq_true rfl]; decide) ?_⟩
  refine ⟨fun σ' Gz=>σ'=[some (.ref a),some (.int c1),some (.ref lr),some (.int (most:Int)),some (.ref tb),some (.ref ap),some (.int (i:Int)),some (.ref D1),some (.ref D2),some (.ref lF),some (.ref lN),some (.int ((1 + bn:Nat):Int)),some (.int ((hits AA (du i):Nat):Int)),TN]∧Same G' Gz,?_,?_⟩
  ·refine ⟨_,rfl,le_of_ble_eq_true rfl,fun l2 n2=>⟨D2,l2,_,[],rfl,rfl,aZ.of (ai n2 _ _ hD2),aZ.of ah,(fun i a b _ z=>by simp at z),_,rfl,?_⟩⟩
   have x3:=ai (o:=.lst []) n2
   have hD1:=x3 _ _ hD1
   have vE:=x3 _ _ vE
   generalize upd G' l2 (.lst [])=Ga at x3 hD1 vE ⊢
   by_cases c:ms=[]
   ·exact cQ (by rw [decide_eq_true (Rh.mpr c)]; decide) (cQ (by decide) ⟨rfl,x3⟩)
   refine eP (by rw [decide_eq_false (fun z=>c (Rh.mp z))]; rfl) ?_
   have T4:oq (CA ++ CB ++ CC) 1=some (.int ((hits AA (fq i):Nat):Int)):=by
    rw [Pl,HV,if_neg c]
    exact at1 _ _ _
   refine ⟨_,rfl,lN,_,1,_,rfl,rfl,aZ.of vE,T4,?_⟩
   refine ⟨_,rfl,_,rfl,_,rfl,D1,_,rfl,.inl (aZ.of hD1),_,_,rfl,rfl,_,rfl,lN,_,rfl,aZ.of vE,fun lT nT=>?_⟩
   have LR:eJ (CA ++ CB ++ CC) (some (((1 + bn:Nat):Int) + (((fi.map V.ref).length:Nat):Int))) none=CC:=by
    rw [length_map,← lCB,← lCA,show ((CA.length:Nat):Int) + ((CB.length:Nat):Int)=(((CA ++ CB).length:Nat):Int) by rw [length_append]; omega]
    exact HR (CA ++ CB) CC
   rw [show eJ (CA ++ CB ++ CC) (some ((fun i j:Int=>i + j) ((1 + bn:Nat):Int) (((fi.map V.ref).length:Nat):Int))) none=CC from LR]
   have x4:=ai (o:=.lst CC) nT
   have hlT:upd Ga lT (.lst CC) lT=some (.lst CC):=ah
   generalize upd Ga lT (.lst CC)=Gb at x4 hlT ⊢
   rw [TY] at hlT
   have eo:(ms.map fun s=>((hits AA (cj i s):Nat):Int)).sum=((hits AA (fq i):Nat):Int):=by rw [pG (fun s=>hits AA (cj i s)),hout]
   exact ⟨lT,_,rfl,aZ.of hlT,rfl,_,rfl,cQ (by rw [eo,decide_eq_true rfl]; decide) ⟨rfl,x3.trans x4⟩⟩
  rintro σ' Gc ⟨rfl,x5⟩
  have vE:=x5 _ _ vE
  have hF:=x5 _ _ hF
  have hPl:=hPl.same x5
  have sA:=sA.trans x5
  clear hD1 hD2 hlS T3
  generalize hPS:[du (i:Int)] ++ Jl ++ (Q.map fun q=>cj q i) ++ ms.map (fun s=>cj i s)=PS at hPl TX Rk
  obtain ⟨at_,hat,T5⟩:=Lz (c1 / 7) (n:=PS.length) (by rw [Rk]; omega)
  obtain ⟨qp,f1,f2,f3⟩:=id hPl
  refine ⟨_,rfl,_,_,rfl,rfl,⟨by show (0:Int) < 7; decide,by show (7:Int) < _; decide⟩,_,rfl,lF,_,rfl,.inl (aZ.of f1),_,_,rfl,rfl,(by rw [length_map,f2,Rk]; omega),?_⟩
  show gF _ (.int (c1 / 7 % (((qp.map V.ref).length:Nat):Int))) _ _ _
  rw [length_map,f2,hat]
  have T6:qp[at_]? = some (qp[at_]'(by omega)):=List.getElem?_eq_getElem _
  generalize qp[at_]'(by omega)=qa at T6
  have hpa:PS[at_]? = some PS[at_]:=List.getElem?_eq_getElem T5
  generalize PS[at_]=pa at hpa
  obtain ⟨a1,a2⟩:=f3 _ _ _ T6 hpa
  refine ⟨_,rfl,_,rfl,_,rfl,lF,_,_,.ref qa,rfl,rfl,aZ.of f1,cw (j:=at_) (by rw [List.getElem?_map,T6]; rfl),_,rfl,_,_,rfl,rfl,Ki,_,rfl,_,rfl,lr,qa,tb,pb,pc,pl,_,most,ds,pa,bs,bells,d,cf,rfl,by omega,hR.same sA,hG,xt,a1,a2,TX pa (List.mem_of_getElem? hpa),⟨show (0:Int) ≤ (i:Int) % 8 by omega,show (i:Int) % 8 ≤ 7 by omega⟩,hB.same sA,fun Gd x6=>?_⟩
  rw [hAr]
  have hNd:Gd lN=some (.lst ((PS.map fun p=>((hits AA p:Nat):Int)).map V.int)):=by
   rw [x6 _ _ vE,← hPS,Pl,Rm,TY]
   simp only [map_append,map_map]
   rfl
  exact ⟨_,rfl,_,rfl,lN,_,_,.int ((hits AA pa:Nat):Int),rfl,rfl,aZ.of hNd,cw (j:=at_) (by rw [List.getElem?_map,List.getElem?_map,hpa]; rfl),rfl,_,rfl,cQ (by rw [decide_eq_true rfl]; decide) ⟨_,_,_,_,_,_,_,_,rfl,s0.trans (sA.trans x6)⟩⟩
end
set_option maxHeartbeats 8000000
theorem all_mk {l:OpenLaw} {w:World} {K:Frag} {h:Heap} {mg:Str→Option Value} {fa f0 f1 f2 f3 f4 f5 f6 f7 f8 f9 Pp f11 Pq Pr Pt Pu Pw Px Py Pz PB T7 T8 T9 Ua Ub Uc Ud Ue Ug Uh Ui f32 Uj Uk Ul Um Uo Uq Ur Us Ut Uu Uv Uw Ux Uy Uz UA UB UC UD UE UG UH UI UJ UK:Addr} (X:K.In h) (G:h.Ns mainGlobals mg) (hfa:mg "law" = some (.ref fa))
  {od0 an0 od1 an1 od2 an2 od3 an3 od4 an4 od5 an5 od6 an6 od7 an7 od8 an8 od9 an9 UL UM UN UO UP UQ UR US UT UU UW UX UY UZ U0 U1 U2 U3 U4 U5 U6 U7 U8 U9 Va Vb Vc Vd Ve Vf Vg Vh Vi Vj Vk Vl Vm Vn Vo Vp Vq Vr Vs Vt Vu Vv Vw Vx Vy Vz VA VB VC VD VE VF VG VH VI VJ VL VM VN VO VP VQ VR VT VU VW VX VY VZ V0 V1 V2 V3 V4 V5 V6 V7 V8 V9 Wa Wb Wc Wd Wf Wg Wh Wj Wk Wl Wm Wn PD:Option Addr} {sl0 sl1 sl2 sl3 sl4 sl5 sl6 sl7 sl8 sl9 Wo Wp Wq Wr Ws Wt Wu Wv Ww Wx Wy Wz WB WC WD WG WH WK WL WM WN WO WQ WR WT WU WV WW WX WY WZ W0 W1 W2 W3 W4 W5 W6 W7 W8 W9 Xa Xb Xc Xd Xe Xf Xg:Array (Option Value)} {oc0 kV0 dc0 pm0 cd0 ct0 oc1 kV1 dc1 pm1 cd1 ct1 oc2 kV2 dc2 pm2 cd2 ct2 oc3 kV3 dc3 pm3 cd3 ct3 oc4 kV4 dc4 pm4 cd4 ct4 oc5 kV5 dc5 pm5 cd5 ct5 oc6 kV6 dc6 pm6 cd6 ct6 oc7 kV7 dc7 pm7 cd7 ct7 oc8 kV8 dc8 pm8 cd8 ct8 oc9 kV9 dc9 pm9 cd9 ct9 Xh Xi Xj Xk PF Xl Xm Xn Xo Xp PH Xq Xr Xt Xu Xv PJ Xw Xx Xy Xz XA PK XB XC XD XF XG PL XH XI XJ XM XO PN XQ XR XS XT XU PR XW XY XZ X0 X2 PU X3 X4 X5 X6 X7 PV X8 X9 Ya Yb Yc PX Yd Ye Yf Yg Yh PY Yi Yj Yk Yl Ym PZ Yn Yo Yp Yq Yr P0 Ys Yt Yu Yv Yw P1 Yx Yy Yz YB YC P2 YD YF YG YH YJ P4 YK YL YM YN YQ P5 YR YS YT YV YW P6 YX YZ Y0 Y1 Y2 P7 Y3 Y4 Y5 Y6 Y7 P8 Y8 Y9 Za Zb Zc P9 Zd Ze Zf Zg Zh Qa Zi Zj Zk Zm Zn Qb Zo Zq Zr Zu Zv Qc Zw Zx Zy Zz ZA Qd ZC ZD ZE ZF ZG Qe ZI ZJ ZK ZL ZM Qg ZO ZP ZQ ZR ZS Qh ZU ZV ZW ZX ZY Qi Z0 Z1 Z2 Z3 Z4 Qj Z5 Z6 Z7 Z8 Z9 Qk aac aad aae aaf aag Ql aah aai aaj aak aal Qm aam aan aao aap aaq Qn aar aas aat aau aav Qo aaw aax aay aaz aaA Qp aaB aaC aaD aaE aaF Qq aaG aaH aaI aaJ aaK Qr aaL aaM aaN aaO aaP Qs aaQ aaR aaS aaT aaU Qt aaV aaW aaX aaY aaZ Qu aa0 aa1 aa2 aa3 aa4 Qv aa5 aa6 aa7 aa8 aa9 Qw abb abd abe abf abg Qx abh abi abj abk abl Qy abm abn abo abp abq Qz abr abt abu abv abw QA abx aby QB QC QD LS QE:Value}
  (a0:nsIn K mainGlobals "end" = some (some (.ref f0))) (l0:K.lookup f0=some ⟨oc0,od0,.func (fnOf "end" "end" (aF s_end) (aD s_end) (aj s_end) .none kV0 dc0 pm0 an0 cd0 ct0),sl0⟩) (c0:codeIn K cd0 "end" = true) (k0:keepIn K (.ref f0)=true)
  (a1:nsIn K mainGlobals "do_stop" = some (some (.ref f1))) (l1:K.lookup f1=some ⟨oc1,od1,.func (fnOf "do_stop" "do_stop" (aF jd) (aD jd) (aj jd) .none kV1 dc1 pm1 an1 cd1 ct1),sl1⟩) (c1:codeIn K cd1 "do_stop" = true) (k1:keepIn K (.ref f1)=true)
  (a2:nsIn K mainGlobals "do_halt" = some (some (.ref f2))) (l2:K.lookup f2=some ⟨oc2,od2,.func (fnOf "do_halt" "do_halt" (aF je) (aD je) (aj je) .none kV2 dc2 pm2 an2 cd2 ct2),sl2⟩) (c2:codeIn K cd2 "do_halt" = true) (k2:keepIn K (.ref f2)=true)
  (a3:nsIn K mainGlobals "do_back" = some (some (.ref f3))) (l3:K.lookup f3=some ⟨oc3,od3,.func (fnOf "do_back" "do_back" (aF jf) (aD jf) (aj jf) .none kV3 dc3 pm3 an3 cd3 ct3),sl3⟩) (c3:codeIn K cd3 "do_back" = true) (k3:keepIn K (.ref f3)=true)
  (a4:nsIn K mainGlobals "do_set" = some (some (.ref f4))) (l4:K.lookup f4=some ⟨oc4,od4,.func (fnOf "do_set" "do_set" (aF ko) (aD ko) (aj ko) .none kV4 dc4 pm4 an4 cd4 ct4),sl4⟩) (c4:codeIn K cd4 "do_set" = true) (k4:keepIn K (.ref f4)=true)
  (a5:nsIn K mainGlobals "do_more" = some (some (.ref f5))) (l5:K.lookup f5=some ⟨oc5,od5,.func (fnOf "do_more" "do_more" (aF jg) (aD jg) (aj jg) .none kV5 dc5 pm5 an5 cd5 ct5),sl5⟩) (c5:codeIn K cd5 "do_more" = true) (k5:keepIn K (.ref f5)=true)
  (a6:nsIn K mainGlobals "do_copy" = some (some (.ref f6))) (l6:K.lookup f6=some ⟨oc6,od6,.func (fnOf "do_copy" "do_copy" (aF jh) (aD jh) (aj jh) .none kV6 dc6 pm6 an6 cd6 ct6),sl6⟩) (c6:codeIn K cd6 "do_copy" = true) (k6:keepIn K (.ref f6)=true)
  (a7:nsIn K mainGlobals "do_add" = some (some (.ref f7))) (l7:K.lookup f7=some ⟨oc7,od7,.func (fnOf "do_add" "do_add" (aF kr) (aD kr) (aj kr) .none kV7 dc7 pm7 an7 cd7 ct7),sl7⟩) (c7:codeIn K cd7 "do_add" = true) (k7:keepIn K (.ref f7)=true)
  (a8:nsIn K mainGlobals "do_less" = some (some (.ref f8))) (l8:K.lookup f8=some ⟨oc8,od8,.func (fnOf "do_less" "do_less" (aF ji) (aD ji) (aj ji) .none kV8 dc8 pm8 an8 cd8 ct8),sl8⟩) (c8:codeIn K cd8 "do_less" = true) (k8:keepIn K (.ref f8)=true)
  (a9:nsIn K mainGlobals "do_load" = some (some (.ref f9))) (l9:K.lookup f9=some ⟨oc9,od9,.func (fnOf "do_load" "do_load" (aF jj) (aD jj) (aj jj) .none kV9 dc9 pm9 an9 cd9 ct9),sl9⟩) (c9:codeIn K cd9 "do_load" = true) (k9:keepIn K (.ref f9)=true)
  (a10:nsIn K mainGlobals "do_keep" = some (some (.ref Pp))) (l10:K.lookup Pp=some ⟨Xh,UL,.func (fnOf "do_keep" "do_keep" (aF jk) (aD jk) (aj jk) .none Xi Xj Xk UM PF Xl),Wo⟩) (c10:codeIn K PF "do_keep" = true) (k10:keepIn K (.ref Pp)=true)
  (a11:nsIn K mainGlobals "do_tell" = some (some (.ref f11))) (l11:K.lookup f11=some ⟨Xm,UN,.func (fnOf "do_tell" "do_tell" (aF jl) (aD jl) (aj jl) .none Xn Xo Xp UO PH Xq),Wp⟩) (c11:codeIn K PH "do_tell" = true) (k11:keepIn K (.ref f11)=true)
  (a12:nsIn K mainGlobals "do_see" = some (some (.ref Pq))) (l12:K.lookup Pq=some ⟨Xr,UP,.func (fnOf "do_see" "do_see" (aF ku) (aD ku) (aj ku) .none Xt Xu Xv UQ PJ Xw),Wq⟩) (c12:codeIn K PJ "do_see" = true) (k12:keepIn K (.ref Pq)=true)
  (a13:nsIn K mainGlobals "do_put" = some (some (.ref Pr))) (l13:K.lookup Pr=some ⟨Xx,UR,.func (fnOf "do_put" "do_put" (aF kx) (aD kx) (aj kx) .none Xy Xz XA US PK XB),Wr⟩) (c13:codeIn K PK "do_put" = true) (k13:keepIn K (.ref Pr)=true)
  (a14:nsIn K mainGlobals "do_take" = some (some (.ref Pt))) (l14:K.lookup Pt=some ⟨XC,UT,.func (fnOf "do_take" "do_take" (aF jm) (aD jm) (aj jm) .none XD XF XG UU PL XH),Ws⟩) (c14:codeIn K PL "do_take" = true) (k14:keepIn K (.ref Pt)=true)
  (a15:nsIn K mainGlobals "do_jump" = some (some (.ref Pu))) (l15:K.lookup Pu=some ⟨XI,UW,.func (fnOf "do_jump" "do_jump" (aF jn) (aD jn) (aj jn) .none XJ XM XO UX PN XQ),Wt⟩) (c15:codeIn K PN "do_jump" = true) (k15:keepIn K (.ref Pu)=true)
  (a16:nsIn K mainGlobals "do_zero" = some (some (.ref Pw))) (l16:K.lookup Pw=some ⟨XR,UY,.func (fnOf "do_zero" "do_zero" (aF jo) (aD jo) (aj jo) .none XS XT XU UZ PR XW),Wu⟩) (c16:codeIn K PR "do_zero" = true) (k16:keepIn K (.ref Pw)=true)
  (a17:nsIn K mainGlobals "do_below" = some (some (.ref Px))) (l17:K.lookup Px=some ⟨XY,U0,.func (fnOf "do_below" "do_below" (aF iE) (aD iE) (aj iE) .none XZ X0 X2 U1 PU X3),Wv⟩) (c17:codeIn K PU "do_below" = true) (k17:keepIn K (.ref Px)=true)
  (a18:nsIn K mainGlobals "do_call" = some (some (.ref Py))) (l18:K.lookup Py=some ⟨X4,U2,.func (fnOf "do_call" "do_call" (aF jq) (aD jq) (aj jq) .none X5 X6 X7 U3 PV X8),Ww⟩) (c18:codeIn K PV "do_call" = true) (k18:keepIn K (.ref Py)=true)
  (a19:nsIn K mainGlobals "do_mark" = some (some (.ref Pz))) (l19:K.lookup Pz=some ⟨X9,U4,.func (fnOf "do_mark" "do_mark" (aF jr) (aD jr) (aj jr) .none Ya Yb Yc U5 PX Yd),Wx⟩) (c19:codeIn K PX "do_mark" = true) (k19:keepIn K (.ref Pz)=true)
  (a20:nsIn K mainGlobals "do_table" = some (some (.ref PB))) (l20:K.lookup PB=some ⟨Ye,U6,.func (fnOf "do_table" "do_table" (aF iF) (aD iF) (aj iF) .none Yf Yg Yh U7 PY Yi),Wy⟩) (c20:codeIn K PY "do_table" = true) (k20:keepIn K (.ref PB)=true)
  (a21:nsIn K mainGlobals "goes_on" = some (some (.ref T7))) (l21:K.lookup T7=some ⟨Yj,U8,.func (fnOf "goes_on" "goes_on" (aF gn) (aD gn) (aj gn) .none Yk Yl Ym U9 PZ Yn),Wz⟩) (c21:codeIn K PZ "goes_on" = true) (k21:keepIn K (.ref T7)=true)
  (a22:nsIn K mainGlobals "targets_of" = some (some (.ref T8))) (l22:K.lookup T8=some ⟨Yo,Va,.func (fnOf "targets_of" "targets_of" (aF dX) (aD dX) (aj dX) .none Yp Yq Yr Vb P0 Ys),WB⟩) (c22:codeIn K P0 "targets_of" = true) (k22:keepIn K (.ref T8)=true)
  (a23:nsIn K mainGlobals "ways_of" = some (some (.ref T9))) (l23:K.lookup T9=some ⟨Yt,Vc,.func (fnOf "ways_of" "ways_of" (aF gq) (aD gq) (aj gq) .none Yu Yv Yw Vd P1 Yx),WC⟩) (c23:codeIn K P1 "ways_of" = true) (k23:keepIn K (.ref T9)=true)
  (a24:nsIn K mainGlobals "is_whole" = some (some (.ref Ua))) (l24:K.lookup Ua=some ⟨Yy,Ve,.func (fnOf "is_whole" "is_whole" (aF fe) (aD fe) (aj fe) .none Yz YB YC Vf P2 YD),WD⟩) (c24:codeIn K P2 "is_whole" = true) (k24:keepIn K (.ref Ua)=true)
  (a25:nsIn K mainGlobals "is_number_of" = some (some (.ref Ub))) (l25:K.lookup Ub=some ⟨YF,Vg,.func (fnOf "is_number_of" "is_number_of" (aF dm) (aD dm) (aj dm) .none YG YH YJ Vh P4 YK),WG⟩) (c25:codeIn K P4 "is_number_of" = true) (k25:keepIn K (.ref Ub)=true)
  (a26:nsIn K mainGlobals "is_targets" = some (some (.ref Uc))) (l26:K.lookup Uc=some ⟨YL,Vi,.func (fnOf "is_targets" "is_targets" (aF dF) (aD dF) (aj dF) .none YM YN YQ Vj P5 YR),WH⟩) (c26:codeIn K P5 "is_targets" = true) (k26:keepIn K (.ref Uc)=true)
  (a27:nsIn K mainGlobals "is_part" = some (some (.ref Ud))) (l27:K.lookup Ud=some ⟨YS,Vk,.func (fnOf "is_part" "is_part" (aF gw) (aD gw) (aj gw) .none YT YV YW Vl P6 YX),WK⟩) (c27:codeIn K P6 "is_part" = true) (k27:keepIn K (.ref Ud)=true)
  (a28:nsIn K mainGlobals "are_parts" = some (some (.ref Ue))) (l28:K.lookup Ue=some ⟨YZ,Vm,.func (fnOf "are_parts" "are_parts" (aF dP) (aD dP) (aj dP) .none Y0 Y1 Y2 Vn P7 Y3),WL⟩) (c28:codeIn K P7 "are_parts" = true) (k28:keepIn K (.ref Ue)=true)
  (a29:nsIn K mainGlobals "word_of" = some (some (.ref Ug))) (l29:K.lookup Ug=some ⟨Y4,Vo,.func (fnOf "word_of" "word_of" (aF gA) (aD gA) (aj gA) .none Y5 Y6 Y7 Vp P8 Y8),WM⟩) (c29:codeIn K P8 "word_of" = true) (k29:keepIn K (.ref Ug)=true)
  (a30:nsIn K mainGlobals "is_row" = some (some (.ref Uh))) (l30:K.lookup Uh=some ⟨Y9,Vq,.func (fnOf "is_row" "is_row" (aF ia) (aD ia) (aj ia) .none Za Zb Zc Vr P9 Zd),WN⟩) (c30:codeIn K P9 "is_row" = true) (k30:keepIn K (.ref Uh)=true)
  (a31:nsIn K mainGlobals "stays_within" = some (some (.ref Ui))) (l31:K.lookup Ui=some ⟨Ze,Vs,.func (fnOf "stays_within" "stays_within" (aF cL) (aD cL) (aj cL) .none Zf Zg Zh Vt Qa Zi),WO⟩) (c31:codeIn K Qa "stays_within" = true) (k31:keepIn K (.ref Ui)=true)
  (a32:nsIn K mainGlobals "check_rows" = some (some (.ref f32))) (l32:K.lookup f32=some ⟨Zj,Vu,.func (fnOf "check_rows" "check_rows" (aF dY) (aD dY) (aj dY) .none Zk Zm Zn Vv Qb Zo),WQ⟩) (c32:codeIn K Qb "check_rows" = true) (k32:keepIn K (.ref f32)=true)
  (a33:nsIn K mainGlobals "is_place" = some (some (.ref Uj))) (l33:K.lookup Uj=some ⟨Zq,Vw,.func (fnOf "is_place" "is_place" (aF fh) (aD fh) (aj fh) .none Zr Zu Zv Vx Qc Zw),WR⟩) (c33:codeIn K Qc "is_place" = true) (k33:keepIn K (.ref Uj)=true)
  (a34:nsIn K mainGlobals "is_what" = some (some (.ref Uk))) (l34:K.lookup Uk=some ⟨Zx,Vy,.func (fnOf "is_what" "is_what" (aF gB) (aD gB) (aj gB) .none Zy Zz ZA Vz Qd ZC),WT⟩) (c34:codeIn K Qd "is_what" = true) (k34:keepIn K (.ref Uk)=true)
  (a35:nsIn K mainGlobals "is_wish" = some (some (.ref Ul))) (l35:K.lookup Ul=some ⟨ZD,VA,.func (fnOf "is_wish" "is_wish" (aF gC) (aD gC) (aj gC) .none ZE ZF ZG VB Qe ZI),WU⟩) (c35:codeIn K Qe "is_wish" = true) (k35:keepIn K (.ref Ul)=true)
  (a36:nsIn K mainGlobals "check_wishes" = some (some (.ref Um))) (l36:K.lookup Um=some ⟨ZJ,VC,.func (fnOf "check_wishes" "check_wishes" (aF dn) (aD dn) (aj dn) .none ZK ZL ZM VD Qg ZO),WV⟩) (c36:codeIn K Qg "check_wishes" = true) (k36:keepIn K (.ref Um)=true)
  (a37:nsIn K mainGlobals "whats_before" = some (some (.ref Uo))) (l37:K.lookup Uo=some ⟨ZP,VE,.func (fnOf "whats_before" "whats_before" (aF cM) (aD cM) (aj cM) .none ZQ ZR ZS VF Qh ZU),WW⟩) (c37:codeIn K Qh "whats_before" = true) (k37:keepIn K (.ref Uo)=true)
  (a38:nsIn K mainGlobals "whats_on_way" = some (some (.ref Uq))) (l38:K.lookup Uq=some ⟨ZV,VG,.func (fnOf "whats_on_way" "whats_on_way" (aF cO) (aD cO) (aj cO) .none ZW ZX ZY VH Qi Z0),WX⟩) (c38:codeIn K Qi "whats_on_way" = true) (k38:keepIn K (.ref Uq)=true)
  (a39:nsIn K mainGlobals "numbers_of_whats" = some (some (.ref Ur))) (l39:K.lookup Ur=some ⟨Z1,VI,.func (fnOf "numbers_of_whats" "numbers_of_whats" (aF bV) (aD bV) (aj bV) .none Z2 Z3 Z4 VJ Qj Z5),WY⟩) (c39:codeIn K Qj "numbers_of_whats" = true) (k39:keepIn K (.ref Ur)=true)
  (a40:nsIn K mainGlobals "nothing_counted" = some (some (.ref Us))) (l40:K.lookup Us=some ⟨Z6,VL,.func (fnOf "nothing_counted" "nothing_counted" (aF cD) (aD cD) (aj cD) .none Z7 Z8 Z9 VM Qk aac),WZ⟩) (c40:codeIn K Qk "nothing_counted" = true) (k40:keepIn K (.ref Us)=true)
  (a41:nsIn K mainGlobals "see_what" = some (some (.ref Ut))) (l41:K.lookup Ut=some ⟨aad,VN,.func (fnOf "see_what" "see_what" (aF fj) (aD fj) (aj fj) .none aae aaf aag VO Ql aah),W0⟩) (c41:codeIn K Ql "see_what" = true) (k41:keepIn K (.ref Ut)=true)
  (a42:nsIn K mainGlobals "see_whats" = some (some (.ref Uu))) (l42:K.lookup Uu=some ⟨aai,VP,.func (fnOf "see_whats" "see_whats" (aF eI) (aD eI) (aj eI) .none aaj aak aal VQ Qm aam),W1⟩) (c42:codeIn K Qm "see_whats" = true) (k42:keepIn K (.ref Uu)=true)
  (a43:nsIn K mainGlobals "whats_between" = some (some (.ref Uv))) (l43:K.lookup Uv=some ⟨aan,VR,.func (fnOf "whats_between" "whats_between" (aF cV) (aD cV) (aj cV) .none aao aap aaq VT Qn aar),W2⟩) (c43:codeIn K Qn "whats_between" = true) (k43:keepIn K (.ref Uv)=true)
  (a44:nsIn K mainGlobals "do_row" = some (some (.ref Uw))) (l44:K.lookup Uw=some ⟨aas,VU,.func (fnOf "do_row" "do_row" (aF ib) (aD ib) (aj ib) .none aat aau aav VW Qo aaw),W3⟩) (c44:codeIn K Qo "do_row" = true) (k44:keepIn K (.ref Uw)=true)
  (a45:nsIn K mainGlobals "plain_seen" = some (some (.ref Ux))) (l45:K.lookup Ux=some ⟨aax,VX,.func (fnOf "plain_seen" "plain_seen" (aF dZ) (aD dZ) (aj dZ) .none aay aaz aaA VY Qp aaB),W4⟩) (c45:codeIn K Qp "plain_seen" = true) (k45:keepIn K (.ref Ux)=true)
  (a46:nsIn K mainGlobals "_law_cell_at" = some (some (.ref Uy))) (l46:K.lookup Uy=some ⟨aaC,VZ,.func (fnOf "_law_cell_at" "_law_cell_at" (aF er) (aD er) (aj er) .none aaD aaE aaF V0 Qq aaG),W5⟩) (c46:codeIn K Qq "_law_cell_at" = true) (k46:keepIn K (.ref Uy)=true)
  (a47:nsIn K mainGlobals "_law_stream" = some (some (.ref Uz))) (l47:K.lookup Uz=some ⟨aaH,V1,.func (fnOf "_law_stream" "_law_stream" (aF eO) (aD eO) (aj eO) .none aaI aaJ aaK V2 Qr aaL),W6⟩) (c47:codeIn K Qr "_law_stream" = true) (k47:keepIn K (.ref Uz)=true)
  (a48:nsIn K mainGlobals "_law_row" = some (some (.ref UA))) (l48:K.lookup UA=some ⟨aaM,V3,.func (fnOf "_law_row" "_law_row" (aF ic) (aD ic) (aj ic) .none aaN aaO aaP V4 Qs aaQ),W7⟩) (c48:codeIn K Qs "_law_row" = true) (k48:keepIn K (.ref UA)=true)
  (a49:nsIn K mainGlobals "_law_targets" = some (some (.ref UB))) (l49:K.lookup UB=some ⟨aaR,V5,.func (fnOf "_law_targets" "_law_targets" (aF ez) (aD ez) (aj ez) .none aaS aaT aaU V6 Qt aaV),W8⟩) (c49:codeIn K Qt "_law_targets" = true) (k49:keepIn K (.ref UB)=true)
  (a50:nsIn K mainGlobals "_law_last" = some (some (.ref UC))) (l50:K.lookup UC=some ⟨aaW,V7,.func (fnOf "_law_last" "_law_last" (aF gG) (aD gG) (aj gG) .none aaX aaY aaZ V8 Qu aa0),W9⟩) (c50:codeIn K Qu "_law_last" = true) (k50:keepIn K (.ref UC)=true)
  (a51:nsIn K mainGlobals "_law_rows" = some (some (.ref UD))) (l51:K.lookup UD=some ⟨aa1,V9,.func (fnOf "_law_rows" "_law_rows" (aF eC) (aD eC) (aj eC) .none aa2 aa3 aa4 Wa Qv aa5),Xa⟩) (c51:codeIn K Qv "_law_rows" = true) (k51:keepIn K (.ref UD)=true)
  (a52:nsIn K mainGlobals "_law_beginning" = some (some (.ref UE))) (l52:K.lookup UE=some ⟨aa6,Wb,.func (fnOf "_law_beginning" "_law_beginning" (aF bQ) (aD bQ) (aj bQ) .none aa7 aa8 aa9 Wc Qw abb),Xb⟩) (c52:codeIn K Qw "_law_beginning" = true) (k52:keepIn K (.ref UE)=true)
  (a53:nsIn K mainGlobals "_law_counts" = some (some (.ref UG))) (l53:K.lookup UG=some ⟨abd,Wd,.func (fnOf "_law_counts" "_law_counts" (aF cY) (aD cY) (aj cY) .none abe abf abg Wf Qx abh),Xc⟩) (c53:codeIn K Qx "_law_counts" = true) (k53:keepIn K (.ref UG)=true)
  (a54:nsIn K mainGlobals "_law_looks" = some (some (.ref UH))) (l54:K.lookup UH=some ⟨abi,Wg,.func (fnOf "_law_looks" "_law_looks" (aF dQ) (aD dQ) (aj dQ) .none abj abk abl Wh Qy abm),Xd⟩) (c54:codeIn K Qy "_law_looks" = true) (k54:keepIn K (.ref UH)=true)
  (a55:nsIn K mainGlobals "_law_machine" = some (some (.ref UI))) (l55:K.lookup UI=some ⟨abn,Wj,.func (fnOf "_law_machine" "_law_machine" (aF dI) (aD dI) (aj dI) .none abo abp abq Wk Qz abr),Xe⟩) (c55:codeIn K Qz "_law_machine" = true) (k55:keepIn K (.ref UI)=true)
  (a56:nsIn K mainGlobals "_law_odd" = some (some (.ref UJ))) (l56:K.lookup UJ=some ⟨abt,Wl,.func (fnOf "_law_odd" "_law_odd" (aF gD) (aD gD) (aj gD) .none abu abv abw Wm QA abx),Xf⟩) (c56:codeIn K QA "_law_odd" = true) (k56:keepIn K (.ref UJ)=true)
  (a57:nsIn K mainGlobals "law" = some (some (.ref UK))) (l57:K.lookup UK=some ⟨aby,Wn,.func (fnOf "law" "law" (aF iV) (aD iV) (aj iV) .none QB QC QD PD LS QE),Xg⟩) (c57:codeIn K LS "law" = true) (k57:keepIn K (.ref UK)=true)
  (z_len:nsIn K mainGlobals "len" = some none)
  (z_list:nsIn K mainGlobals "list" = some none)
  (z_tuple:nsIn K mainGlobals "tuple" = some none)
  (z_int:nsIn K mainGlobals "int" = some none)
  (z_bool:nsIn K mainGlobals "bool" = some none)
  (z_str:nsIn K mainGlobals "str" = some none)
  (z_dict:nsIn K mainGlobals "dict" = some none)
  (z_isinstance:nsIn K mainGlobals "isinstance" = some none)
  (z_enumerate:nsIn K mainGlobals "enumerate" = some none)
  (z_range:nsIn K mainGlobals "range" = some none)
  (z_sum:nsIn K mainGlobals "sum" = some none)
  (z_all:nsIn K mainGlobals "all" = some none)
  (z_zip:nsIn K mainGlobals "zip" = some none)
  (z_sorted:nsIn K mainGlobals "sorted" = some none)
  (z_set:nsIn K mainGlobals "set" = some none)
  {gZ:Addr} {pH:Option Addr} {pI:Array (Option Value)} {qF:Nat} {pJ pK pL pM:Tok} (aNOT_GOING_ON:nsIn K mainGlobals "NOT_GOING_ON" = some (some (.ref gZ))) (lNOT_GOING_ON:K.lookup gZ=some ⟨.type "tuple",pH,.seq #[.str "stop" pJ,.str "back" pK,.str "halt" pL,.str "jump" pM] qF,pI⟩)
  {pN:Tok} (aMOST_ROWS:nsIn K mainGlobals "MOST_ROWS" = some (some (.int (4000) pN)))
  {jM:Tok} (aMOST_TARGETS:nsIn K mainGlobals "MOST_TARGETS" = some (some (.int (16) jM)))
  {fU:Addr} {e9:Array DictEntry} {gR:Nat} (aBOUNDS:nsIn K mainGlobals "BOUNDS" = some (some (.ref fU))) (lBOUNDS:K.lookup fU=some ⟨.type "dict",none,.dict e9 gR,#[]⟩) (kBOUNDS:KeysLit w.params e9.toList) (oBOUNDS:(fU == sysModules)=false)
  {pO:Addr} {AZ:Array (Option Value)} {Ee:Nat} {xv xA:Tok} (eBOUNDS0:nsIn K fU "box" = some (some (.ref pO))) (lBOUNDS0:K.lookup pO=some ⟨.type "tuple",none,.seq #[.int (0) xv,.int (7) xA] Ee,AZ⟩)
  {pP:Addr} {A0:Array (Option Value)} {Ef:Nat} {xB xC:Tok} (eBOUNDS1:nsIn K fU "aside" = some (some (.ref pP))) (lBOUNDS1:K.lookup pP=some ⟨.type "tuple",none,.seq #[.int (0) xB,.int (1000000) xC] Ef,A0⟩)
  {pQ:Addr} {A1:Array (Option Value)} {Eg:Nat} {xD xE:Tok} (eBOUNDS2:nsIn K fU "target" = some (some (.ref pQ))) (lBOUNDS2:K.lookup pQ=some ⟨.type "tuple",none,.seq #[.int (0) xD,.int (1000000000) xE] Eg,A1⟩)
  {pR:Addr} {A2:Array (Option Value)} {Eh:Nat} {xF xG:Tok} (eBOUNDS3:nsIn K fU "number" = some (some (.ref pR))) (lBOUNDS3:K.lookup pR=some ⟨.type "tuple",none,.seq #[.int (0) xF,.int (1000000) xG] Eh,A2⟩)
  {pS:Addr} {A3:Array (Option Value)} {Ei:Nat} {xH xI:Tok} (eBOUNDS4:nsIn K fU "value" = some (some (.ref pS))) (lBOUNDS4:K.lookup pS=some ⟨.type "tuple",none,.seq #[.int (-1000000000) xH,.int (1000000000) xI] Ei,A3⟩)
  {pT:Addr} {A4:Array (Option Value)} {Ej:Nat} {xJ xK:Tok} (eBOUNDS5:nsIn K fU "far" = some (some (.ref pT))) (lBOUNDS5:K.lookup pT=some ⟨.type "tuple",none,.seq #[.int (0) xJ,.int (1) xK] Ej,A4⟩)
  {cI:Addr} {ck:Array DictEntry} {cT:Nat} (aPARTS:nsIn K mainGlobals "PARTS" = some (some (.ref cI))) (lPARTS:K.lookup cI=some ⟨.type "dict",none,.dict ck cT,#[]⟩) (kPARTS:KeysLit w.params ck.toList) (oPARTS:(cI == sysModules)=false)
  {tT:Addr} {Ek:Array (Option Value)} {HW:Nat} (ePARTS0:nsIn K cI "stop" = some (some (.ref tT))) (lPARTS0:K.lookup tT=some ⟨.type "tuple",none,.seq #[] HW,Ek⟩)
  {tU:Addr} {El:Array (Option Value)} {HY:Nat} (ePARTS1:nsIn K cI "back" = some (some (.ref tU))) (lPARTS1:K.lookup tU=some ⟨.type "tuple",none,.seq #[] HY,El⟩)
  {tV:Addr} {Em:Array (Option Value)} {HZ:Nat} {A5:Tok} (ePARTS2:nsIn K cI "halt" = some (some (.ref tV))) (lPARTS2:K.lookup tV=some ⟨.type "tuple",none,.seq #[.str "number" A5] HZ,Em⟩)
  {tW:Addr} {En:Array (Option Value)} {Ia:Nat} {A6 A7:Tok} (ePARTS3:nsIn K cI "set" = some (some (.ref tW))) (lPARTS3:K.lookup tW=some ⟨.type "tuple",none,.seq #[.str "box" A6,.str "value" A7] Ia,En⟩)
  {tY:Addr} {Eo:Array (Option Value)} {Ib:Nat} {A8 A9:Tok} (ePARTS4:nsIn K cI "more" = some (some (.ref tY))) (lPARTS4:K.lookup tY=some ⟨.type "tuple",none,.seq #[.str "box" A8,.str "value" A9] Ib,Eo⟩)
  {tZ:Addr} {Ep:Array (Option Value)} {Ic:Nat} {Ba Bb:Tok} (ePARTS5:nsIn K cI "copy" = some (some (.ref tZ))) (lPARTS5:K.lookup tZ=some ⟨.type "tuple",none,.seq #[.str "box" Ba,.str "box" Bb] Ic,Ep⟩)
  {t8:Addr} {Er:Array (Option Value)} {Ie:Nat} {Bc Bd:Tok} (ePARTS6:nsIn K cI "add" = some (some (.ref t8))) (lPARTS6:K.lookup t8=some ⟨.type "tuple",none,.seq #[.str "box" Bc,.str "box" Bd] Ie,Er⟩)
  {t9:Addr} {Es:Array (Option Value)} {Ig:Nat} {Be Bf:Tok} (ePARTS7:nsIn K cI "less" = some (some (.ref t9))) (lPARTS7:K.lookup t9=some ⟨.type "tuple",none,.seq #[.str "box" Be,.str "box" Bf] Ig,Es⟩)
  {uf:Addr} {Et:Array (Option Value)} {Ih:Nat} {Bg Bh:Tok} (ePARTS8:nsIn K cI "load" = some (some (.ref uf))) (lPARTS8:K.lookup uf=some ⟨.type "tuple",none,.seq #[.str "box" Bg,.str "box" Bh] Ih,Et⟩)
  {ug:Addr} {Eu:Array (Option Value)} {Ii:Nat} {Bi Bj:Tok} (ePARTS9:nsIn K cI "keep" = some (some (.ref ug))) (lPARTS9:K.lookup ug=some ⟨.type "tuple",none,.seq #[.str "box" Bi,.str "box" Bj] Ii,Eu⟩)
  {pU:Addr} {Bk:Array (Option Value)} {Ew:Nat} {xM:Tok} (ePARTS10:nsIn K cI "tell" = some (some (.ref pU))) (lPARTS10:K.lookup pU=some ⟨.type "tuple",none,.seq #[.str "box" xM] Ew,Bk⟩)
  {pV:Addr} {Bl:Array (Option Value)} {Ex:Nat} {xN xO:Tok} (ePARTS11:nsIn K cI "see" = some (some (.ref pV))) (lPARTS11:K.lookup pV=some ⟨.type "tuple",none,.seq #[.str "box" xN,.str "number" xO] Ex,Bl⟩)
  {pW:Addr} {Bm:Array (Option Value)} {Ey:Nat} {xP xQ:Tok} (ePARTS12:nsIn K cI "put" = some (some (.ref pW))) (lPARTS12:K.lookup pW=some ⟨.type "tuple",none,.seq #[.str "box" xP,.str "aside" xQ] Ey,Bm⟩)
  {pX:Addr} {Bo:Array (Option Value)} {Ez:Nat} {xR xS:Tok} (ePARTS13:nsIn K cI "take" = some (some (.ref pX))) (lPARTS13:K.lookup pX=some ⟨.type "tuple",none,.seq #[.str "box" xR,.str "aside" xS] Ez,Bo⟩)
  {pY:Addr} {Bp:Array (Option Value)} {EA:Nat} {xT xU:Tok} (ePARTS14:nsIn K cI "jump" = some (some (.ref pY))) (lPARTS14:K.lookup pY=some ⟨.type "tuple",none,.seq #[.str "target" xT,.str "far" xU] EA,Bp⟩)
  {pZ:Addr} {Bq:Array (Option Value)} {EB:Nat} {xV xW xX:Tok} (ePARTS15:nsIn K cI "zero" = some (some (.ref pZ))) (lPARTS15:K.lookup pZ=some ⟨.type "tuple",none,.seq #[.str "box" xV,.str "target" xW,.str "far" xX] EB,Bq⟩)
  {p9:Addr} {Br:Array (Option Value)} {EC:Nat} {xY xZ ya:Tok} (ePARTS16:nsIn K cI "below" = some (some (.ref p9))) (lPARTS16:K.lookup p9=some ⟨.type "tuple",none,.seq #[.str "box" xY,.str "target" xZ,.str "far" ya] EC,Br⟩)
  {qb:Addr} {Bs:Array (Option Value)} {ED:Nat} {yc yd:Tok} (ePARTS17:nsIn K cI "call" = some (some (.ref qb))) (lPARTS17:K.lookup qb=some ⟨.type "tuple",none,.seq #[.str "target" yc,.str "far" yd] ED,Bs⟩)
  {qc:Addr} {Bu:Array (Option Value)} {EF:Nat} {ye yf:Tok} (ePARTS18:nsIn K cI "mark" = some (some (.ref qc))) (lPARTS18:K.lookup qc=some ⟨.type "tuple",none,.seq #[.str "target" ye,.str "far" yf] EF,Bu⟩)
  {qd:Addr} {Bv:Array (Option Value)} {EG:Nat} {yg yh:Tok} (ePARTS19:nsIn K cI "table" = some (some (.ref qd))) (lPARTS19:K.lookup qd=some ⟨.type "tuple",none,.seq #[.str "box" yg,.str "targets" yh] EG,Bv⟩)
  {kX:Tok} (aMOST_WISHES:nsIn K mainGlobals "MOST_WISHES" = some (some (.int (12) kX)))
  {iH:Addr} {iw:Array DictEntry} {kZ:Nat} (aPLACES:nsIn K mainGlobals "PLACES" = some (some (.ref iH))) (lPLACES:K.lookup iH=some ⟨.type "dict",none,.dict iw kZ,#[]⟩) (kPLACES:KeysLit w.params iw.toList) (oPLACES:(iH == sysModules)=false)
  {EH:Tok} (ePLACES0:nsIn K iH "before" = some (some (.int 2 EH)))
  {EI:Tok} (ePLACES1:nsIn K iH "after" = some (some (.int 2 EI)))
  {EJ:Tok} (ePLACES2:nsIn K iH "way" = some (some (.int 3 EJ)))
  {jY:Addr} {jz:Array DictEntry} {qe:Nat} (aWHATS:nsIn K mainGlobals "WHATS" = some (some (.ref jY))) (lWHATS:K.lookup jY=some ⟨.type "dict",none,.dict jz qe,#[]⟩) (kWHATS:KeysLit w.params jz.toList) (oWHATS:(jY == sysModules)=false)
  {uh:Addr} {EK:Array (Option Value)} {Ij:Nat} {Bw By:Tok} (eWHATS0:nsIn K jY "look" = some (some (.ref uh))) (lWHATS0:K.lookup uh=some ⟨.type "tuple",none,.seq #[.str "number" Bw,.str "box" By] Ij,EK⟩)
  {ui:Addr} {EL:Array (Option Value)} {Ik:Nat} {Bz:Tok} (eWHATS1:nsIn K jY "count" = some (some (.ref ui))) (lWHATS1:K.lookup ui=some ⟨.type "tuple",none,.seq #[.str "number" Bz] Ik,EL⟩)
  {uj:Addr} {ER:Array (Option Value)} {Il:Nat} {BA BD:Tok} (eWHATS2:nsIn K jY "guard" = some (some (.ref uj))) (lWHATS2:K.lookup uj=some ⟨.type "tuple",none,.seq #[.str "number" BA,.str "box" BD] Il,ER⟩)
  {C:Addr} (aC:nsIn K mainGlobals "Machine" = some (some (.ref C)))
  {g0:Addr} {abz abA:Option Addr} {abB:Array (Option Value)} {abC abD abE abF QF abG:Value} (ag0:findIn K (.ref C) "__init__" = some (some (.ref g0))) (ig0:isFn K (.ref g0)=true) (lg0:K.lookup g0=some ⟨abC,abz,.func (fnOf "__init__" "Machine.__init__" (aF rA) (aD rA) (aj rA) .none abD abE abF abA QF abG),abB⟩) (cg0:codeIn K QF "Machine.__init__" = true) (kg0:keepIn K (.ref g0)=true)
  {g1:Addr} {abH abI:Option Addr} {abJ:Array (Option Value)} {abK abL abM abN QG abO:Value} (ag1:findIn K (.ref C) "row" = some (some (.ref g1))) (ig1:isFn K (.ref g1)=true) (lg1:K.lookup g1=some ⟨abK,abH,.func (fnOf "row" "Machine.row" (aF rB) (aD rB) (aj rB) .none abL abM abN abI QG abO),abJ⟩) (cg1:codeIn K QG "Machine.row" = true) (kg1:keepIn K (.ref g1)=true)
  {g2:Addr} {abP abQ:Option Addr} {abR:Array (Option Value)} {abS abT abU abV QH abW:Value} (ag2:findIn K (.ref C) "ending" = some (some (.ref g2))) (ig2:isFn K (.ref g2)=true) (lg2:K.lookup g2=some ⟨abS,abP,.func (fnOf "ending" "Machine.ending" (aF jv) (aD jv) (aj jv) .none abT abU abV abQ QH abW),abR⟩) (cg2:codeIn K QH "Machine.ending" = true) (kg2:keepIn K (.ref g2)=true)
  {g3:Addr} {abX abY:Option Addr} {abZ:Array (Option Value)} {ab0 ab1 ab2 ab3 QI ab4:Value} (ag3:findIn K (.ref C) "boxes" = some (some (.ref g3))) (ig3:isFn K (.ref g3)=true) (lg3:K.lookup g3=some ⟨ab0,abX,.func (fnOf "boxes" "Machine.boxes" (aF lR) (aD lR) (aj lR) .none ab1 ab2 ab3 abY QI ab4),abZ⟩) (cg3:codeIn K QI "Machine.boxes" = true) (kg3:keepIn K (.ref g3)=true)
  {g4:Addr} {ab5 ab6:Option Addr} {ab7:Array (Option Value)} {ab8 ab9 aca acb QJ acd:Value} (ag4:findIn K (.ref C) "step" = some (some (.ref g4))) (ig4:isFn K (.ref g4)=true) (lg4:K.lookup g4=some ⟨ab8,ab5,.func (fnOf "step" "Machine.step" (aF rC) (aD rC) (aj rC) .none ab9 aca acb ab6 QJ acd),ab7⟩) (cg4:codeIn K QJ "Machine.step" = true) (kg4:keepIn K (.ref g4)=true)
  (pg:PySem.W.plainGet K C Str.empty=true) (hd:PySem.W.hasDictIn K C=true) (po:PySem.W.plainOver K C=true) (sa:findIn K (.ref C) "__setattr__" = some (some (.builtin "object.__setattr__"))) (mkc:PySem.W.makesIn K C=true) (kc:keepIn K (.ref C)=true)
  (n_program:findIn K (.ref C) "program" = some none)
  (n_in_boxes:findIn K (.ref C) "in_boxes" = some none)
  (n_in_cells:findIn K (.ref C) "in_cells" = some none)
  (n_in_asides:findIn K (.ref C) "in_asides" = some none)
  (n_rung:findIn K (.ref C) "rung" = some none)
  (n_told_numbers:findIn K (.ref C) "told_numbers" = some none)
  (n_seen_numbers:findIn K (.ref C) "seen_numbers" = some none)
  (n_pile:findIn K (.ref C) "pile" = some none)
  (n_marks_done:findIn K (.ref C) "marks_done" = some none)
  (n_here:findIn K (.ref C) "here" = some none)
  (n_how_ended:findIn K (.ref C) "how_ended" = some none)
  {pE:Addr} {qm:Array DictEntry} {nE:Nat} (aE:nsIn K mainGlobals "DEEDS" = some (some (.ref pE))) (lE:K.lookup pE=some ⟨.type "dict",none,.dict qm nE,#[]⟩) (kE:KeysLit w.params qm.toList) (oE:(pE == sysModules)=false)
  (e_stop:nsIn K pE "stop" = some (some (.ref f1)))
  (e_halt:nsIn K pE "halt" = some (some (.ref f2)))
  (e_back:nsIn K pE "back" = some (some (.ref f3)))
  (e_set:nsIn K pE "set" = some (some (.ref f4)))
  (e_more:nsIn K pE "more" = some (some (.ref f5)))
  (e_copy:nsIn K pE "copy" = some (some (.ref f6)))
  (e_add:nsIn K pE "add" = some (some (.ref f7)))
  (e_less:nsIn K pE "less" = some (some (.ref f8)))
  (e_load:nsIn K pE "load" = some (some (.ref f9)))
  (e_keep:nsIn K pE "keep" = some (some (.ref Pp)))
  (e_tell:nsIn K pE "tell" = some (some (.ref f11)))
  (e_see:nsIn K pE "see" = some (some (.ref Pq)))
  (e_put:nsIn K pE "put" = some (some (.ref Pr)))
  (e_take:nsIn K pE "take" = some (some (.ref Pt)))
  (e_jump:nsIn K pE "jump" = some (some (.ref Pu)))
  (e_zero:nsIn K pE "zero" = some (some (.ref Pw)))
  (e_below:nsIn K pE "below" = some (some (.ref Px)))
  (e_call:nsIn K pE "call" = some (some (.ref Py)))
  (e_mark:nsIn K pE "mark" = some (some (.ref Pz)))
  (e_table:nsIn K pE "table" = some (some (.ref PB)))
  : ∃ fd:FuncData,(∀ (s:Shared) (v:Value),BindsTo s fd ⟨[v],[]⟩ [("_law_script",v)])∧∀ base:Heap,K.In base→base.Ns mainGlobals mg→aM l.prog w K mg base bw 11 fa fd ["_law_script"] (zN (K:=K)):=by
 have e:=hfa.symm.trans (mg_of X G a57)
 cases e
 have F0:=aR (st:=s_end) l0 c0 k0
 have b0:=F0.binds (ps:=["machine", "how"]) fun _ _ _ _ _ _ us hl=>match us,hl with | [_,_],_=>rfl
 have m0:=mg_of X G a0
 have F1:=aR (st:=jd) l1 c1 k1
 have b1:=F1.binds (ps:=["machine", "row"]) fun _ _ _ _ _ _ us hl=>match us,hl with | [_,_],_=>rfl
 have m1:=mg_of X G a1
 have F2:=aR (st:=je) l2 c2 k2
 have b2:=F2.binds (ps:=["machine", "row"]) fun _ _ _ _ _ _ us hl=>match us,hl with | [_,_],_=>rfl
 have m2:=mg_of X G a2
 have F3:=aR (st:=jf) l3 c3 k3
 have b3:=F3.binds (ps:=["machine", "row"]) fun _ _ _ _ _ _ us hl=>match us,hl with | [_,_],_=>rfl
 have m3:=mg_of X G a3
 have F4:=aR (st:=ko) l4 c4 k4
 have b4:=F4.binds (ps:=["machine", "row"]) fun _ _ _ _ _ _ us hl=>match us,hl with | [_,_],_=>rfl
 have m4:=mg_of X G a4
 have F5:=aR (st:=jg) l5 c5 k5
 have b5:=F5.binds (ps:=["machine", "row"]) fun _ _ _ _ _ _ us hl=>match us,hl with | [_,_],_=>rfl
 have m5:=mg_of X G a5
 have F6:=aR (st:=jh) l6 c6 k6
 have b6:=F6.binds (ps:=["machine", "row"]) fun _ _ _ _ _ _ us hl=>match us,hl with | [_,_],_=>rfl
 have m6:=mg_of X G a6
 have F7:=aR (st:=kr) l7 c7 k7
 have b7:=F7.binds (ps:=["machine", "row"]) fun _ _ _ _ _ _ us hl=>match us,hl with | [_,_],_=>rfl
 have m7:=mg_of X G a7
 have F8:=aR (st:=ji) l8 c8 k8
 have b8:=F8.binds (ps:=["machine", "row"]) fun _ _ _ _ _ _ us hl=>match us,hl with | [_,_],_=>rfl
 have m8:=mg_of X G a8
 have F9:=aR (st:=jj) l9 c9 k9
 have b9:=F9.binds (ps:=["machine", "row"]) fun _ _ _ _ _ _ us hl=>match us,hl with | [_,_],_=>rfl
 have m9:=mg_of X G a9
 have F10:=aR (st:=jk) l10 c10 k10
 have b10:=F10.binds (ps:=["machine", "row"]) fun _ _ _ _ _ _ us hl=>match us,hl with | [_,_],_=>rfl
 have m10:=mg_of X G a10
 have F11:=aR (st:=jl) l11 c11 k11
 have b11:=F11.binds (ps:=["machine", "row"]) fun _ _ _ _ _ _ us hl=>match us,hl with | [_,_],_=>rfl
 have m11:=mg_of X G a11
 have F12:=aR (st:=ku) l12 c12 k12
 have b12:=F12.binds (ps:=["machine", "row"]) fun _ _ _ _ _ _ us hl=>match us,hl with | [_,_],_=>rfl
 have m12:=mg_of X G a12
 have F13:=aR (st:=kx) l13 c13 k13
 have b13:=F13.binds (ps:=["machine", "row"]) fun _ _ _ _ _ _ us hl=>match us,hl with | [_,_],_=>rfl
 have m13:=mg_of X G a13
 have F14:=aR (st:=jm) l14 c14 k14
 have b14:=F14.binds (ps:=["machine", "row"]) fun _ _ _ _ _ _ us hl=>match us,hl with | [_,_],_=>rfl
 have m14:=mg_of X G a14
 have F15:=aR (st:=jn) l15 c15 k15
 have b15:=F15.binds (ps:=["machine", "row"]) fun _ _ _ _ _ _ us hl=>match us,hl with | [_,_],_=>rfl
 have m15:=mg_of X G a15
 have F16:=aR (st:=jo) l16 c16 k16
 have b16:=F16.binds (ps:=["machine", "row"]) fun _ _ _ _ _ _ us hl=>match us,hl with | [_,_],_=>rfl
 have m16:=mg_of X G a16
 have F17:=aR (st:=iE) l17 c17 k17
 have b17:=F17.binds (ps:=["machine", "row"]) fun _ _ _ _ _ _ us hl=>match us,hl with | [_,_],_=>rfl
 have m17:=mg_of X G a17
 have F18:=aR (st:=jq) l18 c18 k18
 have b18:=F18.binds (ps:=["machine", "row"]) fun _ _ _ _ _ _ us hl=>match us,hl with | [_,_],_=>rfl
 have m18:=mg_of X G a18
 have F19:=aR (st:=jr) l19 c19 k19
 have b19:=F19.binds (ps:=["machine", "row"]) fun _ _ _ _ _ _ us hl=>match us,hl with | [_,_],_=>rfl
 have m19:=mg_of X G a19
 have F20:=aR (st:=iF) l20 c20 k20
 have b20:=F20.binds (ps:=["machine", "row"]) fun _ _ _ _ _ _ us hl=>match us,hl with | [_,_],_=>rfl
 have m20:=mg_of X G a20
 have F21:=aR (st:=gn) l21 c21 k21
 have b21:=F21.binds (ps:=["row"]) fun _ _ _ _ _ _ us hl=>match us,hl with | [_],_=>rfl
 have m21:=mg_of X G a21
 have F22:=aR (st:=dX) l22 c22 k22
 have b22:=F22.binds (ps:=["row"]) fun _ _ _ _ _ _ us hl=>match us,hl with | [_],_=>rfl
 have m22:=mg_of X G a22
 have F23:=aR (st:=gq) l23 c23 k23
 have b23:=F23.binds (ps:=["rows", "r"]) fun _ _ _ _ _ _ us hl=>match us,hl with | [_,_],_=>rfl
 have m23:=mg_of X G a23
 have F24:=aR (st:=fe) l24 c24 k24
 have b24:=F24.binds (ps:=["thing"]) fun _ _ _ _ _ _ us hl=>match us,hl with | [_],_=>rfl
 have m24:=mg_of X G a24
 have F25:=aR (st:=dm) l25 c25 k25
 have b25:=F25.binds (ps:=["kind", "thing"]) fun _ _ _ _ _ _ us hl=>match us,hl with | [_,_],_=>rfl
 have m25:=mg_of X G a25
 have F26:=aR (st:=dF) l26 c26 k26
 have b26:=F26.binds (ps:=["thing"]) fun _ _ _ _ _ _ us hl=>match us,hl with | [_],_=>rfl
 have m26:=mg_of X G a26
 have F27:=aR (st:=gw) l27 c27 k27
 have b27:=F27.binds (ps:=["kind", "thing"]) fun _ _ _ _ _ _ us hl=>match us,hl with | [_,_],_=>rfl
 have m27:=mg_of X G a27
 have F28:=aR (st:=dP) l28 c28 k28
 have b28:=F28.binds (ps:=["kinds", "things"]) fun _ _ _ _ _ _ us hl=>match us,hl with | [_,_],_=>rfl
 have m28:=mg_of X G a28
 have F29:=aR (st:=gA) l29 c29 k29
 have b29:=F29.binds (ps:=["thing"]) fun _ _ _ _ _ _ us hl=>match us,hl with | [_],_=>rfl
 have m29:=mg_of X G a29
 have F30:=aR (st:=ia) l30 c30 k30
 have b30:=F30.binds (ps:=["row"]) fun _ _ _ _ _ _ us hl=>match us,hl with | [_],_=>rfl
 have m30:=mg_of X G a30
 have F31:=aR (st:=cL) l31 c31 k31
 have b31:=F31.binds (ps:=["row", "how_many"]) fun _ _ _ _ _ _ us hl=>match us,hl with | [_,_],_=>rfl
 have m31:=mg_of X G a31
 have F32:=aR (st:=dY) l32 c32 k32
 have b32:=F32.binds (ps:=["rows"]) fun _ _ _ _ _ _ us hl=>match us,hl with | [_],_=>rfl
 have m32:=mg_of X G a32
 have F33:=aR (st:=fh) l33 c33 k33
 have b33:=F33.binds (ps:=["rows", "place"]) fun _ _ _ _ _ _ us hl=>match us,hl with | [_,_],_=>rfl
 have m33:=mg_of X G a33
 have F34:=aR (st:=gB) l34 c34 k34
 have b34:=F34.binds (ps:=["what"]) fun _ _ _ _ _ _ us hl=>match us,hl with | [_],_=>rfl
 have m34:=mg_of X G a34
 have F35:=aR (st:=gC) l35 c35 k35
 have b35:=F35.binds (ps:=["rows", "wish"]) fun _ _ _ _ _ _ us hl=>match us,hl with | [_,_],_=>rfl
 have m35:=mg_of X G a35
 have F36:=aR (st:=dn) l36 c36 k36
 have b36:=F36.binds (ps:=["rows", "wishes"]) fun _ _ _ _ _ _ us hl=>match us,hl with | [_,_],_=>rfl
 have m36:=mg_of X G a36
 have F37:=aR (st:=cM) l37 c37 k37
 have b37:=F37.binds (ps:=["wishes", "r"]) fun _ _ _ _ _ _ us hl=>match us,hl with | [_,_],_=>rfl
 have m37:=mg_of X G a37
 have F38:=aR (st:=cO) l38 c38 k38
 have b38:=F38.binds (ps:=["wishes", "r", "s"]) fun _ _ _ _ _ _ us hl=>match us,hl with | [_,_,_],_=>rfl
 have m38:=mg_of X G a38
 have F39:=aR (st:=bV) l39 c39 k39
 have b39:=F39.binds (ps:=["wishes", "word"]) fun _ _ _ _ _ _ us hl=>match us,hl with | [_,_],_=>rfl
 have m39:=mg_of X G a39
 have F40:=aR (st:=cD) l40 c40 k40
 have b40:=F40.binds (ps:=["wishes"]) fun _ _ _ _ _ _ us hl=>match us,hl with | [_],_=>rfl
 have m40:=mg_of X G a40
 have F41:=aR (st:=fj) l41 c41 k41
 have b41:=F41.binds (ps:=["reading", "what", "boxes"]) fun _ _ _ _ _ _ us hl=>match us,hl with | [_,_,_],_=>rfl
 have m41:=mg_of X G a41
 have F42:=aR (st:=eI) l42 c42 k42
 have b42:=F42.binds (ps:=["reading", "whats", "boxes"]) fun _ _ _ _ _ _ us hl=>match us,hl with | [_,_,_],_=>rfl
 have m42:=mg_of X G a42
 have F43:=aR (st:=cV) l43 c43 k43
 have b43:=F43.binds (ps:=["rows", "wishes", "r", "s"]) fun _ _ _ _ _ _ us hl=>match us,hl with | [_,_,_,_],_=>rfl
 have m43:=mg_of X G a43
 have F44:=aR (st:=ib) l44 c44 k44
 have b44:=F44.binds (ps:=["reading", "rows", "wishes", "machine"]) fun _ _ _ _ _ _ us hl=>match us,hl with | [_,_,_,_],_=>rfl
 have m44:=mg_of X G a44
 have F45:=aR (st:=dZ) l45 c45 k45
 have b45:=F45.binds (ps:=["rows", "wishes", "boxes", "cells", "bells", "most"]) fun _ _ _ _ _ _ us hl=>match us,hl with | [_,_,_,_,_,_],_=>rfl
 have m45:=mg_of X G a45
 have F46:=aR (st:=er) l46 c46 k46
 have b46:=F46.binds (ps:=["_law_script", "_law_k"]) fun _ _ _ _ _ _ us hl=>match us,hl with | [_,_],_=>rfl
 have m46:=mg_of X G a46
 have F47:=aR (st:=eO) l47 c47 k47
 have b47:=F47.binds (ps:=["_law_cell", "_law_many"]) fun _ _ _ _ _ _ us hl=>match us,hl with | [_,_],_=>rfl
 have m47:=mg_of X G a47
 have F48:=aR (st:=ic) l48 c48 k48
 have b48:=F48.binds (ps:=["_law_x", "_law_many"]) fun _ _ _ _ _ _ us hl=>match us,hl with | [_,_],_=>rfl
 have m48:=mg_of X G a48
 have F49:=aR (st:=ez) l49 c49 k49
 have b49:=F49.binds (ps:=["_law_x", "_law_many", "_law_count"]) fun _ _ _ _ _ _ us hl=>match us,hl with | [_,_,_],_=>rfl
 have m49:=mg_of X G a49
 have F50:=aR (st:=gG) l50 c50 k50
 have b50:=F50.binds (ps:=["_law_row_here", "_law_x"]) fun _ _ _ _ _ _ us hl=>match us,hl with | [_,_],_=>rfl
 have m50:=mg_of X G a50
 have F51:=aR (st:=eC) l51 c51 k51
 have b51:=F51.binds (ps:=["_law_cell", "_law_many"]) fun _ _ _ _ _ _ us hl=>match us,hl with | [_,_],_=>rfl
 have m51:=mg_of X G a51
 have F52:=aR (st:=bQ) l52 c52 k52
 have b52:=F52.binds (ps:=["_law_cell"]) fun _ _ _ _ _ _ us hl=>match us,hl with | [_],_=>rfl
 have m52:=mg_of X G a52
 have F53:=aR (st:=cY) l53 c53 k53
 have b53:=F53.binds (ps:=["_law_rows_here", "_law_places", "_law_beginning_here", "_law_most"]) fun _ _ _ _ _ _ us hl=>match us,hl with | [_,_,_,_],_=>rfl
 have m53:=mg_of X G a53
 have F54:=aR (st:=dQ) l54 c54 k54
 have b54:=F54.binds (ps:=["_law_rows_here", "_law_place", "_law_box", "_law_beginning_here", "_law_most"]) fun _ _ _ _ _ _ us hl=>match us,hl with | [_,_,_,_,_],_=>rfl
 have m54:=mg_of X G a54
 have F55:=aR (st:=dI) l55 c55 k55
 have b55:=F55.binds (ps:=["_law_rows_here", "_law_beginning_here", "_law_most"]) fun _ _ _ _ _ _ us hl=>match us,hl with | [_,_,_],_=>rfl
 have m55:=mg_of X G a55
 have F56:=aR (st:=gD) l56 c56 k56
 have b56:=F56.binds (ps:=["_law_rows_here"]) fun _ _ _ _ _ _ us hl=>match us,hl with | [_],_=>rfl
 have m56:=mg_of X G a56
 have F57:=aR (st:=iV) l57 c57 k57
 have T:Txt K w.params mg:=⟨⟨gZ,mg_of X G aNOT_GOING_ON,fun H=>.inr ⟨_,_,_,lNOT_GOING_ON,rfl,rfl,C1,.cons ⟨_,rfl⟩ (.cons ⟨_,rfl⟩ (.cons ⟨_,rfl⟩ (.cons ⟨_,rfl⟩ (.nil))))⟩⟩,
  ⟨pN,mg_of X G aMOST_ROWS⟩,
  ⟨jM,mg_of X G aMOST_TARGETS⟩,
  ⟨fU,mg_of X G aBOUNDS,⟨e9,gR,lBOUNDS,kBOUNDS,oBOUNDS⟩,⟨pO,⟨e9,gR,lBOUNDS,kBOUNDS,oBOUNDS,_,eBOUNDS0,rfl⟩,fun H=>.inr ⟨_,_,_,lBOUNDS0,rfl,rfl,dG,.cons ⟨_,rfl⟩ (.cons ⟨_,rfl⟩ (.nil))⟩⟩,
   ⟨pP,⟨e9,gR,lBOUNDS,kBOUNDS,oBOUNDS,_,eBOUNDS1,rfl⟩,fun H=>.inr ⟨_,_,_,lBOUNDS1,rfl,rfl,dG,.cons ⟨_,rfl⟩ (.cons ⟨_,rfl⟩ (.nil))⟩⟩,
   ⟨pQ,⟨e9,gR,lBOUNDS,kBOUNDS,oBOUNDS,_,eBOUNDS2,rfl⟩,fun H=>.inr ⟨_,_,_,lBOUNDS2,rfl,rfl,dG,.cons ⟨_,rfl⟩ (.cons ⟨_,rfl⟩ (.nil))⟩⟩,
   ⟨pR,⟨e9,gR,lBOUNDS,kBOUNDS,oBOUNDS,_,eBOUNDS3,rfl⟩,fun H=>.inr ⟨_,_,_,lBOUNDS3,rfl,rfl,dG,.cons ⟨_,rfl⟩ (.cons ⟨_,rfl⟩ (.nil))⟩⟩,
   ⟨pS,⟨e9,gR,lBOUNDS,kBOUNDS,oBOUNDS,_,eBOUNDS4,rfl⟩,fun H=>.inr ⟨_,_,_,lBOUNDS4,rfl,rfl,dG,.cons ⟨_,rfl⟩ (.cons ⟨_,rfl⟩ (.nil))⟩⟩,
   ⟨pT,⟨e9,gR,lBOUNDS,kBOUNDS,oBOUNDS,_,eBOUNDS5,rfl⟩,fun H=>.inr ⟨_,_,_,lBOUNDS5,rfl,rfl,dG,.cons ⟨_,rfl⟩ (.cons ⟨_,rfl⟩ (.nil))⟩⟩⟩,
  ⟨cI,mg_of X G aPARTS,⟨ck,cT,lPARTS,kPARTS,oPARTS⟩,⟨tT,⟨ck,cT,lPARTS,kPARTS,oPARTS,_,ePARTS0,rfl⟩,fun H=>.inr ⟨_,_,_,lPARTS0,rfl,rfl,sv,.nil⟩⟩,
   ⟨tU,⟨ck,cT,lPARTS,kPARTS,oPARTS,_,ePARTS1,rfl⟩,fun H=>.inr ⟨_,_,_,lPARTS1,rfl,rfl,sv,.nil⟩⟩,
   ⟨tV,⟨ck,cT,lPARTS,kPARTS,oPARTS,_,ePARTS2,rfl⟩,fun H=>.inr ⟨_,_,_,lPARTS2,rfl,rfl,qw,.cons ⟨_,rfl⟩ (.nil)⟩⟩,
   ⟨tW,⟨ck,cT,lPARTS,kPARTS,oPARTS,_,ePARTS3,rfl⟩,fun H=>.inr ⟨_,_,_,lPARTS3,rfl,rfl,dG,.cons ⟨_,rfl⟩ (.cons ⟨_,rfl⟩ (.nil))⟩⟩,
   ⟨tY,⟨ck,cT,lPARTS,kPARTS,oPARTS,_,ePARTS4,rfl⟩,fun H=>.inr ⟨_,_,_,lPARTS4,rfl,rfl,dG,.cons ⟨_,rfl⟩ (.cons ⟨_,rfl⟩ (.nil))⟩⟩,
   ⟨tZ,⟨ck,cT,lPARTS,kPARTS,oPARTS,_,ePARTS5,rfl⟩,fun H=>.inr ⟨_,_,_,lPARTS5,rfl,rfl,dG,.cons ⟨_,rfl⟩ (.cons ⟨_,rfl⟩ (.nil))⟩⟩,
   ⟨t8,⟨ck,cT,lPARTS,kPARTS,oPARTS,_,ePARTS6,rfl⟩,fun H=>.inr ⟨_,_,_,lPARTS6,rfl,rfl,dG,.cons ⟨_,rfl⟩ (.cons ⟨_,rfl⟩ (.nil))⟩⟩,
   ⟨t9,⟨ck,cT,lPARTS,kPARTS,oPARTS,_,ePARTS7,rfl⟩,fun H=>.inr ⟨_,_,_,lPARTS7,rfl,rfl,dG,.cons ⟨_,rfl⟩ (.cons ⟨_,rfl⟩ (.nil))⟩⟩,
   ⟨uf,⟨ck,cT,lPARTS,kPARTS,oPARTS,_,ePARTS8,rfl⟩,fun H=>.inr ⟨_,_,_,lPARTS8,rfl,rfl,dG,.cons ⟨_,rfl⟩ (.cons ⟨_,rfl⟩ (.nil))⟩⟩,
   ⟨ug,⟨ck,cT,lPARTS,kPARTS,oPARTS,_,ePARTS9,rfl⟩,fun H=>.inr ⟨_,_,_,lPARTS9,rfl,rfl,dG,.cons ⟨_,rfl⟩ (.cons ⟨_,rfl⟩ (.nil))⟩⟩,
   ⟨pU,⟨ck,cT,lPARTS,kPARTS,oPARTS,_,ePARTS10,rfl⟩,fun H=>.inr ⟨_,_,_,lPARTS10,rfl,rfl,qw,.cons ⟨_,rfl⟩ (.nil)⟩⟩,
   ⟨pV,⟨ck,cT,lPARTS,kPARTS,oPARTS,_,ePARTS11,rfl⟩,fun H=>.inr ⟨_,_,_,lPARTS11,rfl,rfl,dG,.cons ⟨_,rfl⟩ (.cons ⟨_,rfl⟩ (.nil))⟩⟩,
   ⟨pW,⟨ck,cT,lPARTS,kPARTS,oPARTS,_,ePARTS12,rfl⟩,fun H=>.inr ⟨_,_,_,lPARTS12,rfl,rfl,dG,.cons ⟨_,rfl⟩ (.cons ⟨_,rfl⟩ (.nil))⟩⟩,
   ⟨pX,⟨ck,cT,lPARTS,kPARTS,oPARTS,_,ePARTS13,rfl⟩,fun H=>.inr ⟨_,_,_,lPARTS13,rfl,rfl,dG,.cons ⟨_,rfl⟩ (.cons ⟨_,rfl⟩ (.nil))⟩⟩,
   ⟨pY,⟨ck,cT,lPARTS,kPARTS,oPARTS,_,ePARTS14,rfl⟩,fun H=>.inr ⟨_,_,_,lPARTS14,rfl,rfl,dG,.cons ⟨_,rfl⟩ (.cons ⟨_,rfl⟩ (.nil))⟩⟩,
   ⟨pZ,⟨ck,cT,lPARTS,kPARTS,oPARTS,_,ePARTS15,rfl⟩,fun H=>.inr ⟨_,_,_,lPARTS15,rfl,rfl,km,.cons ⟨_,rfl⟩ (.cons ⟨_,rfl⟩ (.cons ⟨_,rfl⟩ (.nil)))⟩⟩,
   ⟨p9,⟨ck,cT,lPARTS,kPARTS,oPARTS,_,ePARTS16,rfl⟩,fun H=>.inr ⟨_,_,_,lPARTS16,rfl,rfl,km,.cons ⟨_,rfl⟩ (.cons ⟨_,rfl⟩ (.cons ⟨_,rfl⟩ (.nil)))⟩⟩,
   ⟨qb,⟨ck,cT,lPARTS,kPARTS,oPARTS,_,ePARTS17,rfl⟩,fun H=>.inr ⟨_,_,_,lPARTS17,rfl,rfl,dG,.cons ⟨_,rfl⟩ (.cons ⟨_,rfl⟩ (.nil))⟩⟩,
   ⟨qc,⟨ck,cT,lPARTS,kPARTS,oPARTS,_,ePARTS18,rfl⟩,fun H=>.inr ⟨_,_,_,lPARTS18,rfl,rfl,dG,.cons ⟨_,rfl⟩ (.cons ⟨_,rfl⟩ (.nil))⟩⟩,
   ⟨qd,⟨ck,cT,lPARTS,kPARTS,oPARTS,_,ePARTS19,rfl⟩,fun H=>.inr ⟨_,_,_,lPARTS19,rfl,rfl,dG,.cons ⟨_,rfl⟩ (.cons ⟨_,rfl⟩ (.nil))⟩⟩⟩,
  ⟨kX,mg_of X G aMOST_WISHES⟩,
  ⟨iH,mg_of X G aPLACES,⟨iw,kZ,lPLACES,kPLACES,oPLACES⟩,⟨iw,kZ,lPLACES,kPLACES,oPLACES,_,ePLACES0,⟨_,rfl⟩⟩,
   ⟨iw,kZ,lPLACES,kPLACES,oPLACES,_,ePLACES1,⟨_,rfl⟩⟩,
   ⟨iw,kZ,lPLACES,kPLACES,oPLACES,_,ePLACES2,⟨_,rfl⟩⟩⟩,
  ⟨jY,mg_of X G aWHATS,⟨jz,qe,lWHATS,kWHATS,oWHATS⟩,⟨uh,⟨jz,qe,lWHATS,kWHATS,oWHATS,_,eWHATS0,rfl⟩,fun H=>.inr ⟨_,_,_,lWHATS0,rfl,rfl,dG,.cons ⟨_,rfl⟩ (.cons ⟨_,rfl⟩ (.nil))⟩⟩,
   ⟨ui,⟨jz,qe,lWHATS,kWHATS,oWHATS,_,eWHATS1,rfl⟩,fun H=>.inr ⟨_,_,_,lWHATS1,rfl,rfl,qw,.cons ⟨_,rfl⟩ (.nil)⟩⟩,
   ⟨uj,⟨jz,qe,lWHATS,kWHATS,oWHATS,_,eWHATS2,rfl⟩,fun H=>.inr ⟨_,_,_,lWHATS2,rfl,rfl,dG,.cons ⟨_,rfl⟩ (.cons ⟨_,rfl⟩ (.nil))⟩⟩⟩,
  mg_none_of X G z_len,
  mg_none_of X G z_list,
  mg_none_of X G z_tuple,
  mg_none_of X G z_int,
  mg_none_of X G z_bool,
  mg_none_of X G z_str,
  mg_none_of X G z_dict,
  mg_none_of X G z_isinstance,
  mg_none_of X G z_enumerate,
  mg_none_of X G z_range,
  mg_none_of X G z_sum,
  mg_none_of X G z_all,
  mg_none_of X G z_zip,
  mg_none_of X G z_sorted,
  mg_none_of X G z_set⟩
 refine ⟨fnOf "law" "law" (aF iV) (aD iV) (aj iV) .none QB QC QD PD LS QE,fun s v=>.of_eq rfl,fun base _ _=>?_⟩
 have FM0:=aR (st:=rA) lg0 cg0 kg0
 have bm0:=FM0.binds (ps:=["self", "rows", "boxes", "cells", "bells"]) fun _ _ _ _ _ _ us hl=>match us,hl with | [_,_,_,_,_],_=>rfl
 have Rn:=aR (st:=rB) lg1 cg1 kg1
 have bm1:=Rn.binds (ps:=["self"]) fun _ _ _ _ _ _ us hl=>match us,hl with | [_],_=>rfl
 have FM2:=aR (st:=jv) lg2 cg2 kg2
 have bm2:=FM2.binds (ps:=["self"]) fun _ _ _ _ _ _ us hl=>match us,hl with | [_],_=>rfl
 have FM3:=aR (st:=lR) lg3 cg3 kg3
 have bm3:=FM3.binds (ps:=["self"]) fun _ _ _ _ _ _ us hl=>match us,hl with | [_],_=>rfl
 have FM4:=aR (st:=rC) lg4 cg4 kg4
 have bm4:=FM4.binds (ps:=["self"]) fun _ _ _ _ _ _ us hl=>match us,hl with | [_],_=>rfl
 have MT:j3 K mg C:=⟨⟨pg,hd,po,sa⟩,n_program,n_in_boxes,n_in_cells,n_in_asides,n_rung,n_told_numbers,n_seen_numbers,n_pile,n_marks_done,n_here,n_how_ended⟩
 have GE:=Kz (P:=l.prog) (w:=w) (base:=base) F0 MT
 have GCa:=y9 (P:=l.prog) (w:=w) (base:=base) F18 MT
 have DD:IV l.prog w K mg base C pE:=⟨⟨f1,_,⟨qm,nE,lE,kE,oE,_,e_stop,rfl⟩,GJ F1 MT GE F0.kp b0 m0,b1,F1.kp⟩,⟨f2,_,⟨qm,nE,lE,kE,oE,_,e_halt,rfl⟩,GU F2 MT GE F0.kp b0 m0,b2,F2.kp⟩,⟨f3,_,⟨qm,nE,lE,kE,oE,_,e_back,rfl⟩,GX F3 MT GE F0.kp b0 m0 T.len,b3,F3.kp⟩,⟨f4,_,⟨qm,nE,lE,kE,oE,_,e_set,rfl⟩,(KC (P:=l.prog) (base:=base) F4 MT).mono (by decide),b4,F4.kp⟩,⟨f5,_,⟨qm,nE,lE,kE,oE,_,e_more,rfl⟩,(Ge (P:=l.prog) (base:=base) F5 MT).mono (by decide),b5,F5.kp⟩,⟨f6,_,⟨qm,nE,lE,kE,oE,_,e_copy,rfl⟩,(Gg (P:=l.prog) (base:=base) F6 MT).mono (by decide),b6,F6.kp⟩,⟨f7,_,⟨qm,nE,lE,kE,oE,_,e_add,rfl⟩,(KG (P:=l.prog) (base:=base) F7 MT).mono (by decide),b7,F7.kp⟩,⟨f8,_,⟨qm,nE,lE,kE,oE,_,e_less,rfl⟩,(Gi (P:=l.prog) (base:=base) F8 MT).mono (by decide),b8,F8.kp⟩,⟨f9,_,⟨qm,nE,lE,kE,oE,_,e_load,rfl⟩,(Gk (P:=l.prog) (base:=base) F9 MT).mono (by decide),b9,F9.kp⟩,⟨Pp,_,⟨qm,nE,lE,kE,oE,_,e_keep,rfl⟩,(Gq (P:=l.prog) (base:=base) F10 MT).mono (by decide),b10,F10.kp⟩,⟨f11,_,⟨qm,nE,lE,kE,oE,_,e_tell,rfl⟩,(Gu (P:=l.prog) (base:=base) F11 MT).mono (by decide),b11,F11.kp⟩,⟨Pq,_,⟨qm,nE,lE,kE,oE,_,e_see,rfl⟩,(KN (P:=l.prog) (base:=base) F12 MT).mono (by decide),b12,F12.kp⟩,⟨Pr,_,⟨qm,nE,lE,kE,oE,_,e_put,rfl⟩,(KJ (P:=l.prog) (base:=base) F13 MT).mono (by decide),b13,F13.kp⟩,⟨Pt,_,⟨qm,nE,lE,kE,oE,_,e_take,rfl⟩,(Gn (P:=l.prog) (base:=base) F14 MT).mono (by decide),b14,F14.kp⟩,⟨Pu,_,⟨qm,nE,lE,kE,oE,_,e_jump,rfl⟩,(Gw (P:=l.prog) (base:=base) F15 MT).mono (by decide),b15,F15.kp⟩,⟨Pw,_,⟨qm,nE,lE,kE,oE,_,e_zero,rfl⟩,(Gy (P:=l.prog) (base:=base) F16 MT).mono (by decide),b16,F16.kp⟩,⟨Px,_,⟨qm,nE,lE,kE,oE,_,e_below,rfl⟩,(Dr (P:=l.prog) (base:=base) F17 MT).mono (by decide),b17,F17.kp⟩,⟨Py,_,⟨qm,nE,lE,kE,oE,_,e_call,rfl⟩,(y9 (P:=l.prog) (base:=base) F18 MT).mono (by decide),b18,F18.kp⟩,⟨Pz,_,⟨qm,nE,lE,kE,oE,_,e_mark,rfl⟩,Ha F19 MT GCa F18.kp b18 m18,b19,F19.kp⟩,⟨PB,_,⟨qm,nE,lE,kE,oE,_,e_table,rfl⟩,(Ds (P:=l.prog) (base:=base) F20 MT T.len).mono (by decide),b20,F20.kp⟩⟩
 have mV:=FV (P:=l.prog) (w:=w) (base:=base) F46 T
 have i9:=Av (P:=l.prog) (w:=w) (base:=base) F47 T
 have mX:=Kq (P:=l.prog) (w:=w) (base:=base) F49 T
 have vF:=Kr (P:=l.prog) (w:=w) (base:=base) F48 T mX F49.kp b49 m49
 have uk:=FW (P:=l.prog) (w:=w) (base:=base) F50 T
 have lg:=KU (P:=l.prog) (w:=w) (base:=base) F52 T i9 F47.kp b47 m47
 have iJ:=ND (P:=l.prog) (w:=w) (base:=base) F37 T
 have mZ:=NH (P:=l.prog) (w:=w) (base:=base) F38 T
 have vG:=N9 (P:=l.prog) (w:=w) (base:=base) F41 T
 have um:=Oc (P:=l.prog) (w:=w) (base:=base) F42 T vG F41.kp b41 m41
 have lW:=Og (P:=l.prog) (w:=w) (base:=base) F43 T mZ F38.kp b38 m38 iJ F37.kp b37 m37
 have BE:=Oi (P:=l.prog) (w:=w) (base:=base) F44 T MT ⟨ag1,ig1,kg1⟩ (tf Rn T MT) bm1 ⟨ag2,ig2,kg2⟩ (rD FM2 T MT) bm2 ⟨ag3,ig3,kg3⟩ (vk FM3 T MT) bm3 ⟨ag4,ig4,kg4⟩ (zg FM4 MT (mg_of X G aE) DD) bm4 lW F43.kp b43 m43
 have qf:=wX (P:=l.prog) (w:=w) (base:=base) F21 T
 have jN:=qB (P:=l.prog) (w:=w) (base:=base) F22 T
 have qg:=wZ (P:=l.prog) (w:=w) (base:=base) F23 T qf F21.kp b21 m21 jN F22.kp b22 m22
 have mq:=vp (P:=l.prog) (w:=w) (base:=base) F24 T
 have jZ:=w6 (P:=l.prog) (w:=w) (base:=base) F29 T
 have iK:=mI (P:=l.prog) (w:=w) (base:=base) F25 T mq F24.kp b24 m24
 have qG:=qC (P:=l.prog) (w:=w) (base:=base) F26 T iK F25.kp b25 m25
 have yi:=w8 (P:=l.prog) (w:=w) (base:=base) F27 T iK F25.kp b25 m25 qG F26.kp b26 m26
 have lj:=tG (P:=l.prog) (w:=w) (base:=base) F28 T yi F27.kp b27 m27
 have BF:=AK (P:=l.prog) (w:=w) (base:=base) F30 T jZ F29.kp b29 m29 lj F28.kp b28 m28
 have ng:=mJ (P:=l.prog) (w:=w) (base:=base) F31 T jN F22.kp b22 m22
 have qH:=qD (P:=l.prog) (w:=w) (base:=base) F32 T BF F30.kp b30 m30 ng F31.kp b31 m31 qf F21.kp b21 m21
 have vH:=vq (P:=l.prog) (w:=w) (base:=base) F33 T jZ F29.kp b29 m29 mq F24.kp b24 m24 qg F23.kp b23 m23
 have yj:=xc (P:=l.prog) (w:=w) (base:=base) F34 T jZ F29.kp b29 m29 lj F28.kp b28 m28
 have yk:=xg (P:=l.prog) (w:=w) (base:=base) F35 T vH F33.kp b33 m33 yj F34.kp b34 m34
 have nh:=mQ (P:=l.prog) (w:=w) (base:=base) F36 T yk F35.kp b35 m35
 have jE:=Oo (P:=l.prog) (w:=w) (base:=base) F39 T
 have j0:=Ot (P:=l.prog) (w:=w) (base:=base) F40 T jE F39.kp b39 m39
 have g6:=Ou (P:=l.prog) (w:=w) (base:=base) F45 T qH F32.kp b32 m32 nh F36.kp b36 m36 j0 F40.kp b40 m40 iJ F37.kp b37 m37 um F42.kp b42 m42 BE F44.kp b44 m44 MT (mg_of X G aC) ⟨mkc,ag0,ig0,kc⟩ (zf FM0 T MT) bm0 ⟨ag1,ig1,kg1⟩ (tf Rn T MT) bm1 ⟨ag3,ig3,kg3⟩ (vk FM3 T MT) bm3
 have uo:=vD (P:=l.prog) (w:=w) (base:=base) F51 T i9 F47.kp b47 m47 vF F48.kp b48 m48 uk F50.kp b50 m50
 have vI:=LG (P:=l.prog) (w:=w) (base:=base) F56 T
 have ni:=OI (P:=l.prog) (w:=w) (base:=base) F55 T MT (mg_of X G aC) ⟨mkc,ag0,ig0,kc⟩ (zf FM0 T MT) bm0 ⟨ag1,ig1,kg1⟩ (tf Rn T MT) bm1 ⟨ag2,ig2,kg2⟩ (rD FM2 T MT) bm2 ⟨ag4,ig4,kg4⟩ (zg FM4 MT (mg_of X G aE) DD) bm4
 have qh:=OS (P:=l.prog) (w:=w) (base:=base) F53 T g6 F45.kp b45 m45
 have qI:=OX (P:=l.prog) (w:=w) (base:=base) F54 T g6 F45.kp b45 m45
 exact LO F57 T mV F46.kp b46 m46 uo F51.kp b51 m51 vI F56.kp b56 m56 lg F52.kp b52 m52 g6 F45.kp b45 m45 ni F55.kp b55 m55 qg F23.kp b23 m23 qh F53.kp b53 m53 qI F54.kp b54 m54
theorem walk {l:OpenLaw} {q:Program} {loose:List Str} {XP:(Str→Option Value)→Heap→Prop} {YP:World→Heap→Prop} {d:DefRec} {K:Params→Frag} (hn:l.most=some 63) (hdf:d.params.defaults=[])
  (hY:∀ (w:World) (h:Heap),YP w h→(K w.params).In h)
  (F:∀ (w:World) (mg:Str→Option Value) (fa:Addr) (h:Heap),(K w.params).In h→h.Ns mainGlobals mg→mg d.name=some (.ref fa) →
   ∃ fd:FuncData,(∀ (s:Shared) (u:Value),BindsTo s fd ⟨[u],[]⟩ [("_law_script",u)])∧∀ base:Heap,(K w.params).In base→base.Ns mainGlobals mg→aM l.prog w (K w.params) mg base bw 11 fa fd ["_law_script"] (zN (K:=K w.params))) :
  WalkO q loose XP YP l.row.toRowW d [] (fun f vs=>PySem.call f vs) :=
 L2.yC (n:=63) (k:=11) (x := "_law_script") (CX:=fun _=>bw) (sp:=fun w=>zN (K:=K w.params)) hn (by decide) hdf ⟨rfl,by decide,by decide⟩ hY F (fun _ _ a ns hl _ hS=>⟨a,ns,rfl,hS,hl,fun _=>rfl⟩) fun _ _ _ _ _ z=>z
end My
open PySem PySem.W PyProof.Rows
set_option maxRecDepth 100000 in
set_option maxHeartbeats 0 in
theorem PySem.Challenge.cw_widenrows_k54_whole_places_add_up_holds : PySem.Challenge.rw_widenrows_k54_whole_places_add_up.Holds := by
 w_on; o_law; k_head; (case hw=>w_witness2)
 k_fill
 refine My.walk (l:=PySem.Challenge.rw_widenrows_k54_whole_places_add_up) rfl rfl (fun w h Y=>kIn_of Y) ?F
 case F =>
  intro w mg fa h KX G hmg
  refine' My.all_mk KX G hmg ?a0 ?l0 ?c0 ?k0 ?a1 ?l1 ?c1 ?k1 ?a2 ?l2 ?c2 ?k2 ?a3 ?l3 ?c3 ?k3 ?a4 ?l4 ?c4 ?k4 ?a5 ?l5 ?c5 ?k5 ?a6 ?l6 ?c6 ?k6 ?a7 ?l7 ?c7 ?k7 ?a8 ?l8 ?c8 ?k8 ?a9 ?l9 ?c9 ?k9 ?a10 ?l10 ?c10 ?k10 ?a11 ?l11 ?c11 ?k11 ?a12 ?l12 ?c12 ?k12 ?a13 ?l13 ?c13 ?k13 ?a14 ?l14 ?c14 ?k14 ?a15 ?l15 ?c15 ?k15 ?a16 ?l16 ?c16 ?k16 ?a17 ?l17 ?c17 ?k17 ?a18 ?l18 ?c18 ?k18 ?a19 ?l19 ?c19 ?k19 ?a20 ?l20 ?c20 ?k20 ?a21 ?l21 ?c21 ?k21 ?a22 ?l22 ?c22 ?k22 ?a23 ?l23 ?c23 ?k23 ?a24 ?l24 ?c24 ?k24 ?a25 ?l25 ?c25 ?k25 ?a26 ?l26 ?c26 ?k26 ?a27 ?l27 ?c27 ?k27 ?a28 ?l28 ?c28 ?k28 ?a29 ?l29 ?c29 ?k29 ?a30 ?l30 ?c30 ?k30 ?a31 ?l31 ?c31 ?k31 ?a32 ?l32 ?c32 ?k32 ?a33 ?l33 ?c33 ?k33 ?a34 ?l34 ?c34 ?k34 ?a35 ?l35 ?c35 ?k35 ?a36 ?l36 ?c36 ?k36 ?a37 ?l37 ?c37 ?k37 ?a38 ?l38 ?c38 ?k38 ?a39 ?l39 ?c39 ?k39 ?a40 ?l40 ?c40 ?k40 ?a41 ?l41 ?c41 ?k41 ?a42 ?l42 ?c42 ?k42 ?a43 ?l43 ?c43 ?k43 ?a44 ?l44 ?c44 ?k44 ?a45 ?l45 ?c45 ?k45 ?a46 ?l46 ?c46 ?k46 ?a47 ?l47 ?c47 ?k47 ?a48 ?l48 ?c48 ?k48 ?a49 ?l49 ?c49 ?k49 ?a50 ?l50 ?c50 ?k50 ?a51 ?l51 ?c51 ?k51 ?a52 ?l52 ?c52 ?k52 ?a53 ?l53 ?c53 ?k53 ?a54 ?l54 ?c54 ?k54 ?a55 ?l55 ?c55 ?k55 ?a56 ?l56 ?c56 ?k56 ?a57 ?l57 ?c57 ?k57 ?z_len ?z_list ?z_tuple ?z_int ?z_bool ?z_str ?z_dict ?z_isinstance ?z_enumerate ?z_range ?z_sum ?z_all ?z_zip ?z_sorted ?z_set ?aNOT_GOING_ON ?lNOT_GOING_ON ?aMOST_ROWS ?aMOST_TARGETS ?aBOUNDS ?lBOUNDS ?kBOUNDS ?oBOUNDS ?eBOUNDS0 ?lBOUNDS0 ?eBOUNDS1 ?lBOUNDS1 ?eBOUNDS2 ?lBOUNDS2 ?eBOUNDS3 ?lBOUNDS3 ?eBOUNDS4 ?lBOUNDS4 ?eBOUNDS5 ?lBOUNDS5 ?aPARTS ?lPARTS ?kPARTS ?oPARTS ?ePARTS0 ?lPARTS0 ?ePARTS1 ?lPARTS1 ?ePARTS2 ?lPARTS2 ?ePARTS3 ?lPARTS3 ?ePARTS4 ?lPARTS4 ?ePARTS5 ?lPARTS5 ?ePARTS6 ?lPARTS6 ?ePARTS7 ?lPARTS7 ?ePARTS8 ?lPARTS8 ?ePARTS9 ?lPARTS9 ?ePARTS10 ?lPARTS10 ?ePARTS11 ?lPARTS11 ?ePARTS12 ?lPARTS12 ?ePARTS13 ?lPARTS13 ?ePARTS14 ?lPARTS14 ?ePARTS15 ?lPARTS15 ?ePARTS16 ?lPARTS16 ?ePARTS17 ?lPARTS17 ?ePARTS18 ?lPARTS18 ?ePARTS19 ?lPARTS19 ?aMOST_WISHES ?aPLACES ?lPLACES ?kPLACES ?oPLACES ?ePLACES0 ?ePLACES1 ?ePLACES2 ?aWHATS ?lWHATS ?kWHATS ?oWHATS ?eWHATS0 ?lWHATS0 ?eWHATS1 ?lWHATS1 ?eWHATS2 ?lWHATS2 ?aC ?ag0 ?ig0 ?lg0 ?cg0 ?kg0 ?ag1 ?ig1 ?lg1 ?cg1 ?kg1 ?ag2 ?ig2 ?lg2 ?cg2 ?kg2 ?ag3 ?ig3 ?lg3 ?cg3 ?kg3 ?ag4 ?ig4 ?lg4 ?cg4 ?kg4 ?pg ?hd ?po ?sa ?mkc ?kc ?n_program ?n_in_boxes ?n_in_cells ?n_in_asides ?n_rung ?n_told_numbers ?n_seen_numbers ?n_pile ?n_marks_done ?n_here ?n_how_ended ?aE ?lE ?kE ?oE ?e_stop ?e_halt ?e_back ?e_set ?e_more ?e_copy ?e_add ?e_less ?e_load ?e_keep ?e_tell ?e_see ?e_put ?e_take ?e_jump ?e_zero ?e_below ?e_call ?e_mark ?e_table
  (case a0=>k_is)
  (case l0=>k_is)
  (case c0=>k_is)
  (case k0=>k_is)
  (case a1=>k_is)
  (case l1=>k_is)
  (case c1=>k_is)
  (case k1=>k_is)
  (case a2=>k_is)
  (case l2=>k_is)
  (case c2=>k_is)
  (case k2=>k_is)
  (case a3=>k_is)
  (case l3=>k_is)
  (case c3=>k_is)
  (case k3=>k_is)
  (case a4=>k_is)
  (case l4=>k_is)
  (case c4=>k_is)
  (case k4=>k_is)
  (case a5=>k_is)
  (case l5=>k_is)
  (case c5=>k_is)
  (case k5=>k_is)
  (case a6=>k_is)
  (case l6=>k_is)
  (case c6=>k_is)
  (case k6=>k_is)
  (case a7=>k_is)
  (case l7=>k_is)
  (case c7=>k_is)
  (case k7=>k_is)
  (case a8=>k_is)
  (case l8=>k_is)
  (case c8=>k_is)
  (case k8=>k_is)
  (case a9=>k_is)
  (case l9=>k_is)
  (case c9=>k_is)
  (case k9=>k_is)
  (case a10=>k_is)
  (case l10=>k_is)
  (case c10=>k_is)
  (case k10=>k_is)
  (case a11=>k_is)
  (case l11=>k_is)
  (case c11=>k_is)
  (case k11=>k_is)
  (case a12=>k_is)
  (case l12=>k_is)
  (case c12=>k_is)
  (case k12=>k_is)
  (case a13=>k_is)
  (case l13=>k_is)
  (case c13=>k_is)
  (case k13=>k_is)
  (case a14=>k_is)
  (case l14=>k_is)
  (case c14=>k_is)
  (case k14=>k_is)
  (case a15=>k_is)
  (case l15=>k_is)
  (case c15=>k_is)
  (case k15=>k_is)
  (case a16=>k_is)
  (case l16=>k_is)
  (case c16=>k_is)
  (case k16=>k_is)
  (case a17=>k_is)
  (case l17=>k_is)
  (case c17=>k_is)
  (case k17=>k_is)
  (case a18=>k_is)
  (case l18=>k_is)
  (case c18=>k_is)
  (case k18=>k_is)
  (case a19=>k_is)
  (case l19=>k_is)
  (case c19=>k_is)
  (case k19=>k_is)
  (case a20=>k_is)
  (case l20=>k_is)
  (case c20=>k_is)
  (case k20=>k_is)
  (case a21=>k_is)
  (case l21=>k_is)
  (case c21=>k_is)
  (case k21=>k_is)
  (case a22=>k_is)
  (case l22=>k_is)
  (case c22=>k_is)
  (case k22=>k_is)
  (case a23=>k_is)
  (case l23=>k_is)
  (case c23=>k_is)
  (case k23=>k_is)
  (case a24=>k_is)
  (case l24=>k_is)
  (case c24=>k_is)
  (case k24=>k_is)
  (case a25=>k_is)
  (case l25=>k_is)
  (case c25=>k_is)
  (case k25=>k_is)
  (case a26=>k_is)
  (case l26=>k_is)
  (case c26=>k_is)
  (case k26=>k_is)
  (case a27=>k_is)
  (case l27=>k_is)
  (case c27=>k_is)
  (case k27=>k_is)
  (case a28=>k_is)
  (case l28=>k_is)
  (case c28=>k_is)
  (case k28=>k_is)
  (case a29=>k_is)
  (case l29=>k_is)
  (case c29=>k_is)
  (case k29=>k_is)
  (case a30=>k_is)
  (case l30=>k_is)
  (case c30=>k_is)
  (case k30=>k_is)
  (case a31=>k_is)
  (case l31=>k_is)
  (case c31=>k_is)
  (case k31=>k_is)
  (case a32=>k_is)
  (case l32=>k_is)
  (case c32=>k_is)
  (case k32=>k_is)
  (case a33=>k_is)
  (case l33=>k_is)
  (case c33=>k_is)
  (case k33=>k_is)
  (case a34=>k_is)
  (case l34=>k_is)
  (case c34=>k_is)
  (case k34=>k_is)
  (case a35=>k_is)
  (case l35=>k_is)
  (case c35=>k_is)
  (case k35=>k_is)
  (case a36=>k_is)
  (case l36=>k_is)
  (case c36=>k_is)
  (case k36=>k_is)
  (case a37=>k_is)
  (case l37=>k_is)
  (case c37=>k_is)
  (case k37=>k_is)
  (case a38=>k_is)
  (case l38=>k_is)
  (case c38=>k_is)
  (case k38=>k_is)
  (case a39=>k_is)
  (case l39=>k_is)
  (case c39=>k_is)
  (case k39=>k_is)
  (case a40=>k_is)
  (case l40=>k_is)
  (case c40=>k_is)
  (case k40=>k_is)
  (case a41=>k_is)
  (case l41=>k_is)
  (case c41=>k_is)
  (case k41=>k_is)
  (case a42=>k_is)
  (case l42=>k_is)
  (case c42=>k_is)
  (case k42=>k_is)
  (case a43=>k_is)
  (case l43=>k_is)
  (case c43=>k_is)
  (case k43=>k_is)
  (case a44=>k_is)
  (case l44=>k_is)
  (case c44=>k_is)
  (case k44=>k_is)
  (case a45=>k_is)
  (case l45=>k_is)
  (case c45=>k_is)
  (case k45=>k_is)
  (case a46=>k_is)
  (case l46=>k_is)
  (case c46=>k_is)
  (case k46=>k_is)
  (case a47=>k_is)
  (case l47=>k_is)
  (case c47=>k_is)
  (case k47=>k_is)
  (case a48=>k_is)
  (case l48=>k_is)
  (case c48=>k_is)
  (case k48=>k_is)
  (case a49=>k_is)
  (case l49=>k_is)
  (case c49=>k_is)
  (case k49=>k_is)
  (case a50=>k_is)
  (case l50=>k_is)
  (case c50=>k_is)
  (case k50=>k_is)
  (case a51=>k_is)
  (case l51=>k_is)
  (case c51=>k_is)
  (case k51=>k_is)
  (case a52=>k_is)
  (case l52=>k_is)
  (case c52=>k_is)
  (case k52=>k_is)
  (case a53=>k_is)
  (case l53=>k_is)
  (case c53=>k_is)
  (case k53=>k_is)
  (case a54=>k_is)
  (case l54=>k_is)
  (case c54=>k_is)
  (case k54=>k_is)
  (case a55=>k_is)
  (case l55=>k_is)
  (case c55=>k_is)
  (case k55=>k_is)
  (case a56=>k_is)
  (case l56=>k_is)
  (case c56=>k_is)
  (case k56=>k_is)
  (case a57=>k_is)
  (case l57=>k_is)
  (case c57=>k_is)
  (case k57=>k_is)
  (case z_len=>k_is)
  (case z_list=>k_is)
  (case z_tuple=>k_is)
  (case z_int=>k_is)
  (case z_bool=>k_is)
  (case z_str=>k_is)
  (case z_dict=>k_is)
  (case z_isinstance=>k_is)
  (case z_enumerate=>k_is)
  (case z_range=>k_is)
  (case z_sum=>k_is)
  (case z_all=>k_is)
  (case z_zip=>k_is)
  (case z_sorted=>k_is)
  (case z_set=>k_is)
  (case aNOT_GOING_ON=>k_is)
  (case lNOT_GOING_ON=>k_is)
  (case aMOST_ROWS=>k_is)
  (case aMOST_TARGETS=>k_is)
  (case aBOUNDS=>k_is)
  (case lBOUNDS=>k_is)
  (case kBOUNDS=>k_keys)
  (case oBOUNDS=>first | exact rfl | decide | k_is)
  (case eBOUNDS0=>k_is)
  (case lBOUNDS0=>k_is)
  (case eBOUNDS1=>k_is)
  (case lBOUNDS1=>k_is)
  (case eBOUNDS2=>k_is)
  (case lBOUNDS2=>k_is)
  (case eBOUNDS3=>k_is)
  (case lBOUNDS3=>k_is)
  (case eBOUNDS4=>k_is)
  (case lBOUNDS4=>k_is)
  (case eBOUNDS5=>k_is)
  (case lBOUNDS5=>k_is)
  (case aPARTS=>k_is)
  (case lPARTS=>k_is)
  (case kPARTS=>k_keys)
  (case oPARTS=>first | exact rfl | decide | k_is)
  (case ePARTS0=>k_is)
  (case lPARTS0=>k_is)
  (case ePARTS1=>k_is)
  (case lPARTS1=>k_is)
  (case ePARTS2=>k_is)
  (case lPARTS2=>k_is)
  (case ePARTS3=>k_is)
  (case lPARTS3=>k_is)
  (case ePARTS4=>k_is)
  (case lPARTS4=>k_is)
  (case ePARTS5=>k_is)
  (case lPARTS5=>k_is)
  (case ePARTS6=>k_is)
  (case lPARTS6=>k_is)
  (case ePARTS7=>k_is)
  (case lPARTS7=>k_is)
  (case ePARTS8=>k_is)
  (case lPARTS8=>k_is)
  (case ePARTS9=>k_is)
  (case lPARTS9=>k_is)
  (case ePARTS10=>k_is)
  (case lPARTS10=>k_is)
  (case ePARTS11=>k_is)
  (case lPARTS11=>k_is)
  (case ePARTS12=>k_is)
  (case lPARTS12=>k_is)
  (case ePARTS13=>k_is)
  (case lPARTS13=>k_is)
  (case ePARTS14=>k_is)
  (case lPARTS14=>k_is)
  (case ePARTS15=>k_is)
  (case lPARTS15=>k_is)
  (case ePARTS16=>k_is)
  (case lPARTS16=>k_is)
  (case ePARTS17=>k_is)
  (case lPARTS17=>k_is)
  (case ePARTS18=>k_is)
  (case lPARTS18=>k_is)
  (case ePARTS19=>k_is)
  (case lPARTS19=>k_is)
  (case aMOST_WISHES=>k_is)
  (case aPLACES=>k_is)
  (case lPLACES=>k_is)
  (case kPLACES=>k_keys)
  (case oPLACES=>first | exact rfl | decide | k_is)
  (case ePLACES0=>k_is)
  (case ePLACES1=>k_is)
  (case ePLACES2=>k_is)
  (case aWHATS=>k_is)
  (case lWHATS=>k_is)
  (case kWHATS=>k_keys)
  (case oWHATS=>first | exact rfl | decide | k_is)
  (case eWHATS0=>k_is)
  (case lWHATS0=>k_is)
  (case eWHATS1=>k_is)
  (case lWHATS1=>k_is)
  (case eWHATS2=>k_is)
  (case lWHATS2=>k_is)
  (case aC=>k_is)
  (case ag0=>k_is)
  (case ig0=>k_is)
  (case lg0=>k_is)
  (case cg0=>k_is)
  (case kg0=>k_is)
  (case ag1=>k_is)
  (case ig1=>k_is)
  (case lg1=>k_is)
  (case cg1=>k_is)
  (case kg1=>k_is)
  (case ag2=>k_is)
  (case ig2=>k_is)
  (case lg2=>k_is)
  (case cg2=>k_is)
  (case kg2=>k_is)
  (case ag3=>k_is)
  (case ig3=>k_is)
  (case lg3=>k_is)
  (case cg3=>k_is)
  (case kg3=>k_is)
  (case ag4=>k_is)
  (case ig4=>k_is)
  (case lg4=>k_is)
  (case cg4=>k_is)
  (case kg4=>k_is)
  (case pg=>k_is)
  (case hd=>k_is)
  (case po=>k_is)
  (case sa=>k_is)
  (case mkc=>k_is)
  (case kc=>k_is)
  (case n_program=>k_is)
  (case n_in_boxes=>k_is)
  (case n_in_cells=>k_is)
  (case n_in_asides=>k_is)
  (case n_rung=>k_is)
  (case n_told_numbers=>k_is)
  (case n_seen_numbers=>k_is)
  (case n_pile=>k_is)
  (case n_marks_done=>k_is)
  (case n_here=>k_is)
  (case n_how_ended=>k_is)
  (case aE=>k_is)
  (case lE=>k_is)
  (case kE=>k_keys)
  (case oE=>first | exact rfl | decide | k_is)
  (case e_stop=>k_is)
  (case e_halt=>k_is)
  (case e_back=>k_is)
  (case e_set=>k_is)
  (case e_more=>k_is)
  (case e_copy=>k_is)
  (case e_add=>k_is)
  (case e_less=>k_is)
  (case e_load=>k_is)
  (case e_keep=>k_is)
  (case e_tell=>k_is)
  (case e_see=>k_is)
  (case e_put=>k_is)
  (case e_take=>k_is)
  (case e_jump=>k_is)
  (case e_zero=>k_is)
  (case e_below=>k_is)
  (case e_call=>k_is)
  (case e_mark=>k_is)
  (case e_table=>k_is)
#print axioms PySem.Challenge.cw_widenrows_k54_whole_places_add_up_holds
