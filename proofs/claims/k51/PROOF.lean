import PyProof.Rows.All
import Wide.All
import OpenK.AllK
import Wide.FinOn
import Lean
import PyProof.EqAt
import PyProof.EqKinds
import PyProof.TupleCall
import PyProof.NeKinds
import PyProof.ListRange
import KE.KDictSum
import Wide.Seal
import PyProof.EnumIter
import PyProof.EnumFor
import PyProof.EnumMake
import PyProof.EnumStmt
import PyProof.ConsumeWalk
import KE.KPairComp
import PyProof.DictItemsLoops
import KE.KEqDict
import PyProof.AttrMissSeq
import PyProof.CollectWalk
import OpenK.KTop
import PyProof.TupleOps
import PyProof.ListMulRoad
import PyProof.FactsAll.tuple_2
import PyProof.ZipIter
import PyProof.TupleIter
import PyProof.WalksMore
import KE.KTurns
import PyProof.StationsW
import PyProof.Rows.OwnQ
import OpenK.KOwn
import KE.KTryMore
import PyProof.NsDelKeeps
import PyProof.ExcArgsOwn
import PyProof.ExcAttrAll.ValueError
import PyProof.InstStoreFacts
import PyProof.ExcBaseAll.ValueError
import PyProof.Rows.FStr
import OpenK.KCls
import PyProof.StrBlock2
import PyProof.Rows.SortWalk
import KE.KFind
import PyProof.Rows.TupAdd
import PyProof.FactsAll.subtypes_4
import KE.KIntText
import PyProof.Rows.SortStr
import PySem.Challenge.RW_widenrows_k51_the_plain_reading
set_option Elab.async false
set_option linter.all false
set_option maxRecDepth 100000
open List renaming getElem?_eq_getElem → aa, getElem?_map → ab, getElem?_eq_some_iff → ac, mem_of_getElem? → ad, size_toArray → ag, length_append → al, getElem?_append_left → am, getElem?_append_right → ar, mem_singleton → av, getElem_mem → ba, length_cons → bo, map_cons → br, nodup_cons → ca
open PySem renaming wpAny_bind → cb, wpAny_pure → ce, mainGlobals → ci, FuncData → cx, sizeLine → de, wpAny_mono → dL, wpAny_call_entry → eh
open PySem.Heap renaming get?_push_of_some → el, get?_push_size → em, lt_size → et
open PySem.F renaming plainAttrs_list → fb, slot_list_append → ff, type_list_append → fg, plainAttrs_dict → fk
open PySem.W renaming Frag → fm, keepIn → fo, findIn → gt
open Nat renaming le_refl → ii, ne_of_lt → ij, le_trans → io
open Bool renaming false_ne_true → ir
open Int renaming toNat_natCast → i4
namespace L2
open PySem PySem.Spec PyProof.Rows
abbrev Key:=Sum Int Str
def qS:Key→Value→Bool
 | .inl k,v=>Value.isInt k v
 | .inr x,v=>Value.isStrOf x v
def Rr (w:World):Key→Int
 | .inl k=>hashInt k
 | .inr x=>hashStr w x
theorem cU:∀ {k:Key} {v:Value},qS k v=true→(∃ i t,k=Sum.inl i∧v=Value.int i t)∨(∃ x t,k=Sum.inr x∧v=Value.str x t)
 | .inl i,v,h=>by
  obtain ⟨t,e⟩:=Value.isInt_shape (k:=i) (v:=v) h
  exact .inl ⟨i,t,rfl,e⟩
 | .inr x,v,h=>by
  obtain ⟨t,e⟩:=Value.isStrOf_shape (x:=x) (v:=v) h
  exact .inr ⟨x,t,rfl,e⟩
theorem zN (i:Int) (t:Tok):qS (.inl i) (.int i t)=true:=by simp [qS,Value.isInt]
theorem zO (x:Str) (t:Tok):qS (.inr x) (.str x t)=true:=by simp [qS,Value.isStrOf]
theorem Jx (a b:Int):decide ((Sum.inl a:Key)=Sum.inl b)=(a == b):=by
 by_cases e:a=b
 ·subst e; simp
 ·have h:¬ (Sum.inl a:Key)=Sum.inl b:=fun q=>e (Sum.inl.inj q)
  rw [decide_eq_false h]
  exact (beq_eq_false_iff_ne.mpr e).symm
theorem Jy (a b:Str):decide ((Sum.inr a:Key)=Sum.inr b)=decide (a=b):=by
 by_cases e:a=b
 ·subst e; simp
 ·have h:¬ (Sum.inr a:Key)=Sum.inr b:=fun q=>e (Sum.inr.inj q)
  rw [decide_eq_false h,decide_eq_false e]
theorem Jz (a:Int) (b:Str):decide ((Sum.inl a:Key)=Sum.inr b)=false:=decide_eq_false (fun q=>nomatch q)
theorem JA (a:Str) (b:Int):decide ((Sum.inr a:Key)=Sum.inl b)=false:=decide_eq_false (fun q=>nomatch q)
def bF (prog:Program) (w:World):PySem.KeyKind prog w Key where
 is:=qS
 hash:=Rr w
 inj:=fun v a b ha hb=>by
  rcases cU ha with ⟨i,t,rfl,rfl⟩ | ⟨x,t,rfl,rfl⟩
  ·rcases cU hb with ⟨j,u,rfl,e⟩ | ⟨y,u,rfl,e⟩
   ·injection e with e1 _; rw [e1]
   ·exact nomatch e
  ·rcases cU hb with ⟨j,u,rfl,e⟩ | ⟨y,u,rfl,e⟩
   ·exact nomatch e
   ·injection e with e1 _; rw [e1]
 byValue:=fun k v h=>by
  rcases cU h with ⟨i,t,rfl,rfl⟩ | ⟨x,t,rfl,rfl⟩ <;> rfl
 pyHash:=fun hv h=>by
  rcases cU hv with ⟨i,t,rfl,rfl⟩ | ⟨x,t,rfl,rfl⟩
  ·exact wpAny_pyHash_int h
  ·exact wpAny_pyHash_str h
 eqBool:=fun hu hv h=>by
  rcases cU hu with ⟨i,t,rfl,rfl⟩ | ⟨x,t,rfl,rfl⟩
  ·rcases cU hv with ⟨j,u,rfl,rfl⟩ | ⟨y,u,rfl,rfl⟩
   ·rw [Jx] at h; exact wpAny_eqBool_int h
   ·rw [Jz] at h; exact SeqAt.EqAt.int_str i t y u _ _ _ _ h
  ·rcases cU hv with ⟨j,u,rfl,rfl⟩ | ⟨y,u,rfl,rfl⟩
   ·rw [JA] at h; exact SeqAt.EqAt.str_int x t j u _ _ _ _ h
   ·rw [Jy] at h; exact wpAny_eqBool_str h
 «strs»:=fun k x t v h=>by
  rcases cU h with ⟨i,u,rfl,e⟩ | ⟨y,u,rfl,e⟩
  ·exact nomatch e
  ·injection e with e1 _
   subst e1
   cases v <;> rfl
theorem uR (prog:Program) (w:World) (i:Int) (t:Tok):(bF prog w).is (.inl i) (.int i t)=true:=zN i t
theorem uS (prog:Program) (w:World) (x:Str) (t:Tok):(bF prog w).is (.inr x) (.str x t)=true:=zO x t
inductive V where
 | non | bl (b:Bool) | int (i:Int) | str (x:Str) | Bw (b:Array UInt8) | flt (b:UInt64) | ref (a:Addr) | ty (n:String)
 deriving DecidableEq
def RelV:V→Value→Prop
 | .non,u=>u=Value.none
 | .bl b,u=>u=Value.bool b
 | .int i,u=>∃ t,u=Value.int i t
 | .str x,u=>∃ t,u=Value.str x t
 | .Bw b,u=>∃ t,u=Value.bytes b t
 | .flt b,u=>∃ t,u=Value.float b t
 | .ref a,u=>u=Value.ref a
 | .ty n,u=>u=Value.type n
abbrev Vals:List V→List Value→Prop:=Paired RelV
theorem Vals.length {xs:List V} {us:List Value} (r:Vals xs us):xs.length=us.length:=Paired.length r
theorem Vals.get:∀ {xs:List V} {us:List Value} {i:Nat} {x:V},Vals xs us→xs[i]? = some x→∃ u,us[i]? = some u∧RelV x u
 | _,_,_,_,.nil,e=>by simp at e
 | _,_,0,_,.cons r _,e=>by simp at e; subst e; exact ⟨_,rfl,r⟩
 | _,_,i + 1,x,.cons _ t,e=>by
  obtain ⟨u,h1,h2⟩:=Vals.get (i:=i) (x:=x) t (by simpa using e)
  exact ⟨u,by simpa using h1,h2⟩
theorem Vals.set {x:V} {u:Value} (r:RelV x u):∀ {xs:List V} {us:List Value} (i:Nat),Vals xs us→Vals (xs.set i x) (us.set i u)
 | _,_,_,.nil=>.nil
 | _,_,0,.cons _ t=>.cons r t
 | _,_,i + 1,.cons q t=>.cons q (Vals.set r i t)
theorem Vals.append:∀ {xs ys:List V} {us ws:List Value},Vals xs us→Vals ys ws→Vals (xs ++ ys) (us ++ ws)
 | _,_,_,_,.nil,s=>s
 | _,_,_,_,.cons r t,s=>.cons r (Vals.append t s)
theorem Vals.take:∀ {xs:List V} {us:List Value} (n:Nat),Vals xs us→Vals (xs.take n) (us.take n)
 | _,_,0,_=>.nil
 | _,_,_ + 1,.nil=>.nil
 | _,_,n + 1,.cons r t=>.cons r (Vals.take n t)
theorem Vals.drop:∀ {xs:List V} {us:List Value} (n:Nat),Vals xs us→Vals (xs.drop n) (us.drop n)
 | _,_,0,r=>r
 | _,_,_ + 1,.nil=>.nil
 | _,_,n + 1,.cons _ t=>Vals.drop n t
def iC:Option V→Option Value→Prop
 | some v,some u=>RelV v u
 | none,none=>True
 | _,_=>False
def KV {κ:Type}:List (κ × V)→List (κ × Value)→Prop:=Paired fun (p:κ × V) (q:κ × Value)=>p.1=q.1∧RelV p.2 q.2
def kV:Key→V
 | .inl i=>.int i
 | .inr x=>.str x
inductive HO where
 | lst (xs:List V)
 | tup (xs:List V)
 | dK (kvs:List (Key × V)) | dT (kvs:List (List Key × V))
 | set (S:Int→Bool) (n:Nat)
 | ins (C dx:Addr) (fs:List (Str × V))
 | own (x:Addr)
 | xd (fs:List (Str × V))
 | met (f x:Addr)
 | rng (lo hi:Int)
 | yA (o:Obj) (u:HO)
 | JB (ps:Array Value)
 | ext (φ:Heap→Prop)
abbrev Hp:=Addr→Option HO
def upd (H:Hp) (a:Addr) (o:HO):Hp:=fun b=>if b=a then some o else H b
theorem ah {H:Hp} {a:Addr} {o:HO}:upd H a o a=some o:=by unfold upd; rw [if_pos rfl]
theorem aL {H:Hp} {a b:Addr} {o:HO} (h:b ≠ a):upd H a o b=H b:=by unfold upd; rw [if_neg h]
theorem bJ {H:Hp} {a b:Addr} {o u:HO} (h:H a=some o) (h':H b=some u) (d:o ≠ u):a ≠ b:=by
 intro e; subst e; rw [h] at h'; exact d (Option.some.inj h')
theorem az {H:Hp} {a b:Addr} {o:HO} (h:H a=some o) (h':H b=none):a ≠ b:=by
 intro e; subst e; rw [h] at h'; cases h'
section
variable (P:Program) (w:World)
def cH (H:Hp) (h:Heap) (a:Addr):HO→Prop
 | .lst xs=>xs.length ≤ de∧∃ (its:List Value) (n:Nat),Vals xs its∧h.get? a=some { cls:=.type "list",data:=.seq its.toArray n }
 | .tup xs=>xs.length ≤ de∧∃ its:List Value,Vals xs its∧IsTup h a its.toArray
 | .dK kvs=>kvs.length ≤ de∧(a == sysModules)=false∧∃ vs,KV kvs vs∧h.DictOf (bF P w) a vs
 | .dT kvs=>kvs.length ≤ de∧(a == sysModules)=false∧∃ xs:List (List Key × Addr × Value),
   Paired (fun (p:List Key × V) (q:List Key × Addr × Value)=>p.1=q.1∧H q.2.1=some (.tup (p.1.map kV))∧RelV p.2 q.2.2) kvs xs ∧
   ∃ o es ep,h.get? a=some o∧o.ExactDict∧o.data=.dict es ep∧es.toList=xs.map (entryOfKey (tupleKind (bF P w)))∧(xs.map (·.1)).Nodup
 | .set S n=>h.SetOf (intKind P w) a S n
 | .ins C dx fs=>H dx=some (.own a)∧fs.length ≤ 1000∧dx ≠ a∧h.get? a=some (PySem.W.instObj C dx) ∧
   ∃ mA,h.Ns1 dx mA∧(∀ f,iC (fs.lookup f) (mA f))∧PySem.Within mA (fs.map (·.1))
 | .own _=>∃ o,h.get? a=some o
 | .xd fs=>∃ mA,h.Ns1 a mA∧∀ f,iC (fs.lookup f) (mA f)
 | .rng lo hi=>∃ t u v,h.get? a=some { cls:=.type "range",data:=.fields #[.int lo t,.int hi u,.int 1 v] }
 | .yA o u=>h.get? a=some o∧cH H h a u
 | .JB ps=>h.get? a=some { cls:=.none,data:=.fields ps }
 | .met f x=>h.get? a=some (PySem.W.methodObj (.ref f) (.ref x))
 | .ext φ=>φ h∧(∃ o,h.get? a=some o)∧∀ h1 h2:Heap,φ h1→(∀ o,h1.get? a=some o→h2.get? a=some o)→φ h2
def jY (H:Hp) (h:Heap):Prop:=∀ a o,H a=some o→cH P w H h a o
end
section
variable {P:Program} {w:World} {H H':Hp} {h h':Heap} {a:Addr} {o:HO}
theorem cH.lt (x:cH P w H h a o):a < h.objs.size:=by
 cases o with
 | lst xs=>obtain ⟨_,_,_,_,e⟩:=x; exact et e
 | tup xs=>obtain ⟨_,_,_,p⟩:=x; exact p.lt
 | dK kvs=>obtain ⟨_,_,_,_,o,_,_,e,_⟩:=x; exact et e
 | dT kvs=>obtain ⟨_,_,_,_,o,_,_,e,_⟩:=x; exact et e
 | set S n=>obtain ⟨o,_,_,_,e,_⟩:=x; exact et e
 | ins C dx fs=>obtain ⟨_,_,_,e,_⟩:=x; exact et e
 | own y=>obtain ⟨_,e⟩:=x; exact et e
 | xd fs=>obtain ⟨_,⟨_,_,_,e,_⟩,_⟩:=x; exact et e
 | rng lo hi=>obtain ⟨_,_,_,e⟩:=x; exact et e
 | yA ob u=>obtain ⟨e,_⟩:=x; exact et e
 | JB ps=>exact et (show h.get? a=some _ from x)
 | met f y=>exact et (show h.get? a=some _ from x)
 | ext φ=>obtain ⟨_,⟨_,e⟩,_⟩:=x; exact et e
theorem Paired.JC {α β:Type} {F G:α→β→Prop}:∀ {l₁:List α} {l₂:List β},Paired F l₁ l₂→(∀ a b,F a b→G a b)→Paired G l₁ l₂
 | _,_,.nil,_=>.nil
 | _,_,.cons r t,f=>.cons (f _ _ r) (Paired.JC t f)
theorem cH.stay (x:cH P w H h a o) (k:∀ b u,(b=a∨H b=some (.own a))→h.get? b=some u→h'.get? b=some u)
  (ho:∀ b,H b=some (.own a)→H' b=some (.own a)) (ht:∀ b xs,H b=some (.tup xs)→H' b=some (.tup xs)):cH P w H' h' a o:=by
 induction o with
 | lst xs=>obtain ⟨z,its,n,r,e⟩:=x; exact ⟨z,its,n,r,k _ _ (.inl rfl) e⟩
 | tup xs=>obtain ⟨z,its,r,ob,e,c⟩:=x; exact ⟨z,its,r,ob,k _ _ (.inl rfl) e,c⟩
 | dK kvs=>obtain ⟨z,y,vs,r,ob,es,ep,e,c⟩:=x; exact ⟨z,y,vs,r,ob,es,ep,k _ _ (.inl rfl) e,c⟩
 | dT kvs =>
  obtain ⟨z,y,xs,r,ob,es,ep,e,c⟩:=x
  exact ⟨z,y,xs,Paired.JC r fun p q z=>⟨z.1,ht _ _ z.2.1,z.2.2⟩,ob,es,ep,k _ _ (.inl rfl) e,c⟩
 | set S n=>obtain ⟨ob,es,ep,t,e,c⟩:=x; exact ⟨ob,es,ep,t,k _ _ (.inl rfl) e,c⟩
 | ins C dx fs =>
  obtain ⟨d,z,ne,e,mA,⟨od,es,ep,e2,c⟩,r⟩:=x
  exact ⟨ho _ d,z,ne,k _ _ (.inl rfl) e,mA,⟨od,es,ep,k _ _ (.inr d) e2,c⟩,r⟩
 | own y=>obtain ⟨ob,e⟩:=x; exact ⟨ob,k _ _ (.inl rfl) e⟩
 | xd fs=>obtain ⟨mA,⟨od,es,ep,e,c⟩,r⟩:=x; exact ⟨mA,⟨od,es,ep,k _ _ (.inl rfl) e,c⟩,r⟩
 | rng lo hi=>obtain ⟨t,u,v,e⟩:=x; exact ⟨t,u,v,k _ _ (.inl rfl) e⟩
 | yA ob u ih=>obtain ⟨e,q⟩:=x; exact ⟨k _ _ (.inl rfl) e,ih q⟩
 | JB ps =>
  have e:h.get? a=some { cls:=.none,data:=.fields ps }:=x
  show h'.get? a=some { cls:=.none,data:=.fields ps }
  exact k a _ (.inl rfl) e
 | met f y =>
  have e:h.get? a=some (PySem.W.methodObj (.ref f) (.ref y)):=x
  show h'.get? a=some (PySem.W.methodObj (.ref f) (.ref y))
  exact k a _ (.inl rfl) e
 | ext φ=>obtain ⟨p,⟨o,e⟩,st⟩:=x; exact ⟨st _ _ p fun o q=>k _ _ (.inl rfl) q,⟨o,k _ _ (.inl rfl) e⟩,st⟩
theorem jY.lt (x:jY P w H h) (e:H a=some o):a < h.objs.size:=(x a o e).lt
theorem jY.fresh (x:jY P w H h) (e:h.objs.size ≤ a):H a=none:=by
 cases q:H a with
 | none=>rfl
 | some u=>exact absurd (Nat.lt_of_lt_of_le (x.lt q) e) (Nat.lt_irrefl _)
theorem jY.kept (x:jY P w H h) (k:∀ b u,h.get? b=some u→h'.get? b=some u):jY P w H h':=fun a o e =>
 (x a o e).stay (fun b u _ q=>k b u q) (fun _ q=>q) fun _ _ q=>q
theorem jY.laid (x:jY P w H h) (k:∀ b u,h.get? b=some u→h'.get? b=some u) (hp:h.objs.size ≤ a) (new:cH P w (upd H a o) h' a o):jY P w (upd H a o) h':=fun b u e=>by
 have hn:=x.fresh hp
 by_cases hb:b=a
 ·subst hb; rw [ah] at e; cases e; exact new
 ·rw [aL hb] at e
  exact (x b u e).stay (fun c v _ q=>k c v q) (fun c q=>by rw [aL (az q hn)]; exact q) fun c xs q=>by rw [aL (az q hn)]; exact q
end
def Rd (H:Hp) (a:Addr) (u:HO):Prop:=H a=some u∨∃ o,H a=some (.yA o u)
theorem Rd.of {H:Hp} {a:Addr} {u:HO} (h:H a=some u):Rd H a u:=.inl h
theorem Rd.ok {P:Program} {w:World} {H:Hp} {h:Heap} {a:Addr} {u:HO} (r:Rd H a u) (x:jY P w H h):cH P w H h a u:=by
 rcases r with r | ⟨o,r⟩
 ·exact x a u r
 ·obtain ⟨_,q⟩:=x a _ r
  exact q
def Mf:Option HO→Prop
 | some (.lst _)=>True
 | some (.dK _)=>True
 | some (.dT _)=>True
 | some (.set _ _)=>True
 | some (.ins _ _ _)=>True
 | some (.ext _)=>True
 | _=>False
section
variable {P:Program} {w:World} {H:Hp} {h h':Heap} {x e:Addr} {o':HO}
theorem jY.write (ok:jY P w H h) (mu:Mf (H x)) (he:e=x∨H e=some (.own x)) (k:∀ b u,b ≠ e→h.get? b=some u→h'.get? b=some u) (heo:∃ u,h'.get? e=some u)
  (new:cH P w (upd H x o') h' x o'):jY P w (upd H x o') h':=fun b u q=>by
 have Mg:∀ c y,H c=some (.own y)→c ≠ x:=fun c y r z=>by subst z; rw [r] at mu; exact mu
 have Rt:∀ c xs,H c=some (.tup xs)→c ≠ x:=fun c xs r z=>by subst z; rw [r] at mu; exact mu
 by_cases hb:b=x
 ·subst hb; rw [ah] at q; cases q; exact new
 ·rw [aL hb] at q
  by_cases hbe:b=e
  ·have q':H b=some (.own x):=by
    rcases he with z | z
    ·exact absurd (hbe.trans z) hb
    ·rw [hbe]; exact z
   rw [q] at q'; cases q'
   obtain ⟨v,hv⟩:=heo
   exact ⟨v,by rw [hbe]; exact hv⟩
  ·refine (ok b u q).stay (fun c v hc r=>k c v ?_ r) (fun c r=>by rw [aL (Mg c b r)]; exact r) fun c xs r=>by rw [aL (Rt c xs r)]; exact r
   rcases hc with rfl | hc
   ·exact hbe
   ·rintro rfl
    rcases he with z | z
    ·exact Mg c b hc z
    ·rw [hc] at z; cases z; exact hb rfl
end
structure Un (fs ex:List Addr) (H H':Hp) (h h':Heap):Prop where
 keep:∀ b o,h.get? b=some o→H b=none→b ∉ fs→b ∉ ex→h'.get? b=some o
 slot:∀ b o,h.get? b=some o→H b=none→b ∈ fs→b ∉ ex→∃ sl,h'.get? b=some { o with slots:=sl }
 free:∀ b o,h.get? b=some o→H b=none→b ∉ ex→H' b=none
 there:∀ b o,h.get? b=some o→b ∉ ex→∃ o',h'.get? b=some o'
 tups:∀ b xs,H b=some (.tup xs)→H' b=some (.tup xs)
 rX:∀ b o u,H b=some (.yA o u)→H' b=some (.yA o u)
 uT:∀ b ps,H b=some (.JB ps)→∃ more,H' b=some (.JB (ps ++ more))
section
variable {fs fs' ex ex':List Addr} {H H1 H2:Hp} {h h1 h2 h':Heap} {a x e:Addr} {o:HO}
theorem Un.any (u:Un fs ex H H1 h h1) {b:Addr} {ob:Obj} (q:h.get? b=some ob) (n:H b=none) (hx:b ∉ ex):∃ sl,h1.get? b=some { ob with slots:=sl }:=by
 by_cases hb:b ∈ fs
 ·exact u.slot b ob q n hb hx
 ·exact ⟨ob.slots,u.keep b ob q n hb hx⟩
theorem Un.kept (k:∀ b u,h.get? b=some u→h'.get? b=some u):Un fs ex H H h h' :=
 ⟨fun b ob q _ _ _=>k b ob q,fun b ob q _ _ _=>⟨ob.slots,k b ob q⟩,fun _ _ _ n _=>n,fun b ob q _=>⟨ob,k b ob q⟩,fun _ _ q=>q,fun _ _ _ q=>q,fun _ ps q=>⟨#[],by rw [q]; simp⟩⟩
theorem Un.refl:Un fs ex H H h h:=Un.kept fun _ _ q=>q
theorem Un.laid (k:∀ b u,h.get? b=some u→h'.get? b=some u) (hp:h.objs.size ≤ a) (hn:H a=none):Un fs ex H (upd H a o) h h' where
 keep:=fun b u q _ _ _=>k b u q
 slot:=fun b u q _ _ _=>⟨u.slots,k b u q⟩
 free:=fun b u q n _=>by rw [aL (ij (Nat.lt_of_lt_of_le (et q) hp))]; exact n
 there:=fun b u q _=>⟨u,k b u q⟩
 tups:=fun b xs q=>by rw [aL (az q hn)]; exact q
 rX:=fun b u xs q=>by rw [aL (az q hn)]; exact q
 uT:=fun b ps q=>⟨#[],by rw [aL (az q hn),q]; simp⟩
theorem Un.write (mu:Mf (H x)) (he:e=x∨H e=some (.own x)) (k:∀ b u,b ≠ e→h.get? b=some u→h'.get? b=some u) (heo:∃ u,h'.get? e=some u):Un fs ex H (upd H x o) h h':=by
 have hx:∀ b,H b=none→b ≠ x:=fun b n z=>by subst z; rw [n] at mu; exact mu
 have hb:∀ b,H b=none→b ≠ e:=fun b n z=>by
  subst z
  rcases he with r | r
  ·exact hx b n r
  ·rw [n] at r; cases r
 have hm:∀ b u,H b=some u→¬ Mf (some u)→b ≠ x:=fun b u q nm z=>by subst z; rw [q] at mu; exact nm mu
 refine ⟨fun b u q n _ _=>k b u (hb b n) q,fun b u q n _ _=>⟨u.slots,k b u (hb b n) q⟩,fun b u q n _=>by rw [aL (hx b n)]; exact n,fun b u q _=>?_,
  fun b xs q=>by rw [aL (hm b _ q fun z=>z)]; exact q,fun b u xs q=>by rw [aL (hm b _ q fun z=>z)]; exact q,fun b ps q=>⟨#[],by rw [aL (hm b _ q fun z=>z),q]; simp⟩⟩
 by_cases hbe:b=e
 ·subst hbe; exact heo
 ·exact ⟨u,k b u hbe q⟩
end
def QS (h:Heap) (H:Hp):List Addr:=(List.range h.objs.size).filter fun a=>(H a).isSome
def rY (h:Heap) (H:Hp):Heap:=PySem.W.hideAll h (QS h H)
theorem zP (h:Heap) (H:Hp):(rY h H).objs.size=h.objs.size:=PySem.W.hideAll_size _ _
theorem BE {h:Heap} {H:Hp} {b:Addr} {o:Obj} (e:h.get? b=some o) (n:H b=none):(rY h H).get? b=some o :=
 PySem.W.hideAll_get _ e fun hm=>by
  have q:(H b).isSome=true:=(List.mem_filter.mp hm).2
  rw [n] at q; simp at q
theorem EY {h:Heap} {H:Hp} {b:Addr} {o:Obj} (e:(rY h H).get? b=some o):h.get? b=some o∧H b=none:=by
 have e':h.get? b=some o:=PySem.W.of_hideAll (QS h H) e
 refine ⟨e',?_⟩
 cases q:H b with
 | none=>rfl
 | some x =>
  have hm:b ∈ QS h H:=List.mem_filter.mpr ⟨List.mem_range.mpr (et e'),by simp [q]⟩
  have z:(rY h H).get? b=none:=PySem.W.hideAll_none (QS h H) hm
  rw [z] at e; cases e
structure Mod (K:fm) (mg:Str→Option Value) (base:Heap):Prop where
 Mh:K.In base
 glob:base.Ns ci mg
 blt:∃ mb,base.Ns builtinsNs mb∧∀ x:Str,x ≠ "__name__" → mb x=bootBuiltins x
 nolimit:base.NoLimit
structure Cx where
 prog:Program
 w:World
 K:fm
 mg:Str→Option Value
 base:Heap
 A:Around
 N:List Str
 s₀:Shared
 H₀:Hp
 env:Env
 outer:List Env
 stack:List Env
 ex:List Addr
 fn:Str→Bool
 calm:Bool
 pn:List (Addr × Obj)
 xe:Value→Shared→Prop
def frs (l:List Env):List Addr:=l.filterMap (·.frame)
abbrev Cx.fs (X:Cx):List Addr:=frs X.outer
def Ru (sc:Scope) (x:Str):Prop:=sc.names.lookup x=some .local∨sc.names.lookup x=some .cell∨sc.names.lookup x=some .free
def Loc (sc:Scope) (x:Str):Prop:=sc.names.lookup x=some .local∨sc.names.lookup x=some .cell
def Look (env:Env) (h:Heap) (m:Str→Option Value) (x:Str) (u:Value):Prop :=
 (env.kindOf x=some .local∧m x=some u)∨((env.kindOf x=some .cell∨env.kindOf x=some .free)∧∃ c,env.cells.lookup x=some c∧h.IsCell c (some u))
structure Cx.Ok (X:Cx):Prop where
 mod:Mod X.K X.mg X.base
 kind:X.env.scope.kind=.function
 glob:X.env.globals=ci
 blt:X.env.builtins=builtinsNs
 above:X.s₀.heap.objs.size ≤ X.env.locals
 inj:∀ x y c,X.env.cells.lookup x=some c→X.env.cells.lookup y=some c→x=y
 has:∀ x,(X.env.kindOf x=some .cell∨X.env.kindOf x=some .free)→∃ c,X.env.cells.lookup x=some c
 cab:∀ x c,X.fn x=true→X.env.cells.lookup x=some c→X.s₀.heap.objs.size ≤ c
 hd:X.calm=true→X.A.handled=none
 frames:X.A.frames=some X.stack
 stk:X.stack=X.outer∨(X.stack=X.env :: X.outer∧X.env.frame=some X.env.locals)
 Rv:∀ b ∈ X.ex,b ≠ X.env.locals∧∀ x c,X.env.cells.lookup x=some c→c ≠ b
 bs:∀ b o,X.base.get? b=some o→X.s₀.heap.get? b=some o∧X.H₀ b=none
 EZ:X.base.objs.size ≤ X.s₀.heap.objs.size
 BF:∀ b o,X.base.get? b=some o→b ∉ X.ex
 BG:∀ b ∈ X.ex,b ∉ X.fs
 mU:X.s₀.heap.FunFrames X.base X.outer
 JD:∀ b ∈ X.fs,X.H₀ b=none
structure Inv (X:Cx) (pins:List (Addr × Obj)) (σ:List (Option V)) (H:Hp) (s:Shared):Prop where
 ok:X.Ok
 os:s.os=X.s₀.os
 bare:AllBare s.gens
 base:Un X.fs X.ex X.H₀ H X.s₀.heap s.heap
 loc:∃ m,s.heap.Ns X.env.locals m∧∀ (i:Nat) (x:Str) (v:V),X.N[i]? = some x→σ[i]? = some (some v)→Ru X.env.scope x→∃ u,RelV v u∧Look X.env s.heap m x u
 cell:∀ x c,X.env.cells.lookup x=some c→∃ v,s.heap.IsCell c v
 free:H X.env.locals=none
 jO:∀ x c,X.env.cells.lookup x=some c→H c=none
 pin:∀ p ∈ X.pn ++ pins,s.heap.get? p.1=some p.2∧H p.1=none∧p.1 ≠ X.env.locals∧p.1 ∉ X.fs∧∀ v,p.2.data ≠ .cell v
 hok:jY X.prog X.w H s.heap
 len:σ.length=X.N.length
section
variable {X:Cx} {pins:List (Addr × Obj)} {σ:List (Option V)} {H H':Hp} {s:Shared} {h':Heap}
theorem Cx.Ok.Rx (ok:X.Ok) {b:Addr} {o:Obj} (e:X.base.get? b=some o):b ∉ X.fs:=fun hb=>by
 have:=(ok.mU.mem hb).1
 rw [e] at this; cases this
theorem Inv.bs (I:Inv X pins σ H s):∀ b o,X.base.get? b=some o→s.heap.get? b=some o∧H b=none:=fun b o e =>
 ⟨I.base.keep b o (I.ok.bs b o e).1 (I.ok.bs b o e).2 (I.ok.Rx e) (I.ok.BF b o e),I.base.free b o (I.ok.bs b o e).1 (I.ok.bs b o e).2 (I.ok.BF b o e)⟩
theorem Inv.bk (I:Inv X pins σ H s):∀ b o,X.base.get? b=some o→s.heap.get? b=some o:=fun b o e=>(I.bs b o e).1
theorem Inv.mod (I:Inv X pins σ H s):Mod X.K X.mg X.base:=I.ok.mod
theorem Inv.lG (I:Inv X pins σ H s):X.K.In s.heap:=I.ok.mod.Mh.keeps I.bk
theorem Inv.lt (I:Inv X pins σ H s):X.env.locals < s.heap.objs.size:=let ⟨_,hn,_⟩:=I.loc; hn.lt
theorem Inv.sz (I:Inv X pins σ H s):X.s₀.heap.objs.size ≤ s.heap.objs.size:=io I.ok.above (Nat.le_of_lt I.lt)
theorem Inv.Ry (I:Inv X pins σ H s) {a:Addr} (h:s.heap.objs.size ≤ a):a ∉ X.fs:=fun hb=>by
 obtain ⟨_,o,ho,_⟩:=I.ok.mU.mem hb
 exact absurd (Nat.lt_of_lt_of_le (et ho) (io I.sz h)) (Nat.lt_irrefl _)
theorem Inv.JE (I:Inv X pins σ H s):∀ x c,X.env.cells.lookup x=some c→c ≠ X.env.locals:=fun x c e z=>by
 obtain ⟨v,o,ho,hd⟩:=I.cell x c e
 obtain ⟨m,⟨o',es,ep,ho',hd',_⟩,_⟩:=I.loc
 rw [z,ho'] at ho; cases ho; rw [hd'] at hd; cases hd
theorem Inv.mU (I:Inv X pins σ H s):s.heap.FunFrames X.base X.outer:=by
 have all:∀ (l:List Env),(∀ b ∈ frs l,b ∈ X.fs)→X.s₀.heap.FunFrames X.base l→s.heap.FunFrames X.base l:=by
  intro l
  induction l with
  | nil=>intro _ _; trivial
  | cons env r ih =>
   intro hs hl
   obtain ⟨hk,⟨L,o,hf,hn,ho,hd⟩,hr⟩:=hl
   have hL:L ∈ X.fs:=hs L (by unfold frs; rw [List.filterMap_cons,hf]; exact List.mem_cons_self)
   obtain ⟨sl,e⟩:=I.base.slot L o ho (I.ok.JD L hL) hL fun z=>I.ok.BG L z hL
   exact ⟨hk,⟨L,_,hf,hn,e,hd⟩,ih (fun b hb=>hs b (by unfold frs; rw [List.filterMap_cons,hf]; exact List.mem_cons_of_mem _ hb)) hr⟩
 exact all X.outer (fun _ hb=>hb) I.ok.mU
theorem Inv.stack (I:Inv X pins σ H s):s.heap.FunFrames X.base X.stack:=by
 rcases I.ok.stk with e | ⟨e,hf⟩
 ·rw [e]; exact I.mU
 ·rw [e]
  obtain ⟨m,hn,_⟩:=I.loc
  refine .cons (by rw [I.ok.kind]; decide) hf hn ?_ I.mU
  exact Heap.get?_none_of_le (io I.ok.EZ I.ok.above)
theorem Inv.v5 (I:Inv X pins σ H s):∀ b ∈ frs X.stack,b ∈ X.env.locals :: X.fs:=fun b hb=>by
 rcases I.ok.stk with e | ⟨e,hf⟩
 ·rw [e] at hb; exact List.mem_cons_of_mem _ hb
 ·rw [e] at hb
  unfold frs at hb
  rw [List.filterMap_cons,hf] at hb
  exact hb
theorem Inv.yB (I:Inv X pins σ H s):∀ b ∈ frs X.stack,H b=none:=fun b hb=>by
 rcases List.mem_cons.mp (I.v5 b hb) with e | hb
 ·rw [e]; exact I.free
 ·obtain ⟨_,o,ho,_⟩:=I.ok.mU.mem hb
  exact I.base.free b o ho (I.ok.JD b hb) fun z=>I.ok.BG b z hb
theorem Inv.step {g':Array GenState} {t':Nat} {d':Drawn} {ch:List Addr} (I:Inv X pins σ H s)
  (hch:∀ b ∈ ch,(b ∈ X.ex∨X.s₀.heap.objs.size ≤ b)∧b ≠ X.env.locals∧(∀ x c,X.env.cells.lookup x=some c→c ≠ b)∧∀ p ∈ X.pn ++ pins,p.1 ≠ b)
  (keep:∀ b o,b ≠ X.env.locals→b ∉ X.fs→b ∉ ch→s.heap.get? b=some o→H b=none→h'.get? b=some o)
  (slot:∀ b o,b ≠ X.env.locals→b ∈ X.fs→b ∉ ch→s.heap.get? b=some o→H b=none→∃ sl,h'.get? b=some { o with slots:=sl }) (free:∀ b o,b ∉ ch→s.heap.get? b=some o→H b=none→H' b=none)
  (there:∀ b o,b ∉ ch→s.heap.get? b=some o→∃ o',h'.get? b=some o')
  (tups:∀ b xs,H b=some (.tup xs)→H' b=some (.tup xs)) (rX:∀ b o u,H b=some (.yA o u)→H' b=some (.yA o u)) (uT:∀ b ps,H b=some (.JB ps)→∃ more,H' b=some (.JB (ps ++ more)))
  (ns:∀ m,s.heap.Ns X.env.locals m→h'.Ns X.env.locals m) (hok:jY X.prog X.w H' h') (hg:AllBare g') :
  Inv X pins σ H' { s with heap:=h',gens:=g',drawn:=d',toks:=t' }:=by
 have neL:∀ b o,X.s₀.heap.get? b=some o→b ≠ X.env.locals:=fun b o e=>ij (Nat.lt_of_lt_of_le (et e) I.ok.above)
 have QT:∀ b o,X.s₀.heap.get? b=some o→b ∉ X.ex→b ∉ ch:=fun b o e hx hb=>by
  rcases (hch b hb).1 with z | z
  ·exact hx z
  ·exact absurd (Nat.lt_of_lt_of_le (et e) z) (Nat.lt_irrefl _)
 have cellK:∀ x c,X.env.cells.lookup x=some c→∀ v,s.heap.IsCell c v→h'.IsCell c v:=fun x c e v ⟨o,ho,hd⟩=>by
  have Mi:c ∉ ch:=fun z=>(hch c z).2.2.1 x c e rfl
  by_cases hc:c ∈ X.fs
  ·obtain ⟨sl,q⟩:=slot c o (I.JE x c e) hc Mi ho (I.jO x c e)
   exact ⟨_,q,hd⟩
  ·exact ⟨o,keep c o (I.JE x c e) hc Mi ho (I.jO x c e),hd⟩
 refine ⟨I.ok,I.os,hg,⟨fun b o e n hb hx=>?_,fun b o e n hb hx=>?_,fun b o e n hx=>?_,fun b o e hx=>?_,fun b xs e=>tups b xs (I.base.tups b xs e),fun b o xs e=>rX b o xs (I.base.rX b o xs e),fun b ps e=>?_⟩,?_,fun x c e=>?_,?_,fun x c e=>?_,fun p hp=>?_,hok,I.len⟩
 ·exact keep b o (neL b o e) hb (QT b o e hx) (I.base.keep b o e n hb hx) (I.base.free b o e n hx)
 ·obtain ⟨sl,e1⟩:=I.base.slot b o e n hb hx
  obtain ⟨sl',e2⟩:=slot b _ (neL b o e) hb (QT b o e hx) e1 (I.base.free b o e n hx)
  exact ⟨sl',e2⟩
 ·obtain ⟨o',e1⟩:=I.base.there b o e hx
  exact free b o' (QT b o e hx) e1 (I.base.free b o e n hx)
 ·obtain ⟨o',e1⟩:=I.base.there b o e hx
  exact there b o' (QT b o e hx) e1
 ·obtain ⟨m1,e1⟩:=I.base.uT b ps e
  obtain ⟨m2,e2⟩:=uT b _ e1
  exact ⟨m1 ++ m2,by rw [e2,Array.append_assoc]⟩
 ·obtain ⟨m,hn,hl⟩:=I.loc
  refine ⟨m,ns m hn,fun i x v e1 e2 e3=>?_⟩
  obtain ⟨u,r,l⟩:=hl i x v e1 e2 e3
  refine ⟨u,r,?_⟩
  rcases l with l | ⟨k,c,e,z⟩
  ·exact .inl l
  ·exact .inr ⟨k,c,e,cellK x c e _ z⟩
 ·obtain ⟨v,z⟩:=I.cell x c e
  exact ⟨v,cellK x c e v z⟩
 ·obtain ⟨m,⟨o,_,_,ho,_⟩,_⟩:=I.loc
  exact free _ o (fun z=>(hch _ z).2.1 rfl) ho I.free
 ·obtain ⟨v,o,ho,hd⟩:=I.cell x c e
  exact free c o (fun z=>(hch c z).2.2.1 x c e rfl) ho (I.jO x c e)
 ·obtain ⟨e,n,ne,nf,d⟩:=I.pin p hp
  have Mi:p.1 ∉ ch:=fun z=>(hch p.1 z).2.2.2 p hp rfl
  exact ⟨keep p.1 p.2 ne nf Mi e n,free p.1 p.2 Mi e n,ne,nf,d⟩
theorem Inv.un {t':Nat} (I:Inv X pins σ H s) (u:Un X.fs [] H H' s.heap h') (hok:jY X.prog X.w H' h'):Inv X pins σ H' { s with heap:=h',toks:=t' }:=by
 obtain ⟨m,⟨o,es,ep,ho,r⟩,_⟩:=id I.loc
 obtain ⟨sl,hL⟩:=u.any ho I.free (by simp)
 exact I.step (g':=s.gens) (d':=s.drawn) (ch:=[]) (fun _ z=>nomatch z) (fun b o _ hb _ e n=>u.keep b o e n hb (by simp)) (fun b o _ hb _ e n=>u.slot b o e n hb (by simp)) (fun b o _ e n=>u.free b o e n (by simp)) (fun b o _ e=>u.there b o e (by simp)) u.tups u.rX u.uT (fun m' hm=>by
  obtain ⟨o',es',ep',ho',r'⟩:=hm
  rw [ho] at ho'; cases ho'
  exact ⟨_,es',ep',hL,r'⟩) hok I.bare
theorem Inv.call {g':Array GenState} {t':Nat} {d':Drawn} {ch:List Addr} (I:Inv X pins σ H s) (u:Un (frs X.stack) ch H H' s.heap h') (hok:jY X.prog X.w H' h') (hg:AllBare g')
  (hch:∀ b ∈ ch,(b ∈ X.ex∨X.s₀.heap.objs.size ≤ b)∧b ≠ X.env.locals∧(∀ x c,X.env.cells.lookup x=some c→c ≠ b)∧∀ p ∈ X.pn ++ pins,p.1 ≠ b) :
  Inv X pins σ H' { s with heap:=h',gens:=g',drawn:=d',toks:=t' }:=by
 obtain ⟨m,⟨o,es,ep,ho,r⟩,_⟩:=id I.loc
 obtain ⟨sl,hL⟩:=u.any ho I.free fun z=>(hch _ z).2.1 rfl
 exact I.step (ch:=ch) hch (fun b o hL hb hc e n=>u.keep b o e n (fun z=>(List.mem_cons.mp (I.v5 b z)).elim hL hb) hc) (fun b o _ _ hc e n=>u.any e n hc) (fun b o hc e n=>u.free b o e n hc) (fun b o hc e=>u.there b o e hc) u.tups u.rX u.uT (fun m' hm=>by
  obtain ⟨o',es',ep',ho',r'⟩:=hm
  rw [ho] at ho'; cases ho'
  exact ⟨_,es',ep',hL,r'⟩) hok hg
theorem Inv.turned {t':Nat} {it:Addr} (I:Inv X pins σ H s) (k:∀ b o,b ≠ it→s.heap.get? b=some o→h'.get? b=some o) (hn:H it=none) (hL:it ≠ X.env.locals)
  (h1:it ∈ X.ex∨X.s₀.heap.objs.size ≤ it) (h2:∀ x c,X.env.cells.lookup x=some c→c ≠ it) (h3:∀ p ∈ X.pn ++ pins,p.1 ≠ it):Inv X pins σ H { s with heap:=h',toks:=t' }:=by
 have Io:∀ b u,H b=some u→b ≠ it:=fun b u e z=>by rw [z,hn] at e; cases e
 refine I.step (g':=s.gens) (d':=s.drawn) (ch:=[it]) (fun b hb=>?_) (fun b o _ _ hc e _=>k b o (fun z=>hc (by simp [z])) e) (fun b o _ _ hc e _=>⟨o.slots,k b o (fun z=>hc (by simp [z])) e⟩) (fun _ _ _ _ n=>n)
  (fun b o hc e=>⟨o,k b o (fun z=>hc (by simp [z])) e⟩) (fun _ _ e=>e) (fun _ _ _ e=>e) (fun b ps e=>⟨#[],by rw [e]; simp⟩) (fun m hm=>?_) (fun b u e=>?_) I.bare
 ·have e:b=it:=by simpa using hb
  subst e
  exact ⟨h1,hL,h2,h3⟩
 ·obtain ⟨o,es,ep,ho,r⟩:=hm
  exact ⟨o,es,ep,k _ o (Ne.symm hL) ho,r⟩
 ·refine (I.hok b u e).stay (fun c v hc q=>k c v ?_ q) (fun _ q=>q) fun _ _ q=>q
  rcases hc with z | z
  ·rw [z]; exact Io b u e
  ·exact Io c _ z
theorem Inv.tok (I:Inv X pins σ H s) (t:Nat):Inv X pins σ H { s with toks:=t }:=I.un (h':=s.heap) (t':=t) Un.refl I.hok
theorem Inv.kept {t':Nat} (I:Inv X pins σ H s) (k:∀ b u,s.heap.get? b=some u→h'.get? b=some u):Inv X pins σ H { s with heap:=h',toks:=t' }:=I.un (Un.kept k) (I.hok.kept k)
theorem Inv.laid {a:Addr} {o:HO} {t':Nat} (I:Inv X pins σ H s) (k:∀ b u,s.heap.get? b=some u→h'.get? b=some u) (hp:s.heap.objs.size ≤ a) (new:cH X.prog X.w (upd H a o) h' a o) :
  Inv X pins σ (upd H a o) { s with heap:=h',toks:=t' }:=I.un (Un.laid k hp (I.hok.fresh hp)) (I.hok.laid k hp new)
theorem Inv.write {x e:Addr} {o:HO} {t':Nat} (I:Inv X pins σ H s) (mu:Mf (H x)) (he:e=x∨H e=some (.own x)) (k:∀ b u,b ≠ e→s.heap.get? b=some u→h'.get? b=some u) (heo:∃ u,h'.get? e=some u)
  (new:cH X.prog X.w (upd H x o) h' x o):Inv X pins σ (upd H x o) { s with heap:=h',toks:=t' }:=I.un (Un.write mu he k heo) (I.hok.write mu he k heo new)
theorem Inv.yC {Ip:List (Addr × Obj)} (I:Inv X pins σ H s) (h:∀ p ∈ Ip,s.heap.get? p.1=some p.2∧H p.1=none∧p.1 ≠ X.env.locals∧p.1 ∉ X.fs∧∀ v,p.2.data ≠ .cell v):Inv X Ip σ H s :=
 ⟨I.ok,I.os,I.bare,I.base,I.loc,I.cell,I.free,I.jO,fun p hp=>(List.mem_append.mp hp).elim (fun z=>I.pin p (List.mem_append_left _ z)) (h p),I.hok,I.len⟩
theorem uU {N:List Str} (hN:N.Nodup) {i j:Nat} {x:Str} (a:N[i]? = some x) (b:N[j]? = some x):i=j:=by
 obtain ⟨h1,e1⟩:=ac.mp a
 obtain ⟨h2,e2⟩:=ac.mp b
 exact (List.getElem_inj hN).mp (e1.trans e2.symm)
theorem qT {M:Model} {A:Around} {E:Value→Shared→Prop} {i:Nat} {x:Str} {v:V} {u:Value} {Q:Unit→Shared→Prop} (I:Inv X pins σ H s) (hN:X.N.Nodup) (hi:X.N[i]? = some x) (hx:Loc X.env.scope x) (r:RelV v u)
  (h:∀ s',Inv X pins (σ.set i (some v)) H s'→(∃ a,Heap.SameBut a s.heap s'.heap∧(a=X.env.locals∨X.env.cells.lookup x=some a))→Q () s') (hf:X.fn x=true∨X.env.scope.names.lookup x=some .local:=by first | exact .inl rfl | exact .inr rfl | assumption):wpAny M A (storeName X.env x u) Q E s:=by
 obtain ⟨m,hn,hl⟩:=id I.loc
 have hcls:(X.env.scope.kind == .class || (X.env.scope.kind == .module && X.env.locals != X.env.globals))=false:=by rw [I.ok.kind]; rfl
 have hiσ:i < σ.length:=by rw [I.len]; exact (ac.mp hi).1
 have JE:=I.JE
 have tracked:∀ {a:Addr} {h':Heap},(∃ o,s.heap.get? a=some o∧H a=none)→Heap.SameBut a s.heap h'→jY X.prog X.w H h':=fun {a h'} ha hs b ob e=>by
  obtain ⟨_,_,hfree⟩:=ha
  refine (I.hok b ob e).stay (fun c w' hc q=>(hs.2 c ?_).trans q) (fun _ q=>q) fun _ _ q=>q
  rintro rfl
  rcases hc with rfl | hc
  ·rw [hfree] at e; cases e
  ·rw [hfree] at hc; cases hc
 rcases hx with hk | hk
 ·refine wpAny_storeName_local hk hn (fun h' hn' hs=>?_) hcls
  obtain ⟨oL,_,_,hoL,_⟩:=id hn
  refine h _ ⟨I.ok,I.os,I.bare,⟨fun b o e n hb hx=>?_,fun b o e n hb hx=>?_,I.base.free,fun b o e hx=>?_,I.base.tups,I.base.rX,I.base.uT⟩,⟨_,hn',fun j y v' e1 e2 e3=>?_⟩,fun y c e=>?_,I.free,I.jO,fun p hp=>?_,tracked ⟨oL,hoL,I.free⟩ hs,by simpa using I.len⟩ ⟨_,hs,.inl rfl⟩
  ·exact (hs.2 b (ij (Nat.lt_of_lt_of_le (et e) I.ok.above))).trans (I.base.keep b o e n hb hx)
  ·obtain ⟨sl,e1⟩:=I.base.slot b o e n hb hx
   exact ⟨sl,(hs.2 b (ij (Nat.lt_of_lt_of_le (et e) I.ok.above))).trans e1⟩
  ·obtain ⟨o',e1⟩:=I.base.there b o e hx
   exact ⟨o',(hs.2 b (ij (Nat.lt_of_lt_of_le (et e) I.ok.above))).trans e1⟩
  ·by_cases hj:j=i
   ·subst hj
    rw [hi] at e1; cases e1
    rw [List.getElem?_set_self hiσ] at e2
    cases e2
    exact ⟨u,r,.inl ⟨hk,by simp⟩⟩
   ·rw [List.getElem?_set_ne (Ne.symm hj)] at e2
    obtain ⟨u',r',q⟩:=hl j y v' e1 e2 e3
    refine ⟨u',r',?_⟩
    rcases q with ⟨k,e⟩ | ⟨k,c,e,z⟩
    ·refine .inl ⟨k,?_⟩
     have:y ≠ x:=fun e=>hj (uU hN e1 (e ▸ hi))
     simp [this,e]
    ·exact .inr ⟨k,c,e,z.sameBut hs (JE y c e)⟩
  ·obtain ⟨w',z⟩:=I.cell y c e
   exact ⟨w',z.sameBut hs (JE y c e)⟩
  ·obtain ⟨e,n,ne,nf,d⟩:=I.pin p hp
   exact ⟨(hs.2 p.1 ne).trans e,n,ne,nf,d⟩
 ·have hfn:X.fn x=true:=by
   rcases hf with z | z
   ·exact z
   ·rw [z] at hk; cases hk
  obtain ⟨c,hc⟩:=I.ok.has x (.inl hk)
  obtain ⟨w',z⟩:=I.cell x c hc
  refine wpAny_storeName_cell I.ok.kind hk hc z (fun h' hc' hs=>?_)
  obtain ⟨oc,hoc,Rz⟩:=id z
  refine h { s with heap:=h' } ⟨I.ok,I.os,I.bare,⟨fun b o e n hb hx=>?_,fun b o e n hb hx=>?_,I.base.free,fun b o e hx=>?_,I.base.tups,I.base.rX,I.base.uT⟩,⟨m,hn.sameBut hs (Ne.symm (JE x c hc)),fun j y v' e1 e2 e3=>?_⟩,fun y c' e=>?_,I.free,I.jO,fun p hp=>?_,tracked ⟨oc,hoc,I.jO x c hc⟩ hs,by simpa using I.len⟩ ⟨c,hs,.inr hc⟩
  ·exact (hs.2 b (ij (Nat.lt_of_lt_of_le (et e) (I.ok.cab x c hfn hc)))).trans (I.base.keep b o e n hb hx)
  ·obtain ⟨sl,e1⟩:=I.base.slot b o e n hb hx
   exact ⟨sl,(hs.2 b (ij (Nat.lt_of_lt_of_le (et e) (I.ok.cab x c hfn hc)))).trans e1⟩
  ·obtain ⟨o',e1⟩:=I.base.there b o e hx
   exact ⟨o',(hs.2 b (ij (Nat.lt_of_lt_of_le (et e) (I.ok.cab x c hfn hc)))).trans e1⟩
  ·by_cases hj:j=i
   ·subst hj
    rw [hi] at e1; cases e1
    rw [List.getElem?_set_self hiσ] at e2
    cases e2
    exact ⟨u,r,.inr ⟨.inl hk,c,hc,hc'⟩⟩
   ·rw [List.getElem?_set_ne (Ne.symm hj)] at e2
    obtain ⟨u',r',q⟩:=hl j y v' e1 e2 e3
    refine ⟨u',r',?_⟩
    rcases q with q | ⟨k,c',e,z'⟩
    ·exact .inl q
    ·refine .inr ⟨k,c',e,z'.sameBut hs ?_⟩
     rintro rfl
     exact hj (uU hN e1 (I.ok.inj _ _ _ e hc ▸ hi))
  ·by_cases hcc:c'=c
   ·subst hcc; exact ⟨_,hc'⟩
   ·obtain ⟨w2,z2⟩:=I.cell y c' e
    exact ⟨w2,z2.sameBut hs hcc⟩
  ·obtain ⟨e,n,ne,nf,d⟩:=I.pin p hp
   refine ⟨(hs.2 p.1 ?_).trans e,n,ne,nf,d⟩
   intro q
   rw [q,hoc] at e
   have q':oc=p.2:=Option.some.inj e
   exact d w' (by rw [← q']; exact Rz)
theorem uV {M:Model} {A:Around} {E:Value→Shared→Prop} {i:Nat} {x:Str} {v:V} {u:Value} {Q:Unit→Shared→Prop} (I:Inv X pins σ H s) (hN:X.N.Nodup) (hi:X.N[i]? = some x) (hx:Loc X.env.scope x) (r:RelV v u)
  (h:∀ s',Inv X pins (σ.set i (some v)) H s'→Q () s') (hf:X.fn x=true∨X.env.scope.names.lookup x=some .local:=by first | exact .inl rfl | exact .inr rfl | assumption):wpAny M A (storeName X.env x u) Q E s :=
 qT I hN hi hx r (fun s' I' _=>h s' I') hf
theorem Inv.call' {s':Shared} {ch:List Addr} (I:Inv X pins σ H s) (ho:s'.os=s.os) (u:Un (frs X.stack) ch H H' s.heap s'.heap) (hok:jY X.prog X.w H' s'.heap) (hg:AllBare s'.gens)
  (hch:∀ b ∈ ch,(b ∈ X.ex∨X.s₀.heap.objs.size ≤ b)∧b ≠ X.env.locals∧(∀ x c,X.env.cells.lookup x=some c→c ≠ b)∧∀ p ∈ X.pn ++ pins,p.1 ≠ b):Inv X pins σ H' s':=by
 obtain ⟨h',g',d',t',o'⟩:=s'
 have e:o'=s.os:=ho
 subst e
 exact I.call (g':=g') (t':=t') (d':=d') u hok hg hch
end
abbrev XK:=Value→Option Addr→Hp→Prop
abbrev St:=List (Option V)
abbrev VK:=V→Hp→Prop
abbrev TE:=St→Hp→VK→Prop
abbrev TT:=St→Hp→(Bool→Hp→Prop)→Prop
abbrev TA:=St→Hp→(List V→Hp→Prop)→Prop
structure Ends where
 nx:St→Hp→Prop
 rt:VK
 bk:St→Hp→Prop:=fun _ _=>False
 ct:St→Hp→Prop:=fun _ _=>False
abbrev TS:=Ends→St→Hp→Prop
def EP (X:Cx) (pins:List (Addr × Obj)) (σ:St) (Q:VK) (u:Value) (s':Shared):Prop:=∃ v H',Inv X pins σ H' s'∧RelV v u∧Q v H'
def TP (X:Cx) (pins:List (Addr × Obj)) (σ:St) (Q:Bool→Hp→Prop) (b:Bool) (s':Shared):Prop:=∃ H',Inv X pins σ H' s'∧Q b H'
def AP (X:Cx) (pins:List (Addr × Obj)) (σ:St) (Q:List V→Hp→Prop) (us:List Value) (s':Shared):Prop:=∃ vs H',Inv X pins σ H' s'∧Vals vs us∧Q vs H'
def SP (X:Cx) (pins:List (Addr × Obj)) (D:Ends) (f:Flow) (s':Shared):Prop :=
 match f with
 | .next=>∃ σ' H',Inv X pins σ' H' s'∧D.nx σ' H'
 | .brk=>∃ σ' H',Inv X pins σ' H' s'∧D.bk σ' H'
 | .cont=>∃ σ' H',Inv X pins σ' H' s'∧D.ct σ' H'
 | .ret u=>∃ v σ' H',Inv X pins σ' H' s'∧RelV v u∧D.rt v H'
def PE (X:Cx) (e:Expr) (t:TE):Prop :=
 ∀ (pins:List (Addr × Obj)) (s:Shared) (σ:St) (H:Hp) (Q:VK),Inv X pins σ H s→t σ H Q→wpAny (model X.prog X.w) X.A (eval e X.env) (EP X pins σ Q) X.xe s
def PT (X:Cx) (e:Expr) (t:TT):Prop :=
 ∀ (pins:List (Addr × Obj)) (s:Shared) (σ:St) (H:Hp) (Q:Bool→Hp→Prop),Inv X pins σ H s→t σ H Q→wpAny (model X.prog X.w) X.A (isTrue e X.env (eval e X.env)) (TP X pins σ Q) X.xe s
def PW (X:Cx) (e:Expr) (t:TT):Prop :=
 ∀ (whole:Sem Value) (pins:List (Addr × Obj)) (s:Shared) (σ:St) (H:Hp) (Q:Bool→Hp→Prop),Inv X pins σ H s→t σ H Q→wpAny (model X.prog X.w) X.A (isTrue e X.env whole) (TP X pins σ Q) X.xe s
theorem PW.pt {X:Cx} {e:Expr} {t:TT} (h:PW X e t):PT X e t:=h _
def PA (X:Cx) (es:List Expr) (t:TA):Prop :=
 ∀ (pos:Pos) (pins:List (Addr × Obj)) (s:Shared) (σ:St) (H:Hp) (Q:List V→Hp→Prop),Inv X pins σ H s→t σ H Q→wpAny (model X.prog X.w) X.A (spliced (backTo pos (starEach es X.env))) (AP X pins σ Q) X.xe s
def PS (X:Cx) (st:Stmt) (t:TS):Prop :=
 ∀ (pins:List (Addr × Obj)) (s:Shared) (σ:St) (H:Hp) (D:Ends),Inv X pins σ H s→t D σ H→wpAny (model X.prog X.w) X.A (exec st X.env) (SP X pins D) X.xe s
def rZ (X:Cx) (st:List Stmt) (t:TS):Prop :=
 ∀ (pins:List (Addr × Obj)) (s:Shared) (σ:St) (H:Hp) (D:Ends),Inv X pins σ H s→t D σ H→wpAny (model X.prog X.w) X.A (execs st X.env) (SP X pins D) X.xe s
theorem cL {α:Type} {t:Sem α} {Q Q':α→Shared→Prop} {M:Model} {A:Around} {E:Value→Shared→Prop} {s:Shared} (h:wpAny M A t Q E s) (hQ:∀ a s,Q a s→Q' a s):wpAny M A t Q' E s:=dL h hQ fun _ _ x=>x
section
variable {X:Cx}
def zQ (i:Nat):TE:=fun σ H Q=>∃ v,σ[i]? = some (some v)∧Q v H
def tC (v:V):TE:=fun _ H Q=>Q v H
theorem JF {i:Nat} {x:Str} {pos:Pos} (hN:X.N[i]? = some x) (hv:Ru X.env.scope x) (hd:(x == ("__debug__" : Str))=false:=by decide) (hcd:(x == ("__classdict__" : Str))=false:=by decide):PE X (.Name x pos) (zQ i):=by
 intro pins s σ H Q I h
 obtain ⟨v,e,h⟩:=h
 obtain ⟨m,hn,hl⟩:=I.loc
 obtain ⟨u,r,l⟩:=hl i x v hN e hv
 have fin:EP X pins σ Q u s:=⟨v,H,I,r,h⟩
 rcases l with ⟨hk,hm⟩ | ⟨hk,c,hc,hcell⟩
 ·exact wpAny_Name (wpAny_loadName_local I.ok.kind hk hn hm fin) hd
 ·rcases hk with hk | hk
  ·exact wpAny_Name (wpAny_loadName_cell I.ok.kind hk hc hcell fin) hd
  ·exact wpAny_Name (wpAny_loadName_free I.ok.kind hk hc hcell fin hcd) hd
theorem ai {i j pos}:PE X (.Constant (.int i) j pos) (tC (.int i)):=fun _ _ _ H _ I h=>wpAny_Constant_int ⟨.int i,H,I.tok _,⟨_,rfl⟩,h⟩
theorem lY {b j pos}:PE X (.Constant (.bool b) j pos) (tC (.bl b)):=fun _ _ _ H _ I h=>Constant_bool ⟨.bl b,H,I,rfl,h⟩
theorem eA {j pos}:PE X (.Constant .none j pos) (tC .non):=fun _ _ _ H _ I h=>Constant_none ⟨.non,H,I,rfl,h⟩
theorem aq {x j pos}:PE X (.Constant (.str x) j pos) (tC (.str x)):=fun _ _ _ H _ I h=>Calls.Constant_str ⟨.str x,H,I.tok _,⟨_,rfl⟩,h⟩
def Gl (X:Cx) (x:Str):Prop:=X.env.kindOf x=some .globalImplicit
theorem sd {E:Value→Shared→Prop} {pins:List (Addr × Obj)} {s:Shared} {σ:St} {H:Hp} {x:Str} {u:Value} {pos:Pos} {Q:Value→Shared→Prop} (I:Inv X pins σ H s) (hg:Gl X x) (hm:X.mg x=some u) (h:Q u s)
  (hd:(x == ("__debug__" : Str))=false:=by decide):wpAny (model X.prog X.w) X.A (eval (.Name x pos) X.env) Q E s :=
 Calls.Name_function_global I.ok.kind hg (Calls.loadGlobal_global (by rw [I.ok.glob]; exact I.mod.glob.keeps I.bk) hm h) hd
theorem jZ {E:Value→Shared→Prop} {pins:List (Addr × Obj)} {s:Shared} {σ:St} {H:Hp} {x:Str} {u:Value} {pos:Pos} {Q:Value→Shared→Prop} (I:Inv X pins σ H s) (hg:Gl X x) (hm:X.mg x=none) (hv:bootBuiltins x=some u) (h:Q u s)
  (hn:x ≠ "__name__" := by decide) (hd:(x == ("__debug__" : Str))=false:=by decide):wpAny (model X.prog X.w) X.A (eval (.Name x pos) X.env) Q E s:=by
 obtain ⟨mb,h1,h2⟩:=I.mod.blt
 exact Calls.Name_function_global I.ok.kind hg (Calls.loadGlobal_builtin (by rw [I.ok.glob]; exact I.mod.glob.keeps I.bk) hm (by rw [I.ok.blt]; exact h1.keeps I.bk) ((h2 x hn).trans hv) h) hd
theorem dI {x:Str} {v:V} {u:Value} {pos:Pos} (hg:Gl X x) (hm:X.mg x=some u) (r:RelV v u) (hd:(x == ("__debug__" : Str))=false:=by decide):PE X (.Name x pos) (tC v) :=
 fun _ _ _ H _ I h=>sd I hg hm ⟨v,H,I,r,h⟩ hd
theorem fe {x:Str} {v:V} {u:Value} {pos:Pos} (hg:Gl X x) (hm:X.mg x=none) (hv:bootBuiltins x=some u) (r:RelV v u) (hn:x ≠ "__name__" := by decide) (hd:(x == ("__debug__" : Str))=false:=by decide):PE X (.Name x pos) (tC v) :=
 fun _ _ _ H _ I h=>jZ I hg hm hv ⟨v,H,I,r,h⟩ hn hd
variable {a b:Expr} {ta tb:TE} {pos:Pos}
def PC (X:Cx) (op:CmpOp) (a b:Expr) (t:TE):Prop :=
 ∀ (pins:List (Addr × Obj)) (s:Shared) (σ:St) (H:Hp) (Q:VK),Inv X pins σ H s→t σ H Q →
  wpAny (model X.prog X.w) X.A (eval a X.env) (fun v s₁=>wpAny (model X.prog X.w) X.A (eval b X.env) (fun u s₂=>wpAny (model X.prog X.w) X.A (compareOp op v u) (EP X pins σ Q) X.xe s₂) X.xe s₁) X.xe s
def tB (t:TE):TT:=fun σ H Q=>t σ H fun x H1=>∃ c,x=.bl c∧Q c H1
theorem BH {op:CmpOp} {t:TE} (h:PC X op a b t) (h1:behindInMarks op b=false:=by first | exact BI _ (by decide) (by decide) | rfl):PE X (.Compare a [op] [b] pos) t:=fun pins s σ H Q I hw=>wpAny_Compare1 (h pins s σ H Q I hw) h1
theorem BJ {op:CmpOp} {t:TE} (h:PC X op a b t) (h1:behindInMarks op b=false:=by first | exact BI _ (by decide) (by decide) | rfl):PT X (.Compare a [op] [b] pos) (tB t):=by
 intro pins s σ H Q I hw
 refine wpAny_isTrue_Compare1 (cL (h pins s σ H _ I hw) fun v s1 h1=>cL h1 fun u s2 h2=>cL h2 fun c s3 ⟨x,H1,I1,r1,q1⟩=>?_) h1
 obtain ⟨d,rfl,q⟩:=q1
 cases r1
 exact wpAny_truthy_bool ⟨H1,I1,q⟩
theorem eB {e:Expr} {t:TE} (h:PE X e t) (he:∀ whole,isTrue e X.env whole=(do let v ← whole; standAt e.pos; holding [v] (truthy v)):=by intro _; rfl):PT X e (tB t):=by
 intro pins s σ H Q I hw
 refine isTrue_plain (cL (h pins s σ H _ I hw) fun v s1 ⟨x,H1,I1,r1,q1⟩=>?_) (he _)
 obtain ⟨d,rfl,q⟩:=q1
 cases r1
 exact wpAny_truthy_bool ⟨H1,I1,q⟩
variable {tA QU:TT} {rest:List Expr}
def RA (t u:TT):TT:=fun σ H Q=>t σ H fun c H1=>if c=true then u σ H1 Q else Q false H1
def tOr (t u:TT):TT:=fun σ H Q=>t σ H fun c H1=>if c=true then Q true H1 else u σ H1 Q
def RB (t:TT):TT:=fun σ H Q=>t σ H fun c H1=>Q (!c) H1
theorem d6 (ha:PT X a tA):PW X (.BoolOp .And [a] pos) tA:=by
 intro wh pins s σ H Q I h
 refine isTrue_and (cL (ha pins s σ H Q I h) fun c s1 e=>?_)
 cases c with
 | true=>exact isTrue_and_nil e
 | false=>exact e
theorem gX (ha:PT X a tA):PW X (.BoolOp .Or [a] pos) tA:=by
 intro wh pins s σ H Q I h
 refine isTrue_or (cL (ha pins s σ H Q I h) fun c s1 e=>?_)
 cases c with
 | false=>exact isTrue_or_nil e
 | true=>exact e
theorem eM (ha:PT X a tA) (hb:PW X (.BoolOp .And (b :: rest) pos) QU):PW X (.BoolOp .And (a :: b :: rest) pos) (RA tA QU):=by
 intro wh pins s σ H Q I h
 refine isTrue_and (cL (ha pins s σ H _ I h) fun c s1 ⟨H1,I1,q1⟩=>?_)
 cases c with
 | true=>exact hb wh pins s1 σ H1 Q I1 q1
 | false=>exact ⟨H1,I1,q1⟩
theorem iE (ha:PT X a tA) (hb:PW X (.BoolOp .Or (b :: rest) pos) QU):PW X (.BoolOp .Or (a :: b :: rest) pos) (tOr tA QU):=by
 intro wh pins s σ H Q I h
 refine isTrue_or (cL (ha pins s σ H _ I h) fun c s1 ⟨H1,I1,q1⟩=>?_)
 cases c with
 | true=>exact ⟨H1,I1,q1⟩
 | false=>exact hb wh pins s1 σ H1 Q I1 q1
theorem gG (ha:PT X a tA):PT X (.UnaryOp .Not a pos) (RB tA):=by
 intro pins s σ H Q I h
 exact isTrue_not (ha pins s σ H (fun c H1=>Q (!c) H1) I h)
def Mj (ta tb:TE):TE:=fun σ H Q=>ta σ H fun x H1=>∃ c,x=.bl c∧if c=true then tb σ H1 Q else Q (.bl false) H1
def Ml (ta:TE):TE:=fun σ H Q=>ta σ H fun x H1=>∃ c,x=.bl c∧Q (.bl (!c)) H1
theorem j0 {op} {t:TE} (h:PE X a t):PE X (.BoolOp op [a] pos) t:=fun pins s σ H Q I hw=>BoolOp_one (h pins s σ H Q I hw)
theorem iP (ha:PE X a ta) (hb:PE X (.BoolOp .And (b :: rest) pos) tb):PE X (.BoolOp .And (a :: b :: rest) pos) (Mj ta tb):=by
 intro pins s σ H Q I h
 refine BoolOp_and (cL (ha pins s σ H _ I h) fun v s1 ⟨x,H1,I1,r1,q1⟩=>?_)
 obtain ⟨c,rfl,q1⟩:=q1
 cases r1
 refine wpAny_truthy_bool ?_
 cases c with
 | true=>exact hb pins s1 σ H1 Q I1 q1
 | false=>exact ⟨.bl false,H1,I1,rfl,q1⟩
theorem JG (ha:PE X a ta):PE X (.UnaryOp .Not a pos) (Ml ta):=by
 intro pins s σ H Q I h
 refine UnaryOp_ (cL (ha pins s σ H _ I h) fun v s1 ⟨x,H1,I1,r1,q1⟩=>?_)
 obtain ⟨c,rfl,q1⟩:=q1
 cases r1
 exact not_of (wpAny_truthy_bool ⟨.bl (!c),H1,I1,rfl,q1⟩)
def tIf (t:TT) (ta tb:TE):TE:=fun σ H Q=>t σ H fun c H1=>if c=true then ta σ H1 Q else tb σ H1 Q
theorem uW {c:Expr} (hc:PT X c tA) (ha:PE X a ta) (hb:PE X b tb):PE X (.IfExp c a b pos) (tIf tA ta tb):=by
 intro pins s σ H Q I h
 refine wpAny_IfExp (cL (hc pins s σ H _ I h) fun d s1 ⟨H1,I1,q1⟩=>?_)
 cases d with
 | true=>exact ha pins s1 σ H1 Q I1 q1
 | false=>exact hb pins s1 σ H1 Q I1 q1
end
def bj (K:fm) (H:Hp) (a:Addr) (xs:List V):Prop :=
 Rd H a (.lst xs) ∨
  ∃ (o:Obj) (its:Array Value) (n:Nat),K.lookup a=some o∧o.cls=.type "list" ∧ o.dict=none∧o.data=.seq its n∧its.size ≤ de∧Vals xs its.toList
def aS (K:fm) (H:Hp) (a:Addr) (xs:List V):Prop :=
 Rd H a (.tup xs) ∨
  ∃ (o:Obj) (its:Array Value) (n:Nat),K.lookup a=some o∧o.cls=.type "tuple" ∧ o.data=.seq its n∧its.size ≤ de∧Vals xs its.toList
def RD:Value→Option V
 | .none=>some .non
 | .bool b=>some (.bl b)
 | .int i _=>some (.int i)
 | .str x _=>some (.str x)
 | .bytes b _=>some (.Bw b)
 | .float b _=>some (.flt b)
 | .ref a=>some (.ref a)
 | .type n=>some (.ty n)
 | _=>none
theorem RelV.abs {x:V} {u:Value} (r:RelV x u):RD u=some x:=by
 cases x with
 | non=>cases r; rfl
 | bl _=>cases r; rfl
 | int _=>obtain ⟨t,rfl⟩:=r; rfl
 | str _=>obtain ⟨t,rfl⟩:=r; rfl
 | Bw _=>obtain ⟨t,rfl⟩:=r; rfl
 | flt _=>obtain ⟨t,rfl⟩:=r; rfl
 | ref _=>cases r; rfl
 | ty _=>cases r; rfl
theorem RelV.inj {x y:V} {u:Value} (r:RelV x u) (q:RelV y u):x=y:=Option.some.inj (r.abs.symm.trans q.abs)
theorem Vals.inj:∀ {xs ys:List V} {us:List Value},Vals xs us→Vals ys us→xs=ys
 | _,_,_,.nil,.nil=>rfl
 | _,_,_,.cons r t,.cons r' t'=>by rw [r.inj r',Vals.inj t t']
section
variable {X:Cx} {pins:List (Addr × Obj)} {σ:St} {H:Hp} {s:Shared} {a:Addr} {xs ys:List V}
theorem bj.of {K:fm} (h:H a=some (.lst xs)):bj K H a xs:=.inl (.inl h)
theorem aS.of {K:fm} (h:H a=some (.tup xs)):aS K H a xs:=.inl (.inl h)
theorem Inv.list (I:Inv X pins σ H s) (h:bj X.K H a xs):∃ its:List Value,Vals xs its∧PlainL s.heap a its.toArray∧xs.length ≤ de:=by
 rcases h with h | ⟨o,its,n,hk,hc,hd,hs,hz,r⟩
 ·obtain ⟨z,its,n,r,e⟩:=h.ok I.hok
  exact ⟨its,r,⟨_,n,e,rfl,rfl,rfl⟩,z⟩
 ·refine ⟨its.toList,r,⟨o,n,I.lG a o hk,hc,hd,by simpa using hs⟩,?_⟩
  have e:=r.length
  simp only [Array.length_toList] at e
  omega
theorem Inv.tuple (I:Inv X pins σ H s) (h:aS X.K H a xs):∃ its:List Value,Vals xs its∧IsTup s.heap a its.toArray∧xs.length ≤ de:=by
 rcases h with h | ⟨o,its,n,hk,hc,hs,hz,r⟩
 ·obtain ⟨z,its,r,p⟩:=h.ok I.hok
  exact ⟨its,r,p,z⟩
 ·refine ⟨its.toList,r,⟨o,I.lG a o hk,hc,n,by simpa using hs⟩,?_⟩
  have e:=r.length
  simp only [Array.length_toList] at e
  omega
theorem Inv.ou (I:Inv X pins σ H s) (h:bj X.K H a xs) (h':bj X.K H a ys):xs=ys:=by
 obtain ⟨its,r,⟨o,n,e,_,_,d⟩,_⟩:=I.list h
 obtain ⟨its',r',⟨o',n',e',_,_,d'⟩,_⟩:=I.list h'
 rw [e] at e'; cases e'
 rw [d] at d'
 injection d' with d1 _
 have:its=its':=by simpa using congrArg Array.toList d1
 subst this
 exact r.inj r'
theorem Inv.jm (I:Inv X pins σ H s) (h:aS X.K H a xs) (h':aS X.K H a ys):xs=ys:=by
 obtain ⟨its,r,⟨o,e,_,n,d⟩,_⟩:=I.tuple h
 obtain ⟨its',r',⟨o',e',_,n',d'⟩,_⟩:=I.tuple h'
 rw [e] at e'; cases e'
 rw [d] at d'
 injection d' with d1 _
 have:its=its':=by simpa using congrArg Array.toList d1
 subst this
 exact r.inj r'
end
abbrev Cx.wish (X:Cx) (E:Value→Shared→Prop):Cx:={ X with xe:=E }
abbrev Cx.QV (X:Cx):Cx:=X.wish fun _ _=>False
theorem Cx.Ok.wish {X:Cx} (ok:X.Ok) (E:Value→Shared→Prop):(X.wish E).Ok :=
 ⟨ok.mod,ok.kind,ok.glob,ok.blt,ok.above,ok.inj,ok.has,ok.cab,ok.hd,ok.frames,ok.stk,ok.Rv,ok.bs,ok.EZ,ok.BF,ok.BG,ok.mU,ok.JD⟩
theorem Cx.Ok.jb {X:Cx} {E:Value→Shared→Prop} (ok:(X.wish E).Ok):X.Ok :=
 ⟨ok.mod,ok.kind,ok.glob,ok.blt,ok.above,ok.inj,ok.has,ok.cab,ok.hd,ok.frames,ok.stk,ok.Rv,ok.bs,ok.EZ,ok.BF,ok.BG,ok.mU,ok.JD⟩
section
variable {X:Cx} {pins:List (Addr × Obj)} {σ:St} {H:Hp} {s:Shared} {E:Value→Shared→Prop}
theorem Inv.wish (I:Inv X pins σ H s) (E:Value→Shared→Prop):Inv (X.wish E) pins σ H s:=⟨I.ok.wish E,I.os,I.bare,I.base,I.loc,I.cell,I.free,I.jO,I.pin,I.hok,I.len⟩
theorem Inv.jb (I:Inv (X.wish E) pins σ H s):Inv X pins σ H s:=⟨I.ok.jb,I.os,I.bare,I.base,I.loc,I.cell,I.free,I.jO,I.pin,I.hok,I.len⟩
theorem SP.jb {D:Ends} {f:Flow} {s':Shared} (h:SP (X.wish E) pins D f s'):SP X pins D f s':=by
 cases f with
 | next=>obtain ⟨σ',H',I,q⟩:=h; exact ⟨σ',H',I.jb,q⟩
 | brk=>obtain ⟨σ',H',I,q⟩:=h; exact ⟨σ',H',I.jb,q⟩
 | cont=>obtain ⟨σ',H',I,q⟩:=h; exact ⟨σ',H',I.jb,q⟩
 | ret u=>obtain ⟨v,σ',H',I,r,q⟩:=h; exact ⟨v,σ',H',I.jb,r,q⟩
theorem rZ.QV {st:List Stmt} {t:TS} (h:rZ X.QV st t):rZ X st t:=fun pins s σ H D I hw =>
 dL (h pins s σ H D (I.wish _) hw) (fun _ _ q=>q.jb) fun _ _ z=>False.elim z
end
section
variable {X:Cx} {st:Stmt} {rest:List Stmt} {t u:TS} {e:Expr} {te:TE} {pos:Pos}
def Mp:TS:=fun D σ H=>D.nx σ H
def Fb (t u:TS):TS:=fun D σ H=>t { D with nx:=u D } σ H
theorem aN:rZ X [] Mp:=fun _ _ σ H _ I h=>wpAny_execs_nil ⟨σ,H,I,h⟩
theorem aB (h1:PS X st t) (h2:rZ X rest u):rZ X (st :: rest) (Fb t u):=by
 intro pins s σ H D I h
 refine wpAny_execs_cons (cL (h1 pins s σ H { D with nx:=u D } I h) fun f s1 q=>?_)
 cases f with
 | next =>
  obtain ⟨σ',H',I',q⟩:=q
  exact h2 pins s1 σ' H' D I' q
 | ret v=>exact q
 | brk=>exact q
 | cont=>exact q
theorem aA (h1:PS X st t):rZ X [st] t:=by
 intro pins s σ H D I h
 refine wpAny_execs_cons (cL (h1 pins s σ H D I h) fun f s1 q=>?_)
 cases f with
 | next=>exact wpAny_execs_nil q
 | ret v=>exact q
 | brk=>exact q
 | cont=>exact q
theorem Inv.quiet {pins:List (Addr × Obj)} {σ:St} {H:Hp} {s:Shared} (I:Inv X pins σ H s):interactive X.env=false:=by simp [interactive,I.ok.kind]
def Mq (te:TE):TS:=fun D σ H=>te σ H fun _ H1=>D.nx σ H1
theorem bz (he:PE X e te) (hs:swapsWith e none pos.line X.env=pure false:=by rfl):PS X (.Expr e pos) (Mq te):=by
 intro pins s σ H D I h
 exact wpAny_Expr_any (cL (he pins s σ H _ I h) fun v s1 ⟨x,H1,I1,r1,q1⟩=>⟨σ,H1,I1,q1⟩) I.quiet hs
def Mr (te:TE):TS:=fun D σ H=>te σ H D.rt
theorem aV (he:PE X e te):PS X (.Return (some e) pos) (Mr te):=by
 intro pins s σ H D I h
 exact wpAny_Return_some (cL (he pins s σ H _ I h) fun v s1 ⟨x,H1,I1,r1,q1⟩=>⟨x,σ,H1,I1,r1,q1⟩)
def Mt:TS:=fun D _ H=>D.rt .non H
theorem Fc:PS X (.Return none pos) Mt:=fun _ _ σ H _ I h=>wpAny_Return_none ⟨.non,σ,H,I,rfl,h⟩
def Mu (c:TT) (t u:TS):TS:=fun D σ H=>c σ H fun b H1=>if b=true then t D σ H1 else u D σ H1
theorem cq {c:Expr} {a b:List Stmt} {tc:TT} (hc:PT X c tc) (ha:rZ X a t) (hb:rZ X b u):PS X (.If c a b pos) (Mu tc t u):=by
 intro pins s σ H D I h
 refine wpAny_If (cL (hc pins s σ H _ I h) fun d s1 ⟨H1,I1,q1⟩=>?_)
 cases d with
 | true=>exact ha pins s1 σ H1 D I1 q1
 | false=>exact hb pins s1 σ H1 D I1 q1
def BK:TS:=fun _ _ _=>False
theorem jc:PS X st BK:=fun _ _ _ _ _ _ h=>h.elim
theorem lH {sts:List Stmt}:rZ X sts BK:=fun _ _ _ _ _ _ h=>h.elim
end
abbrev TG:=V→St→Hp→(St→Hp→Prop)→Prop
abbrev JH:=List V→St→Hp→(St→Hp→Prop)→Prop
def PG (X:Cx) (target:Expr) (t:TG):Prop :=
 ∀ (pins:List (Addr × Obj)) (s:Shared) (σ:St) (H:Hp) (v:V) (u:Value) (Q:St→Hp→Prop),Inv X pins σ H s→RelV v u→t v σ H Q →
  wpAny (model X.prog X.w) X.A (assign target X.env u) (fun _ s'=>∃ σ' H',Inv X pins σ' H' s'∧Q σ' H') X.xe s
def QW (X:Cx) (ts:List Expr) (t:JH):Prop :=
 ∀ (pins:List (Addr × Obj)) (s:Shared) (σ:St) (H:Hp) (vs:List V) (us:List Value) (Q:St→Hp→Prop),Inv X pins σ H s→Vals vs us→t vs σ H Q →
  wpAny (model X.prog X.w) X.A (assignInOrder ((assignEach ts X.env).map (·.2)) us) (fun _ s'=>∃ σ' H',Inv X pins σ' H' s'∧Q σ' H') X.xe s
abbrev JI:=V→V→V→Hp→(Hp→Prop)→Prop
def Mv (X:Cx) (t:JI):Prop :=
 ∀ (pins:List (Addr × Obj)) (s:Shared) (σ:St) (H:Hp) (o i v:V) (ov iv u:Value) (Q:Hp→Prop),Inv X pins σ H s→RelV o ov→RelV i iv→RelV v u→t o i v H Q →
  wpAny (model X.prog X.w) X.A (setItem ov iv u) (fun _ s'=>∃ H',Inv X pins σ H' s'∧Q H') X.xe s
section
variable {X:Cx} {pos:Pos}
def gY (i:Nat):TG:=fun v σ H Q=>Q (σ.set i (some v)) H
theorem cG {i:Nat} {x:Str} (hN:X.N.Nodup) (hi:X.N[i]? = some x) (hx:Loc X.env.scope x) (hf:X.fn x=true∨X.env.scope.names.lookup x=some .local:=by first | exact .inl rfl | exact .inr rfl | assumption):PG X (.Name x pos) (gY i):=by
 intro pins s σ H v u Q I r h
 exact wpAny_assign_Name (uV I hN hi hx r (fun s' I'=>⟨_,H,I',h⟩) hf)
def JJ:JH:=fun vs σ H Q=>vs=[]∧Q σ H
def uX (t:TG) (u:JH):JH:=fun vs σ H Q=>∃ v r,vs=v :: r∧t v σ H fun σ' H'=>u r σ' H' Q
theorem sg:QW X [] JJ:=by
 intro pins s σ H vs us Q I r h
 obtain ⟨e,h⟩:=h
 subst e
 cases r
 exact assignInOrder_nil ⟨σ,H,I,h⟩
theorem gq {e:Expr} {es:List Expr} {t:TG} {u:JH} (h1:PG X e t) (h2:QW X es u)
  (hs:(assignEach (e :: es) X.env).map (·.2)=assign e X.env :: (assignEach es X.env).map (·.2):=by rfl):QW X (e :: es) (uX t u):=by
 intro pins s σ H vs us Q I r h
 obtain ⟨v,vr,e1,h⟩:=h
 subst e1
 cases r with
 | cons r rr =>
  rw [hs]
  refine assignInOrder_cons (cL (h1 pins s σ H _ _ _ I r h) fun _ s1 ⟨σ1,H1,I1,q1⟩=>?_)
  exact h2 pins s1 σ1 H1 _ _ Q I1 rr q1
def JK (K:fm) (n:Nat) (t:JH):TG:=fun v σ H Q=>∃ a xs,v=.ref a∧aS K H a xs∧xs.length=n∧t xs σ H Q
theorem v7 {es:List Expr} {k:Nat} {t:JH} {n:Nat} (hc:X.calm=true) (h:QW X es t)
  (hn:(assignEach es X.env).length=n:=by rfl) (hst:(assignEach es X.env).findIdx? (·.1)=none:=by rfl):PG X (.Tuple es k pos) (JK X.K n t):=by
 intro pins s σ H v u Q I r hw
 obtain ⟨a,xs,e1,hq,hl,hw⟩:=hw
 subst e1
 cases r
 obtain ⟨its,rv,ht,hz⟩:=I.tuple hq
 refine assign_Tuple_tuple (I.ok.hd hc) ht (by simp [hn,← hl,rv.length]) hst fun h' hx=>?_
 have I1:Inv X pins σ H { s with heap:=h' }:=I.kept (t':=s.toks) fun b o e=>hx b o (ij (et e)) e
 exact h pins _ σ H xs _ Q I1 (by simpa using rv) hw
def RE (to ti:TE) (t:JI):TG:=fun v σ H Q=>to σ H fun o H1=>ti σ H1 fun i H2=>t o i v H2 fun H3=>Q σ H3
theorem eN {o i:Expr} {to ti:TE} {t:JI} (ho:PE X o to) (hi:PE X i ti) (hs:Mv X t)
  (ha:∀ v,assign (.Subscript o i pos) X.env v=(do
   let ov ← holding [v] (eval o X.env)
   let iv ← holding [v,ov] (eval i X.env)
   standAt pos
   holding [v,ov,iv] (setItem ov iv v)
   release [v,ov,iv] []):=by intro _; rfl):PG X (.Subscript o i pos) (RE to ti t):=by
 intro pins s σ H v u Q I r h
 rw [ha]
 refine cb (wpAny_holding (cL (ho pins s σ H _ I h) fun ov s1 ⟨x,H1,I1,r1,q1⟩=>?_))
 refine cb (wpAny_holding (cL (hi pins s1 σ H1 _ I1 q1) fun iv s2 ⟨y,H2,I2,r2,q2⟩=>?_))
 refine cb (wpAny_standAt (cb (wpAny_holding (cL (hs pins s2 σ H2 x y v ov iv u _ I2 r1 r2 r q2) fun _ s3 ⟨H3,I3,q3⟩=>?_))))
 exact wpAny_release ⟨σ,H3,I3,q3⟩
def BL (te:TE) (g:TG):TS:=fun D σ H=>te σ H fun x H1=>g x σ H1 D.nx
theorem dP {tg e:Expr} {te:TE} {g:TG} (he:PE X e te) (hg:PG X tg g) (hs:swapsWithSole [tg] e pos.line X.env=pure false:=by rfl) (hw:swappedStores [tg] e X.env=pure none:=by rfl)
  (h1:(assignEach [tg] X.env).map (·.2)=[assign tg X.env]:=by rfl):PS X (.Assign [tg] e pos) (BL te g):=by
 intro pins s σ H D I h
 refine wpAny_Assign_stores (cL (he pins s σ H _ I h) fun v s1 ⟨x,H1,I1,r1,q1⟩=>?_) hs hw
 rw [h1]
 exact cL (hg pins s1 σ H1 x v _ I1 r1 q1) fun _ s2 q=>q
theorem aU {i:Nat} {x:Str} {e:Expr} {te:TE} {pos':Pos} (hN:X.N.Nodup) (hi:X.N[i]? = some x) (hx:Loc X.env.scope x) (he:PE X e te) (hs:swapsWith e (some (.Name x pos')) pos.line X.env=pure false:=by rfl) (hf:X.fn x=true∨X.env.scope.names.lookup x=some .local:=by first | exact .inl rfl | exact .inr rfl | assumption) :
  PS X (.Assign [.Name x pos'] e pos) (BL te (gY i)):=by
 intro pins s σ H D I h
 refine wpAny_Assign_Name (cL (he pins s σ H _ I h) fun v s1 ⟨y,H1,I1,r1,q1⟩=>?_) hs
 exact uV I1 hN hi hx r1 (fun s2 I2=>⟨_,H1,I2,q1⟩) hf
end
section
variable {X:Cx} {pos:Pos}
def JL (c:TT) (tb:TS):TS:=fun D σ H=>∃ W:Nat→St→Hp→Prop,(∃ m,W m σ H)∧∀ m σ H,W m σ H →
 c σ H fun b H1=>if b=true then ∃ N:St→Hp→Prop,(∀ σ' H',N σ' H'→∃ m',m' < m∧W m' σ' H')∧tb { D with nx:=N,ct:=N,bk:=D.nx } σ H1 else D.nx σ H1
theorem ow {c:Expr} {body:List Stmt} {tc:TT} {tb:TS} (hp:PassesOwn (model X.prog X.w) X.A X.env X.xe) (hc:PT X c tc) (hb:rZ X body tb):PS X (.While c body [] pos) (JL tc tb):=by
 intro pins s σ H D I h
 obtain ⟨W,⟨m0,w0⟩,turn⟩:=h
 refine wpAny_While (codeAny_whileLoop (fun n s'=>∃ σ' H',Inv X pins σ' H' s'∧W n σ' H') ?_ m0 ⟨σ,H,I,w0⟩)
 rintro n s1 ⟨σ1,H1,I1,w1⟩
 refine wpAny_passesOwn hp (cL (hc pins s1 σ1 H1 _ I1 (turn n σ1 H1 w1)) fun b s2 ⟨H2,I2,q2⟩=>?_)
 cases b with
 | true =>
  obtain ⟨N,hN,q2⟩:=q2
  rw [if_pos rfl]
  refine wpAny_passesOwn hp (cL (hb pins s2 σ1 H2 _ I2 q2) fun f s3 q3=>?_)
  cases f with
  | next =>
   obtain ⟨σ3,H3,I3,n3⟩:=q3
   obtain ⟨m',hm,w3⟩:=hN σ3 H3 n3
   exact ⟨m',hm,σ3,H3,I3,w3⟩
  | cont =>
   obtain ⟨σ3,H3,I3,n3⟩:=q3
   obtain ⟨m',hm,w3⟩:=hN σ3 H3 n3
   exact ⟨m',hm,σ3,H3,I3,w3⟩
  | brk=>exact q3
  | ret v=>exact q3
 | false =>
  rw [if_neg ir]
  exact wpAny_execs_nil ⟨σ1,H2,I2,q2⟩
end
structure It where
 go:Nat→Hp→Prop
 BM:Nat→Hp→V→Hp→Prop
 stop:Nat→Hp→Prop
def ox (X:Cx) (pins:List (Addr × Obj)) (H:Hp) (b:Addr):Prop :=
 H b=none∧b ≠ X.env.locals∧b ∉ X.fs∧(b ∈ X.ex∨X.s₀.heap.objs.size ≤ b)∧(∀ x c,X.env.cells.lookup x=some c→c ≠ b)∧∀ p ∈ X.pn ++ pins,p.1 ≠ b
theorem Inv.BO {X:Cx} {pins:List (Addr × Obj)} {σ:St} {H H':Hp} {s:Shared} {b:Addr} (I:Inv X pins σ H s) (hb:s.heap.objs.size ≤ b) (hn:H' b=none):ox X pins H' b:=by
 refine ⟨hn,Nat.ne_of_gt (Nat.lt_of_lt_of_le I.lt hb),I.Ry hb,.inr (io I.sz hb),fun x c e z=>?_,fun p hp z=>?_⟩
 ·obtain ⟨v,q⟩:=I.cell x c e
  exact absurd (Nat.lt_of_lt_of_le q.lt (by rw [z]; exact hb)) (Nat.lt_irrefl _)
 ·exact absurd (Nat.lt_of_lt_of_le (et (I.pin p hp).1) (by rw [z]; exact hb)) (Nat.lt_irrefl _)
structure Turn (P:Program) (w:World) (K:fm) (tg:Expr) (J:It) (fp:List Addr) (it:Addr) (tn:Nat→Heap→Prop):Prop where
 mem:it ∈ fp
 obj:∀ i h,tn i h→∀ b ∈ fp,∃ o,h.get? b=some o∧∀ v,o.data ≠ .cell v
 keep:∀ i h h',tn i h→(∀ b ∈ fp,∀ o,h.get? b=some o→h'.get? b=some o)→tn i h'
 item:∀ (X:Cx),X.prog=P→X.w=w→X.K=K→X.calm=true→∀ (i:Nat) (pins:List (Addr × Obj)) (s:Shared) (σ:St) (H:Hp) (E:Value→Shared→Prop),Inv X pins σ H s→(∀ b ∈ fp,ox X pins H b)→tn i s.heap→J.go i H →
  wpAny (model P w) X.A (pyNext (.ref it)) (fun r s1=>∃ u,r=some u ∧
   wpAny (model P w) X.A (letOwnedTupleGo tg (.ref it) u) (fun _ s2=>∃ x H',Inv X pins σ H' s2∧RelV x u∧J.BM i H x H'∧tn (i + 1) s2.heap∧∀ b ∈ fp,H' b=none) E s1) E s
 done:∀ (X:Cx),X.prog=P→X.w=w→X.K=K→X.calm=true→∀ (i:Nat) (pins:List (Addr × Obj)) (s:Shared) (σ:St) (H:Hp) (E:Value→Shared→Prop),Inv X pins σ H s→(∀ b ∈ fp,ox X pins H b)→tn i s.heap→J.stop i H →
  wpAny (model P w) X.A (pyNext (.ref it)) (fun r s1=>r=none∧Inv X pins σ H s1) E s
 self:∀ (A:Around) (i:Nat) (s:Shared) (Q:Value→Shared→Prop) (E:Value→Shared→Prop),tn i s.heap→Q (.ref it) s→wpAny (model P w) A (pyIter (.ref it)) Q E s
abbrev TI:=St→Hp→(It→Hp→Prop)→Prop
def PIE (X:Cx) (pins:List (Addr × Obj)) (σ:St) (tg:Expr) (R:It→Hp→Prop) (itv:Value) (s2:Shared):Prop :=
 ∃ (it:Addr) (fp:List Addr) (tn:Nat→Heap→Prop) (J:It) (H':Hp),itv=.ref it∧Inv X pins σ H' s2∧Turn X.prog X.w X.K tg J fp it tn∧tn 0 s2.heap∧(∀ b ∈ fp,ox X pins H' b)∧R J H'
def PI (X:Cx) (tg iter:Expr) (wi:TI):Prop :=
 ∀ (pins:List (Addr × Obj)) (s:Shared) (σ:St) (H:Hp) (R:It→Hp→Prop),Inv X pins σ H s→wi σ H R →
  wpAny (model X.prog X.w) X.A (eval iter X.env) (fun v s1=>wpAny (model X.prog X.w) X.A (pyIter v) (PIE X pins σ tg R) X.xe s1) X.xe s
theorem BP {M:Model} {A:Around} {E:Value→Shared→Prop} {s:Shared} {tg:Expr} {it:Addr} {u:Value} {o:Obj} {n:String} {vs:Array Value} {Q:Unit→Shared→Prop} (ho:s.heap.get? it=some o) (hc:o.cls=.type n) (hd:o.data=.fields vs)
  (hn:["enumerate", "zip", "dict_itemiterator", "dict_reverseitemiterator", "odict_iterator", "itertools.zip_longest", "itertools.pairwise"].contains n=false) (hQ:Q () s):wpAny M A (letOwnedTupleGo tg (.ref it) u) Q E s:=by
 unfold letOwnedTupleGo
 cases tg <;> first
  | exact ce hQ
  | (cases u <;> first
    | exact ce hQ
    | (refine cb (wpAny_load ho ?_)
       rw [hc,hd]
       show wpAny M A (if (["enumerate", "zip", "dict_itemiterator", "dict_reverseitemiterator", "odict_iterator", "itertools.zip_longest", "itertools.pairwise"].contains n && vs[0]? == some (rawInt _))=true then _ else _) Q E s
       rw [if_neg (by intro h; rw [hn,Bool.false_and] at h; cases h)]
       exact ce hQ))
def BQ (K:fm) (a:Addr):It :=
 ⟨fun i H=>∃ xs x,bj K H a xs∧xs[i]? = some x,fun i H x H'=>H'=H∧∀ xs,bj K H a xs→xs[i]? = some x,fun i H=>∃ xs,bj K H a xs∧xs.length ≤ i⟩
def Mw (K:fm) (a:Addr):It :=
 ⟨fun i H=>∃ xs x,aS K H a xs∧xs[i]? = some x,fun i H x H'=>H'=H∧∀ xs,aS K H a xs→xs[i]? = some x,fun i H=>∃ xs,aS K H a xs∧xs.length ≤ i⟩
def Fd (lo:Int) (n:Nat):It:=⟨fun i _=>i < n,fun i H x H'=>H'=H∧x=.int (lo + i),fun i _=>n ≤ i⟩
theorem zR {P:Program} {w:World} {K:fm} {tg:Expr} (a it:Addr):Turn P w K tg (BQ K a) [it] it (fun i h=>h.IsListIter it a i) where
 mem:=by simp
 obj:=fun i h st b hb=>by
  have e:b=it:=by simpa using hb
  subst e
  obtain ⟨o,e,c,d⟩:=st
  exact ⟨o,e,fun v z=>by rw [d] at z; cases z⟩
 keep:=fun i h h' st k=>st.at fun o e=>k it (by simp) o e
 item:=by
  intro X hP hw hK hc i pins s σ H E I hf st hg
  subst hP hw hK
  obtain ⟨xs,x,hq,hx⟩:=hg
  obtain ⟨its,rv,p,hz⟩:=I.list hq
  obtain ⟨u,hu,ru⟩:=rv.get hx
  obtain ⟨f0,f1,f2,f3,f4,f5⟩:=hf it (by simp)
  refine wpAny_pyNext_list_item st p.isList (x:=u) (by simpa using hu) fun h' st' sb=>?_
  have I1:Inv X pins σ H { s with heap:=h' }:=I.turned (t':=s.toks) (fun b o hb e=>(sb.2 b hb).trans e) f0 f1 f3 f4 f5
  obtain ⟨o,e,c,d⟩:=id st'
  exact ⟨u,rfl,BP (s:={ s with heap:=h' }) e c d (by decide) ⟨x,H,I1,ru,⟨rfl,fun ys hy=>by rw [I.ou hy hq]; exact hx⟩,st',fun b hb=>(hf b hb).1⟩⟩
 done:=by
  intro X hP hw hK hc i pins s σ H E I hf st hg
  subst hP hw hK
  obtain ⟨xs,hq,hx⟩:=hg
  obtain ⟨its,rv,p,hz⟩:=I.list hq
  obtain ⟨f0,f1,f2,f3,f4,f5⟩:=hf it (by simp)
  have hl:=rv.length
  exact wpAny_pyNext_list_end (I.ok.hd hc) st p.isList (by simp; omega) fun h' eb=>⟨rfl,I.turned (t':=s.toks) (fun b o hb e=>eb b o hb e) f0 f1 f3 f4 f5⟩
 self:=fun _ _ _ _ _ st h=>wpAny_pyIter_listiter st h
theorem v8 {P:Program} {w:World} {K:fm} {tg:Expr} (a it:Addr):Turn P w K tg (Mw K a) [it] it (fun i h=>h.IsTupleIter it a i) where
 mem:=by simp
 obj:=fun i h st b hb=>by
  have e:b=it:=by simpa using hb
  subst e
  obtain ⟨o,e,c,d⟩:=st
  exact ⟨o,e,fun v z=>by rw [d] at z; cases z⟩
 keep:=fun i h h' st k=>st.at fun o e=>k it (by simp) o e
 item:=by
  intro X hP hw hK hc i pins s σ H E I hf st hg
  subst hP hw hK
  obtain ⟨xs,x,hq,hx⟩:=hg
  obtain ⟨its,rv,p,hz⟩:=I.tuple hq
  obtain ⟨u,hu,ru⟩:=rv.get hx
  obtain ⟨f0,f1,f2,f3,f4,f5⟩:=hf it (by simp)
  refine wpAny_pyNext_tuple_item st (show s.heap.IsTuple a its.toArray from p) (x:=u) (by simpa using hu) fun h' st' sb=>?_
  have I1:Inv X pins σ H { s with heap:=h' }:=I.turned (t':=s.toks) (fun b o hb e=>(sb.2 b hb).trans e) f0 f1 f3 f4 f5
  obtain ⟨o,e,c,d⟩:=id st'
  exact ⟨u,rfl,BP (s:={ s with heap:=h' }) e c d (by decide) ⟨x,H,I1,ru,⟨rfl,fun ys hy=>by rw [I.jm hy hq]; exact hx⟩,st',fun b hb=>(hf b hb).1⟩⟩
 done:=by
  intro X hP hw hK hc i pins s σ H E I hf st hg
  subst hP hw hK
  obtain ⟨xs,hq,hx⟩:=hg
  obtain ⟨its,rv,p,hz⟩:=I.tuple hq
  obtain ⟨f0,f1,f2,f3,f4,f5⟩:=hf it (by simp)
  have hl:=rv.length
  exact wpAny_pyNext_tuple_end (I.ok.hd hc) st (show s.heap.IsTuple a its.toArray from p) (by simp; omega) fun h' eb=>⟨rfl,I.turned (t':=s.toks) (fun b o hb e=>eb b o hb e) f0 f1 f3 f4 f5⟩
 self:=fun _ _ _ _ _ st h=>wpAny_pyIter_tupleiter st h
theorem wa {P:Program} {w:World} {K:fm} {tg:Expr} (it:Addr) (lo:Int) (n:Nat):Turn P w K tg (Fd lo n) [it] it (fun i h=>IsRangeIter h it (lo + (i:Nat) * 1) ((n:Int) - (i:Nat)) 1) where
 mem:=by simp
 obj:=fun i h st b hb=>by
  have e:b=it:=by simpa using hb
  subst e
  exact ⟨_,st,fun v z=>by
   have z':Data.fields _=Data.cell v:=z
   cases z'⟩
 keep:=fun i h h' st k=>k it (by simp) _ st
 item:=by
  intro X hP hw hK hc i pins s σ H E I hf st hg
  subst hP hw hK
  obtain ⟨f0,f1,f2,f3,f4,f5⟩:=hf it (by simp)
  have W:=Walks.range (prog:=X.prog) (w:=X.w) (I.ok.hd hc) it lo 1 n
  refine W.item i s _ _ hg st fun v h' tk hv st' kk=>?_
  obtain ⟨t,rfl⟩:=hv
  have I1:Inv X pins σ H { s with heap:=h',toks:=tk }:=I.turned (fun b o hb e=>kk b o (by simpa using hb) e) f0 f1 f3 f4 f5
  refine ⟨_,rfl,BP (s:={ s with heap:=h',toks:=tk }) (n := "range_iterator") st' rfl rfl (by decide) ⟨.int (lo + i),H,I1,⟨t,?_⟩,⟨rfl,rfl⟩,st',fun b hb=>(hf b hb).1⟩⟩
  rw [Int.mul_one]
 done:=by
  intro X hP hw hK hc i pins s σ H E I hf st hg
  subst hP hw hK
  obtain ⟨f0,f1,f2,f3,f4,f5⟩:=hf it (by simp)
  exact wpAny_pyNext_range_end (I.ok.hd hc) st (by have:n ≤ i:=hg; omega) fun h' eb=>⟨rfl,I.turned (t':=s.toks) (fun b o hb e=>eb b o hb e) f0 f1 f3 f4 f5⟩
 self:=fun _ _ _ _ _ st h=>wpAny_pyIter_rangeiter st h
section
variable {X:Cx} {tg:Expr}
def Mx (K:fm) (tl:TE):TI:=fun σ H R=>tl σ H fun x H1=>∃ a,x=.ref a∧(∃ xs,bj K H1 a xs)∧R (BQ K a) H1
def RF (K:fm) (tl:TE):TI:=fun σ H R=>tl σ H fun x H1=>∃ a,x=.ref a∧(∃ xs,aS K H1 a xs)∧R (Mw K a) H1
theorem dB {l:Expr} {tl:TE} (hl:PE X l tl):PI X tg l (Mx X.K tl):=by
 intro pins s σ H R I h
 refine cL (hl pins s σ H _ I h) fun v s1 ⟨x,H1,I1,r1,q1⟩=>?_
 obtain ⟨a,e,⟨xs,hq⟩,q⟩:=q1
 subst e
 cases r1
 obtain ⟨its,rv,p,hz⟩:=I1.list hq
 refine wpAny_pyIter_list p.isList ?_
 refine ⟨s1.heap.objs.size,[s1.heap.objs.size],_,_,H1,rfl,I1.kept (t':=s1.toks) fun b o e=>el _ e,zR a _,⟨_,em _ rfl,rfl,rfl⟩,fun b hb=>?_,q⟩
 have e:b=s1.heap.objs.size:=by simpa using hb
 subst e
 exact I1.BO (ii _) (I1.hok.fresh (ii _))
theorem JM {l:Expr} {tl:TE} (hl:PE X l tl):PI X tg l (RF X.K tl):=by
 intro pins s σ H R I h
 refine cL (hl pins s σ H _ I h) fun v s1 ⟨x,H1,I1,r1,q1⟩=>?_
 obtain ⟨a,e,⟨xs,hq⟩,q⟩:=q1
 subst e
 cases r1
 obtain ⟨its,rv,p,hz⟩:=I1.tuple hq
 refine wpAny_pyIter_tuple (show s1.heap.IsTuple a its.toArray from p) ?_
 refine ⟨s1.heap.objs.size,[s1.heap.objs.size],_,_,H1,rfl,I1.kept (t':=s1.toks) fun b o e=>el _ e,v8 a _,⟨_,em _ rfl,rfl,rfl⟩,fun b hb=>?_,q⟩
 have e:b=s1.heap.objs.size:=by simpa using hb
 subst e
 exact I1.BO (ii _) (I1.hok.fresh (ii _))
theorem BR {pins:List (Addr × Obj)} {σ:St} {H:Hp} {s:Shared} {R:It→Hp→Prop} {E:Value→Shared→Prop} {lo hi:Int} {t u v:Tok} {tk:Nat} (I:Inv X pins σ H s) (h1:-(2 ^ 62) ≤ lo) (h2:lo < 2 ^ 62) (h3:-(2 ^ 62) ≤ hi) (h4:hi < 2 ^ 62)
  (q:R (Fd lo (hi - lo).toNat) H):wpAny (model X.prog X.w) X.A (pyIter (.ref s.heap.objs.size)) (PIE X pins σ tg R) E { s with heap:=s.heap.push { cls:=.type "range",data:=.fields #[.int lo t,.int hi u,.int 1 v] },toks:=tk }:=by
 refine wpAny_pyIter_range (IsRange.new ..) (small_one h1 h2 h3 h4) ?_
 have I1:Inv X pins σ H { s with heap:=s.heap.push { cls:=.type "range",data:=.fields #[.int lo t,.int hi u,.int 1 v] },toks:=tk }:=I.kept fun b o e=>el _ e
 refine ⟨(s.heap.push { cls:=.type "range",data:=.fields #[.int lo t,.int hi u,.int 1 v] }).objs.size,[(s.heap.push { cls:=.type "range",data:=.fields #[.int lo t,.int hi u,.int 1 v] }).objs.size],_,_,H,rfl,
  I1.kept (t':=tk) fun b o e=>el _ e,wa _ lo (hi - lo).toNat,?_,fun b hb=>?_,q⟩
 ·have e1:lo + ((0:Nat):Int) * 1=lo:=by simp
  have e2:(((hi - lo).toNat:Nat):Int) - ((0:Nat):Int)=Builtin.Range.rangeSize lo hi 1:=by rw [rangeSize_one]; split <;> omega
  show IsRangeIter _ _ (lo + ((0:Nat):Int) * 1) ((((hi - lo).toNat:Nat):Int) - ((0:Nat):Int)) 1
  rw [e1,e2]
  exact em _ rfl
 ·have e:b=(s.heap.push { cls:=.type "range",data:=.fields #[.int lo t,.int hi u,.int 1 v] }).objs.size:=by simpa using hb
  subst e
  exact I1.BO (ii _) (I1.hok.fresh (ii _))
def Mz (ta:TA):TI:=fun σ H R=>ta σ H fun vs H1=>∃ j:Int,vs=[.int j]∧-(2 ^ 62) ≤ j∧j < 2 ^ 62∧R (Fd 0 j.toNat) H1
theorem lI {a:Expr} {ta:TA} {p pos:Pos} (hg:Gl X "range") (hm:X.mg "range" = none) (ha:PA X [a] ta) (hs:starEach [a] X.env=[(false,eval a X.env)]:=by rfl):PI X tg (.Call (.Name "range" p) [a] [] pos) (Mz ta):=by
 intro pins s σ H R I h
 refine Call_ (jZ I hg hm boot_range (PyProof.Rows.callWith_type1 (cL (ha pos pins s σ H _ I h) fun us s1 ⟨vs,H1,I1,r1,q1⟩=>?_) hs rfl))
 obtain ⟨j,e,q1,q2,q⟩:=q1
 subst e
 cases r1 with
 | cons r rr =>
  cases rr
  obtain ⟨t,rfl⟩:=r
  exact call_range_1 (BR I1 (by omega) (by omega) q1 q2 (by simpa using q))
def RG (wi:TI) (g:TG) (tb:TS):TS:=fun D σ H=>wi σ H fun J H1=>∃ W:Nat→Nat→St→Hp→Prop,(∃ m,W 0 m σ H1)∧∀ i m σ H,W i m σ H →
 (J.stop i H∧D.nx σ H)∨(J.go i H∧∃ N:St→Hp→Prop,(∀ σ' H',N σ' H'→∃ m',m' < m∧W (i + 1) m' σ' H')∧∀ x H',J.BM i H x H'→g x σ H' fun σ2 H2=>tb { D with nx:=N,ct:=N,bk:=D.nx } σ2 H2)
def oy (fp:List Addr) (h:Heap):List (Addr × Obj):=fp.filterMap fun b=>(h.get? b).map fun o=>(b,o)
theorem iQ {fp:List Addr} {h:Heap} {b:Addr} {o:Obj} (hb:b ∈ fp) (e:h.get? b=some o):(b,o) ∈ oy fp h:=List.mem_filterMap.mpr ⟨b,hb,by rw [e]; rfl⟩
theorem zS {fp:List Addr} {h:Heap} {p:Addr × Obj} (hp:p ∈ oy fp h):p.1 ∈ fp∧h.get? p.1=some p.2:=by
 obtain ⟨b,hb,e⟩:=List.mem_filterMap.mp hp
 cases q:h.get? b with
 | none=>rw [q] at e; cases e
 | some o =>
  rw [q] at e
  have e':(b,o)=p:=Option.some.inj e
  subst e'
  exact ⟨hb,q⟩
theorem Inv.pinned {pins:List (Addr × Obj)} {σ:St} {H:Hp} {s:Shared} {fp:List Addr} (I:Inv X pins σ H s) (hf:∀ b ∈ fp,ox X pins H b) (ho:∀ b ∈ fp,∃ o,s.heap.get? b=some o∧∀ v,o.data ≠ .cell v):Inv X (pins ++ oy fp s.heap) σ H s :=
 I.yC fun p hp=>(List.mem_append.mp hp).elim (fun z=>I.pin p (List.mem_append_right _ z)) fun z=>by
  obtain ⟨hb,e⟩:=zS z
  obtain ⟨f0,f1,f2,_⟩:=hf p.1 hb
  obtain ⟨o,e',d⟩:=ho p.1 hb
  rw [e] at e'; cases e'
  exact ⟨e,f0,f1,f2,d⟩
theorem Inv.kg {pins pl:List (Addr × Obj)} {σ:St} {H:Hp} {s:Shared} (I:Inv X (pins ++ pl) σ H s):Inv X pins σ H s:=I.yC fun p hp=>I.pin p (List.mem_append_right _ (List.mem_append_left _ hp))
theorem iu {iter:Expr} {body:List Stmt} {wi:TI} {g:TG} {tb:TS} {pos:Pos} (hp:PassesOwn (model X.prog X.w) X.A X.env X.xe) (hc:X.calm=true) (hi:PI X tg iter wi) (hg:PG X tg g) (hb:rZ X body tb)
  (hs:∀ x,foldedSetIterable iter X.env x=pure x:=by intro _; rfl):PS X (.For tg iter body [] pos) (RG wi g tb):=by
 intro pins s σ H D I h
 refine wpAny_For (cL (hi pins s σ H _ I h) fun v s1 h1=>cL h1 fun itv s2 h2=>?_) hs
 obtain ⟨it,fp,tn,J,H2,e,I2,T,st2,f2,W,⟨m0,w0⟩,turn⟩:=h2
 subst e
 have stat:∀ {H':Hp},(∀ b ∈ fp,H' b=none)→∀ b ∈ fp,ox X pins H' b:=fun hn b hb=>⟨hn b hb,(f2 b hb).2⟩
 refine codeAny_forLoop_any (fun n s'=>∃ i σ' H',Inv X pins σ' H' s'∧tn i s'.heap∧(∀ b ∈ fp,H' b=none)∧W i n σ' H') ?_ m0 ⟨0,σ,H2,I2,st2,fun b hb=>(f2 b hb).1,w0⟩
 rintro n s3 ⟨i,σ3,H3,I3,st3,fr3,w3⟩
 rcases turn i n σ3 H3 w3 with ⟨stop,qn⟩ | ⟨go,N,hN,step⟩
 ·refine wpAny_passesOwn hp (cL (T.done X rfl rfl rfl hc i pins s3 σ3 H3 X.xe I3 (stat fr3) st3 stop) fun r s4 ⟨hr,I4⟩=>?_)
  subst hr
  exact wpAny_execs_nil ⟨σ3,H3,I4,qn⟩
 ·refine wpAny_passesOwn hp (cL (T.item X rfl rfl rfl hc i pins s3 σ3 H3 X.xe I3 (stat fr3) st3 go) fun r s4 ⟨u,hr,h4⟩=>?_)
  subst hr
  refine wpAny_passesOwn hp (cL h4 fun _ s5 ⟨x,H5,I5,r5,y5,LV,QX⟩=>?_)
  have I5':=I5.pinned (stat QX) (T.obj _ _ LV)
  refine wpAny_passesOwn hp (cL (hg _ s5 σ3 H5 x u _ I5' r5 (step x H5 y5)) fun _ s6 ⟨σ6,H6,I6,q6⟩=>?_)
  refine wpAny_passesOwn hp (cL (hb _ s6 σ6 H6 _ I6 q6) fun f s7 q7=>?_)
  have again:∀ {σ7:St} {H7:Hp},Inv X (pins ++ oy fp s5.heap) σ7 H7 s7→N σ7 H7→∃ m,m < n∧∃ i σ' H',Inv X pins σ' H' s7∧tn i s7.heap∧(∀ b ∈ fp,H' b=none)∧W i m σ' H':=fun {σ7 H7} I7 n7=>by
   obtain ⟨m',hm,w7⟩:=hN σ7 H7 n7
   refine ⟨m',hm,i + 1,σ7,H7,I7.kg,T.keep _ _ _ LV fun b hb o e=>(I7.pin (b,o) (List.mem_append_right _ (List.mem_append_right _ (iQ hb e)))).1,fun b hb=>?_,w7⟩
   obtain ⟨o,e,d⟩:=T.obj _ _ LV b hb
   exact (I7.pin (b,o) (List.mem_append_right _ (List.mem_append_right _ (iQ hb e)))).2.1
  cases f with
  | next=>obtain ⟨σ7,H7,I7,n7⟩:=q7; exact again I7 n7
  | cont=>obtain ⟨σ7,H7,I7,n7⟩:=q7; exact again I7 n7
  | brk=>obtain ⟨σ7,H7,I7,q7⟩:=q7; exact ⟨σ7,H7,I7.kg,q7⟩
  | ret v=>obtain ⟨x7,σ7,H7,I7,r7,q7⟩:=q7; exact ⟨x7,σ7,H7,I7.kg,r7,q7⟩
end
theorem iF {K:fm} {a:Addr} {xs:List V} {g:TG} {tb:TS} {D:Ends} {σ:St} {H:Hp} (Pv:Nat→St→Hp→Prop) (h0:Pv 0 σ H) (hl:∀ i σ H,i ≤ xs.length→Pv i σ H→bj K H a xs)
  (hs:∀ i x σ H,xs[i]? = some x→Pv i σ H→g x σ H fun σ2 H2=>tb { D with nx:=Pv (i + 1),ct:=Pv (i + 1),bk:=D.nx } σ2 H2) (hd:∀ σ H,Pv xs.length σ H→D.nx σ H) :
  ∃ W:Nat→Nat→St→Hp→Prop,(∃ m,W 0 m σ H)∧∀ i m σ H,W i m σ H →
   ((BQ K a).stop i H∧D.nx σ H)∨((BQ K a).go i H∧∃ N:St→Hp→Prop,(∀ σ' H',N σ' H'→∃ m',m' < m∧W (i + 1) m' σ' H')∧∀ x H',(BQ K a).BM i H x H'→g x σ H' fun σ2 H2=>tb { D with nx:=N,ct:=N,bk:=D.nx } σ2 H2):=by
 refine ⟨fun i m σ H=>m=xs.length - i∧i ≤ xs.length∧Pv i σ H,⟨xs.length,by simp,Nat.zero_le _,h0⟩,?_⟩
 rintro i m σ H ⟨rfl,hi,p⟩
 have q:=hl i σ H hi p
 by_cases hlt:i < xs.length
 ·refine .inr ⟨⟨xs,xs[i],q,by simp [hlt]⟩,Pv (i + 1),fun σ' H' p'=>⟨xs.length - (i + 1),by omega,rfl,hlt,p'⟩,fun x H' y=>?_⟩
  obtain ⟨e,y⟩:=y
  subst e
  exact hs i x σ _ (y xs q) p
 ·have e:i=xs.length:=by omega
  subst e
  exact .inl ⟨⟨xs,q,ii _⟩,hd σ H p⟩
theorem qU {lo:Int} {n:Nat} {g:TG} {tb:TS} {D:Ends} {σ:St} {H:Hp} (Pv:Nat→St→Hp→Prop) (h0:Pv 0 σ H)
  (hs:∀ i σ H,i < n→Pv i σ H→g (.int (lo + i)) σ H fun σ2 H2=>tb { D with nx:=Pv (i + 1),ct:=Pv (i + 1),bk:=D.nx } σ2 H2) (hd:∀ σ H,Pv n σ H→D.nx σ H) :
  ∃ W:Nat→Nat→St→Hp→Prop,(∃ m,W 0 m σ H)∧∀ i m σ H,W i m σ H →
   ((Fd lo n).stop i H∧D.nx σ H)∨((Fd lo n).go i H∧∃ N:St→Hp→Prop,(∀ σ' H',N σ' H'→∃ m',m' < m∧W (i + 1) m' σ' H')∧∀ x H',(Fd lo n).BM i H x H'→g x σ H' fun σ2 H2=>tb { D with nx:=N,ct:=N,bk:=D.nx } σ2 H2):=by
 refine ⟨fun i m σ H=>m=n - i∧i ≤ n∧Pv i σ H,⟨n,by simp,Nat.zero_le _,h0⟩,?_⟩
 rintro i m σ H ⟨rfl,hi,p⟩
 by_cases hlt:i < n
 ·refine .inr ⟨hlt,Pv (i + 1),fun σ' H' p'=>⟨n - (i + 1),by omega,rfl,hlt,p'⟩,fun x H' y=>?_⟩
  obtain ⟨e,y⟩:=y
  subst e y
  exact hs i σ _ hlt p
 ·have e:i=n:=by omega
  subst e
  exact .inl ⟨ii _,hd σ H p⟩
abbrev R2:=V→V→Hp→VK→Prop
def jP (X:Cx) (f:Value→Value→Sem Value) (r:R2):Prop :=
 ∀ (pins:List (Addr × Obj)) (s:Shared) (σ:St) (H:Hp) (x y:V) (v u:Value) (Q:VK),Inv X pins σ H s→RelV x v→RelV y u→r x y H Q →
  wpAny (model X.prog X.w) X.A (f v u) (EP X pins σ Q) X.xe s
def RH (X:Cx) (f:Value→Sem Value) (r:V→Hp→VK→Prop):Prop :=
 ∀ (pins:List (Addr × Obj)) (s:Shared) (σ:St) (H:Hp) (x:V) (v:Value) (Q:VK),Inv X pins σ H s→RelV x v→r x H Q →
  wpAny (model X.prog X.w) X.A (f v) (EP X pins σ Q) X.xe s
def iG (X:Cx) (f:Value) (r:List V→Hp→VK→Prop):Prop :=
 ∀ (pins:List (Addr × Obj)) (s:Shared) (σ:St) (H:Hp) (xs:List V) (us:List Value) (Q:VK),Inv X pins σ H s→Vals xs us→r xs H Q →
  wpAny (model X.prog X.w) X.A (call f us) (EP X pins σ Q) X.xe s
def JN (r:R2) (ta tb:TE):TE:=fun σ H Q=>ta σ H fun x H1=>tb σ H1 fun y H2=>r x y H2 Q
def tUn (r:V→Hp→VK→Prop) (ta:TE):TE:=fun σ H Q=>ta σ H fun x H1=>r x H1 Q
def rI (C:Int→Int→Prop) (g:Int→Int→V):R2:=fun x y H Q=>∃ i j,x=.int i∧y=.int j∧C i j∧Q (g i j) H
def JO (g:Int→Int→V):R2:=fun x y H Q=>∃ i j,x=.int i∧y=.int j∧Q (g i j) H
def rU (g:Int→V):V→Hp→VK→Prop:=fun x H Q=>∃ i,x=.int i∧Q (g i) H
section
variable {X:Cx} {a b c:Expr} {ta tb tc:TE} {pos:Pos}
theorem JP (ha:PE X a ta) (hb:PE X b tb) {pins:List (Addr × Obj)} {s:Shared} {σ:St} {H:Hp} {R:V→V→Hp→Prop} (I:Inv X pins σ H s)
  (h:ta σ H fun x H1=>tb σ H1 fun y H2=>R x y H2) {Q:Value→Shared→Prop} {f:Value→Value→Sem Value}
  (hf:∀ v u s2 x y H2,Inv X pins σ H2 s2→RelV x v→RelV y u→R x y H2→wpAny (model X.prog X.w) X.A (f v u) Q X.xe s2) :
  wpAny (model X.prog X.w) X.A (eval a X.env) (fun v s₁=>wpAny (model X.prog X.w) X.A (eval b X.env) (fun u s₂=>wpAny (model X.prog X.w) X.A (f v u) Q X.xe s₂) X.xe s₁) X.xe s:=by
 refine cL (ha pins s σ H _ I h) fun v s1 ⟨x,H1,I1,r1,q1⟩=>?_
 refine cL (hb pins s1 σ H1 _ I1 q1) fun u s2 ⟨y,H2,I2,r2,q2⟩=>?_
 exact hf v u s2 x y H2 I2 r1 r2 q2
theorem aO {op:Operator} {r:R2} (ho:jP X (binaryOp op) r) (ha:PE X a ta) (hb:PE X b tb):PE X (.BinOp a op b pos) (JN r ta tb):=by
 intro pins s σ H Q I h
 exact wpAny_BinOp (JP ha hb I h fun v u s2 x y H2 I2 rx ry q=>ho pins s2 σ H2 x y v u Q I2 rx ry q)
theorem oA {op:UnaryOp} {r:V→Hp→VK→Prop} (ho:RH X (unaryOp op) r) (ha:PE X a ta):PE X (.UnaryOp op a pos) (tUn r ta):=by
 intro pins s σ H Q I h
 exact UnaryOp_ (cL (ha pins s σ H _ I h) fun v s1 ⟨x,H1,I1,r1,q1⟩=>ho pins s1 σ H1 x v Q I1 r1 q1)
theorem QY {f:Value→Value→Sem Value} {C:Int→Int→Prop} {g:Int→Int→Int}
  (rule:∀ (i j:Int) (t u:Tok) (s:Shared) (Q:Value→Shared→Prop) (E:Value→Shared→Prop),C i j→Q (.int (g i j) s.toks) { s with toks:=s.toks + 1 }→wpAny (model X.prog X.w) X.A (f (.int i t) (.int j u)) Q E s) :
  jP X f (rI C fun i j=>.int (g i j)):=by
 intro pins s σ H x y v u Q I rx ry h
 obtain ⟨i,j,rfl,rfl,hc,q⟩:=h
 obtain ⟨t,rfl⟩:=rx
 obtain ⟨t',rfl⟩:=ry
 exact rule i j t t' s _ _ hc ⟨.int (g i j),H,I.tok _,⟨_,rfl⟩,q⟩
theorem ME {f:Value→Value→Sem Value} {g:Int→Int→Int}
  (rule:∀ (i j:Int) (t u:Tok) (s:Shared) (Q:Value→Shared→Prop) (E:Value→Shared→Prop),Q (.int (g i j) s.toks) { s with toks:=s.toks + 1 }→wpAny (model X.prog X.w) X.A (f (.int i t) (.int j u)) Q E s) :
  jP X f (JO fun i j=>.int (g i j)):=by
 intro pins s σ H x y v u Q I rx ry h
 obtain ⟨i,j,rfl,rfl,q⟩:=h
 obtain ⟨t,rfl⟩:=rx
 obtain ⟨t',rfl⟩:=ry
 exact rule i j t t' s _ _ ⟨.int (g i j),H,I.tok _,⟨_,rfl⟩,q⟩
theorem JQ {f:Value→Value→Sem Value} {g:Int→Int→Bool}
  (rule:∀ (i j:Int) (t u:Tok) (s:Shared) (Q:Value→Shared→Prop) (E:Value→Shared→Prop),Q (.bool (g i j)) s→wpAny (model X.prog X.w) X.A (f (.int i t) (.int j u)) Q E s) :
  jP X f (JO fun i j=>.bl (g i j)):=by
 intro pins s σ H x y v u Q I rx ry h
 obtain ⟨i,j,rfl,rfl,q⟩:=h
 obtain ⟨t,rfl⟩:=rx
 obtain ⟨t',rfl⟩:=ry
 exact rule i j t t' s _ _ ⟨.bl (g i j),H,I,rfl,q⟩
def JR (i j:Int):Prop:=0 ≤ j∧j ≤ 1000000∧i.natAbs < 2 ^ 64
def JT (i j:Int):Prop:=(-(2 ^ 64) < i∧i < 2 ^ 64)∨(-(2 ^ 64) < j∧j < 2 ^ 64)
theorem JT.ok {i j:Int} (h:JT i j):IntMulOk i j:=by
 rcases h with ⟨h1,h2⟩ | ⟨h1,h2⟩
 ·exact .of_left (intBits_le_64 h1 h2)
 ·exact .of_right (intBits_le_64 h1 h2)
theorem dv:jP X (binaryOp .Add) (JO fun i j=>.int (i + j)):=ME fun _ _ _ _ _ _ _ q=>add_int q
theorem iw:jP X (binaryOp .Sub) (JO fun i j=>.int (i - j)):=ME fun _ _ _ _ _ _ _ q=>sub_int q
theorem sh:jP X (binaryOp .Mult) (rI JT fun i j=>.int (i * j)):=QY fun _ _ _ _ _ _ _ hc q=>mul_int q hc.ok
theorem bq:jP X (binaryOp .Mod) (rI (fun _ j=>0 < j) fun i j=>.int (i % j)):=QY fun i j _ _ _ _ _ hc q=>by
 have h1:(0:Int) < j:=hc
 exact mod_int' (by omega) (by rw [Int.fmod_eq_emod_of_nonneg i (by omega)]; exact q)
theorem wc:jP X (binaryOp .Pow) (rI JR fun i j=>.int (i ^ j.toNat)):=QY fun _ _ _ _ _ _ _ hc q=>pow_int_small hc.1 hc.2.1 hc.2.2 q
theorem unI {f:Value→Sem Value} {g:Int→Int}
  (rule:∀ (i:Int) (t:Tok) (s:Shared) (Q:Value→Shared→Prop) (E:Value→Shared→Prop),Q (.int (g i) s.toks) { s with toks:=s.toks + 1 }→wpAny (model X.prog X.w) X.A (f (.int i t)) Q E s) :
  RH X f (rU fun i=>.int (g i)):=by
 intro pins s σ H x v Q I rx h
 obtain ⟨i,rfl,q⟩:=h
 obtain ⟨t,rfl⟩:=rx
 exact rule i t s _ _ ⟨.int (g i),H,I.tok _,⟨_,rfl⟩,q⟩
theorem j3:RH X (unaryOp .USub) (rU fun i=>.int (-i)):=unI fun _ _ _ _ _ q=>neg_int q
end
def MF:V→V→Bool
 | .non,.non=>true | .non,.int _=>true | .int _,.non=>true | .non,.bl _=>true | .bl _,.non=>true | .non,.str _=>true | .str _,.non=>true
 | .int _,.int _=>true | .bl _,.bl _=>true | .str _,.str _=>true | .Bw _,.Bw _=>true
 | .int _,.str _=>true | .str _,.int _=>true | .bl _,.str _=>true | .str _,.bl _=>true
 | _,_=>false
def rEq:R2:=fun x y H Q=>MF x y=true∧Q (.bl (decide (x=y))) H
def rNe:R2:=fun x y H Q=>MF x y=true∧Q (.bl (!decide (x=y))) H
theorem si {i j:Int}:decide (V.int i=V.int j)=(i == j):=by
 rw [Bool.eq_iff_iff]
 simp
theorem BU {i j:Bool}:decide (V.bl i=V.bl j)=(i == j):=by
 rw [Bool.eq_iff_iff]
 simp
theorem sj {i j:Str}:decide (V.str i=V.str j)=(i == j):=by
 rw [Bool.eq_iff_iff]
 simp
theorem yD {i j:Array UInt8}:decide (V.Bw i=V.Bw j)=(i.toList == j.toList):=by
 rw [Bool.eq_iff_iff]
 cases i
 cases j
 simp
section
variable {X:Cx} {a b c:Expr} {ta tb tc:TE} {pos:Pos}
theorem cg {pins:List (Addr × Obj)} {σ:St} {H:Hp} {s:Shared} {Q:VK} {k k':Bool} (I:Inv X pins σ H s) (q:Q (.bl k) H) (e:k=k'):EP X pins σ Q (.bool k') s:=by
 subst e
 exact ⟨.bl k,H,I,rfl,q⟩
theorem bX:jP X (compareOp .Eq) rEq:=by
 intro pins s σ H x y v u Q I rx ry h
 obtain ⟨hs,q⟩:=h
 cases x with
 | non =>
  cases rx
  cases y with
  | non=>cases ry; exact PySem.EqNone.eq_none_none (cg I q (by simp))
  | bl j=>cases ry; exact PySem.EqNone.eq_none_bool (cg I q (by simp))
  | int j=>obtain ⟨t',rfl⟩:=ry; exact PySem.EqNone.eq_none_int (cg I q (by simp))
  | str j=>obtain ⟨t',rfl⟩:=ry; exact PySem.EqNone.eq_none_str (cg I q (by simp))
  | _=>exact absurd (show false=true from hs) ir
 | bl i =>
  cases rx
  cases y with
  | non=>cases ry; exact PySem.EqNone.eq_bool_none (cg I q (by simp))
  | bl j=>cases ry; exact eq_bool (cg I q BU)
  | str j=>obtain ⟨t',rfl⟩:=ry; exact PySem.EqMixed.eq_bool_str (cg I q (by simp))
  | _=>exact absurd (show false=true from hs) ir
 | int i =>
  obtain ⟨t,rfl⟩:=rx
  cases y with
  | non=>cases ry; exact PySem.EqNone.eq_int_none (cg I q (by simp))
  | int j=>obtain ⟨t',rfl⟩:=ry; exact eq_int (cg I q si)
  | str j=>obtain ⟨t',rfl⟩:=ry; exact PySem.EqMixed.eq_int_str (cg I q (by simp))
  | _=>exact absurd (show false=true from hs) ir
 | str i =>
  obtain ⟨t,rfl⟩:=rx
  cases y with
  | non=>cases ry; exact PySem.EqNone.eq_str_none (cg I q (by simp))
  | bl j=>cases ry; exact PySem.EqMixed.eq_str_bool (cg I q (by simp))
  | int j=>obtain ⟨t',rfl⟩:=ry; exact PySem.EqMixed.eq_str_int (cg I q (by simp))
  | str j=>obtain ⟨t',rfl⟩:=ry; exact eq_str (cg I q sj)
  | _=>exact absurd (show false=true from hs) ir
 | Bw i =>
  obtain ⟨t,rfl⟩:=rx
  cases y with
  | Bw j=>obtain ⟨t',rfl⟩:=ry; exact PySem.W.eq_bytes (cg I q yD)
  | _=>exact absurd (show false=true from hs) ir
 | _=>cases y <;> exact absurd (show false=true from hs) ir
theorem MH:jP X (compareOp .NotEq) rNe:=by
 intro pins s σ H x y v u Q I rx ry h
 obtain ⟨hs,q⟩:=h
 cases x with
 | non =>
  cases rx
  cases y with
  | non=>cases ry; exact PySem.EqNone.ne_none_none (cg I q (by simp))
  | bl j=>cases ry; exact PySem.EqNone.ne_none_bool (cg I q (by simp))
  | int j=>obtain ⟨t',rfl⟩:=ry; exact PySem.EqNone.ne_none_int (cg I q (by simp))
  | str j=>obtain ⟨t',rfl⟩:=ry; exact PySem.EqNone.ne_none_str (cg I q (by simp))
  | _=>exact absurd (show false=true from hs) ir
 | bl i =>
  cases rx
  cases y with
  | non=>cases ry; exact PySem.EqNone.ne_bool_none (cg I q (by simp))
  | bl j=>cases ry; exact ne_bool (cg I q (congrArg not BU))
  | str j=>obtain ⟨t',rfl⟩:=ry; exact PySem.EqMixed.ne_bool_str (cg I q (by simp))
  | _=>exact absurd (show false=true from hs) ir
 | int i =>
  obtain ⟨t,rfl⟩:=rx
  cases y with
  | non=>cases ry; exact PySem.EqNone.ne_int_none (cg I q (by simp))
  | int j=>obtain ⟨t',rfl⟩:=ry; exact ne_int (cg I q (congrArg not si))
  | str j=>obtain ⟨t',rfl⟩:=ry; exact PySem.EqMixed.ne_int_str (cg I q (by simp))
  | _=>exact absurd (show false=true from hs) ir
 | str i =>
  obtain ⟨t,rfl⟩:=rx
  cases y with
  | non=>cases ry; exact PySem.EqNone.ne_str_none (cg I q (by simp))
  | bl j=>cases ry; exact PySem.EqMixed.ne_str_bool (cg I q (by simp))
  | int j=>obtain ⟨t',rfl⟩:=ry; exact PySem.EqMixed.ne_str_int (cg I q (by simp))
  | str j=>obtain ⟨t',rfl⟩:=ry; exact ne_str (cg I q (congrArg not sj))
  | _=>exact absurd (show false=true from hs) ir
 | Bw i =>
  obtain ⟨t,rfl⟩:=rx
  cases y with
  | Bw j=>obtain ⟨t',rfl⟩:=ry; exact PySem.W.ne_bytes (cg I q (congrArg not yD))
  | _=>exact absurd (show false=true from hs) ir
 | _=>cases y <;> exact absurd (show false=true from hs) ir
theorem iH:jP X (compareOp .Lt) (JO fun i j=>.bl (decide (i < j))):=JQ fun _ _ _ _ _ _ _ q=>lt_int q
theorem oB:jP X (compareOp .LtE) (JO fun i j=>.bl (decide (i ≤ j))):=JQ fun _ _ _ _ _ _ _ q=>le_int q
theorem qV:jP X (compareOp .Gt) (JO fun i j=>.bl (decide (j < i))):=JQ fun _ _ _ _ _ _ _ q=>gt_int q
theorem lJ:jP X (compareOp .Is) (fun x y H Q=>y=.non∧Q (.bl (decide (x=.non))) H):=by
 intro pins s σ H x y v u Q I rx ry h
 obtain ⟨rfl,q⟩:=h
 cases ry
 refine is_none_gen (cg I q ?_)
 cases x <;> first
  | (cases rx; rfl)
  | (obtain ⟨t,rfl⟩:=rx; rfl)
theorem yE:jP X (compareOp .IsNot) (fun x y H Q=>y=.non∧Q (.bl (!decide (x=.non))) H):=by
 intro pins s σ H x y v u Q I rx ry h
 obtain ⟨rfl,q⟩:=h
 cases ry
 refine isnot_none_gen (cg I q ?_)
 cases x <;> first
  | (cases rx; rfl)
  | (obtain ⟨t,rfl⟩:=rx; rfl)
theorem aP (b:Expr) {op:CmpOp} (h:op ≠ .In:=by decide) (h2:op ≠ .NotIn:=by decide):behindInMarks op b=false:=by
 have e1:(op == CmpOp.In)=false:=by cases op <;> first | rfl | exact absurd rfl h
 have e2:(op == CmpOp.NotIn)=false:=by cases op <;> first | rfl | exact absurd rfl h2
 cases b <;> simp [behindInMarks,e1,e2]
theorem ie {op:CmpOp} {r:R2} (ho:jP X (compareOp op) r) (ha:PE X a ta) (hb:PE X b tb) (hm:behindInMarks op b=false):PE X (.Compare a [op] [b] pos) (JN r ta tb):=by
 intro pins s σ H Q I h
 exact wpAny_Compare1 (JP ha hb I h fun v u s2 x y H2 I2 rx ry q=>ho pins s2 σ H2 x y v u Q I2 rx ry q) hm
def Iq (t:TE):TT:=fun σ H Q=>t σ H fun x H'=>∃ k,x=.bl k∧Q k H'
theorem aF {op:CmpOp} {r:R2} (ho:jP X (compareOp op) r) (ha:PE X a ta) (hb:PE X b tb) (hm:behindInMarks op b=false):PT X (.Compare a [op] [b] pos) (Iq (JN r ta tb)):=by
 intro pins s σ H Q I h
 refine wpAny_isTrue_Compare1 (cL (ha pins s σ H _ I h) fun v s1 ⟨x,H1,I1,r1,q1⟩=>cL (hb pins s1 σ H1 _ I1 q1) fun u s2 ⟨y,H2,I2,r2,q2⟩ =>
  cL (ho pins s2 σ H2 x y v u _ I2 r1 r2 q2) fun c s3 ⟨z,H3,I3,r3,k,e,q3⟩=>?_) hm
 subst e
 cases r3
 exact wpAny_truthy_bool ⟨H3,I3,q3⟩
def BV (r r':R2) (ta tb tc:TE):TE:=fun σ H Q=>ta σ H fun x H1=>tb σ H1 fun y H2=>r x y H2 fun z H3=>∃ k,z=.bl k ∧
 (if k=true then tc σ H3 fun w' H4=>r' y w' H4 Q else Q (.bl false) H3)
theorem BW {op op':CmpOp} {r r':R2} (ho:jP X (compareOp op) r) (ho':jP X (compareOp op') r') (ha:PE X a ta) (hb:PE X b tb) (hc:PE X c tc)
  (hm:lastMarks [op,op'] [b,c]=false:=by with_unfolding_all rfl):PE X (.Compare a [op,op'] [b,c] pos) (BV r r' ta tb tc):=by
 intro pins s σ H Q I h
 refine Compare_chain (cL (ha pins s σ H _ I h) fun v s1 ⟨x,H1,I1,r1,q1⟩=>chain_link (cL (hb pins s1 σ H1 _ I1 q1) fun u s2 ⟨y,H2,I2,r2,q2⟩ =>
  cL (ho pins s2 σ H2 x y v u _ I2 r1 r2 q2) fun d s3 ⟨z,H3,I3,r3,k,e,q3⟩=>?_)) hm
 subst e
 cases r3
 refine wpAny_truthy_bool ?_
 cases k with
 | false=>exact ite_ff ⟨.bl false,H3,I3,rfl,q3⟩
 | true=>exact ite_tt (chain_last (cL (hc pins s3 σ H3 _ I3 q3) fun w' s4 ⟨z',H4,I4,r4,q4⟩=>ho' pins s4 σ H4 y z' u w' Q I4 r2 r4 q4))
theorem kh {op op':CmpOp} {r r':R2} (ho:jP X (compareOp op) r) (ho':jP X (compareOp op') r') (ha:PE X a ta) (hb:PE X b tb) (hc:PE X c tc)
  (hm:lastMarks [op,op'] [b,c]=false:=by with_unfolding_all rfl):PT X (.Compare a [op,op'] [b,c] pos) (Iq (BV r r' ta tb tc)):=by
 intro pins s σ H Q I h
 refine isTrue_chain (cL (ha pins s σ H _ I h) fun v s1 ⟨x,H1,I1,r1,q1⟩=>test_link (cL (hb pins s1 σ H1 _ I1 q1) fun u s2 ⟨y,H2,I2,r2,q2⟩ =>
  cL (ho pins s2 σ H2 x y v u _ I2 r1 r2 q2) fun d s3 ⟨z,H3,I3,r3,k,e,q3⟩=>?_)) hm
 subst e
 cases r3
 refine wpAny_truthy_bool ?_
 cases k with
 | false =>
  obtain ⟨k',e',q'⟩:=q3
  cases e'
  exact ite_ff ⟨H3,I3,q'⟩
 | true =>
  refine ite_tt (test_last (cL (hc pins s3 σ H3 _ I3 q3) fun w' s4 ⟨z',H4,I4,r4,q4⟩=>cL (ho' pins s4 σ H4 y z' u w' _ I4 r2 r4 q4) fun d' s5 ⟨z2,H5,I5,r5,k2,e2,q5⟩=>?_))
  subst e2
  cases r5
  exact wpAny_truthy_bool ⟨H5,I5,q5⟩
theorem sk:(de:Nat) < 2 ^ 63:=by rw [sizeLine_eq]; decide
theorem vals1 {x:V} {us:List Value} (r:Vals [x] us):∃ u,us=[u]∧RelV x u:=by
 cases r with
 | cons r1 r2=>cases r2; exact ⟨_,rfl,r1⟩
theorem vals2 {x y:V} {us:List Value} (r:Vals [x,y] us):∃ u w',us=[u,w']∧RelV x u∧RelV y w':=by
 cases r with
 | cons r1 r2 =>
  cases r2 with
  | cons r3 r4=>cases r4; exact ⟨_,_,rfl,r1,r3⟩
theorem zT:iG X (.type "int") (fun xs H Q=>(∃ i,xs=[.int i]∧Q (.int i) H)∨∃ k,xs=[.bl k]∧Q (.int (if k then 1 else 0)) H):=by
 intro pins s σ H xs us Q I r h
 rcases h with ⟨i,rfl,q⟩ | ⟨k,rfl,q⟩
 ·obtain ⟨u,rfl,t,rfl⟩:=vals1 r
  exact call_int_int ⟨.int i,H,I,⟨_,rfl⟩,q⟩
 ·obtain ⟨u,rfl,r1⟩:=vals1 r
  cases r1
  exact call_int_bool ⟨.int (if k then 1 else 0),H,I.tok _,⟨_,rfl⟩,q⟩
end
structure wg (h:Heap) (x dx C:Addr) (mA:Str→Option Value):Prop where
 obj:h.get? x=some (PySem.W.instObj C dx)
 ns:h.Ns1 dx mA
 ne:dx ≠ x
theorem zU {h:Heap} {dx:Addr} {mA:Str→Option Value} (n:h.Ns1 dx mA):∃ od,h.get? dx=some od∧∀ name,PySem.W.lookIn name od=some (mA name):=by
 obtain ⟨o,es,ep,ho,hd,hk,_,hm⟩:=n
 refine ⟨o,ho,fun name=>?_⟩
 have e:=hm name
 unfold nsFind findBy at e
 rw [← Array.find?_toList] at e
 unfold PySem.W.lookIn
 rw [hd]
 dsimp only
 split
 ·rename_i y q
  rw [q] at e
  exact congrArg some e
 ·rename_i q
  rw [q] at e
  have a:es.toList.any (·.refKey)=false:=by
   rw [List.any_eq_false]
   intro y hy
   obtain ⟨z,t,hkey⟩:=hk y (Array.mem_toList_iff.mp hy)
   simp [DictEntry.refKey,hkey]
  have a':¬ es.toList.any (·.refKey)=true:=by rw [a]; exact ir
  rw [if_neg a']
  exact congrArg some e
theorem wg.look {h:Heap} {x dx C:Addr} {mA:Str→Option Value} (I:wg h x dx C mA):∃ od,PySem.W.InstAt h x (PySem.W.instObj C dx) C (some od)∧∀ name,PySem.W.lookIn name od=some (mA name) :=
 let ⟨od,ho,hl⟩:=zU I.ns
 ⟨od,⟨I.obj,rfl,rfl,ho⟩,hl⟩
section
variable {prog:Program} {w:World} {A:Around} {E:Value→Shared→Prop} {s:Shared} {K:fm} {x dx C f:Addr} {mA:Str→Option Value} {name:Str} {v:Value}
theorem get_map {expr:Bool} {Q:Value→Shared→Prop} (X:K.In s.heap) (I:wg s.heap x dx C mA) (hg:PySem.W.plainGet K C name=true) (hh:PySem.W.hasDictIn K C=true)
  (ha:gt K (.ref C) name=some none) (hv:mA name=some v) (hv':PySem.W.handedIn v=true) (h:Q v { s with toks:=s.toks + 1 }) :
  wpAny (model prog w) A (getAttr (.ref x) name expr) Q E s:=by
 obtain ⟨od,J,hl⟩:=I.look
 exact PySem.W.get_value X J (PySem.W.plainGet_of hg).1 (PySem.W.findObj_own hh ha rfl (by rw [hl,hv])) hv' h
theorem BX {pl:Sem Bool} {Q:Value × List Value→Shared→Prop} (X:K.In s.heap) (I:wg s.heap x dx C mA) (hg:PySem.W.plainGet K C name=true)
  (hf:gt K (.ref C) name=some (some (.ref f))) (ht:PySem.W.isFn K (.ref f)=true) (hv:mA name=none) (h:Q (.ref f,[.ref x]) s) :
  wpAny (model prog w) A (getMethod (.ref x) name pl) Q E s:=by
 obtain ⟨od,J,hl⟩:=I.look
 exact PySem.W.method_fn X J (PySem.W.plainGet_of hg).1 (PySem.W.plainGet_of hg).2 hf (beq_iff_eq.mp ht) (by show (PySem.W.lookIn name od).map (·.isSome)=some false; rw [hl,hv]; rfl) h
theorem Fe {ns:List Str} {Q:Unit→Shared→Prop} (X:K.In s.heap) (I:wg s.heap x dx C mA)
  (hs:gt K (.ref C) "__setattr__" = some (some (.builtin "object.__setattr__"))) (hp:PySem.W.plainOver K C=true) (ht:PySem.W.takerIn K C name=some none) (hh:PySem.W.hasDictIn K C=true)
  (hw:PySem.Within mA ns) (hsz:ns.length ≤ de)
  (h:∀ h',wg h' x dx C (fun y=>if y=name then some v else mA y)→Heap.SameBut dx s.heap h'→Q () { s with heap:=h',toks:=s.toks + 2 }) :
  wpAny (model prog w) A (setAttr (.ref x) name v) Q E s:=by
 obtain ⟨od,J,hl⟩:=I.look
 refine PySem.W.set_plain X J hs (PySem.W.osa_open (s:={ s with toks:=s.toks + 1 }) (r:=none) X J hp ht fun b=>?_)
 obtain ⟨cd,hc,hd'⟩:=PySem.W.any_some hh
 have hx:s.heap.get? x=some ⟨.ref C,some dx,.plain,#[]⟩:=I.obj
 refine cb (ce (cb (cb (wpAny_loadPart hx (cb (PySem.W.Looks.here (s:={ s with toks:=s.toks + 1 }) (PySem.W.looks_clsIn X hc) ?_))))))
 rw [hd']
 refine ce (a:=some dx) (cb (ce (cb ?_)))
 refine wpAny_nsSet1 (s:={ s with toks:=s.toks + 1 }) I.ns fun h' hn2 hs2=>?_
 obtain ⟨oD,esD,epD,hoD,hdD,hcD⟩:=hn2.count (PySem.Within.cons name v hw)
 refine cb (wpAny_lookBehind hoD (by rw [hdD]; exact pastItsLine_dict (io hcD (by rw [bo]; omega))) ?_)
 exact ce (h _ ⟨(hs2.2 _ (Ne.symm I.ne)).trans I.obj,hn2,I.ne⟩ hs2)
theorem BZ {R:Result→Shared→Prop} {vs:List Value} {kw:List (Str × Value)} (X:K.In s.heap) (hm:PySem.W.makesIn K C=true)
  (hi:gt K (.ref C) "__init__" = some (some (.ref f))) (hf:PySem.W.typeIn K (.ref f)=some (.type "function"))
  (h:codeAny (model prog w) (A.under (.builtin "type.__call__" ⟨.ref C :: vs,kw⟩)) (.call (.ref f) ⟨.ref (s.heap.objs.size + 1) :: vs,kw⟩) (PySem.W.InitBack (s.heap.objs.size + 1) R)
   { s with heap:=(s.heap.push PySem.W.emptyDict).push (PySem.W.instObj C s.heap.objs.size) }) :
  codeAny (model prog w) A (.call (.ref C) ⟨vs,kw⟩) R s:=by
 obtain ⟨hh,g,d,t,os⟩:=s
 exact PySem.W.make_core (PySem.W.makes_of X hm) (PySem.W.looks_findIn X hi) (fun self=>PySem.W.bind_fn X self hf) (.inl rfl) h
end
def d7 (f:Str) (v:V):List (Str × V)→List (Str × V)
 | []=>[(f,v)]
 | (g,x) :: r=>if g=f then (g,v) :: r else (g,x) :: d7 f v r
theorem lZ (f g:Str) (v:V):∀ fs:List (Str × V),(d7 f v fs).lookup g=if g=f then some v else fs.lookup g
 | []=>by
  show List.lookup g [(f,v)]=_
  by_cases h:g=f
  ·have hb:(g == f)=true:=beq_iff_eq.mpr h
   simp only [List.lookup,hb,if_pos h]
  ·have hb:(g == f)=false:=beq_eq_false_iff_ne.mpr h
   simp only [List.lookup,hb,if_neg h]
 | (k,x) :: r=>by
  have ih:=lZ f g v r
  rw [show d7 f v ((k,x) :: r)=(if k=f then (k,v) :: r else (k,x) :: d7 f v r) from rfl]
  by_cases hk:k=f
  ·rw [if_pos hk]
   by_cases h:g=k
   ·have hb:(g == k)=true:=beq_iff_eq.mpr h
    simp only [List.lookup,hb,if_pos (h.trans hk)]
   ·have hb:(g == k)=false:=beq_eq_false_iff_ne.mpr h
    simp only [List.lookup,hb,if_neg (fun e:g=f=>h (e.trans hk.symm))]
  ·rw [if_neg hk]
   by_cases h:g=k
   ·have hb:(g == k)=true:=beq_iff_eq.mpr h
    simp only [List.lookup,hb,if_neg (fun e:g=f=>hk (h.symm.trans e))]
   ·have hb:(g == k)=false:=beq_eq_false_iff_ne.mpr h
    simp only [List.lookup,hb]
    exact ih
theorem lK (f:Str) (v:V):∀ fs:List (Str × V),f ∈ (d7 f v fs).map (·.1)∧∀ g,g ∈ fs.map (·.1)→g ∈ (d7 f v fs).map (·.1)
 | []=>⟨by simp [d7],fun g h=>by simp at h⟩
 | (k,x) :: r=>by
  obtain ⟨i1,i2⟩:=lK f v r
  rw [show d7 f v ((k,x) :: r)=(if k=f then (k,v) :: r else (k,x) :: d7 f v r) from rfl]
  by_cases hk:k=f
  ·rw [if_pos hk]
   subst hk
   exact ⟨by simp,fun g h=>by simpa using h⟩
  ·rw [if_neg hk]
   refine ⟨?_,fun g h=>?_⟩
   ·rw [br]
    exact List.mem_cons_of_mem _ i1
   ·rw [br] at h ⊢
    rcases List.mem_cons.mp h with e | e
    ·exact List.mem_cons.mpr (.inl e)
    ·exact List.mem_cons_of_mem _ (i2 g e)
theorem mh (f:Str) (v:V):∀ fs:List (Str × V),(d7 f v fs).length ≤ fs.length + 1
 | []=>by simp [d7]
 | (k,x) :: r=>by
  have ih:=mh f v r
  rw [show d7 f v ((k,x) :: r)=(if k=f then (k,v) :: r else (k,x) :: d7 f v r) from rfl]
  by_cases hk:k=f
  ·rw [if_pos hk,bo,bo]; omega
  ·rw [if_neg hk,bo,bo]; omega
theorem iC.some_of {v:V} {o:Option Value} (r:iC (some v) o):∃ u,o=some u∧RelV v u:=by
 cases o with
 | none=>exact (show False from r).elim
 | some u=>exact ⟨u,rfl,r⟩
theorem iC.none_of {o:Option Value} (r:iC none o):o=none:=by
 cases o with
 | none=>rfl
 | some u=>exact (show False from r).elim
theorem zV {v:V} {u:Value} (r:RelV v u):PySem.W.handedIn u=true:=by
 cases v with
 | non=>cases (show u=Value.none from r); rfl
 | bl b=>cases (show u=Value.bool b from r); rfl
 | int i=>obtain ⟨t,e⟩:=(show ∃ t,u=Value.int i t from r); cases e; rfl
 | str x=>obtain ⟨t,e⟩:=(show ∃ t,u=Value.str x t from r); cases e; rfl
 | Bw b=>obtain ⟨t,e⟩:=(show ∃ t,u=Value.bytes b t from r); cases e; rfl
 | flt b=>obtain ⟨t,e⟩:=(show ∃ t,u=Value.float b t from r); cases e; rfl
 | ref a=>cases (show u=Value.ref a from r); rfl
 | ty n=>cases (show u=Value.type n from r); rfl
section
variable {P:Program} {w:World} {H H':Hp} {h h':Heap} {a C dx:Addr} {fs fs':List (Str × V)}
theorem nQ (hok:jY P w H h) (e:H a=some (.ins C dx fs)):∃ mA,wg h a dx C mA∧(∀ f,iC (fs.lookup f) (mA f))∧PySem.Within mA (fs.map (·.1))∧fs.length ≤ 1000∧H dx=some (.own a):=by
 obtain ⟨d,z,ne,ob,mA,n,r,q⟩:=(show cH P w H h a (.ins C dx fs) from hok a _ e)
 exact ⟨mA,⟨ob,n,ne⟩,r,q,z,d⟩
end
structure Cls (K:fm) (C:Addr):Prop where
 pg:PySem.W.plainGet K C Str.empty=true
 hd:PySem.W.hasDictIn K C=true
 po:PySem.W.plainOver K C=true
 sa:gt K (.ref C) "__setattr__" = some (some (.builtin "object.__setattr__"))
theorem Cls.get {K:fm} {C:Addr} (c:Cls K C) (f:Str):PySem.W.plainGet K C f=true:=c.pg
def dQ (K:fm) (C:Addr) (f:Str):Prop:=gt K (.ref C) f=some none
theorem dQ.taker {K:fm} {C:Addr} {f:Str} (n:dQ K C f):PySem.W.takerIn K C f=some none:=by
 unfold PySem.W.takerIn
 rw [show gt K (.ref C) f=some none from n]
 rfl
structure Meth (K:fm) (C:Addr) (m:Str) (f:Addr):Prop where
 at_:gt K (.ref C) m=some (some (.ref f))
 fn:PySem.W.isFn K (.ref f)=true
 kp:fo K (.ref f)=true
section
variable {X:Cx} {pins:List (Addr × Obj)} {σ:St} {H:Hp} {s:Shared} {a C dx:Addr} {fs:List (Str × V)} {f:Str} {v:V} {A:Around} {E:Value→Shared→Prop}
theorem wj {b:Bool} {Q:Value→Shared→Prop} (I:Inv X pins σ H s) (e:H a=some (.ins C dx fs)) (c:Cls X.K C) (n:dQ X.K C f) (l:fs.lookup f=some v)
  (h:∀ u s',Inv X pins σ H s'→RelV v u→Q u s'):wpAny (model X.prog X.w) A (getAttr (.ref a) f b) Q E s:=by
 obtain ⟨mA,O,r,_,_,_⟩:=nQ I.hok e
 obtain ⟨u,hu,ru⟩:=iC.some_of (v:=v) (o:=mA f) (by rw [← l]; exact r f)
 exact get_map I.lG O (c.get f) c.hd n hu (zV ru) (h u _ (I.tok _) ru)
theorem wk {m:Str} {g:Addr} {pl:Sem Bool} {Q:Value × List Value→Shared→Prop} (I:Inv X pins σ H s) (e:H a=some (.ins C dx fs)) (c:Cls X.K C) (k:Meth X.K C m g) (l:fs.lookup m=none)
  (h:Q (.ref g,[.ref a]) s):wpAny (model X.prog X.w) A (getMethod (.ref a) m pl) Q E s:=by
 obtain ⟨mA,O,r,_,_,_⟩:=nQ I.hok e
 have hn:mA m=none:=iC.none_of (by rw [← l]; exact r m)
 exact BX I.lG O (c.get m) k.at_ k.fn hn h
theorem wm {y:V} {u:Value} {Q:Unit→Shared→Prop} (I:Inv X pins σ H s) (e:H a=some (.ins C dx fs)) (c:Cls X.K C) (n:dQ X.K C f) (hl:fs.length < 1000) (ry:RelV y u)
  (h:∀ s',Inv X pins σ (upd H a (.ins C dx (d7 f y fs))) s'→Q () s'):wpAny (model X.prog X.w) A (setAttr (.ref a) f u) Q E s:=by
 obtain ⟨mA,O,r,wi,_,ho⟩:=nQ I.hok e
 have hz:(fs.map (·.1)).length ≤ de:=by rw [List.length_map,sizeLine_eq]; omega
 refine Fe I.lG O c.sa c.po n.taker c.hd wi hz fun h' O' sb=>h _ ?_
 have hd:∃ o,h'.get? dx=some o:=let ⟨o,_,_,e',_⟩:=O'.ns; ⟨o,e'⟩
 refine I.write (x:=a) (e:=dx) (by rw [e]; exact True.intro) (.inr ho) (fun b q hb z=>(sb.2 b hb).trans z) hd ?_
 refine ⟨by rw [aL O.ne]; exact ho,?_,O.ne,O'.obj,_,O'.ns,fun g=>?_,fun g hg=>?_⟩
 ·have:=mh f y fs; omega
 ·show iC ((d7 f y fs).lookup g) (if g=f then some u else mA g)
  rw [lZ]
  by_cases q:g=f
  ·rw [if_pos q,if_pos q]; exact ry
  ·rw [if_neg q,if_neg q]; exact r g
 ·by_cases q:g=f
  ·rw [q]; exact (lK f y fs).1
  ·refine (lK f y fs).2 g (wi g fun z=>hg ?_)
   show (if g=f then some u else mA g)=none
   rw [if_neg q]; exact z
theorem Inv.made (I:Inv X pins σ H s):Inv X pins σ (upd (upd H s.heap.objs.size (.own (s.heap.objs.size + 1))) (s.heap.objs.size + 1) (.ins C s.heap.objs.size []))
  { s with heap:=(s.heap.push PySem.W.emptyDict).push (PySem.W.instObj C s.heap.objs.size) }:=by
 have e1:(s.heap.push PySem.W.emptyDict).get? s.heap.objs.size=some PySem.W.emptyDict:=em s.heap rfl
 have e2:((s.heap.push PySem.W.emptyDict).push (PySem.W.instObj C s.heap.objs.size)).get? (s.heap.objs.size + 1)=some (PySem.W.instObj C s.heap.objs.size):=by
  have:=em (s.heap.push PySem.W.emptyDict) (o:=PySem.W.instObj C s.heap.objs.size) rfl
  rwa [Heap.size_push] at this
 have e3:(s.heap.push PySem.W.emptyDict).Ns s.heap.objs.size (fun _=>none):=⟨PySem.W.emptyDict,#[],_,e1,rfl,(fun e he=>absurd he (by simp)),fun _=>rfl⟩
 have I1:=I.laid (a:=s.heap.objs.size) (o:=.own (s.heap.objs.size + 1)) (h':=s.heap.push PySem.W.emptyDict) (t':=s.toks) (fun b u q=>el _ q) (ii _) ⟨_,e1⟩
 refine I1.laid (a:=s.heap.objs.size + 1) (o:=.ins C s.heap.objs.size []) (t':=s.toks) (fun b u q=>el _ q) (Nat.le_of_eq (Heap.size_push _ _)) ?_
 have ne:s.heap.objs.size ≠ s.heap.objs.size + 1:=ij (Nat.lt_succ_self _)
 refine ⟨by rw [aL ne,ah],Nat.zero_le _,ne,e2,fun _=>none,(Heap.Ns1.of_empty e3).at fun o q=>el _ q,fun _=>True.intro,fun y hy=>absurd rfl hy⟩
theorem Ff {prog:Program} {w:World} {env:Env} {e:Expr} {f:Str} {pos:Pos} {s:Shared} {Q:Value→Shared→Prop} (hb:attributeBase e f env (eval e env)=eval e env)
  (h:wpAny (model prog w) A (eval e env) (fun o s₁=>wpAny (model prog w) A (getAttr o f true) Q E s₁) E s):wpAny (model prog w) A (eval (.Attribute e f pos) env) Q E s :=
 Attribute_any_ h (by rw [arm_eval_Attribute,hb])
end
def RI (K:fm) (ta:TE) (f:Str):TE:=fun σ H Q=>ta σ H fun x H1=>∃ a C dx fs v,x=.ref a∧H1 a=some (.ins C dx fs)∧Cls K C∧dQ K C f∧fs.lookup f=some v∧Q v H1
def RJ (K:fm) (ta tv:TE) (f:Str):TS:=fun D σ H=>tv σ H fun y H1=>ta σ H1 fun x H2=>∃ a C dx fs,x=.ref a∧H2 a=some (.ins C dx fs)∧Cls K C∧dQ K C f∧fs.length < 1000 ∧
 D.nx σ (upd H2 a (.ins C dx (d7 f y fs)))
section
variable {X:Cx} {o e value:Expr} {f:Str} {pos pos' tpos:Pos} {ta tv:TE}
theorem bw (he:PE X e ta) (hb:attributeBase e f X.env (eval e X.env)=eval e X.env):PE X (.Attribute e f pos) (RI X.K ta f):=by
 intro pins s σ H Q I h
 refine Ff hb (cL (he pins s σ H _ I h) fun u s1 ⟨x,H1,I1,rx,a,C,dx,fs,v,ex,ea,c,n,l,q⟩=>?_)
 subst ex
 obtain rfl:u=Value.ref a:=rx
 exact wj I1 ea c n l fun u' s2 I2 ru=>⟨v,H1,I2,ru,q⟩
theorem dw (ha:PE X o ta) (hv:PE X value tv) (hs:swapsWith value (some (.Attribute o f pos')) pos.line X.env=pure false):PS X (.Assign [.Attribute o f pos'] value pos) (RJ X.K ta tv f):=by
 intro pins s σ H D I h
 refine plainObj_wpAny_Assign_Attribute (cL (hv pins s σ H _ I h) fun u s1 ⟨y,H1,I1,ry,q⟩=>cL (ha pins s1 σ H1 _ I1 q) fun ov s2 ⟨x,H2,I2,rx,a,C,dx,fs,ex,ea,c,n,l,q2⟩=>?_) hs
 subst ex
 obtain rfl:ov=Value.ref a:=rx
 exact wm I2 ea c n l ry fun s3 I3=>⟨σ,_,I3,q2⟩
end
section
variable {X:Cx} {pins:List (Addr × Obj)} {σ:St} {H:Hp} {s:Shared} {A:Around} {E:Value→Shared→Prop} {Q:Value→Shared→Prop} {c:Value} {b:Bool}
inductive kl (K:fm) (H:Hp):V→Value→Prop where
 | non:kl K H .non (.type "NoneType")
 | bl (x:Bool):kl K H (.bl x) (.type "bool")
 | int (i:Int):kl K H (.int i) (.type "int")
 | str (x:Str):kl K H (.str x) (.type "str")
 | flt (x:UInt64):kl K H (.flt x) (.type "float")
 | lst {a:Addr} {xs:List V} (e:H a=some (.lst xs)):kl K H (.ref a) (.type "list")
 | yA {a:Addr} {o:Obj} {xs:List V} (e:H a=some (.yA o (.lst xs))):kl K H (.ref a) (.type "list")
 | tup {a:Addr} {xs:List V} (e:H a=some (.tup xs)):kl K H (.ref a) (.type "tuple")
 | dK {a:Addr} {kvs:List (Key × V)} (e:H a=some (.dK kvs)):kl K H (.ref a) (.type "dict")
 | dT {a:Addr} {kvs:List (List Key × V)} (e:H a=some (.dT kvs)):kl K H (.ref a) (.type "dict")
 | ins {a C dx:Addr} {fs:List (Str × V)} (e:H a=some (.ins C dx fs)) (cl:Cls K C) (ha:gt K (.ref C) "__class__" = some (some (.builtin "object.__class__")))
   (hn:PySem.W.specialIn K (.builtin "object.__class__") "__get__" = some (some (.builtin "getset_descriptor.__get__"))) (htk:PySem.W.takesIn K (.builtin "object.__class__")=some true)
   (hm:PySem.W.mroIn K C (.type "object")=some true):kl K H (.ref a) (.ref C)
theorem zW {x:V} {u t:Value} (I:Inv X pins σ H s) (rx:RelV x u) (ty:kl X.K H x t) (e:PySem.W.kitOne X.K t c=some b) (h:∀ tk,Q (.bool b) { s with toks:=tk }) :
  wpAny (model X.prog X.w) A (call (.builtin "isinstance") [u,c]) Q E s:=by
 cases ty with
 | non=>cases (show u=Value.none from rx); exact PySem.W.kia_one PySem.W.kitx_none I.lG True.intro e (fun z=>nomatch z) h
 | bl y=>cases (show u=Value.bool y from rx); exact PySem.W.kia_one PySem.W.kitx_bool I.lG True.intro e (fun z=>nomatch z) h
 | int i=>obtain ⟨t,q⟩:=(show ∃ t,u=Value.int i t from rx); cases q; exact PySem.W.kia_one PySem.W.kitx_int I.lG True.intro e (fun z=>nomatch z) h
 | str y=>obtain ⟨t,q⟩:=(show ∃ t,u=Value.str y t from rx); cases q; exact PySem.W.kia_one PySem.W.kitx_str I.lG True.intro e (fun z=>nomatch z) h
 | flt y=>obtain ⟨t,q⟩:=(show ∃ t,u=Value.float y t from rx); cases q; exact PySem.W.kia_one PySem.W.kitx_float I.lG True.intro e (fun z=>nomatch z) h
 | @lst a xs ea =>
  cases (show u=Value.ref a from rx)
  obtain ⟨_,_,n,_,h1⟩:=(show cH X.prog X.w H s.heap a (.lst xs) from I.hok a _ ea)
  exact PySem.W.kia_one PySem.W.kitx_list I.lG ⟨_,h1,rfl⟩ e (fun z=>nomatch z) h
 | @yA a ob xs ea =>
  cases (show u=Value.ref a from rx)
  obtain ⟨_,_,_,n,_,h1⟩:=(show cH X.prog X.w H s.heap a (.yA ob (.lst xs)) from I.hok a _ ea)
  exact PySem.W.kia_one PySem.W.kitx_list I.lG ⟨_,h1,rfl⟩ e (fun z=>nomatch z) h
 | @tup a xs ea =>
  cases (show u=Value.ref a from rx)
  obtain ⟨_,_,_,p⟩:=(show cH X.prog X.w H s.heap a (.tup xs) from I.hok a _ ea)
  obtain ⟨o,h1,h2,_⟩:=p
  exact PySem.W.kia_one PySem.W.kitx_tuple I.lG ⟨o,h1,h2⟩ e (fun z=>nomatch z) h
 | @dK a kvs ea =>
  cases (show u=Value.ref a from rx)
  obtain ⟨_,_,vs,_,p⟩:=(show cH X.prog X.w H s.heap a (.dK kvs) from I.hok a _ ea)
  obtain ⟨o,es,ep,h1,h2,_⟩:=p
  exact PySem.W.kia_one PySem.W.kitx_dict I.lG ⟨o,h1,h2.1⟩ e (fun z=>nomatch z) h
 | @dT a kvs ea =>
  cases (show u=Value.ref a from rx)
  obtain ⟨_,_,xs,_,o,es,ep,h1,h2,_⟩:=(show cH X.prog X.w H s.heap a (.dT kvs) from I.hok a _ ea)
  exact PySem.W.kia_one PySem.W.kitx_dict I.lG ⟨o,h1,h2.1⟩ e (fun z=>nomatch z) h
 | @ins a C dx fs ea cl ha hn htk hm =>
  cases (show u=Value.ref a from rx)
  obtain ⟨mA,O,_⟩:=nQ I.hok ea
  obtain ⟨od,J,_⟩:=O.look
  exact PySem.W.kia_one (PySem.W.kitx_own (cl.get _) cl.hd ha hn htk hm) I.lG J e (fun z=>nomatch z) h
end
structure fh (k:Nat) (A:Around):Prop where
 hd:A.handled=none
 dp:A.depth + 3 * k + 5 < recursionLimit
 un:A.units + 16 * k + 200 < cLine
theorem fh.mono {j k:Nat} {A:Around} (r:fh k A) (h:j ≤ k):fh j A:=⟨r.hd,by have:=r.dp; omega,by have:=r.un; omega⟩
theorem fh.deeper {k:Nat} {A:Around} (r:fh (k + 1) A) (env:Env):fh k (A.deeper env) :=
 ⟨r.hd,by have:=r.dp; show A.depth + 1 + 3 * k + 5 < _; omega,by have:=r.un; show A.units + 3 + 16 * k + 200 < _; omega⟩
theorem wo {A:Around} {C:Addr} {us:List Value} {kw:List (Str × Value)}:(A.under (.builtin "type.__call__" ⟨.ref C :: us,kw⟩)).depth=A.depth + 1:=by
 first | rfl | simp [Around.under,Code.weight,Code.isCreation,Code.isGuard,Code.isCaller,Code.frames,Code.isFrame,guardIds]
theorem wq {A:Around} {C:Addr} {us:List Value} {kw:List (Str × Value)}:(A.under (.builtin "type.__call__" ⟨.ref C :: us,kw⟩)).units=A.units + 1:=by
 first | rfl | simp [Around.under,Code.cUnits,Code.frames,Code.isFrame]
theorem fh.make {k:Nat} {A:Around} (r:fh (k + 1) A) (C:Addr) (us:List Value) (kw:List (Str × Value)):fh k (A.under (.builtin "type.__call__" ⟨.ref C :: us,kw⟩)) :=
 ⟨r.hd,by have:=r.dp; rw [wo]; omega,by have:=r.un; rw [wq]; omega⟩
theorem fh.depth {k:Nat} {A:Around} (r:fh k A):A.depth < recursionLimit:=by have:=r.dp; omega
theorem fh.units {k:Nat} {A:Around} (r:fh k A):A.units + 64 < cLine:=by have:=r.un; omega
theorem fh.JU {k:Nat} {A:Around} (r:fh k A):A.units < cLine:=by have:=r.un; omega
def qv:TA:=fun _ H Q=>Q [] H
def qW (ta:TE) (tr:TA):TA:=fun σ H Q=>ta σ H fun x H1=>tr σ H1 fun xs H2=>Q (x :: xs) H2
section
variable {X:Cx} {e:Expr} {es:List Expr} {te:TE} {t:TA} {pos:Pos}
theorem ao:PA X [] qv:=fun _ _ _ _ H Q I h=>Calls.spliced_nil ⟨[],H,I,.nil,h⟩
theorem ae (ha:PE X e te) (hr:PA X es t) (hs:starEach (e :: es) X.env=(false,eval e X.env) :: starEach es X.env:=by rfl):PA X (e :: es) (qW te t):=by
 intro pos pins s σ H Q I h
 rw [hs]
 show wpAny _ _ (spliced ((false,eval e X.env) :: backTo pos (starEach es X.env))) _ _ s
 refine Calls.spliced_cons (cL (ha pins s σ H _ I h) fun u s1 ⟨x,H1,I1,r1,q1⟩=>?_)
 exact cL (hr pos pins s1 σ H1 _ I1 q1) fun us s2 ⟨xs,H2,I2,r2,q2⟩=>⟨x :: xs,H2,I2,.cons r1 r2,q2⟩
def MI (t:TA):TE:=fun σ H Q=>t σ H fun xs H1=>xs.length ≤ de∧∀ p,H1 p=none→Q (.ref p) (upd H1 p (.tup xs))
def uY (t:TA):TE:=fun σ H Q=>t σ H fun xs H1=>xs.length ≤ de∧∀ p,H1 p=none→Q (.ref p) (upd H1 p (.lst xs))
theorem bg {x1} (h:PA X es t):PE X (.Tuple es x1 pos) (MI t):=by
 intro pins s σ H Q I hq
 refine wpAny_Tuple_spliced (cL (h pos pins s σ H _ I hq) fun us s1 ⟨xs,H1,I1,r,z,q⟩=>⟨by rw [← r.length]; exact z,?_⟩)
 have hf:H1 s1.heap.objs.size=none:=I1.hok.fresh (ii _)
 refine ⟨.ref s1.heap.objs.size,upd H1 s1.heap.objs.size (.tup xs),I1.laid (t':=s1.toks) (fun b u e=>el _ e) (ii _) ?_,rfl,q _ hf⟩
 exact ⟨z,us,r,⟨_,em _ rfl,rfl,_,rfl⟩⟩
theorem cr (h:PA X es t):PE X (.List es pos) (uY t):=by
 intro pins s σ H Q I hq
 refine wpAny_List_spliced (cL (h pos pins s σ H _ I hq) fun us s1 ⟨xs,H1,I1,r,z,q⟩=>⟨by rw [← r.length]; exact z,?_⟩)
 have hf:H1 s1.heap.objs.size=none:=I1.hok.fresh (ii _)
 refine ⟨.ref s1.heap.objs.size,upd H1 s1.heap.objs.size (.lst xs),I1.laid (t':=s1.toks) (fun b u e=>el _ e) (ii _) ?_,rfl,q _ hf⟩
 exact ⟨z,us,0,r,em _ rfl⟩
end
abbrev Sp:=List V→Hp→VK→XK→Prop
abbrev By:=List Env→Hp→Shared→XK→Value→Shared→Prop
structure wu (P:Program) (w:World) (K:fm) (mg:Str→Option Value) (base:Heap) (A:Around) (outer:List Env) (s:Shared) (H:Hp):Prop where
 frames:A.frames=some outer
 mod:Mod K mg base
 bs:∀ b o,base.get? b=some o→s.heap.get? b=some o∧H b=none
 EZ:base.objs.size ≤ s.heap.objs.size
 mU:s.heap.FunFrames base outer
 JD:∀ b ∈ frs outer,H b=none
 hok:jY P w H s.heap
 bare:AllBare s.gens
def CE (outer:List Env) (P:Program) (w:World) (H:Hp) (s:Shared) (Q:VK) (u:Value) (s':Shared):Prop :=
 ∃ v H',s'.os=s.os∧AllBare s'.gens∧Un (frs outer) [] H H' s.heap s'.heap∧jY P w H' s'.heap∧RelV v u∧Q v H'
def CR (CX:By) (outer:List Env) (P:Program) (w:World) (H:Hp) (s:Shared) (Q:VK) (E:XK) (r:Result) (s':Shared):Prop :=
 match r with
 | .ok (.ret u)=>CE outer P w H s Q u s'
 | .ok _=>False
 | .error e=>CX outer H s E e s'
structure aR (P:Program) (w:World) (K:fm) (mg:Str→Option Value) (base:Heap) (CX:By) (k:Nat) (f:Addr) (fd:cx) (ps:List Str) (sp:Sp):Prop where
 len:∀ vs H Q E,sp vs H Q E→vs.length=ps.length
 run:∀ (A:Around) (outer:List Env) (s:Shared) (H:Hp) (args:Args) (us:List Value) (vs:List V) (Q:VK) (E:XK),fh k A→wu P w K mg base A outer s H→BindsTo s fd args (ps.zip us)→Vals vs us→sp vs H Q E →
  codeAny (model P w) A (.call (.ref f) args) (CR CX outer P w H s Q E) s
theorem aR.mono {P:Program} {w:World} {K:fm} {mg:Str→Option Value} {base:Heap} {CX:By} {j k:Nat} {f:Addr} {fd:cx} {ps:List Str} {sp:Sp} (F:aR P w K mg base CX j f fd ps sp) (h:j ≤ k) :
  aR P w K mg base CX k f fd ps sp:=⟨F.len,fun A outer s H args us vs Q E hr=>F.run A outer s H args us vs Q E (hr.mono h)⟩
theorem wu.make {P:Program} {w:World} {K:fm} {mg:Str→Option Value} {base:Heap} {A:Around} {outer:List Env} {s:Shared} {H:Hp} (e:wu P w K mg base A outer s H) (C:Addr) (us:List Value) (kw:List (Str × Value)) :
  wu P w K mg base (A.under (.builtin "type.__call__" ⟨.ref C :: us,kw⟩)) outer s H:=⟨by first | exact e.frames | (simpa [Around.under,Code.envs,Code.isFrame,pushEnvs] using e.frames),e.mod,e.bs,e.EZ,e.mU,e.JD,e.hok,e.bare⟩
section
variable {X:Cx} {pins:List (Addr × Obj)} {σ:St} {H:Hp} {s s':Shared}
theorem Inv.env0 (I:Inv X pins σ H s):wu X.prog X.w X.K X.mg X.base X.A X.stack s H :=
 ⟨I.ok.frames,I.ok.mod,I.bs,io I.ok.EZ I.sz,I.stack,I.yB,I.hok,I.bare⟩
theorem Inv.after {Q:VK} {u:Value} (I:Inv X pins σ H s) (h:CE X.stack X.prog X.w H s Q u s'):EP X pins σ Q u s':=by
 obtain ⟨v,H',os,bare,un,hok,r,q⟩:=h
 obtain ⟨hh,g,d,t,os'⟩:=s'
 obtain rfl:os'=s.os:=os
 exact ⟨v,H',I.call (h':=hh) (g':=g) (d':=d) (t':=t) (ch:=[]) un hok bare (fun b z=>absurd z (by simp)),r,q⟩
end
def MK (sp:Sp) (qx:List V) (E:XK) (t:TA):TE:=fun σ H Q=>t σ H fun vs H1=>sp (vs ++ qx) H1 Q E
def MN (C:Addr) (m:Str) (sp:Sp) (qx:List V) (E:XK) (ta:TE) (t:TA):TE:=fun σ H Q=>ta σ H fun x H1=>∃ a dx fs,x=.ref a∧H1 a=some (.ins C dx fs)∧fs.lookup m=none ∧
 t σ H1 fun vs H2=>sp (x :: (vs ++ qx)) H2 Q E
def MO (C:Addr) (sp:Sp) (qx:List V) (E:XK) (t:TA):TE:=fun σ H Q=>t σ H fun vs H1=>∀ x dx,H1 x=none→H1 dx=none→dx ≠ x →
 sp (.ref x :: (vs ++ qx)) (upd (upd H1 dx (.own x)) x (.ins C dx [])) (fun v H2=>v=.non∧Q (.ref x) H2) E
def Binds (K:fm) (fd:cx) (ps:List Str) (ds:List Value):Prop :=
 ∀ (s:Shared) (us:List Value),K.In s.heap→(us ++ ds).length=ps.length→BindsTo s fd ⟨us,[]⟩ (ps.zip (us ++ ds))
theorem Binds.all {K:fm} {fd:cx} {ps:List Str} (h:∀ us:List Value,us.length=ps.length→bindArgs fd ⟨us,[]⟩=pure (ps.zip us)):Binds K fd ps []:=fun s us _ hl=>by
 rw [List.append_nil] at hl ⊢
 exact .of_eq (h us hl)
def Passes (CX:By) (X:Cx) (E:XK):Prop:=∀ (pins:List (Addr × Obj)) (σ:St) (H:Hp) (s:Shared) (e:Value) (s':Shared),Inv X pins σ H s→CX X.stack H s E e s'→X.xe e s'
section
variable {X:Cx} {CX:By} {k:Nat} {f C:Addr} {fd:cx} {ps:List Str} {sp:Sp} {qx:List V} {ds:List Value} {E:XK} {x m:Str} {p pos apos:Pos} {e o:Expr} {es:List Expr} {ta:TE} {t:TA}
theorem wx {pins:List (Addr × Obj)} {σ:St} {H:Hp} {s:Shared} {Q:VK} {us:List Value} {vs:List V} (F:aR X.prog X.w X.K X.mg X.base CX k f fd ps sp) (hr:fh k X.A) (hb:Binds X.K fd ps ds) (hd:Vals qx ds) (hx:Passes CX X E)
  (I:Inv X pins σ H s) (r:Vals vs us) (h:sp (vs ++ qx) H Q E):wpAny (model X.prog X.w) X.A (call (.ref f) us) (EP X pins σ Q) X.xe s:=by
 have r2:Vals (vs ++ qx) (us ++ ds):=r.append hd
 have hl:(us ++ ds).length=ps.length:=by rw [← r2.length]; exact F.len _ _ _ _ h
 refine wpAny_call (codeAny_mono (F.run X.A X.stack s H ⟨us,[]⟩ (us ++ ds) (vs ++ qx) Q E hr I.env0 (hb s us I.lG hl) r2 h) fun r s' hq=>?_)
 cases r with
 | error e=>exact hx pins σ H s e s' I hq
 | ok fl =>
  cases fl with
  | ret u=>exact I.after hq
  | next=>exact False.elim hq
  | brk=>exact False.elim hq
  | cont=>exact False.elim hq
theorem aQ (F:aR X.prog X.w X.K X.mg X.base CX k f fd ps sp) (hr:fh k X.A) (hg:Gl X x) (hm:X.mg x=some (.ref f)) (hk:fo X.K (.ref f)=true) (hb:Binds X.K fd ps ds) (hd:Vals qx ds) (hx:Passes CX X E)
  (ha:PA X (e :: es) t) (hdb:(x == ("__debug__" : Str))=false:=by decide) (he:starEach (e :: es) X.env=(false,eval e X.env) :: starEach es X.env:=by rfl) (hpl:(backTo pos (starEach es X.env)).any (·.1)=false:=by rfl) :
  PE X (.Call (.Name x p) (e :: es) [] pos) (MK sp qx E t):=by
 intro pins s σ H Q I h
 refine wpAny_Call_Name_kw (sd I hg hm ?_ hdb)
 refine PySem.W.callWith_K (h₀:=X.base) I.ok.mod.Mh hk (cL (ha pos pins s σ H _ I h) fun us s1 ⟨vs,H1,I1,r,q⟩=>⟨I1.lG,?_⟩) he hpl
 exact wx F hr hb hd hx I1 r q
theorem gZ {pl:Sem Bool} (he:PE X o ta) (c:Cls X.K C) (hm:Meth X.K C m f) (F:aR X.prog X.w X.K X.mg X.base CX k f fd ps sp) (hr:fh k X.A) (hb:Binds X.K fd ps ds) (hd:Vals qx ds) (hx:Passes CX X E)
  (ht:eval (.Call (.Attribute o m apos) [] [] pos) X.env=(do
   let ov ← eval o X.env
   standAt apos.atName
   let (f,first) ← holding [ov] (getMethod ov m pl)
   callWith pos f first (backTo pos (starEach [] X.env)) (backToKw pos (keywordEach [] X.env))):=by rfl) :
  PE X (.Call (.Attribute o m apos) [] [] pos) (MN C m sp qx E ta qv):=by
 intro pins s σ H Q I h
 refine PySem.W.methodCall_KW (pl:=pl) (cL (he pins s σ H _ I h) fun u s1 ⟨x,H1,I1,rx,a,dx,fs,ex,ea,l,q⟩=>?_) ht
 subst ex
 obtain rfl:u=Value.ref a:=rx
 refine wk I1 ea c hm l ?_
 exact PySem.W.callWith_K0 (first:=[.ref a]) I1.lG hm.kp (wx (us:=[.ref a]) (vs:=[.ref a]) F hr hb hd hx I1 (.cons rfl .nil) q)
structure Mk (K:fm) (C f:Addr):Prop where
 makes:PySem.W.makesIn K C=true
 init:gt K (.ref C) "__init__" = some (some (.ref f))
 fn:PySem.W.isFn K (.ref f)=true
 kp:fo K (.ref C)=true
theorem B1 {pins:List (Addr × Obj)} {σ:St} {H:Hp} {s:Shared} {Q:VK} {us:List Value} {vs:List V} (M:Mk X.K C f) (F:aR X.prog X.w X.K X.mg X.base CX k f fd ps sp) (hr:fh (k + 1) X.A) (hb:Binds X.K fd ps ds) (hd:Vals qx ds)
  (hx:Passes CX X E) (I:Inv X pins σ H s) (r:Vals vs us)
  (h:∀ x dx,H x=none→H dx=none→dx ≠ x→sp (.ref x :: (vs ++ qx)) (upd (upd H dx (.own x)) x (.ins C dx [])) (fun v H2=>v=.non∧Q (.ref x) H2) E) :
  wpAny (model X.prog X.w) X.A (call (.ref C) us) (EP X pins σ Q) X.xe s:=by
 have hq:=h (s.heap.objs.size + 1) s.heap.objs.size (I.hok.fresh (Nat.le_succ _)) (I.hok.fresh (ii _)) (ij (Nat.lt_succ_self _))
 have I2:=Inv.made (C:=C) I
 have r2:Vals (V.ref (s.heap.objs.size + 1) :: (vs ++ qx)) (Value.ref (s.heap.objs.size + 1) :: (us ++ ds)):=.cons rfl (r.append hd)
 have hl:(Value.ref (s.heap.objs.size + 1) :: us ++ ds).length=ps.length:=by
  have e:=r2.length
  rw [F.len _ _ _ _ hq] at e
  exact e.symm
 refine wpAny_call (BZ (f:=f) I.lG M.makes M.init (beq_iff_eq.mp M.fn) (codeAny_mono (F.run _ X.stack _ _ ⟨Value.ref (s.heap.objs.size + 1) :: us,[]⟩ (Value.ref (s.heap.objs.size + 1) :: (us ++ ds)) _ _ E (hr.make C us [])
  (I2.env0.make C us []) (hb _ (Value.ref (s.heap.objs.size + 1) :: us) I2.lG hl) r2 hq) fun r s' hq'=>?_))
 cases r with
 | error e=>exact hx pins σ _ _ e s' I2 hq'
 | ok fl =>
  cases fl with
  | ret u =>
   obtain ⟨v,H',I3,rv,ev,q3⟩:=I2.after hq'
   subst ev
   exact ⟨rv,⟨V.ref (s.heap.objs.size + 1),H',I3,rfl,q3⟩⟩
  | next=>exact False.elim hq'
  | brk=>exact False.elim hq'
  | cont=>exact False.elim hq'
theorem Fg (M:Mk X.K C f) (F:aR X.prog X.w X.K X.mg X.base CX k f fd ps sp) (hr:fh (k + 1) X.A) (hg:Gl X x) (hm:X.mg x=some (.ref C)) (hb:Binds X.K fd ps ds) (hd:Vals qx ds) (hx:Passes CX X E)
  (ha:PA X (e :: es) t) (hdb:(x == ("__debug__" : Str))=false:=by decide) (he:starEach (e :: es) X.env=(false,eval e X.env) :: starEach es X.env:=by rfl) (hpl:(backTo pos (starEach es X.env)).any (·.1)=false:=by rfl) :
  PE X (.Call (.Name x p) (e :: es) [] pos) (MO C sp qx E t):=by
 intro pins s σ H Q I h
 refine wpAny_Call_Name_kw (sd I hg hm ?_ hdb)
 refine PySem.W.callWith_K (h₀:=X.base) I.ok.mod.Mh M.kp (cL (ha pos pins s σ H _ I h) fun us s1 ⟨vs,H1,I1,r,q⟩=>⟨I1.lG,?_⟩) he hpl
 exact B1 M F hr hb hd hx I1 r q
end
section
variable {X:Cx} {CX:By} {k:Nat} {f C:Addr} {fd:cx} {ps ks:List Str} {sp:Sp} {E:XK} {x m:Str} {p pos apos kpos:Pos} {e o:Expr} {es:List Expr} {kws:List Keyword} {te ta:TE} {t tk:TA} {nm:Option Str}
variable {g:List Value→List Value→List Value} {gV:List V→List V→List V}
end
structure aJ (N P:List Str) (sc:Scope):Prop where
 kind:sc.kind=.function
 co:sc.isCoroutine=false
 gen:sc.isGenerator=false
 nd:N.Nodup
 pre:N.take P.length=P
 par:∀ x ∈ P,sc.names.lookup x=some .local∨sc.names.lookup x=some .cell
 JV:∀ y ∈ sc.names,y.2 ≠ .free
theorem qX {kindOf:Str→Option NameKind} {x:Str}:∀ {binds:List (Str × Value)} {m:Str→Option Value},(∀ v,(x,v) ∉ binds)→bindL kindOf binds m x=m x
 | [],_,_=>rfl
 | (n,v) :: r,m,h=>by
  unfold bindL
  rw [qX fun w hw=>h w (List.mem_cons_of_mem _ hw)]
  split
  ·have:x ≠ n:=by rintro rfl; exact h v List.mem_cons_self
   simp [this]
  ·rfl
theorem qY {kindOf:Str→Option NameKind} {x:Str}:∀ {binds:List (Str × Value)} {m:Str→Option Value},(∀ v,(x,v) ∉ binds)→bindC kindOf binds m x=m x
 | [],_,_=>rfl
 | (n,v) :: r,m,h=>by
  unfold bindC
  rw [qY fun w hw=>h w (List.mem_cons_of_mem _ hw)]
  split
  ·rfl
  ·have:x ≠ n:=by rintro rfl; exact h v List.mem_cons_self
   simp [this]
theorem qZ {kindOf:Str→Option NameKind} {x:Str} {v:Value}:∀ {P:List Str} {vs:List Value} {i:Nat} {m:Str→Option Value},P.Nodup→P[i]? = some x→vs[i]? = some v→kindOf x=some .local →
  bindL kindOf (P.zip vs) m x=some v
 | [],_,_,_,_,h,_,_=>by simp at h
 | _ :: _,[],_,_,_,_,h,_=>by simp at h
 | p :: P,w :: vs,0,m,nd,h1,h2,hk=>by
  simp at h1 h2; subst h1; subst h2
  show bindL kindOf ((p,w) :: P.zip vs) m p=_
  unfold bindL
  rw [qX fun v hv=>(ca.mp nd).1 (List.of_mem_zip hv).1,if_pos hk]
  simp
 | p :: P,w :: vs,i + 1,m,nd,h1,h2,hk=>by
  show bindL kindOf ((p,w) :: P.zip vs) m x=_
  unfold bindL
  exact qZ (i:=i) (ca.mp nd).2 (by simpa using h1) (by simpa using h2) hk
theorem rc {kindOf:Str→Option NameKind} {x:Str} {v:Value}:∀ {P:List Str} {vs:List Value} {i:Nat} {m:Str→Option Value},P.Nodup→P[i]? = some x→vs[i]? = some v→kindOf x ≠ some .local →
  bindC kindOf (P.zip vs) m x=some v
 | [],_,_,_,_,h,_,_=>by simp at h
 | _ :: _,[],_,_,_,_,h,_=>by simp at h
 | p :: P,w :: vs,0,m,nd,h1,h2,hk=>by
  simp at h1 h2; subst h1; subst h2
  show bindC kindOf ((p,w) :: P.zip vs) m p=_
  unfold bindC
  rw [qY fun v hv=>(ca.mp nd).1 (List.of_mem_zip hv).1,if_neg hk]
  simp
 | p :: P,w :: vs,i + 1,m,nd,h1,h2,hk=>by
  show bindC kindOf ((p,w) :: P.zip vs) m x=_
  unfold bindC
  exact rc (i:=i) (ca.mp nd).2 (by simpa using h1) (by simpa using h2) hk
def start (N:List Str) (vs:List V):St:=vs.map some ++ List.replicate (N.length - vs.length) none
def zX (CX:By) (P:Program) (w:World) (K:fm) (mg:Str→Option Value) (base:Heap) (N:List Str) (qual:Str) (scope:Scope) (f:Addr) (cd:Value) (A:Around) (outer:List Env) (s:Shared) (H:Hp) (E:XK):Cx where
 prog:=P
 w:=w
 K:=K
 mg:=mg
 base:=base
 A:=A.deeper (envOfC qual scope s.heap.objs.size f cd)
 N:=N
 s₀:=s
 H₀:=H
 env:=envOfC qual scope s.heap.objs.size f cd
 outer:=outer
 stack:=envOfC qual scope s.heap.objs.size f cd :: outer
 ex:=[]
 calm:=true
 fn:=fun _=>true
 pn:=[]
 xe:=fun e s'=>wpAny (model P w) (A.deeper (envOfC qual scope s.heap.objs.size f cd)) (leaving (envOfC qual scope s.heap.objs.size f cd) e) (fun _ s''=>CX outer H s E e s'') (fun e' s''=>CX outer H s E e' s'') s'
theorem uZ {sc:Scope} {n:Nat} {x:Str} (h:sc.names.lookup x=some .cell):∃ c,(cellsFrom n sc.names []).lookup x=some c:=by
 have q:=PySem.W.cellsFrom_some sc.names n [] (.inl h)
 exact Option.isSome_iff_exists.mp q
theorem zY {CX:By} {P:Program} {w:World} {K:fm} {mg:Str→Option Value} {base:Heap} {N ps:List Str} {qual:Str} {scope:Scope} {f:Addr} {cd:Value} {A:Around} {outer:List Env} {s s1:Shared} {H:Hp} {E:XK} {us:List Value} {vs:List V}
  (S:aJ N ps scope) (hd:A.handled=none) (e0:wu P w K mg base A outer s H) (hl:vs.length=ps.length) (r:Vals vs us)
  (x:InCallC s s.heap.objs.size (bindL (envOfC qual scope s.heap.objs.size f cd).kindOf (ps.zip us) fun _=>none) (cellsFrom (s.heap.objs.size + 1) scope.names []) (bindC (envOfC qual scope s.heap.objs.size f cd).kindOf (ps.zip us) fun _=>none) s1) :
  Inv (zX CX P w K mg base N qual scope f cd A outer s H E) [] (start N vs) H s1:=by
 have hpl:ps.length ≤ N.length:=by have:=congrArg List.length S.pre; rw [List.length_take] at this; omega
 obtain ⟨h1,tk,rfl,hk⟩:=x.done
 have MP:∀ b:Addr,b ∉ (zX CX P w K mg base N qual scope f cd A outer s H E).ex:=fun b z=>absurd (show b ∈ ([]:List Addr) from z) (by simp)
 refine ⟨⟨e0.mod,S.kind,rfl,rfl,ii _,fun y z c h1 h2=>?_,fun y hy=>?_,fun y c _ h=>?_,fun _=>hd,Around.frames_deeper e0.frames,.inr ⟨rfl,rfl⟩,fun b z=>absurd z (MP b),e0.bs,e0.EZ,fun b _ _=>MP b,fun b z=>absurd z (MP b),e0.mU,e0.JD⟩,
  rfl,e0.bare,Un.kept hk,⟨_,x.toInCall.ns,fun i y v h1 h2 h3=>?_⟩,fun y c h=>⟨_,x.cell y c h⟩,e0.hok.fresh (ii _),fun y c h=>?_,fun p hp=>absurd (show p ∈ ([]:List (Addr × Obj)) from hp) (by simp),e0.hok.kept hk,?_⟩
 ·exact name_of_addr x.apart (PySem.mem_of_lookup h1) (PySem.mem_of_lookup h2)
 ·have hy:scope.names.lookup y=some .cell∨scope.names.lookup y=some .free:=hy
  rcases hy with hy | hy
  ·exact uZ hy
  ·exact absurd rfl (S.JV _ (PySem.mem_of_lookup hy))
 ·exact Nat.le_of_lt (x.above y c (PySem.mem_of_lookup h))
 ·have hi:i < vs.length:=by
   unfold start at h2
   by_cases hi:i < vs.length
   ·exact hi
   ·rw [ar (by simpa using hi)] at h2
    rw [List.getElem?_replicate] at h2
    split at h2 <;> cases h2
  have ha:vs[i]? = some v:=by
   unfold start at h2
   rw [am (by simpa using hi),ab] at h2
   cases e:vs[i]? with
   | none=>rw [e] at h2; cases h2
   | some a=>rw [e] at h2; cases h2; rfl
  obtain ⟨u,hu,rv⟩:=r.get ha
  have hp:ps[i]? = some y:=by
   rw [← S.pre,List.getElem?_take_of_lt (by omega)]; exact h1
  have ndP:ps.Nodup:=by rw [← S.pre]; exact S.nd.sublist (List.take_sublist _ _)
  refine ⟨u,rv,?_⟩
  rcases S.par y (ad hp) with k | k
  ·exact .inl ⟨k,qZ ndP hp hu k⟩
  ·obtain ⟨c,e⟩:=uZ (n:=s.heap.objs.size + 1) k
   refine .inr ⟨.inl k,c,e,?_⟩
   have q:=x.cell y c e
   rw [rc ndP hp hu (by show scope.names.lookup y ≠ _; rw [k]; decide)] at q
   exact q
 ·exact e0.hok.fresh (Nat.le_of_lt (x.above y c (PySem.mem_of_lookup h)))
 ·unfold start
  show _=N.length
  rw [al,List.length_map,List.length_replicate]
  omega
theorem MQ {CX:By} {P:Program} {w:World} {K:fm} {mg:Str→Option Value} {base:Heap} {k:Nat} {f:Addr} {name qual:Str} {params:Arguments} {body:List Stmt} {scope:Scope} {dV kV doc pm cdv ct oc:Value} {an od:Option Addr}
  {osl:Array (Option Value)} {N ps:List Str} {sp:Sp} (lk:K.lookup f=some ⟨oc,od,.func (PySem.W.fnOf name qual params body scope dV kV doc pm an cdv ct),osl⟩) (hcd:PySem.W.codeIn K cdv qual=true) (S:aJ N ps scope)
  (len:∀ vs H Q E,sp vs H Q E→vs.length=ps.length)
  (hbody:∀ (A:Around) (outer:List Env) (s:Shared) (H:Hp) (vs:List V) (Q:VK) (E:XK),fh k (A.deeper (envOfC qual scope s.heap.objs.size f cdv))→sp vs H Q E →
   ∃ t,rZ (zX CX P w K mg base N qual scope f cdv A outer s H E) body t∧t { nx:=fun _ H'=>Q .non H',rt:=Q } (start N vs) H) :
  aR P w K mg base CX (k + 1) f (PySem.W.fnOf name qual params body scope dV kV doc pm an cdv ct) ps sp:=by
 refine ⟨len,fun A outer s H args us vs Q E hr e0 hb r hsp=>?_⟩
 have hl:=len _ _ _ _ hsp
 have KX:K.In s.heap:=e0.mod.Mh.keeps fun b o e=>(e0.bs b o e).1
 have lim:s.heap.NoLimit:=e0.mod.nolimit.keeps fun b o e=>(e0.bs b o e).1
 have hkind:∀ y ∈ ps.zip us,scope.names.lookup y.1=some .local∨(scope.names.lookup y.1=some .cell∧((cellsFrom (s.heap.objs.size + 1) scope.names []).lookup y.1).isSome=true):=fun ⟨n,v⟩ hy=>by
  rcases S.par n (List.of_mem_zip hy).1 with q | q
  ·exact .inl q
  ·exact .inr ⟨q,PySem.W.cellsFrom_some _ _ _ (.inl q)⟩
 refine codeAny_call_function hr.depth (KX _ _ lk) rfl S.co S.gen rfl (PySem.W.codeRec_of KX hcd) (hb _ _ _ _ ?_)
 refine wpAny_newFunctionEnv_cells S.kind hkind fun env he s1 x=>?_
 subst he
 refine ⟨lim.keeps x.toInCall.keep,codeAny_func ?_⟩
 obtain ⟨t,ht,hq⟩:=hbody A outer s H vs Q E (hr.deeper _) hsp
 have I:Inv (zX CX P w K mg base N qual scope f cdv A outer s H E) [] (start N vs) H s1:=zY S hr.hd e0 hl r x
 refine dL (ht [] s1 (start N vs) H _ I hq) (fun fl s' hs=>?_) fun e s' hs=>hs
 have fin:∀ {σ':St} {H':Hp} {v:V} {u:Value},Inv (zX CX P w K mg base N qual scope f cdv A outer s H E) [] σ' H' s'→RelV v u→Q v H'→CE outer P w H s Q u s' :=
  fun {σ' H' v u} J rv q=>⟨v,H',J.os,J.bare,J.base,J.hok,rv,q⟩
 cases fl with
 | ret u =>
  obtain ⟨v,σ',H',J,rv,q⟩:=hs
  exact fin J rv q
 | next =>
  obtain ⟨σ',H',J,q⟩:=hs
  exact fin (v:=V.non) (u:=Value.none) J rfl q
 | brk =>
  obtain ⟨_,_,_,q⟩:=hs
  exact False.elim q
 | cont =>
  obtain ⟨_,_,_,q⟩:=hs
  exact False.elim q
section
variable {X:Cx} {x:Str} {p pos:Pos} {e:Expr} {es:List Expr} {t:TA} {id T:String} {r:List V→Hp→VK→Prop}
def RK (r:List V→Hp→VK→Prop) (t:TA):TE:=fun σ H Q=>t σ H fun vs H1=>r vs H1 Q
theorem aW (hc:iG X (.builtin id) r) (hg:Gl X x) (hm:X.mg x=none) (hv:bootBuiltins x=some (.builtin id)) (ha:PA X (e :: es) t) (hn:x ≠ "__name__" := by decide) (hdb:(x == ("__debug__" : Str))=false:=by decide)
  (he:starEach (e :: es) X.env=(false,eval e X.env) :: starEach es X.env:=by rfl) (hpl:(backTo pos (starEach es X.env)).any (·.1)=false:=by rfl):PE X (.Call (.Name x p) (e :: es) [] pos) (RK r t):=by
 intro pins s σ H Q I h
 refine wpAny_Call_Name_kw (jZ I hg hm hv ?_ hn hdb)
 exact PyProof.Rows.callWith_builtin1 (cL (ha pos pins s σ H _ I h) fun us s1 ⟨vs,H1,I1,r1,q1⟩=>hc pins s1 σ H1 vs us Q I1 r1 q1) he hpl
theorem bU (hc:iG X (.type T) r) (hg:Gl X x) (hm:X.mg x=none) (hv:bootBuiltins x=some (.type T)) (ha:PA X (e :: es) t) (hn:x ≠ "__name__" := by decide) (hdb:(x == ("__debug__" : Str))=false:=by decide)
  (he:starEach (e :: es) X.env=(false,eval e X.env) :: starEach es X.env:=by rfl) (hpl:(backTo pos (starEach es X.env)).any (·.1)=false:=by rfl):PE X (.Call (.Name x p) (e :: es) [] pos) (RK r t):=by
 intro pins s σ H Q I h
 refine wpAny_Call_Name_kw (jZ I hg hm hv ?_ hn hdb)
 exact PyProof.Rows.callWith_type1 (cL (ha pos pins s σ H _ I h) fun us s1 ⟨vs,H1,I1,r1,q1⟩=>hc pins s1 σ H1 vs us Q I1 r1 q1) he hpl
end
end L2
namespace HT
open PySem PyProof.Rows
section
open PySem.SeqAt
open PySem.AutoSeq1 (wpAny_loadPart')
open PySem.MeetsSeq PySem.MeetsSeq2 PySem.MeetsSeq3
end
section
variable {prog:Program} {w:World} {A:Around} {E:Value→Shared→Prop} {s:Shared}
def eG (n d:Nat):Option Int→Nat
 | none=>d
 | some v=>if v < 0 then (v + (n:Int)).toNat else min v.toNat n
theorem B2 (n d:Nat):eG n d none=d:=rfl
theorem nV (n d k:Nat):eG n d (some (k:Int))=min k n:=by
 show (if (k:Int) < 0 then ((k:Int) + (n:Int)).toNat else min (k:Int).toNat n)=min k n
 rw [if_neg (by omega),i4]
theorem JW (n d:Nat) (hd:d ≤ n) (o:Option Int):eG n d o ≤ n:=by
 cases o with
 | none=>exact hd
 | some v =>
  show (if v < 0 then (v + (n:Int)).toNat else min v.toNat n) ≤ n
  by_cases hv:v < 0
  ·rw [if_pos hv]; omega
  ·rw [if_neg hv]; exact Nat.min_le_right _ _
theorem yF (v:Int) (n d:Nat):(if v < 0 then max (v + (n:Int)) 0 else min v (n:Int))=((eG n d (some v):Nat):Int):=by
 show (if v < 0 then max (v + (n:Int)) 0 else min v (n:Int))=(((if v < 0 then (v + (n:Int)).toNat else min v.toNat n):Nat):Int)
 by_cases hv:v < 0
 ·simp only [if_pos hv]; omega
 ·simp only [if_neg hv]; omega
theorem wy (lo hi:Option Int) (n:Nat):Builtin.Slice.sliceAdjust lo hi 1 (n:Int)=(((eG n 0 lo:Nat):Int),((eG n n hi:Nat):Int)):=by
 have h1:¬ ((1:Int) < 0):=by omega
 unfold Builtin.Slice.sliceAdjust
 simp only [h1,if_false]
 refine Prod.ext ?_ ?_
 ·cases lo with
  | none=>rfl
  | some v=>exact yF v n 0
 ·cases hi with
  | none=>rfl
  | some v=>exact yF v n n
theorem wB (i j:Nat):Builtin.Slice.slicePlaces (i:Int) (j:Int) 1=j - i:=by
 unfold Builtin.Slice.slicePlaces
 have h1:(1:Int) > 0:=by omega
 simp only [h1,if_true,Int.ediv_one]
 split <;> omega
theorem oC {v:Value} {o:Option Int} {Q:Option Int→Shared→Prop} (p:IsPart v o) (h:Q o s):wpAny (model prog w) A (Builtin.Slice.slicePartIndex v) Q E s:=by
 cases p with
 | none=>exact slicePart_none h
 | int i t=>exact slicePart_int h
theorem lL {sl:Addr} {vl vu:Value} {lo hi:Option Int} {n:Nat} {Q:Int × Int × Nat→Shared→Prop} (hs:s.heap.IsSliceOf sl vl vu .none) (pl:IsPart vl lo) (pu:IsPart vu hi)
  (h:Q (((eG n 0 lo:Nat):Int),1,eG n n hi - eG n 0 lo) s):wpAny (model prog w) A (Builtin.Slice.sliceApplied (.ref sl) (pure (n:Int))) Q E s:=by
 obtain ⟨os,hos,hcs,hds⟩:=id hs
 unfold Builtin.Slice.sliceApplied Builtin.Slice.sliceFields
 refine cb (cb (wpAny_field hos hds (x:=vl) rfl (cb (wpAny_field hos hds (x:=vu) rfl (cb (wpAny_field hos hds (x:=.none) rfl (ce ?_)))))))
 refine cb (slicePart_none ?_)
 show wpAny _ _ (if ((1:Int) == 0)=true then _ else _) _ _ s
 rw [if_neg (by decide)]
 refine cb (oC pl (cb (oC pu (cb (ce ?_)))))
 show wpAny _ _ (match Builtin.Slice.sliceAdjust lo hi 1 (n:Int) with | (lo,hi)=>pure (lo,(1:Int),Builtin.Slice.slicePlaces lo hi 1)) _ _ s
 rw [wy lo hi n]
 show wpAny _ _ (pure (((eG n 0 lo:Nat):Int),(1:Int),Builtin.Slice.slicePlaces ((eG n 0 lo:Nat):Int) ((eG n n hi:Nat):Int) 1)) _ _ s
 rw [wB]
 exact ce h
theorem B3 (xs:Array Value) (i k:Nat):((List.range k).filterMap fun (m:Nat)=>xs[((i:Int) + (m:Int) * 1).toNat]?).toArray=((xs.toList.drop i).take k).toArray:=by
 have e:(fun (m:Nat)=>xs[((i:Int) + (m:Int) * 1).toNat]?)=fun m=>xs[i + m]? := by
  funext m
  have:((i:Int) + (m:Int) * 1).toNat=i + m:=by omega
  rw [this]
 rw [e]
 have:=pick_run xs i k
 rw [List.filterMap_map] at this
 have e2:((fun x=>xs[x]?) ∘ fun x=>i + x)=fun m=>xs[i + m]? := rfl
 rw [e2] at this
 rw [this]
theorem km {t sl:Addr} {items:Array Value} {vl vu:Value} {lo hi:Option Int} {Q:Value→Shared→Prop} (ht:IsTup s.heap t items) (hs:s.heap.IsSliceOf sl vl vu .none) (pl:IsPart vl lo) (pu:IsPart vu hi)
  (hw:¬ (eG items.size 0 lo=0∧eG items.size items.size hi=items.size))
  (h:Q (.ref s.heap.objs.size) { s with heap:=s.heap.push { cls:=.type "tuple",data:=.seq ((items.toList.drop (eG items.size 0 lo)).take (eG items.size items.size hi - eG items.size 0 lo)).toArray } })
  (hsz:items.size ≤ de):wpAny (model prog w) A (getItem (.ref t) (.ref sl)) Q E s:=by
 have yG:sizeOk (.seq ((items.toList.drop (eG items.size 0 lo)).take (eG items.size items.size hi - eG items.size 0 lo)).toArray):=by
  show ((items.toList.drop (eG items.size 0 lo)).take (eG items.size items.size hi - eG items.size 0 lo)).toArray.size ≤ de
  rw [ag,List.length_take,List.length_drop,Array.length_toList]
  omega
 have hj:eG items.size items.size hi ≤ items.size:=JW _ _ (ii _) hi
 obtain ⟨os,hos,hcs,hds⟩:=id hs
 have hTs:s.TypeIs (.ref sl) "slice" := ⟨os,hos,hcs⟩
 unfold getItem
 try with_reducible refine wpAny_holding ?_
 first | refine cb (ce ?_) | skip
 refine cb (wpAny_sequenceKey ht.typeIs (by decide) ?_)
 refine cb (wpAny_callSpecial?_slot (name:=Str.ofString "__getitem__") ht.typeIs PyProof.Rows.slot_tuple_getitem
  (eh PyProof.Rows.slot_tuple_getitem ht.typeIs entry_tuple_getitem ?_ (args_tuple_getitem _ _)))
 show wpAny _ _ (Builtin.Tuple.tupleItemsOf (.ref t) >>= _) _ _ s
 refine cb (tupleItemsOf_ ht ?_)
 refine cb (wpAny_typeOf hTs ?_)
 rw [if_pos (by decide)]
 refine cb (lL hs pl pu ?_)
 have hno:¬ ((((eG items.size 0 lo:Nat):Int) == 0 && (1:Int) == 1 && (eG items.size items.size hi - eG items.size 0 lo) == items.size)=true):=by
  intro q
  rw [Bool.and_eq_true,Bool.and_eq_true] at q
  have q1:((eG items.size 0 lo:Nat):Int)=0:=eq_of_beq q.1.1
  have q2:eG items.size items.size hi - eG items.size 0 lo=items.size:=eq_of_beq q.2
  exact hw ⟨by omega,by omega⟩
 show wpAny _ _ (if (((eG items.size 0 lo:Nat):Int) == 0 && (1:Int) == 1 && (eG items.size items.size hi - eG items.size 0 lo) == items.size)=true then _ else _) _ _ s
 rw [if_neg hno,B3]
 first
  | exact cb (m:=Builtin.Tuple.tupleExact _) (wpAny_newObj_type (ce ⟨_,rfl,ce h⟩) yG)
  | exact cb (m:=Builtin.Tuple.tupleExact _) (wpAny_newObj_type (cb (ce (ce ⟨_,rfl,ce h⟩))) yG)
  | exact cb (cb (m:=Builtin.Tuple.tupleExact _) (wpAny_newObj_type (ce (ce ⟨_,rfl,ce h⟩)) yG))
  | exact cb (cb (m:=Builtin.Tuple.tupleExact _) (wpAny_newObj_type (ce ⟨_,rfl,ce h⟩) yG))
end
end HT
namespace L2
open PySem PySem.Spec PyProof.Rows
abbrev TO:=St→Hp→(Option Int→Hp→Prop)→Prop
def PO (X:Cx) (e:Option Expr) (t:TO):Prop :=
 ∀ (pins:List (Addr × Obj)) (s:Shared) (σ:St) (H:Hp) (Q:Option Int→Hp→Prop),Inv X pins σ H s→t σ H Q →
  wpAny (model X.prog X.w) X.A (evalPart e X.env) (fun u s'=>∃ o H',Inv X pins σ H' s'∧IsPart u o∧Q o H') X.xe s
def Fh:TO:=fun _ H Q=>Q none H
def MR (t:TE):TO:=fun σ H Q=>t σ H fun x H1=>∃ i,x=.int i∧Q (some i) H1
theorem intsAre_of {ns:List Int}:∀ {us:List Value},Vals (ns.map V.int) us→IntsAre us ns:=by
 induction ns with
 | nil=>intro us r; rw [List.map_nil] at r; cases r; exact .nil
 | cons n ns ih =>
  intro us r
  rw [br] at r
  cases r with
  | cons r1 r2 =>
   obtain ⟨t,e⟩:=r1
   subst e
   exact .cons n t (ih r2)
section
variable {X:Cx} {e:Expr} {te:TE} {lo hi:Option Expr} {tl th:TO} {pos p2:Pos}
theorem jn:PO X none Fh:=by
 intro pins s σ H Q I h
 rw [evalPart_none]
 exact ce ⟨none,H,I,.none,h⟩
theorem eL (h:PE X e te):PO X (some e) (MR te):=by
 intro pins s σ H Q I hw
 rw [evalPart_some]
 refine cL (h pins s σ H _ I hw) fun u s1 ⟨x,H1,I1,r1,q1⟩=>?_
 obtain ⟨i,rfl,q⟩:=q1
 obtain ⟨t,rfl⟩:=r1
 exact ⟨some i,H1,I1,.int i t,q⟩
def RL (X:Cx) (r:V→Option Int→Option Int→Hp→VK→Prop):Prop :=
 ∀ (pins:List (Addr × Obj)) (s:Shared) (σ:St) (H:Hp) (x:V) (v vl vu:Value) (lo hi:Option Int) (sl:Addr) (Q:VK),Inv X pins σ H s→RelV x v→s.heap.IsSliceOf sl vl vu .none→IsPart vl lo→IsPart vu hi→r x lo hi H Q →
  ∃ T id,typeLookup (.type T) "__getitem__" = pure (some (.builtin id))∧s.TypeIs v T∧wpAny (model X.prog X.w) X.A (getItem v (.ref sl)) (EP X pins σ Q) X.xe s
def tSl (r:V→Option Int→Option Int→Hp→VK→Prop) (te:TE) (tl th:TO):TE:=fun σ H Q=>te σ H fun x H1=>tl σ H1 fun l H2=>th σ H2 fun u H3=>r x l u H3 Q
theorem fi {r:V→Option Int→Option Int→Hp→VK→Prop} (hr:RL X r) (he:PE X e te) (hl:PO X lo tl) (hu:PO X hi th):PE X (.Subscript e (.Slice lo hi none p2) pos) (tSl r te tl th):=by
 intro pins s σ H Q I h
 refine Subscript_ (cL (he pins s σ H _ I h) fun v s1 ⟨x,H1,I1,r1,q1⟩=>?_)
 refine wpAny_Slice (cL (hl pins s1 σ H1 _ I1 q1) fun vl s2 ⟨l,H2,I2,pl,q2⟩=>cL (hu pins s2 σ H2 _ I2 q2) fun vu s3 ⟨u,H3,I3,pu,q3⟩=>?_)
 rw [evalPart_none]
 refine ce ?_
 have I4:Inv X pins σ H3 { s3 with heap:=s3.heap.push { cls:=.type "slice",data:=.fields #[vl,vu,.none] } }:=I3.kept (t':=s3.toks) fun b ob q=>el _ q
 obtain ⟨T,id,hT,ht,hg⟩:=hr pins { s3 with heap:=s3.heap.push { cls:=.type "slice",data:=.fields #[vl,vu,.none] } } σ H3 x v vl vu l u s3.heap.objs.size Q I4 r1 (Heap.IsSliceOf.new ..) pl pu q3
 show wpAny (model X.prog X.w) X.A (subscriptTail e (.Slice lo hi none p2) v (.ref s3.heap.objs.size)) (EP X pins σ Q) X.xe { s3 with heap:=s3.heap.push { cls:=.type "slice",data:=.fields #[vl,vu,.none] } }
 exact tail_any (ops:=[.ref s3.heap.objs.size,v]) ht hT hg (by with_unfolding_all rfl)
def ib (xs:List V) (lo hi:Option Int):List V:=(xs.drop (HT.eG xs.length 0 lo)).take (HT.eG xs.length xs.length hi - HT.eG xs.length 0 lo)
theorem mj (xs:List V) (lo hi:Option Int):(ib xs lo hi).length ≤ xs.length:=by
 unfold ib
 rw [List.length_take,List.length_drop]
 omega
def RM (K:fm):V→Option Int→Option Int→Hp→VK→Prop:=fun x lo hi H Q=>∃ a xs,x=.ref a∧aS K H a xs ∧
 ¬ (HT.eG xs.length 0 lo=0∧HT.eG xs.length xs.length hi=xs.length)∧∀ p,H p=none→Q (.ref p) (upd H p (.tup (ib xs lo hi)))
theorem B4:RL X (RM X.K):=by
 intro pins s σ H x v vl vu lo hi sl Q I rx hs pl pu h
 obtain ⟨a,xs,rfl,hx,hw,q⟩:=h
 cases rx
 obtain ⟨its,r,ht,hz⟩:=I.tuple hx
 have hlen:its.toArray.size=xs.length:=by rw [ag]; exact r.length.symm
 refine ⟨"tuple",_,PyProof.Rows.slot_tuple_getitem.lookup,ht.typeIs,?_⟩
 refine HT.km ht hs pl pu (by rw [hlen]; exact hw) ?_ (by rw [hlen]; exact hz)
 rw [hlen]
 refine ⟨.ref s.heap.objs.size,_,I.laid (t':=s.toks) (o:=.tup (ib xs lo hi)) (fun b ob q=>el _ q) (ii _) ?_,rfl,q _ (I.hok.fresh (ii _))⟩
 exact ⟨io (mj xs lo hi) hz,_,(r.drop (HT.eG xs.length 0 lo)).take (HT.eG xs.length xs.length hi - HT.eG xs.length 0 lo),IsTup.new _ _⟩
end
def yH (n:Nat) (i:Int):Option Nat:=if 0 ≤ i then (if i < n then some i.toNat else none) else if -(n:Int) ≤ i then some (i + n).toNat else none
def mV {α:Type} (xs:List α) (i:Int):Option α:=(yH xs.length i).bind fun j=>xs[j]?
theorem yI {n:Nat} {i:Int} {j:Nat} (h:yH n i=some j):seqIndex? i n=some j∧j < n∧-(n:Int) ≤ i∧i < n:=by
 unfold yH at h
 by_cases h0:0 ≤ i
 ·rw [if_pos h0] at h
  by_cases h1:i < n
  ·rw [if_pos h1] at h
   have e:i.toNat=j:=Option.some.inj h
   exact ⟨by rw [seqIndex_of h0 h1,e],by omega,by omega,h1⟩
  ·rw [if_neg h1] at h; cases h
 ·rw [if_neg h0] at h
  by_cases h1:-(n:Int) ≤ i
  ·rw [if_pos h1] at h
   have e:(i + n).toNat=j:=Option.some.inj h
   exact ⟨by rw [seqIndex_neg (by omega) h1,e],by omega,h1,by omega⟩
  ·rw [if_neg h1] at h; cases h
theorem yJ {α:Type} {xs:List α} {i:Int} {v:α} (h:mV xs i=some v):∃ j,seqIndex? i xs.length=some j∧xs[j]? = some v∧j < xs.length∧-(xs.length:Int) ≤ i∧i < xs.length:=by
 unfold mV at h
 cases e:yH xs.length i with
 | none=>rw [e] at h; cases h
 | some j =>
  rw [e] at h
  obtain ⟨h1,h2,h3,h4⟩:=yI e
  exact ⟨j,h1,h,h2,h3,h4⟩
theorem ck {α:Type} {xs:List α} {j:Nat} {v:α} (h:xs[j]? = some v):mV xs (j:Int)=some v:=by
 have hj:j < xs.length:=(ac.mp h).1
 have e:yH xs.length (j:Int)=some j:=by
  unfold yH
  rw [if_pos (by omega),if_pos (by omega)]; simp
 unfold mV; rw [e]; exact h
def Fj (b:Expr):Prop:=∀ o i,subscripted b false o i=operate [o,i] (getItem o i)
def RN (X:Cx) (r:R2):Prop :=
 ∀ (value slice:Expr) (pins:List (Addr × Obj)) (s:Shared) (σ:St) (H:Hp) (x y:V) (v u:Value) (Q:VK),Inv X pins σ H s→RelV x v→RelV y u→r x y H Q →
  subscripted slice false v u=operate [v,u] (getItem v u)→wpAny (model X.prog X.w) X.A (subscriptTail value slice v u) (EP X pins σ Q) X.xe s
def QZ (X:Cx) (id:String) (r:V→List V→Hp→VK→Prop):Prop :=
 ∀ (pins:List (Addr × Obj)) (s:Shared) (σ:St) (H:Hp) (x:V) (xs:List V) (v:Value) (us:List Value) (Q:VK),Inv X pins σ H s→RelV x v→Vals xs us→r x xs H Q →
  wpAny (model X.prog X.w) X.A (call (.builtin id) (v :: us)) (EP X pins σ Q) X.xe s
section
variable {X:Cx} {a b:Expr} {ta tb:TE} {pos:Pos}
theorem au {r:R2} (hr:RN X r) (ha:PE X a ta) (hb:PE X b tb) (hs:Fj b):PE X (.Subscript a b pos) (JN r ta tb):=by
 intro pins s σ H Q I h
 exact Subscript_ (JP ha hb I h fun v u s2 x y H2 I2 rx ry q=>hr a b pins s2 σ H2 x y v u Q I2 rx ry q (hs _ _))
def Fk (K:fm):R2:=fun x y H Q=>∃ p xs i v,x=.ref p∧y=.int i∧bj K H p xs∧mV xs i=some v∧Q v H
def Fl (K:fm):R2:=fun x y H Q=>∃ p xs i v,x=.ref p∧y=.int i∧aS K H p xs∧mV xs i=some v∧Q v H
theorem aK:RN X (Fk X.K):=by
 intro value slice pins s σ H x y v u Q I rx ry h hs
 obtain ⟨p,xs,i,z,rfl,rfl,hq,he,q⟩:=h
 cases rx
 obtain ⟨t,rfl⟩:=ry
 obtain ⟨its,r,pl,hz⟩:=I.list hq
 obtain ⟨j,h1,h2,h3,h4,h5⟩:=yJ he
 obtain ⟨w,ew,qy⟩:=r.get h2
 have hl:=r.length
 have hn:=sk
 have fin:EP X pins σ Q w s:=⟨z,H,I,qy,q⟩
 by_cases h0:0 ≤ i
 ·have hj:i.toNat=j:=by
   rw [seqIndex_of h0 h5] at h1
   exact Option.some.inj h1
  exact item_listR pl.isList h0 (by omega) (by rw [hj]; simpa using ew) fin hs
 ·have hj:(i + (its.toArray.size:Int)).toNat=j:=by
   rw [seqIndex_neg (by omega) h4] at h1
   rw [ag,← hl]
   exact Option.some.inj h1
  exact subscriptTail_builtinR (x:=w) pl.isList.typeIs slot_list_getitem.lookup
   (wpAny_getItem_list_neg (Q:=fun r s'=>r=w∧EP X pins σ Q r s') pl.isList (by omega) (by rw [ag] <;> omega) (by omega) (by rw [hj]; simpa using ew) ⟨rfl,fin⟩) hs
theorem ay:RN X (Fl X.K):=by
 intro value slice pins s σ H x y v u Q I rx ry h hs
 obtain ⟨p,xs,i,z,rfl,rfl,hq,he,q⟩:=h
 cases rx
 obtain ⟨t,rfl⟩:=ry
 obtain ⟨its,r,pl,hz⟩:=I.tuple hq
 obtain ⟨j,h1,h2,h3,h4,h5⟩:=yJ he
 obtain ⟨w,ew,qy⟩:=r.get h2
 have hl:=r.length
 have hn:=sk
 have fin:EP X pins σ Q w s:=⟨z,H,I,qy,q⟩
 exact subscriptTail_builtinR (x:=w) pl.typeIs slot_tuple_getitem.lookup
  (getItem_tuple (j:=j) (Q:=fun r s'=>r=w∧EP X pins σ Q r s') pl (by omega) (by omega) (by rw [ag,← hl]; exact h1) (by simpa using ew) ⟨rfl,fin⟩) hs
theorem wC (its:List Value) (n j:Nat) (u:Value):Obj.mapSeq (·.setIfInBounds j u) { cls:=.type "list",data:=.seq its.toArray n }={ cls:=.type "list",data:=.seq (its.set j u).toArray n }:=by
 simp [Obj.mapSeq]
theorem Inv.lst {pins:List (Addr × Obj)} {σ:St} {H:Hp} {s:Shared} {p:Addr} {xs:List V} (I:Inv X pins σ H s) (h:H p=some (.lst xs)) :
  ∃ (its:List Value) (n:Nat),Vals xs its∧s.heap.get? p=some { cls:=.type "list",data:=.seq its.toArray n }∧xs.length ≤ de:=by
 obtain ⟨z,its,n,r,e⟩:=I.hok p _ h
 exact ⟨its,n,r,e,z⟩
theorem Inv.JX {pins:List (Addr × Obj)} {σ:St} {H:Hp} {s:Shared} {p:Addr} {xs ys:List V} {its its':List Value} {n n':Nat} {f:Obj→Obj} (I:Inv X pins σ H s) (h:H p=some (.lst xs))
  (ho:s.heap.get? p=some { cls:=.type "list",data:=.seq its.toArray n }) (hf:f { cls:=.type "list",data:=.seq its.toArray n }={ cls:=.type "list",data:=.seq its'.toArray n' }) (r:Vals ys its') (hz:ys.length ≤ de) (t:Nat) :
  Inv X pins σ (upd H p (.lst ys)) { s with heap:=s.heap.update p f,toks:=t }:=by
 have e:(s.heap.update p f).get? p=some { cls:=.type "list",data:=.seq its'.toArray n' }:=by
  rw [Heap.get?_update_self f ho (by rw [hf] <;> rfl),hf]
 refine I.write (x:=p) (e:=p) (by rw [h]; trivial) (.inl rfl) (fun b u hb q=>(Heap.get?_update_other _ _ (Ne.symm hb)).trans q) ⟨_,e⟩ ?_
 exact ⟨hz,its',n',r,e⟩
def MS:V→V→V→Hp→(Hp→Prop)→Prop:=fun o i v H Q=>∃ p xs k j,o=.ref p∧i=.int k∧H p=some (.lst xs)∧yH xs.length k=some j∧Q (upd H p (.lst (xs.set j v)))
theorem set_list:Mv X MS:=by
 intro pins s σ H o i v ov iv u Q I ro ri rv h
 obtain ⟨p,xs,k,j,rfl,rfl,hp,hj,q⟩:=h
 cases ro
 obtain ⟨t,rfl⟩:=ri
 obtain ⟨its,n,r,ho,hz⟩:=I.lst hp
 obtain ⟨h1,h2,h3,h4⟩:=yI hj
 have hl:=r.length
 have hn:=sk
 have I':Inv X pins σ (upd H p (.lst (xs.set j v))) { s with heap:=s.heap.update p (Obj.mapSeq (·.setIfInBounds j u)) } :=
  I.JX hp ho (wC its n j u) (r.set rv j) (by rw [List.length_set]; exact hz) s.toks
 by_cases h0:0 ≤ k
 ·have hk:k.toNat=j:=by
   rw [seqIndex_of h0 h4] at h1
   exact Option.some.inj h1
  exact PySem.W.ki_setAt ho h0 (by omega) (by rw [ag,← hl]; exact h4) (by rw [hk]; exact ⟨_,I',q⟩)
 ·have hk:(k + (its.toArray.size:Int)).toNat=j:=by
   rw [seqIndex_neg (by omega) h3] at h1
   rw [ag,← hl]
   exact Option.some.inj h1
  exact PySem.W.ki_setBack ho (by omega) (by rw [ag,← hl]; exact h3) (by omega) (by rw [hk]; exact ⟨_,I',q⟩)
theorem sq (lo hi:Option Int) (n:Nat):(sliceBounds lo hi none n).1=((HT.eG n 0 lo:Nat):Int)∧(sliceBounds lo hi none n).2.1=((HT.eG n n hi:Nat):Int)∧(sliceBounds lo hi none n).2.2=1:=by
 refine ⟨?_,?_,rfl⟩
 ·cases lo with
  | none=>simp [sliceBounds,HT.eG]
  | some i =>
   simp only [sliceBounds,HT.eG,Option.getD_none,show (1:Int) > 0 by decide,if_true]
   by_cases h:i < 0
   ·simp only [h,if_true] <;> omega
   ·simp only [h,if_false] <;> omega
 ·cases hi with
  | none=>simp [sliceBounds,HT.eG]
  | some i =>
   simp only [sliceBounds,HT.eG,Option.getD_none,show (1:Int) > 0 by decide,if_true]
   by_cases h:i < 0
   ·simp only [h,if_true] <;> omega
   ·simp only [h,if_false] <;> omega
theorem qz (its:List Value) (lo hi:Option Int):slicePick its.toArray lo hi none=((its.drop (HT.eG its.length 0 lo)).take (HT.eG its.length its.length hi - HT.eG its.length 0 lo)).toArray:=by
 obtain ⟨h1,h2,h3⟩:=sq lo hi its.toArray.size
 unfold slicePick
 rw [h1,h2,h3]
 simp only [sliceRange_one,pick_run,ag] <;> rfl
def RO (K:fm):V→Option Int→Option Int→Hp→VK→Prop:=fun x lo hi H Q=>∃ a xs,x=.ref a∧bj K H a xs∧∀ p,H p=none→Q (.ref p) (upd H p (.lst (ib xs lo hi)))
theorem iR:RL X (RO X.K):=by
 intro pins s σ H x v vl vu lo hi sl Q I rx hs pl pu h
 obtain ⟨a,xs,rfl,hx,q⟩:=h
 cases rx
 obtain ⟨its,r,ht,hz⟩:=I.list hx
 have hlen:=r.length
 refine ⟨"list",_,slot_list_getitem.lookup,ht.isList.typeIs,?_⟩
 refine wpAny_getItem_list_slice ht.isList hs pl pu .none (by simp) ?_ (by rw [ag] <;> omega)
 rw [qz,← hlen]
 refine ⟨.ref s.heap.objs.size,_,I.laid (t':=s.toks) (o:=.lst (ib xs lo hi)) (fun b ob q=>el _ q) (ii _) ?_,rfl,q _ (I.hok.fresh (ii _))⟩
 exact ⟨io (mj xs lo hi) hz,_,0,(r.drop (HT.eG xs.length 0 lo)).take (HT.eG xs.length xs.length hi - HT.eG xs.length 0 lo),em _ rfl⟩
def ko:V→Bool
 | .non=>true
 | .bl _=>true
 | .int _=>true
 | .str _=>true
 | _=>false
def Ir:V→V→Bool
 | .non,.non=>true
 | .bl a,.bl b=>a == b
 | .bl a,.int b=>(if a then 1 else 0) == b
 | .int a,.bl b=>a == (if b then 1 else 0)
 | .int a,.int b=>a == b
 | .str a,.str b=>a == b
 | _,_=>false
theorem JY {A:Around} {s:Shared} {y x:V} {u v:Value} (ry:RelV y u) (rx:RelV x v) (fy:ko y=true) (fx:ko x=true):SeqAt.EqAt A s u v (Ir y x):=by
 cases y with
 | non =>
  cases ry
  cases x with
  | non=>cases rx; exact SeqAt.EqAt.same _
  | bl b=>cases rx; exact SeqAt.EqAt.none_bool b
  | int b=>obtain ⟨t,rfl⟩:=rx; exact SeqAt.EqAt.none_int b t
  | str b=>obtain ⟨t,rfl⟩:=rx; exact SeqAt.EqAt.none_str b t
  | _=>exact absurd (show false=true from fx) ir
 | bl a =>
  cases ry
  cases x with
  | non=>cases rx; exact SeqAt.EqAt.bool_none a
  | bl b=>cases rx; exact SeqAt.EqAt.bool_bool a b
  | int b=>obtain ⟨t,rfl⟩:=rx; exact SeqAt.EqAt.bool_int a b t
  | str b=>obtain ⟨t,rfl⟩:=rx; exact SeqAt.EqAt.bool_str a b t
  | _=>exact absurd (show false=true from fx) ir
 | int a =>
  obtain ⟨t',rfl⟩:=ry
  cases x with
  | non=>cases rx; exact SeqAt.EqAt.int_none a t'
  | bl b=>cases rx; exact SeqAt.EqAt.int_bool a t' b
  | int b=>obtain ⟨t,rfl⟩:=rx; exact SeqAt.EqAt.int_int a t' b t
  | str b=>obtain ⟨t,rfl⟩:=rx; exact SeqAt.EqAt.int_str a t' b t
  | _=>exact absurd (show false=true from fx) ir
 | str a =>
  obtain ⟨t',rfl⟩:=ry
  cases x with
  | non=>cases rx; exact SeqAt.EqAt.str_none a t'
  | bl b=>cases rx; exact SeqAt.EqAt.str_bool a t' b
  | int b=>obtain ⟨t,rfl⟩:=rx; exact SeqAt.EqAt.str_int a t' b t
  | str b=>obtain ⟨t,rfl⟩:=rx; exact SeqAt.EqAt.str_str a t' b t
  | _=>exact absurd (show false=true from fx) ir
 | _=>exact absurd (show false=true from fy) ir
def wD (x:V) (u:Value):Bool:=match u with
 | .none=>Ir .non x
 | .bool b=>Ir (.bl b) x
 | .int i _=>Ir (.int i) x
 | .str z _=>Ir (.str z) x
 | _=>false
theorem B5 {x y:V} {u:Value} (r:RelV y u) (f:ko y=true):wD x u=Ir y x:=by
 cases y with
 | non=>cases r; rfl
 | bl b=>cases r; rfl
 | int i=>obtain ⟨t,rfl⟩:=r; rfl
 | str z=>obtain ⟨t,rfl⟩:=r; rfl
 | _=>exact absurd (show false=true from f) ir
theorem kr {x:V}:∀ {xs:List V} {us:List Value},Vals xs us→xs.all ko=true→us.any (wD x)=xs.any fun y=>Ir y x
 | _,_,.nil,_=>rfl
 | y :: xs,u :: us,.cons r t,f=>by
  rw [List.all_cons,Bool.and_eq_true] at f
  rw [List.any_cons,List.any_cons,B5 r f.1,kr t f.2]
theorem jd {A:Around} {s:Shared} {x:V} {v:Value} (rx:RelV x v) (fx:ko x=true):∀ {xs:List V} {us:List Value},Vals xs us→xs.all ko=true→∀ u ∈ us,SeqAt.EqAt A s u v (wD x u)
 | _,_,.nil,_=>fun u hu=>by cases hu
 | y :: xs,u :: us,.cons r t,f=>fun u' hu=>by
  rw [List.all_cons,Bool.and_eq_true] at f
  rcases List.mem_cons.mp hu with rfl | hu
  ·rw [B5 r f.1]; exact JY r rx f.1 fx
  ·exact jd rx fx t f.2 u' hu
def inV (x:V) (xs:List V):Bool:=xs.any fun y=>Ir y x
def rIn (K:fm) (neg:Bool):R2:=fun x y H Q=>∃ p xs,y=.ref p∧(bj K H p xs∨aS K H p xs)∧ko x=true∧xs.all ko=true∧Q (.bl (if neg then !inV x xs else inV x xs)) H
theorem dh:jP X (compareOp .In) (rIn X.K false):=by
 intro pins s σ H x y v u Q I rx ry h
 obtain ⟨p,xs,rfl,hq,fx,fs,q⟩:=h
 cases ry
 rcases hq with hq | hq
 ·obtain ⟨its,r,pl,hz⟩:=I.list hq
  refine SeqAt.in_listAt (wD x) pl.isList (fun w hw=>jd rx fx r fs w (by simpa using hw)) ⟨.bl _,H,I,rfl,?_⟩
  rw [show its.toArray.any (wD x)=its.any (wD x) by simp,kr r fs]
  exact q
 ·obtain ⟨its,r,pl,hz⟩:=I.tuple hq
  refine SeqAt.in_tupleAt (wD x) pl (fun w hw=>jd rx fx r fs w (by simpa using hw)) ⟨.bl _,H,I,rfl,?_⟩
  rw [show its.toArray.any (wD x)=its.any (wD x) by simp,kr r fs]
  exact q
theorem ku:jP X (compareOp .NotIn) (rIn X.K true):=by
 intro pins s σ H x y v u Q I rx ry h
 obtain ⟨p,xs,rfl,hq,fx,fs,q⟩:=h
 cases ry
 rcases hq with hq | hq
 ·obtain ⟨its,r,pl,hz⟩:=I.list hq
  refine SeqAt.notIn_listAt (wD x) pl.isList (fun w hw=>jd rx fx r fs w (by simpa using hw)) ⟨.bl _,H,I,rfl,?_⟩
  rw [show its.toArray.any (wD x)=its.any (wD x) by simp,kr r fs]
  exact q
 ·obtain ⟨its,r,pl,hz⟩:=I.tuple hq
  refine SeqAt.notIn_tupleAt (wD x) pl (fun w hw=>jd rx fx r fs w (by simpa using hw)) ⟨.bl _,H,I,rfl,?_⟩
  rw [show its.toArray.any (wD x)=its.any (wD x) by simp,kr r fs]
  exact q
theorem bf:iG X (.builtin "len") (fun xs H Q=>∃ p ys,xs=[.ref p]∧(bj X.K H p ys∨aS X.K H p ys)∧Q (.int ys.length) H):=by
 intro pins s σ H xs us Q I r h
 obtain ⟨p,ys,rfl,hq,q⟩:=h
 obtain ⟨u,rfl,rx⟩:=vals1 r
 cases rx
 have hn:=sk
 rcases hq with hq | hq
 ·obtain ⟨its,r',pl,hz⟩:=I.list hq
  have hlen:=r'.length
  exact Calls.call_len_list pl.isList (by simp only [ag] <;> omega) ⟨.int ys.length,H,I.tok _,⟨s.toks + 1,by rw [ag,hlen]⟩,q⟩
 ·obtain ⟨its,r',pl,hz⟩:=I.tuple hq
  have hlen:=r'.length
  exact len_tuple pl (by simp only [ag] <;> omega) ⟨.int ys.length,H,I.tok _,⟨s.toks + 1,by rw [ag,hlen]⟩,q⟩
theorem cJ:iG X (.type "list") (fun xs H Q=>∃ p ys,xs=[.ref p]∧(bj X.K H p ys∨aS X.K H p ys)∧∀ l,H l=none→Q (.ref l) (upd H l (.lst ys))):=by
 intro pins s σ H xs us Q I r h
 obtain ⟨p,ys,rfl,hq,q⟩:=h
 obtain ⟨u,rfl,rx⟩:=vals1 r
 cases rx
 have fin:∀ (its:List Value),Vals ys its→ys.length ≤ de→∀ (h':Heap) (c':Nat),(∀ b o',s.heap.get? b=some o'→h'.get? b=some o') →
   h'.get? s.heap.objs.size=some { cls:=.type "list",dict:=none,data:=.seq its.toArray c',slots:=#[] }→EP X pins σ Q (.ref s.heap.objs.size) { s with heap:=h' }:=fun its r' hz h' c' kp e =>
  ⟨.ref s.heap.objs.size,_,I.laid (t':=s.toks) kp (ii _) (show cH X.prog X.w _ h' _ (.lst ys) from ⟨hz,its,c',r',e⟩),rfl,q _ (I.hok.fresh (ii _))⟩
 rcases hq with hq | hq
 ·obtain ⟨its,r',pl,hz⟩:=I.list hq
  have hlen:=r'.length
  obtain ⟨o,ho,hc,n,hd⟩:=pl.isList
  exact call_list_seq p (.inl rfl) ho hc hd (fun h' c' kp e=>fin its r' hz h' c' kp e) (by simp only [ag] <;> omega)
 ·obtain ⟨its,r',pl,hz⟩:=I.tuple hq
  have hlen:=r'.length
  obtain ⟨o,ho,hc,n,hd⟩:=pl
  exact call_list_seq p (.inr rfl) ho hc hd (fun h' c' kp e=>fin its r' hz h' c' kp e) (by simp only [ag] <;> omega)
theorem qB:iG X (.type "tuple") (fun xs H Q=>∃ p ys,xs=[.ref p]∧((bj X.K H p ys∧∀ l,H l=none→Q (.ref l) (upd H l (.tup ys)))∨(aS X.K H p ys∧Q (.ref p) H))):=by
 intro pins s σ H xs us Q I r h
 obtain ⟨p,ys,rfl,h⟩:=h
 obtain ⟨u,rfl,rx⟩:=vals1 r
 cases rx
 rcases h with ⟨hq,q⟩ | ⟨hq,q⟩
 ·obtain ⟨its,r',pl,hz⟩:=I.list hq
  have hlen:=r'.length
  refine call_tuple_list pl.isList (fun h' kp=>?_) (by simp only [ag] <;> omega)
  have I1:Inv X pins σ H { s with heap:=h' }:=I.kept (t':=s.toks) kp
  have I2:Inv X pins σ (upd H h'.objs.size (.tup ys)) { s with heap:=h'.push { cls:=.type "tuple",data:=.seq its.toArray } } :=
   I1.laid (t':=s.toks) (fun b o e=>el _ e) (ii _) (show cH X.prog X.w _ _ _ (.tup ys) from ⟨hz,its,r',IsTup.new _ _⟩)
  exact ⟨.ref h'.objs.size,_,I2,rfl,q _ (I1.hok.fresh (ii _))⟩
 ·obtain ⟨its,r',pl,hz⟩:=I.tuple hq
  exact call_tuple_same pl ⟨.ref p,H,I,rfl,q⟩
def RP (K:fm) (T:String) (x:V) (H:Hp):Prop:=match x with
 | .str _=>T = "str"
 | .int _=>T = "int"
 | .ref p=>(T = "list" ∧ ∃ xs,bj K H p xs)∨(T = "tuple" ∧ ∃ o,K.lookup p=some o∧o.cls=.type "tuple" ∧ o.dict=none) ∨
   (T = "dict" ∧ ((∃ kvs,H p=some (.dK kvs))∨∃ kvs,H p=some (.dT kvs)))∨(T = "set" ∧ ∃ S n,H p=some (.set S n))
 | _=>False
theorem B6 {pins:List (Addr × Obj)} {σ:St} {H:Hp} {s:Shared} {T:String} {x:V} {v:Value} (I:Inv X pins σ H s) (r:RelV x v) (ty:RP X.K T x H) :
  s.TypeIs v T∧∀ a,v=.ref a→∃ ob,s.heap.get? a=some ob∧ob.dict=none:=by
 cases x with
 | str z =>
  obtain ⟨t,rfl⟩:=r
  cases (show T = "str" from ty)
  exact ⟨typeIs_str s z t,fun _ e=>nomatch e⟩
 | int i =>
  obtain ⟨t,rfl⟩:=r
  cases (show T = "int" from ty)
  exact ⟨typeIs_int s i t,fun _ e=>nomatch e⟩
 | ref p =>
  cases r
  rcases ty with ⟨rfl,xs,hq⟩ | ⟨rfl,o,hk,hc,hd⟩ | ⟨rfl,hk⟩ | ⟨rfl,S,n,hk⟩
  ·obtain ⟨its,_,pl,_⟩:=I.list hq
   refine ⟨pl.isList.typeIs,fun a e=>?_⟩
   cases e
   obtain ⟨o,n,e,c,hd,_⟩:=pl
   exact ⟨o,e,hd⟩
  ·refine ⟨⟨o,I.lG p o hk,hc⟩,fun a e=>?_⟩
   cases e
   exact ⟨o,I.lG _ o hk,hd⟩
  ·have z:∃ o,s.heap.get? p=some o∧o.ExactDict:=by
    rcases hk with ⟨kvs,hk⟩ | ⟨kvs,hk⟩
    ·obtain ⟨_,_,_,_,o,_,_,e,ex,_⟩:=I.hok p _ hk
     exact ⟨o,e,ex⟩
    ·obtain ⟨_,_,_,_,o,_,_,e,ex,_⟩:=I.hok p _ hk
     exact ⟨o,e,ex⟩
   obtain ⟨o,e,ex⟩:=z
   refine ⟨⟨o,e,ex.1⟩,fun a e2=>?_⟩
   cases e2
   exact ⟨o,e,ex.2.1⟩
  ·obtain ⟨o,_,_,_,e,ex,_⟩:=I.hok p _ hk
   refine ⟨⟨o,e,ex.1⟩,fun a e2=>?_⟩
   cases e2
   exact ⟨o,e,ex.2.1⟩
 | _=>exact False.elim ty
def RQ (K:fm) (T:String) (r:V→List V→Hp→VK→Prop) (to:TE):TE:=fun σ H Q=>to σ H fun x H1=>RP K T x H1∧r x [] H1 Q
def tBM (K:fm) (T:String) (r:V→List V→Hp→VK→Prop) (to:TE) (t:TA):TE:=fun σ H Q=>to σ H fun x H1=>RP K T x H1∧t σ H1 fun xs H2=>r x xs H2 Q
variable {o e:Expr} {es:List Expr} {to:TE} {t:TA} {name:Str} {apos cpos:Pos} {T id:String} {r:V→List V→Hp→VK→Prop}
theorem oF (pa:PlainAttrs T) (slot:Slot T name id) (hty:typeOf (.builtin id)=pure (.type "method_descriptor")) (hm:QZ X id r) (ho:PE X o to)
  (hbase:attributeBase o name X.env (eval o X.env)=eval o X.env:=by rfl) (hline:(apos.endLine == cpos.line)=true:=by rfl):PE X (.Call (.Attribute o name apos) [] [] cpos) (RQ X.K T r to):=by
 intro pins s σ H Q I h
 refine wpAny_Call_method0_late hbase hline (cL (ho pins s σ H _ I h) fun v s1 ⟨x,H1,I1,r1,ty,q1⟩=>?_)
 obtain ⟨h1,h2⟩:=B6 I1 r1 ty
 exact ⟨T,id,pa,slot,hty,h1,h2,Calls.callWith_builtin rfl (PySem.evalArgs_none (hm pins s1 σ H1 x [] v [] Q I1 r1 .nil q1))⟩
theorem gw (pa:PlainAttrs T) (slot:Slot T name id) (hty:typeOf (.builtin id)=pure (.type "method_descriptor")) (hm:QZ X id r) (ho:PE X o to) (ha:PA X (e :: es) t)
  (hbase:attributeBase o name X.env (eval o X.env)=eval o X.env:=by rfl)
  (hfew:((backTo cpos (starEach (e :: es) X.env)).all (fun x=>!x.1) && (backToKw cpos (keywordEach [] X.env)).all (fun x=>x.1.isSome)
   && decide ((e :: es).length + ([]:List Keyword).length + (if ([]:List Keyword).isEmpty then 0 else 1) < 30))=true:=by rfl)
  (hline:(apos.endLine == cpos.line)=true:=by rfl) (hs:starEach (e :: es) X.env=(false,eval e X.env) :: starEach es X.env:=by rfl) (hplain:(backTo cpos (starEach es X.env)).any (·.1)=false:=by rfl) :
  PE X (.Call (.Attribute o name apos) (e :: es) [] cpos) (tBM X.K T r to t):=by
 intro pins s σ H Q I h
 refine wpAny_Call_method_late hbase hfew hline rfl (cL (ho pins s σ H _ I h) fun v s1 ⟨x,H1,I1,r1,ty,q1⟩=>?_)
 obtain ⟨h1,h2⟩:=B6 I1 r1 ty
 refine ⟨T,id,pa,slot,hty,h1,h2,?_⟩
 have hA:=ha cpos pins s1 σ H1 _ I1 q1
 rw [hs] at hA ⊢
 refine Calls.callWith_builtin (by show (false || (backTo cpos (starEach es X.env)).any (·.1))=false; rw [hplain] <;> rfl) (Calls.evalArgs_plain ?_)
 exact cL hA fun us s2 ⟨vs,H2,I2,r2,q2⟩=>hm pins s2 σ H2 x vs v us Q I2 r1 r2 q2
/- xs.append(e),list.index on a module's tuple .. are QZ facts of 06m -/
end
def RR (X:Cx) (id:String) (r:V→List V→Hp→VK→Prop):Prop :=
 ∀ (pins:List (Addr × Obj)) (s:Shared) (σ:St) (H:Hp) (x:V) (xs:List V) (v:Value) (us:List Value) (Q:VK),Inv X pins σ H s→RelV x v→Vals xs us→r x xs H Q →
  wpAny (model X.prog X.w) X.A (call (.builtin id) (v :: us)) (EP X pins σ Q) X.xe s
theorem Vals.one:∀ {x:V} {us:List Value},Vals [x] us→∃ u,us=[u]∧RelV x u
 | _,_,.cons r .nil=>⟨_,rfl,r⟩
theorem Vals.zero:∀ {us:List Value},Vals [] us→us=[]
 | _,.nil=>rfl
theorem Vals.dropLast {xs:List V} {us:List Value} (h:Vals xs us):Vals xs.dropLast us.dropLast:=by
 induction h with
 | nil=>exact .nil
 | cons r t ih =>
  cases t with
  | nil=>exact .nil
  | cons q t'=>exact .cons r ih
theorem wF {α:Type} (l:List α):l.eraseIdx (l.length - 1)=l.dropLast:=by
 induction l with
 | nil=>rfl
 | cons a r ih =>
  cases r with
  | nil=>rfl
  | cons b r =>
   have e:(a :: b :: r).length - 1=((b :: r).length - 1) + 1:=by
    have h1:(a :: b :: r).length=r.length + 2:=rfl
    have h2:(b :: r).length=r.length + 1:=rfl
    omega
   rw [e,List.eraseIdx_cons_succ,ih]
   all_goals rfl
section
variable {X:Cx} {pins:List (Addr × Obj)} {σ:St} {H:Hp} {s:Shared} {l b:Addr} {xs ys zs:List V}
theorem Inv.JZ {its its':List Value} {n:Nat} {f:Array Value→Array Value} {t':Nat} (I:Inv X pins σ H s) (hH:H l=some (.lst xs))
  (e:s.heap.get? l=some { cls:=.type "list",data:=.seq its.toArray n }) (hf:f its.toArray=its'.toArray) (hv:Vals ys its') (hz:ys.length ≤ de) :
  Inv X pins σ (upd H l (.lst ys)) { s with heap:=s.heap.update l (Obj.mapSeq f),toks:=t' }:=by
 have q:=PySem.IsL.update e f
 rw [hf] at q
 refine I.write (x:=l) (e:=l) (by rw [hH]; exact trivial) (.inl rfl) (fun b' u hb hu=>(Heap.get?_update_other s.heap (Obj.mapSeq f) (Ne.symm hb)).trans hu) ⟨_,q⟩ ?_
 exact ⟨hz,its',_,hv,q⟩
theorem Inv.MU {its:List Value} {t':Nat} (I:Inv X pins σ H s) (hv:Vals ys its) (hz:ys.length ≤ de) :
  Inv X pins σ (upd H s.heap.objs.size (.lst ys)) { s with heap:=s.heap.push { cls:=.type "list",data:=.seq its.toArray },toks:=t' } :=
 I.laid (fun _ _ q=>el _ q) (ii _) ⟨hz,its,0,hv,em _ rfl⟩
theorem Inv.fresh (I:Inv X pins σ H s):H s.heap.objs.size=none:=I.hok.fresh (ii _)
theorem Inv.B7 (I:Inv X pins σ H s) (hH:H l=some (.lst xs)):xs.length ≤ de∧∃ (its:List Value) (n:Nat),Vals xs its∧xs.length=its.length∧s.heap.get? l=some { cls:=.type "list",data:=.seq its.toArray n }:=by
 obtain ⟨z,its,n,r,e⟩:=I.hok l _ hH
 exact ⟨z,its,n,r,r.length,e⟩
end
section
variable {X:Cx}
def Fm:V→List V→Hp→VK→Prop:=fun x vs H Q=>∃ l xs y,x=.ref l∧vs=[y]∧H l=some (.lst xs)∧xs.length < de∧Q .non (upd H l (.lst (xs ++ [y])))
theorem bZ:RR X "list.append" Fm:=by
 intro pins s σ H x vs v us Q I rx rv h
 obtain ⟨l,xs,y,rfl,rfl,hH,hz,q⟩:=h
 cases rx
 obtain ⟨u,rfl,ru⟩:=rv.one
 obtain ⟨z,its,n,r,hl,e⟩:=I.B7 hH
 refine call_meets ff ⟨_,e,rfl⟩ F.entry_list_append (F.args_list_append_2 _ _) (PySem.list_append l its.toArray n u (by rw [ag]; omega)) ⟨e,?_⟩
 refine ⟨.non,_,I.JZ (its':=its ++ [u]) hH e (by simp) (r.append (.cons ru .nil)) ?_,rfl,q⟩
 rw [al,List.length_singleton]
 omega
def RS:V→List V→Hp→VK→Prop:=fun x vs H Q=>∃ l xs y,x=.ref l∧vs=[]∧H l=some (.lst xs)∧xs[xs.length - 1]? = some y∧Q y (upd H l (.lst xs.dropLast))
theorem B8:RR X "list.pop" RS:=by
 intro pins s σ H x vs v us Q I rx rv h
 obtain ⟨l,xs,y,rfl,rfl,hH,hy,q⟩:=h
 cases rx
 have hus:=rv.zero
 subst hus
 obtain ⟨z,its,n,r,hl,e⟩:=I.B7 hH
 obtain ⟨u,hu,ru⟩:=r.get hy
 have hy':its.toArray[its.toArray.size - 1]? = some u:=by
  show its.toArray[its.length - 1]? = some u
  rw [← Array.getElem?_toList,← hl]
  exact hu
 refine call_meets F.slot_list_pop ⟨_,e,rfl⟩ F.entry_list_pop (F.args_list_pop_1 _) (MeetsSeq.list_pop_last l its.toArray n u hy' (by rw [ag]; omega)) ⟨e,?_⟩
 refine ⟨y,_,I.JZ (its':=its.dropLast) hH e ?_ r.dropLast ?_,ru,q⟩
 ·show its.toArray.eraseIdxIfInBounds (its.toArray.size - 1)=its.dropLast.toArray
  rw [ag,List.eraseIdxIfInBounds_toArray,wF]
 ·rw [List.length_dropLast]
  omega
def J0:V→List V→Hp→VK→Prop:=fun x vs H Q=>∃ l xs,x=.ref l∧vs=[]∧H l=some (.lst xs)∧Q .non (upd H l (.lst []))
theorem B9:RR X "list.clear" J0:=by
 intro pins s σ H x vs v us Q I rx rv h
 obtain ⟨l,xs,rfl,rfl,hH,q⟩:=h
 cases rx
 have hus:=rv.zero
 subst hus
 obtain ⟨z,its,n,r,hl,e⟩:=I.B7 hH
 refine call_meets F.slot_list_clear ⟨_,e,rfl⟩ F.entry_list_clear (F.args_list_clear_1 _) (AutoSeq1.list_clear_list_0 l its.toArray n (by rw [ag]; omega)) ⟨e,?_⟩
 exact ⟨.non,_,I.JZ (its':=[]) (ys:=[]) hH e rfl .nil (Nat.zero_le _),rfl,q⟩
def RT:R2:=fun x y H Q=>∃ l b xs zs,x=.ref l∧y=.ref b∧H l=some (.lst xs)∧H b=some (.lst zs)∧xs.length + zs.length ≤ de∧∀ p,H p=none→Q (.ref p) (upd H p (.lst (xs ++ zs)))
theorem sr:jP X (binaryOp .Add) RT:=by
 intro pins s σ H x y v u Q I rx ry h
 obtain ⟨l,b,xs,zs,rfl,rfl,hH,hB,hz,q⟩:=h
 cases rx
 cases ry
 obtain ⟨z,its,n,r,hl,e⟩:=I.B7 hH
 obtain ⟨z2,its2,n2,r2,hl2,e2⟩:=I.B7 hB
 refine PySem.P.add_list e e2 ?_ (by rw [ag,ag]; omega)
 have ea:its.toArray ++ its2.toArray=(its ++ its2).toArray:=by simp
 rw [ea]
 exact ⟨.ref _,_,I.MU (t':=s.toks) (r.append r2) (by rw [al]; omega),rfl,q _ I.fresh⟩
end
section
variable {prog:Program} {w:World} {A:Around} {E:Value→Shared→Prop} {s:Shared}
set_option maxRecDepth 100000 in
end
section
variable {X:Cx}
end
section
variable {κ:Type} [DecidableEq κ]
def cy (kvs:List (κ × V)) (k:κ):Option V:=(kvs.find? fun kv=>decide (kv.1=k)).map (·.2)
def putK (kvs:List (κ × V)) (k:κ) (v:V):List (κ × V) :=
 if (kvs.any fun kv=>decide (kv.1=k))=true then kvs.map (fun kv=>if kv.1=k then (kv.1,v) else kv) else kvs ++ [(k,v)]
theorem dk {p:κ × V} {r:List (κ × V)} {k:κ} (e:p.1=k):cy (p :: r) k=some p.2:=by simp [cy,List.find?_cons,e]
theorem dm {p:κ × V} {r:List (κ × V)} {k:κ} (e:¬ p.1=k):cy (p :: r) k=cy r k:=by simp [cy,List.find?_cons,e]
theorem dR (k:κ):∀ kvs:List (κ × V),(kvs.any fun kv=>decide (kv.1=k))=(cy kvs k).isSome
 | []=>rfl
 | p :: r=>by
  rw [List.any_cons]
  by_cases e:p.1=k
  ·simp only [dk e,decide_eq_true e,Bool.true_or,Option.isSome_some]
  ·rw [dm e,decide_eq_false e,Bool.false_or]; exact dR k r
theorem u0 (k j:κ) (y:V):∀ kvs:List (κ × V),cy (kvs.map fun kv=>if kv.1=k then (kv.1,y) else kv) j=(cy kvs j).map fun x=>if j=k then y else x
 | []=>rfl
 | p :: r=>by
  have ih:=u0 k j y r
  rw [br]
  by_cases h:p.1=k
  ·rw [if_pos h]
   by_cases e:p.1=j
   ·rw [dk (p:=(p.1,y)) e,dk e,Option.map_some,if_pos (e.symm.trans h)]
   ·rw [dm (p:=(p.1,y)) e,dm e,ih]
  ·rw [if_neg h]
   by_cases e:p.1=j
   ·rw [dk (p:=p) e,dk e,Option.map_some,if_neg (fun z=>h (e.trans z))]
   ·rw [dm (p:=p) e,dm e,ih]
theorem rh (k j:κ) (y:V):∀ kvs:List (κ × V),cy kvs k=none→cy (kvs ++ [(k,y)]) j=if j=k then some y else cy kvs j
 | [],_=>by
  by_cases e:k=j
  ·rw [if_pos e.symm]; exact dk (p:=(k,y)) e
  ·rw [if_neg (fun z=>e z.symm)]; exact dm (p:=(k,y)) e
 | p :: r,hn=>by
  rw [List.cons_append]
  have hk:¬ p.1=k:=fun z=>by rw [dk z] at hn; cases hn
  rw [dm hk] at hn
  have ih:=rh k j y r hn
  by_cases e:p.1=j
  ·rw [dk e,dk e,if_neg (fun z=>hk (e.trans z))]
  ·rw [dm e,dm e,ih]
theorem oG (kvs:List (κ × V)) (k j:κ) (y:V):cy (putK kvs k y) j=if j=k then some y else cy kvs j:=by
 unfold putK
 by_cases a:(kvs.any fun kv=>decide (kv.1=k))=true
 ·rw [if_pos a,u0]
  rw [dR] at a
  by_cases e:j=k
  ·obtain ⟨x,hx⟩:=Option.isSome_iff_exists.mp a
   rw [if_pos e,e,hx,Option.map_some,if_pos rfl]
  ·rw [if_neg e]
   cases cy kvs j with
   | none=>rfl
   | some x=>rw [Option.map_some,if_neg e]
 ·rw [if_neg a]
  refine rh k j y kvs ?_
  rw [dR] at a
  cases q:cy kvs k with
  | none=>rfl
  | some x=>rw [q] at a; exact (a rfl).elim
theorem dn (kvs:List (κ × V)) (k:κ) (v:V):(putK kvs k v).length ≤ kvs.length + 1:=by
 unfold putK
 split
 ·rw [List.length_map]; omega
 ·rw [al,bo,List.length_nil]; omega
theorem u7 {kvs:List (κ × V)} {k:κ} (v:V) (h:cy kvs k=none):putK kvs k v=kvs ++ [(k,v)]:=by
 unfold putK
 rw [dR,h]
 exact if_neg (by decide)
theorem iC.iI {o:Option V} {u:Option Value} (r:iC o u):o.isSome=u.isSome:=by
 cases o with
 | none=>cases u with
  | none=>rfl
  | some _=>exact (show False from r).elim
 | some _=>cases u with
  | none=>exact (show False from r).elim
  | some _=>rfl
theorem iC.getD {o:Option V} {u:Option Value} {d:V} {d':Value} (r:iC o u) (rd:RelV d d'):RelV (o.getD d) (u.getD d'):=by
 cases o with
 | none=>cases u with
  | none=>exact rd
  | some _=>exact (show False from r).elim
 | some _=>cases u with
  | none=>exact (show False from r).elim
  | some _=>exact r
theorem KV.val {kvs:List (κ × V)} {vs:List (κ × Value)} (r:KV kvs vs) (k:κ):iC (cy kvs k) (valueAt vs k):=by
 unfold KV at r
 induction r with
 | nil=>exact True.intro
 | @cons p q ps qs h t ih =>
  obtain ⟨h1,h2⟩:=h
  by_cases e:p.1=k
  ·have e':q.1=k:=h1.symm.trans e
   have b:valueAt (q :: qs) k=some q.2:=by simp [valueAt,List.find?_cons,e']
   rw [dk e,b]; exact h2
  ·have e':¬ q.1=k:=fun z=>e (h1.trans z)
   have b:valueAt (q :: qs) k=valueAt qs k:=by simp [valueAt,List.find?_cons,e']
   rw [dm e,b]; exact ih
theorem KV.any {kvs:List (κ × V)} {vs:List (κ × Value)} (r:KV kvs vs) (k:κ):(kvs.any fun kv=>decide (kv.1=k))=vs.any fun kv=>decide (kv.1=k):=by
 unfold KV at r
 induction r with
 | nil=>rfl
 | cons h t ih=>rw [List.any_cons,List.any_cons,ih,h.1]
theorem KV.repl {kvs:List (κ × V)} {vs:List (κ × Value)} (r:KV kvs vs) (k:κ) {y:V} {u:Value} (ry:RelV y u) :
  KV (kvs.map fun kv=>if kv.1=k then (kv.1,y) else kv) (vs.map fun kv=>if kv.1=k then (kv.1,u) else kv):=by
 unfold KV at r ⊢
 induction r with
 | nil=>exact .nil
 | @cons p q ps qs h t ih =>
  rw [br,br]
  refine .cons ?_ ih
  obtain ⟨h1,h2⟩:=h
  by_cases e:p.1=k
  ·rw [if_pos e,if_pos (h1.symm.trans e)]; exact ⟨h1,ry⟩
  ·rw [if_neg e,if_neg (fun z=>e (h1.trans z))]; exact ⟨h1,h2⟩
theorem KV.put {kvs:List (κ × V)} {vs:List (κ × Value)} (r:KV kvs vs) (k:κ) {y:V} {u:Value} (ry:RelV y u):KV (putK kvs k y) (stored vs k u):=by
 unfold putK stored
 rw [r.any k]
 by_cases e:(vs.any fun kv=>decide (kv.1=k))=true
 ·rw [if_pos e,if_pos e]; exact r.repl k ry
 ·rw [if_neg e,if_neg e]; exact Paired.snoc r ⟨rfl,ry⟩
theorem KV.length {kvs:List (κ × V)} {vs:List (κ × Value)} (r:KV kvs vs):kvs.length=vs.length:=Paired.length r
end
theorem oH {P:Program} {w:World} {k:Key} {u:Value} (r:RelV (kV k) u):(bF P w).is k u=true:=by
 cases k with
 | inl i=>obtain ⟨t,e⟩:=(show ∃ t,u=Value.int i t from r); subst e; exact uR P w i t
 | inr x=>obtain ⟨t,e⟩:=(show ∃ t,u=Value.str x t from r); subst e; exact uS P w x t
theorem rj {P:Program} {w:World}:∀ {ks:List Key} {us:List Value},Vals (ks.map kV) us→ItemsAre (bF P w) ks us
 | [],_,r=>by rw [List.map_nil] at r; cases r; exact .nil
 | k :: ks,_,r=>by
  rw [br] at r
  cases r with
  | cons h t=>exact .cons (oH h) (rj t)
abbrev KT (H:Hp):List (List Key × V)→List (List Key × Addr × Value)→Prop:=Paired fun p q=>p.1=q.1∧H q.2.1=some (.tup (p.1.map kV))∧RelV p.2 q.2.2
theorem KT.val {H:Hp} {kvs:List (List Key × V)} {xs:List (List Key × Addr × Value)} (r:KT H kvs xs) (k:List Key):iC (cy kvs k) ((atKey xs k).map (·.2)):=by
 induction r with
 | nil=>exact True.intro
 | @cons p q ps qs h t ih =>
  obtain ⟨h1,_,h2⟩:=h
  by_cases e:p.1=k
  ·have e':q.1=k:=h1.symm.trans e
   have b:atKey (q :: qs) k=some q.2:=by simp [atKey,List.find?_cons,e']
   rw [dk e,b]; exact h2
  ·have e':¬ q.1=k:=fun z=>e (h1.trans z)
   have b:atKey (q :: qs) k=atKey qs k:=by simp [atKey,List.find?_cons,e']
   rw [dm e,b]; exact ih
theorem KT.repl {H:Hp} {kvs:List (List Key × V)} {xs:List (List Key × Addr × Value)} (r:KT H kvs xs) (k:List Key) {y:V} {u:Value} (ry:RelV y u) :
  KT H (kvs.map fun kv=>if kv.1=k then (kv.1,y) else kv) (xs.map (putAt k u)):=by
 induction r with
 | nil=>exact .nil
 | @cons p q ps qs h t ih =>
  rw [br,br]
  refine .cons ?_ ih
  obtain ⟨h1,h2,h3⟩:=h
  unfold putAt
  by_cases e:p.1=k
  ·rw [if_pos e,if_pos (h1.symm.trans e)]; exact ⟨h1,h2,ry⟩
  ·rw [if_neg e,if_neg (fun z=>e (h1.trans z))]; exact ⟨h1,h2,h3⟩
theorem KT.put {H:Hp} {kvs:List (List Key × V)} {xs:List (List Key × Addr × Value)} (r:KT H kvs xs) (k:List Key) {b:Addr} {y:V} {u:Value} (hb:H b=some (.tup (k.map kV))) (ry:RelV y u) :
  KT H (putK kvs k y) (storedH xs k b u):=by
 have e:(kvs.any fun kv=>decide (kv.1=k))=(atKey xs k).isSome:=by
  rw [dR,(r.val k).iI,Option.isSome_map]
 unfold putK storedH
 rw [e]
 by_cases q:(atKey xs k).isSome=true
 ·rw [if_pos q,if_pos q]; exact r.repl k ry
 ·rw [if_neg q,if_neg q]; exact Paired.snoc r ⟨rfl,hb,ry⟩
theorem KT.keeps {H H':Hp} {kvs:List (List Key × V)} {xs:List (List Key × Addr × Value)} (r:KT H kvs xs) (ht:∀ b ys,H b=some (.tup ys)→H' b=some (.tup ys)):KT H' kvs xs :=
 Paired.JC r fun _ _ z=>⟨z.1,ht _ _ z.2.1,z.2.2⟩
section
variable {P:Program} {w:World} {H:Hp} {h:Heap} {a:Addr}
theorem Iu {u:HO} (ok:jY P w H h) (e:Rd H a u):cH P w H h a u:=e.ok ok
theorem oI {kvs:List (Key × V)} (ok:jY P w H h) (e:Rd H a (.dK kvs)):kvs.length ≤ de∧(a == sysModules)=false∧∃ vs,KV kvs vs∧h.DictOf (bF P w) a vs :=
 show cH P w H h a (.dK kvs) from Iu ok e
theorem jQ {kvs:List (Key × V)} (ok:jY P w H h) (e:H a=some (.dK kvs)):kvs.length ≤ de∧(a == sysModules)=false∧∃ vs,KV kvs vs∧h.DictOf (bF P w) a vs:=oI ok (.inl e)
theorem oJ {ks:List Key} (ok:jY P w H h) (e:H a=some (.tup (ks.map kV))):(tupleKind (bF P w)).is h ks a:=by
 obtain ⟨_,its,r,o,h1,h2,n,h3⟩:=(show cH P w H h a (.tup (ks.map kV)) from ok a _ e)
 exact ⟨o,its.toArray,n,h1,h2,h3,by simpa using rj r⟩
theorem rm {kvs:List (List Key × V)} (ok:jY P w H h) (e:Rd H a (.dT kvs)):kvs.length ≤ de∧(a == sysModules)=false ∧
  ∃ xs,KT H kvs xs∧h.DictOfH (tupleKind (bF P w)) a xs:=by
 obtain ⟨z,y,xs,r,o,es,ep,h1,h2,h3,h4,h5⟩:=(show cH P w H h a (.dT kvs) from Iu ok e)
 refine ⟨z,y,xs,r,o,es,ep,h1,h2,h3,h4,fun x hx=>?_,h5⟩
 have all:∀ {l:List (List Key × V)} {m:List (List Key × Addr × Value)},KT H l m→∀ x ∈ m,(tupleKind (bF P w)).is h x.1 x.2.1:=by
  intro l m q
  induction q with
  | nil=>intro x hx; exact nomatch hx
  | @cons p q ps qs hq t ih =>
   intro x hx
   rcases List.mem_cons.mp hx with e | hx
   ·subst e
    exact oJ ok (by rw [← hq.1]; exact hq.2.1)
   ·exact ih x hx
 exact all r x hx
theorem MV {kvs:List (List Key × V)} (ok:jY P w H h) (e:H a=some (.dT kvs)):kvs.length ≤ de∧(a == sysModules)=false ∧
  ∃ xs,KT H kvs xs∧h.DictOfH (tupleKind (bF P w)) a xs:=rm ok (.inl e)
end
def iS (H:Hp) (a:Addr) (y:V) (r:Option V):Prop :=
 (∃ kvs k,Rd H a (.dK kvs)∧y=kV k∧r=cy kvs k)∨∃ kvs k b,Rd H a (.dT kvs)∧y=.ref b∧H b=some (.tup (k.map kV))∧r=cy kvs k
def iy (H:Hp) (a:Addr) (y v:V) (H':Hp):Prop :=
 (∃ kvs k,H a=some (.dK kvs)∧y=kV k∧kvs.length < de∧H'=upd H a (.dK (putK kvs k v))) ∨
 ∃ kvs k b,H a=some (.dT kvs)∧y=.ref b∧H b=some (.tup (k.map kV))∧kvs.length < de∧H'=upd H a (.dT (putK kvs k v))
theorem iS.k {H:Hp} {a:Addr} {kvs:List (Key × V)} {k:Key} (e:H a=some (.dK kvs)):iS H a (kV k) (cy kvs k):=.inl ⟨kvs,k,.inl e,rfl,rfl⟩
theorem iy.k {H:Hp} {a:Addr} {kvs:List (Key × V)} {k:Key} {v:V} (e:H a=some (.dK kvs)) (hl:kvs.length < de):iy H a (kV k) v (upd H a (.dK (putK kvs k v))):=.inl ⟨kvs,k,e,rfl,hl,rfl⟩
section
variable {X:Cx} {pins:List (Addr × Obj)} {σ:St} {H:Hp} {s:Shared} {a:Addr} {y v:V} {u r:Value} {o:Option V} {A:Around} {E:Value→Shared→Prop}
theorem Inv.big (I:Inv X pins σ H s):sysModules < s.heap.objs.size:=by
 have h:ci < s.heap.objs.size:=(I.mod.glob.keeps I.bk).lt
 exact Nat.lt_trans (by decide) h
theorem zZ {Q:Value→Shared→Prop} (hu:A.units + 1 < cLine) (I:Inv X pins σ H s) (g:iS H a y (some v)) (ry:RelV y u) (h:∀ w' s',Inv X pins σ H s'→RelV v w'→Q w' s') :
  wpAny (model X.prog X.w) A (getItem (.ref a) u) Q E s:=by
 rcases g with ⟨kvs,k,e,ey,l⟩ | ⟨kvs,k,b,e,ey,eb,l⟩
 ·subst ey
  obtain ⟨z,hd,vs,rel,dd⟩:=oI I.hok e
  obtain ⟨w',hw,qy⟩:=iC.some_of (v:=v) (o:=valueAt vs k) (by rw [l]; exact rel.val k)
  exact wpAny_getItem_of (oH ry) dd.mapOf hw (h w' _ (I.tok _) qy)
 ·subst ey
  cases (show u=Value.ref b from ry)
  obtain ⟨z,hd,xs,rel,dd⟩:=rm I.hok e
  obtain ⟨w',hw,qy⟩:=iC.some_of (v:=v) (o:=(atKey xs k).map (·.2)) (by rw [l]; exact rel.val k)
  obtain ⟨p,hp,hp2⟩:=Option.map_eq_some_iff.mp hw
  refine wpAny_getItem_heap (tupleKind_room_in1 hu) (oJ I.hok eb) dd hp ?_
  rw [hp2]
  exact h w' _ (I.tok _) qy
theorem RU {Q:Value→Shared→Prop} (hu:A.units + 1 < cLine) (I:Inv X pins σ H s) (g:iS H a y o) (ry:RelV y u) (h:∀ s',Inv X pins σ H s'→Q (.bool o.isSome) s') :
  wpAny (model X.prog X.w) A (compareOp .In u (.ref a)) Q E s:=by
 rcases g with ⟨kvs,k,e,ey,l⟩ | ⟨kvs,k,b,e,ey,eb,l⟩
 ·subst ey
  obtain ⟨z,hd,vs,rel,dd⟩:=oI I.hok e
  refine wpAny_in_of (oH ry) hd dd.mapOf ?_
  rw [← (rel.val k).iI,← l]
  exact h _ (I.tok _)
 ·subst ey
  cases (show u=Value.ref b from ry)
  obtain ⟨z,hd,xs,rel,dd⟩:=rm I.hok e
  refine wpAny_in_heap (tupleKind_room_in1 hu) (oJ I.hok eb) hd dd ?_
  have q:=(rel.val k).iI
  rw [Option.isSome_map] at q
  rw [← q,← l]
  exact h _ (I.tok _)
theorem nW {h':Heap} {t':Nat} {ob:HO} (I:Inv X pins σ H s) (mu:Mf (H a)) (hs:Heap.SameBut a s.heap h') (he:∃ q,h'.get? a=some q) (new:cH X.prog X.w (upd H a ob) h' a ob) :
  Inv X pins σ (upd H a ob) { s with heap:=h',toks:=t' } :=
 I.write (x:=a) (e:=a) mu (.inl rfl) (fun b q hb z=>(hs.2 b hb).trans z) he new
theorem oK {P:Program} {w:World} {H':Hp} {h':Heap} {kvs:List (Key × V)} {vs:List (Key × Value)} (z:kvs.length ≤ de) (hd:(a == sysModules)=false) (rel:KV kvs vs) (dd:h'.DictOf (bF P w) a vs) :
  cH P w H' h' a (.dK kvs):=⟨z,hd,vs,rel,dd⟩
theorem z9 {H':Hp} {Q:Unit→Shared→Prop} (hu:A.units + 1 < cLine) (I:Inv X pins σ H s) (g:iy H a y v H') (ry:RelV y u) (rv:RelV v r) (h:∀ s',Inv X pins σ H' s'→Q () s') :
  wpAny (model X.prog X.w) A (setItem (.ref a) u r) Q E s:=by
 rcases g with ⟨kvs,k,e,ey,l,eH⟩ | ⟨kvs,k,b,e,ey,eb,l,eH⟩
 ·subst ey eH
  obtain ⟨z,hd,vs,rel,dd⟩:=jQ I.hok e
  have hz:vs.length ≤ de:=by rw [← rel.length]; exact z
  have hl:(putK kvs k v).length ≤ de:=by have:=dn kvs k v; omega
  refine wpAny_setItem_pairs (hsz:=hz) (oH ry) dd fun h' Bz hs=>h _ ?_
  have he:∃ q,h'.get? a=some q:=let ⟨q,_,_,hq,_⟩:=Bz; ⟨q,hq⟩
  exact nW I (by rw [e]; exact True.intro) hs he (oK hl hd (rel.put k rv) Bz)
 ·subst ey eH
  cases (show u=Value.ref b from ry)
  obtain ⟨z,hd,xs,rel,dd⟩:=MV I.hok e
  have hz:xs.length ≤ de:=by rw [← Paired.length rel]; exact z
  have hl:(putK kvs k v).length ≤ de:=by have:=dn kvs k v; omega
  refine wpAny_setItem_heap (hsz:=hz) (tupleKind_room_in1 hu) (oJ I.hok eb) dd fun h' Bz hs=>h _ ?_
  obtain ⟨q,es,ep,hq,h2,h3,h4,_,h5⟩:=Bz
  refine nW I (by rw [e]; exact True.intro) hs ⟨q,hq⟩ ⟨hl,hd,_,(rel.put k eb rv).keeps fun c ys ec=>?_,q,es,ep,hq,h2,h3,h4,h5⟩
  rw [aL (bJ ec e (fun z=>nomatch z))]
  exact ec
end
section
variable {X:Cx} {pins:List (Addr × Obj)} {σ:St} {H:Hp} {s:Shared} {a:Addr} {kvs:List (Key × V)} {k:Key} {u:Value} {A:Around} {E:Value→Shared→Prop}
theorem Fn {Q:Value→Shared→Prop} (I:Inv X pins σ H s) (e:H a=some (.dK kvs)) (h:∀ s',Inv X pins σ (upd H a (.dK [])) s'→Q .none s'):wpAny (model X.prog X.w) A (call (.builtin "dict.clear") [.ref a]) Q E s:=by
 obtain ⟨z,hd,vs,rel,dd⟩:=jQ I.hok e
 refine call_meetsIn PySem.F.slot_dict_clear dd.typeIs PySem.F.entry_dict_clear (PySem.F.args_dict_clear_1 _) (meets_dict_clear (bF X.prog X.w) a) ⟨vs,dd,by rw [← rel.length]; exact z,fun h' Bz hs=>h _ ?_⟩
 have he:∃ q,h'.get? a=some q:=let ⟨q,_,_,hq,_⟩:=Bz; ⟨q,hq⟩
 exact nW (t':=s.toks) I (by rw [e]; exact True.intro) hs he (oK (Nat.zero_le _) hd .nil Bz)
end
def J1 (i:Expr):Prop:=∀ ov iv,subscripted i false ov iv=operate [ov,iv] (getItem ov iv)
theorem yK {prog:Program} {w:World} {A:Around} {E:Value→Shared→Prop} {s:Shared} {env:Env} {value slice:Expr} {pos:Pos} {T id:String} {Q:Value→Shared→Prop}
  (hl:typeLookup (.type T) "__getitem__" = pure (some (.builtin id))) (hs:J1 slice)
  (h:wpAny (model prog w) A (eval value env) (fun o s₁=>wpAny (model prog w) A (eval slice env) (fun i s₂=>s₂.TypeIs o T∧wpAny (model prog w) A (getItem o i) Q E s₂) E s₁) E s) :
  wpAny (model prog w) A (eval (.Subscript value slice pos) env) Q E s:=by
 refine Subscript_ (dL h (fun o s₁ h₁=>dL h₁ (fun i s₂ h₂=>?_) fun _ _ x=>x) fun _ _ x=>x)
 obtain ⟨hT,h₂⟩:=h₂
 unfold subscriptTail
 refine cb ?_
 rw [getitemInPython_of_ne hT.not_modules]
 refine cb (wpAny_specialOf hT hl ?_)
 have fin:wpAny (model prog w) A (subscripted slice false o i) (fun r s₃=>wpAny (model prog w) A (letTemporaryGo value o r >>= fun _=>pure r) Q E s₃) E s₂:=by
  rw [hs o i]
  exact wpAny_operating (dL h₂ (fun r s₃ h₃=>cb (wpAny_letTemporaryGo (ce h₃))) fun _ _ x=>x)
 first
  | exact ce (cb fin)
  | exact cb (ce (cb fin))
  | exact cb fin
theorem u9 {X:Cx} {pins:List (Addr × Obj)} {σ:St} {H:Hp} {s:Shared} {a:Addr} {y:V} {o:Option V} (I:Inv X pins σ H s) (g:iS H a y o):s.TypeIs (.ref a) "dict" := by
 rcases g with ⟨kvs,k,e,_,_⟩ | ⟨kvs,k,b,e,_,_,_⟩
 ·obtain ⟨_,_,vs,_,dd⟩:=oI I.hok e
  exact dd.typeIs
 ·obtain ⟨_,_,xs,_,dd⟩:=rm I.hok e
  exact dd.typeIs
def MW (td ty:TE):TE:=fun σ H Q=>td σ H fun x H1=>ty σ H1 fun y H2=>∃ a v,x=.ref a∧iS H2 a y (some v)∧Q v H2
def RV (ty td:TE):TE:=fun σ H Q=>ty σ H fun y H1=>td σ H1 fun x H2=>∃ a o,x=.ref a∧iS H2 a y o∧Q (.bl o.isSome) H2
def Iv (td ty tv:TE):TS:=fun D σ H=>tv σ H fun v H1=>td σ H1 fun x H2=>ty σ H2 fun y H3=>∃ a H4,x=.ref a∧iy H3 a y v H4∧D.nx σ H4
section
variable {X:Cx} {o i e value:Expr} {pos pos' tpos:Pos} {td ty tv:TE}
theorem aY (hu:X.A.units + 1 < cLine) (ho:PE X o td) (hi:PE X i ty) (hs:J1 i):PE X (.Subscript o i pos) (MW td ty):=by
 intro pins s σ H Q I h
 refine yK PySem.F.slot_dict_getitem.lookup hs (cL (ho pins s σ H _ I h) fun u s1 ⟨x,H1,I1,rx,q1⟩=>cL (hi pins s1 σ H1 _ I1 q1) fun iv s2 ⟨y,H2,I2,ry,a,v,ex,g,q2⟩=>?_)
 subst ex
 obtain rfl:u=Value.ref a:=rx
 exact ⟨u9 I2 g,zZ hu I2 g ry fun w' s3 I3 qy=>⟨v,H2,I3,qy,q2⟩⟩
theorem J2 (hu:X.A.units + 1 < cLine) (hi:PE X i ty) (ho:PE X o td):PC X .In i o (RV ty td):=by
 intro pins s σ H Q I h
 refine cL (hi pins s σ H _ I h) fun iv s1 ⟨y,H1,I1,ry,q1⟩=>cL (ho pins s1 σ H1 _ I1 q1) fun u s2 ⟨x,H2,I2,rx,a,ov,ex,g,q2⟩=>?_
 subst ex
 obtain rfl:u=Value.ref a:=rx
 exact RU hu I2 g ry fun s3 I3=>⟨.bl ov.isSome,H2,I3,rfl,q2⟩
theorem dq (hu:X.A.units + 1 < cLine) (ho:PE X o td) (hi:PE X i ty) (hv:PE X value tv) (hs:swapsWith value (some (.Subscript o i pos')) pos.line X.env=pure false) :
  PS X (.Assign [.Subscript o i pos'] value pos) (Iv td ty tv):=by
 intro pins s σ H D I h
 refine wpAny_Assign_Subscript (cL (hv pins s σ H _ I h) fun r s1 ⟨v,H1,I1,rv,q1⟩=>cL (ho pins s1 σ H1 _ I1 q1) fun u s2 ⟨x,H2,I2,rx,q2⟩=>cL (hi pins s2 σ H2 _ I2 q2) fun iv s3 ⟨y,H3,I3,ry,a,H4,ex,g,q3⟩=>?_) hs
 subst ex
 obtain rfl:u=Value.ref a:=rx
 exact z9 hu I3 g ry rv fun s4 I4=>⟨σ,H4,I4,q3⟩
end
theorem vd {P:Program} {w:World} {H:Hp} (h:Heap) (hb:sysModules < h.objs.size):cH P w H (h.push { cls:=.type "dict",data:=.dict #[] }) h.objs.size (.dK []) :=
 ⟨Nat.zero_le _,beq_eq_false_iff_ne.mpr (Ne.symm (ij hb)),[],.nil,Heap.DictOf.new h⟩
def Ca:TE:=fun _ H Q=>∀ p,H p=none→Q (.ref p) (upd H p (.dK []))
section
variable {X:Cx} {pos:Pos}
theorem je:PE X (.Dict [] [] pos) Ca:=fun pins s σ H Q I h =>
 wpAny_Dict_empty ⟨.ref s.heap.objs.size,_,I.laid (a:=s.heap.objs.size) (o:=.dK []) (t':=s.toks) (fun _ _ q=>el _ q) (ii _) (vd s.heap I.big),rfl,h _ (I.hok.fresh (ii _))⟩
end
def wG:List (TE × TE)→St→Hp→(List (V × V)→Hp→Prop)→Prop
 | [],_,H,Q=>Q [] H
 | (tk,tv) :: r,σ,H,Q=>tk σ H fun x H1=>tv σ H1 fun y H2=>wG r σ H2 fun ps H3=>Q ((x,y) :: ps) H3
abbrev VV:List (V × V)→List (Value × Value)→Prop:=Paired fun p q=>RelV p.1 q.1∧RelV p.2 q.2
def MX (X:Cx) (pos:Pos) (keys:List (Option Expr)) (values:List Expr) (uN:List (TE × TE)):Prop :=
 ∀ (pins:List (Addr × Obj)) (s:Shared) (σ:St) (H:Hp) (Q:List (V × V)→Hp→Prop),Inv X pins σ H s→wG uN σ H Q →
  wpAny (model X.prog X.w) X.A (evalPairs (pairTrees keys values X.env pos)) (fun vs s'=>∃ ps H',Inv X pins σ H' s'∧VV ps vs∧Q ps H') X.xe s
theorem nX {X:Cx} {pos:Pos}:MX X pos [] [] []:=fun pins s σ H Q I h=>pairTrees_nil_walk ⟨[],H,I,.nil,h⟩
theorem dr {X:Cx} {pos:Pos} {k v:Expr} {ks:List (Option Expr)} {vs:List Expr} {tk tv:TE} {uN:List (TE × TE)} (hk:PE X k tk) (hv:PE X v tv) (hr:MX X pos ks vs uN) :
  MX X pos (some k :: ks) (v :: vs) ((tk,tv) :: uN):=fun pins s σ H Q I h =>
 pairTrees_cons_walk (cL (hk pins s σ H _ I h) fun u s1 ⟨x,H1,I1,rx,q1⟩=>cL (hv pins s1 σ H1 _ I1 q1) fun w2 s2 ⟨y,H2,I2,ry,q2⟩ =>
  cL (hr pins s2 σ H2 _ I2 q2) fun ws s3 ⟨ps,H3,I3,rel,q3⟩=>⟨(x,y) :: ps,H3,I3,.cons ⟨rx,ry⟩ rel,q3⟩)
def eO (kvs more:List (Key × V)):List (Key × V):=more.foldl (fun acc kv=>putK acc kv.1 kv.2) kvs
theorem KV.merge:∀ {more:List (Key × V)} {rs:List (Key × Value)} {kvs:List (Key × V)} {vs:List (Key × Value)},KV more rs→KV kvs vs→KV (eO kvs more) (merged vs rs):=by
 intro more rs kvs vs r
 unfold KV at r
 induction r generalizing kvs vs with
 | nil=>intro q; exact q
 | @cons p q ps qs h t ih =>
  intro r0
  have e:KV (putK kvs p.1 p.2) (stored vs q.1 q.2):=by
   have:=r0.put p.1 h.2
   rw [← h.1]; exact this
  exact ih e
theorem gi:∀ (more kvs:List (Key × V)),(eO kvs more).length ≤ kvs.length + more.length
 | [],kvs=>by show kvs.length ≤ kvs.length + 0; omega
 | p :: r,kvs=>by
  have h1:=gi r (putK kvs p.1 p.2)
  have h2:=dn kvs p.1 p.2
  show (eO (putK kvs p.1 p.2) r).length ≤ _
  rw [bo]; omega
theorem oM {P:Program} {w:World}:∀ {kvs:List (Key × V)} {ws:List (Value × Value)},VV (kvs.map fun kv=>(kV kv.1,kv.2)) ws→∃ rs,Carries (bF P w) ws rs∧KV kvs rs
 | [],_,r=>by rw [List.map_nil] at r; cases r; exact ⟨[],True.intro,.nil⟩
 | p :: kvs,_,r=>by
  rw [br] at r
  cases r with
  | @cons a b as bs h t =>
   obtain ⟨rs,c,q⟩:=oM (P:=P) (w:=w) t
   obtain ⟨b1,b2⟩:=b
   exact ⟨(p.1,b2) :: rs,⟨oH h.1,rfl,c⟩,.cons ⟨rfl,h.2⟩ q⟩
def yL (uN:List (TE × TE)):TE:=fun σ H Q=>∀ p,H p=none→wG uN σ (upd H p (.dK [])) fun ps H2=>H2 p=some (.dK [])∧∃ kvs:List (Key × V),ps=kvs.map (fun kv=>(kV kv.1,kv.2))∧kvs.length ≤ 15∧Q (.ref p) (upd H2 p (.dK (eO [] kvs)))
theorem nY {X:Cx} {pos:Pos} {keys:List (Option Expr)} {values:List Expr} {uN:List (TE × TE)} (h:MX X pos keys values uN) (hall:keys.all (·.isSome)=true) (hl:keys.length=values.length) (h0:keys ≠ [])
  (h15:keys.length ≤ 15):PE X (.Dict keys values pos) (yL uN):=by
 intro pins s σ H Q I q
 have hn:=I.hok.fresh (ii s.heap.objs.size)
 have I1:=I.laid (a:=s.heap.objs.size) (o:=.dK []) (h':=s.heap.push { cls:=.type "dict",data:=.dict #[] }) (t':=s.toks) (fun _ _ q=>el _ q) (ii _) (vd s.heap I.big)
 refine wpAny_Dict_walk (knd:=bF X.prog X.w) hall hl h0 h15 (cL (h pins _ σ _ _ I1 (q _ hn)) fun ws s2 ⟨ps,H2,I2,rel,e,kvs,ep,lk,q2⟩=>?_)
 subst ep
 obtain ⟨rs,c,rk⟩:=oM (P:=X.prog) (w:=X.w) rel
 obtain ⟨z,hd,vs0,r0,dd⟩:=jQ I2.hok e
 cases r0
 refine ⟨rs,c,dd,fun h' Bz hs=>⟨.ref s.heap.objs.size,_,?_,rfl,q2⟩⟩
 have hz:(eO [] kvs).length ≤ de:=by
  have h1:=gi kvs []
  rw [List.length_nil] at h1
  rw [sizeLine_eq]; omega
 have he:∃ q,h'.get? s.heap.objs.size=some q:=let ⟨q,_,_,hq,_⟩:=Bz; ⟨q,hq⟩
 exact nW I2 (by rw [e]; exact True.intro) hs he (oK hz hd (rk.merge .nil) Bz)
structure M2 (X:Cx) (o:Expr) (m:Str) (apos:Pos) (e f:Expr) (cpos:Pos):Prop where
 base:attributeBase o m X.env (eval o X.env)=eval o X.env
 few:((backTo cpos (starEach [e,f] X.env)).all (fun x=>!x.1) && (backToKw cpos (keywordEach [] X.env)).all (fun x=>x.1.isSome)
  && decide (([e,f]:List Expr).length + ([]:List Keyword).length + (if ([]:List Keyword).isEmpty then 0 else 1) < 30))=true
 line:(apos.endLine == cpos.line)=true
 trees:backTo cpos (starEach [e,f] X.env)=[(false,eval e X.env),(false,eval f X.env)]
def IsD (H:Hp) (a:Addr):Prop:=(∃ kvs,Rd H a (.dK kvs))∨∃ kvs,Rd H a (.dT kvs)
theorem J3 {X:Cx} {pins:List (Addr × Obj)} {σ:St} {H:Hp} {s:Shared} {a:Addr} (I:Inv X pins σ H s) (d:IsD H a) :
  s.TypeIs (.ref a) "dict" ∧ (∀ b,Value.ref a=.ref b→∃ ob,s.heap.get? b=some ob∧ob.dict=none)∧(a == sysModules)=false:=by
 rcases d with ⟨kvs,e⟩ | ⟨kvs,e⟩
 ·obtain ⟨_,hd,vs,_,dd⟩:=oI I.hok e
  refine ⟨dd.typeIs,fun b q=>?_,hd⟩
  cases q
  obtain ⟨ob,_,_,h1,h2,_⟩:=dd
  exact ⟨ob,h1,h2.2.1⟩
 ·obtain ⟨_,hd,xs,_,dd⟩:=rm I.hok e
  refine ⟨dd.typeIs,fun b q=>?_,hd⟩
  cases q
  obtain ⟨ob,_,_,h1,h2,_⟩:=dd
  exact ⟨ob,h1,h2.2.1⟩
section
variable {X:Cx} {pins:List (Addr × Obj)} {σ:St} {H:Hp} {s:Shared} {a:Addr} {y d:V} {u r:Value} {o:Option V} {A:Around} {E:Value→Shared→Prop}
theorem J4 {Q:Value→Shared→Prop} (hu:A.units + 1 < cLine) (I:Inv X pins σ H s) (g:iS H a y o) (ry:RelV y u) (rd:RelV d r) (h:∀ w' s',Inv X pins σ H s'→RelV (o.getD d) w'→Q w' s') :
  wpAny (model X.prog X.w) A (call (.builtin "dict.get") [.ref a,u,r]) Q E s:=by
 rcases g with ⟨kvs,k,e,ey,l⟩ | ⟨kvs,k,b,e,ey,eb,l⟩
 ·subst ey
  obtain ⟨z,hd,vs,rel,dd⟩:=oI I.hok e
  refine call_meetsIn PySem.F.slot_dict_get dd.typeIs PySem.F.entry_dict_get (PySem.F.args_dict_get_3 _ _ _) (meets_dict_get_default (bF X.prog X.w) a (oH ry) hd r) ⟨_,dd.mapOf,h _ _ (I.tok _) ?_⟩
  rw [l]
  exact (rel.val k).getD rd
 ·subst ey
  cases (show u=Value.ref b from ry)
  obtain ⟨z,hd,xs,rel,dd⟩:=rm I.hok e
  refine call_meetsIn PySem.F.slot_dict_get dd.typeIs PySem.F.entry_dict_get (PySem.F.args_dict_get_3 _ _ _) (meetsH_dict_get_default (tupleKind (bF X.prog X.w)) a b hd r) ⟨tupleKind_room_in1 hu,k,xs,oJ I.hok eb,dd,h _ _ (I.tok _) ?_⟩
  rw [l]
  exact (rel.val k).getD rd
end
def J5 (td ty tx:TE):TE:=fun σ H Q=>td σ H fun x H1=>∃ a,x=.ref a∧IsD H1 a∧ty σ H1 fun y H2=>tx σ H2 fun z H3=>∃ o,iS H3 a y o∧Q (o.getD z) H3
section
variable {X:Cx} {o e f:Expr} {apos cpos:Pos} {td ty tx:TE}
theorem jf (hu:X.A.units + 1 < cLine) (ho:PE X o td) (he:PE X e ty) (hf:PE X f tx) (m:M2 X o "get" apos e f cpos):PE X (.Call (.Attribute o "get" apos) [e,f] [] cpos) (J5 td ty tx):=by
 intro pins s σ H Q I h
 refine wpAny_Call_method m.base m.few m.line fk PySem.F.slot_dict_get PySem.F.type_dict_get (cL (ho pins s σ H _ I h) fun u s1 ⟨x,H1,I1,rx,a,ex,d,q1⟩=>?_)
 subst ex
 obtain rfl:u=Value.ref a:=rx
 obtain ⟨t1,t2,_⟩:=J3 I1 d
 refine ⟨t1,t2,?_⟩
 rw [m.trees]
 refine Calls.callWith_builtin rfl (Calls.evalArgs_plain (Calls.spliced_cons (cL (he pins s1 σ H1 _ I1 q1) fun iv s2 ⟨y,H2,I2,ry,q2⟩ =>
  Calls.spliced_cons (cL (hf pins s2 σ H2 _ I2 q2) fun fv s3 ⟨z,H3,I3,rz,ov,g,q3⟩=>Calls.spliced_nil ?_))))
 exact J4 hu I3 g ry rz fun w' s4 I4 qy=>⟨_,H3,I4,qy,q3⟩
end
section
variable {X:Cx} {pins:List (Addr × Obj)} {σ:St} {H:Hp} {s:Shared} {a:Addr} {kvs:List (Key × V)} {A:Around} {E:Value→Shared→Prop}
theorem Cd {Q:Value→Shared→Prop} (I:Inv X pins σ H s) (e:Rd H a (.dK kvs)) (h:∀ p s',H p=none→Inv X pins σ (upd H p (.dK kvs)) s'→Q (.ref p) s'):wpAny (model X.prog X.w) A (call (.type "dict") [.ref a]) Q E s:=by
 obtain ⟨z,hd,vs,rel,dd⟩:=oI I.hok e
 refine kt_call_dict hd dd (by rw [← rel.length]; exact z) fun h' Bz hs=>?_
 refine h _ _ (I.hok.fresh (ii _)) (I.laid (a:=s.heap.objs.size) (o:=.dK kvs) (t':=s.toks) (fun b q hq=>?_) (ii _) (oK z (beq_eq_false_iff_ne.mpr (Ne.symm (ij I.big))) rel Bz))
 exact (hs.2 b (ij (et hq))).trans (el _ hq)
end
section
variable {X:Cx} {pins:List (Addr × Obj)} {σ:St} {H:Hp} {s:Shared} {a:Addr} {y:V} {u:Value} {A:Around} {E:Value→Shared→Prop}
end
end L2
namespace Att
open PySem PySem.W PySem.Calls PyProof.Rows
theorem mX {P:Params} {h:Heap}:∀ (ns:List Int) (vs:List Value),WellAll P h vs (ns.map WData.int)→IntsAre vs ns:=by
 intro ns
 induction ns with
 | nil =>
  intro vs w
  rw [List.map_nil] at w
  cases w
  exact .nil
 | cons n ns ih =>
  intro vs w
  rw [br] at w
  cases w with
  | cons a b =>
   cases a
   exact .cons _ _ (ih _ b)
theorem Aa {l:OpenLaw} {n:Nat} (hn:l.most=some n) {P:Params} {h:Heap} {args:List WData} {vals:List Value}
  (hpre:l.row.toRowW.claim.pre args=true) (hwl:WellAll P h vals args) :
  ∃ a vs ns,vals=[Value.ref a]∧args=[WData.list (ns.map WData.int)]∧h.get? a=some { cls:=.type "list",data:=.seq vs.toArray }∧IntsAre vs ns∧ns.length ≤ n:=by
 have hsh:WShape.hasAll [] args [.list .int]=true:=(pre_splitW hpre).1
 have hc:l.pre.holds [] { args:=args }=true:=(pre_splitW hpre).2
 obtain ⟨d,r,rfl,h1,h2⟩:=hasAllW_cons hsh
 obtain rfl:=hasAllW_nil h2
 obtain ⟨xs,rfl,h3⟩:=hasW_list h1
 obtain ⟨ns,rfl⟩:=items_int h3
 have hlen:ns.length ≤ n:=by
  unfold OpenLaw.pre at hc
  have h4:(WTm.not (.lt (.lit (.int (n:Int))) (.len (.arg 0)))).holds [] { args:=[.list (ns.map .int)] }=true:=by
   have h4:=(holds_andW hc).1
   rw [hn] at h4
   exact h4
  have h5:=condW_of h4 (w_not (w_lt w_lit (w_len_list (w_arg rfl))))
  rw [List.length_map] at h5
  refine Nat.le_of_not_lt fun q=>?_
  have q':(n:Int) < ((ns.length:Nat):Int):=by omega
  first
   | (rw [decide_eq_true q'] at h5; exact absurd h5 (by decide))
   | (simp at h5; omega)
 cases hwl with
 | cons w1 w2 =>
  cases w2
  cases w1 with
  | list ho hall=>exact ⟨_,_,ns,rfl,rfl,ho,mX ns _ hall,hlen⟩
theorem Ab (l:OpenLaw) (args:List WData):l.row.toRowW.claim.post args (.bool true) args=true :=
 postW_of (r:=l.row.toRowW) (X:=(true == true))
  (show WShape.has [] (.bool true) .bool=true by first | rfl | decide | simp [WShape.has,WShape.arms,WShape.armsAll])
  (show (WTm.eq .res (.lit (.bool true))).value [] { args:=args,res:=some (.bool true),after:=args }=some (.bool (true == true)) from w_eq_bool (w_res rfl) w_lit) rfl
theorem vf {l:OpenLaw} {n:Nat} {q:Program} {loose:List Str} {XP:(Str→Option Value)→Heap→Prop} {YP:World→Heap→Prop} {d:DefRec}
  (hn:l.most=some n) (hdf:d.params.defaults=[])
  (call:∀ (w:World) (s₀ s₁:Shared) (mg mb:Str→Option Value) (fa:Addr) (o:Obj) (pm cd doc:Value) (a:Addr) (vs:List Value) (ns:List Int),
   Ground q loose [] XP w s₀ mg mb s₁.heap→YP w s₁.heap →
   s₁.heap.get? fa=some o→o.data=.func (docDef d.name d.params d.body d.scope pm cd doc)→s₁.heap.CodeRec cd d.name→mg d.name=some (.ref fa) →
   s₁.heap.get? a=some { cls:=.type "list",data:=.seq vs.toArray }→IntsAre vs ns→ns.length ≤ n→s₁.gens=#[] →
   codeAny (model l.prog w) callerA (.call (.ref fa) ⟨[.ref a],[]⟩) (fun r s'=>r=.ok (.ret (.bool true))∧OldK s₁.heap s'.heap∧s'.os=s₁.os∧AllBare s'.gens) s₁) :
  WalkO q loose XP YP l.row.toRowW d [] (fun f vs=>PySem.call f vs):=by
 intro w s₀ s₁ mg mb G Y fa o pm cd doc dV kV ho hd hcd hD hmg hg args vals as hpre hlay hrd hwl hlo
 obtain rfl:dV=.none:=Dflts.none hD hdf
 obtain rfl:kV=.none:=Dflts.noKw hD
 obtain ⟨a,vs,ns,rfl,rfl,hobj,hints,hlen⟩:=Aa hn hpre hwl
 refine enter_call (codeAny_mono (call w s₀ s₁ mg mb fa o pm cd doc a vs ns G Y ho (fd_plain hd) hcd hmg hobj hints hlen hg) fun r s' hq=>?_)
 obtain ⟨rfl,h2,h3,h4⟩:=hq
 exact ⟨.inl ⟨.bool true,.bool true,[],rfl,fun _=>rfl,.bool true,Ab l _,fun _=>⟨List.Pairwise.nil,fun _ hm=>(nomatch hm)⟩⟩,h2,h3,h4⟩
section
variable {prog:Program} {w:World} {A:Around} {E:Value→Shared→Prop} {s:Shared} {K:Frag}
end
end Att
namespace L2
open PySem PySem.Spec PyProof.Rows
theorem lM:∀ {vs:List Value} {ns:List Int},IntsAre vs ns→Vals (ns.map V.int) vs
 | _,_,.nil=>.nil
 | _,_,.cons n t h=>.cons ⟨t,rfl⟩ (lM h)
def Only (H:Hp):Prop:=∀ b,H b=none∨∃ o xs,H b=some (.yA o (.lst xs))
theorem Ce {P:Program} {w:World} {K:fm} {mg mb:Str→Option Value} {CX:By} {k:Nat} {fa a:Addr} {fd:cx} {x:Str} {sp:Sp} {s₁:Shared} {vs:List Value} {ns:List Int}
  (KX:K.In s₁.heap) (hns:s₁.heap.Ns ci mg) (hb:s₁.heap.Ns builtinsNs mb) (hbb:∀ x:Str,x ≠ "__name__" → mb x=bootBuiltins x) (hlim:s₁.heap.NoLimit) (hg:s₁.gens=#[])
  (ha:s₁.heap.get? a=some { cls:=.type "list",data:=.seq vs.toArray }) (hi:IntsAre vs ns) (hl:ns.length ≤ de) (hr:fh k callerA)
  (F:∀ base:Heap,K.In base→base.Ns ci mg→aR P w K mg base CX k fa fd [x] sp) (hbind:∀ (s:Shared) (u:Value),BindsTo s fd ⟨[u],[]⟩ [(x,u)])
  (hsp:∀ H:Hp,Only H→bj K H a (ns.map V.int)→sp [.ref a] H (fun v _=>v=.bl true) fun _ _ _=>False)
  (RW:∀ H e s',CX [] H s₁ (fun _ _ _=>False) e s'→False) :
  codeAny (model P w) callerA (.call (.ref fa) ⟨[.ref a],[]⟩) (fun r s'=>r=.ok (.ret (.bool true))∧OldK s₁.heap s'.heap∧s'.os=s₁.os∧AllBare s'.gens) s₁:=by
 have rv:=lM hi
 have lenV:=hi.length
 have core:∀ H:Hp,Only H→bj K H a (ns.map V.int)→jY P w H s₁.heap→(∀ b,H b ≠ none→b=a)→(H a ≠ none→K.lookup a=none) →
   codeAny (model P w) callerA (.call (.ref fa) ⟨[.ref a],[]⟩) (fun r s'=>r=.ok (.ret (.bool true))∧OldK s₁.heap s'.heap∧s'.os=s₁.os∧AllBare s'.gens) s₁:=by
  intro H hO hS hok hA hK
  have yM:∀ {b:Addr} {o:Obj},s₁.heap.get? b=some o→H b=none→(rY s₁.heap H).get? b=some o:=fun e n=>BE e n
  have MP:∀ {b:Addr} {o:Obj} {es:Array DictEntry} {ep:Nat},s₁.heap.get? b=some o→o.data=.dict es ep→H b=none:=fun {b o es ep} e d=>by
   cases q:H b with
   | none=>rfl
   | some u =>
    have e':b=a:=hA b (by rw [q]; simp)
    subst e'
    rw [ha] at e; cases e
    have d':Data.seq vs.toArray _=Data.dict es ep:=d
    cases d'
  have Q0:∀ {b:Addr} {m:Str→Option Value},s₁.heap.Ns b m→(rY s₁.heap H).Ns b m:=fun {b m} ⟨o,es,ep,e,d,r⟩=>⟨o,es,ep,yM e (MP e d),d,r⟩
  have hKb:K.In (rY s₁.heap H):=fun b o e=>yM (KX b o e) (by
   cases q:H b with
   | none=>rfl
   | some u =>
    have e':b=a:=hA b (by rw [q]; simp)
    subst e'
    rw [hK (by rw [q]; simp)] at e; cases e)
  have hM:Mod K mg (rY s₁.heap H):=⟨hKb,Q0 hns,⟨mb,Q0 hb,hbb⟩,let ⟨mc,h1,h2⟩:=hlim; ⟨mc,Q0 h1,h2⟩⟩
  have e0:wu P w K mg (rY s₁.heap H) callerA [] s₁ H:=⟨rfl,hM,fun b o e=>EY e,Nat.le_of_eq (zP _ _),trivial,fun b hb=>absurd (show b ∈ ([]:List Addr) from hb) (by simp),hok,.of_eq hg⟩
  refine codeAny_mono ((F _ hKb (Q0 hns)).run callerA [] s₁ H ⟨[.ref a],[]⟩ [.ref a] [.ref a] _ _ hr e0 (hbind s₁ (.ref a)) (.cons rfl .nil) (hsp H hO hS)) fun r s' h=>?_
  cases r with
  | error e=>exact (RW H e s' h).elim
  | ok fl =>
   cases fl with
   | next=>exact False.elim h
   | brk=>exact False.elim h
   | cont=>exact False.elim h
   | ret u =>
    obtain ⟨v,H',os,bare,un,hok',r',q⟩:=h
    have q':v=.bl true:=q
    subst q'
    obtain rfl:u=Value.bool true:=r'
    refine ⟨rfl,OldK.of_keep fun b o e=>?_,os,bare⟩
    cases q:H b with
    | none=>exact un.keep b o e q (by intro z; exact absurd (show b ∈ ([]:List Addr) from z) (by simp)) (by simp)
    | some u =>
     rcases hO b with z | ⟨ob,xs,z⟩
     ·rw [q] at z; cases z
     ·have z2:=un.rX b ob _ z
      obtain ⟨e1,_⟩:=hok b _ z
      obtain ⟨e2,_⟩:=hok' b _ z2
      rw [e] at e1; cases e1
      exact e2
 cases hk:K.lookup a with
 | some o =>
  have e:=KX a o hk
  rw [ha] at e
  cases e
  refine core (fun _=>none) (fun _=>.inl rfl) (.inr ⟨_,vs.toArray,_,hk,rfl,rfl,rfl,by rw [ag,lenV]; exact hl,by simpa using rv⟩) (fun b u z=>by have z':(none:Option HO)=some u:=z; cases z') (fun b z=>absurd rfl z) fun z=>absurd rfl z
 | none =>
  refine core (fun b=>if b=a then some (.yA { cls:=.type "list",data:=.seq vs.toArray } (.lst (ns.map V.int))) else none) (fun b=>?_) (.inl (.inr ⟨{ cls:=.type "list",data:=.seq vs.toArray },if_pos rfl⟩)) (fun b u z=>?_) (fun b z=>?_) fun _=>hk
  ·by_cases hb:b=a
   ·exact .inr ⟨_,_,if_pos hb⟩
   ·exact .inl (if_neg hb)
  ·by_cases hb:b=a
   ·have z':=(if_pos hb).symm.trans z
    cases z'
    subst hb
    exact ⟨ha,by rw [List.length_map]; exact hl,vs,_,rv,ha⟩
   ·have z':=(if_neg hb).symm.trans z
    cases z'
  ·by_cases hb:b=a
   ·exact hb
   ·exact absurd (if_neg hb) z
theorem yN {l:PySem.W.OpenLaw} {n k:Nat} {q:Program} {loose:List Str} {XP:(Str→Option Value)→Heap→Prop} {YP:World→Heap→Prop} {d:DefRec} {K:Params→fm} {CX:World→By} {sp:World→Sp} {x:Str}
  (hn:l.most=some n) (hn2:n ≤ de) (hdf:d.params.defaults=[]) (hr:fh k callerA)
  (hY:∀ (w:World) (h:Heap),YP w h→(K w.params).In h)
  (F:∀ (w:World) (mg:Str→Option Value) (fa:Addr) (h:Heap),(K w.params).In h→h.Ns ci mg→mg d.name=some (.ref fa) →
   ∃ fd:cx,(∀ (s:Shared) (u:Value),BindsTo s fd ⟨[u],[]⟩ [(x,u)]) ∧
    ∀ base:Heap,(K w.params).In base→base.Ns ci mg→aR l.prog w (K w.params) mg base (CX w) k fa fd [x] (sp w))
  (hsp:∀ (w:World) (H:Hp) (a:Addr) (ns:List Int),ns.length ≤ n→Only H→bj (K w.params) H a (ns.map V.int)→sp w [.ref a] H (fun v _=>v=.bl true) fun _ _ _=>False)
  (RW:∀ (w:World) (H:Hp) (s:Shared) (e:Value) (s':Shared),CX w [] H s (fun _ _ _=>False) e s'→False) :
  PySem.W.WalkO q loose XP YP l.row.toRowW d [] (fun f vs=>PySem.call f vs):=by
 refine Att.vf hn hdf fun w s₀ s₁ mg mb fa o pm cd doc a vs ns G Y ho hd hcd hmg hobj hints hlen hg=>?_
 have KX:=hY w _ Y
 obtain ⟨fd,hb,hF⟩:=F w mg fa _ KX G.T.g hmg
 exact Ce KX G.T.g G.T.b G.T.builtins G.T.nolimit hg hobj hints (io hlen hn2) hr hF hb (fun H hO hS=>hsp w H a ns hlen hO hS) fun H e s'=>RW w H s₁ e s'
end L2
/- THE LAST THEOREM (shape; LID,My.* are yours):
   My.Adr: a structure of the addresses that your layer names (classes,functions); My.Txt K t: a structure (Prop) of the equations over K;
   My.J6:{K} {implicit addresses ..} (e1:nsIn K ci "law" = some (some (.ref f))) (e2:K.lookup f=some ⟨oc,od,.func (fnOf "law" "law" params body scope dV kV doc pm an cdv ct),sl⟩) (e3:codeIn K cdv "law" = true) ..:∃ t,My.Txt K t
set_option maxRecDepth 100000 in
set_option maxHeartbeats 0 in
theorem PySem.Challenge.cw_LID_holds : PySem.Challenge.rw_LID.Holds := by
 w_on; o_law; k_head; (case hw=>w_witness2)
 k_fill
 refine L2.yN (l:=PySem.Challenge.rw_LID) (n:=63) (k:=40) (x := "script") (CX:=fun w=>..) (sp:=fun _=>My.sp_law) rfl (by decide) rfl ⟨rfl,by decide,by decide⟩ (fun w h Y=>PySem.W.kIn_of Y) ?F ?S ?C
 case F =>
  intro w mg fa h KX G hmg
  have T:∃ t,My.Txt (L2.KOf KX) t:=by
   dsimp only [L2.KOf]
   refine' My.J6 ?e1 ?e2 ?e3 ..
   (case e1=>PySem.W.k_is)
   (case e2=>PySem.W.k_is)
   ..
  obtain ⟨t,T⟩:=T
  have e0:=hmg.symm.trans (PySem.W.mg_of KX G T.law)
  cases e0
  exact ⟨_,fun s u=>.of_eq rfl,fun base kb nb=>My.law_fn T kb nb⟩
 case S=>exact fun w H a ns hl hO hS=>..
 case C=>exact ..
(the tactic k_is has no namespace: write k_is) -/
namespace L2
open PySem PySem.Spec PyProof.Rows
def inClass (s:Stmt) (j:Nat):Stmt:=match s with
 | .ClassDef _ _ _ body _ _ _ _ _ _ _=>body.getD j (.Pass ⟨0,0,0,0⟩)
 | _=>.Pass ⟨0,0,0,0⟩
def aI (s:Stmt):Arguments:=match s with
 | .FunctionDef _ a _ _ _ _ _ _ _ _=>a
 | _=>{ posonlyargs:=[],args:=[],vararg:=none,kwonlyargs:=[],kw_defaults:=[],kwarg:=none,defaults:=[] }
def aH (s:Stmt):List Stmt:=match s with
 | .FunctionDef _ _ b _ _ _ _ _ _ _=>b
 | _=>[]
def ak (s:Stmt):Scope:=match s with
 | .FunctionDef _ _ _ _ _ _ sc _ _ _=>sc
 | _=>{ kind:=.function,names:=[],isGenerator:=false,isCoroutine:=false }
abbrev bV:By:=fun _ _ _ _ _ _=>False
abbrev E0:XK:=fun _ _ _=>False
theorem bp {X:Cx}:Passes bV X E0:=fun _ _ _ _ _ _ _ h=>h.elim
structure dO (K:fm) (x qual:Str) (st:Stmt) (f:Addr) (fd:cx):Prop where
 ex:∃ (oc:Value) (od:Option Addr) (kV doc pm:Value) (an:Option Addr) (cdv ct:Value) (osl:Array (Option Value)),
  fd=PySem.W.fnOf x qual (aI st) (aH st) (ak st) .none kV doc pm an cdv ct∧K.lookup f=some ⟨oc,od,.func fd,osl⟩∧PySem.W.codeIn K cdv qual=true
 kp:fo K (.ref f)=true
section
variable {P:Program} {w:World} {K:fm} {mg:Str→Option Value} {base:Heap}
theorem dO.ok {x qual:Str} {st:Stmt} {f:Addr} {fd:cx} {N ps:List Str} {k:Nat} {sp:Sp} (F:dO K x qual st f fd) (S:aJ N ps (ak st)) (len:∀ vs H Q E,sp vs H Q E→vs.length=ps.length)
  (hbody:∀ (cdv:Value) (A:Around) (outer:List Env) (s:Shared) (H:Hp) (vs:List V) (Q:VK) (E:XK),fh k (A.deeper (envOfC qual (ak st) s.heap.objs.size f cdv))→sp vs H Q E →
   ∃ t,rZ (zX bV P w K mg base N qual (ak st) f cdv A outer s H E).QV (aH st) t∧t { nx:=fun _ H'=>Q .non H',rt:=Q } (start N vs) H):aR P w K mg base bV (k + 1) f fd ps sp:=by
 obtain ⟨oc,od,kV,doc,pm,an,cdv,ct,osl,rfl,lk,hcd⟩:=F.ex
 refine MQ lk hcd S len fun A outer s H vs Q E hr hsp=>?_
 obtain ⟨t,h,q⟩:=hbody cdv A outer s H vs Q E hr hsp
 exact ⟨t,h.QV,q⟩
theorem dO.binds {x qual:Str} {st:Stmt} {f:Addr} {fd:cx} {ps:List Str} (F:dO K x qual st f fd)
  (h:∀ (kV doc pm:Value) (an:Option Addr) (cdv ct:Value) (us:List Value),us.length=ps.length→bindArgs (PySem.W.fnOf x qual (aI st) (aH st) (ak st) .none kV doc pm an cdv ct) ⟨us,[]⟩=pure (ps.zip us)):Binds K fd ps []:=by
 obtain ⟨oc,od,kV,doc,pm,an,cdv,ct,osl,rfl,lk,hcd⟩:=F.ex
 exact .all (h kV doc pm an cdv ct)
theorem aT {x qual:Str} {st:Stmt} {f:Addr} {oc:Value} {od an:Option Addr} {osl:Array (Option Value)} {kV doc pm cdv ct:Value} (l:K.lookup f=some ⟨oc,od,.func (PySem.W.fnOf x qual (aI st) (aH st) (ak st) .none kV doc pm an cdv ct),osl⟩)
  (c:PySem.W.codeIn K cdv qual=true) (k:fo K (.ref f)=true):dO K x qual st f (PySem.W.fnOf x qual (aI st) (aH st) (ak st) .none kV doc pm an cdv ct):=⟨⟨oc,od,kV,doc,pm,an,cdv,ct,osl,rfl,l,c⟩,k⟩
end
theorem cI {A:Around} {k:Nat} (hr:fh k A):A.units + 1 < cLine:=Nat.lt_of_le_of_lt (Nat.add_le_add_left (by decide:1 ≤ 64) _) hr.units
theorem cM {n:Nat} (h:n ≤ 1000):n < de:=Nat.lt_of_le_of_lt h (by decide)
section
variable {X:Cx}
theorem pv (i:Nat) {x:Str} {pos:Pos} (hN:X.N[i]? = some x:=by rfl) (hv:Ru X.env.scope x:=by first | exact Or.inl rfl | exact Or.inr (Or.inl rfl) | exact Or.inr (Or.inr rfl)) (hd:(x == ("__debug__" : Str))=false:=by decide)
  (hcd:(x == ("__classdict__" : Str))=false:=by decide):PE X (.Name x pos) (zQ i):=JF hN hv hd hcd
end
theorem iz {A B:Prop} (h:B):if false=true then A else B:=by
 rw [if_neg ir]
 exact h
theorem Cg {A B:Prop} (h:A):if true=true then A else B:=by
 rw [if_pos rfl]
 exact h
theorem dy {c A B:Prop} [Decidable c] (h1:c→A) (h2:¬ c→B):if c then A else B:=by
 by_cases h:c
 ·rw [if_pos h]
  exact h1 h
 ·rw [if_neg h]
  exact h2 h
def Same (H H':Hp):Prop:=∀ b o,H b=some o→H' b=some o
theorem Same.refl (H:Hp):Same H H:=fun _ _ h=>h
theorem Same.trans {H H1 H2:Hp} (a:Same H H1) (b:Same H1 H2):Same H H2:=fun c o h=>b c o (a c o h)
theorem Same.free {H H':Hp} (e:Same H H') {l:Addr} (h:H' l=Option.none):H l=Option.none:=by
 cases q:H l with
 | none=>rfl
 | some o =>
  rw [e l o q] at h
  cases h
theorem Same.seq {K:fm} {H H':Hp} {a:Addr} {xs:List V} (e:Same H H') (h:bj K H a xs):bj K H' a xs:=by
 rcases h with (h | ⟨o,h⟩) | h
 ·exact .inl (.inl (e _ _ h))
 ·exact .inl (.inr ⟨o,e _ _ h⟩)
 ·exact .inr h
section
variable {X:Cx}
end
section
variable {κ:Type} [DecidableEq κ]
theorem Ci {kvs:List (κ × V)} {k:κ} (h:cy kvs k=none):¬ k ∈ kvs.map (·.1):=by
 intro m
 obtain ⟨p,hp,e⟩:=List.mem_map.mp m
 have q:(kvs.any fun kv=>decide (kv.1=k))=true:=List.any_eq_true.mpr ⟨p,hp,decide_eq_true e⟩
 rw [dR,h] at q
 exact absurd q (by simp)
end
end L2
set_option maxHeartbeats 4000000
namespace L2
open PySem PySem.Spec PyProof.Rows
def eP (env:Env) (cs:List (Str × Addr)) (nk:Str × NameKind):List (Str × Addr) :=
 if nk.2 == .free then (nk.1,(env.cells.lookup nk.1).getD 0) :: cs else cs
def vg (scope:Scope) (env:Env):List (Str × Addr):=scope.names.foldl (eP env) []
theorem Fo {scope:Scope} {env:Env} (h:∀ y ∈ scope.names,y.2=.free→∃ c,env.cells.lookup y.1=some c):closureFor scope env=pure (vg scope env):=by
 have all:∀ (l:List (Str × NameKind)) (cs:List (Str × Addr)),(∀ y ∈ l,y.2=.free→∃ c,env.cells.lookup y.1=some c) →
   (forIn l cs (fun x r=>if (x.2 == NameKind.free)=true then do let a ← cellOf env x.1; pure (ForInStep.yield ((x.1,a) :: r)) else pure (ForInStep.yield r)):Sem (List (Str × Addr)))=pure (l.foldl (eP env) cs):=by
  intro l
  induction l with
  | nil=>intro cs _; rfl
  | cons y r ih =>
   intro cs hy
   obtain ⟨n,k⟩:=y
   rw [List.forIn_cons,List.foldl_cons]
   by_cases hk:(k == NameKind.free)=true
   ·obtain ⟨c,hc⟩:=hy (n,k) List.mem_cons_self (by simpa using hk)
    have e1:cellOf env n=pure c:=by unfold cellOf; rw [hc]
    have e2:eP env cs (n,k)=(n,c) :: cs:=by unfold eP; rw [if_pos hk,hc]; rfl
    rw [e2,← ih _ fun z hz=>hy z (List.mem_cons_of_mem _ hz)]
    dsimp only
    rw [if_pos hk,e1]
    rfl
   ·have e2:eP env cs (n,k)=cs:=by unfold eP; rw [if_neg hk]
    rw [e2,← ih _ fun z hz=>hy z (List.mem_cons_of_mem _ hz)]
    dsimp only
    rw [if_neg hk]
    rfl
 have e:=all scope.names [] h
 unfold closureFor vg
 rw [← e]
 simp only [bind_pure]
theorem vh {env:Env}:∀ {l:List (Str × NameKind)} {cs:List (Str × Addr)} {n:Str} {c:Addr},(∀ y ∈ l,y.2=.free→∃ c,env.cells.lookup y.1=some c)→(n,c) ∈ l.foldl (eP env) cs→(n,c) ∈ cs∨env.cells.lookup n=some c
 | [],cs,n,c,_,m=>.inl m
 | (y,k) :: r,cs,n,c,h,m=>by
  rcases vh (fun z hz=>h z (List.mem_cons_of_mem _ hz)) (show (n,c) ∈ r.foldl (eP env) (eP env cs (y,k)) from m) with q | q
  ·unfold eP at q
   by_cases hk:(k == NameKind.free)=true
   ·rw [if_pos hk] at q
    rcases List.mem_cons.mp q with q | q
    ·obtain ⟨d,hd⟩:=h (y,k) List.mem_cons_self (by simpa using hk)
     have hd:env.cells.lookup y=some d:=hd
     injection q with q1 q2
     subst q1
     rw [hd] at q2
     subst q2
     exact .inr hd
    ·exact .inl q
   ·rw [if_neg hk] at q
    exact .inl q
  ·exact .inr q
theorem oN {env:Env}:∀ {l:List (Str × NameKind)} {cs:List (Str × Addr)} {p:Str × Addr},p ∈ cs→p ∈ l.foldl (eP env) cs
 | [],_,_,m=>m
 | (y,k) :: r,cs,p,m=>by
  refine oN (l:=r) (cs:=eP env cs (y,k)) ?_
  unfold eP
  split
  ·exact List.mem_cons_of_mem _ m
  ·exact m
theorem vi {env:Env}:∀ {l:List (Str × NameKind)} {cs:List (Str × Addr)} {n:Str},(n,NameKind.free) ∈ l→∃ c,(n,c) ∈ l.foldl (eP env) cs
 | (y,k) :: r,cs,n,m=>by
  rcases List.mem_cons.mp m with q | q
  ·cases q
   exact ⟨(env.cells.lookup y).getD 0,oN (l:=r) (by simp [eP])⟩
  ·exact vi (l:=r) q
theorem oO {β:Type}:∀ {l:List (Str × β)} {n:Str} {c:β},(n,c) ∈ l→∃ d,l.lookup n=some d
 | (k,v) :: r,n,c,m=>by
  rw [List.lookup_cons]
  cases e:n == k with
  | true=>exact ⟨v,rfl⟩
  | false =>
   rcases List.mem_cons.mp m with q | q
   ·cases q
    simp at e
   ·exact oO q
theorem eC {env:Env} (hf:env.scope.kind=.function):∀ {names:List (Str × NameKind)} {x:Str},names.lookup x=some .free→env.kindOf x=some .cell →
  (names.map fun (n,k)=>if (k == NameKind.free && env.scope.kind == .function && env.kindOf n == some .cell) then (n,NameKind.cell) else (n,k)).lookup x=some .cell
 | [],_,h,_=>by simp at h
 | (n,k) :: r,x,h,hc=>by
  have ih:=@eC env hf r x
  show List.lookup x ((if (k == NameKind.free && env.scope.kind == .function && env.kindOf n == some .cell)=true then (n,NameKind.cell) else (n,k)) :: _)=_
  cases hx:x == n with
  | true =>
   have e:x=n:=by simpa using hx
   subst e
   simp only [List.lookup_cons,hx] at h
   cases h
   rw [if_pos (by rw [hf,hc]; rfl)]
   simp [List.lookup_cons]
  | false =>
   simp only [List.lookup_cons,hx] at h
   by_cases hc':(k == NameKind.free && env.scope.kind == .function && env.kindOf n == some .cell)=true
   ·rw [if_pos hc']; simp only [List.lookup_cons,hx]; exact ih h hc
   ·rw [if_neg hc']; simp only [List.lookup_cons,hx]; exact ih h hc
def mZ (sc scope:Scope) (N:List Str):List Str→List (Option Nat)→Bool
 | [],[]=>true
 | _ :: r,none :: f=>mZ sc scope N r f
 | y :: r,some i :: f=>(N[i]? == some y) && (scope.names.lookup y == some .free) && (sc.names.lookup y == some .cell) && mZ sc scope N r f
 | _,_=>false
structure dS (sc scope:Scope) (N N':List Str) (fr:List (Option Nat)):Prop where
 kind:scope.kind=.function
 Cj:∀ y ∈ scope.names,y.2 ≠ .cell
 names:∀ y ∈ scope.names,y.2=.local→scope.names.lookup y.1=some .local
 free:∀ y ∈ scope.names,y.2=.free→sc.names.lookup y.1=some .cell
 nd:N'.Nodup
 fr:mZ sc scope N N' fr=true
def Ac (fr:List (Option Nat)) (σ:St):St:=fr.map fun o=>o.bind fun i=>(σ[i]?).join
theorem oP {sc scope:Scope} {N:List Str}:∀ {N':List Str} {fr:List (Option Nat)},mZ sc scope N N' fr=true→fr.length=N'.length
 | [],[],_=>rfl
 | _ :: r,none :: f,h=>by simp only [bo]; rw [oP (N':=r) (fr:=f) h]
 | y :: r,some i :: f,h=>by
  unfold mZ at h
  simp only [Bool.and_eq_true] at h
  simp only [bo]; rw [oP (N':=r) (fr:=f) h.2]
 | [],_ :: _,h=>by simp [mZ] at h
 | _ :: _,[],h=>by simp [mZ] at h
theorem su {sc scope:Scope} {N:List Str}:∀ {N':List Str} {fr:List (Option Nat)} {j i:Nat} {y:Str},mZ sc scope N N' fr=true→N'[j]? = some y→fr[j]? = some (some i)→N[i]? = some y∧scope.names.lookup y=some .free∧sc.names.lookup y=some .cell
 | [],[],_,_,_,_,h,_=>by simp at h
 | _ :: r,none :: f,0,i,y,_,_,h=>by simp at h
 | _ :: r,none :: f,j + 1,i,y,h,h1,h2=>su (N':=r) (fr:=f) (j:=j) h (by simpa using h1) (by simpa using h2)
 | z :: r,some k :: f,0,i,y,h,h1,h2=>by
  unfold mZ at h
  simp only [Bool.and_eq_true,beq_iff_eq] at h
  have e1:z=y:=by simpa using h1
  have e2:k=i:=by simpa using h2
  subst e1 e2
  exact ⟨h.1.1.1,h.1.1.2,h.1.2⟩
 | z :: r,some k :: f,j + 1,i,y,h,h1,h2=>by
  unfold mZ at h
  simp only [Bool.and_eq_true] at h
  exact su (N':=r) (fr:=f) (j:=j) h.2 (by simpa using h1) (by simpa using h2)
 | [],_ :: _,_,_,_,h,_,_=>by simp [mZ] at h
 | _ :: _,[],_,_,_,h,_,_=>by simp [mZ] at h
def fj (X:Cx) (scope:Scope) (C:Addr) (N':List Str) (s₀:Shared) (H₀:Hp) (fp:List Addr):Cx where
 prog:=X.prog
 w:=X.w
 K:=X.K
 mg:=X.mg
 base:=X.base
 A:=X.A
 N:=N'
 s₀:=s₀
 H₀:=H₀
 env:=compEnvC scope (vg scope X.env) C X.env
 outer:=X.stack
 stack:=X.stack
 ex:=fp
 calm:=true
 fn:=fun _=>false
 pn:=[]
 xe:=fun _ _=>False
section
variable {X:Cx} {scope:Scope} {N':List Str} {fr:List (Option Nat)} {pins:List (Addr × Obj)} {σ:St} {H:Hp} {s:Shared} {fp:List Addr}
theorem Inv.block {h1:Heap} {t1:Nat} {m:Str→Option Value} (S:dS X.env.scope scope X.N N' fr) (hc:X.calm=true) (I:Inv X pins σ H s) (hf:∀ b ∈ fp,ox X pins H b) (hlt:∀ b ∈ fp,b < s.heap.objs.size)
  (hns:h1.Ns s.heap.objs.size m) (old:∀ b o,s.heap.get? b=some o→h1.get? b=some o) :
  Inv (fj X scope s.heap.objs.size N' s H fp) [] (Ac fr σ) H { s with heap:=h1,toks:=t1 }:=by
 have hfree:∀ y ∈ scope.names,y.2=.free→∃ c,X.env.cells.lookup y.1=some c:=fun y hy e=>I.ok.has y.1 (.inl (S.free y hy e))
 have cl1:∀ y c,(vg scope X.env).lookup y=some c→X.env.cells.lookup y=some c:=fun y c e=>by
  rcases vh (cs:=[]) hfree (PySem.mem_of_lookup e) with q | q
  ·exact absurd q (by simp)
  ·exact q
 have has:∀ y,((relabel scope X.env).names.lookup y=some .cell∨(relabel scope X.env).names.lookup y=some .free)→∃ c,(vg scope X.env).lookup y=some c:=fun y hy=>by
  have q:(y,NameKind.free) ∈ scope.names:=by
   have m:∃ k,(k=NameKind.cell∨k=NameKind.free)∧(y,k) ∈ (relabel scope X.env).names:=by
    rcases hy with hy | hy
    ·exact ⟨_,.inl rfl,PySem.mem_of_lookup hy⟩
    ·exact ⟨_,.inr rfl,PySem.mem_of_lookup hy⟩
   obtain ⟨k,hk,m⟩:=m
   obtain ⟨⟨n,k0⟩,hm,e⟩:=List.mem_map.mp m
   dsimp only at e
   by_cases hq:(k0 == NameKind.free && X.env.scope.kind == .function && X.env.kindOf n == some .cell)=true
   ·rw [if_pos hq] at e
    simp only [Bool.and_eq_true,beq_iff_eq] at hq
    injection e with e1 e2
    rw [← e1,← hq.1.1]
    exact hm
   ·rw [if_neg hq] at e
    injection e with e1 e2
    subst e1 e2
    rcases hk with hk | hk
    ·exact absurd hk (S.Cj _ hm)
    ·rw [← hk]; exact hm
  obtain ⟨c,mc⟩:=vi (env:=X.env) (cs:=[]) q
  exact oO mc
 have ltC:∀ y c,X.env.cells.lookup y=some c→c < s.heap.objs.size:=fun y c e=>by
  obtain ⟨v,q⟩:=I.cell y c e
  exact q.lt
 refine ⟨⟨I.ok.mod,S.kind,I.ok.glob,I.ok.blt,ii _,fun x y c e1 e2=>I.ok.inj x y c (cl1 x c e1) (cl1 y c e2),has,fun x c e _=>absurd e (by simp [fj]),fun _=>I.ok.hd hc,I.ok.frames,.inl rfl,
   fun b hb=>⟨ij (hlt b hb),fun x c e=>(hf b hb).2.2.2.2.1 x c (cl1 x c e)⟩,I.bs,io I.ok.EZ I.sz,fun b o e hb=>?_,fun b hb z=>?_,I.stack,I.yB⟩,
  rfl,I.bare,Un.kept old,⟨m,hns,fun i x v e1 e2 e3=>?_⟩,fun x c e=>?_,I.fresh,fun x c e=>I.jO x c (cl1 x c e),fun p hp=>absurd hp (by simp [fj]),I.hok.kept old,?_⟩
 ·rcases (hf b hb).2.2.2.1 with z | z
  ·exact I.ok.BF b o e z
  ·exact absurd (Nat.lt_of_lt_of_le (et e) (io I.ok.EZ z)) (Nat.lt_irrefl _)
 ·rcases List.mem_cons.mp (I.v5 b z) with q | q
  ·exact (hf b hb).2.1 q
  ·exact (hf b hb).2.2.1 q
 ·
  have e2:(Ac fr σ)[i]? = some (some v):=e2
  unfold Ac at e2
  rw [ab] at e2
  cases q:fr[i]? with
  | none=>rw [q] at e2; cases e2
  | some o =>
   rw [q] at e2
   cases o with
   | none=>cases e2
   | some j =>
    have e2:(σ[j]?).join=some v:=Option.some.inj e2
    have e4:σ[j]? = some (some v):=by
     cases r:σ[j]? with
     | none=>rw [r] at e2; cases e2
     | some w=>rw [r] at e2; exact congrArg some e2
    obtain ⟨f1,f2,f3⟩:=su S.fr e1 q
    obtain ⟨m0,_,hl⟩:=I.loc
    obtain ⟨u,r,l⟩:=hl j x v f1 e4 (.inr (.inl f3))
    refine ⟨u,r,.inr ⟨.inl (eC I.ok.kind f2 f3),?_⟩⟩
    obtain ⟨c,hc⟩:=has x (.inl (eC I.ok.kind f2 f3))
    rcases l with ⟨k,_⟩ | ⟨_,c',hc',ho⟩
    ·have k:X.env.scope.names.lookup x=some .local:=k
     rw [f3] at k; cases k
    ·have e:c=c':=Option.some.inj ((cl1 x c hc).symm.trans hc')
     subst e
     obtain ⟨o,ho,hd⟩:=ho
     exact ⟨c,hc,o,old c o ho,hd⟩
 ·obtain ⟨v,o,ho,hd⟩:=I.cell x c (cl1 x c e)
  exact ⟨v,o,old c o ho,hd⟩
 ·show (Ac fr σ).length=N'.length
  unfold Ac
  rw [List.length_map]
  exact oP S.fr
end
def LW (X:Cx) (ifs:List Expr) (t:TT):Prop :=
 ∀ (pins:List (Addr × Obj)) (s:Shared) (σ:St) (H:Hp) (Q:Bool→Hp→Prop),Inv X pins σ H s→t σ H Q →
  wpAny (model X.prog X.w) X.A (forIn ifs true fun c r=>if r=true then do let ok ← isTrue c X.env (eval c X.env); pure (ForInStep.yield ok) else pure (ForInStep.yield r)) (TP X pins σ Q) X.xe s
def RX:TT:=fun _ H Q=>Q true H
theorem iT {X:Cx}:LW X [] RX:=fun _ _ _ H _ I q=>wpAny_tests_nil ⟨H,I,q⟩
theorem jo {X:Cx} {c:Expr} {t:TT} (h:PT X c t):LW X [c] t:=fun pins s σ H Q I q=>wpAny_tests_one (h pins s σ H Q I q)
theorem sv {prog:Program} {w:World} {A:Around} {R:Result→Shared→Prop} {s:Shared} {elt target iter:Expr} {ifs:List Expr} {scope:Scope} {pos:Pos} {it acc:Value} {env:Env} (I:Nat→Shared→Prop)
  (turn:∀ n s,I n s→wpAny (model prog w) A (pyNext it) (fun r s₁=>match r with
   | none=>R (.ok .next) s₁
   | some v=>wpAny (model prog w) A (letOwnedTupleGo target it v) (fun _ s₀=>wpAny (model prog w) A (assign target env v) (fun _ s₂ =>
     wpAny (model prog w) A (forIn ifs true fun c r=>if r=true then do let ok ← isTrue c env (eval c env); pure (ForInStep.yield ok) else pure (ForInStep.yield r)) (fun ok s₃ =>
      if ok=true then wpAny (model prog w) A (eval elt env) (fun x s₄ =>
       wpAny (model prog w) A (call (.builtin "list.append") [acc,x]) (fun _ s₅=>∃ m,m < n∧I m s₅) (fun _ _=>False) s₄) (fun _ _=>False) s₃
      else ∃ m,m < n∧I m s₃) (fun _ _=>False) s₂) (fun _ _=>False) s₀) (fun _ _=>False) s₁) (fun _ _=>False) s)
  (n:Nat) (h:I n s) :
  codeAny (model prog w) A (.compLoop (.ListComp elt [⟨target,iter,ifs,0⟩] scope pos) 0 it acc env) R s:=by
 refine codeAny_loop rfl I (fun n s hI=>?_) n h
 show wpAny _ A ((compTurn (.ListComp elt [⟨target,iter,ifs,0⟩] scope pos) 0 it acc env).onRaise (fun x=>do noteFrame x env; theTreesLotGoes x)) _ _ s
 refine wpAny_noted ?_
 rw [compTurn_list]
 refine cb (wpAny_standAt (cb (dL (turn n s hI) (fun r s₁ h₁=>?_) fun _ _ h'=>h'.elim)))
 cases r with
 | none=>exact ce h₁
 | some v =>
  refine cb (dL h₁ (fun _ s₀ h₀=>?_) fun _ _ h'=>h'.elim)
  refine cb (dL h₀ (fun _ s₂ h₂=>cb (dL h₂ (fun ok s₃ h₃=>?_) fun _ _ h'=>h'.elim)) fun _ _ h'=>h'.elim)
  cases ok with
  | false=>exact ce ⟨rfl,h₃⟩
  | true =>
   exact cb (cb (dL h₃ (fun x s₄ h₄=>cb (dL h₄ (fun _ s₅ h₅=>ce (ce ⟨rfl,h₅⟩)) fun _ _ h'=>h'.elim)) fun _ _ h'=>h'.elim))
def Ck (fr:List (Option Nat)) (wi:TI) (g:TG) (tt:TT) (te:TE):TE:=fun σ H Q=>wi σ H fun J H1=>∀ D,H1 D=none →
 ∃ W:Nat→Nat→St→List V→Hp→Prop,(∃ m,W 0 m (Ac fr σ) [] (upd H1 D (.lst [])))∧∀ i m σ ys H,W i m σ ys H →
  (J.stop i H∧Q (.ref D) H)∨(J.go i H∧∃ N:St→List V→Hp→Prop,(∀ σ' ys' H',N σ' ys' H'→∃ m',m' < m∧W (i + 1) m' σ' ys' H')∧∀ x H',J.BM i H x H'→g x σ H' fun σ2 H2=>tt σ2 H2 fun b H3 =>
   if b=true then te σ2 H3 fun v H4=>H4 D=some (.lst ys)∧ys.length < de∧N σ2 (ys ++ [v]) (upd H4 D (.lst (ys ++ [v])))
   else N σ2 ys H3)
theorem vj {X:Cx} {elt tg iter:Expr} {ifs:List Expr} {scope:Scope} {pos cpos:Pos} {wi:TI} {g:TG} {tt:TT} {te:TE} {N':List Str} {fr:List (Option Nat)} (S:dS X.env.scope scope X.N N' fr) (hc:X.calm=true) (hi:PI X tg iter wi)
  (hg:∀ C s0 H0 fp,PG (fj X scope C N' s0 H0 fp) tg g) (ht:∀ C s0 H0 fp,LW (fj X scope C N' s0 H0 fp) ifs tt) (he:∀ C s0 H0 fp,PE (fj X scope C N' s0 H0 fp) elt te)
  (hs:∀ x,foldedSetIterable iter X.env x=pure x) {pins:List (Addr × Obj)} {s:Shared} {σ:St} {H:Hp} {Q:VK} (I:Inv X pins σ H s) (h:Ck fr wi g tt te σ H Q) (use:Option (Value→Sem Unit)) (QQ:Value→Shared→Prop)
  (fin:∀ (D C:Addr) (H5:Hp) (s6:Shared),Inv X pins σ H5 s6→Q (.ref D) H5→H5 C=none→C ≠ X.env.locals→X.s₀.heap.objs.size ≤ C→(∀ x c,X.env.cells.lookup x=some c→c ≠ C)→(∀ p ∈ X.pn ++ pins,p.1 ≠ C)→(∃ m,s6.heap.Ns C m) →
   compPost (model X.prog X.w) X.A X.xe use QQ (.ref D) C (.ok .next) s6) :
  wpAny (model X.prog X.w) X.A (comprehension (.ListComp elt [⟨tg,iter,ifs,0⟩] scope pos) scope X.env cpos (newList []) false (eval iter X.env) use) QQ X.xe s:=by
 have hfree:∀ y ∈ scope.names,y.2=.free→∃ c,X.env.cells.lookup y.1=some c:=fun y hy e=>I.ok.has y.1 (.inl (S.free y hy e))
 refine wpAny_comprehension_free (use:=use) rfl hs (Fo hfree) S.kind S.names (cL (hi pins s σ H _ I h) fun v s1 h1=>cL h1 fun itv s2 h2=>?_)
 obtain ⟨it,fp,tn,J,H2,e,I2,T,st2,f2,hD⟩:=h2
 subst e
 obtain ⟨W,⟨m0,w0⟩,turn⟩:=hD s2.heap.objs.size I2.fresh
 refine wpAny_newObj_type ?_
 have I3:Inv X pins σ (upd H2 s2.heap.objs.size (.lst [])) { s2 with heap:=s2.heap.push { cls:=.type "list",data:=.seq ([]:List Value).toArray },toks:=s2.toks }:=I2.MU (ys:=[]) .nil (Nat.zero_le _)
 revert I3
 generalize eD:s2.heap.objs.size=D at *
 generalize e3:({ s2 with heap:=s2.heap.push { cls:=.type "list",data:=.seq ([]:List Value).toArray },toks:=s2.toks }:Shared)=s3
 intro I3
 have k3:∀ b o,s2.heap.get? b=some o→s3.heap.get? b=some o:=fun b o e=>by rw [← e3]; exact el _ e
 refine wpAny_newFunctionEnv S.Cj (by intro y hy; simp at hy) (fun h4 hns hsb=>?_) S.kind
 have old:∀ b o,s3.heap.get? b=some o→h4.get? b=some o:=fun b o e=>hsb.extBut b o (ij (et e)) (el _ e)
 have fD:∀ b ∈ fp,b ≠ D:=fun b hb z=>by
  obtain ⟨o,ho,_⟩:=T.obj _ _ st2 b hb
  exact absurd (et ho) (by rw [z,eD]; exact Nat.lt_irrefl _)
 have f3:∀ b ∈ fp,ox X pins (upd H2 D (.lst [])) b:=fun b hb=>⟨by rw [aL (fD b hb)]; exact (f2 b hb).1,(f2 b hb).2⟩
 have l3:∀ b ∈ fp,b < s3.heap.objs.size:=fun b hb=>by
  obtain ⟨o,ho,_⟩:=T.obj _ _ st2 b hb
  exact et (k3 b o ho)
 have I4:=Inv.block (t1:=s3.toks + ([]:List (Str × Value)).length) (scope:=scope) S hc I3 f3 l3 hns old
 generalize eX:fj X scope s3.heap.objs.size N' s3 (upd H2 D (.lst [])) fp=X' at I4
 have st4:tn 0 h4:=T.keep _ _ _ st2 fun b hb o e=>old b o (k3 b o e)
 have stat:∀ {H':Hp},(∀ b ∈ fp,H' b=none)→∀ b ∈ fp,ox X' [] H' b:=fun {H'} hn b hb=>by
  subst eX
  refine ⟨hn b hb,ij (l3 b hb),?_,.inl hb,?_,fun p hp=>absurd hp (by simp [fj])⟩
  ·exact I4.ok.BG b hb
  ·exact (I4.ok.Rv b hb).2
 show codeAny _ _ (.compStart _ 0 (.ref it) (.ref D) (compEnvC scope (vg scope X.env) s3.heap.objs.size X.env)) (compPost _ _ _ use _ (.ref D) s3.heap.objs.size) _
 have hX:X'.prog=X.prog∧X'.w=X.w∧X'.K=X.K∧X'.A=X.A∧X'.calm=true∧X'.env=compEnvC scope (vg scope X.env) s3.heap.objs.size X.env∧X'.xe=(fun _ _=>False)∧X'.s₀=s3∧X'.H₀=upd H2 D (.lst [])∧X'.fs=frs X.stack∧X'.ex=fp:=by
  subst eX
  exact ⟨rfl,rfl,rfl,rfl,rfl,rfl,rfl,rfl,rfl,rfl,rfl⟩
 have hg':PG X' tg g:=by subst eX; exact hg _ _ _ _
 have ht':LW X' ifs tt:=by subst eX; exact ht _ _ _ _
 have he':PE X' elt te:=by subst eX; exact he _ _ _ _
 clear eX
 obtain ⟨x1,x2,x3,x4,x5,x6,x7,x8,x9,x10,x11⟩:=hX
 have loop:codeAny (model X.prog X.w) X.A (.compLoop (.ListComp elt [⟨tg,iter,ifs,0⟩] scope pos) 0 (.ref it) (.ref D) (compEnvC scope (vg scope X.env) s3.heap.objs.size X.env))
   (compPost (model X.prog X.w) X.A X.xe use QQ (.ref D) s3.heap.objs.size) { s3 with heap:=h4,toks:=s3.toks + ([]:List (Str × Value)).length }:=by
  refine sv (fun n s'=>∃ i σ' ys H',Inv X' [] σ' H' s'∧tn i s'.heap∧(∀ b ∈ fp,H' b=none)∧W i n σ' ys H') ?_ m0 ⟨0,_,[],_,I4,st4,fun b hb=>(f3 b hb).1,w0⟩
  rintro n s5 ⟨i,σ5,ys,H5,I5,LV,QX,w5⟩
  rcases turn i n σ5 ys H5 w5 with ⟨stop,qn⟩ | ⟨go,N,hN,step⟩
  ·have z:=T.done X' x1 x2 x3 x5 i [] s5 σ5 H5 (fun _ _=>False) I5 (stat QX) LV stop
   rw [x4] at z
   refine cL z fun r s6 ⟨hr,I6⟩=>?_
   subst hr
   obtain ⟨mm,hn6,_⟩:=I6.loc
   have hL:X'.env.locals=s3.heap.objs.size:=by rw [x6]; rfl
   rw [hL] at hn6
   have nC:H5 s3.heap.objs.size=none:=by have:=I6.free; rw [hL] at this; exact this
   have base:=I6.base
   rw [x8,x9,x10,x11] at base
   have hok:jY X.prog X.w H5 s6.heap:=by have q:=I6.hok; rw [x1,x2] at q; exact q
   have os:s6.os=s3.os:=by have:=I6.os; rw [x8] at this; exact this
   have IX:Inv X pins σ H5 s6:=I3.call' os base hok I6.bare fun b hb=>⟨(f3 b hb).2.2.2.1,(f3 b hb).2.1,(f3 b hb).2.2.2.2.1,(f3 b hb).2.2.2.2.2⟩
   refine fin D s3.heap.objs.size H5 s6 IX qn nC (Nat.ne_of_gt I3.lt) I3.sz (fun x c e=>?_) (fun p hp=>?_) ⟨mm,hn6⟩
   ·obtain ⟨v,q⟩:=I3.cell x c e
    exact ij q.lt
   ·exact ij (et (I3.pin p hp).1)
  ·have z:=T.item X' x1 x2 x3 x5 i [] s5 σ5 H5 (fun _ _=>False) I5 (stat QX) LV go
   rw [x4] at z
   refine cL z fun r s6 ⟨u,hr,h6⟩=>?_
   subst hr
   refine cL h6 fun _ s7 ⟨x,H7,I7,r7,y7,RY,fr7⟩=>?_
   have I7':=I7.pinned (stat fr7) (T.obj _ _ RY)
   have again:∀ {σ':St} {H':Hp} {s':Shared},Inv X' ([] ++ oy fp s7.heap) σ' H' s'→Inv X' [] σ' H' s'∧tn (i + 1) s'.heap∧∀ b ∈ fp,H' b=none:=fun {σ' H' s'} J=>by
    refine ⟨J.kg,T.keep _ _ _ RY fun b hb o e=>(J.pin (b,o) (List.mem_append_right _ (List.mem_append_right _ (iQ hb e)))).1,fun b hb=>?_⟩
    obtain ⟨o,e,d⟩:=T.obj _ _ RY b hb
    exact (J.pin (b,o) (List.mem_append_right _ (List.mem_append_right _ (iQ hb e)))).2.1
   have z:=hg' _ s7 σ5 H7 x u _ I7' r7 (step x H7 y7)
   rw [x1,x2,x4,x6,x7] at z
   refine cL z fun _ s8 ⟨σ8,H8,I8,q8⟩=>?_
   have z:=ht' _ s8 σ8 H8 _ I8 q8
   rw [x1,x2,x4,x6,x7] at z
   refine cL z fun b s9 ⟨H9,I9,q9⟩=>?_
   cases b with
   | false =>
    rw [if_neg ir] at q9 ⊢
    obtain ⟨m',hm,w9⟩:=hN _ _ _ q9
    obtain ⟨a1,a2,a3⟩:=again I9
    exact ⟨m',hm,i + 1,σ8,ys,H9,a1,a2,a3,w9⟩
   | true =>
    rw [if_pos rfl] at q9 ⊢
    have z:=he' _ s9 σ8 H9 _ I9 q9
    rw [x1,x2,x4,x6,x7] at z
    refine cL z fun v' M9 ⟨y,H10,I10,r10,RZ,hz,w10⟩=>?_
    have z:=bZ (X:=X') _ M9 σ8 H10 (.ref D) [y] (.ref D) [v'] (fun _ H'=>N σ8 (ys ++ [y]) H') I10 rfl (.cons r10 .nil) ⟨D,ys,y,rfl,rfl,RZ,hz,w10⟩
    rw [x1,x2,x4,x7] at z
    refine cL z fun _ s11 ⟨_,H11,I11,_,w11⟩=>?_
    obtain ⟨m',hm,w11⟩:=hN _ _ _ w11
    obtain ⟨a1,a2,a3⟩:=again I11
    exact ⟨m',hm,i + 1,σ8,_,H11,a1,a2,a3,w11⟩
 exact codeAny_compStart_list loop (T.self _ 0 _ _ _ st4 loop)
theorem gj {X:Cx} {elt tg iter:Expr} {ifs:List Expr} {scope:Scope} {pos:Pos} {wi:TI} {g:TG} {tt:TT} {te:TE} {N':List Str} {fr:List (Option Nat)} (S:dS X.env.scope scope X.N N' fr) (hc:X.calm=true) (hi:PI X tg iter wi)
  (hg:∀ C s0 H0 fp,PG (fj X scope C N' s0 H0 fp) tg g) (ht:∀ C s0 H0 fp,LW (fj X scope C N' s0 H0 fp) ifs tt) (he:∀ C s0 H0 fp,PE (fj X scope C N' s0 H0 fp) elt te)
  (hs:∀ x,foldedSetIterable iter X.env x=pure x:=by intro _; rfl):PE X (.ListComp elt [⟨tg,iter,ifs,0⟩] scope pos) (Ck fr wi g tt te):=by
 intro pins s σ H Q I h
 rw [eval_ListComp]
 refine vj S hc hi hg ht he hs I h none _ fun D C H5 s6 IX q nC c1 c2 c3 c4 hm=>?_
 obtain ⟨m,hm⟩:=hm
 refine ⟨m,hm,fun h' hs'=>⟨.ref D,H5,IX.turned (t':=s6.toks) (it:=C) (fun b o hb e=>hs'.extBut b o hb e) nC c1 (.inr c2) c3 c4,rfl,q⟩⟩
theorem sx {X:Cx} {elt tg iter:Expr} {ifs:List Expr} {scope:Scope} {pos spos py:Pos} {y:Str} {i:Nat} {wi:TI} {g:TG} {tt:TT} {te:TE} {N':List Str} {fr:List (Option Nat)} (hN:X.N.Nodup) (hy:X.N[i]? = some y) (hl:X.env.scope.names.lookup y=some .local)
  (S:dS X.env.scope scope X.N N' fr) (hc:X.calm=true) (hi:PI X tg iter wi)
  (hg:∀ C s0 H0 fp,PG (fj X scope C N' s0 H0 fp) tg g) (ht:∀ C s0 H0 fp,LW (fj X scope C N' s0 H0 fp) ifs tt) (he:∀ C s0 H0 fp,PE (fj X scope C N' s0 H0 fp) elt te)
  (hs:∀ x,foldedSetIterable iter X.env x=pure x:=by intro _; rfl) (hsw:swapsWith (.ListComp elt [⟨tg,iter,ifs,0⟩] scope pos) (some (.Name y py)) spos.line X.env=pure true:=by rfl) :
  PS X (.Assign [.Name y py] (.ListComp elt [⟨tg,iter,ifs,0⟩] scope pos) spos) (BL (Ck fr wi g tt te) (gY i)):=by
 intro pins s σ H D I h
 rw [exec_Assign_Name_used _ _ _ _ hsw]
 refine cb (wpAny_standAt (cb ?_))
 show wpAny _ X.A (do let _ ← comprehension (.ListComp elt [⟨tg,iter,ifs,0⟩] scope pos) scope X.env _ (newList []) false (eval iter X.env) (some (assign (.Name y py) X.env))) _ _ s
 refine cb (cL (vj S hc hi hg ht he hs I h (some (assign (.Name y py) X.env)) (fun _ s'=>SP X pins D .next s') fun L C H5 s6 IX q nC c1 c2 c3 c4 hm=>?_) fun _ s' hq=>ce (ce hq))
 obtain ⟨m,hm⟩:=hm
 show wpAny _ X.A (assign (.Name y py) X.env (.ref L)) _ _ _
 refine wpAny_assign_Name (qT IX hN hy (.inl hl) (show RelV (.ref L) (Value.ref L) from rfl) (fun s7 I7 hch=>?_) (.inr hl))
 obtain ⟨a,hsb,ha⟩:=hch
 have hCa:C ≠ a:=by
  rcases ha with ha | ha
  ·rw [ha]; exact c1
  ·exact (c3 _ _ ha).symm
 refine ⟨m,hm.at' (fun o e=>(hsb.2 C hCa).trans e),fun h' hs'=>⟨_,H5,I7.turned (t':=s7.toks) (it:=C) (fun b o hb e=>hs'.extBut b o hb e) nC c1 (.inr c2) c3 c4,q⟩⟩
theorem wH {lo:Int} {n:Nat} {g:TG} {tt:TT} {te:TE} {R:Hp→Prop} {D:Addr} {σ0:St} {H0:Hp} (Pv:Nat→St→List V→Hp→Prop) (h0:Pv 0 σ0 [] H0)
  (hs:∀ i σ ys H,i < n→Pv i σ ys H→g (.int (lo + i)) σ H fun σ2 H2=>tt σ2 H2 fun b H3 =>
   if b=true then te σ2 H3 fun v H4=>H4 D=some (.lst ys)∧ys.length < de∧Pv (i + 1) σ2 (ys ++ [v]) (upd H4 D (.lst (ys ++ [v]))) else Pv (i + 1) σ2 ys H3)
  (hd:∀ σ ys H,Pv n σ ys H→R H) :
  ∃ W:Nat→Nat→St→List V→Hp→Prop,(∃ m,W 0 m σ0 [] H0)∧∀ i m σ ys H,W i m σ ys H →
   ((Fd lo n).stop i H∧R H)∨((Fd lo n).go i H∧∃ N:St→List V→Hp→Prop,(∀ σ' ys' H',N σ' ys' H'→∃ m',m' < m∧W (i + 1) m' σ' ys' H')∧∀ x H',(Fd lo n).BM i H x H'→g x σ H' fun σ2 H2=>tt σ2 H2 fun b H3 =>
    if b=true then te σ2 H3 fun v H4=>H4 D=some (.lst ys)∧ys.length < de∧N σ2 (ys ++ [v]) (upd H4 D (.lst (ys ++ [v]))) else N σ2 ys H3):=by
 refine ⟨fun i m σ ys H=>m=n - i∧i ≤ n∧Pv i σ ys H,⟨n,by simp,Nat.zero_le _,h0⟩,?_⟩
 rintro i m σ ys H ⟨rfl,hi,p⟩
 by_cases hlt:i < n
 ·refine .inr ⟨hlt,Pv (i + 1),fun σ' ys' H' p'=>⟨n - (i + 1),by omega,rfl,hlt,p'⟩,fun x H' y=>?_⟩
  obtain ⟨e,y⟩:=y
  subst e y
  exact hs i σ ys _ hlt p
 ·have e:i=n:=by omega
  subst e
  exact .inl ⟨ii _,hd σ ys H p⟩
theorem fF {K:fm} {a:Addr} {xs:List V} {g:TG} {tt:TT} {te:TE} {R:Hp→Prop} {D:Addr} {σ0:St} {H0:Hp} (Pv:Nat→St→List V→Hp→Prop) (h0:Pv 0 σ0 [] H0) (hl:∀ i σ ys H,i ≤ xs.length→Pv i σ ys H→bj K H a xs)
  (hs:∀ i x σ ys H,xs[i]? = some x→Pv i σ ys H→g x σ H fun σ2 H2=>tt σ2 H2 fun b H3 =>
   if b=true then te σ2 H3 fun v H4=>H4 D=some (.lst ys)∧ys.length < de∧Pv (i + 1) σ2 (ys ++ [v]) (upd H4 D (.lst (ys ++ [v]))) else Pv (i + 1) σ2 ys H3)
  (hd:∀ σ ys H,Pv xs.length σ ys H→R H) :
  ∃ W:Nat→Nat→St→List V→Hp→Prop,(∃ m,W 0 m σ0 [] H0)∧∀ i m σ ys H,W i m σ ys H →
   ((BQ K a).stop i H∧R H)∨((BQ K a).go i H∧∃ N:St→List V→Hp→Prop,(∀ σ' ys' H',N σ' ys' H'→∃ m',m' < m∧W (i + 1) m' σ' ys' H')∧∀ x H',(BQ K a).BM i H x H'→g x σ H' fun σ2 H2=>tt σ2 H2 fun b H3 =>
    if b=true then te σ2 H3 fun v H4=>H4 D=some (.lst ys)∧ys.length < de∧N σ2 (ys ++ [v]) (upd H4 D (.lst (ys ++ [v]))) else N σ2 ys H3):=by
 refine ⟨fun i m σ ys H=>m=xs.length - i∧i ≤ xs.length∧Pv i σ ys H,⟨xs.length,by simp,Nat.zero_le _,h0⟩,?_⟩
 rintro i m σ ys H ⟨rfl,hi,p⟩
 have q:=hl i σ ys H hi p
 by_cases hlt:i < xs.length
 ·refine .inr ⟨⟨xs,xs[i],q,by simp [hlt]⟩,Pv (i + 1),fun σ' ys' H' p'=>⟨xs.length - (i + 1),by omega,rfl,hlt,p'⟩,fun x H' y=>?_⟩
  obtain ⟨e,y⟩:=y
  subst e
  exact hs i x σ ys _ (y xs q) p
 ·have e:i=xs.length:=by omega
  subst e
  exact .inl ⟨⟨xs,q,ii _⟩,hd σ ys H p⟩
end L2
namespace SF
open PySem
def qC (xs:Array Nat):Prop:=∀ i k,i < k→k < xs.size→xs.getD i 0 < xs.getD k 0
theorem Cm {xs:Array Nat} {i a b:Nat} (h:i < xs.size):xs.getD i a=xs.getD i b:=by
 simp [Array.getD,h]
theorem Fp {xs:Array Nat} {j:Nat} (hr:qC xs):∀ (f lo hi:Nat),lo ≤ hi→hi ≤ xs.size→hi - lo ≤ f→(∀ i,i < lo→xs.getD i 0 < j)→(∀ i,hi ≤ i→i < xs.size→j ≤ xs.getD i 0) →
  SetTable.below.go xs j f lo hi ≤ xs.size∧(∀ i,i < SetTable.below.go xs j f lo hi→xs.getD i 0 < j)∧∀ i,SetTable.below.go xs j f lo hi ≤ i→i < xs.size→j ≤ xs.getD i 0:=by
 intro f
 induction f with
 | zero =>
  intro lo hi h1 h2 h3 h4 h5
  have e:lo=hi:=by omega
  subst e
  exact ⟨h2,h4,h5⟩
 | succ f ih =>
  intro lo hi h1 h2 h3 h4 h5
  unfold SetTable.below.go
  by_cases hlt:lo < hi
  ·rw [if_pos hlt]
   have m1:(lo + hi) / 2 < hi:=by omega
   have m2:lo ≤ (lo + hi) / 2:=by omega
   dsimp only
   rw [Cm (b:=0) (Nat.lt_of_lt_of_le m1 h2)]
   by_cases hm:xs.getD ((lo + hi) / 2) 0 < j
   ·rw [if_pos hm]
    refine ih _ _ (by omega) h2 (by omega) (fun i hi'=>?_) h5
    rcases Nat.lt_or_ge i ((lo + hi) / 2) with q | q
    ·exact Nat.lt_trans (hr i _ q (by omega)) hm
    ·have e:i=(lo + hi) / 2:=by omega
     rw [e]; exact hm
   ·rw [if_neg hm]
    refine ih _ _ m2 (by omega) (by omega) h4 (fun i hi' hs=>?_)
    rcases Nat.lt_or_ge ((lo + hi) / 2) i with q | q
    ·exact io (Nat.not_lt.mp hm) (Nat.le_of_lt (hr _ i q hs))
    ·have e:i=(lo + hi) / 2:=by omega
     rw [e]; exact Nat.not_lt.mp hm
  ·rw [if_neg hlt]
   have e:lo=hi:=by omega
   subst e
   exact ⟨h2,h4,h5⟩
theorem oQ {xs:Array Nat} {j:Nat} (hr:qC xs):SetTable.below xs j ≤ xs.size∧(∀ i,i < SetTable.below xs j→xs.getD i 0 < j)∧∀ i,SetTable.below xs j ≤ i→i < xs.size→j ≤ xs.getD i 0 :=
 Fp hr xs.size 0 xs.size (Nat.zero_le _) (ii _) (ii _) (fun i h=>absurd h (Nat.not_lt_zero _)) (fun i h1 h2=>absurd (Nat.lt_of_lt_of_le h2 h1) (Nat.lt_irrefl _))
theorem below_at {xs:Array Nat} (hr:qC xs) {i s:Nat} (h1:∀ k,k < i→xs.getD k 0 < s) (h2:i < xs.size→s ≤ xs.getD i 0) (hi:i ≤ xs.size):SetTable.below xs s=i:=by
 obtain ⟨b1,b2,b3⟩:=oQ (j:=s) hr
 rcases Nat.lt_trichotomy (SetTable.below xs s) i with q | q | q
 ·have:=b3 _ (ii _) (by omega)
  have:=h1 _ q
  omega
 ·exact q
 ·have:=b2 i q
  have:=h2 (by omega)
  omega
theorem lN {xs:Array Nat}:qC xs↔xs.toList.Pairwise (· < ·):=by
 rw [List.pairwise_iff_getElem]
 constructor
 ·intro h i k hi hk hik
  have h':=h i k hik (by simpa using hk)
  have hi':i < xs.size:=by simpa using hi
  have hk':k < xs.size:=by simpa using hk
  simpa [Array.getD,hi',hk'] using h'
 ·intro h i k hik hk
  have hi:i < xs.size:=Nat.lt_trans hik hk
  have h':=h i k (by simpa using hi) (by simpa using hk) hik
  simpa [Array.getD,hi,hk] using h'
theorem vk {xs:Array Nat} {j:Nat} (hr:qC xs) (hn:∀ i,i < xs.size→xs.getD i 0 ≠ j):qC (SetTable.insertAt xs (SetTable.below xs j) j):=by
 obtain ⟨b1,b2,b3⟩:=oQ (j:=j) hr
 rw [lN,SetTable.toList_insertAt]
 have hp:=lN.mp hr
 have take:∀ a ∈ xs.toList.take (SetTable.below xs j),a < j:=fun a ha=>by
  obtain ⟨i,hi,e⟩:=List.getElem_of_mem ha
  have hi':i < SetTable.below xs j∧i < xs.size:=by
   rw [List.length_take] at hi
   simp at hi
   omega
  have:=b2 i hi'.1
  rw [← e,List.getElem_take]
  simpa [Array.getD,hi'.2] using this
 have drop:∀ a ∈ xs.toList.drop (SetTable.below xs j),j < a:=fun a ha=>by
  obtain ⟨i,hi,e⟩:=List.getElem_of_mem ha
  have hi':SetTable.below xs j + i < xs.size:=by
   rw [List.length_drop] at hi
   simp at hi
   omega
  have h1:=b3 (SetTable.below xs j + i) (Nat.le_add_right _ _) hi'
  have h2:=hn _ hi'
  rw [← e,List.getElem_drop]
  have h3:j < xs.getD (SetTable.below xs j + i) 0:=by omega
  simpa [Array.getD,hi'] using h3
 refine List.pairwise_append.mpr ⟨hp.sublist (List.take_sublist _ _),List.pairwise_cons.mpr ⟨drop,hp.sublist (List.drop_sublist _ _)⟩,fun a ha b hb=>?_⟩
 rcases List.mem_cons.mp hb with e | hb
 ·rw [e]; exact take a ha
 ·exact Nat.lt_trans (take a ha) (drop b hb)
structure oR (t:SetTable):Prop where
 Q5:t.dummies=#[]
 up:t.plain=true→qC t.place
theorem Cp {t:SetTable} (h:t.dummies=#[]) (j:Nat):t.slot j ≠ .dummy:=by
 unfold SetTable.slot
 dsimp only
 split
 ·intro z; cases z
 ·have e:SetTable.has t.dummies j=false:=by rw [h]; simp [SetTable.has]
  rw [if_neg (by rw [e]; exact ir)]
  intro z; cases z
theorem wI {t:SetTable} (h:t.dummies=#[]) {f:Nat→Int} {x:Int}:∀ (n:Nat) (p:SetTable.Probe) {j:Nat} {d:Option Nat},SetTable.probe.go t f x n p=some (.empty j d)→t.slot j=.empty∧d=p.dummy:=by
 intro n
 induction n with
 | zero=>intro p j d e; cases e
 | succ n ih =>
  intro p j d e
  unfold SetTable.probe.go at e
  cases q:t.slot p.j with
  | empty =>
   rw [q] at e
   cases e
   exact ⟨q,rfl⟩
  | dummy=>exact absurd q (Cp h _)
  | live i =>
   rw [q] at e
   dsimp only at e
   have adv:(t.advance p).dummy=p.dummy:=by
    unfold SetTable.advance
    split <;> rfl
   split at e
   ·cases e
   ·have:=ih _ e
    rw [adv] at this
    exact this
theorem Cq {t:SetTable} (hr:qC t.place) {j:Nat} (h:t.slot j=.empty):∀ i,i < t.place.size→t.place.getD i 0 ≠ j:=by
 intro i hi e
 have hb:SetTable.below t.place j=i:=below_at hr (fun k hk=>by rw [← e]; exact hr k i hk hi) (fun _=>by rw [e]; exact ii _) (Nat.le_of_lt hi)
 have q:t.place[SetTable.below t.place j]? = some j:=by
  rw [hb,← e]
  simp [Array.getD,hi]
 unfold SetTable.slot at h
 dsimp only at h
 rw [if_pos (by rw [q]; simp)] at h
 cases h
theorem gA (t:SetTable) (n:Nat):oR (t.standIn n)∧(t.standIn n).led=t.led:=⟨⟨rfl,fun h=>by cases h⟩,rfl⟩
theorem wJ {t:SetTable} (es:Array (Int × Value)) (h:Int) (x:Value) (I:oR t):oR (layNew t es h x).2.1∧(layNew t es h x).2.1.led=t.led:=by
 unfold layNew
 cases e:t.freeSlot h with
 | none=>exact gA _ _
 | some p =>
  obtain ⟨slot,wd⟩:=p
  dsimp only
  unfold SetTable.freeSlot at e
  cases q:t.probe (fun _=>h + 1) h (t.probeStart h) with
  | none=>rw [q] at e; cases e
  | some m =>
   rw [q] at e
   cases m with
   | candidate a b c=>cases e
   | empty j d =>
    obtain ⟨h1,h2⟩:=wI I.Q5 _ _ q
    have h2:d=none:=h2
    subst h2
    have e1:j=slot:=by
     have:=congrArg Prod.fst (Option.some.inj e)
     exact this
    subst e1
    have key:oR (t.put j).1∧(t.put j).1.led=t.led:=by
     refine ⟨⟨?_,fun hp=>?_⟩,rfl⟩
     ·show (if SetTable.has t.dummies j then _ else t.dummies)=#[]
      rw [if_neg (by rw [I.Q5]; simp [SetTable.has])]
      exact I.Q5
     ·exact vk (I.up hp) (Cq (I.up hp) h1)
    unfold SetTable.orStandIn
    split
    ·exact key
    ·exact ⟨(gA _ _).1,(gA _ _).2.trans key.2⟩
theorem vm {β:Type} (g:Nat→Option β):∀ l:List Nat,(l.filterMap fun j=>(g j).map (j,·)).map (·.1)=l.filter fun j=>(g j).isSome
 | []=>rfl
 | a :: r=>by
  have ih:=vm g r
  cases e:g a with
  | none=>simp [List.filterMap_cons,e,ih]
  | some b=>simp [List.filterMap_cons,e,ih]
theorem sy {t:SetTable} (es:Array (Int × Value)) (n:Nat):oR (relayAll t es n).2.1∧(relayAll t es n).2.1.led=t.led:=by
 unfold relayAll
 cases e:t.relaid (es.map (·.1)) n with
 | none=>exact gA _ _
 | some p =>
  obtain ⟨t',order⟩:=p
  dsimp only
  split
  ·unfold SetTable.relaid SetTable.laid at e
   cases q:SetTable.layClean (SetTable.sizeAbove n - 1) (es.map (·.1)) with
   | none=>rw [q] at e; cases e
   | some owner =>
    rw [q] at e
    have e:=congrArg Prod.fst (Option.some.inj e)
    dsimp only at e
    subst e
    refine ⟨⟨rfl,fun _=>?_⟩,rfl⟩
    rw [lN]
    dsimp only
    have z:=vm (fun j=>owner.getD j none) (List.range (SetTable.sizeAbove n - 1 + 1))
    rw [z]
    exact List.pairwise_lt_range.sublist List.filter_sublist
  ·exact gA _ _
theorem j4 {α:Type}:∀ (l:List α) (i:Nat) (h:i < l.length),List.Perm (l[i] :: l.eraseIdx i) l
 | a :: r,0,_=>List.Perm.refl _
 | a :: r,i + 1,h=>by
  have q:=j4 r i (by simpa using h)
  show List.Perm (r[i]'(by simpa using h) :: a :: r.eraseIdx i) (a :: r)
  exact (List.Perm.swap _ _ _).trans (q.cons a)
theorem yO {α:Type} (next:Nat→Nat):∀ (n k:Nat) (left:List α) (out:Array α),n=left.length→List.Perm (pickOrder.go next n k left out).toList (out.toList ++ left)
 | 0,k,left,out,h=>by
  have e:left=[]:=List.eq_nil_of_length_eq_zero h.symm
  subst e
  simp [pickOrder.go]
 | n + 1,k,left,out,h=>by
  unfold pickOrder.go
  have hlt:next k % left.length < left.length:=Nat.mod_lt _ (by omega)
  have e:left[next k % left.length]? = some left[next k % left.length]:=aa hlt
  rw [e]
  dsimp only
  refine (yO next n (k + 1) _ _ (by rw [List.length_eraseIdx,if_pos hlt]; omega)).trans ?_
  rw [Array.toList_push,List.append_assoc]
  refine List.Perm.append_left _ ?_
  show List.Perm (left[next k % left.length] :: left.eraseIdx (next k % left.length)) left
  exact j4 _ _ hlt
theorem Ad {α:Type} (next:Nat→Nat) (xs:Array α):List.Perm (pickOrder next xs).toList xs.toList:=by
 have:=yO next xs.size 0 xs.toList #[] (by simp)
 simpa [pickOrder] using this
end SF
namespace SF
open PySem PySem.Calls PyProof.Rows
theorem cm:Slot "set_iterator" "__next__" "set_iterator.__next__" :=
 .of (owner := "set_iterator") (n := "__next__") (by rw [typeLookup_type,builtinLookup_eq_fast]; kernel_rfl) (by decide +kernel) (by decide +kernel) (by decide +kernel)
  (by first | exact .inl (by decide +kernel) | exact .inr (by decide +kernel)) (by rw [isSubtype_type]; kernel_rfl)
theorem gm:entryFor table "set_iterator.__next__" = some Builtin.«set_iterator.__next__»:=entryFor_of_tree (by kernel_rfl)
theorem gL (a:Value):argsOk "set_iterator.__next__" ⟨[a],[]⟩:=by unfold argsOk; kernel_rfl
theorem oS:entryFor table "set.__iter__" = some Builtin.«frozenset.__iter__» :=
 entryFor_alias (id' := "frozenset.__iter__") (by kernel_rfl) rfl (by decide +kernel) (by kernel_rfl)
section
variable {prog:Program} {w:World} {A:Around} {E:Value→Shared→Prop} {s:Shared}
def dF (h:Heap) (a:Addr) (es:Array (Int × Value)) (ep:Nat) (t:SetTable):Prop:=∃ o,h.get? a=some o∧o.ExactSet∧o.data=.set es ep t
def j5 (h:Heap) (I:Addr) (first:Value) (i:Nat) (a:Addr) (n ep:Nat):Prop :=
 ∃ o,h.get? I=some o∧o.cls=.type "set_iterator" ∧ o.data=.fields #[first,.int i 0,.ref a,.int n 0,.int ep 0]
theorem j5.typeIs {I:Addr} {first:Value} {i:Nat} {a:Addr} {n ep:Nat} (x:j5 s.heap I first i a n ep):s.TypeIs (.ref I) "set_iterator" := let ⟨o,ho,hc,_⟩:=x; ⟨o,ho,hc⟩
theorem Cr {a I:Addr} {es:Array (Int × Value)} {ep:Nat} {t:SetTable} {sl i:Nat} {v:Value} {sl':Nat} {Q:Option Value→Shared→Prop}
  (hs:dF s.heap a es ep t) (hf:t.fits es.size=true) (hi:j5 s.heap I (.int sl 0) i a es.size ep)
  (hN:∀ (s:Shared) (A:Around) (E:Value→Shared→Prop) (R:Option (Value × Nat)→Shared→Prop),dF s.heap a es ep t→R (some (v,sl')) s→wpAny (model prog w) A (setNext a sl i ep) R E s)
  (hQ:∀ h',j5 h' I (.int sl' 0) (i + 1) a es.size ep→Heap.SameBut I s.heap h'→Q (some v) { s with heap:=h' }):wpAny (model prog w) A (pyNext (.ref I)) Q E s:=by
 obtain ⟨o,ho,hc,hd⟩:=id hi
 obtain ⟨oa,hoa,hex,hda⟩:=id hs
 unfold pyNext
 refine cb (wpAny_attempt (wpAny_callSpecial?_slot (name:=Str.ofString "__next__") hi.typeIs cm
  (eh cm hi.typeIs gm ?_ (gL _))))
 unfold Builtin.«set_iterator.__next__»
 refine cb (ce ?_)
 refine cb (wpAny_fieldsOf ho hd ?_)
 dsimp only
 refine cb (wpAny_setEntries_of hoa hda hf ?_)
 rw [if_neg (by simp)]
 simp only [i4]
 refine cb (hN s _ _ _ hs ?_)
 dsimp only
 refine cb (wpAny_setField ho hd (by simp) ?_)
 have ho1:=Heap.get?_update_self (Obj.mapFields (·.setIfInBounds 0 (rawInt (sl':Int)))) ho (Obj.isFreed_of_fields (Obj.data_mapFields hd _))
 have hd1:=Obj.data_mapFields hd (·.setIfInBounds 0 (rawInt (sl':Int)))
 refine cb (wpAny_setField ho1 hd1 (by simp) ?_)
 have ho2:=Heap.get?_update_self (Obj.mapFields (·.setIfInBounds 1 (rawInt ((i:Int) + 1)))) ho1 (Obj.isFreed_of_fields (Obj.data_mapFields hd1 _))
 have hd2:=Obj.data_mapFields hd1 (·.setIfInBounds 1 (rawInt ((i:Int) + 1)))
 refine ce ⟨_,rfl,ce (hQ _ ⟨_,ho2,?_,?_⟩ ((Heap.SameBut.update ..).trans (Heap.SameBut.update ..)))⟩
 ·rw [Obj.cls_mapFields,Obj.cls_mapFields]
  exact hc
 ·rw [hd2]
  simp [rawInt]
theorem end_int {a I:Addr} {es:Array (Int × Value)} {ep:Nat} {t:SetTable} {sl i:Nat} {Q:Option Value→Shared→Prop} (hh:A.handled=none)
  (hs:dF s.heap a es ep t) (hf:t.fits es.size=true) (hi:j5 s.heap I (.int sl 0) i a es.size ep)
  (hN:∀ (s:Shared) (A:Around) (E:Value→Shared→Prop) (R:Option (Value × Nat)→Shared→Prop),dF s.heap a es ep t→R none s→wpAny (model prog w) A (setNext a sl i ep) R E s)
  (hQ:∀ h',Heap.ExtBut I s.heap h'→Q none { s with heap:=h' }):wpAny (model prog w) A (pyNext (.ref I)) Q E s:=by
 obtain ⟨o,ho,hc,hd⟩:=id hi
 obtain ⟨oa,hoa,hex,hda⟩:=id hs
 unfold pyNext
 refine cb (wpAny_attempt (wpAny_callSpecial?_slot (name:=Str.ofString "__next__") hi.typeIs cm
  (eh cm hi.typeIs gm ?_ (gL _))))
 unfold Builtin.«set_iterator.__next__»
 refine cb (ce ?_)
 refine cb (wpAny_fieldsOf ho hd ?_)
 dsimp only
 refine cb (wpAny_setEntries_of hoa hda hf ?_)
 rw [if_neg (by simp)]
 simp only [i4]
 refine cb (hN s _ _ _ hs ?_)
 dsimp only
 refine cb (wpAny_setField ho hd (by simp) ?_)
 refine cb ?_
 simp only [newExc,newTuple]
 refine cb (wpAny_newObj_type ?_ (by size_fits))
 refine cb (m:=firstArgMember _ _) (wpAny_of_eq (a:=Value.none) (by first | rfl | (simp only [firstArgMember]; rfl)) ?_)
 refine wpAny_newObj_type ?_ (by size_fits)
 simp only [raiseNew]
 refine cb (wpAny_handled ?_)
 rw [show A.in1.handled=none from hh]
 refine cb (ce (wpAny_throw ?_))
 refine cb (wpAny_isInstance (T := "StopIteration") (b:=true) ⟨_,em _ rfl,rfl⟩ isSubtype_stop ?_)
 exact ce (hQ _ (((Heap.SameBut.update ..).extBut.push _).push _))
theorem wK {a I T:Addr} {es:Array (Int × Value)} {ep:Nat} {t:SetTable} {i p:Nat} {ps:Array Value} {k:Nat} {tk:Tok} {oT:Obj} {c:Int} {v:Value} {Q:Option Value→Shared→Prop}
  (hs:dF s.heap a es ep t) (hf:t.fits es.size=true) (hi:j5 s.heap I (.ref T) i a es.size ep) (hT:s.heap.get? T=some oT) (hTd:oT.data=.seq ps k) (hp:ps[i]? = some (.int p tk)) (hv:es[p]? = some (c,v))
  (hQ:∀ h',j5 h' I (.ref T) (i + 1) a es.size ep→Heap.SameBut I s.heap h'→Q (some v) { s with heap:=h' }):wpAny (model prog w) A (pyNext (.ref I)) Q E s:=by
 obtain ⟨o,ho,hc,hd⟩:=id hi
 obtain ⟨oa,hoa,hex,hda⟩:=id hs
 unfold pyNext
 refine cb (wpAny_attempt (wpAny_callSpecial?_slot (name:=Str.ofString "__next__") hi.typeIs cm
  (eh cm hi.typeIs gm ?_ (gL _))))
 unfold Builtin.«set_iterator.__next__»
 refine cb (ce ?_)
 refine cb (wpAny_fieldsOf ho hd ?_)
 dsimp only
 refine cb (wpAny_setEntries_of hoa hda hf ?_)
 rw [if_neg (by simp)]
 simp only [i4]
 refine cb ?_
 unfold seqItems?
 refine cb (wpAny_load hT ?_)
 rw [hTd]
 refine ce ?_
 dsimp only
 rw [hp]
 dsimp only
 refine cb ?_
 unfold setNextDrawn
 refine cb (wpAny_setState_of hoa hda hf ?_)
 dsimp only
 rw [if_neg (by simp)]
 simp only [i4]
 rw [hv]
 refine ce ?_
 refine cb (wpAny_setField ho hd (by simp) ?_)
 have ho2:=Heap.get?_update_self (Obj.mapFields (·.setIfInBounds 1 (rawInt ((i:Int) + 1)))) ho (Obj.isFreed_of_fields (Obj.data_mapFields hd _))
 have hd2:=Obj.data_mapFields hd (·.setIfInBounds 1 (rawInt ((i:Int) + 1)))
 refine ce ⟨_,rfl,ce (hQ _ ⟨_,ho2,?_,?_⟩ (Heap.SameBut.update ..))⟩
 ·rw [Obj.cls_mapFields]
  exact hc
 ·rw [hd2]
  simp [rawInt]
theorem Ae {a I T:Addr} {es:Array (Int × Value)} {ep:Nat} {t:SetTable} {i:Nat} {ps:Array Value} {k:Nat} {oT:Obj} {Q:Option Value→Shared→Prop} (hh:A.handled=none)
  (hs:dF s.heap a es ep t) (hf:t.fits es.size=true) (hi:j5 s.heap I (.ref T) i a es.size ep) (hT:s.heap.get? T=some oT) (hTd:oT.data=.seq ps k) (hp:ps[i]? = none)
  (hQ:∀ h',Heap.ExtBut I s.heap h'→Q none { s with heap:=h' }):wpAny (model prog w) A (pyNext (.ref I)) Q E s:=by
 obtain ⟨o,ho,hc,hd⟩:=id hi
 obtain ⟨oa,hoa,hex,hda⟩:=id hs
 unfold pyNext
 refine cb (wpAny_attempt (wpAny_callSpecial?_slot (name:=Str.ofString "__next__") hi.typeIs cm
  (eh cm hi.typeIs gm ?_ (gL _))))
 unfold Builtin.«set_iterator.__next__»
 refine cb (ce ?_)
 refine cb (wpAny_fieldsOf ho hd ?_)
 dsimp only
 refine cb (wpAny_setEntries_of hoa hda hf ?_)
 rw [if_neg (by simp)]
 simp only [i4]
 refine cb ?_
 unfold seqItems?
 refine cb (wpAny_load hT ?_)
 rw [hTd]
 refine ce ?_
 dsimp only
 rw [hp]
 dsimp only
 refine cb (wpAny_setField ho hd (by simp) ?_)
 have ho1:=Heap.get?_update_self (Obj.mapFields (·.setIfInBounds 0 (rawInt 0))) ho (Obj.isFreed_of_fields (Obj.data_mapFields hd _))
 have hd1:=Obj.data_mapFields hd (·.setIfInBounds 0 (rawInt 0))
 refine cb (wpAny_setField ho1 hd1 (by simp) ?_)
 refine cb ?_
 simp only [newExc,newTuple]
 refine cb (wpAny_newObj_type ?_ (by size_fits))
 refine cb (m:=firstArgMember _ _) (wpAny_of_eq (a:=Value.none) (by first | rfl | (simp only [firstArgMember]; rfl)) ?_)
 refine wpAny_newObj_type ?_ (by size_fits)
 simp only [raiseNew]
 refine cb (wpAny_handled ?_)
 rw [show A.in1.handled=none from hh]
 refine cb (ce (wpAny_throw ?_))
 refine cb (wpAny_isInstance (T := "StopIteration") (b:=true) ⟨_,em _ rfl,rfl⟩ isSubtype_stop ?_)
 exact ce (hQ _ ((((Heap.SameBut.update ..).trans (Heap.SameBut.update ..)).extBut.push _).push _))
theorem kx {a:Addr} {es:Array (Int × Value)} {ep:Nat} {t:SetTable} {sl i:Nat} {R:Option (Value × Nat)→Shared→Prop} (hb:w.params.followText "set-order" = true)
  (hs:dF s.heap a es ep t) (hf:t.fits es.size=true) (h:R (((pickOrder (w.params.setOrder a ep) es)[i]?).map fun e=>(e.2,sl)) s):wpAny (model prog w) A (setNext a sl i ep) R E s:=by
 obtain ⟨o,ho,hex,hd⟩:=id hs
 unfold setNext setsByText
 refine cb (wpAny_setState_of ho hd hf ?_)
 dsimp only
 refine cb (cb (wpAny_askSetting (ce ?_)))
 rw [if_pos (show (⟨(model prog w).prog,(model prog w).w.params⟩:Setting).params.followText "set-order" = true from hb),if_neg (by simp)]
 refine cb ?_
 unfold setWalk setsByText
 refine cb (wpAny_setState_of ho hd hf ?_)
 dsimp only
 refine cb (cb (wpAny_askSetting (ce ?_)))
 rw [if_pos (show (⟨(model prog w).prog,(model prog w).w.params⟩:Setting).params.followText "set-order" = true from hb)]
 exact cb (wpAny_askSetting (ce (ce h)))
theorem jR {a:Addr} {es:Array (Int × Value)} {ep:Nat} {t:SetTable} {sl i:Nat} {R:Option (Value × Nat)→Shared→Prop} (hb:w.params.followText "set-order" = false) (hp:(!t.plain && decide (es.size > 1))=false) (hl:t.led=true)
  (hs:dF s.heap a es ep t) (hf:t.fits es.size=true)
  (h:R (match es[SetTable.below t.place sl]?,t.place[SetTable.below t.place sl]? with | some (_,x),some j=>some (x,j + 1) | _,_=>none) s):wpAny (model prog w) A (setNext a sl i ep) R E s:=by
 obtain ⟨o,ho,hex,hd⟩:=id hs
 unfold setNext setsByText
 refine cb (wpAny_setState_of ho hd hf ?_)
 dsimp only
 refine cb (cb (wpAny_askSetting (ce ?_)))
 rw [if_neg (show ¬ (⟨(model prog w).prog,(model prog w).w.params⟩:Setting).params.followText "set-order" = true from by show ¬ w.params.followText "set-order" = true; rw [hb]; exact ir)]
 refine wpAny_ite_split (fun hab=>absurd (show (!t.plain && decide (es.size > 1))=true from hab) (by rw [hp]; exact ir)) (fun _=>?_)
 refine cb ?_
 show wpAny (model prog w) A (if (!t.led && !es.isEmpty)=true then unsupported "set:maker-not-led" else pure ()) _ _ s
 rw [if_neg (by rw [hl]; simp)]
 exact ce (ce h)
theorem sC {src:Source} {n:Nat} {Q:Nat→Shared→Prop} (hn:0 < n) (h:∀ i d,i < n→Q i { s with drawn:=d }):wpAny (model prog w) A (choose src n) Q E s:=fun _ _ _ =>
 ⟨Nat.ne_of_gt hn,h _ _ (Nat.mod_lt _ hn)⟩
theorem jg:∀ (n:Nat) (l:List Nat) (s:Shared) {Q:List Nat→Shared→Prop},n=l.length→(∀ r d,List.Perm r l→Q r { s with drawn:=d })→wpAny (model prog w) A (drawOrder n l) Q E s
 | 0,l,s,Q,hn,h=>by
  have e:l=[]:=List.eq_nil_of_length_eq_zero hn.symm
  subst e
  exact ce (h [] s.drawn (List.Perm.refl _))
 | n + 1,[],s,Q,hn,h=>by cases hn
 | n + 1,x :: r,s,Q,hn,h=>by
  unfold drawOrder
  refine cb (sC (by simp) fun i d hi=>?_)
  have e:(x :: r)[i]? = some (x :: r)[i]:=aa hi
  rw [e]
  dsimp only
  refine cb (jg n _ _ (by rw [List.length_eraseIdx,if_pos hi]; omega) fun q d' hq=>ce ?_)
  exact h _ d' ((hq.cons _).trans (j4 _ _ hi))
structure SI (prog:Program) (w:World) (s:Shared) (a:Addr) (es:Array (Int × Value)) (ep:Nat) (t:SetTable):Prop where
 hs:dF s.heap a es ep t
 fit:t.fits es.size=true
 inv:oR t
 led:w.params.followText "set-order" = true∨t.led=true
theorem dF.typeIs {a:Addr} {es:Array (Int × Value)} {ep:Nat} {t:SetTable} (x:dF s.heap a es ep t):s.TypeIs (.ref a) "set" := let ⟨o,ho,hc,_⟩:=x; ⟨o,ho,hc.1⟩
theorem dF.lt {h:Heap} {a:Addr} {es:Array (Int × Value)} {ep:Nat} {t:SetTable} (x:dF h a es ep t):a < h.objs.size:=let ⟨o,ho,_⟩:=x; et ho
theorem dF.at {h h':Heap} {a:Addr} {es:Array (Int × Value)} {ep:Nat} {t:SetTable} (x:dF h a es ep t) (e:∀ o,h.get? a=some o→h'.get? a=some o):dF h' a es ep t:=let ⟨o,ho,r⟩:=x; ⟨o,e _ ho,r⟩
theorem j5.at {h h':Heap} {I:Addr} {first:Value} {i:Nat} {a:Addr} {n ep:Nat} (x:j5 h I first i a n ep) (e:∀ o,h.get? I=some o→h'.get? I=some o):j5 h' I first i a n ep:=let ⟨o,ho,r⟩:=x; ⟨o,e _ ho,r⟩
theorem ky:Slot "set_iterator" "__iter__" "set_iterator.__iter__" :=
 .of (owner := "set_iterator") (n := "__iter__") (by rw [typeLookup_type,builtinLookup_eq_fast]; kernel_rfl) (by decide +kernel) (by decide +kernel) (by decide +kernel)
  (by first | exact .inl (by decide +kernel) | exact .inr (by decide +kernel)) (by rw [isSubtype_type]; kernel_rfl)
theorem Cu {a:Addr} {es:Array (Int × Value)} {ep:Nat} {t:SetTable} {Q:Value→Shared→Prop} (S:SI prog w s a es ep t) (hsz:es.size ≤ de)
  (h1:(w.params.followText "set-order" = true∨(!t.plain && decide (es.size > 1))=false)→Q (.ref s.heap.objs.size) { s with heap:=s.heap.push { cls:=.type "set_iterator",data:=.fields #[.int 0 0,.int 0 0,.ref a,.int es.size 0,.int ep 0] } })
  (h2:∀ (r:List Nat) (d:Drawn),List.Perm r (List.range es.size)→Q (.ref (s.heap.objs.size + 1)) { s with drawn:=d,heap:=(s.heap.push { cls:=.type "tuple",data:=.seq ((r.map fun (i:Nat)=>rawInt i).toArray) }).push { cls:=.type "set_iterator",data:=.fields #[.ref s.heap.objs.size,.int 0 0,.ref a,.int es.size 0,.int ep 0] } }) :
  wpAny (model prog w) A (pyIter (.ref a)) Q E s:=by
 obtain ⟨o,ho,hex,hd⟩:=id S.hs
 refine wpAny_pyIter_slot S.hs.typeIs PySem.F.slot_set_iter (eh PySem.F.slot_set_iter S.hs.typeIs oS ?_ (PySem.F.args_set_iter_1 _))
 unfold Builtin.«frozenset.__iter__» Builtin.Frozenset.slot0
 refine cb (cb (ce (ce ?_)))
 refine cb ?_
 unfold Builtin.Frozenset.sizeOf
 refine cb (wpAny_setEntries_of ho hd S.fit (ce ?_))
 refine cb ?_
 unfold setDrawn setsByText
 refine cb (wpAny_setState_of ho hd S.fit ?_)
 dsimp only
 refine cb (cb (wpAny_askSetting (ce ?_)))
 refine ce ?_
 dsimp only
 by_cases hb:w.params.followText "set-order" = true
 ·refine wpAny_ite_split (fun hab=>?_) (fun _=>?_)
  ·have hab:(!w.params.followText "set-order" && _)=true:=hab
   rw [hb] at hab
   exact absurd hab (by simp)
  ·refine cb (ce ?_)
   refine cb (wpAny_setEpoch_of ho hd S.fit ?_)
   refine cb (wpAny_newObj_type ?_)
   exact ce ⟨_,rfl, "set_iterator",_,⟨_,em _ rfl,rfl⟩,cm.lookup,h1 (.inl hb)⟩
 ·have hb':w.params.followText "set-order" = false:=by simpa using hb
  refine wpAny_ite_split (fun hab=>?_) (fun hab=>?_)
  ·refine cb (jg _ _ _ (by simp) fun r d hr=>?_)
   refine cb (wpAny_newObj_type ?_ ?_)
   ·refine cb (wpAny_setEpoch_of (el _ ho) hd S.fit ?_)
    refine cb (wpAny_newObj_type ?_)
    have hz:=h2 r d hr
    rw [← size_push' s.heap { cls:=.type "tuple",data:=.seq ((r.map fun (i:Nat)=>rawInt i).toArray) }] at hz
    exact ce ⟨_,rfl, "set_iterator",_,⟨_,em _ rfl,rfl⟩,cm.lookup,hz⟩
   ·have hl:r.length=es.size:=by rw [hr.length_eq,List.length_range]
    show (List.map _ r).toArray.size ≤ _
    rw [ag,List.length_map,hl]
    omega
  ·refine cb (ce ?_)
   refine cb (wpAny_setEpoch_of ho hd S.fit ?_)
   refine cb (wpAny_newObj_type ?_)
   refine ce ⟨_,rfl, "set_iterator",_,⟨_,em _ rfl,rfl⟩,cm.lookup,h1 (.inr ?_)⟩
   have hab:¬ ((!w.params.followText "set-order" && (!t.plain && decide (es.size > 1)))=true):=hab
   rw [hb'] at hab
   simpa using hab
theorem qD:entryFor table "set_iterator.__iter__" = some Builtin.«dict_keyiterator.__iter__» :=
 entryFor_alias (id' := "dict_keyiterator.__iter__") (by kernel_rfl) rfl (by decide +kernel) (by kernel_rfl)
theorem sD (a:Value):argsOk "set_iterator.__iter__" ⟨[a],[]⟩:=by unfold argsOk; kernel_rfl
theorem yP {I:Addr} {first:Value} {i:Nat} {a:Addr} {n ep:Nat} {Q:Value→Shared→Prop} (hi:j5 s.heap I first i a n ep) (h:Q (.ref I) s):wpAny (model prog w) A (pyIter (.ref I)) Q E s:=by
 refine wpAny_pyIter_slot hi.typeIs ky (eh ky hi.typeIs qD ?_ (sD _))
 show wpAny _ _ (ret (.ref I)) _ _ s
 exact ce ⟨_,rfl, "set_iterator",_,hi.typeIs,cm.lookup,h⟩
theorem rA (hh:A.handled=none) {a I:Addr} (hne:a ≠ I) {es:Array (Int × Value)} {ep:Nat} {t:SetTable} (hf:t.fits es.size=true) (order:List Value) (hl:order.length=es.size) (sl:Nat→Nat)
  (hN:∀ (i:Nat) (v:Value),order[i]? = some v→∀ (s:Shared) (A:Around) (E:Value→Shared→Prop) (R:Option (Value × Nat)→Shared→Prop),dF s.heap a es ep t→R (some (v,sl (i + 1))) s→wpAny (model prog w) A (setNext a (sl i) i ep) R E s)
  (hE:∀ (s:Shared) (A:Around) (E:Value→Shared→Prop) (R:Option (Value × Nat)→Shared→Prop),dF s.heap a es ep t→R none s→wpAny (model prog w) A (setNext a (sl es.size) es.size ep) R E s) :
  Walks prog w A I [I,a] [I] es.size (fun i v=>order[i]? = some v) (fun i h=>dF h a es ep t∧j5 h I (.int (sl i) 0) i a es.size ep) where
 sub:=fun b hb=>by simp at hb; simp [hb]
 frame:=fun _ _ _ st hk=>⟨st.1.at fun o e=>hk a (by simp) o e,st.2.at fun o e=>hk I (by simp) o e⟩
 item:=fun i s Q E hi st hQ=>by
  obtain ⟨v,hv⟩:∃ v,order[i]? = some v:=⟨order[i]'(by omega),by simp [hl,hi]⟩
  refine Cr st.1 hf st.2 (hN i v hv) fun h' h1 h2=>?_
  exact hQ v h' s.toks hv ⟨st.1.at fun o e=>h2.extBut a o hne e,h1⟩ fun b o hb e=>h2.extBut b o (fun z=>hb (by simp [z])) e
 done:=fun s Q E st hQ=>end_int hh st.1 hf st.2 hE fun h' he=>hQ h' s.toks fun b o hb e=>he b o (fun z=>hb (by simp [z])) e
 self:=fun _ _ _ _ st hQ=>yP st.2 hQ
theorem vn (hh:A.handled=none) {a I T:Addr} (hne:a ≠ I) (hnT:T ≠ I) {es:Array (Int × Value)} {ep:Nat} {t:SetTable} (hf:t.fits es.size=true) (r:List Nat) (hr:List.Perm r (List.range es.size)) {oT:Obj} (hTd:oT.data=.seq ((r.map fun (i:Nat)=>rawInt i).toArray)) :
  Walks prog w A I [I,a,T] [I] es.size (fun i v=>(r.map fun p=>((es[p]?).getD default).2)[i]? = some v) (fun i h=>dF h a es ep t∧j5 h I (.ref T) i a es.size ep∧h.get? T=some oT) where
 sub:=fun b hb=>by simp at hb; simp [hb]
 frame:=fun _ _ _ st hk=>⟨st.1.at fun o e=>hk a (by simp) o e,st.2.1.at fun o e=>hk I (by simp) o e,hk T (by simp) _ st.2.2⟩
 item:=fun i s Q E hi st hQ=>by
  have hl:r.length=es.size:=by rw [hr.length_eq,List.length_range]
  have hi':i < r.length:=by omega
  have hp:r[i] < es.size:=List.mem_range.mp (hr.mem_iff.mp (ba hi'))
  have e1:r[i]? = some r[i]:=aa hi'
  have e2:es[r[i]]? = some (es[r[i]].1,es[r[i]].2):=by simp [hp]
  have hv:(r.map fun p=>((es[p]?).getD default).2)[i]? = some es[r[i]].2:=by
   rw [ab,e1]
   show some ((es[r[i]]?).getD default).2=_
   rw [e2]
   rfl
  refine wK (p:=r[i]) (tk:=0) st.1 hf st.2.1 st.2.2 hTd (by simp [rawInt,e1]) e2 fun h' h1 h2=>?_
  exact hQ _ h' s.toks hv ⟨st.1.at fun o e=>h2.extBut a o hne e,h1,h2.extBut T _ hnT st.2.2⟩ fun b o hb e=>h2.extBut b o (fun z=>hb (by simp [z])) e
 done:=fun s Q E st hQ=>by
  have hl:r.length=es.size:=by rw [hr.length_eq,List.length_range]
  exact Ae hh st.1 hf st.2.1 st.2.2 hTd (by simp [hl]) fun h' he=>hQ h' s.toks fun b o hb e=>he b o (fun z=>hb (by simp [z])) e
 self:=fun _ _ _ _ st hQ=>yP st.2.1 hQ
def J7 (t:SetTable) (i:Nat):Nat:=if i=0 then 0 else t.place.getD (i - 1) 0 + 1
theorem vo {t:SetTable} (hr:qC t.place) {i:Nat} (hi:i ≤ t.place.size):SetTable.below t.place (J7 t i)=i:=by
 unfold J7
 cases i with
 | zero=>exact below_at hr (fun k hk=>absurd hk (Nat.not_lt_zero _)) (fun _=>by simp) (Nat.zero_le _)
 | succ i =>
  rw [if_neg (by omega)]
  show SetTable.below t.place (t.place.getD i 0 + 1)=i + 1
  refine below_at hr (fun k hk=>?_) (fun h=>hr i (i + 1) (Nat.lt_succ_self _) h) hi
  rcases Nat.lt_or_ge k i with q | q
  ·have:=hr k i q (by omega)
   omega
  ·have e:k=i:=by omega
   rw [e]; omega
theorem wL (hh:A.handled=none) {a:Addr} {es:Array (Int × Value)} {ep:Nat} {t:SetTable} {Q:Value→Shared→Prop} (S:SI prog w s a es ep t) (hsz:es.size ≤ de)
  (h:∀ (I:Addr) (fp:List Addr) (order:List Value) (St:Nat→Heap→Prop) (h':Heap) (d:Drawn),List.Perm order (es.toList.map (·.2))→(∀ b ∈ fp,b < h'.objs.size)→s.heap.objs.size ≤ I→I ∈ fp→(∀ b ∈ fp,b=a∨s.heap.objs.size ≤ b)→Walks prog w A I fp [I] es.size (fun i v=>order[i]? = some v) St→St 0 h' →
   (∀ b o,s.heap.get? b=some o→h'.get? b=some o)→Q (.ref I) { s with heap:=h',drawn:=d }):wpAny (model prog w) A (pyIter (.ref a)) Q E s:=by
 have hlt:@LT.lt Nat _ a s.heap.objs.size:=S.hs.lt
 have hpl:t.place.size=es.size:=by
  have:=S.fit
  simp only [SetTable.fits,Bool.and_eq_true,beq_iff_eq] at this
  exact this.1
 refine Cu S hsz (fun hm=>?_) (fun r d hr=>?_)
 ·have hI:a ≠ s.heap.objs.size:=ij hlt
  have fpl:∀ b ∈ [s.heap.objs.size,a],b < (s.heap.push { cls:=.type "set_iterator",data:=.fields #[.int 0 0,.int 0 0,.ref a,.int es.size 0,.int ep 0] }).objs.size:=fun b hb=>by
   rw [size_push']
   simp at hb
   rcases hb with e | e
   ·rw [e]; exact Nat.lt_succ_self _
   ·rw [e]; exact Nat.lt_succ_of_lt hlt
  have st0:dF (s.heap.push { cls:=.type "set_iterator",data:=.fields #[.int 0 0,.int 0 0,.ref a,.int es.size 0,.int ep 0] }) a es ep t:=S.hs.at fun o e=>el _ e
  have si0:j5 (s.heap.push { cls:=.type "set_iterator",data:=.fields #[.int 0 0,.int 0 0,.ref a,.int es.size 0,.int ep 0] }) s.heap.objs.size (.int (0:Nat) 0) 0 a es.size ep:=⟨_,em _ rfl,rfl,rfl⟩
  by_cases hb:w.params.followText "set-order" = true
  ·have hp:=Ad (w.params.setOrder a ep) es
   have hpl':(pickOrder (w.params.setOrder a ep) es).size=es.size:=by rw [← Array.length_toList,hp.length_eq,Array.length_toList]
   refine h s.heap.objs.size _ ((pickOrder (w.params.setOrder a ep) es).toList.map (·.2)) _ _ s.drawn (hp.map _) fpl (ii _) (by simp) (fun b hb=>by simp at hb; rcases hb with e | e <;> subst e <;> simp)
    (rA hh hI S.fit _ (by rw [List.length_map,Array.length_toList]; exact hpl') (fun _=>0) (fun i v hv s' A' E' R hs' hR=>?_) (fun s' A' E' R hs' hR=>?_)) ⟨st0,si0⟩ (fun b o e=>el _ e)
   ·refine kx hb hs' S.fit ?_
    rw [ab,Array.getElem?_toList] at hv
    cases q:(pickOrder (w.params.setOrder a ep) es)[i]? with
    | none=>rw [q] at hv; cases hv
    | some x=>rw [q] at hv; cases hv; exact hR
   ·refine kx hb hs' S.fit ?_
    rw [Array.getElem?_eq_none (by omega)]
    exact hR
  ·have hb':w.params.followText "set-order" = false:=by simpa using hb
   have hp:(!t.plain && decide (es.size > 1))=false:=hm.resolve_left hb
   have Af:t.led=true:=S.led.resolve_left hb
   have hr:qC t.place:=by
    cases q:t.plain with
    | true=>exact S.inv.up q
    | false =>
     rw [q] at hp
     intro i k hik hk
     have:¬ es.size > 1:=by simpa using hp
     omega
   refine h s.heap.objs.size _ (es.toList.map (·.2)) _ _ s.drawn (List.Perm.refl _) fpl (ii _) (by simp) (fun b hb=>by simp at hb; rcases hb with e | e <;> subst e <;> simp)
    (rA hh hI S.fit _ (by rw [List.length_map,Array.length_toList]) (J7 t) (fun i v hv s' A' E' R hs' hR=>?_) (fun s' A' E' R hs' hR=>?_)) ⟨st0,si0⟩ (fun b o e=>el _ e)
   ·refine jR hb' hp Af hs' S.fit ?_
    rw [ab,Array.getElem?_toList] at hv
    cases q:es[i]? with
    | none=>rw [q] at hv; cases hv
    | some x =>
     rw [q] at hv; cases hv
     have hi:i < es.size:=by
      rcases Nat.lt_or_ge i es.size with z | z
      ·exact z
      ·rw [Array.getElem?_eq_none z] at q; cases q
     have e2:t.place[i]? = some (t.place.getD i 0):=by simp [Array.getD,hpl,hi]
     rw [vo hr (by omega),q,e2]
     exact hR
   ·refine jR hb' hp Af hs' S.fit ?_
    rw [vo hr (by omega),Array.getElem?_eq_none (ii _)]
    exact hR
 ·have hl:r.length=es.size:=by rw [hr.length_eq,List.length_range]
  have k1:∀ b o,s.heap.get? b=some o→((s.heap.push { cls:=.type "tuple",data:=.seq ((r.map fun (i:Nat)=>rawInt i).toArray) }).push { cls:=.type "set_iterator",data:=.fields #[.ref s.heap.objs.size,.int 0 0,.ref a,.int es.size 0,.int ep 0] }).get? b=some o:=fun b o e =>
   el _ (el _ e)
  have hs2:(s.heap.push { cls:=.type "tuple",data:=.seq ((r.map fun (i:Nat)=>rawInt i).toArray) }).objs.size=s.heap.objs.size + 1:=size_push' _ _
  have e1:(r.map fun p=>((es[p]?).getD default).2).Perm (es.toList.map (·.2)):=by
   refine (hr.map _).trans ?_
   have:(List.range es.size).map (fun p=>((es[p]?).getD default).2)=es.toList.map (·.2):=by
    apply List.ext_getElem
    ·simp
    ·intro i h1 h2
     simp at h1 h2
     simp [h1]
   rw [this]
  refine h (s.heap.objs.size + 1) _ _ _ _ d e1 (fun b hb=>?_) (Nat.le_succ _) ?_ (fun b hb=>?_) (vn (T:=s.heap.objs.size) (oT:={ cls:=.type "tuple",data:=.seq ((r.map fun (i:Nat)=>rawInt i).toArray) }) hh (ij (Nat.lt_succ_of_lt hlt)) (ij (Nat.lt_succ_self _)) S.fit r hr rfl)
   ⟨S.hs.at fun o e=>k1 a o e,⟨{ cls:=.type "set_iterator",data:=.fields #[.ref s.heap.objs.size,.int 0 0,.ref a,.int es.size 0,.int ep 0] },?_,rfl,rfl⟩,?_⟩ k1
  ·rw [size_push',hs2]
   simp at hb
   rcases hb with e | e | e
   ·rw [e]; exact Nat.lt_succ_self _
   ·rw [e]; exact Nat.lt_succ_of_lt (Nat.lt_succ_of_lt hlt)
   ·rw [e]; exact Nat.lt_succ_of_lt (Nat.lt_succ_self _)
  ·simp
  ·simp at hb
   rcases hb with e | e | e
   ·exact .inr (by rw [e]; exact Nat.le_succ _)
   ·exact .inl e
   ·exact .inr (by rw [e]; exact ii _)
  ·rw [show s.heap.objs.size.succ=_ from hs2.symm]
   exact em _ rfl
  ·exact el _ (em _ rfl)
theorem Cv (hT:s.TypeIs (.ref r) "set") {Q:Bool→Shared→Prop} (h:Q false s):wpAny (model prog w) A (Builtin.List.listLengthHint (.ref r)) Q E s:=by
 unfold Builtin.List.listLengthHint
 refine cb (wpAny_specialOf hT PySem.F.slot_set_len.lookup ?_)
 generalize hid:("set.__len__" : String)=id0
 wp_delta
 rw [show splitId id0=some ("set", "__len__") from by subst hid; decide +kernel]
 subst hid
 refine cb (wpAny_isInstance (T := "set") (b:=true) hT (by rw [isSubtype_type]; kernel_rfl) ?_)
 refine wpAny_ite_split (fun hab=>absurd hab (by decide)) (fun _=>?_)
 refine wpAny_ite_split (fun _=>?_) (fun hab=>absurd (by decide +kernel) hab)
 refine cb (wpAny_typeOf hT ?_)
 exact ce h
end
section
variable {prog:Program} {w:World} {A:Around} {E:Value→Shared→Prop} {s:Shared}
theorem wM (hh:A.handled=none) {a S:Addr} {es:Array (Int × Value)} {ep:Nat} {t:SetTable} {R:Result→Shared→Prop} (hS:SI prog w s a es ep t) (hsz:es.size ≤ de) (hne:S ≠ a) (res:Value) (c0:Nat)
  (hL:s.heap.get? S=some { cls:=.type "list",data:=.seq #[] c0 })
  (hR:∀ h' d tk (acc:Array Value) (order:List Value) c',(∀ b o,b ≠ S→s.heap.get? b=some o→h'.get? b=some o)→h'.get? S=some { cls:=.type "list",dict:=none,data:=.seq acc c',slots:=#[] } →
   List.Perm order (es.toList.map (·.2))→acc.toList=order→R (.ok (.ret res)) { s with heap:=h',toks:=tk,drawn:=d }) :
  wpAny (model prog w) A.in1 (Builtin.List.listExtendWith (.ref S) (.ref a) res)
   (fun fin s'=>match fin with | .done f=>R (.ok f) s' | .again c'=>c'.quiet=true∧codeAny (model prog w) A c' R s') (fun e s'=>R (.error e) s') s:=by
 unfold Builtin.List.listExtendWith
 refine cb (wpAny_typeOf (T := "set") hS.hs.typeIs ?_)
 have h1:Builtin.List.listSameRef (.ref S) (.ref a)=false:=by simp [Builtin.List.listSameRef,hne]
 rw [if_neg (by rw [h1]; decide)]
 refine cb (wL (A:=A.in1) hh hS hsz fun I fp order St h' d hp hfl hI hIm hfp W st hk=>?_)
 have R0:=et hL
 have hSf:S ∉ fp:=fun hm=>by
  rcases hfp S hm with e | e
  ·exact hne e
  ·exact absurd (Nat.lt_of_lt_of_le R0 e) (Nat.lt_irrefl _)
 have hol:order.length=es.size:=by rw [hp.length_eq,List.length_map,Array.length_toList]
 have key:∀ (h2:Heap) (c1 tk:Nat),St 0 h2→(∀ b o,b ≠ S→s.heap.get? b=some o→h2.get? b=some o)→h2.get? S=some { cls:=.type "list",data:=.seq #[] c1 } →
   codeAny (model prog w) A (.builtin "list.extend.loop" ⟨[.ref S,.ref I,res],[]⟩) R { s with heap:=h2,toks:=tk,drawn:=d }:=by
  intro h2 c1 tk hst hk2 hS1
  refine codeAny_extend_loopS W.toS hsz S hSf res es.size 0 _ #[] c1 rfl (Nat.zero_le _) hst hS1 (ItemsOf.nil _) fun s' acc' c' hm hS' hacc=>?_
  rw [Moved.eq_with hm]
  refine hR s'.heap d s'.toks acc' order c' (fun b o hb e=>hm.heap b o (fun hmem=>?_) (hk2 b o hb e)) hS' hp ?_
  ·rcases List.mem_cons.mp hmem with e' | hmem
   ·exact hb e'
   ·rw [av.mp hmem] at e
    exact absurd (et e) (Nat.not_lt.mpr hI)
  ·apply List.ext_getElem?
   intro i
   rw [Array.getElem?_toList]
   cases q:acc'[i]? with
   | none =>
    have:acc'.size ≤ i:=by
     rcases Nat.lt_or_ge i acc'.size with z | z
     ·rw [Array.getElem?_eq_getElem z] at q; cases q
     ·exact z
    rw [hacc.1] at this
    rw [List.getElem?_eq_none (by omega)]
   | some v=>exact (hacc.2 i v q).symm
 refine cb (wpAny_holding (Cv (s:={ s with heap:=h',drawn:=d }) (dF.typeIs (s:={ s with heap:=h',drawn:=d }) (hS.hs.at fun o e=>hk a o e)) ?_))
 have hS1:=hk _ _ hL
 refine wpAny_ite_split (fun _=>?_) (fun _=>ce ⟨plainId_quiet PySem.F.plain_extend_loop _,key _ c0 _ st (fun b o _ e=>hk b o e) hS1⟩)
 refine cb (wpAny_rule ?_)
 refine cb ?_
 show wpAny _ _ (updateSeq S (·.push .none) >>= fun _=>updateSeq S (·.pop)) _ _ _
 refine cb (wpAny_updateSeq hS1 rfl ?_)
 have hS2:=Heap.get?_update_self (Obj.mapSeq (·.push Value.none)) hS1 rfl
 refine wpAny_updateSeq (hz:=by seq_fits) hS2 rfl ?_
 have hS3:=Heap.get?_update_self (Obj.mapSeq (·.pop)) hS2 rfl
 refine ce ⟨plainId_quiet PySem.F.plain_extend_loop _,key _ _ _ ?_ (fun b o hb e=>?_) hS3⟩
 ·refine W.frame 0 _ _ st fun b hb o e=>?_
  have hbS:b ≠ S:=fun h=>hSf (h ▸ hb)
  exact (Heap.get?_update_other _ _ (Ne.symm hbS)).trans ((Heap.get?_update_other _ _ (Ne.symm hbS)).trans e)
 ·exact (Heap.get?_update_other _ _ (Ne.symm hb)).trans ((Heap.get?_update_other _ _ (Ne.symm hb)).trans (hk b o e))
theorem vp (hh:A.handled=none) {a:Addr} {es:Array (Int × Value)} {ep:Nat} {t:SetTable} {R:List Value→Shared→Prop} (hS:SI prog w s a es ep t) (hsz:es.size ≤ de)
  (h:∀ h' d tk (order:List Value),s.heap.objs.size < h'.objs.size→(∀ b o,s.heap.get? b=some o→h'.get? b=some o)→List.Perm order (es.toList.map (·.2))→R order { s with heap:=h',toks:=tk,drawn:=d }) :
  wpAny (model prog w) A (collect (.ref a)) R E s:=by
 have hlt:@LT.lt Nat _ a s.heap.objs.size:=hS.hs.lt
 unfold collect
 refine cb (wpAny_runValue (codeAny_builtin entry_proto_collect' ?_))
 rw [Around.under_plainId PySem.F.plain_proto_collect _]
 show wpAny _ A.in1 (newList [] >>= fun l=>again (.builtin "list.__iadd__" ⟨[l,.ref a],[]⟩)) _ _ s
 refine cb (wpAny_newObj_type ?_)
 refine ce ⟨plainId_quiet PySem.F.plain_list_iadd _,codeAny_builtin entry_list_iadd' ?_⟩
 rw [Around.under_plainId PySem.F.plain_list_iadd _]
 have hS1:(s.heap.push { cls:=.type "list",data:=.seq ([]:List Value).toArray }).get? s.heap.objs.size=some { cls:=.type "list",data:=.seq #[] }:=em _ rfl
 show wpAny _ A.in1 (Builtin.List.listExtendWith (.ref s.heap.objs.size) (.ref a) (.ref s.heap.objs.size)) _ _ _
 have S':SI prog w { s with heap:=s.heap.push { cls:=.type "list",data:=.seq ([]:List Value).toArray } } a es ep t:=⟨hS.hs.at fun o e=>el _ e,hS.fit,hS.inv,hS.led⟩
 have key:=wM (A:=A) (R:=fun (q:Result) (s':Shared)=>∃ (h':Heap) (d:Drawn) (tk:Nat) (acc:Array Value) (order:List Value) (c':Nat),q=.ok (.ret (.ref s.heap.objs.size))∧s'={ s with heap:=h',toks:=tk,drawn:=d } ∧
   (∀ b o,s.heap.get? b=some o→h'.get? b=some o)∧h'.get? s.heap.objs.size=some { cls:=.type "list",dict:=none,data:=.seq acc c',slots:=#[] }∧List.Perm order (es.toList.map (·.2))∧acc.toList=order)
  hh S' hsz (Nat.ne_of_gt hlt) (.ref s.heap.objs.size) 0 hS1
  (fun h' d tk acc order c' hk hL hp ha=>⟨h',d,tk,acc,order,c',rfl,rfl,fun b o e=>hk b o (ij (et e)) (el _ e),hL,hp,ha⟩)
 refine dL key (fun fin s' x=>?_) fun e s' x=>?_
 ·cases fin with
  | done f =>
   obtain ⟨h',d,tk,acc,order,c',e,rfl,hk,hL,hp,ha⟩:=x
   cases e
   show wpAny _ A (load s.heap.objs.size >>= _) _ _ _
   refine cb (wpAny_load hL ?_)
   refine ce ?_
   rw [ha]
   exact h h' d tk order (et hL) hk hp
  | again c1 =>
   refine ⟨x.1,codeAny_mono x.2 fun q s2 y=>?_⟩
   obtain ⟨h',d,tk,acc,order,c',rfl,rfl,hk,hL,hp,ha⟩:=y
   show wpAny _ A (load s.heap.objs.size >>= _) _ _ _
   refine cb (wpAny_load hL ?_)
   refine ce ?_
   rw [ha]
   exact h h' d tk order (et hL) hk hp
 ·obtain ⟨_,_,_,_,_,_,e',_⟩:=x
  cases e'
theorem lO:∀ {us vs:List Value},List.Perm us vs→∀ {ns:List Int},IntsAre vs ns→∃ ms,IntsAre us ms∧List.Perm ms ns:=by
 intro us vs hp
 induction hp with
 | nil=>intro ns h; cases h; exact ⟨[],.nil,.nil⟩
 | cons x _ ih =>
  intro ns h
  cases h with
  | cons n t r =>
   obtain ⟨ms,h1,h2⟩:=ih r
   exact ⟨n :: ms,.cons n t h1,h2.cons _⟩
 | swap x y l =>
  intro ns h
  cases h with
  | cons n t r =>
   cases r with
   | cons n' t' r'=>exact ⟨_,.cons _ _ (.cons _ _ r'),List.Perm.swap _ _ _⟩
 | trans _ _ ih1 ih2 =>
  intro ns h
  obtain ⟨ms,h1,h2⟩:=ih2 h
  obtain ⟨EK,h3,h4⟩:=ih1 h1
  exact ⟨EK,h3,h4.trans h2⟩
theorem wN (hh:A.handled=none) {a:Addr} {es:Array (Int × Value)} {ep:Nat} {t:SetTable} {ns:List Int} {Q:Value→Shared→Prop} (hS:SI prog w s a es ep t) (hI:IntsAre (es.toList.map (·.2)) ns) (h64:ns.length < 64)
  (h:∀ (D:Addr) (h':Heap) (d:Drawn) (tk:Nat) (out:Array Value) (ms:List Int) (c:Nat),s.heap.objs.size ≤ D→(∀ b o,s.heap.get? b=some o→h'.get? b=some o)→h'.get? D=some { cls:=.type "list",data:=.seq out c }→IntsAre out.toList ms→ms.Perm ns→ms.Pairwise (· ≤ ·) →
   Q (.ref D) { s with heap:=h',toks:=tk,drawn:=d }) :
  wpAny (model prog w) A (call (.builtin "sorted") [.ref a]) Q E s:=by
 have hl:es.size=ns.length:=by rw [← IntsAre.length hI,List.length_map,Array.length_toList]
 have hsz:es.size ≤ de:=by rw [hl,sizeLine_eq]; omega
 refine call_function_entry kind_sorted plain_sorted entry_sorted (args_sorted1 _) ?_
 unfold Builtin.«sorted»
 refine cb (m:=checkCount "sorted" 1 1 _) (ce ?_)
 refine cb (vp (A:=A.in1) hh hS hsz fun h' d tk order hlt hk hp=>?_)
 obtain ⟨ms,hms,hmp⟩:=lO hp hI
 have hol:order.length=ns.length:=by rw [IntsAre.length hms,hmp.length_eq]
 refine cb (wpAny_newList ?_ (by rw [hol,← hl]; exact hsz))
 have hD:(h'.push (seqObj "list" order.toArray 0)).get? h'.objs.size=some (seqObj "list" order.toArray 0):=em _ rfl
 refine cb (wpAny_holding (eh slot_list_sort ⟨_,hD,rfl⟩ entry_list_sort (list_sort_tree hD hms (by omega) fun out EK a1 a2 a3=>⟨_,rfl,?_⟩) (args_list_sort _)))
 obtain ⟨c,hc⟩:=sortedHeap_at (out:=out) hD
 refine ce ⟨_,rfl,h h'.objs.size _ d tk out EK c (Nat.le_of_lt hlt) (fun b o e=>?_) hc a1 (a2.trans hmp) a3⟩
 have hb:=et (hk b o e)
 rw [sortedHeap_old (ij hb) (by rw [size_push']; exact Nat.lt_succ_of_lt hb)]
 exact el _ (hk b o e)
end
def jL (prog:Program) (w:World) (h:Heap) (a:Addr) (us:List Int):Prop :=
 ∃ es ep t,dF h a es ep t∧t.fits es.size=true∧oR t∧(w.params.followText "set-order" = true∨t.led=true)∧ElemsOf (intKind prog w) es.toList∧IntsAre (es.toList.map (·.2)) us∧us.Nodup
theorem jL.at {prog:Program} {w:World} {h h':Heap} {a:Addr} {us:List Int} (x:jL prog w h a us) (e:∀ o,h.get? a=some o→h'.get? a=some o):jL prog w h' a us:=by
 obtain ⟨es,ep,t,hs,r⟩:=x
 exact ⟨es,ep,t,hs.at e,r⟩
theorem vq:∀ {vs:List Value} {us:List Int} {k:Int},IntsAre vs us→(k ∈ us↔∃ v ∈ vs,Value.isInt k v=true)
 | _,_,k,.nil=>by simp
 | _,_,k,.cons n t r=>by
  have ih:=vq (k:=k) r
  rw [List.mem_cons,ih]
  constructor
  ·rintro (e | ⟨v,hv,e⟩)
   ·subst e
    exact ⟨_,List.mem_cons_self,by simp [Value.isInt]⟩
   ·exact ⟨v,List.mem_cons_of_mem _ hv,e⟩
  ·rintro ⟨v,hv,e⟩
   rcases List.mem_cons.mp hv with z | z
   ·subst z
    exact .inl (by have q:n=k:=(by simpa [Value.isInt] using e); exact q.symm)
   ·exact .inr ⟨v,z,e⟩
theorem ints_snoc:∀ {vs:List Value} {us:List Int} (k:Int) (t:Tok),IntsAre vs us→IntsAre (vs ++ [.int k t]) (us ++ [k])
 | _,_,k,t,.nil=>.cons k t .nil
 | _,_,k,t,.cons n t' r=>.cons n t' (ints_snoc k t r)
section
variable {prog:Program} {w:World} {A:Around} {E:Value→Shared→Prop} {s:Shared}
theorem yQ {h:Heap} {a:Addr} {es es':Array (Int × Value)} {ep:Nat} {t t':SetTable} {us:List Int} (hs:dF h a es ep t) (hf:t'.fits es'.size=true) (hi:oR t') (hl:w.params.followText "set-order" = true∨t'.led=true)
  (hel:ElemsOf (intKind prog w) es'.toList) (hI:IntsAre (es'.toList.map (·.2)) us) (hn:us.Nodup):dF (h.update a (Obj.putSet es' t')) a es' (ep + 1) t'∧jL prog w (h.update a (Obj.putSet es' t')) a us:=by
 obtain ⟨o,ho,hex,hd⟩:=hs
 have hg:(h.update a (Obj.putSet es' t')).get? a=some { o with data:=.set es' (ep + 1) t' }:=by
  have z:=Heap.get?_update_self (Obj.putSet es' t') ho (by rw [putSet_of es' t' hd]; rfl)
  rw [putSet_of es' t' hd] at z
  exact z
 have q:dF (h.update a (Obj.putSet es' t')) a es' (ep + 1) t':=⟨_,hg,hex,rfl⟩
 exact ⟨q,es',ep + 1,t',q,hf,hi,hl,hel,hI,hn⟩
theorem Ag {es es':Array (Int × Value)} {c:Int} {x:Value} (hp:List.Perm es'.toList (es.push (c,x)).toList):List.Perm (es'.toList.map (·.2)) (es.toList.map (·.2) ++ [x]):=by
 refine (hp.map _).trans ?_
 rw [Array.toList_push,List.map_append]
 exact List.Perm.refl _
theorem Fq {t:SetTable} (h:oR t):oR { t with plain:=false }:=⟨h.Q5,fun z=>by cases z⟩
theorem add_int {a:Addr} {us:List Int} {k:Int} {tk:Tok} {Q:Bool→Shared→Prop} (hS:jL prog w s.heap a us) (hroom:us.length + 1 < scanBound)
  (h:∀ (b:Bool) (h':Heap) (us':List Int),Heap.SameBut a s.heap h'→jL prog w h' a us'→(∀ j,j ∈ us'↔j ∈ us∨j=k)→us'.length ≤ us.length + 1→Q b { s with heap:=h' }) :
  wpAny (model prog w) A (setAddHashed a (.int k tk) ((intKind prog w).hash k)) Q E s:=by
 obtain ⟨es,ep,t,hs,hf,hi,hl,hel,hI,hn⟩:=id hS
 obtain ⟨o,ho,hex,hd⟩:=id hs
 have hsz:es.size=us.length:=by rw [← IntsAre.length hI,List.length_map,Array.length_toList]
 have hmem:k ∈ us↔∃ e ∈ es.toList,(intKind prog w).is k e.2=true:=by
  rw [vq hI]
  constructor
  ·rintro ⟨v,hv,e⟩
   obtain ⟨p,hp,rfl⟩:=List.mem_map.mp hv
   exact ⟨p,hp,e⟩
  ·rintro ⟨p,hp,e⟩
   exact ⟨p.2,List.mem_map.mpr ⟨p,hp,rfl⟩,e⟩
 unfold setAddHashed setAddHashedIn
 refine wpAny_holding (cb (wpAny_setState_of ho hd hf ?_))
 dsimp only
 rw [byScan_of (knd:=intKind prog w) (x:=.int k tk) rfl (by omega) hel]
 simp only [↓reduceIte]
 unfold setAddByScan
 refine cb ?_
 refine cb (wpAny_rule ?_)
 refine cb (wpAny_setScan_of (knd:=intKind prog w) (intKind_is _ _ _ _) ho hd hf hel ?_)
 cases hr:List.findIdx? (fun e=>(intKind prog w).is k e.2) es.toList with
 | some j =>
  dsimp only
  obtain ⟨hj,hpj,_⟩:=List.findIdx?_eq_some_iff_getElem.mp hr
  have hk:k ∈ us:=hmem.mpr ⟨es.toList[j],ba hj,hpj⟩
  refine ce (ce ?_)
  exact h false s.heap us (Heap.SameBut.refl a s.heap) hS (fun i=>⟨.inl,fun z=>z.elim id fun e=>e ▸ hk⟩) (Nat.le_succ _)
 | none =>
  dsimp only
  have hk:k ∉ us:=fun z=>by
   obtain ⟨e,he,q⟩:=hmem.mp z
   have:=List.findIdx?_eq_none_iff.mp hr e he
   rw [q] at this
   cases this
  have hperm:=layNew_perm t es ((intKind prog w).hash k) (.int k tk)
  have hfits:=layNew_fits t es ((intKind prog w).hash k) (.int k tk)
  have hinv:=wJ es ((intKind prog w).hash k) (.int k tk) hi
  generalize hL:layNew t es ((intKind prog w).hash k) (.int k tk)=L at hperm hfits hinv ⊢
  obtain ⟨es1,t1,wd,gave⟩:=L
  dsimp only at hperm hfits hinv ⊢
  have hel1:ElemsOf (intKind prog w) es1.toList:=by
   have z:=hperm
   rw [Array.toList_push] at z
   exact (hel.push (intKind_is _ _ _ _) rfl).perm z
  obtain ⟨J8,Sb,hp1⟩:=lO (Ag hperm) (ints_snoc k tk hI)
  have hn1:J8.Nodup:=hp1.nodup_iff.mpr (by
   rw [List.nodup_append]
   exact ⟨hn,by simp,fun x hx y hy=>by rw [av.mp hy]; rintro rfl; exact hk hx⟩)
  have hl1:J8.length=us.length + 1:=by rw [hp1.length_eq,al]; rfl
  have hm1:∀ j,j ∈ J8↔j ∈ us∨j=k:=fun j=>by rw [hp1.mem_iff,List.mem_append,av]
  have hsz1:es1.size=J8.length:=by rw [← IntsAre.length Sb,List.length_map,Array.length_toList]
  have hb1:es1.size < scanBound:=by omega
  have hgw:∀ (b:Bool) {s₁:Shared} {Q':Unit→Shared→Prop},Q' () s₁→wpAny (model prog w) A (match b with | true=>rule "set.scan.the-table-gave-way" | false=>pure ()) Q' E s₁ :=
   fun b s₁ Q' hq=>by cases b <;> first | exact ce hq | exact wpAny_rule hq
  refine cb (hgw _ ?_)
  have tail:∀ t2:SetTable,t2.fits es1.size=true→oR t2→(w.params.followText "set-order" = true∨t2.led=true)→∀ (g:Bool→Sem Unit) (wd':Bool) (R:Option Bool→Shared→Prop),
    (∀ (b:Bool) (s₁:Shared) (Q':Unit→Shared→Prop),Q' () s₁→wpAny (model prog w) A (g b) Q' E s₁)→(∀ h' us',Heap.SameBut a s.heap h'→jL prog w h' a us'→us'.Perm J8→R (some true) { s with heap:=h' }) →
    wpAny (model prog w) A (storeSet a es1 t2 >>= fun _=>if (!wd' && t2.tooFull)=true then (g (relayAll t2 es1 (SetTable.grown es1.size)).2.2 >>= fun _=>storeSet a (relayAll t2 es1 (SetTable.grown es1.size)).1 (relayAll t2 es1 (SetTable.grown es1.size)).2.1 >>= fun _=>pure (some true)) else pure (some true)) R E s:=by
   intro t2 f2 i2 l2 g wd' R hg hR
   refine cb (wpAny_storeSet_of ho hd ?_ (fits_of_scanBound hb1))
   obtain ⟨q1,q2⟩:=yQ (prog:=prog) (w:=w) hs f2 i2 l2 hel1 Sb hn1
   have sb1:=Heap.SameBut.update s.heap a (Obj.putSet es1 t2)
   split
   ·have rp:=relayAll_perm t2 es1 (SetTable.grown es1.size)
    have rf:=relayAll_fits t2 es1 (SetTable.grown es1.size)
    have ri:=sy (t:=t2) es1 (SetTable.grown es1.size)
    generalize relayAll t2 es1 (SetTable.grown es1.size)=Rl at rp rf ri ⊢
    obtain ⟨es2,t3,gave2⟩:=Rl
    dsimp only at rp rf ri ⊢
    obtain ⟨Nc,hI2,hp2⟩:=lO (rp.map (·.2)) Sb
    refine cb (hg _ _ _ ?_)
    obtain ⟨o1,ho1,hex1,hd1⟩:=id q1
    have e2:es2.size=es1.size:=by rw [← Array.length_toList,rp.length_eq,Array.length_toList]
    refine cb (wpAny_storeSet_of ho1 hd1 ?_ (fits_of_scanBound (by rw [e2]; exact hb1)))
    obtain ⟨_,q3⟩:=yQ (prog:=prog) (w:=w) q1 rf ri.1 (l2.imp id fun z=>ri.2.trans z) (hel1.perm rp) hI2 (hp2.nodup_iff.mpr hn1)
    exact ce (hR _ Nc (sb1.trans (Heap.SameBut.update _ a _)) q3 hp2)
   ·exact ce (hR _ J8 sb1 q2 (List.Perm.refl _))
  have fin:∀ h' us',Heap.SameBut a s.heap h'→jL prog w h' a us'→us'.Perm J8→Q true { s with heap:=h' }:=fun h' us' x1 x2 x3 =>
   h true h' us' x1 x2 (fun j=>by rw [x3.mem_iff]; exact hm1 j) (by rw [x3.length_eq,hl1]; exact ii _)
  have J9:w.params.followText "set-order" = true∨t1.led=true:=hl.imp id fun z=>hinv.2.trans z
  split
  ·refine cb ?_
   rw [hashByValue_scannable 8 (x:=.int k tk) rfl]
   refine ce ?_
   refine tail _ ?_ ?_ ?_ _ wd _ ?_ fun h' us' x1 x2 x3=>?_
   ·split
    ·exact hfits
    ·exact SetTable.fits_plain_off hfits
   ·split
    ·exact hinv.1
    ·exact Fq hinv.1
   ·split
    ·exact J9
    ·exact J9
   ·intro b s₁ Q' hq; cases b <;> first | exact ce hq | exact wpAny_rule hq
   ·exact ce (fin h' us' x1 x2 x3)
  ·refine cb (ce ?_)
   simp only [↓reduceIte]
   refine tail _ hfits hinv.1 J9 _ wd _ ?_ fun h' us' x1 x2 x3=>?_
   ·intro b s₁ Q' hq; cases b <;> first | exact ce hq | exact wpAny_rule hq
   ·exact ce (fin h' us' x1 x2 x3)
theorem vt {R:Result→Shared→Prop} {I:Addr} {fp wr:List Addr} {G:Array GenState→Array GenState→Prop} {n:Nat} {P:Nat→Value→Prop} {St:Nat→Shared→Prop} (W:WalksS prog w A.in1 I fp wr G n P St) (S:Addr) (hSf:S ∉ fp)
  (val:Nat→Int) (hval:∀ i v,P i v→∃ t,v=.int (val i) t) (hb:n + 1 < scanBound) :
  ∀ (k i:Nat) (s:Shared) (us:List Int),n - i=k→i ≤ n→St i s→jL prog w s.heap S us→us.length ≤ i→(∀ j,j ∈ us↔∃ m,m < i∧val m=j) →
   (∀ s' us',Moved (S :: wr) G s s'→jL prog w s'.heap S us'→us'.length ≤ n→(∀ j,j ∈ us'↔∃ m,m < n∧val m=j)→R (.ok (.ret .none)) s') →
   codeAny (model prog w) A (.builtin "set.update.loop" ⟨[.ref S,.ref I],[]⟩) R s:=by
 have hSw:S ∉ wr:=fun h=>hSf (W.sub _ h)
 have hsub:∀ b ∈ wr,b ∈ S :: wr:=fun b hb=>List.mem_cons_of_mem _ hb
 intro k
 induction k with
 | zero =>
  intro i s us hk hi hst hS hlen hmem hR
  have hin:i=n:=by omega
  subst hin
  refine codeAny_builtin PyProof.Rows.F.entry_set_update_loop ?_
  rw [Around.under_plainId PyProof.Rows.F.plain_set_update_loop _]
  show wpAny _ A.in1 (pyNext (.ref I) >>= _) _ _ s
  refine cb (W.done s _ _ hst fun s' hm=>?_)
  show wpAny _ A.in1 (ret Value.none) _ _ s'
  exact ce (hR s' us (hm.mono hsub) (hS.at fun o e=>hm.heap S o hSw e) hlen hmem)
 | succ k ih =>
  intro i s us hk hi hst hS hlen hmem hR
  have hlt:i < n:=by omega
  refine codeAny_builtin PyProof.Rows.F.entry_set_update_loop ?_
  rw [Around.under_plainId PyProof.Rows.F.plain_set_update_loop _]
  show wpAny _ A.in1 (pyNext (.ref I) >>= _) _ _ s
  refine cb (W.item i s _ _ hlt hst fun v s' hP hst' hm=>?_)
  obtain ⟨t,rfl⟩:=hval i v hP
  have hS':jL prog w s'.heap S us:=hS.at fun o e=>hm.heap S o hSw e
  show wpAny _ A.in1 (holding [Value.int (val i) t] (setAdd S (.int (val i) t)) >>= _) _ _ s'
  refine cb (wpAny_holding ?_)
  unfold setAdd
  refine wpAny_holding ?_
  refine cb ((intKind prog w).pyHash (k:=val i) (intKind_is _ _ _ _) ?_)
  refine add_int (s:={ s' with toks:=s'.toks + 1 }) hS' (by omega) fun b h' us' hsb hS2 hm2 hl2=>?_
  refine ce ⟨plainId_quiet PyProof.Rows.F.plain_set_update_loop _,ih (i + 1) _ us' (by omega) hlt (W.frame _ s' _ _ hst' (Nat.le_succ _) fun b hb o e=>?_) hS2 (by omega) (fun j=>?_) fun s'' Sd hm'' hS'' hl'' hmem''=>?_⟩
  ·rw [hsb.2 b (fun h:b=S=>hSf (by rw [← h]; exact hb))]; exact e
  ·rw [hm2,hmem]
   constructor
   ·rintro (⟨m,h1,h2⟩ | e)
    ·exact ⟨m,by omega,h2⟩
    ·exact ⟨i,by omega,e.symm⟩
   ·rintro ⟨m,h1,h2⟩
    rcases Nat.lt_or_ge m i with q | q
    ·exact .inl ⟨m,q,h2⟩
    ·have e:m=i:=by omega
     subst e
     exact .inr h2.symm
  ·refine hR s'' Sd (Moved.trans W.gtrans ((hm.mono hsub).then_heap (Nat.le_succ _) fun b o hb e=>?_) hm'') hS'' hl'' hmem''
   rw [hsb.2 b (fun h:b=S=>hb (by rw [h]; exact List.mem_cons_self))]; exact e
theorem Fs (a:Value) {Q₁:Value→Shared→Prop}
  (h:Q₁ (.ref s.heap.objs.size) { s with heap:=s.heap.push { cls:=.type "set",dict:=none,data:=.set #[] 0 (.fresh 0 0 (!w.params.followText "set-order")) } }) :
  codeAny (model prog w) A (.call (.builtin "set.__new__") ⟨[.type "set",a],[]⟩) (wants Q₁ E) s:=by
 refine codeAny_of_tree ?_
 show wpAny _ A.in1 (do checkBuiltinCall "set.__new__" ⟨[.type "set",a],[]⟩; again (.builtin "set.__new__" ⟨[.type "set",a],[]⟩)) _ _ s
 refine cb (wpAny_of_eq (PySem.F.newCall_set_1 a) (ce ⟨plainId_quiet PySem.F.plain_set_new _,codeAny_builtin PySem.F.entry_set_new ?_⟩))
 rw [Around.under_plainId PySem.F.plain_set_new _]
 unfold Builtin.«set.__new__» Builtin.Frozenset.newClass
 have hsub:=sub_set_self
 obtain ⟨hp,g,d,tk,os⟩:=s
 dsimp only
 wp_walk
 refine wpAny_askSetting (ce ?_)
 dsimp only
 simp only [newObj]
 refine cb (wpAny_alloc (ce ?_))
 exact ce h
set_option maxHeartbeats 8000000 in
theorem Cw {l:Addr} {items:Array Value} {ns:List Int} {Q:Value→Shared→Prop} (hh:A.handled=none) (hl:s.heap.IsList l items) (hi:IntsAre items.toList ns) (hb:items.size + 1 < scanBound)
  (h:∀ (h':Heap) (tk:Nat) (us:List Int),jL prog w h' s.heap.objs.size us→us.length ≤ ns.length→(∀ j,j ∈ us↔j ∈ ns)→(∀ b o,b < s.heap.objs.size→s.heap.get? b=some o→h'.get? b=some o)→Q (.ref s.heap.objs.size) { s with heap:=h',toks:=tk }) :
  wpAny (model prog w) A (call (.type "set") [.ref l]) Q E s:=by
 obtain ⟨c,tl,hmro⟩:=PySem.F.called_set.mro
 have hmade:=PySem.F.called_set.made
 have hsub:=PySem.F.called_set.sub
 refine wpAny_call (codeAny_of_tree ?_)
 show wpAny _ _ (callAny (.type "set") _) _ _ _
 refine ce ⟨Code.quiet_builtin _ (by decide +kernel),codeAny_builtin PySem.F.entry_type_call ?_⟩
 rw [Around.under_plain (weight_type_call_type "set" [.ref l] []) rfl]
 have h1:=PySem.F.called_set.notType
 have h2:=PySem.F.called_set.canCreate
 have hct:=PySem.F.typeCall_set_1 (.ref l)
 generalize Af:(!w.params.followText "set-order")=led
 repeat (any_goals (first | assumption | wp_step))
 refine codeAny_mono (Fs (prog:=prog) (w:=w) (.ref l) (E:=E) (Q₁:=fun obj s₁=>obj=.ref s.heap.objs.size∧s₁={ s with heap:=s.heap.push { cls:=.type "set",dict:=none,data:=.set #[] 0 (.fresh 0 0 led) } }) (by rw [Af]; exact ⟨rfl,rfl⟩)) fun r s₁ hr=>?_
 have Se:w.params.followText "set-order" = true∨led=true:=by
  cases q:w.params.followText "set-order" with
  | true=>exact .inl rfl
  | false=>rw [q] at Af; exact .inr Af.symm
 cases r with
 | error e=>exact hr
 | ok fl =>
  cases fl with
  | next=>exact hr.elim
  | brk=>exact hr.elim
  | cont=>exact hr.elim
  | ret obj =>
   obtain ⟨rfl,rfl⟩:=hr
   have hS:(s.heap.push { cls:=.type "set",dict:=none,data:=.set #[] 0 (.fresh 0 0 led) }).get? s.heap.objs.size=some { cls:=.type "set",dict:=none,data:=.set #[] 0 (.fresh 0 0 led) }:=em _ rfl
   have hT:Shared.TypeIs { s with heap:=s.heap.push { cls:=.type "set",dict:=none,data:=.set #[] 0 (.fresh 0 0 led) } } (.ref s.heap.objs.size) "set" := ⟨_,hS,rfl⟩
   have hli:=PySem.F.called_set.init.lookup
   have hbi:=PySem.F.called_set.init.bind (.ref s.heap.objs.size)
   repeat (any_goals (first | assumption | wp_step))
   refine codeAny_mono (codeAny_call_builtin (R:=wants (fun r s₂=>r=.none∧∃ h' tk us,s₂={ s with heap:=h',toks:=tk }∧jL prog w h' s.heap.objs.size us∧us.length ≤ ns.length∧(∀ j,j ∈ us↔j ∈ ns) ∧
     (∀ b o,b < s.heap.objs.size→s.heap.get? b=some o→h'.get? b=some o)) E) PySem.F.called_set.init.plain PySem.F.entry_set_init (check_set_init_1 hT ?_)) fun r₂ s₂ hr₂=>?_
   ·obtain ⟨ol,hol,hcl,nl,hdl⟩:=hl
    obtain ⟨ocls,odict,odata,oslots⟩:=ol
    simp only at hcl hdl
    subst hcl; subst hdl
    have hol':(s.heap.push { cls:=.type "set",dict:=none,data:=.set #[] 0 (.fresh 0 0 led) }).get? l=some { cls:=.type "list",dict:=odict,data:=.seq items nl,slots:=oslots }:=el _ hol
    have hsls:=PySem.F.sub_list_set
    have hslf:=PySem.F.sub_list_frozenset
    have hne:(Value.type "list" == Value.type "dict")=false:=by decide
    have hl1:(s.heap.push { cls:=.type "set",dict:=none,data:=.set #[] 0 (.fresh 0 0 led) }).IsList l items:=⟨_,hol',rfl,nl,rfl⟩
    unfold Builtin.«set.__init__» noKeywords Builtin.Frozenset.updateFrom
    generalize hPI:pyIter=PI
    wp_walk
    subst hPI
    refine wpAny_pyIter_list hl1 ?_
    refine cb (wpAny_runValue ?_)
    have hlS:l < s.heap.objs.size:=et hol
    have hh3:A.in1.in1.in1.handled=none:=by simp [hh]
    have hneI:l ≠ (s.heap.push { cls:=.type "set",dict:=none,data:=.set #[] 0 (.fresh 0 0 led) }).objs.size:=by
     rw [Heap.size_push]; exact ij (Nat.lt_succ_of_lt hlS)
    have hSf:s.heap.objs.size ∉ [(s.heap.push { cls:=.type "set",dict:=none,data:=.set #[] 0 (.fresh 0 0 led) }).objs.size,l]:=by
     rw [Heap.size_push]; simp only [List.mem_cons,av,List.not_mem_nil,or_false,not_or]
     exact ⟨ij (Nat.lt_succ_self _),Nat.ne_of_gt hlS⟩
    have hval:∀ (i:Nat) (v:Value),items[i]? = some v→∃ t,v=.int ((fun i=>ns.getD i 0) i) t:=fun i v hv =>
     IntsAre.int_at hi i v (by rw [Array.getElem?_toList]; exact hv)
    have hnl:ns.length=items.size:=by rw [← IntsAre.length hi,Array.length_toList]
    refine vt ((Walks.list hh3 _ l hneI items).toS) s.heap.objs.size hSf (fun i=>ns.getD i 0) hval hb (items.size - 0) 0 _ [] (by omega) (Nat.zero_le _)
     ⟨⟨_,em _ rfl,rfl,rfl⟩,(hl1.push _)⟩ ?hS0 (Nat.zero_le _) (fun j=>by simp) ?hR
    case hS0 =>
     have hget:((s.heap.push { cls:=.type "set",dict:=none,data:=.set #[] 0 (.fresh 0 0 led) }).push { cls:=.type "list_iterator",data:=.fields #[.ref l,.int 0 0] }).get? s.heap.objs.size
       = some { cls:=.type "set",dict:=none,data:=.set #[] 0 (.fresh 0 0 led) }:=el _ hS
     exact ⟨#[],0,.fresh 0 0 led,⟨_,hget,⟨rfl,rfl,rfl⟩,rfl⟩,by rfl,⟨rfl,fun _ i k _ hk=>by simp [SetTable.fresh] at hk⟩,Se,fun e he=>by simp at he,.nil,List.nodup_nil⟩
    case hR =>
     intro s' us hm hS' hlen hmem
     obtain ⟨h',g',d',tk',os'⟩:=s'
     have eg:g'=s.gens:=hm.gens
     have ed:d'=s.drawn:=hm.drawn
     have eo:os'=s.os:=hm.os
     subst eg; subst ed; subst eo
     show wpAny _ _ _ _ _ _
     refine ce ?_
     show wpAny _ _ (ret Value.none) _ _ _
     refine ce ⟨rfl,h',tk',us,rfl,hS',by omega,fun j=>?_,fun b o hb e=>?_⟩
     ·rw [hmem]
      constructor
      ·rintro ⟨m,h1,h2⟩
       have hm':m < ns.length:=by omega
       rw [← h2]
       show ns.getD m 0 ∈ ns
       rw [List.getD_eq_getElem?_getD,aa hm']
       exact ba hm'
      ·intro hj
       obtain ⟨m,hm',e⟩:=List.getElem_of_mem hj
       refine ⟨m,by omega,?_⟩
       show ns.getD m 0=j
       rw [List.getD_eq_getElem?_getD,aa hm']
       exact e
     have hb1:b ≠ s.heap.objs.size:=ij hb
     have hb2:b ≠ (s.heap.push { cls:=.type "set",dict:=none,data:=.set #[] 0 (.fresh 0 0 led) }).objs.size:=by
      rw [Heap.size_push]; exact ij (Nat.lt_succ_of_lt hb)
     exact hm.heap b o (by simp only [List.mem_cons,av,List.not_mem_nil,or_false,not_or]; exact ⟨hb1,hb2⟩) (el _ (el _ e))
   ·cases r₂ with
    | error e=>exact hr₂
    | ok fl₂ =>
     cases fl₂ with
     | ret r =>
      obtain ⟨rfl,h',tk,us,rfl,hS',h1',h2',hk'⟩:=hr₂
      repeat (any_goals (first | assumption | wp_step))
      exact h _ _ us hS' h1' h2' hk'
     | _=>exact hr₂.elim
end
end SF
namespace L2
open PySem PySem.Spec PyProof.Rows
def oU (P:Program) (w:World) (l:Addr) (us:List Int):HO:=.ext fun h=>SF.jL P w h l us
theorem wO {P:Program} {w:World} {h:Heap} {l:Addr} {us:List Int} (x:SF.jL P w h l us):∃ o,h.get? l=some o:=by
 obtain ⟨_,_,_,⟨o,ho,_⟩,_⟩:=x
 exact ⟨o,ho⟩
section
variable {X:Cx}
theorem jh (hc:X.calm=true):iG X (.type "set") (fun xs H Q=>∃ (p:Addr) (ns:List Int),xs=[.ref p]∧bj X.K H p (ns.map V.int)∧ns.length < 4000∧∀ (l:Addr) (us:List Int),H l=none→us.length ≤ ns.length→us.Nodup→(∀ j,j ∈ us↔j ∈ ns)→Q (.ref l) (upd H l (oU X.prog X.w l us))):=by
 intro pins s σ H xs Q6 Q I r h
 obtain ⟨p,ns,rfl,hp,hz,q⟩:=h
 obtain ⟨u,rfl,ru⟩:=vals1 r
 cases ru
 obtain ⟨its,hv,pl,_⟩:=I.list hp
 have hi:=intsAre_of hv
 have hl:its.length=ns.length:=IntsAre.length hi
 refine SF.Cw (I.ok.hd hc) (items:=its.toArray) (ns:=ns) pl.isList (by simpa using hi) (by rw [ag,hl]; unfold scanBound; omega) fun h' tk us hS h1 h2 hk=>?_
 have hn:us.Nodup:=by obtain ⟨_,_,_,_,_,_,_,_,_,hn⟩:=hS; exact hn
 refine ⟨.ref s.heap.objs.size,upd H s.heap.objs.size (oU X.prog X.w s.heap.objs.size us),I.laid (fun b o e=>hk b o (et e) e) (ii _) ?_,rfl,q _ us I.fresh h1 hn h2⟩
 exact ⟨hS,wO hS,fun h1 h2 x e=>SF.jL.at x e⟩
theorem g6 (hc:X.calm=true):iG X (.builtin "sorted") (fun xs H Q=>∃ (p:Addr) (us:List Int),xs=[.ref p]∧H p=some (oU X.prog X.w p us)∧us.length < 64∧∀ (l:Addr) (ms:List Int),H l=none→ms.Perm us→ms.Pairwise (· ≤ ·)→Q (.ref l) (upd H l (.lst (ms.map V.int)))):=by
 intro pins s σ H xs Q6 Q I r h
 obtain ⟨p,us,rfl,hp,hz,q⟩:=h
 obtain ⟨u,rfl,ru⟩:=vals1 r
 cases ru
 obtain ⟨hS,_,_⟩:=(show cH X.prog X.w H s.heap p (oU X.prog X.w p us) from I.hok p _ hp)
 obtain ⟨es,ep,t,a1,a2,a3,a4,a5,a6,a7⟩:=hS
 refine SF.wN (I.ok.hd hc) (ns:=us) ⟨a1,a2,a3,a4⟩ a6 hz fun D h' d tk out ms c hD hk hg hI hperm EL=>?_
 have hl:ms.length < 64:=by rw [hperm.length_eq]; exact hz
 have nD:H D=none:=I.hok.fresh hD
 have new:cH X.prog X.w (upd H D (.lst (ms.map V.int))) h' D (.lst (ms.map V.int)):=⟨by rw [List.length_map,sizeLine_eq]; omega,out.toList,c,lM hI,by rw [hg]⟩
 refine ⟨.ref D,upd H D (.lst (ms.map V.int)),I.call (g':=s.gens) (d':=d) (t':=tk) (ch:=[]) (Un.laid hk hD nD) (I.hok.laid hk hD new) I.bare (fun b z=>absurd z (by simp)),rfl,q D ms nD hperm EL⟩
theorem cK:iG X (.builtin "isinstance") (fun xs H Q=>∃ (x:V) (n:String) (t:Value) (b:Bool),xs=[x,.ty n]∧kl X.K H x t∧PySem.W.kitOne X.K t (.type n)=some b∧Q (.bl b) H):=by
 intro pins s σ H xs us Q I r h
 obtain ⟨x,n,t,b,rfl,ht,hk,q⟩:=h
 obtain ⟨u,v,rfl,ru,rv⟩:=vals2 r
 cases rv
 exact zW I ru ht hk fun tk=>⟨.bl b,H,I.tok tk,rfl,q⟩
def Ka (a b:V):Prop:=(∃ p,a=.ref p∧b=.ref p)∨(∃ i j,a=.int i∧b=.int j)∨∃ i j,a=.str i∧b=.str j
def Sf (K:fm):R2:=fun x y H Q=>∃ (p q:Addr) (xs ys:List V),x=.ref p∧y=.ref q∧bj K H p xs∧bj K H q ys∧(∀ (i:Nat) a b,xs[i]? = some a→ys[i]? = some b→Ka a b)∧Q (.bl (!decide (xs=ys))) H
theorem yR {A:Around} {s:Shared} {a b:V} {u v:Value} (h:Ka a b) (ra:RelV a u) (rb:RelV b v):SeqAt.EqAt A s u v (decide (a=b)):=by
 rcases h with ⟨p,rfl,rfl⟩ | ⟨i,j,rfl,rfl⟩ | ⟨i,j,rfl,rfl⟩
 ·cases ra
  cases rb
  rw [decide_eq_true rfl]
  exact SeqAt.EqAt.same _
 ·obtain ⟨t,rfl⟩:=ra
  obtain ⟨t',rfl⟩:=rb
  rw [si]
  exact SeqAt.EqAt.int_int _ _ _ _
 ·obtain ⟨t,rfl⟩:=ra
  obtain ⟨t',rfl⟩:=rb
  rw [sj]
  exact SeqAt.EqAt.str_str _ _ _ _
theorem all_eq {xs ys:List V} (h:xs.length=ys.length):((List.range xs.length).all fun i=>decide (xs[i]? = ys[i]?))=decide (xs=ys):=by
 rw [Bool.eq_iff_iff,List.all_eq_true,decide_eq_true_iff]
 constructor
 ·intro q
  apply List.ext_getElem?
  intro i
  rcases Nat.lt_or_ge i xs.length with z | z
  ·exact of_decide_eq_true (q i (List.mem_range.mpr z))
  ·rw [List.getElem?_eq_none z,List.getElem?_eq_none (by omega)]
 ·rintro rfl i _
  simp
theorem wQ (hu:X.A.units < cLine):jP X (compareOp .NotEq) (Sf X.K):=by
 intro pins s σ H x y v u Q I rx ry h
 obtain ⟨p,q,xs,ys,rfl,rfl,hp,hq,hc,k⟩:=h
 cases rx
 cases ry
 obtain ⟨its,hv,pl,_⟩:=I.list hp
 obtain ⟨its2,hv2,Nf,_⟩:=I.list hq
 have e1:=hv.length
 have e2:=hv2.length
 by_cases hl:xs.length=ys.length
 ·have key:SeqAt.RcNeAt X.A s (.ref p) (.ref q) (!(List.range its.toArray.size).all fun i=>decide (xs[i]? = ys[i]?)):=by
   refine SeqAt.RcNeAt.lists pl.isList Nf.isList (by simp; omega) hu fun j h1 h2=>?_
   have j1:j < xs.length:=by simp at h1; omega
   have j2:j < ys.length:=by simp at h2; omega
   have z1:xs[j]? = some xs[j]:=aa j1
   have z2:ys[j]? = some ys[j]:=aa j2
   obtain ⟨u1,w1,r1⟩:=hv.get z1
   obtain ⟨u2,w2,r2⟩:=hv2.get z2
   have i1:its.toArray[j]=u1:=by
    have:its[j]? = some its[j]:=aa (by omega)
    rw [this] at w1
    simpa using w1
   have i2:its2.toArray[j]=u2:=by
    have:its2[j]? = some its2[j]:=aa (by omega)
    rw [this] at w2
    simpa using w2
   rw [i1,i2,z1,z2]
   have e:decide (some xs[j]=some ys[j])=decide (xs[j]=ys[j]):=by simp
   rw [e]
   exact yR (hc j _ _ z1 z2) r1 r2
  rw [ag,← e1,all_eq hl] at key
  exact key _ _ _ _ ⟨.bl (!decide (xs=ys)),H,I,rfl,k⟩
 ·have key:SeqAt.RcNeAt X.A s (.ref p) (.ref q) true:=SeqAt.RcNeAt.lists_lengths pl.isList Nf.isList (by simp; omega) hu
  rw [decide_eq_false (fun z=>hl (by rw [z]))] at k
  exact key _ _ _ _ ⟨.bl true,H,I,rfl,k⟩
end
section
variable {X:Cx}
end
end L2
namespace L2
open PySem PySem.W PySem.Spec PySem.Calls PyProof.Rows
section
variable {X:Cx} {pos pos':Pos} {o i value:Expr} {td ty tv:TE}
def Sg (K:fm):R2:=fun x y H Q=>∃ (p q:Addr) (xs ys:List V),x=.ref p∧y=.ref q∧bj K H p xs∧bj K H q ys∧(∀ (i:Nat) a b,xs[i]? = some a→ys[i]? = some b→Ka a b∨(a=.non∧b=.non))∧Q (.bl (decide (xs=ys))) H
theorem Cy (hu:X.A.units < cLine):jP X (compareOp .Eq) (Sg X.K):=by
 intro pins s σ H x y v u Q I rx ry h
 obtain ⟨p,q,xs,ys,rfl,rfl,hp,hq,hc,k⟩:=h
 cases rx
 cases ry
 obtain ⟨its,hv,pl,_⟩:=I.list hp
 obtain ⟨its2,hv2,Nf,_⟩:=I.list hq
 have e1:=hv.length
 have e2:=hv2.length
 by_cases hl:xs.length=ys.length
 ·have key:SeqAt.RcAt X.A s (.ref p) (.ref q) ((List.range its.toArray.size).all fun i=>decide (xs[i]? = ys[i]?)):=by
   refine SeqAt.RcAt.lists pl.isList Nf.isList (by simp; omega) hu fun j h1 h2=>?_
   have j1:j < xs.length:=by simp at h1; omega
   have j2:j < ys.length:=by simp at h2; omega
   have z1:xs[j]? = some xs[j]:=aa j1
   have z2:ys[j]? = some ys[j]:=aa j2
   obtain ⟨u1,w1,r1⟩:=hv.get z1
   obtain ⟨u2,w2,r2⟩:=hv2.get z2
   have i1:its.toArray[j]=u1:=by
    have:its[j]? = some its[j]:=aa (by omega)
    rw [this] at w1
    simpa using w1
   have i2:its2.toArray[j]=u2:=by
    have:its2[j]? = some its2[j]:=aa (by omega)
    rw [this] at w2
    simpa using w2
   rw [i1,i2,z1,z2]
   have e:decide (some xs[j]=some ys[j])=decide (xs[j]=ys[j]):=by simp
   rw [e]
   rcases hc j _ _ z1 z2 with hc | ⟨ha,hb⟩
   ·exact yR hc r1 r2
   ·rw [ha] at r1 ⊢
    rw [hb] at r2 ⊢
    have q1:u1=Value.none:=r1
    have q2:u2=Value.none:=r2
    subst q1 q2
    rw [decide_eq_true rfl]
    exact SeqAt.EqAt.same _
  rw [ag,← e1,all_eq hl] at key
  exact key _ _ _ _ ⟨.bl (decide (xs=ys)),H,I,rfl,k⟩
 ·have key:SeqAt.RcAt X.A s (.ref p) (.ref q) false:=SeqAt.RcAt.lists_lengths pl.isList Nf.isList (by simp; omega) hu
  rw [decide_eq_false (fun z=>hl (by rw [z]))] at k
  exact key _ _ _ _ ⟨.bl false,H,I,rfl,k⟩
end
end L2
namespace L2
open PySem PySem.Spec PyProof.Rows
section
variable {X:Cx} {pins:List (Addr × Obj)} {σ:St} {H:Hp} {s:Shared} {h':Heap}
theorem Inv.rB {t':Nat} {its:List Addr} {a:Addr} {o:HO} (I:Inv X pins σ H s) (k:∀ b u,b ∉ its→s.heap.get? b=some u→h'.get? b=some u) (hf:∀ b ∈ its,ox X pins H b)
  (hp:s.heap.objs.size ≤ a) (new:cH X.prog X.w (upd H a o) h' a o):Inv X pins σ (upd H a o) { s with heap:=h',toks:=t' }:=by
 have hn:H a=none:=I.hok.fresh hp
 have Io:∀ b u,H b=some u→b ∉ its:=fun b u e z=>by rw [(hf b z).1] at e; cases e
 have nea:∀ b u,s.heap.get? b=some u→b ≠ a:=fun b u e=>ij (Nat.lt_of_lt_of_le (et e) hp)
 refine I.step (g':=s.gens) (d':=s.drawn) (ch:=its) (fun b hb=>?_) (fun b o _ _ hc e _=>k b o hc e) (fun b o _ _ hc e _=>⟨o.slots,k b o hc e⟩) (fun b u _ e n=>?_)
  (fun b o hc e=>⟨o,k b o hc e⟩) (fun b xs e=>?_) (fun b u v e=>?_) (fun b ps e=>⟨#[],?_⟩) (fun m hm=>?_) (fun b u e=>?_) I.bare
 ·obtain ⟨_,f1,f2,f3,f4,f5⟩:=hf b hb
  exact ⟨f3,f1,f4,f5⟩
 ·rw [aL (nea b u e)]; exact n
 ·rw [aL (az e hn)]; exact e
 ·rw [aL (az e hn)]; exact e
 ·rw [aL (az e hn),e]; simp
 ·obtain ⟨o,es,ep,ho,r⟩:=hm
  exact ⟨o,es,ep,k _ o (fun z=>(hf _ z).2.1 rfl) ho,r⟩
 ·by_cases hb:b=a
  ·subst hb
   rw [ah] at e
   cases e
   exact new
  ·rw [aL hb] at e
   refine (I.hok b u e).stay (fun c v hc q=>k c v ?_ q) (fun c q=>by rw [aL (az q hn)]; exact q) fun c xs q=>by rw [aL (az q hn)]; exact q
   rcases hc with z | z
   ·rw [z]; exact Io b u e
   ·exact Io c _ z
theorem Inv.Ft {t':Nat} {its:List Addr} (I:Inv X pins σ H s) (k:∀ b u,b ∉ its→s.heap.get? b=some u→h'.get? b=some u) (hf:∀ b ∈ its,ox X pins H b):Inv X pins σ H { s with heap:=h',toks:=t' }:=by
 have Io:∀ b u,H b=some u→b ∉ its:=fun b u e z=>by rw [(hf b z).1] at e; cases e
 refine I.step (g':=s.gens) (d':=s.drawn) (ch:=its) (fun b hb=>?_) (fun b o _ _ hc e _=>k b o hc e) (fun b o _ _ hc e _=>⟨o.slots,k b o hc e⟩) (fun b u _ e n=>n)
  (fun b o hc e=>⟨o,k b o hc e⟩) (fun b xs e=>e) (fun b u v e=>e) (fun b ps e=>⟨#[],by rw [e]; simp⟩) (fun m hm=>?_) (fun b u e=>?_) I.bare
 ·obtain ⟨_,f1,f2,f3,f4,f5⟩:=hf b hb
  exact ⟨f3,f1,f4,f5⟩
 ·obtain ⟨o,es,ep,ho,r⟩:=hm
  exact ⟨o,es,ep,k _ o (fun z=>(hf _ z).2.1 rfl) ho,r⟩
 ·refine (I.hok b u e).stay (fun c v hc q=>k c v ?_ q) (fun _ q=>q) fun _ _ q=>q
  rcases hc with z | z
  ·rw [z]; exact Io b u e
  ·exact Io c _ z
end
def Ite (K:fm) (a:Addr):It :=
 ⟨fun i H=>∃ xs x,bj K H a xs∧xs[i]? = some x,
   fun i H x H'=>∃ t y,H t=none∧x=.ref t∧H'=upd H t (.tup [.int i,y])∧∀ xs,bj K H a xs→xs[i]? = some y,
   fun i H=>∃ xs,bj K H a xs∧xs.length ≤ i⟩
theorem Ah {P:Program} {w:World} {K:fm} {elts:List Expr} {x1} {pos:Pos} (a e it:Addr) (hne:e ≠ it) :
  Turn P w K (.Tuple elts x1 pos) (Ite K a) [e,it] e (fun i h=>(∃ old,IsEnum h e it i old)∧h.IsListIter it a i) where
 mem:=by simp
 obj:=fun i h st b hb=>by
  obtain ⟨⟨old,he⟩,o,eo,c,d⟩:=st
  rcases List.mem_cons.mp hb with rfl | hb
  ·exact ⟨_,he,fun v z=>by
    have z':Data.fields _=Data.cell v:=z
    cases z'⟩
  ·rw [av.mp hb]
   exact ⟨o,eo,fun v z=>by rw [d] at z; cases z⟩
 keep:=fun i h h' st k=>⟨st.1.elim fun old he=>⟨old,k e (by simp) _ he⟩,st.2.at fun o eo=>k it (by simp) o eo⟩
 item:=by
  intro X hP hw hK hc i pins s σ H E I hf st hg
  subst hP hw hK
  obtain ⟨xs,x,hq,hx⟩:=hg
  obtain ⟨⟨old,he⟩,hit⟩:=st
  obtain ⟨its,rv,p,hz⟩:=I.list hq
  obtain ⟨u,hu,ru⟩:=rv.get hx
  refine wpAny_pyNext_enum_item he hit p.isList (x:=u) (by simpa using hu) hne fun h1 Kb hit1 ht1 hz1 k1=>?_
  refine ⟨_,rfl,wpAny_letOwnedTupleGo_enum Kb fun h2 he2 hs2=>?_⟩
  have Fu:s.heap.objs.size ≠ e:=Nat.ne_of_gt (et he)
  have Ng:=(hs2.2 s.heap.objs.size Fu).trans ht1
  have hk:∀ b o,b ∉ [e,it]→s.heap.get? b=some o→h2.get? b=some o:=fun b o hb e'=>by
   have hb':b ≠ e∧b ≠ it:=by simpa using hb
   exact (hs2.2 b hb'.1).trans (k1 b o hb'.1 hb'.2 e')
  have hfr:H s.heap.objs.size=none:=I.hok.fresh (ii _)
  refine ⟨.ref s.heap.objs.size,upd H s.heap.objs.size (.tup [.int i,x]),I.rB (t':=s.toks + 1) hk hf (ii _) ?_,rfl,⟨_,x,hfr,rfl,rfl,fun ys hy=>by rw [I.ou hy hq]; exact hx⟩,⟨⟨u,?_⟩,?_⟩,fun b hb=>?_⟩
  ·exact ⟨by show 2 ≤ de; decide,[.int i s.toks,u],.cons ⟨_,rfl⟩ (.cons ru .nil),⟨_,Ng,rfl,_,rfl⟩⟩
  ·exact he2
  ·obtain ⟨o,e1,e2⟩:=hit1
   exact ⟨o,(hs2.2 it (Ne.symm hne)).trans e1,e2⟩
  ·have:b ≠ s.heap.objs.size:=by
    rcases List.mem_cons.mp hb with rfl | hb
    ·exact Ne.symm Fu
    ·rw [av.mp hb]
     obtain ⟨o,e1,_⟩:=hit
     exact ij (et e1)
   rw [aL this]
   exact (hf b hb).1
 done:=by
  intro X hP hw hK hc i pins s σ H E I hf st hg
  subst hP hw hK
  obtain ⟨xs,hq,hx⟩:=hg
  obtain ⟨⟨old,he⟩,hit⟩:=st
  obtain ⟨its,rv,p,hz⟩:=I.list hq
  obtain ⟨f0,f1,f2,f3,f4,f5⟩:=hf it (by simp)
  have hl:=rv.length
  exact wpAny_pyNext_enum_end (I.ok.hd hc) he hit p.isList (by simp; omega) fun h' eb=>⟨rfl,I.turned (t':=s.toks) (fun b o hb e=>eb b o hb e) f0 f1 f3 f4 f5⟩
 self:=fun _ _ _ _ _ st h=>st.1.elim fun _ he=>wpAny_pyIter_enum he h
section
variable {X:Cx}
def Nh (K:fm) (ta:TA):TI:=fun σ H R=>ta σ H fun vs H1=>∃ a,vs=[.ref a]∧(∃ xs,bj K H1 a xs)∧R (Ite K a) H1
theorem Fv:bootBuiltins "enumerate" = some (.type "enumerate"):=by decide +kernel
theorem yS {a:Expr} {ta:TA} {p pos:Pos} {elts:List Expr} {x1} {tpos:Pos} (hg:Gl X "enumerate") (hm:X.mg "enumerate" = none) (ha:PA X [a] ta) (hs:starEach [a] X.env=[(false,eval a X.env)]:=by rfl) :
  PI X (.Tuple elts x1 tpos) (.Call (.Name "enumerate" p) [a] [] pos) (Nh X.K ta):=by
 intro pins s σ H R I h
 refine Call_ (jZ I hg hm Fv (PyProof.Rows.callWith_type1 (cL (ha pos pins s σ H _ I h) fun us s1 ⟨vs,H1,I1,r1,q1⟩=>?_) hs rfl))
 obtain ⟨a,e,⟨xs,hq⟩,q⟩:=q1
 subst e
 obtain ⟨u,rfl,ru⟩:=vals1 r1
 cases ru
 obtain ⟨its,rv,p,hz⟩:=I1.list hq
 refine call_enumerate_list p.isList fun h' he hit hsz hk=>?_
 refine wpAny_pyIter_enum he ?_
 refine ⟨s1.heap.objs.size + 1,[s1.heap.objs.size + 1,s1.heap.objs.size],_,_,H1,rfl,I1.kept (t':=s1.toks) hk,Ah a _ _ (Nat.succ_ne_self _),⟨⟨_,he⟩,hit⟩,fun b hb=>?_,q⟩
 have hb':s1.heap.objs.size ≤ b:=by
  rcases List.mem_cons.mp hb with rfl | hb
  ·exact Nat.le_succ _
  ·rw [av.mp hb]; exact ii _
 exact I1.BO hb' (I1.hok.fresh hb')
theorem vv {K:fm} {a:Addr} {xs:List V} {g:TG} {tb:TS} {D:Ends} {σ:St} {H:Hp} (Pv:Nat→St→Hp→Prop) (h0:Pv 0 σ H) (hl:∀ i σ H,i ≤ xs.length→Pv i σ H→bj K H a xs)
  (hs:∀ i x σ H t,xs[i]? = some x→H t=none→Pv i σ H→g (.ref t) σ (upd H t (.tup [.int i,x])) fun σ2 H2=>tb { D with nx:=Pv (i + 1),ct:=Pv (i + 1),bk:=D.nx } σ2 H2) (hd:∀ σ H,Pv xs.length σ H→D.nx σ H) :
  ∃ W:Nat→Nat→St→Hp→Prop,(∃ m,W 0 m σ H)∧∀ i m σ H,W i m σ H →
   ((Ite K a).stop i H∧D.nx σ H)∨((Ite K a).go i H∧∃ N:St→Hp→Prop,(∀ σ' H',N σ' H'→∃ m',m' < m∧W (i + 1) m' σ' H')∧∀ x H',(Ite K a).BM i H x H'→g x σ H' fun σ2 H2=>tb { D with nx:=N,ct:=N,bk:=D.nx } σ2 H2):=by
 refine ⟨fun i m σ H=>m=xs.length - i∧i ≤ xs.length∧Pv i σ H,⟨xs.length,by simp,Nat.zero_le _,h0⟩,?_⟩
 rintro i m σ H ⟨rfl,hi,p⟩
 have q:=hl i σ H hi p
 by_cases hlt:i < xs.length
 ·refine .inr ⟨⟨xs,xs[i],q,by simp [hlt]⟩,Pv (i + 1),fun σ' H' p'=>⟨xs.length - (i + 1),by omega,rfl,hlt,p'⟩,fun x H' y=>?_⟩
  obtain ⟨t,y,hn,e1,e2,hy⟩:=y
  subst e1 e2
  exact hs i y σ _ t (hy xs q) hn p
 ·have e:i=xs.length:=by omega
  subst e
  exact .inl ⟨⟨xs,q,ii _⟩,hd σ H p⟩
end
end L2
namespace L2
open PySem PySem.W PySem.Spec PySem.Calls PyProof.Rows
section
variable {X:Cx} {pins:List (Addr × Obj)} {σ:St} {H:Hp} {s:Shared} {a:Addr} {kvs:List (Key × V)}
end
theorem wR {α β:Type} {R:α→β→Prop} {xs:List α} {ys:List β} (r:Paired R xs ys):∀ {i:Nat} {x:α},xs[i]? = some x→∃ y,ys[i]? = some y∧R x y:=by
 induction r with
 | nil=>intro i x h; simp at h
 | cons h t ih =>
  intro i x e
  cases i with
  | zero =>
   have e':=Option.some.inj e
   subst e'
   exact ⟨_,rfl,h⟩
  | succ i=>exact ih (by simpa using e)
theorem Kc {P:Program} {w:World} {k:Key} {u:Value} (h:(bF P w).is k u=true):RelV (kV k) u:=by
 rcases cU h with ⟨i,t,rfl,rfl⟩ | ⟨x,t,rfl,rfl⟩
 ·exact ⟨t,rfl⟩
 ·exact ⟨t,rfl⟩
section
variable {X:Cx}
end
def vw (x:V):Prop:=x=.non∨(∃ i,x=.int i)∨∃ t,x=.str t
theorem sE {A:Around} {s:Shared} {x:V} {u v:Value} (h:vw x) (ru:RelV x u) (rv:RelV x v):SeqAt.EqAt A s u v true:=by
 rcases h with rfl | ⟨i,rfl⟩ | ⟨t,rfl⟩
 ·have e1:u=Value.none:=ru
  have e2:v=Value.none:=rv
  subst e1 e2
  exact SeqAt.EqAt.same _
 ·obtain ⟨t1,rfl⟩:=ru
  obtain ⟨t2,rfl⟩:=rv
  have:=SeqAt.EqAt.int_int (A:=A) (s:=s) i t1 i t2
  rwa [beq_self_eq_true] at this
 ·obtain ⟨t1,rfl⟩:=ru
  obtain ⟨t2,rfl⟩:=rv
  have:=SeqAt.EqAt.str_str (A:=A) (s:=s) t t1 t t2
  rwa [beq_self_eq_true] at this
abbrev iD (kvs:List (Int × Int)):List (Key × V):=kvs.map fun p=>(Sum.inl p.1,V.int p.2)
def Sh (H:Hp) (x y:V):Prop:=∃ p q xs,x=.ref p∧y=.ref q∧H p=some (.tup xs)∧H q=some (.tup xs)∧∀ z ∈ xs,vw z
def Iw (H:Hp) (x y:V):Prop:=(x=y∧vw x)∨Sh H x y∨(∃ p q xs,x=.ref p∧y=.ref q∧H p=some (.lst xs)∧H q=some (.lst xs)∧∀ z ∈ xs,vw z) ∨
 (∃ p q xs ys,x=.ref p∧y=.ref q∧H p=some (.lst xs)∧H q=some (.lst ys)∧xs.length=ys.length∧∀ (i:Nat) a b,xs[i]? = some a→ys[i]? = some b→Sh H a b) ∨
 ∃ p q ka kb,x=.ref p∧y=.ref q∧H p=some (.dK (iD ka))∧H q=some (.dK (iD kb))∧ka.length=kb.length∧∀ c ∈ ka,c ∈ kb
theorem all_true (n:Nat):((List.range n).all fun _=>true)=true:=by simp
def rC (kv:Key × Value):Int × Value:=match kv.1 with
 | .inl i=>(i,kv.2)
 | .inr _=>(0,kv.2)
theorem Cz {P:Program} {w:World} (P':Program) (w':World) {es:List DictEntry} {vs:List (Key × Value)} (p:Pairs (bF P w) es vs):(∀ kv ∈ vs,∃ i,kv.1=Sum.inl i)→Pairs (intKind P' w') es (vs.map rC):=by
 induction p with
 | nil=>intro _; exact .nil
 | @cons e kv es vs h1 h2 t ih =>
  intro ha
  obtain ⟨i,hi⟩:=ha kv (by simp)
  rw [hi] at h1
  have e1:rC kv=(i,kv.2):=by unfold rC; rw [hi]
  rw [br,e1]
  exact .cons h1 h2 (ih fun kv hk=>ha kv (by simp [hk]))
theorem Ai {P:Program} {w:World} {es:List DictEntry} {vs:List (Key × Value)} (p:Pairs (bF P w) es vs):∀ e ∈ es,∃ kv ∈ vs,(bF P w).is kv.1 e.key=true:=by
 induction p with
 | nil=>intro e h; simp at h
 | @cons e kv es vs h1 h2 t ih =>
  intro e' he
  rcases List.mem_cons.mp he with rfl | he
  ·exact ⟨kv,by simp,h1⟩
  ·obtain ⟨kv',a,b⟩:=ih e' he
   exact ⟨kv',by simp [a],b⟩
theorem int_dict {P:Program} {w:World} {h:Heap} {a:Addr} {vs:List (Key × Value)} {kvs:List (Int × Int)} (r:KV (iD kvs) vs) (d:h.DictOf (bF P w) a vs) (P':Program) (w':World) :
  ∃ us:List (Int × Value),h.DictOf (intKind P' w') a us∧us.map (·.1)=kvs.map (·.1)∧∀ (i:Nat) p,kvs[i]? = some p→∃ t,us[i]? = some (p.1,Value.int p.2 t):=by
 obtain ⟨o,es,ep,g,ex,dt,hk,hp,hn⟩:=d
 have hl:vs.length=kvs.length:=by rw [← r.length,List.length_map]
 have hv:∀ (i:Nat) p,kvs[i]? = some p→∃ t,vs[i]? = some (Sum.inl p.1,Value.int p.2 t):=fun i p hi=>by
  obtain ⟨y,hy,h1,h2⟩:=wR r (i:=i) (x:=(Sum.inl p.1,V.int p.2)) (by rw [ab,hi]; rfl)
  obtain ⟨t,e⟩:=(show ∃ t,y.2=Value.int p.2 t from h2)
  exact ⟨t,by rw [hy,← e]; congr 1; exact Prod.ext h1.symm rfl⟩
 have hu:∀ (i:Nat) p,kvs[i]? = some p→∃ t,(vs.map rC)[i]? = some (p.1,Value.int p.2 t):=fun i p hi=>by
  obtain ⟨t,e⟩:=hv i p hi
  exact ⟨t,by rw [ab,e]; rfl⟩
 have hkeys:(vs.map rC).map (·.1)=kvs.map (·.1):=by
  apply List.ext_getElem?
  intro i
  rcases Nat.lt_or_ge i kvs.length with hi | hi
  ·obtain ⟨t,e⟩:=hu i kvs[i] (aa hi)
   rw [ab,e,ab,aa hi]
   rfl
  ·rw [List.getElem?_eq_none (by rw [List.length_map,List.length_map]; omega),List.getElem?_eq_none (by rw [List.length_map]; omega)]
 have hall:∀ kv ∈ vs,∃ i,kv.1=Sum.inl i:=fun kv hm=>by
  obtain ⟨i,hi,e⟩:=List.getElem_of_mem hm
  obtain ⟨t,e2⟩:=hv i kvs[i] (aa (by omega))
  rw [aa hi,e] at e2
  exact ⟨_,congrArg Prod.fst (Option.some.inj e2)⟩
 refine ⟨vs.map rC,⟨o,es,ep,g,ex,dt,?_,?_,?_⟩,hkeys,hu⟩
 ·intro e he
  obtain ⟨k,k1,k2⟩:=hk e he
  obtain ⟨kv,hm,h1⟩:=Ai hp e (Array.mem_toList_iff.mpr he)
  obtain ⟨i,hi⟩:=hall kv hm
  have ek:k=kv.1:=(bF P w).inj _ _ _ k1 h1
  rw [ek,hi] at k1 k2
  exact ⟨i,k1,k2⟩
 ·exact Cz P' w' hp hall
 ·rw [hkeys]
  have e:vs.map (·.1)=(kvs.map (·.1)).map (Sum.inl:Int→Key):=by
   apply List.ext_getElem?
   intro i
   rcases Nat.lt_or_ge i kvs.length with hi | hi
   ·obtain ⟨t,e⟩:=hv i kvs[i] (aa hi)
    rw [ab,e,ab,ab,aa hi]
    rfl
   ·rw [List.getElem?_eq_none (by rw [List.length_map]; omega),List.getElem?_eq_none (by rw [List.length_map,List.length_map]; omega)]
  rw [e] at hn
  exact List.Pairwise.of_map (Sum.inl:Int→Key) (fun a b h=>fun z=>h (by rw [z])) hn
theorem yT {A:Around} {s:Shared} {kb:List (Int × Int)} {ub:List (Int × Value)} (hn:(ub.map (·.1)).Nodup) (hb:∀ (i:Nat) p,kb[i]? = some p→∃ t,ub[i]? = some (p.1,Value.int p.2 t)) :
  ∀ (ka:List (Int × Int)) (ua:List (Int × Value)),ua.length=ka.length→(∀ (i:Nat) p,ka[i]? = some p→∃ t,ua[i]? = some (p.1,Value.int p.2 t))→(∀ c ∈ ka,c ∈ kb)→KeqHits A s ub ua true
 | [],[],_,_,_=>.nil
 | [],_ :: _,h,_,_=>by simp at h
 | _ :: _,[],h,_,_=>by simp at h
 | c :: ka,u :: ua,hl,ha,hm=>by
  obtain ⟨t,e⟩:=ha 0 c rfl
  have eu:u=(c.1,Value.int c.2 t):=Option.some.inj e
  subst eu
  obtain ⟨j,hj,ej⟩:=List.getElem_of_mem (hm c (by simp))
  obtain ⟨t2,e2⟩:=hb j c (by rw [aa hj,ej])
  have hv:valueAt ub c.1=some (Value.int c.2 t2):=by
   unfold valueAt
   have hmem:(c.1,Value.int c.2 t2) ∈ ub:=ad e2
   have hf:∀ (l:List (Int × Value)),(l.map (·.1)).Nodup→(c.1,Value.int c.2 t2) ∈ l→l.find? (fun kv=>decide (kv.1=c.1))=some (c.1,Value.int c.2 t2):=by
    intro l
    induction l with
    | nil=>intro _ h; simp at h
    | cons x l ih =>
     intro hnd hx
     rw [br,ca] at hnd
     rcases List.mem_cons.mp hx with rfl | hx
     ·simp
     ·have ne:¬ x.1=c.1:=fun z=>hnd.1 (by rw [z]; exact List.mem_map.mpr ⟨_,hx,rfl⟩)
      rw [List.find?_cons_of_neg (by simpa using ne)]
      exact ih hnd.2 hx
   rw [hf ub hn hmem]
   rfl
  have h1:=SeqAt.EqAt.int_int (A:=A) (s:=s) c.2 t c.2 t2
  rw [beq_self_eq_true] at h1
  have r:=yT (A:=A) (s:=s) hn hb ka ua (by simpa using hl) (fun i p hi=>ha (i + 1) p (by simpa using hi)) (fun c hc=>hm c (by simp [hc]))
  have:=KeqHits.hit (k:=c.1) hv h1 r
  simpa using this
section
variable {X:Cx} {pins:List (Addr × Obj)} {σ:St} {H:Hp} {s:Shared} {A:Around}
theorem CA (hu:A.units < cLine) (I:Inv X pins σ H s) {x y:V} {u v:Value} (h:Sh H x y) (ru:RelV x u) (rv:RelV y v):SeqAt.EqAt A s u v true:=by
 obtain ⟨p,q,xs,rfl,rfl,hp,hq,hs⟩:=h
 cases ru
 cases rv
 by_cases e:p=q
 ·subst e; exact SeqAt.EqAt.same _
 ·obtain ⟨_,i1,r1,t1⟩:=(show cH X.prog X.w H s.heap p (.tup xs) from I.hok p _ hp)
  obtain ⟨_,i2,r2,t2⟩:=(show cH X.prog X.w H s.heap q (.tup xs) from I.hok q _ hq)
  have l1:=r1.length
  have l2:=r2.length
  have key:=SeqAt.RcAt.tuples (A:=A) (s:=s) (e:=fun _=>true) t1 t2 hu fun j h1 h2=>by
   have j1:j < xs.length:=by simp at h1; omega
   have z1:xs[j]? = some xs[j]:=aa j1
   obtain ⟨u1,w1,q1⟩:=r1.get z1
   obtain ⟨u2,w2,q2⟩:=r2.get z1
   have e1:i1.toArray[j]=u1:=by
    have:i1[j]? = some i1[j]:=aa (by omega)
    rw [this] at w1
    simpa using w1
   have e2:i2.toArray[j]=u2:=by
    have:i2[j]? = some i2[j]:=aa (by omega)
    rw [this] at w2
    simpa using w2
   rw [e1,e2]
   exact sE (hs _ (ba j1)) q1 q2
  rw [all_true] at key
  have e3:(true && i1.toArray.size == i2.toArray.size)=true:=by simp; omega
  rw [e3] at key
  exact SeqAt.EqAt.of_refs e key
theorem oV (hu:A.units < cLine) (I:Inv X pins σ H s) {p q:Addr} {xs ys:List V} (hp:H p=some (.lst xs)) (hq:H q=some (.lst ys)) (hl:xs.length=ys.length)
  (he:∀ (i:Nat) a b u v,xs[i]? = some a→ys[i]? = some b→RelV a u→RelV b v→SeqAt.EqAt A.in1 s u v true):SeqAt.RcAt A s (.ref p) (.ref q) true:=by
 obtain ⟨i1,r1,t1,_⟩:=I.list (bj.of hp)
 obtain ⟨i2,r2,t2,_⟩:=I.list (bj.of hq)
 have l1:=r1.length
 have l2:=r2.length
 have key:=SeqAt.RcAt.lists (A:=A) (s:=s) (e:=fun _=>true) t1.isList t2.isList (by simp; omega) hu fun j h1 h2=>by
  have j1:j < xs.length:=by simp at h1; omega
  have j2:j < ys.length:=by simp at h2; omega
  have z1:xs[j]? = some xs[j]:=aa j1
  have z2:ys[j]? = some ys[j]:=aa j2
  obtain ⟨u1,w1,q1⟩:=r1.get z1
  obtain ⟨u2,w2,q2⟩:=r2.get z2
  have e1:i1.toArray[j]=u1:=by
   have:i1[j]? = some i1[j]:=aa (by omega)
   rw [this] at w1
   simpa using w1
  have e2:i2.toArray[j]=u2:=by
   have:i2[j]? = some i2[j]:=aa (by omega)
   rw [this] at w2
   simpa using w2
  rw [e1,e2]
  exact he j _ _ _ _ z1 z2 q1 q2
 rw [all_true] at key
 exact key
theorem CB (hu:A.units + 1 < cLine) (I:Inv X pins σ H s) {x y:V} {u v:Value} (h:Iw H x y) (ru:RelV x u) (rv:RelV y v):SeqAt.EqAt A s u v true:=by
 have hu0:A.units < cLine:=by omega
 have hu1:A.in1.units < cLine:=hu
 rcases h with ⟨rfl,hs⟩ | h | ⟨p,q,xs,rfl,rfl,hp,hq,hs⟩ | ⟨p,q,xs,ys,rfl,rfl,hp,hq,hl,hs⟩ | ⟨p,q,ka,kb,rfl,rfl,hp,hq,hl,hs⟩
 ·exact sE hs ru rv
 ·exact CA hu0 I h ru rv
 ·cases ru
  cases rv
  by_cases e:p=q
  ·subst e; exact SeqAt.EqAt.same _
  ·refine SeqAt.EqAt.of_refs e (oV hu0 I hp hq rfl fun i a b u v ha hb r1 r2=>?_)
   rw [ha] at hb
   cases hb
   exact sE (hs a (ad ha)) r1 r2
 ·cases ru
  cases rv
  by_cases e:p=q
  ·subst e; exact SeqAt.EqAt.same _
  ·exact SeqAt.EqAt.of_refs e (oV hu0 I hp hq hl fun i a b u v ha hb r1 r2=>CA hu1 I (hs i a b ha hb) r1 r2)
 ·cases ru
  cases rv
  by_cases e:p=q
  ·subst e; exact SeqAt.EqAt.same _
  ·refine SeqAt.EqAt.of_refs e fun P' w' E' Q' hQ=>?_
   obtain ⟨_,y1,vs1,r1,d1⟩:=jQ I.hok hp
   obtain ⟨_,y2,vs2,r2,d2⟩:=jQ I.hok hq
   obtain ⟨ua,da,na,va⟩:=int_dict r1 d1 P' w'
   obtain ⟨ub,db,nb,vb⟩:=int_dict r2 d2 P' w'
   have hnb:(ub.map (·.1)).Nodup:=by
    obtain ⟨_,_,_,_,_,_,_,_,hn⟩:=db
    exact hn
   have la:ua.length=ka.length:=by have:=congrArg List.length na; simpa using this
   have lb:ub.length=kb.length:=by have:=congrArg List.length nb; simpa using this
   refine keq_eq y1 y2 da db hu0 (r:=true) (fun _=>yT hnb vb ka ua la va hs) ?_
   have e3:(ua.length == ub.length && true)=true:=by simp; omega
   rw [e3]
   exact hQ
end
theorem sF:typeLookup (.type "list") "keys" = pure none:=by rw [typeLookup_type,builtinLookup_eq_fast]; kernel_rfl
theorem wU {prog:Program} {w:World} {A:Around} {E:Value→Shared→Prop} {s:Shared} {a:Addr} {xs:Array Value} {k:Nat} {Q:Option Value→Shared→Prop}
  (hx:s.heap.get? a=some { cls:=.type "list",data:=.seq xs k }) (hA:A.handled=none)
  (hq:∀ h' tk,(∀ b o,s.heap.get? b=some o→h'.get? b=some o)→Q none { s with heap:=h',toks:=tk }):wpAny (model prog w) A (getAttr? (.ref a) "keys") Q E s:=by
 obtain ⟨hp,g,d,tk,os⟩:=s
 have hT:∀ tk',(⟨hp,g,d,tk',os⟩:Shared).TypeIs (.ref a) "list" := fun _=>⟨_,hx,rfl⟩
 have g1:=sub_AttributeError
 have g3:=PySem.F.slot_list_getattribute.lookup
 have g4:=PySem.F.slot_list_getattribute.bind (.ref a)
 have g5:=am_list_getattr_none
 unfold getAttr? getAttrBy? getAttrBy
 repeat (any_goals (first | assumption | exact hT _ | ((with_reducible show wpAny _ _ (call (Value.builtin "list.__getattribute__") _ _) _ _ _); refine call_meets PySem.F.slot_list_getattribute (hT _) am_entry_list_getattribute (PySem.F.args_list_getattribute_2 _ _) (meets_getattribute_miss_list a xs k #[] "keys" _ sF (by decide +kernel) (by size_fits)) ⟨hx,hA,fun h' tk' e hy=>?_⟩) | wp_step))
 obtain ⟨t',u',he⟩:=hy.there
 have hkp:=hy.of.keeps
 (show wpAny (model prog w) _ (getattributeRaised _ _ _ _ _ _ _) _ _ _; unfold getattributeRaised; repeat (any_goals (first | assumption | wp_step)))
 exact hq _ _ hkp
theorem jq:plainId "dict.update.loop" = true:=by decide +kernel
theorem rD:entryFor table "dict.update.loop" = some Builtin.«dict.update.loop»:=entryFor_of_fast (by kernel_rfl)
section
variable {prog:Program} {w:World} {K:Type} [DecidableEq K] {knd:KeyKind prog w K} {A:Around} {R:Result→Shared→Prop}
theorem wV (hh:A.handled=none) {d it l:Addr} {items:Array Value} {ks:List (K × Value)} (hdi:d ≠ it) (Se:l ≠ d) (hli:l ≠ it) (hkl:ks.length=items.size) (hsz:items.size ≤ 5000) :
  ∀ (n i:Nat) (s:Shared) (acc:List (K × Value)) (t:Tok),items.size - i=n→i ≤ items.size→s.heap.IsListIter it l i→s.heap.IsList l items→s.heap.DictOf knd d acc→acc.length ≤ i →
   (∀ (j:Nat) k v,ks[j]? = some (k,v)→∃ tup key,items[j]? = some (.ref tup)∧IsTup s.heap tup #[key,v]∧knd.is k key=true∧tup ≠ d∧tup ≠ it) →
   (∀ h' tk,h'.DictOf knd d (merged acc (ks.drop i))→(∀ b o,b ≠ d→b ≠ it→s.heap.get? b=some o→h'.get? b=some o)→R (.ok (.ret .none)) { s with heap:=h',toks:=tk }) →
   codeAny (model prog w) A (.builtin "dict.update.loop" ⟨[.ref d,.ref it,.int i t,.none],[]⟩) R s:=by
 intro n
 induction n with
 | zero =>
  intro i s acc t hn hi hit hl hd hal hks hR
  have e:i=items.size:=by omega
  subst e
  refine codeAny_builtin rD ?_
  rw [Around.under_plainId jq _]
  show wpAny _ A.in1 (pyNext (.ref it) >>= _) _ _ s
  refine cb (wpAny_pyNext_list_end (A:=A.in1) hh hit hl (by simp) fun h' he=>?_)
  show wpAny _ A.in1 (Builtin.Dict.addKeywords d [] >>= _) _ _ _
  refine cb (ce (ce ?_))
  have e2:ks.drop items.size=[]:=List.drop_eq_nil_of_le (by omega)
  rw [e2] at hR
  refine hR h' s.toks ?_ fun b o _ hb e=>he b o hb e
  obtain ⟨o,es,ep,ho,r⟩:=hd
  exact ⟨o,es,ep,he d o hdi ho,r⟩
 | succ n ih =>
  intro i s acc t hn hi hit hl hd hal hks hR
  have hlt:i < items.size:=by omega
  have hki:ks[i]? = some ks[i]:=aa (by omega)
  obtain ⟨tup,key,hti,htup,hkey,ntd,nti⟩:=hks i ks[i].1 ks[i].2 hki
  refine codeAny_builtin rD ?_
  rw [Around.under_plainId jq _]
  show wpAny _ A.in1 (pyNext (.ref it) >>= _) _ _ s
  refine cb (wpAny_pyNext_list_item (A:=A.in1) hit hl hti fun h1 hit1 hs1=>?_)
  have k1:∀ b o,b ≠ it→s.heap.get? b=some o→h1.get? b=some o:=fun b o hb e=>(hs1.2 b hb).trans e
  obtain ⟨ot,hot,hct,nt,hdt⟩:=htup
  have CC:=k1 _ _ nti hot
  have hd1:h1.DictOf knd d acc:=by
   obtain ⟨o,es,ep,ho,r⟩:=hd
   exact ⟨o,es,ep,k1 d o hdi ho,r⟩
  refine cb (wpAny_holding (cb (wpAny_tryCatch ?_)))
  show wpAny _ A.in1 (Builtin.Dict.pairItems (.ref tup)) _ _ { s with heap:=h1 }
  unfold Builtin.Dict.pairItems
  refine cb (wpAny_typeOf (T := "tuple") ⟨_,CC,hct⟩ ?_)
  rw [if_pos (by decide)]
  refine cb (wpAny_seqItems CC hdt ?_)
  refine ce ?_
  show wpAny _ A.in1 (holding [key,ks[i].2] (dictSet d key ks[i].2)) _ _ { s with heap:=h1 }
  refine wpAny_holding (wpAny_dictSet_pairs (hsz:=io hal (io hi (io hsz (by rw [sizeLine_eq]; decide)))) hkey hd1 fun h2 hd2 hs2=>?_)
  have k2:∀ b o,b ≠ d→b ≠ it→s.heap.get? b=some o→h2.get? b=some o:=fun b o hb hb2 e=>(hs2.2 b hb).trans (k1 b o hb2 e)
  refine ce ⟨plainId_quiet jq _,?_⟩
  refine ih (i + 1) { s with heap:=h2,toks:=s.toks + 1 } (stored acc ks[i].1 ks[i].2) 0 (by omega) hlt ?_ ?_ hd2 ?_ ?_ ?_
  ·obtain ⟨o,ho,r⟩:=hit1
   exact ⟨o,(hs2.2 it (Ne.symm hdi)).trans ho,r⟩
  ·obtain ⟨o,ho,r⟩:=hl
   exact ⟨o,k2 l o Se hli ho,r⟩
  ·unfold stored
   split
   ·rw [List.length_map]; omega
   ·rw [al]
    show acc.length + 1 ≤ i + 1
    omega
  ·intro j k v hj
   obtain ⟨Ni,key',a1,⟨o,a2,a3⟩,a4,a5,a6⟩:=hks j k v hj
   exact ⟨Ni,key',a1,⟨o,k2 Ni o a5 a6 a2,a3⟩,a4,a5,a6⟩
  ·intro h' tk hd' kp
   have e3:ks.drop i=ks[i] :: ks.drop (i + 1):=List.drop_eq_getElem_cons (by omega)
   refine hR h' tk ?_ fun b o hb hb2 e=>kp b o hb hb2 (k2 b o hb hb2 e)
   rw [e3]
   exact hd'
end
theorem Fw {a:List (Key × V)} {b:List (Key × Value)} (h:KV a b):b.map (·.1)=a.map (·.1):=by
 induction h with
 | nil=>rfl
 | cons h t ih=>rw [br,br,ih,h.1]
end L2
namespace L2
open PySem PySem.Spec PyProof.Rows
def Kd (X:Cx) (k:Nat) (te:TE) (t:TA):TE:=fun σ H Q=>te σ H fun x H1=>∃ (f:Addr) (fd:cx) (ps:List Str) (sp:Sp),x=.ref f∧aR X.prog X.w X.K X.mg X.base bV k f fd ps sp∧Binds X.K fd ps []∧fo X.K (.ref f)=true ∧
 t σ H1 fun vs H2=>sp (vs ++ []) H2 Q E0
section
variable {X:Cx} {k:Nat} {e a:Expr} {es:List Expr} {pos:Pos} {te:TE} {t:TA}
theorem CD (he:PE X e te) (hr:fh k X.A) (ha:PA X (a :: es) t)
  (ht:eval (.Call e (a :: es) [] pos) X.env=(do callWith pos (← eval e X.env) [] (backTo pos (starEach (a :: es) X.env)) (backToKw pos (keywordEach [] X.env))):=by rfl)
  (hst:starEach (a :: es) X.env=(false,eval a X.env) :: starEach es X.env:=by rfl) (hpl:(backTo pos (starEach es X.env)).any (·.1)=false:=by rfl) :
  PE X (.Call e (a :: es) [] pos) (Kd X k te t):=by
 intro pins s σ H Q I h
 rw [ht]
 refine cb (cL (he pins s σ H _ I h) fun u s1 ⟨x,H1,I1,rx,f,fd,ps,sp,ex,F,hb,hk,q⟩=>?_)
 subst ex
 obtain rfl:u=Value.ref f:=rx
 refine PySem.W.callWith_K (h₀:=X.base) I1.ok.mod.Mh hk (cL (ha pos pins s1 σ H1 _ I1 q) fun us s2 ⟨vs,H2,I2,r,q2⟩=>⟨I2.lG,?_⟩) hst hpl
 exact wx F hr hb .nil bp I2 r q2
end
def dJ (K:fm) (P:Params) (a:Addr) (x:Str) (r:Option V):Prop :=
 ∃ (es:Array DictEntry) (n:Nat),K.lookup a=some ⟨.type "dict",none,.dict es n,#[]⟩∧PySem.W.KeysLit P es.toList∧(a == sysModules)=false∧∃ q,PySem.W.nsIn K a x=some q∧iC r q
def Nj (K:fm) (P:Params) (td ty:TE):TE:=fun σ H Q=>td σ H fun x H1=>ty σ H1 fun y H2=>∃ a k v,x=.ref a∧y=.str k∧dJ K P a k (some v)∧Q v H2
def Si (K:fm) (P:Params) (ty td:TE):TE:=fun σ H Q=>ty σ H fun y H1=>td σ H1 fun x H2=>∃ a k r,x=.ref a∧y=.str k∧dJ K P a k r∧Q (.bl r.isSome) H2
section
variable {X:Cx} {o i:Expr} {pos:Pos} {td ty:TE}
theorem jr (ho:PE X o td) (hi:PE X i ty) (hs:J1 i):PE X (.Subscript o i pos) (Nj X.K X.w.params td ty):=by
 intro pins s σ H Q I h
 refine yK PySem.F.slot_dict_getitem.lookup hs (cL (ho pins s σ H _ I h) fun u s1 ⟨x,H1,I1,rx,q1⟩=>cL (hi pins s1 σ H1 _ I1 q1) fun iv s2 ⟨y,H2,I2,ry,a,k,v,ex,ey,g,q2⟩=>?_)
 subst ex ey
 obtain rfl:u=Value.ref a:=rx
 obtain ⟨t,rfl⟩:=ry
 obtain ⟨es,n,hl,hk,hm,q,hq,rq⟩:=g
 obtain ⟨w',hw,qy⟩:=iC.some_of (v:=v) (o:=q) rq
 subst hw
 have mo:=PySem.W.mapOf_K (prog:=X.prog) (w:=X.w) I2.lG hl hk
 exact ⟨mo.typeIs,wpAny_getItem_of (strKind_is X.prog X.w k t) mo (PySem.W.find_K hl hq) ⟨v,H2,I2.tok _,qy,q2⟩⟩
theorem CF (hi:PE X i ty) (ho:PE X o td):PC X .In i o (Si X.K X.w.params ty td):=by
 intro pins s σ H Q I h
 refine cL (hi pins s σ H _ I h) fun iv s1 ⟨y,H1,I1,ry,q1⟩=>cL (ho pins s1 σ H1 _ I1 q1) fun u s2 ⟨x,H2,I2,rx,a,k,r,ex,ey,g,q2⟩=>?_
 subst ex ey
 obtain rfl:u=Value.ref a:=rx
 obtain ⟨t,rfl⟩:=ry
 obtain ⟨es,n,hl,hk,hm,q,hq,rq⟩:=g
 have mo:=PySem.W.mapOf_K (prog:=X.prog) (w:=X.w) I2.lG hl hk
 refine wpAny_in_of (strKind_is X.prog X.w k t) hm mo ?_
 rw [PySem.W.find_K hl hq,← rq.iI]
 exact ⟨.bl r.isSome,H2,I2.tok _,rfl,q2⟩
end
section
variable {X:Cx} {o e f:Expr} {apos cpos:Pos} {td ty tx:TE}
end
theorem Fx {f:Nat→Bool}:∀ (bs:List Bool),(∀ i b,bs[i]? = some b→f i=b)→(List.range bs.length).all f=bs.all id:=by
 intro bs h
 rw [Bool.eq_iff_iff,List.all_eq_true,List.all_eq_true]
 constructor
 ·intro k b hb
  obtain ⟨i,hi,e⟩:=List.getElem_of_mem hb
  have:=k i (List.mem_range.mpr hi)
  rw [h i b (by rw [aa hi,e])] at this
  exact this
 ·intro k i hi
  have hi:=List.mem_range.mp hi
  rw [h i bs[i] (aa hi)]
  exact k _ (ba hi)
section
variable {X:Cx}
theorem Nk {bs:List Bool} {its:List Value} (rv:Vals (bs.map V.bl) its) {i:Nat} {v:Value} (h:its.toArray[i]? = some v):∃ b,bs[i]? = some b∧v=.bool b:=by
 have h:its[i]? = some v:=by simpa using h
 have hl:=rv.length
 rw [List.length_map] at hl
 have hi:i < bs.length:=by
  rw [hl]
  exact (ac.mp h).1
 obtain ⟨u,hu,ru⟩:=rv.get (i:=i) (x:=V.bl bs[i]) (by rw [ab,aa hi]; rfl)
 rw [h] at hu
 cases hu
 exact ⟨bs[i],aa hi,ru⟩
theorem lP (hc:X.calm=true):iG X (.builtin "all") (fun xs H Q=>∃ (a:Addr) (bs:List Bool),xs=[.ref a]∧bj X.K H a (bs.map V.bl)∧Q (.bl (bs.all id)) H):=by
 intro pins s σ H xs us Q I r h
 obtain ⟨a,bs,rfl,hq,q⟩:=h
 obtain ⟨u,rfl,ru⟩:=vals1 r
 cases ru
 obtain ⟨its,rv,p,hz⟩:=I.list hq
 have hl:=p.isList
 have hlt:a < s.heap.objs.size:=by obtain ⟨_,e,_⟩:=hl; exact et e
 have hlen:=rv.length
 rw [List.length_map] at hlen
 refine call_all_walk (wpAny_pyIter_list hl ?_)
 refine ⟨s.heap.objs.size,[s.heap.objs.size,a],[s.heap.objs.size],its.toArray.size,_,_,fun i=>(bs[i]?).getD true,rfl,Walks.list (A:=X.A.in1) (I.ok.hd hc) _ a (ij hlt) its.toArray,
  ⟨⟨_,em _ rfl,rfl,rfl⟩,hl.push _⟩,fun i v s' Q' E' hP hQ=>?_,fun h' tk hk=>?_⟩
 ·obtain ⟨b,e,rfl⟩:=Nk rv hP
  simp only [e,Option.getD_some] at hQ
  exact wpAny_truthy_bool hQ
 ·rw [ag,← hlen,Fx bs (fun i b e=>by rw [e]; rfl)]
  exact ⟨.bl _,H,I.kept (t':=tk) (fun b x e=>hk b x (fun hm=>by rw [av.mp hm] at e; exact Nat.lt_irrefl _ (et e)) (el _ e)),rfl,q⟩
end
section
variable {prog:Program} {w:World} {A:Around} {E:Value→Shared→Prop} {s:Shared}
theorem vx {it t:Addr} {i:Nat} {els:Array Value} {x:Value} {Q:Value→Shared→Prop} (ti:s.heap.IsTupleIter it t i) (tt:s.heap.IsTuple t els) (gx:els[i]? = some x)
  (k:∀ h',h'.IsTupleIter it t (i + 1)→Heap.SameBut it s.heap h'→Q x { s with heap:=h' }):wpAny (model prog w) A (Builtin.SmallTypes.nextOf (.ref it)) Q E s:=by
 obtain ⟨o,go,gc,gd⟩:=id ti
 obtain ⟨ol,Sl,_,nl,Sn⟩:=tt
 unfold Builtin.SmallTypes.nextOf
 refine cb (wpAny_callSpecial?_slot (name:=Str.ofString "__next__") ti.typeIs F.slot_tuple_iterator_next (eh F.slot_tuple_iterator_next ti.typeIs F.entry_tuple_iterator_next ?_ (F.args_tuple_iterator_next_1 _)))
 show wpAny _ _ (field (.ref it) 0 >>= _) _ _ s; refine cb (wpAny_field go gd (x:=.ref t) rfl ?_)
 show wpAny _ _ (if (Value.ref t == Value.none)=true then _ else _) _ _ s; rw [if_neg (show ¬ ((Value.ref t == Value.none)=true) from ir)]
 show wpAny _ _ (field (.ref it) 1 >>= _) _ _ s; refine cb (wpAny_field go gd (x:=.int i 0) rfl ?_)
 show wpAny _ _ (seqItems? (.ref t) >>= _) _ _ s; refine cb (wpAny_seqItems Sl Sn ?_); simp only [i4,gx]
 refine cb (wpAny_setField go gd (by simp) (ce ⟨x,rfl,ce (k _ ?_ (Heap.SameBut.update ..))⟩))
 exact ⟨_,Heap.get?_update_self _ go (Obj.isFreed_of_fields (Obj.data_mapFields gd _)),(Obj.cls_mapFields ..).trans gc,by rw [Obj.data_mapFields gd]; simp [rawInt]⟩
theorem Fy {it t:Addr} {i:Nat} {els:Array Value} {Q:Value→Shared→Prop} (hh:A.handled=none) (ti:s.heap.IsTupleIter it t i) (tt:s.heap.IsTuple t els) (gx:els[i]? = none)
  (k:∀ h' e,Heap.ExtBut it s.heap h'→(∃ o,h'.get? e=some o∧o.cls=.type "StopIteration")→E (.ref e) { s with heap:=h' }):wpAny (model prog w) A (Builtin.SmallTypes.nextOf (.ref it)) Q E s:=by
 obtain ⟨o,go,gc,gd⟩:=id ti
 obtain ⟨ol,Sl,_,nl,Sn⟩:=tt
 unfold Builtin.SmallTypes.nextOf
 refine cb (wpAny_callSpecial?_slot (name:=Str.ofString "__next__") ti.typeIs F.slot_tuple_iterator_next (eh F.slot_tuple_iterator_next ti.typeIs F.entry_tuple_iterator_next ?_ (F.args_tuple_iterator_next_1 _)))
 show wpAny _ _ (field (.ref it) 0 >>= _) _ _ s; refine cb (wpAny_field go gd (x:=.ref t) rfl ?_)
 show wpAny _ _ (if (Value.ref t == Value.none)=true then _ else _) _ _ s; rw [if_neg (show ¬ ((Value.ref t == Value.none)=true) from ir)]
 show wpAny _ _ (field (.ref it) 1 >>= _) _ _ s; refine cb (wpAny_field go gd (x:=.int i 0) rfl ?_)
 show wpAny _ _ (seqItems? (.ref t) >>= _) _ _ s; refine cb (wpAny_seqItems Sl Sn ?_); simp only [i4,gx]
 refine cb (wpAny_rule (cb (wpAny_setField go gd (by simp) ?_)))
 show wpAny _ _ (newExc (.type "StopIteration") [] >>= _) _ _ _; refine cb ?_; simp only [newExc,newTuple]; refine cb (wpAny_newObj_type ?_ (by size_fits))
 refine cb (m:=firstArgMember _ _) (wpAny_of_eq (a:=Value.none) (by first | rfl | (simp only [firstArgMember]; rfl)) ?_); refine wpAny_newObj_type ?_ (by size_fits)
 simp only [raiseNew]; refine cb (wpAny_handled ?_); (first | rw [show A.in1.handled=none from hh] | rw [hh]); refine cb (ce (wpAny_throw ?_))
 exact k _ _ (((Heap.SameBut.update ..).extBut.push _).push _) ⟨_,em _ rfl,rfl⟩
theorem Aj {z TI TO i1 i2 l1 l2:Addr} {k:Nat} {xs ys:Array Value} {x y a b:Value} {Q:Option Value→Shared→Prop} (D:ZipApart z TI TO i1 i2 l1 l2)
  (gz:IsZip s.heap z TI TO .none) (gI:IsPair s.heap TI (.ref i1) (.ref i2)) (gO:IsPair s.heap TO a b)
  (t1:s.heap.IsTupleIter i1 l1 k) (t2:s.heap.IsTupleIter i2 l2 k) (m1:s.heap.IsTuple l1 xs) (m2:s.heap.IsTuple l2 ys) (gx:xs[k]? = some x) (gy:ys[k]? = some y)
  (q:∀ h',IsZip h' z TI TO (rawInt s.heap.objs.size)→IsPair h' TO x y→h'.IsTupleIter i1 l1 (k + 1)→h'.IsTupleIter i2 l2 (k + 1)→IsPair h' s.heap.objs.size x y→h'.objs.size=s.heap.objs.size + 1 →
   (∀ c o,c ≠ z→c ≠ TO→c ≠ i1→c ≠ i2→s.heap.get? c=some o→h'.get? c=some o)→Q (some (.ref s.heap.objs.size)) { s with heap:=h' }):wpAny (model prog w) A (pyNext (.ref z)) Q E s:=by
 have hT:s.TypeIs (.ref z) "zip" := ⟨_,gz,rfl⟩
 unfold pyNext
 refine cb (wpAny_attempt (wpAny_callSpecial?_slot (name:=Str.ofString "__next__") hT F.slot_zip_next (eh F.slot_zip_next hT F.entry_zip_next ?_ (F.args_zip_next_1 _))))
 show wpAny _ _ (field (.ref z) 2 >>= _) _ _ _; refine cb (wpAny_field gz rfl (x:=.bool false) rfl ?_)
 show wpAny _ _ (field (.ref z) 3 >>= _) _ _ _; refine cb (wpAny_field gz rfl (x:=.ref TI) rfl ?_); refine cb (wpAny_seqItems gI rfl ?_)
 show wpAny _ _ (Builtin.SmallTypes.ownedTupleIsFree (.ref z) >>= _) _ _ _; refine cb ?_; unfold Builtin.SmallTypes.ownedTupleIsFree
 refine cb (wpAny_field gz rfl (x:=.none) rfl (ce ?_)); simp only [if_true]; refine cb (wpAny_rule ?_); refine cb (wpAny_field gz rfl (x:=.ref TO) rfl ?_)
 refine cb (wpAny_setField_rec gz (by simp) fun g1 z1 e1=>?_); replace z1:IsZip g1 z TI TO .ellipsis:=z1; refine cb ?_
 simp only [List.zipIdx_cons,List.zipIdx_nil,List.forIn_cons,List.forIn_nil]; refine cb (cb (wpAny_onRaise ?_))
 show wpAny _ _ (Builtin.SmallTypes.nextOf (.ref i1) >>= _) _ _ _; refine cb (vx (t1.extBut e1.extBut D.i1z) (m1.extBut e1.extBut D.l1z) gx fun g2 t1' e2=>ce ?_)
 have o2:IsPair g2 TO a b:=e2.extBut _ _ D.TOi1 (e1.extBut _ _ D.TOz gO)
 refine cb (wpAny_seqItems o2 rfl ?_); refine cb (wpAny_updateSeq_pair o2 fun g3 o3 e3=>?_); replace o3:IsPair g3 TO x b:=o3; refine cb (wpAny_letGo (ce ?_)); refine cb (cb (wpAny_onRaise ?_))
 show wpAny _ _ (Builtin.SmallTypes.nextOf (.ref i2) >>= _) _ _ _; refine cb (vx (((t2.extBut e1.extBut D.i2z).extBut e2.extBut D.i12.symm).extBut e3.extBut D.TOi2.symm) (((m2.extBut e1.extBut D.l2z).extBut e2.extBut D.l2i1).extBut e3.extBut D.l2TO) gy fun g4 t2' e4=>ce ?_)
 have o4:IsPair g4 TO x b:=e4.extBut _ _ D.TOi2 o3
 refine cb (wpAny_seqItems o4 rfl ?_); refine cb (wpAny_updateSeq_pair o4 fun g5 o5 e5=>?_); replace o5:IsPair g5 TO x y:=o5; refine cb (wpAny_letGo (ce (ce ?_)))
 refine cb (wpAny_seqItems o5 rfl ?_); refine cb (wpAny_newTuple ?_)
 have sz:g5.objs.size=s.heap.objs.size:=by rw [e5.1,e4.1,e3.1,e2.1,e1.1]
 have z5:IsZip g5 z TI TO .ellipsis:=e5.extBut _ _ D.TOz.symm (e4.extBut _ _ D.i2z.symm (e3.extBut _ _ D.TOz.symm (e2.extBut _ _ D.i1z.symm z1)))
 have kp:∀ c o,c ≠ z→c ≠ TO→c ≠ i1→c ≠ i2→s.heap.get? c=some o→g5.get? c=some o:=fun c o c1 c2 c3 c4 e=>e5.extBut _ _ c2 (e4.extBut _ _ c4 (e3.extBut _ _ c2 (e2.extBut _ _ c3 (e1.extBut _ _ c1 e))))
 have u1:g5.IsTupleIter i1 l1 (k + 1):=((t1'.extBut e3.extBut D.TOi1.symm).extBut e4.extBut D.i12).extBut e5.extBut D.TOi1.symm
 have u2:g5.IsTupleIter i2 l2 (k + 1):=t2'.extBut e5.extBut D.TOi2.symm
 have zl:z < g5.objs.size:=et z5
 show wpAny _ _ (Builtin.SmallTypes.ownedTupleHandOut (.ref z) (.ref g5.objs.size) >>= _) _ _ _; refine cb ?_; unfold Builtin.SmallTypes.ownedTupleHandOut
 have z6:IsZip (g5.push { cls:=.type "tuple",data:=.seq #[x,y] }) z TI TO .ellipsis:=el _ z5
 refine cb (wpAny_setField_rec z6 (by simp) fun g7 z7 e7=>?_); replace z7:IsZip g7 z TI TO (rawInt g5.objs.size):=z7
 refine wpAny_setField_rec z7 (by simp) fun g8 z8 e8=>?_; replace z8:IsZip g8 z TI TO (rawInt g5.objs.size):=z8
 have up:∀ c o,c ≠ z→g5.get? c=some o→g8.get? c=some o:=fun c o c1 e=>e8.extBut _ _ c1 (e7.extBut _ _ c1 (el _ e))
 have n8:IsPair g8 g5.objs.size x y:=e8.extBut _ _ (Nat.ne_of_gt zl) (e7.extBut _ _ (Nat.ne_of_gt zl) (em _ rfl))
 have s8:g8.objs.size=g5.objs.size + 1:=by rw [e8.1,e7.1,Heap.size_push]
 rw [sz] at z8 n8 s8
 refine ce ⟨.ref g5.objs.size,rfl,ce ?_⟩
 rw [sz]
 exact q g8 z8 (up _ _ D.TOz o5) (u1.at fun o e=>up _ o D.i1z e) (u2.at fun o e=>up _ o D.i2z e) n8 s8 fun c o c1 c2 c3 c4 e=>up c o c1 (kp c o c1 c2 c3 c4 e)
theorem CG {z TI TO i1 i2 l1 l2:Addr} {k:Nat} {xs:Array Value} {Q:Option Value→Shared→Prop} (hh:A.handled=none) (D:ZipApart z TI TO i1 i2 l1 l2)
  (gz:IsZip s.heap z TI TO .none) (gI:IsPair s.heap TI (.ref i1) (.ref i2)) (t1:s.heap.IsTupleIter i1 l1 k) (m1:s.heap.IsTuple l1 xs) (gx:xs[k]? = none)
  (q:∀ h',(∀ c o,c ≠ z→c ≠ TO→c ≠ i1→c ≠ i2→s.heap.get? c=some o→h'.get? c=some o)→Q none { s with heap:=h' }):wpAny (model prog w) A (pyNext (.ref z)) Q E s:=by
 have hT:s.TypeIs (.ref z) "zip" := ⟨_,gz,rfl⟩
 unfold pyNext
 refine cb (wpAny_attempt (wpAny_callSpecial?_slot (name:=Str.ofString "__next__") hT F.slot_zip_next (eh F.slot_zip_next hT F.entry_zip_next ?_ (F.args_zip_next_1 _))))
 show wpAny _ _ (field (.ref z) 2 >>= _) _ _ _; refine cb (wpAny_field gz rfl (x:=.bool false) rfl ?_)
 show wpAny _ _ (field (.ref z) 3 >>= _) _ _ _; refine cb (wpAny_field gz rfl (x:=.ref TI) rfl ?_); refine cb (wpAny_seqItems gI rfl ?_)
 show wpAny _ _ (Builtin.SmallTypes.ownedTupleIsFree (.ref z) >>= _) _ _ _; refine cb ?_; unfold Builtin.SmallTypes.ownedTupleIsFree
 refine cb (wpAny_field gz rfl (x:=.none) rfl (ce ?_)); simp only [if_true]; refine cb (wpAny_rule ?_); refine cb (wpAny_field gz rfl (x:=.ref TO) rfl ?_)
 refine cb (wpAny_setField_rec gz (by simp) fun g1 z1 e1=>?_); replace z1:IsZip g1 z TI TO .ellipsis:=z1; refine cb ?_
 simp only [List.zipIdx_cons,List.zipIdx_nil,List.forIn_cons,List.forIn_nil]; refine cb (cb (wpAny_onRaise ?_))
 show wpAny _ _ (Builtin.SmallTypes.nextOf (.ref i1) >>= _) _ _ _; refine cb (Fy hh (t1.extBut e1.extBut D.i1z) (m1.extBut e1.extBut D.l1z) gx fun g2 e e2 he=>?_)
 obtain ⟨oe,hoe,hce⟩:=he
 have z2:IsZip g2 z TI TO .ellipsis:=e2 _ _ D.i1z.symm z1
 have ne:e ≠ z:=fun x=>by subst x; rw [z2] at hoe; cases hoe; simp at hce
 refine wpAny_setField_rec z2 (by simp) fun g3 _ e3=>?_
 refine cb (wpAny_isInstance (T := "StopIteration") (b:=true) ⟨oe,e3.extBut _ _ ne hoe,hce⟩ isSubtype_stop ?_)
 exact ce (q g3 fun c o c1 _ c3 _ x=>e3.extBut _ _ c1 (e2 _ _ c3 (e1.extBut _ _ c1 x)))
end
abbrev Q7 (h:Heap) (a:Addr):Heap:=h.push { cls:=.type "tuple_iterator",data:=.fields #[.ref a,.int 0 0] }
abbrev Q8 (h:Heap) (a b:Addr):Heap:=(Q7 h a).push { cls:=.type "tuple_iterator",data:=.fields #[.ref b,.int 0 0] }
abbrev Q9 (h:Heap) (a b:Addr):Heap:=(Q8 h a b).push { cls:=.type "tuple",data:=.seq #[.ref h.objs.size,.ref (Q7 h a).objs.size] }
abbrev Ra (h:Heap) (a b:Addr):Heap:=(Q9 h a b).push { cls:=.type "tuple",data:=.seq #[.none,.none] }
abbrev LX (h:Heap) (a b:Addr):Heap:=(Ra h a b).push { cls:=.type "zip",data:=.fields #[.none,.bool false,.bool false,.ref (Q8 h a b).objs.size,.ref (Q9 h a b).objs.size] }
theorem mzT (a b:Addr) (xs ys:Array Value):Meets (Builtin.«zip.__new__» ⟨[.type "zip",.ref a,.ref b],[]⟩) (fun _ R s=>s.heap.IsTuple a xs∧s.heap.IsTuple b ys∧R (.ok (.ret (.ref (Ra s.heap a b).objs.size))) { s with heap:=LX s.heap a b }) :=
 .of_wp fun prog w A R s h=>by
  obtain ⟨hp,g,d,tk,os⟩:=s; obtain ⟨m1,m2,h⟩:=h
  have hsub:=sub_zip
  have n1:Heap.IsTuple (Shared.heap ⟨hp,g,d,tk,os⟩) a xs:=m1
  have n2:Heap.IsTuple (Shared.heap ⟨hp.push { cls:=.type "tuple_iterator",data:=.fields #[.ref a,.int 0 0] },g,d,tk,os⟩) b ys:=Heap.IsTuple.push m2 _
  wp_walk using wpAny_pyIter_tuple n1,wpAny_pyIter_tuple n2
  exact ⟨_,rfl,h⟩
section
variable {prog:Program} {w:World} {A:Around} {E:Value→Shared→Prop} {s:Shared}
theorem Ak {a b:Addr} {xs ys:Array Value} {Q:Value→Shared→Prop} (m1:s.heap.IsTuple a xs) (m2:s.heap.IsTuple b ys)
  (h:∀ h',IsZip h' (s.heap.objs.size + 4) (s.heap.objs.size + 2) (s.heap.objs.size + 3) .none→IsPair h' (s.heap.objs.size + 2) (.ref s.heap.objs.size) (.ref (s.heap.objs.size + 1)) →
   IsPair h' (s.heap.objs.size + 3) .none .none→h'.IsTupleIter s.heap.objs.size a 0→h'.IsTupleIter (s.heap.objs.size + 1) b 0→(∀ c o,s.heap.get? c=some o→h'.get? c=some o)→Q (.ref (s.heap.objs.size + 4)) { s with heap:=h' }) :
  wpAny (model prog w) A (call (.type "zip") [.ref a,.ref b]) Q E s:=by
 refine callType_new F.called_zip (by decide) (F.typeCall_zip_2 _ _) (F.newCall_zip_2 _ _) (fun obj=>F.args_object_init_3 obj _ _) F.entry_zip_new (mzT a b xs ys) ⟨m1,m2,?_⟩
 have z1:(Q7 s.heap a).objs.size=s.heap.objs.size + 1:=Heap.size_push ..
 have z2:(Q8 s.heap a b).objs.size=s.heap.objs.size + 2:=by rw [Heap.size_push,z1]
 have z3:(Q9 s.heap a b).objs.size=s.heap.objs.size + 3:=by rw [Heap.size_push,z2]
 have z4:(Ra s.heap a b).objs.size=s.heap.objs.size + 4:=by rw [Heap.size_push,z3]
 have g5:(LX s.heap a b).get? (Ra s.heap a b).objs.size=some _:=em _ rfl
 have g4:(LX s.heap a b).get? (Q9 s.heap a b).objs.size=some _:=el _ (em _ rfl)
 have g3:(LX s.heap a b).get? (Q8 s.heap a b).objs.size=some _:=el _ (el _ (em _ rfl))
 have g2:(LX s.heap a b).get? (Q7 s.heap a).objs.size=some _:=el _ (el _ (el _ (em _ rfl)))
 have g1:(LX s.heap a b).get? s.heap.objs.size=some _:=el _ (el _ (el _ (el _ (em _ rfl))))
 show _∧_
 rw [z2,z3,z4] at g5
 rw [z1,z2] at g3
 rw [z3] at g4
 rw [z1] at g2
 rw [z4]
 refine ⟨⟨_,g5,rfl⟩,h _ g5 g3 g4 ⟨_,g1,rfl,rfl⟩ ⟨_,g2,rfl,rfl⟩ fun c o x=>?_⟩
 exact el _ (el _ (el _ (el _ (el _ x))))
end
def Nm (K:fm) (a b:Addr):It :=
 ⟨fun i H=>∃ xs x ys y,aS K H a xs∧xs[i]? = some x∧aS K H b ys∧ys[i]? = some y,
   fun i H v H'=>∃ t x y,H t=none∧v=.ref t∧H'=upd H t (.tup [x,y])∧(∀ xs,aS K H a xs→xs[i]? = some x)∧∀ ys,aS K H b ys→ys[i]? = some y,
   fun i H=>∃ xs,aS K H a xs∧xs.length ≤ i⟩
theorem CH {P:Program} {w:World} {K:fm} {elts:List Expr} {x1} {pos:Pos} (a b z TI TO i1 i2:Addr) (D:ZipApart z TI TO i1 i2 a b) :
  Turn P w K (.Tuple elts x1 pos) (Nm K a b) [z,TI,TO,i1,i2] z (fun i h=>IsZip h z TI TO .none∧IsPair h TI (.ref i1) (.ref i2)∧(∃ u v,IsPair h TO u v)∧h.IsTupleIter i1 a i∧h.IsTupleIter i2 b i) where
 mem:=by simp
 obj:=fun i h st c hc=>by
  obtain ⟨s1,s2,⟨u,v,s3⟩,⟨o4,s4,_,d4⟩,⟨o5,s5,_,d5⟩⟩:=st
  have hc':c=z∨c=TI∨c=TO∨c=i1∨c=i2:=by simpa using hc
  rcases hc' with rfl | rfl | rfl | rfl | rfl
  ·exact ⟨_,s1,fun v q=>by have q':Data.fields _=Data.cell v:=q; cases q'⟩
  ·exact ⟨_,s2,fun v q=>by have q':Data.seq _ _=Data.cell v:=q; cases q'⟩
  ·exact ⟨_,s3,fun v q=>by have q':Data.seq _ _=Data.cell v:=q; cases q'⟩
  ·exact ⟨o4,s4,fun v q=>by rw [d4] at q; cases q⟩
  ·exact ⟨o5,s5,fun v q=>by rw [d5] at q; cases q⟩
 keep:=fun i h h' st k=>⟨k z (by simp) _ st.1,k TI (by simp) _ st.2.1,st.2.2.1.elim fun u q=>q.elim fun v q=>⟨u,v,k TO (by simp) _ q⟩,st.2.2.2.1.at fun o e=>k i1 (by simp) o e,st.2.2.2.2.at fun o e=>k i2 (by simp) o e⟩
 item:=by
  intro X hP hw hK hc i pins s σ H E I hf st hg
  subst hP hw hK
  obtain ⟨xs,x,ys,y,hq,hx,hq2,hy⟩:=hg
  obtain ⟨s1,s2,⟨u,v,s3⟩,s4,s5⟩:=st
  obtain ⟨its,rv,p,hz⟩:=I.tuple hq
  obtain ⟨its2,rv2,p2,hz2⟩:=I.tuple hq2
  obtain ⟨ux,hux,rux⟩:=rv.get hx
  obtain ⟨uy,huy,ruy⟩:=rv2.get hy
  refine Aj D s1 s2 s3 s4 s5 (show s.heap.IsTuple a its.toArray from p) (show s.heap.IsTuple b its2.toArray from p2) (x:=ux) (y:=uy) (by simpa using hux) (by simpa using huy) fun h1 a1 a2 a3 a4 a5 a6 k1=>?_
  refine ⟨_,rfl,wpAny_letOwnedTupleGo_zip a1 fun h2 b1 b2=>?_⟩
  have nz:s.heap.objs.size ≠ z:=Nat.ne_of_gt (et s1)
  have Ng:=(b2.2 s.heap.objs.size nz).trans a5
  have hk:∀ c o,c ∉ [z,TO,i1,i2]→s.heap.get? c=some o→h2.get? c=some o:=fun c o hb e'=>by
   have hb':c ≠ z∧c ≠ TO∧c ≠ i1∧c ≠ i2:=by simpa using hb
   exact (b2.2 c hb'.1).trans (k1 c o hb'.1 hb'.2.1 hb'.2.2.1 hb'.2.2.2 e')
  have hfr:H s.heap.objs.size=none:=I.hok.fresh (ii _)
  refine ⟨.ref s.heap.objs.size,upd H s.heap.objs.size (.tup [x,y]),I.rB (t':=s.toks) hk (fun c hc=>hf c (by simp at hc ⊢; rcases hc with q | q | q | q <;> simp [q])) (ii _) ?_,rfl,
   ⟨_,x,y,hfr,rfl,rfl,fun zs hy'=>by rw [I.jm hy' hq]; exact hx,fun zs hy'=>by rw [I.jm hy' hq2]; exact hy⟩,⟨b1,?_,⟨ux,uy,?_⟩,a3.at fun o e=>(b2.2 i1 D.i1z).trans e,a4.at fun o e=>(b2.2 i2 D.i2z).trans e⟩,fun c hc=>?_⟩
  ·exact ⟨by show 2 ≤ de; decide,[ux,uy],.cons rux (.cons ruy .nil),⟨_,Ng,rfl,_,rfl⟩⟩
  ·exact hk TI _ (by simp [D.TIz,D.TITO,D.TIi1,D.TIi2]) s2
  ·exact (b2.2 TO D.TOz).trans a2
  ·have:c ≠ s.heap.objs.size:=by
    have hc':c=z∨c=TI∨c=TO∨c=i1∨c=i2:=by simpa using hc
    rcases hc' with rfl | rfl | rfl | rfl | rfl
    ·exact Ne.symm nz
    ·exact ij (et s2)
    ·exact ij (et s3)
    ·obtain ⟨o,e1,_⟩:=s4; exact ij (et e1)
    ·obtain ⟨o,e1,_⟩:=s5; exact ij (et e1)
   rw [aL this]
   exact (hf c hc).1
 done:=by
  intro X hP hw hK hc i pins s σ H E I hf st hg
  subst hP hw hK
  obtain ⟨xs,hq,hx⟩:=hg
  obtain ⟨s1,s2,s3,s4,s5⟩:=st
  obtain ⟨its,rv,p,hz⟩:=I.tuple hq
  have hl:=rv.length
  exact CG (I.ok.hd hc) D s1 s2 s4 (show s.heap.IsTuple a its.toArray from p) (by simp; omega) fun h' eb=>⟨rfl,I.Ft (t':=s.toks) (its:=[z,TO,i1,i2]) (fun c o hb e=>by
   have hb':c ≠ z∧c ≠ TO∧c ≠ i1∧c ≠ i2:=by simpa using hb
   exact eb c o hb'.1 hb'.2.1 hb'.2.2.1 hb'.2.2.2 e) (fun c hc=>hf c (by simp at hc ⊢; rcases hc with q | q | q | q <;> simp [q]))⟩
 self:=fun _ _ _ _ _ st h=>wpAny_pyIter_zip st.1 h
section
variable {X:Cx}
def Sq (K:fm) (ta:TA):TI:=fun σ H R=>ta σ H fun vs H1=>∃ a b,vs=[.ref a,.ref b]∧(∃ xs,aS K H1 a xs)∧(∃ ys,aS K H1 b ys)∧R (Nm K a b) H1
theorem Ke:bootBuiltins "zip" = some (.type "zip"):=by decide +kernel
theorem Kf {a b:Expr} {ta:TA} {p pos:Pos} {elts:List Expr} {x1} {tpos:Pos} (hg:Gl X "zip") (hm:X.mg "zip" = none) (ha:PA X [a,b] ta)
  (hs:starEach [a,b] X.env=[(false,eval a X.env),(false,eval b X.env)]:=by rfl) (hs2:starEach [b] X.env=[(false,eval b X.env)]:=by rfl):PI X (.Tuple elts x1 tpos) (.Call (.Name "zip" p) [a,b] [] pos) (Sq X.K ta):=by
 intro pins s σ H R I h
 refine Call_ (jZ I hg hm Ke (PyProof.Rows.callWith_type1 (cL (ha pos pins s σ H _ I h) fun us s1 ⟨vs,H1,I1,r1,q1⟩=>?_) (by rw [hs,hs2]) (by rw [hs2]; rfl)))
 obtain ⟨a,b,e,⟨xs,hq⟩,⟨ys,hq2⟩,q⟩:=q1
 subst e
 obtain ⟨u,v,rfl,ru,rv⟩:=vals2 r1
 cases ru
 cases rv
 obtain ⟨its,rv,p,hz⟩:=I1.tuple hq
 obtain ⟨its2,rv2,p2,hz2⟩:=I1.tuple hq2
 have la:a < s1.heap.objs.size:=by obtain ⟨o,e,_⟩:=p; exact et e
 have lb:b < s1.heap.objs.size:=by obtain ⟨o,e,_⟩:=p2; exact et e
 refine Ak (show s1.heap.IsTuple a its.toArray from p) (show s1.heap.IsTuple b its2.toArray from p2) fun h' g1 g2 g3 g4 g5 hk=>?_
 refine wpAny_pyIter_zip g1 ?_
 have D:ZipApart (s1.heap.objs.size + 4) (s1.heap.objs.size + 2) (s1.heap.objs.size + 3) s1.heap.objs.size (s1.heap.objs.size + 1) a b:=PySem.W.ktu_apart _ _ _ la lb
 refine ⟨s1.heap.objs.size + 4,[s1.heap.objs.size + 4,s1.heap.objs.size + 2,s1.heap.objs.size + 3,s1.heap.objs.size,s1.heap.objs.size + 1],_,_,H1,rfl,I1.kept (t':=s1.toks) hk,CH a b _ _ _ _ _ D,⟨g1,g2,⟨_,_,g3⟩,g4,g5⟩,fun c hc=>?_,q⟩
 have hc':s1.heap.objs.size ≤ c:=by
  have hc':c=s1.heap.objs.size + 4∨c=s1.heap.objs.size + 2∨c=s1.heap.objs.size + 3∨c=s1.heap.objs.size∨c=s1.heap.objs.size + 1:=by simpa using hc
  rcases hc' with q | q | q | q | q <;> rw [q]
  ·exact Nat.le_add_right _ _
  ·exact Nat.le_add_right _ _
  ·exact Nat.le_add_right _ _
  ·exact ii _
  ·exact Nat.le_add_right _ _
 exact I1.BO hc' (I1.hok.fresh hc')
end
theorem CI {K:fm} {a:Addr} {xs:List V} {g:TG} {tt:TT} {te:TE} {R:Hp→Prop} {D:Addr} {σ0:St} {H0:Hp} (Pv:Nat→St→List V→Hp→Prop) (h0:Pv 0 σ0 [] H0) (hl:∀ i σ ys H,i ≤ xs.length→Pv i σ ys H→aS K H a xs)
  (hs:∀ i x σ ys H,xs[i]? = some x→Pv i σ ys H→g x σ H fun σ2 H2=>tt σ2 H2 fun b H3 =>
   if b=true then te σ2 H3 fun v H4=>H4 D=some (.lst ys)∧ys.length < de∧Pv (i + 1) σ2 (ys ++ [v]) (upd H4 D (.lst (ys ++ [v]))) else Pv (i + 1) σ2 ys H3)
  (hd:∀ σ ys H,Pv xs.length σ ys H→R H) :
  ∃ W:Nat→Nat→St→List V→Hp→Prop,(∃ m,W 0 m σ0 [] H0)∧∀ i m σ ys H,W i m σ ys H →
   ((Mw K a).stop i H∧R H)∨((Mw K a).go i H∧∃ N:St→List V→Hp→Prop,(∀ σ' ys' H',N σ' ys' H'→∃ m',m' < m∧W (i + 1) m' σ' ys' H')∧∀ x H',(Mw K a).BM i H x H'→g x σ H' fun σ2 H2=>tt σ2 H2 fun b H3 =>
    if b=true then te σ2 H3 fun v H4=>H4 D=some (.lst ys)∧ys.length < de∧N σ2 (ys ++ [v]) (upd H4 D (.lst (ys ++ [v]))) else N σ2 ys H3):=by
 refine ⟨fun i m σ ys H=>m=xs.length - i∧i ≤ xs.length∧Pv i σ ys H,⟨xs.length,by simp,Nat.zero_le _,h0⟩,?_⟩
 rintro i m σ ys H ⟨rfl,hi,p⟩
 have q:=hl i σ ys H hi p
 by_cases hlt:i < xs.length
 ·refine .inr ⟨⟨xs,xs[i],q,by simp [hlt]⟩,Pv (i + 1),fun σ' ys' H' p'=>⟨xs.length - (i + 1),by omega,rfl,hlt,p'⟩,fun x H' y=>?_⟩
  obtain ⟨e,y⟩:=y
  subst e
  exact hs i x σ ys _ (y xs q) p
 ·have e:i=xs.length:=by omega
  subst e
  exact .inl ⟨⟨xs,q,ii _⟩,hd σ ys H p⟩
theorem CJ {K:fm} {a b:Addr} {xs zs:List V} {g:TG} {tt:TT} {te:TE} {R:Hp→Prop} {D:Addr} {σ0:St} {H0:Hp} (hlen:xs.length=zs.length) (Pv:Nat→St→List V→Hp→Prop) (h0:Pv 0 σ0 [] H0)
  (hl:∀ i σ ys H,i ≤ xs.length→Pv i σ ys H→aS K H a xs∧aS K H b zs)
  (hs:∀ i x z σ ys H t,xs[i]? = some x→zs[i]? = some z→H t=none→Pv i σ ys H→g (.ref t) σ (upd H t (.tup [x,z])) fun σ2 H2=>tt σ2 H2 fun c H3 =>
   if c=true then te σ2 H3 fun v H4=>H4 D=some (.lst ys)∧ys.length < de∧Pv (i + 1) σ2 (ys ++ [v]) (upd H4 D (.lst (ys ++ [v]))) else Pv (i + 1) σ2 ys H3)
  (hd:∀ σ ys H,Pv xs.length σ ys H→R H) :
  ∃ W:Nat→Nat→St→List V→Hp→Prop,(∃ m,W 0 m σ0 [] H0)∧∀ i m σ ys H,W i m σ ys H →
   ((Nm K a b).stop i H∧R H)∨((Nm K a b).go i H∧∃ N:St→List V→Hp→Prop,(∀ σ' ys' H',N σ' ys' H'→∃ m',m' < m∧W (i + 1) m' σ' ys' H')∧∀ x H',(Nm K a b).BM i H x H'→g x σ H' fun σ2 H2=>tt σ2 H2 fun c H3 =>
    if c=true then te σ2 H3 fun v H4=>H4 D=some (.lst ys)∧ys.length < de∧N σ2 (ys ++ [v]) (upd H4 D (.lst (ys ++ [v]))) else N σ2 ys H3):=by
 refine ⟨fun i m σ ys H=>m=xs.length - i∧i ≤ xs.length∧Pv i σ ys H,⟨xs.length,by simp,Nat.zero_le _,h0⟩,?_⟩
 rintro i m σ ys H ⟨rfl,hi,p⟩
 obtain ⟨q,q2⟩:=hl i σ ys H hi p
 by_cases hlt:i < xs.length
 ·refine .inr ⟨⟨xs,xs[i],zs,zs[i]'(by omega),q,aa hlt,q2,aa _⟩,Pv (i + 1),fun σ' ys' H' p'=>⟨xs.length - (i + 1),by omega,rfl,hlt,p'⟩,fun v H' y=>?_⟩
  obtain ⟨t,x,z,hn,e1,e2,y1,y2⟩:=y
  subst e1 e2
  exact hs i x z σ ys _ t (y1 xs q) (y2 zs q2) hn p
 ·have e:i=xs.length:=by omega
  subst e
  exact .inl ⟨⟨xs,q,ii _⟩,hd σ ys H p⟩
end L2
namespace L2
open PySem PySem.W PySem.Spec PySem.Calls PyProof.Rows
section
variable {P:Program} {w:World} {K:fm} {mg:Str→Option Value} {base:Heap} {N:List Str} {qual:Str} {scope:Scope} {f:Addr} {cd:Value} {A:Around} {outer:List Env} {s₀:Shared} {H₀:Hp} {E:XK}
end
section
variable {X:Cx} {pins:List (Addr × Obj)} {σ:St}
end
section
variable {X:Cx} {pins:List (Addr × Obj)} {σ:St} {H:Hp} {s:Shared}
end
section
variable {X:Cx} {k:Nat} {f C cR:Addr} {fd:cx} {ps:List Str} {sp:Sp} {qx:List V} {ds:List Value} {x m n:Str} {np pos apos p2 p3 p4:Pos} {o:Expr} {ta:TE} {ts:TS} {i:Nat} {b₀:Stmt} {suite:List Stmt} {L:Addr}
end
end L2
namespace L2
open PySem PySem.W PySem.Spec PySem.Calls PyProof.Rows PySem.Builtin PySem.Builtin.ObjectAttr PySem.Builtin.Getset_descriptor
section
variable {prog:Program} {w:World} {A:Around} {E:Value→Shared→Prop} {s:Shared} {K:fm} {x C:Addr}
end
end L2
namespace L2
open PySem PySem.W PySem.Spec PySem.Calls PyProof.Rows
section
variable {X:Cx} {C:Addr} {Bn:String}
end
section
variable {M:Model} {A:Around} {XE:Value→Shared→Prop} {s:Shared} {B:Heap} {env:Env} {outer l:List Env} {L e:Addr} {cls a0 fl:Value} {od:Option Addr} {Q:Unit→Shared→Prop}
end
section
variable {K:fm} {C R fI:Addr} {h:Heap}
variable {prog:Program} {w:World} {A:Around} {XE:Value→Shared→Prop} {s:Shared}
end
section
variable {X:Cx} {C R fI:Addr} {x:Str} {e v2:Expr} {es:List Expr} {t:TA} {te:TE} {np apos pos p1 p2 p3:Pos} {cc:Str} {j:Nat}
end
section
variable {X:Cx} {C R f:Addr} {fd:cx} {k:Nat}
end
section
variable {P:Program} {w:World} {K:fm} {mg:Str→Option Value} {base:Heap} {N:List Str} {qual:Str} {scope:Scope} {f:Addr} {cd:Value} {A:Around} {outer:List Env} {s₀:Shared} {H₀:Hp} {E:XK}
end
section
variable {X:Cx} {pins:List (Addr × Obj)} {σ:St} {H:Hp} {s:Shared}
end
section
variable {X:Cx} {pins:List (Addr × Obj)} {σ:St}
end
section
variable {X:Cx} {k:Nat} {f cR:Addr} {fd:cx} {ps:List Str} {sp:Sp} {qx:List V} {ds:List Value} {x g n:Str} {np gp pos p2 p3 p4:Pos} {a:Expr} {as:List Expr} {t:TA} {ts:TS} {i:Nat} {b₀:Stmt} {suite:List Stmt} {L:Addr}
end
section
variable {X:Cx} {C R fI:Addr} {Bn:String}
end
end L2
namespace L2
open PySem PySem.Spec PyProof.Rows
def Nn (t u:TS):TS:=fun D σ H=>∃ J:St→Hp→Prop,t { D with nx:=J } σ H∧∀ σ' H',J σ' H'→u D σ' H'
theorem sH {X:Cx} {st:Stmt} {rest:List Stmt} {t u:TS} (h1:PS X st t) (h2:rZ X rest u):rZ X (st :: rest) (Nn t u):=by
 intro pins s σ H D I h
 obtain ⟨J,h,hJ⟩:=h
 refine wpAny_execs_cons (cL (h1 pins s σ H { D with nx:=J } I h) fun f s1 q=>?_)
 cases f with
 | next =>
  obtain ⟨σ',H',I',q⟩:=q
  exact h2 pins s1 σ' H' D I' (hJ _ _ q)
 | ret v=>exact q
 | brk=>exact q
 | cont=>exact q
section
variable {X:Cx}
end
section
variable {σ:St}
end
structure LY (X:Cx) (st:Stmt) (t:TS):Prop where
 ps:PS X st t
structure sI (X:Cx) (b:List Stmt) (t:TS):Prop where
 ps:rZ X b t
section
variable {X:Cx}
theorem aG {st:Stmt} {t:TS} (h:PS X st t):LY X st t:=⟨h⟩
theorem cD {c:Expr} {a b:List Stmt} {tc:TT} {t u:TS} {pos:Pos} (hc:PT X c tc) (ha:sI X a t) (hb:sI X b u):LY X (.If c a b pos) (Mu tc t u):=⟨cq hc ha.ps hb.ps⟩
theorem bu {t:TS} (h:rZ X [] t):sI X [] t:=⟨h⟩
theorem aw {st:Stmt} {b:List Stmt} {t u:TS} (h:LY X st t) (k:sI X b u):sI X (st :: b) (Fb t u):=⟨aB h.ps k.ps⟩
theorem gB {st:Stmt} {b:List Stmt} {t u:TS} (h:LY X st t) (k:sI X b u):sI X (st :: b) (Nn t u):=⟨sH h.ps k.ps⟩
theorem aM {st:Stmt} {t:TS} (h:LY X st t):sI X [st] t:=⟨aA h.ps⟩
theorem dG {b:List Stmt} {t:TS} {R:TS→Prop} (h:sI X b t) (hr:R t):∃ t,rZ X b t∧R t:=⟨t,h.ps,hr⟩
end
section
variable {X:Cx}
end
section
variable {X:Cx}
end
section
variable {X:Cx}
end
inductive Da where
 | non | bl (b:Bool) | int (i:Int) | str (s:Str) | tup (l:List Da) | lst (l:List Da)
mutual
def Da.beq:Da→Da→Bool
 | .non,.non=>true
 | .bl a,.bl b=>a == b
 | .int a,.int b=>decide (a=b)
 | .str a,.str b=>decide (a=b)
 | .tup a,.tup b=>Da.wW a b
 | .lst a,.lst b=>Da.wW a b
 | _,_=>false
def Da.wW:List Da→List Da→Bool
 | [],[]=>true
 | a :: r,b :: t=>Da.beq a b && Da.wW r t
 | _,_=>false
end
mutual
theorem Da.beq_iff:∀ a b:Da,Da.beq a b=true↔a=b
 | .non,b=>by cases b <;> simp [Da.beq]
 | .bl x,b=>by cases b <;> simp [Da.beq]
 | .int x,b=>by cases b <;> simp [Da.beq]
 | .str x,b=>by cases b <;> simp [Da.beq]
 | .tup x,b=>by
  cases b <;> simp [Da.beq]
  exact Da.oW _ _
 | .lst x,b=>by
  cases b <;> simp [Da.beq]
  exact Da.oW _ _
theorem Da.oW:∀ a b:List Da,Da.wW a b=true↔a=b
 | [],b=>by cases b <;> simp [Da.wW]
 | x :: r,[]=>by simp [Da.wW]
 | x :: r,y :: t=>by
  simp [Da.wW]
  rw [Da.beq_iff x y,Da.oW r t]
end
instance:DecidableEq Da:=fun a b=>decidable_of_iff _ (Da.beq_iff a b)
inductive ic (K:fm) (H:Hp):V→Da→Prop
 | non:ic K H .non .non
 | bl (b:Bool):ic K H (.bl b) (.bl b)
 | int (i:Int):ic K H (.int i) (.int i)
 | str (x:Str):ic K H (.str x) (.str x)
 | tup {p:Addr} {xs:List V} {ds:List Da}:aS K H p xs→xs.length=ds.length→(∀ (i:Nat) x d,xs[i]? = some x→ds[i]? = some d→ic K H x d)→ic K H (.ref p) (.tup ds)
 | lst {p:Addr} {xs:List V} {ds:List Da}:bj K H p xs→xs.length=ds.length→(∀ (i:Nat) x d,xs[i]? = some x→ds[i]? = some d→ic K H x d)→ic K H (.ref p) (.lst ds)
inductive Da.Nb:Nat→Da→Prop
 | non {n}:Da.Nb n .non
 | int {n i}:Da.Nb n (.int i)
 | str {n i}:Da.Nb n (.str i)
 | tup {n l}:(∀ d ∈ l,Da.Nb n d)→Da.Nb (n + 1) (.tup l)
 | lst {n l}:(∀ d ∈ l,Da.Nb n d)→Da.Nb (n + 1) (.lst l)
theorem oX:∀ (a b:List Da),a.length=b.length→((List.range a.length).all fun i=>decide (a[i]? = b[i]?))=decide (a=b):=fun a b h=>by
 by_cases e:a=b
 ·subst e
  simp
 ·rw [decide_eq_false e]
  rw [Bool.eq_false_iff]
  intro z
  apply e
  apply List.ext_getElem?
  intro i
  by_cases hi:i < a.length
  ·have:=(List.all_eq_true.mp z) i (List.mem_range.mpr hi)
   exact of_decide_eq_true this
  ·rw [List.getElem?_eq_none (by omega),List.getElem?_eq_none (by omega)]
section
variable {X:Cx} {pins:List (Addr × Obj)} {σ:St} {H:Hp} {s:Shared}
theorem CK {its:List Value} {xs:List V} (r:Vals xs its) {j:Nat} (h:j < its.toArray.size):∃ x,xs[j]? = some x∧RelV x its.toArray[j]:=by
 have l:=r.length
 have j1:j < xs.length:=by simp at h; omega
 have z1:xs[j]? = some xs[j]:=aa j1
 obtain ⟨u1,w1,q1⟩:=r.get z1
 have e1:its.toArray[j]=u1:=by
  have:its[j]? = some its[j]:=aa (by omega)
  rw [this] at w1
  simpa using w1
 exact ⟨_,z1,by rw [e1]; exact q1⟩
theorem kF {p:Addr} {i1 i2:Array Value} (t1:s.heap.IsTuple p i1) (t2:s.heap.IsList p i2):False:=by
 obtain ⟨o,e,c1,n,d⟩:=t1
 obtain ⟨o',e',c2,n',d'⟩:=t2
 rw [e] at e'; cases e'
 rw [c1] at c2
 exact absurd c2 (by decide)
theorem sJ (I:Inv X pins σ H s) {x:V} {a b:Da} (ha:ic X.K H x a) (hb:ic X.K H x b):a=b:=by
 induction ha generalizing b with
 | non=>cases hb; rfl
 | bl _=>cases hb; rfl
 | int _=>cases hb; rfl
 | str _=>cases hb; rfl
 | @tup p xs ds hp hl hd ih =>
  cases hb with
  | @tup q ys es hq hl2 hd2 =>
   have Sr:xs=ys:=I.jm hp hq
   subst Sr
   refine congrArg Da.tup ?_
   apply List.ext_getElem (by omega)
   intro j h1 h2
   have g0:xs[j]? = some xs[j]:=aa (by omega)
   have g1:ds[j]? = some ds[j]:=aa h1
   have g2:es[j]? = some es[j]:=aa h2
   exact ih j _ _ g0 g1 (hd2 j _ _ g0 g2)
  | @lst q ys es hq hl2 hd2 =>
   obtain ⟨i1,r1,t1,_⟩:=I.tuple hp
   obtain ⟨i2,r2,t2,_⟩:=I.list hq
   exact (kF t1 t2.isList).elim
 | @lst p xs ds hp hl hd ih =>
  cases hb with
  | @lst q ys es hq hl2 hd2 =>
   have Sr:xs=ys:=I.ou hp hq
   subst Sr
   refine congrArg Da.lst ?_
   apply List.ext_getElem (by omega)
   intro j h1 h2
   have g0:xs[j]? = some xs[j]:=aa (by omega)
   have g1:ds[j]? = some ds[j]:=aa h1
   have g2:es[j]? = some es[j]:=aa h2
   exact ih j _ _ g0 g1 (hd2 j _ _ g0 g2)
  | @tup q ys es hq hl2 hd2 =>
   obtain ⟨i1,r1,t1,_⟩:=I.tuple hq
   obtain ⟨i2,r2,t2,_⟩:=I.list hp
   exact (kF t1 t2.isList).elim
theorem nZ {A:Around} {m:Nat} {xs ys:List V} {ds es:List Da} {i1 i2:List Value} (r1:Vals xs i1) (r2:Vals ys i2) (hl:xs.length=ds.length) (hl2:ys.length=es.length)
  (ih:∀ (j:Nat) x d y e u v,xs[j]? = some x→ds[j]? = some d→ys[j]? = some y→es[j]? = some e→RelV x u→RelV y v→SeqAt.EqAt A s u v (decide (d=e)))
  (j:Nat) (h1:j < i1.toArray.size) (h2:j < i2.toArray.size):SeqAt.EqAt A s i1.toArray[j] i2.toArray[j] (decide (ds[j]? = es[j]?)):=by
 obtain ⟨x1,z1,q1⟩:=CK r1 h1
 obtain ⟨x2,z2,q2⟩:=CK r2 h2
 have k1:=(ac.mp z1).1
 have k2:=(ac.mp z2).1
 have g1:ds[j]? = some (ds[j]'(by omega)):=aa (by omega)
 have g2:es[j]? = some (es[j]'(by omega)):=aa (by omega)
 have r:=ih j x1 _ x2 _ _ _ z1 g1 z2 g2 q1 q2
 have e:decide (ds[j]? = es[j]?)=decide (ds[j]'(by omega)=es[j]'(by omega)):=by rw [g1,g2]; simp
 rw [e]
 exact r
theorem Iy {xs ys:List V} {ds es:List Da} {i1 i2:List Value} (r1:Vals xs i1) (r2:Vals ys i2) (hl:xs.length=ds.length) (hl2:ys.length=es.length) :
  ((List.range (min i1.toArray.size i2.toArray.size)).all (fun j=>decide (ds[j]? = es[j]?)) && i1.toArray.size == i2.toArray.size)=decide (ds=es):=by
 have l1:=r1.length
 have l2:=r2.length
 by_cases z:ds.length=es.length
 ·have y:=oX ds es z
  have s1:i1.toArray.size=ds.length:=by simp; omega
  have s2:i2.toArray.size=ds.length:=by simp; omega
  rw [s1,s2,Nat.min_self,y]
  simp
 ·rw [decide_eq_false (fun y=>z (by rw [y]))]
  have:(i1.toArray.size == i2.toArray.size)=false:=by simp; omega
  rw [this,Bool.and_false]
theorem Iz {xs ys:List V} {ds es:List Da} {i1 i2:List Value} (r1:Vals xs i1) (r2:Vals ys i2) (hl:xs.length=ds.length) (hl2:ys.length=es.length) (z:ds.length=es.length) :
  ((List.range i1.toArray.size).all (fun j=>decide (ds[j]? = es[j]?)))=decide (ds=es):=by
 have l1:=r1.length
 have s1:i1.toArray.size=ds.length:=by simp; omega
 rw [s1,oX ds es z]
theorem yU (ds es:List Da):decide (Da.tup ds=Da.tup es)=decide (ds=es):=decide_eq_decide.mpr ⟨Da.tup.inj,congrArg _⟩
theorem yV (ds es:List Da):decide (Da.lst ds=Da.lst es)=decide (ds=es):=decide_eq_decide.mpr ⟨Da.lst.inj,congrArg _⟩
theorem CL {A:Around} {n:Nat} (hu:A.units + n < cLine) (I:Inv X pins σ H s) {x y:V} {a b:Da} (ha:ic X.K H x a) (hb:ic X.K H y b) (na:a.Nb n) (nb:b.Nb n) {u v:Value} (ru:RelV x u) (rv:RelV y v):SeqAt.EqAt A s u v (decide (a=b)):=by
 induction ha generalizing A n y b u v with
 | non =>
  obtain rfl:u=Value.none:=ru
  cases hb with
  | non=>obtain rfl:v=Value.none:=rv; exact SeqAt.EqAt.same _
  | bl _=>cases nb
  | int j=>obtain ⟨t,rfl⟩:=rv; exact SeqAt.EqAt.none_int _ _
  | str j=>obtain ⟨t,rfl⟩:=rv; exact SeqAt.EqAt.none_str _ _
  | tup hq=>cases rv; obtain ⟨its,r1,p1,_⟩:=I.tuple hq; exact SeqAt.EqAt.none_tuple p1 (by omega)
  | lst hq=>cases rv; obtain ⟨its,r1,p1,_⟩:=I.list hq; exact SeqAt.EqAt.none_list p1.isList (by omega)
 | bl _=>cases na
 | int i =>
  obtain ⟨t0,rfl⟩:=ru
  cases hb with
  | non=>obtain rfl:v=Value.none:=rv; exact SeqAt.EqAt.int_none _ _
  | bl _=>cases nb
  | int j =>
   obtain ⟨t,rfl⟩:=rv
   have:=SeqAt.EqAt.int_int (A:=A) (s:=s) i t0 j t
   have e:(i == j)=decide (Da.int i=Da.int j):=by
    by_cases z:i=j
    ·subst z; simp
    ·rw [decide_eq_false (fun y=>z (Da.int.inj y))]; simp [z]
   rwa [e] at this
  | str j=>obtain ⟨t,rfl⟩:=rv; exact SeqAt.EqAt.int_str _ _ _ _
  | tup hq=>cases rv; obtain ⟨its,r1,p1,_⟩:=I.tuple hq; exact SeqAt.EqAt.int_tuple _ _ p1 (by omega)
  | lst hq=>cases rv; obtain ⟨its,r1,p1,_⟩:=I.list hq; exact SeqAt.EqAt.int_list _ _ p1.isList (by omega)
 | str i =>
  obtain ⟨t0,rfl⟩:=ru
  cases hb with
  | non=>obtain rfl:v=Value.none:=rv; exact SeqAt.EqAt.str_none _ _
  | bl _=>cases nb
  | int j=>obtain ⟨t,rfl⟩:=rv; exact SeqAt.EqAt.str_int _ _ _ _
  | str j =>
   obtain ⟨t,rfl⟩:=rv
   have:=SeqAt.EqAt.str_str (A:=A) (s:=s) i t0 j t
   have e:(i == j)=decide (Da.str i=Da.str j):=by
    by_cases z:i=j
    ·subst z; simp
    ·rw [decide_eq_false (fun y=>z (Da.str.inj y))]; simp [z]
   rwa [e] at this
  | tup hq=>cases rv; obtain ⟨its,r1,p1,_⟩:=I.tuple hq; exact SeqAt.EqAt.str_tuple _ _ p1 (by omega)
  | lst hq=>cases rv; obtain ⟨its,r1,p1,_⟩:=I.list hq; exact SeqAt.EqAt.str_list _ _ p1.isList (by omega)
 | @tup p xs ds hp hl hd ih =>
  cases ru
  obtain ⟨i1,r1,t1,_⟩:=I.tuple hp
  cases hb with
  | non=>obtain rfl:v=Value.none:=rv; exact SeqAt.EqAt.tuple_none t1 (by omega)
  | bl _=>cases nb
  | int j=>obtain ⟨t,rfl⟩:=rv; exact SeqAt.EqAt.tuple_int _ _ t1 (by omega)
  | str j=>obtain ⟨t,rfl⟩:=rv; exact SeqAt.EqAt.tuple_str _ _ t1 (by omega)
  | @tup q ys es hq hl2 hd2 =>
   cases rv
   by_cases c:p=q
   ·subst c
    have:=sJ I (ic.tup hp hl hd) (ic.tup hq hl2 hd2)
    rw [decide_eq_true this]
    exact SeqAt.EqAt.same _
   cases na with
   | @tup m l na =>
   cases nb with
   | @tup m l nb =>
   obtain ⟨i2,r2,t2,_⟩:=I.tuple hq
   have key:=SeqAt.RcAt.tuples (A:=A) (s:=s) (e:=fun j=>decide (ds[j]? = es[j]?)) t1 t2 (by omega) (nZ (m:=m) r1 r2 hl hl2 fun j x d y e u v h1 h2 h3 h4 ru rv =>
    ih j x d h1 h2 (A:=A.in1) (n:=m) (by show A.units + 1 + m < cLine; omega) (hd2 j y e h3 h4) (na _ (ad h2)) (nb _ (ad h4)) ru rv)
   rw [Iy r1 r2 hl hl2] at key
   rw [yU]
   exact SeqAt.EqAt.of_refs c key
  | @lst q ys es hq hl2 hd2 =>
   cases rv
   obtain ⟨i2,r2,t2,_⟩:=I.list hq
   by_cases c:p=q
   ·subst c
    exact (kF t1 t2.isList).elim
   ·exact SeqAt.EqAt.of_refs c (SeqAt.RcAt.tuple_list t1 t2.isList (by omega))
 | @lst p xs ds hp hl hd ih =>
  cases ru
  obtain ⟨i1,r1,t1,_⟩:=I.list hp
  cases hb with
  | non=>obtain rfl:v=Value.none:=rv; exact SeqAt.EqAt.list_none t1.isList (by omega)
  | bl _=>cases nb
  | int j=>obtain ⟨t,rfl⟩:=rv; exact SeqAt.EqAt.list_int _ _ t1.isList (by omega)
  | str j=>obtain ⟨t,rfl⟩:=rv; exact SeqAt.EqAt.list_str _ _ t1.isList (by omega)
  | @lst q ys es hq hl2 hd2 =>
   cases rv
   by_cases c:p=q
   ·subst c
    have:=sJ I (ic.lst hp hl hd) (ic.lst hq hl2 hd2)
    rw [decide_eq_true this]
    exact SeqAt.EqAt.same _
   cases na with
   | @lst m l na =>
   cases nb with
   | @lst m l nb =>
   obtain ⟨i2,r2,t2,_⟩:=I.list hq
   have l1:=r1.length
   have l2:=r2.length
   rw [yV]
   by_cases z:ds.length=es.length
   ·have key:=SeqAt.RcAt.lists (A:=A) (s:=s) (e:=fun j=>decide (ds[j]? = es[j]?)) t1.isList t2.isList (by simp; omega) (by omega) (nZ (m:=m) r1 r2 hl hl2 fun j x d y e u v h1 h2 h3 h4 ru rv =>
     ih j x d h1 h2 (A:=A.in1) (n:=m) (by show A.units + 1 + m < cLine; omega) (hd2 j y e h3 h4) (na _ (ad h2)) (nb _ (ad h4)) ru rv)
    rw [Iz r1 r2 hl hl2 z] at key
    exact SeqAt.EqAt.of_refs c key
   ·rw [decide_eq_false (fun y=>z (by rw [y]))]
    exact SeqAt.EqAt.of_refs c (SeqAt.RcAt.lists_lengths t1.isList t2.isList (by simp; omega) (by omega))
  | @tup q ys es hq hl2 hd2 =>
   cases rv
   obtain ⟨i2,r2,t2,_⟩:=I.tuple hq
   by_cases c:p=q
   ·subst c
    exact (kF t2 t1.isList).elim
   ·exact SeqAt.EqAt.of_refs c (SeqAt.RcAt.list_tuple t1.isList t2 (by omega))
end
def Kg (K:fm) (ne:Bool):R2:=fun x y H Q=>∃ (n:Nat) (p q:Addr) (a b:Da),x=.ref p∧y=.ref q∧ic K H x a∧ic K H y b∧a.Nb n∧b.Nb n∧n ≤ 6∧Q (.bl (ne ^^ decide (a=b))) H
section
variable {X:Cx}
theorem CM (hu:X.A.units + 6 < cLine):jP X (compareOp .Eq) (Kg X.K false):=by
 intro pins s σ H x y v u Q I rx ry h
 obtain ⟨n,p,q,a,b,rfl,rfl,ha,hb,na,nb,hn,k⟩:=h
 cases rx
 cases ry
 rw [Bool.false_xor] at k
 cases ha with
 | @tup p xs ds hp hl hd =>
  obtain ⟨i1,r1,t1,_⟩:=I.tuple hp
  cases hb with
  | @tup q ys es hq hl2 hd2 =>
   cases na with
   | @tup m l na =>
   cases nb with
   | @tup m l nb =>
   obtain ⟨i2,r2,t2,_⟩:=I.tuple hq
   have key:=SeqAt.RcAt.tuples (A:=X.A) (s:=s) (e:=fun j=>decide (ds[j]? = es[j]?)) t1 t2 (by omega) (nZ (m:=m) r1 r2 hl hl2 fun j x d y e u v h1 h2 h3 h4 ru rv =>
    CL (A:=X.A.in1) (n:=m) (by show X.A.units + 1 + m < cLine; omega) I (hd j x d h1 h2) (hd2 j y e h3 h4) (na _ (ad h2)) (nb _ (ad h4)) ru rv)
   rw [Iy r1 r2 hl hl2] at key
   rw [yU] at k
   exact key _ _ _ _ ⟨.bl _,H,I,rfl,k⟩
  | @lst q ys es hq hl2 hd2 =>
   obtain ⟨i2,r2,t2,_⟩:=I.list hq
   exact (SeqAt.RcAt.tuple_list (A:=X.A) t1 t2.isList (by omega)) _ _ _ _ ⟨.bl _,H,I,rfl,k⟩
 | @lst p xs ds hp hl hd =>
  obtain ⟨i1,r1,t1,_⟩:=I.list hp
  cases hb with
  | @lst q ys es hq hl2 hd2 =>
   cases na with
   | @lst m l na =>
   cases nb with
   | @lst m l nb =>
   obtain ⟨i2,r2,t2,_⟩:=I.list hq
   have l1:=r1.length
   have l2:=r2.length
   rw [yV] at k
   by_cases z:ds.length=es.length
   ·have key:=SeqAt.RcAt.lists (A:=X.A) (s:=s) (e:=fun j=>decide (ds[j]? = es[j]?)) t1.isList t2.isList (by simp; omega) (by omega) (nZ (m:=m) r1 r2 hl hl2 fun j x d y e u v h1 h2 h3 h4 ru rv =>
     CL (A:=X.A.in1) (n:=m) (by show X.A.units + 1 + m < cLine; omega) I (hd j x d h1 h2) (hd2 j y e h3 h4) (na _ (ad h2)) (nb _ (ad h4)) ru rv)
    rw [Iz r1 r2 hl hl2 z] at key
    exact key _ _ _ _ ⟨.bl _,H,I,rfl,k⟩
   ·rw [decide_eq_false (fun y=>z (by rw [y]))] at k
    exact (SeqAt.RcAt.lists_lengths (A:=X.A) t1.isList t2.isList (by simp; omega) (by omega)) _ _ _ _ ⟨.bl _,H,I,rfl,k⟩
  | @tup q ys es hq hl2 hd2 =>
   obtain ⟨i2,r2,t2,_⟩:=I.tuple hq
   exact (SeqAt.RcAt.list_tuple (A:=X.A) t1.isList t2 (by omega)) _ _ _ _ ⟨.bl _,H,I,rfl,k⟩
end
section
variable {X:Cx}
end
end L2
namespace L2
open PySem PySem.W PySem.Spec PySem.Calls PyProof.Rows
def Fz (K:fm) (P:Params) (a:Addr):Prop:=∃ (es:Array DictEntry) (n:Nat),K.lookup a=some ⟨.type "dict",none,.dict es n,#[]⟩∧PySem.W.KeysLit P es.toList∧(a == sysModules)=false
section
variable {X:Cx} {o i:Expr} {pos:Pos} {td ty:TE}
end
def FA (K:fm) (P:Params) (ty td:TE):TE:=fun σ H Q=>ty σ H fun y H1=>td σ H1 fun x H2=>∃ a k r,x=.ref a∧y=.str k∧dJ K P a k r∧Q (.bl (!r.isSome)) H2
theorem Al {X:Cx} {o i:Expr} {td ty:TE} (hi:PE X i ty) (ho:PE X o td):PC X .NotIn i o (FA X.K X.w.params ty td):=by
 intro pins s σ H Q I h
 refine cL (hi pins s σ H _ I h) fun iv s1 ⟨y,H1,I1,ry,q1⟩=>cL (ho pins s1 σ H1 _ I1 q1) fun u s2 ⟨x,H2,I2,rx,a,k,r,ex,ey,g,q2⟩=>?_
 subst ex ey
 obtain rfl:u=Value.ref a:=rx
 obtain ⟨t,rfl⟩:=ry
 obtain ⟨es,n,hl,hk,hm,q,hq,rq⟩:=g
 have mo:=PySem.W.mapOf_K (prog:=X.prog) (w:=X.w) I2.lG hl hk
 refine wpAny_notIn_of (strKind_is X.prog X.w k t) hm mo ?_
 rw [PySem.W.find_K hl hq,← rq.iI]
 exact ⟨.bl (!r.isSome),H2,I2.tok _,rfl,q2⟩
section
variable {X:Cx} {o i:Expr} {pos:Pos} {td ty:TE}
end
end L2
namespace L2
open PySem PySem.Spec PyProof.Rows
section
variable {X:Cx}
end
end L2
namespace SF
open PySem PySem.Calls PyProof.Rows
section
variable {prog:Program} {w:World} {A:Around} {E:Value→Shared→Prop} {s:Shared}
set_option maxHeartbeats 8000000 in
end
end SF
namespace L2
open PySem PySem.Spec PyProof.Rows
section
variable {X:Cx}
end
def ja (f:Int→Int) (j v:Int):Int→Int:=fun i=>if i=j then v else f i
structure Rep (d:List (Key × V)) (f:Int→Int):Prop where
 isI:∃ kvs:List (Int × Int),d=iD kvs∧(kvs.map (·.1)).Nodup
 val:∀ j,(cy d (Sum.inl j)).getD (.int 0)=.int (f j)
theorem Rep.nil:Rep [] (fun _=>0):=⟨⟨[],rfl,List.nodup_nil⟩,fun _=>rfl⟩
theorem Kh {kvs:List (Int × Int)} {j:Int}:∀ {x:V},cy (iD kvs) (Sum.inl j)=some x→∃ v,x=.int v∧(j,v) ∈ kvs:=by
 induction kvs with
 | nil=>intro x h; cases h
 | cons p r ih =>
  intro x h
  by_cases e:p.1=j
  ·have:(Sum.inl p.1:Key)=Sum.inl j:=by rw [e]
   rw [show iD (p :: r)=(Sum.inl p.1,V.int p.2) :: iD r from rfl,dk this] at h
   have h:=Option.some.inj h
   exact ⟨p.2,h.symm,by rw [← e]; simp⟩
  ·have:¬ (Sum.inl p.1:Key)=Sum.inl j:=fun z=>e (Sum.inl.inj z)
   rw [show iD (p :: r)=(Sum.inl p.1,V.int p.2) :: iD r from rfl,dm this] at h
   obtain ⟨v,a,b⟩:=ih h
   exact ⟨v,a,by simp [b]⟩
theorem wX {j v:Int}:∀ {kvs:List (Int × Int)},(kvs.map (·.1)).Nodup→(j,v) ∈ kvs→cy (iD kvs) (Sum.inl j)=some (.int v)
 | [],_,h=>by simp at h
 | p :: r,hn,h=>by
  rw [br,ca] at hn
  rcases List.mem_cons.mp h with e | h
  ·rw [show iD (p :: r)=(Sum.inl p.1,V.int p.2) :: iD r from rfl,dk (by rw [← e])]
   rw [← e]
  ·have ne:¬ (Sum.inl p.1:Key)=Sum.inl j:=fun z=>hn.1 (by rw [Sum.inl.inj z]; exact List.mem_map.mpr ⟨_,h,rfl⟩)
   rw [show iD (p :: r)=(Sum.inl p.1,V.int p.2) :: iD r from rfl,dm ne]
   exact wX hn.2 h
theorem CN {kvs:List (Int × Int)} {j v:Int} (hn:(kvs.map (·.1)).Nodup):∃ kvs',putK (iD kvs) (Sum.inl j) (.int v)=iD kvs'∧(kvs'.map (·.1)).Nodup∧kvs'.length ≤ kvs.length + 1∧(v ≠ 0→(∀ p ∈ kvs,p.2 ≠ 0)→∀ p ∈ kvs',p.2 ≠ 0):=by
 by_cases h:cy (iD kvs) (Sum.inl j:Key)=none
 ·refine ⟨kvs ++ [(j,v)],?_,?_,by simp,fun hv hz p hp=>?_⟩
  ·rw [u7 _ h]
   simp [iD]
  ·rw [List.map_append,List.nodup_append]
   refine ⟨hn,by simp,fun a ha b hb e=>?_⟩
   have hb:b=j:=by simpa using hb
   subst hb
   have:=Ci h
   apply this
   obtain ⟨p,hp,rfl⟩:=List.mem_map.mp ha
   exact List.mem_map.mpr ⟨(Sum.inl p.1,.int p.2),List.mem_map.mpr ⟨p,hp,rfl⟩,by rw [e]⟩
  ·rcases List.mem_append.mp hp with hp | hp
   ·exact hz p hp
   ·rw [av.mp hp]
    exact hv
 ·refine ⟨kvs.map fun p=>if p.1=j then (p.1,v) else p,?_,?_,by simp,fun hv hz p hp=>?_⟩
  ·unfold putK
   rw [dR,if_pos (by cases e:cy (iD kvs) (Sum.inl j:Key) with | none=>exact absurd e h | some _=>rfl)]
   unfold iD
   rw [List.map_map,List.map_map]
   refine List.map_congr_left fun p _=>?_
   show (if (Sum.inl p.1:Key)=Sum.inl j then ((Sum.inl p.1:Key),V.int v) else (Sum.inl p.1,V.int p.2))=(Sum.inl (if p.1=j then (p.1,v) else p).1,V.int (if p.1=j then (p.1,v) else p).2)
   by_cases e:p.1=j
   ·rw [if_pos (by rw [e]),if_pos e]
   ·rw [if_neg (fun z=>e (Sum.inl.inj z)),if_neg e]
  ·rw [List.map_map]
   have:((fun p:Int × Int=>p.1) ∘ fun p=>if p.1=j then (p.1,v) else p)=fun p=>p.1:=by
    funext p
    show (if p.1=j then (p.1,v) else p).1=p.1
    split <;> rfl
   rw [this]
   exact hn
  ·obtain ⟨q,hq,rfl⟩:=List.mem_map.mp hp
   by_cases e:q.1=j
   ·rw [if_pos e]; exact hv
   ·rw [if_neg e]; exact hz q hq
theorem Rep.put {d:List (Key × V)} {f:Int→Int} (r:Rep d f) (j v:Int):Rep (putK d (Sum.inl j) (.int v)) (ja f j v):=by
 obtain ⟨⟨kvs,rfl,hn⟩,hv⟩:=r
 obtain ⟨kvs',e,hn',_⟩:=CN (j:=j) (v:=v) hn
 refine ⟨⟨kvs',e,hn'⟩,fun i=>?_⟩
 rw [oG]
 unfold ja
 by_cases h:i=j
 ·rw [if_pos (by rw [h]),if_pos h]
  rfl
 ·rw [if_neg (fun z=>h (Sum.inl.inj z)),if_neg h]
  exact hv i
theorem sL:∀ (a b:List Int),a.Nodup→(∀ x ∈ a,x ∈ b)→a.length ≤ b.length
 | [],_,_,_=>Nat.zero_le _
 | x :: a,b,hn,h=>by
  rw [ca] at hn
  have hx:=h x (by simp)
  have:=sL a (b.erase x) hn.2 fun y hy=>(List.mem_erase_of_ne (show y ≠ x from fun e=>hn.1 (by rw [← e]; exact hy))).mpr (h y (by simp [hy]))
  rw [List.length_erase_of_mem hx] at this
  have:0 < b.length:=List.length_pos_of_mem hx
  simp only [bo]
  omega
end L2
namespace L2
open PySem PySem.W PySem.Spec PySem.Calls PyProof.Rows
section
variable {X:Cx} {pins:List (Addr × Obj)} {σ:St} {H:Hp} {s:Shared}
end
theorem iU {X:Cx}:iG X (.type "dict") (fun xs H Q=>∃ (p:Addr) (kvs:List (Key × V)),xs=[.ref p]∧H p=some (.dK kvs)∧∀ l,H l=none→Q (.ref l) (upd H l (.dK kvs))):=by
 intro pins s σ H xs Q6 Q I r h
 obtain ⟨p,kvs,rfl,hp,q⟩:=h
 obtain ⟨u,rfl,ru⟩:=vals1 r
 cases ru
 exact Cd I (.of hp) fun l s' hl I'=>⟨.ref l,_,I',rfl,q l hl⟩
theorem ng {X:Cx} (hc:X.calm=true):iG X (.type "dict") (fun xs H Q=>∃ (p:Addr) (ts:List Addr) (kvs:List (Key × V)),xs=[.ref p]∧H p=some (.lst (ts.map V.ref))∧ts.length=kvs.length∧(∀ (i:Nat) t k v,ts[i]? = some t→kvs[i]? = some (k,v)→H t=some (.tup [kV k,v])) ∧
  kvs.length ≤ 5000∧∀ l,H l=none→Q (.ref l) (upd H l (.dK (eO [] kvs)))):=by
 intro pins s σ H xs Q6 Q I r h
 obtain ⟨p,ts,kvs,rfl,hp,hl,ht,hz,q⟩:=h
 obtain ⟨u,rfl,ru⟩:=vals1 r
 cases ru
 obtain ⟨_,its,nn,rv,hpo⟩:=(show cH X.prog X.w H s.heap p (.lst (ts.map V.ref)) from I.hok p _ hp)
 have hil:its.length=ts.length:=by rw [← rv.length,List.length_map]
 have hti:∀ (i:Nat) t,ts[i]? = some t→its[i]? = some (Value.ref t):=fun i t hi=>by
  obtain ⟨w',hw,qy⟩:=rv.get (i:=i) (x:=V.ref t) (by rw [ab,hi]; rfl)
  cases qy
  exact hw
 have pick:∀ (i:Nat) k v,kvs[i]? = some (k,v)→∃ t key u,ts[i]? = some t∧IsTup s.heap t #[key,u]∧RelV (kV k) key∧RelV v u:=fun i k v hi=>by
  have hlt:i < ts.length:=by rw [hl]; exact (ac.mp hi).1
  have h1:ts[i]? = some ts[i]:=aa hlt
  obtain ⟨_,tis,tv,tt⟩:=(show cH X.prog X.w H s.heap ts[i] (.tup [kV k,v]) from I.hok _ _ (ht i _ k v h1 hi))
  cases tv with
  | cons a b =>
   cases b with
   | cons c d =>
    cases d
    exact ⟨ts[i],_,_,h1,tt,a,c⟩
 have hvs:∃ vs:List (Key × Value),KV kvs vs∧∀ (i:Nat) k u,vs[i]? = some (k,u)→∃ t key,ts[i]? = some t∧IsTup s.heap t #[key,u]∧RelV (kV k) key:=by
  have gen:∀ (ks:List (Key × V)) (o:Nat),(∀ (i:Nat) k v,ks[i]? = some (k,v)→kvs[o + i]? = some (k,v))→∃ vs:List (Key × Value),KV ks vs∧∀ (i:Nat) k u,vs[i]? = some (k,u)→∃ t key,ts[o + i]? = some t∧IsTup s.heap t #[key,u]∧RelV (kV k) key:=by
   intro ks
   induction ks with
   | nil=>intro o _; exact ⟨[],.nil,fun i k u h=>by simp at h⟩
   | cons c ks ih =>
    intro o ho
    obtain ⟨t,key,u,a1,a2,a3,a4⟩:=pick o c.1 c.2 (ho 0 c.1 c.2 rfl)
    obtain ⟨vs,b1,b2⟩:=ih (o + 1) fun i k v hi=>by
     have:=ho (i + 1) k v (by simpa using hi)
     rwa [show o + (i + 1)=o + 1 + i by omega] at this
    refine ⟨(c.1,u) :: vs,.cons ⟨rfl,a4⟩ b1,fun i k u' hi=>?_⟩
    cases i with
    | zero =>
     have e:=Option.some.inj hi
     cases e
     exact ⟨t,key,a1,a2,a3⟩
    | succ i =>
     obtain ⟨t',key',c1,c2,c3⟩:=b2 i k u' (by simpa using hi)
     exact ⟨t',key',by rw [show o + (i + 1)=o + 1 + i by omega]; exact c1,c2,c3⟩
  obtain ⟨vs,a,b⟩:=gen kvs 0 fun i k v hi=>by rw [Nat.zero_add]; exact hi
  exact ⟨vs,a,fun i k u hi=>by have:=b i k u hi; rwa [Nat.zero_add] at this⟩
 obtain ⟨vs,hkv,hvt⟩:=hvs
 have hvl:=hkv.length
 have hh:=I.ok.hd hc
 refine callType_codes (Q₁:=fun obj s1=>obj=.ref s.heap.objs.size∧s1={ s with heap:=s.heap.push { cls:=.type "dict",data:=.dict #[] } }) PySem.F.kt_called_dict (PySem.F.kt_typeCall_dict_1 _) PySem.F.entry_dict_init (kt_code_dict_new _ ⟨rfl,rfl⟩) (fun obj s1 hs=>?_)
 obtain ⟨rfl,rfl⟩:=hs
 have nw:(s.heap.push { cls:=.type "dict",data:=.dict #[] }).DictOf (bF X.prog X.w) s.heap.objs.size []:=Heap.DictOf.new s.heap
 have old:∀ b o,s.heap.get? b=some o→(s.heap.push { cls:=.type "dict",data:=.dict #[] }).get? b=some o:=fun b o e=>el _ e
 refine ⟨nw.typeIs,PySem.F.args_dict_init_2 _ _,?_⟩
 (unfold Builtin.«dict.__init__»; refine cb ?_; unfold Builtin.Dict.selfAndRest; refine cb (wpAny_notOrdered_dict nw.typeIs ?_))
 (show wpAny _ _ (pure (s.heap.objs.size,[Value.ref p])) _ _ _; refine ce ?_; show wpAny _ _ (Builtin.Dict.updateFrom "dict.__init__" s.heap.objs.size (.ref p) [] .none) _ _ _; unfold Builtin.Dict.updateFrom)
 refine cb (wpAny_typeOf (T := "list") ⟨_,old _ _ hpo,rfl⟩ ?_)
 rw [if_pos (by decide)]
 refine cb (wU (old _ _ hpo) hh fun h1 tk1 k1=>?_)
 rw [if_pos (show (none:Option Value).isNone=true from rfl)]
 refine cb (wpAny_rule ?_)
 have Ss:h1.IsList p its.toArray:=⟨_,k1 _ _ (old _ _ hpo),rfl,nn,rfl⟩
 refine cb (wpAny_pyIter_list (l:=p) (items:=its.toArray) Ss ?_)
 have lt:∀ b o,s.heap.get? b=some o→b < s.heap.objs.size:=fun b o e=>et e
 have dN:h1.get? s.heap.objs.size=some { cls:=.type "dict",data:=.dict #[] }:=k1 _ _ (em _ rfl)
 have Rb:@LT.lt Nat _ s.heap.objs.size h1.objs.size:=et dN
 have up:∀ b o,h1.get? b=some o→(h1.push { cls:=.type "list_iterator",data:=.fields #[.ref p,.int 0 0] }).get? b=some o:=fun b o e=>el _ e
 have ltp:=lt _ _ hpo
 have itr:(h1.push { cls:=.type "list_iterator",data:=.fields #[.ref p,.int 0 0] }).IsListIter h1.objs.size p 0:=⟨_,em _ rfl,rfl,rfl⟩
 have Sv:(h1.push { cls:=.type "list_iterator",data:=.fields #[.ref p,.int 0 0] }).IsList p its.toArray:=⟨_,up _ _ (k1 _ _ (old _ _ hpo)),rfl,nn,rfl⟩
 have Sw:(h1.push { cls:=.type "list_iterator",data:=.fields #[.ref p,.int 0 0] }).DictOf (bF X.prog X.w) s.heap.objs.size []:=by
  obtain ⟨o,es,ep,ho,rr⟩:=nw
  exact ⟨o,es,ep,up _ _ (k1 _ _ ho),rr⟩
 refine ce ⟨plainId_quiet jq _,?_⟩
 refine wV (A:=X.A.in1) (knd:=bF X.prog X.w) hh (d:=s.heap.objs.size) (it:=h1.objs.size) (l:=p) (items:=its.toArray) (ks:=vs) (ij Rb) (ij ltp) (ij (Nat.lt_trans ltp Rb)) (by rw [ag,hil,hl,hvl]) (by rw [ag,hil,hl]; exact hz) its.toArray.size 0 _ [] _ (by omega) (Nat.zero_le _) ?_ ?_ ?_ (ii _) ?_ ?_
 ·exact itr
 ·exact Sv
 ·exact Sw
 ·intro j k v hj
  obtain ⟨t,key,a1,⟨o,a2,a3⟩,a4⟩:=hvt j k v hj
  have ltt:=lt _ _ a2
  exact ⟨t,key,by rw [List.getElem?_toArray]; exact hti j t a1,⟨o,up _ _ (k1 _ _ (old _ _ a2)),a3⟩,oH a4,ij ltt,ij (Nat.lt_trans ltt Rb)⟩
 ·intro h' tk hd' kp
  rw [List.drop_zero] at hd'
  have hml:=gi kvs []
  rw [List.length_nil] at hml
  refine ⟨rfl,.ref s.heap.objs.size,_,I.laid (a:=s.heap.objs.size) (o:=.dK (eO [] kvs)) (t':=tk) (fun b o e=>?_) (ii _) ?_,rfl,q _ (I.hok.fresh (ii _))⟩
  ·have ltb:=lt b o e
   exact kp b o (ij ltb) (ij (Nat.lt_trans ltb Rb)) (up _ _ (k1 _ _ (old _ _ e)))
  ·exact oK (by rw [sizeLine_eq]; omega) (beq_eq_false_iff_ne.mpr (Ne.symm (ij I.big))) (hkv.merge .nil) hd'
end L2
namespace L2
open PySem PySem.Spec PyProof.Rows
inductive HD (H:Hp):V→Da→Prop
 | non:HD H .non .non
 | bl (b:Bool):HD H (.bl b) (.bl b)
 | int (i:Int):HD H (.int i) (.int i)
 | str (s:Str):HD H (.str s) (.str s)
 | tup {p:Addr} {xs:List V} {ds:List Da} (h:H p=some (.tup xs)) (l:xs.length=ds.length) (e:∀ (i:Nat) x d,xs[i]? = some x→ds[i]? = some d→HD H x d):HD H (.ref p) (.tup ds)
 | lst {p:Addr} {xs:List V} {ds:List Da} (h:H p=some (.lst xs)) (l:xs.length=ds.length) (e:∀ (i:Nat) x d,xs[i]? = some x→ds[i]? = some d→HD H x d):HD H (.ref p) (.lst ds)
theorem HD.da {H:Hp} {v:V} {d:Da} (K:fm) (h:HD H v d):ic K H v d:=by
 induction h with
 | non=>exact .non
 | bl b=>exact .bl b
 | int i=>exact .int i
 | str x=>exact .str x
 | tup h l e ih=>exact .tup (aS.of h) l ih
 | lst h l e ih=>exact .lst (bj.of h) l ih
inductive FC (H:Hp):List V→List Da→Prop
 | nil:FC H [] []
 | cons {x:V} {d:Da} {xs:List V} {ds:List Da} (h:HD H x d) (r:FC H xs ds):FC H (x :: xs) (d :: ds)
theorem FC.len {H:Hp} {xs:List V} {ds:List Da} (h:FC H xs ds):xs.length=ds.length:=by
 induction h with
 | nil=>rfl
 | cons h r ih=>rw [bo,bo,ih]
theorem FC.get {H:Hp} {xs:List V} {ds:List Da} (h:FC H xs ds):∀ (i:Nat) x d,xs[i]? = some x→ds[i]? = some d→HD H x d:=by
 induction h with
 | nil=>intro i x d h; simp at h
 | cons h r ih =>
  intro i x d h1 h2
  cases i with
  | zero=>cases h1; cases h2; exact h
  | succ i=>exact ih i x d (by simpa using h1) (by simpa using h2)
theorem vy {σ:St} {H:Hp} {te:TE} {g:TG} {u:TS} {D:Ends} {rt:VK} {bk ct:St→Hp→Prop} (h:te σ H fun x H1=>g x σ H1 (u D)):Ends.nx (Ends.mk (Fb (BL te g) u D) rt bk ct) σ H:=h
theorem kI {i:Nat} {v:V} {σ:St} {H:Hp} {Q:St→Hp→Prop} (h:Q (σ.set i (some v)) H):gY i v σ H Q:=h
section
variable {σ:St} {H:Hp}
end
end L2
namespace L2
open PySem PySem.W PySem.Spec PySem.Calls PyProof.Rows
section
variable {X:Cx} {pins:List (Addr × Obj)} {σ:St} {H:Hp} {s:Shared} {A:Around}
end
end L2
namespace L2
open PySem PySem.Spec PyProof.Rows
open Builtin Builtin.Str
section
variable {X:Cx}
end
section
variable {X:Cx}
end
end L2
namespace L2
open PySem PySem.W PySem.Spec PySem.Calls PyProof.Rows
open Builtin Builtin.Str
section
variable {X:Cx} {pins:List (Addr × Obj)} {σ:St} {H:Hp} {s:Shared}
open Classical in
noncomputable def jS (K:fm) (H:Hp) (d:Da) (w:Value):Bool:=decide (∃ a,w=.ref a∧ic K H (.ref a) d)
theorem yW {K:fm} {d:Da} {w:Value} (h:∃ a,w=.ref a∧ic K H (.ref a) d):jS K H d w=true:=by
 unfold jS
 exact @decide_eq_true _ (Classical.propDecidable _) h
theorem yX {K:fm} {d:Da} {w:Value} (h:¬ ∃ a,w=.ref a∧ic K H (.ref a) d):jS K H d w=false:=by
 unfold jS
 exact @decide_eq_false _ (Classical.propDecidable _) h
theorem CO (I:Inv X pins σ H s) {d:Da}:∀ {xs:List V} {us:List Value} {ds:List Da},Vals xs us→FC H xs ds→(∀ x ∈ xs,∃ a,x=.ref a)→us.any (jS X.K H d)=decide (d ∈ ds)
 | _,_,_,.nil,.nil,_=>rfl
 | _,_,_,.cons (l₂:=us) (b:=u) r t,.cons (d:=e) (ds:=ds) h g,hr=>by
  obtain ⟨a,rfl⟩:=hr _ List.mem_cons_self
  have hu:u=Value.ref a:=r
  subst hu
  have ih:=CO I (d:=d) t g fun x hx=>hr x (by simp [hx])
  rw [List.any_cons,ih]
  have e1:jS X.K H d (.ref a)=decide (d=e):=by
   by_cases c:d=e
   ·subst c
    rw [decide_eq_true rfl]
    exact yW ⟨a,rfl,h.da X.K⟩
   ·rw [decide_eq_false c]
    refine yX ?_
    rintro ⟨b,eb,hb⟩
    cases eb
    exact c (sJ I hb (h.da X.K))
  rw [e1]
  by_cases c:d=e
  ·simp [c]
  ·simp [c]
end
end L2
namespace L2
open PySem PySem.W PySem.Spec PySem.Calls PyProof.Rows
open Builtin Builtin.Str
def FD (K:fm):R2:=fun x y H Q=>∃ (q p:Addr) (xs:List V) (d:Da) (ds:List Da) (n:Nat),x=.ref q∧y=.ref p∧H p=some (.tup xs)∧HD H x d∧FC H xs ds∧(∀ x ∈ xs,∃ a,x=.ref a)∧d.Nb n∧(∀ e ∈ ds,e.Nb n)∧n ≤ 5∧Q (.bl (decide (d ∈ ds))) H
theorem CP {X:Cx} (hu:X.A.units + 6 < cLine):jP X (compareOp .In) (FD X.K):=by
 intro pins s σ H x y v u Q I rx ry h
 obtain ⟨q,p,xs,d,ds,n,rfl,rfl,hp,hd,hs,hr,nd,nds,hn,k⟩:=h
 cases ry
 obtain ⟨its,r,pl,hz⟩:=I.tuple (aS.of hp)
 have key:=CO I (d:=d) r hs hr
 refine SeqAt.in_tupleAt (jS X.K H d) pl (fun w hw=>?_) ⟨.bl _,H,I,rfl,?_⟩
 ·have hw:w ∈ its:=by simpa using hw
  obtain ⟨j,hj,ej⟩:=List.getElem_of_mem hw
  have hl:=r.length
  have hx:xs[j]? = some xs[j]:=aa (by omega)
  have hdl:=hs.len
  have he:ds[j]? = some ds[j]:=aa (by omega)
  obtain ⟨w',hw',qy⟩:=r.get hx
  have ew:w'=w:=by
   rw [aa hj,ej] at hw'
   exact (Option.some.inj hw').symm
  subst ew
  obtain ⟨a,ea⟩:=hr xs[j] (ba _)
  have h1:=hs.get j _ _ hx he
  have h2:=CL (A:=X.A.in1) (n:=n) (by show X.A.units + 1 + n < cLine; omega) I (h1.da X.K) (hd.da X.K) (nds _ (ba _)) nd qy rx
  have e1:jS X.K H d w'=decide (ds[j]=d):=by
   have qy:=qy
   rw [ea] at qy h1
   have ew:w'=Value.ref a:=qy
   subst ew
   by_cases c:ds[j]=d
   ·rw [decide_eq_true c]
    exact yW ⟨a,rfl,c ▸ h1.da X.K⟩
   ·rw [decide_eq_false c]
    refine yX ?_
    rintro ⟨b,eb,hb⟩
    cases eb
    exact c (sJ I (h1.da X.K) hb)
  rw [e1]
  exact h2
 ·rw [show its.toArray.any (jS X.K H d)=its.any (jS X.K H d) by simp,key]
  exact k
end L2
namespace L2
open PySem PySem.W PySem.Spec PySem.Calls PyProof.Rows
theorem wY {us:List (Key × Value)} (hn:(us.map (·.1)).Nodup) {k:Key} {y:Value}:∀ {j:Nat},us[j]? = some (k,y)→valueAt us k=some y:=by
 intro j hj
 have hmem:(k,y) ∈ us:=ad hj
 unfold valueAt
 have hf:∀ (l:List (Key × Value)),(l.map (·.1)).Nodup→(k,y) ∈ l→l.find? (fun kv=>decide (kv.1=k))=some (k,y):=by
  intro l
  induction l with
  | nil=>intro _ h; simp at h
  | cons x l ih =>
   intro hnd hx
   rw [br,ca] at hnd
   rcases List.mem_cons.mp hx with rfl | hx
   ·simp
   ·have ne:¬ x.1=k:=fun z=>hnd.1 (by rw [z]; exact List.mem_map.mpr ⟨_,hx,rfl⟩)
    rw [List.find?_cons_of_neg (by simpa using ne)]
    exact ih hnd.2 hx
 rw [hf us hn hmem]
 rfl
section
variable {X:Cx} {pins:List (Addr × Obj)} {σ:St} {H:Hp} {s:Shared} {A:Around}
theorem yZ (hu:A.units + 1 < cLine) (I:Inv X pins σ H s) {ub:List (Key × Value)} (hn:(ub.map (·.1)).Nodup) :
  ∀ (ka kb:List (Key × V)) (ua:List (Key × Value)) (o:Nat),KV ka ua→KV kb (ub.drop o)→ka.map (·.1)=kb.map (·.1)→(∀ (i:Nat) x y,(ka.map (·.2))[i]? = some x→(kb.map (·.2))[i]? = some y→Iw H x y)→KeqHits A s ub ua true
 | [],[],_,_,.nil,_,_,_=>.nil
 | [],_ :: _,_,_,_,_,h,_=>by simp at h
 | _ :: _,[],_,_,_,_,h,_=>by simp at h
 | (k,x) :: ka,(k',y) :: kb,_,o,r1,r2,hk,h1=>by
  rw [br,br] at hk
  obtain ⟨e1,e2⟩:=List.cons.inj hk
  simp only at e1
  subst e1
  generalize hub:ub.drop o=ud at r2
  cases r1 with
  | @cons _ u _ ua hu1 r1 =>
  cases r2 with
  | @cons _ v _ uc hv1 r2 =>
  obtain ⟨u1,u2⟩:=u
  obtain ⟨v1,v2⟩:=v
  obtain ⟨a1,a2⟩:=hu1
  obtain ⟨b1,b2⟩:=hv1
  simp only at a1 a2 b1 b2
  subst a1 b1
  have hat:ub[o]? = some (k,v2):=by
   have:(ub.drop o)[0]? = some (k,v2):=by rw [hub]; rfl
   rwa [List.getElem?_drop,Nat.add_zero] at this
  have hdr:ub.drop (o + 1)=uc:=by
   rw [← List.drop_drop,hub]; rfl
  have h3:=CB (A:=A) hu I (h1 0 x y rfl rfl) a2 b2
  have r:=yZ hu I hn ka kb ua (o + 1) r1 (by rw [hdr]; exact r2) e2 (fun i x y p q=>h1 (i + 1) x y p q)
  exact KeqHits.hit (wY hn hat) h3 r
end
def IA:R2:=fun x y H Q=>∃ (p q:Addr) (ka kb:List (Key × V)),x=.ref p∧y=.ref q∧H p=some (.dK ka)∧H q=some (.dK kb)∧ka.map (·.1)=kb.map (·.1)∧(∀ (i:Nat) x y,(ka.map (·.2))[i]? = some x→(kb.map (·.2))[i]? = some y→Iw H x y)∧Q (.bl false) H
theorem FE {X:Cx} (hu:X.A.units + 6 < cLine):jP X (compareOp .NotEq) IA:=by
 intro pins s σ H x y v u Q I rx ry h
 obtain ⟨p,q,ka,kb,rfl,rfl,hp,hq,hk,h1,k⟩:=h
 cases rx
 cases ry
 obtain ⟨_,y1,va,r1,d1⟩:=jQ I.hok hp
 obtain ⟨_,y2,vb,r2,d2⟩:=jQ I.hok hq
 have hnb:(vb.map (·.1)).Nodup:=by
  obtain ⟨_,_,_,_,_,_,_,_,hn⟩:=d2
  exact hn
 have la:=r1.length
 have lb:=r2.length
 have lk:ka.length=kb.length:=by have:=congrArg List.length hk; simpa using this
 refine keq_ne y1 y2 d1 d2 (by omega) (r:=true) (fun _=>yZ (A:=X.A.in1) (by show X.A.units + 1 + 1 < cLine; omega) I hnb ka kb va 0 r1 (by rw [List.drop_zero]; exact r2) hk h1) ?_
 have e3:(va.length == vb.length && true)=true:=by simp; omega
 rw [e3]
 exact ⟨.bl false,H,I,rfl,k⟩
def FG:V→List V→Hp→VK→Prop:=fun x vs H Q=>∃ (a:Addr) (ka:List (Key × V)),x=.ref a∧vs=[]∧H a=some (.dK ka)∧Q .non (upd H a (.dK []))
theorem rE {X:Cx}:QZ X "dict.clear" FG:=by
 intro pins s σ H x vs v us Q I rx rv h
 obtain ⟨a,ka,rfl,rfl,ha,q⟩:=h
 cases rx
 have hus:=rv.zero
 subst hus
 exact Fn I ha fun s' I'=>⟨.non,_,I',rfl,q⟩
def EqS (H:Hp) (x y:V):Prop:=(∃ p q xs,x=.ref p∧y=.ref q∧H p=some (.lst xs)∧H q=some (.lst xs)∧∀ z ∈ xs,∃ c,z=.ref c)∨Iw H x y
section
variable {X:Cx} {pins:List (Addr × Obj)} {σ:St} {H:Hp} {s:Shared}
theorem Ki {A:Around} {c:Addr} {u v:Value} (ru:RelV (.ref c) u) (rv:RelV (.ref c) v):SeqAt.EqAt A s u v true:=by
 cases ru
 cases rv
 exact SeqAt.EqAt.same _
theorem Kj {A:Around} (hu:A.units + 1 < cLine) (I:Inv X pins σ H s) {x y:V} {u v:Value} (h:EqS H x y) (ru:RelV x u) (rv:RelV y v):SeqAt.EqAt A s u v true:=by
 rcases h with ⟨p,q,xs,rfl,rfl,hp,hq,hs⟩ | h
 ·cases ru
  cases rv
  by_cases e:p=q
  ·subst e; exact SeqAt.EqAt.same _
  ·refine SeqAt.EqAt.of_refs e (oV (by omega) I hp hq rfl fun i a b u v ha hb r1 r2=>?_)
   rw [ha] at hb
   cases hb
   obtain ⟨c,rfl⟩:=hs a (ad ha)
   exact Ki r1 r2
 ·exact CB hu I h ru rv
end
theorem vz:∀ {us:List Value} {ss:List Str},StrsAre us ss→Vals (ss.map V.str) us
 | _,_,.nil=>.nil
 | _,_,.cons x t h=>.cons ⟨t,rfl⟩ (vz h)
theorem vA {P:Program} {w:World}:∀ (ss:List Str) (us:List Value) (kv:List (Key × Value)),kv.map (·.1)=ss.map Sum.inr→us.length=ss.length→(∀ (j:Nat) v,us[j]? = some v→∃ k x,kv[j]? = some (k,x)∧(bF P w).is k v=true)→StrsAre us ss
 | [],[],_,_,_,_=>.nil
 | [],_ :: _,_,_,h,_=>by simp at h
 | _ :: _,[],_,_,h,_=>by simp at h
 | x :: ss,u :: us,[],h,_,_=>by simp at h
 | x :: ss,u :: us,c :: kv,h,hl,p=>by
  obtain ⟨k,y,e,r⟩:=p 0 u rfl
  cases (Option.some.inj e)
  rw [br,br] at h
  obtain ⟨h1,h2⟩:=List.cons.inj h
  simp only at h1
  subst h1
  obtain ⟨t,rfl⟩:=(show ∃ t,u=Value.str x t from Kc r)
  exact .cons x t (vA (P:=P) (w:=w) ss us kv h2 (by simpa using hl) fun j v hv=>p (j + 1) v (by simpa using hv))
def Kk (to:TE):TE:=fun σ H Q=>to σ H fun x H1=>∃ (a:Addr) (kvs:List (Key × V)),x=.ref a∧H1 a=some (.dK kvs)∧∀ l,H1 l=none→Q (.ref l) (upd H1 l (.lst (kvs.map (·.2))))
theorem FH {ka:List (Key × V)} {ua:List (Key × Value)} (h:KV ka ua):Vals (ka.map (·.2)) (ua.map (·.2)):=by
 induction h with
 | nil=>exact .nil
 | cons h _ ih=>exact .cons h.2 ih
theorem CQ {X:Cx} {o:Expr} {to:TE} {p apos cpos pos:Pos} (hc:X.calm=true) (hg:Gl X "list") (hm:X.mg "list" = none) (hb:bootBuiltins "list" = some (.type "list")) (ho:PE X o to)
  (hbase:attributeBase o "values" X.env (eval o X.env)=eval o X.env:=by rfl) (hline:(apos.endLine == cpos.line)=true:=by rfl)
  (he:starEach [.Call (.Attribute o "values" apos) [] [] cpos] X.env=[(false,eval (.Call (.Attribute o "values" apos) [] [] cpos) X.env)]:=by rfl) :
  PE X (.Call (.Name "list" p) [.Call (.Attribute o "values" apos) [] [] cpos] [] pos) (Kk to):=by
 intro pins s σ H Q I h
 refine wpAny_Call_Name_kw (jZ I hg hm hb ?_ (by decide) (by decide))
 refine PyProof.Rows.callWith_type1 ?_ he rfl
 rw [he]
 show wpAny _ _ (spliced ((false,eval (.Call (.Attribute o "values" apos) [] [] cpos) X.env) :: backTo pos [])) _ _ s
 refine Calls.spliced_cons ?_
 refine wpAny_Call_method0_late hbase hline (cL (ho pins s σ H _ I h) fun v s1 ⟨x,H1,I1,r1,a,kvs,ex,ha,q⟩=>?_)
 subst ex
 cases r1
 obtain ⟨z2,z1,vs,rk,dd⟩:=jQ I1.hok ha
 refine ⟨"dict", "dict.values",fk,PySem.F.slot_dict_values,PySem.F.type_dict_values,dd.typeIs,dd.mapOf.noDict,?_⟩
 show wpAny _ _ (callWith cpos (.builtin "dict.values") [.ref a] [] []) _ _ s1
 refine method_meetsIn PySem.F.slot_dict_values PySem.F.entry_dict_values rfl (PySem.evalArgs_none ⟨rfl,dd.typeIs,PySem.F.args_dict_values_1 _,_,meets_dict_values (bF X.prog X.w) a z1,⟨vs,dd⟩,?_⟩)
 have I2:Inv X pins σ H1 { s1 with heap:=s1.heap.push { cls:=.type "dict_values",data:=.fields #[.ref a] } }:=I1.kept (t':=s1.toks) (fun b o e=>el _ e)
 refine Calls.spliced_nil ?_
 obtain ⟨_,_,vs2,rk2,dd2⟩:=jQ I2.hok ha
 obtain ⟨ep,dA⟩:∃ ep,(s1.heap.push { cls:=.type "dict_values",data:=.fields #[.ref a] }).DictAt (bF X.prog X.w) a vs2 ep:=by
  obtain ⟨o,es,ep,r⟩:=dd2
  exact ⟨ep,o,es,r⟩
 have hl:=rk2.length
 refine kdl_call (kdl_values (r:=s1.heap.objs.size) (d:=a) (kvs:=vs2) (ep:=ep)) (I2.ok.hd hc) ⟨⟨_,em _ rfl,rfl,rfl⟩,dA⟩ (by rw [← hl]; exact z2) fun h' tk acc c' hk hS hacc=>?_
 have I3:Inv X pins σ H1 { s1 with heap:=h',toks:=tk }:=I2.kept (t':=tk) hk
 have ev:acc.toList=vs2.map (·.2):=by
  apply List.ext_getElem?
  intro j
  by_cases hj:j < vs2.length
  ·have hja:j < acc.size:=by rw [hacc.1]; exact hj
   have e1:acc.toList[j]? = some acc[j]:=by simp [hja]
   obtain ⟨k,e2⟩:=hacc.2 j acc[j] (by simp [hja])
   rw [e1,ab,e2]
   rfl
  ·rw [List.getElem?_eq_none (by rw [Array.length_toList,hacc.1]; omega),List.getElem?_eq_none (by rw [List.length_map]; omega)]
 exact ⟨.ref _,_,I2.laid (t':=tk) hk (ii _) (show cH X.prog X.w _ h' _ (.lst (kvs.map (·.2))) from ⟨by rw [List.length_map]; exact z2,acc.toList,c',by rw [ev]; exact FH rk2,by rw [Array.toArray_toList]; exact hS⟩),rfl,q _ (I2.hok.fresh (ii _))⟩
theorem ni {X:Cx} (hc:X.calm=true):iG X (.builtin "sorted") (fun xs H Q=>∃ (p:Addr) (kvs:List (Key × V)) (ss:List Str),xs=[.ref p]∧H p=some (.dK kvs)∧kvs.map (·.1)=ss.map Sum.inr∧ss.length < 64∧∀ (l:Addr) (ts:List Str),H l=none→ts.Perm ss→sortedS ts=true→Q (.ref l) (upd H l (.lst (ts.map V.str)))):=by
 intro pins s σ H xs Q6 Q I r h
 obtain ⟨p,kvs,ss,rfl,hp,hk0,h64,q⟩:=h
 obtain ⟨u,rfl,ru⟩:=vals1 r
 cases ru
 obtain ⟨z2,z1,vs,rk,dd⟩:=jQ I.hok hp
 have hkl:=rk.length
 have hks:=Fw rk
 have hsl:kvs.length=ss.length:=by have:=congrArg List.length hk0; simpa using this
 obtain ⟨ep,dA⟩:∃ ep,s.heap.DictAt (bF X.prog X.w) p vs ep:=by
  obtain ⟨o,es,ep,r⟩:=dd
  exact ⟨ep,o,es,r⟩
 refine call_function_entry kind_sorted plain_sorted entry_sorted (args_sorted1 _) ?_
 unfold Builtin.«sorted»
 refine cb (m:=checkCount "sorted" 1 1 _) (ce ?_)
 refine cb (kdu_collect (A:=X.A.in1) (kdl_dict z1) (I.ok.hd hc) dA (by rw [← hkl]; exact z2) fun h' tk acc hk hacc=>?_)
 have hal:acc.toList.length=ss.length:=by rw [Array.length_toList,hacc.1,← hkl,hsl]
 have hS:StrsAre acc.toList ss:=vA (P:=X.prog) (w:=X.w) ss acc.toList vs (by rw [hks,hk0]) hal fun j v e=>hacc.2 j v (by rw [← Array.getElem?_toList]; exact e)
 have I':Inv X pins σ H { s with heap:=h',toks:=tk }:=I.un (Un.kept hk) (I.hok.kept hk)
 refine cb (wpAny_newList ?_ (by rw [hal,sizeLine_eq]; omega))
 have hD:(h'.push (seqObj "list" acc.toList.toArray 0)).get? h'.objs.size=some (seqObj "list" acc.toList.toArray 0):=em _ rfl
 refine cb (wpAny_holding (eh slot_list_sort ⟨_,hD,rfl⟩ entry_list_sort (list_sort_treeK strKind_oneLt hD hS.keysOf (fun v₁ v₂ rest e=>keyKind_strs (by rw [← e]; exact hS)) (by omega) fun st' hp' hs'=>⟨_,rfl,?_⟩) (args_list_sort _)))
 obtain ⟨ts,a1,a2,a3⟩:=sorted_out_str hS hp' hs'
 obtain ⟨c,hg⟩:=sortedHeap_at (out:=(arrOf st').map (·.2)) hD
 refine ce ⟨_,rfl,?_⟩
 have hl:ts.length < 64:=by rw [a2.length_eq]; exact h64
 refine ⟨.ref h'.objs.size,_,I'.laid (o:=.lst (ts.map V.str)) (fun b o e=>?_) (ii _) ⟨by rw [List.length_map,sizeLine_eq]; omega,((arrOf st').map (·.2)).toList,c,vz a1,by rw [hg]⟩,rfl,q _ ts (I'.hok.fresh (ii _)) a2 a3⟩
 have hb:=et e
 rw [sortedHeap_old (ij hb) (by rw [size_push']; exact Nat.lt_succ_of_lt hb)]
 exact el _ e
def Np:R2:=fun x y H Q=>∃ (p q:Addr) (xs ys:List V),x=.ref p∧y=.ref q∧H p=some (.tup xs)∧H q=some (.tup ys)∧xs.length=ys.length∧(∀ (i:Nat) a b,xs[i]? = some a→ys[i]? = some b→EqS H a b)∧Q (.bl false) H
theorem FI {X:Cx} (hu:X.A.units + 2 < cLine):jP X (compareOp .NotEq) Np:=by
 intro pins s σ H x y v u Q I rx ry h
 obtain ⟨p,q,xs,ys,rfl,rfl,hp,hq,hl,hs,k⟩:=h
 cases rx
 cases ry
 obtain ⟨_,i1,r1,t1⟩:=(show cH X.prog X.w H s.heap p (.tup xs) from I.hok p _ hp)
 obtain ⟨_,i2,r2,t2⟩:=(show cH X.prog X.w H s.heap q (.tup ys) from I.hok q _ hq)
 have l1:=r1.length
 have l2:=r2.length
 have key:=SeqAt.RcNeAt.tuples (A:=X.A) (s:=s) (e:=fun _=>true) t1 t2 (by omega) fun j h1 h2=>by
  have j1:j < xs.length:=by simp at h1; omega
  have j2:j < ys.length:=by omega
  have z1:xs[j]? = some xs[j]:=aa j1
  have z2:ys[j]? = some ys[j]:=aa j2
  obtain ⟨u1,w1,q1⟩:=r1.get z1
  obtain ⟨u2,w2,q2⟩:=r2.get z2
  have e1:i1.toArray[j]=u1:=by
   have:i1[j]? = some i1[j]:=aa (by omega)
   rw [this] at w1
   simpa using w1
  have e2:i2.toArray[j]=u2:=by
   have:i2[j]? = some i2[j]:=aa (by omega)
   rw [this] at w2
   simpa using w2
  rw [e1,e2]
  exact Kj (A:=X.A.in1) (by show X.A.units + 1 + 1 < cLine; omega) I (hs j _ _ z1 z2) q1 q2
 rw [all_true] at key
 have e3:(!(true && i1.toArray.size == i2.toArray.size))=false:=by simp; omega
 rw [e3] at key
 exact key _ _ _ _ ⟨.bl false,H,I,rfl,k⟩
end L2
namespace PySem.W.Fast
def tw11139787741856373047:Nat:=0
def tw2953352880467765056:Nat:=0
def tw13960386954411728400:Nat:=0
def tw4717117664622944923:Nat:=0
def tw17037344157872896098:Nat:=0
def tw7305360424833299381:Nat:=0
def tw8643855917865949051:Nat:=0
def tw4529502829585415109:Nat:=0
def tw7946135049821227244:Nat:=0
def tw1074760978827533177:Nat:=0
def tw416728767357996833:Nat:=0
def tw15435256125871919752:Nat:=0
def tw14534794771744350499:Nat:=0
def tw7680933300990867438:Nat:=0
def tw2008461329330532493:Nat:=0
def tw17814190763226841195:Nat:=0
def tw18426916223266973203:Nat:=0
def tw3032465033414911594:Nat:=0
def tw15352454207981057665:Nat:=0
def tw1886121465698726541:Nat:=0
def tw9892985038473004843:Nat:=0
def tw8376010990304113803:Nat:=0
def tw11861103774097844462:Nat:=0
def tw3437689437812382485:Nat:=0
def tw1046958936710473076:Nat:=0
def tw5383435707131335960:Nat:=0
def tw17551314875851994189:Nat:=0
def tw4023023364517194292:Nat:=0
def tw8457419946313333856:Nat:=0
def tw17564521000695972898:Nat:=0
def tw7444994028549600873:Nat:=0
def tw13587985870726075675:Nat:=0
def tw2996382865320771344:Nat:=0
def tw4137890036421030949:Nat:=0
def tw3809740842120339509:Nat:=0
def tw18237699788280859553:Nat:=0
def tw10876170916983944603:Nat:=0
def tw12798755048920813245:Nat:=0
def tw7398070013598547669:Nat:=0
def tw5052068541944090286:Nat:=0
def tw8091046087671122005:Nat:=0
def tw15206053847132567581:Nat:=0
def tw16467643709978360915:Nat:=0
def tw13151273140014086234:Nat:=0
def tw2352265347315779073:Nat:=0
def tw5971727635947524857:Nat:=0
def tw5087652297525270716:Nat:=0
def tw4636454276199954290:Nat:=0
def tw1958871205122369908:Nat:=0
def tw15836866613483528398:Nat:=0
def tw13318421061325625725:Nat:=0
def tw15295745562134859733:Nat:=0
def tw15981634241663732655:Nat:=0
def tw1294342006336972496:Nat:=0
def tw14033356217239219884:Nat:=0
def tw8723697355387898256:Nat:=0
def tw16903037685001906178:Nat:=0
def tw5863987299775239721:Nat:=0
def tw7262726010223271137:Nat:=0
def tw9558179207549587132:Nat:=0
def tw3215585123813693135:Nat:=0
def tw13025841193821423775:Nat:=0
def tw5748267819575403126:Nat:=0
def tw4930506882576639562:Nat:=0
def tw7576819838855535684:Nat:=0
def tw12152244860079897722:Nat:=0
def tw13622493537903384054:Nat:=0
def tw767021155627649579:Nat:=0
def tw9522249146285792776:Nat:=0
def tw18322864465368991145:Nat:=0
def tw16272899044144116144:Nat:=0
def tw428975699713313502:Nat:=0
def tw1162094672326573177:Nat:=0
def tw9197836181069096787:Nat:=0
def tw5464357504200163706:Nat:=0
def tw8388727854101850120:Nat:=0
def tw13413782757905538723:Nat:=0
def tw8327005292119161779:Nat:=0
def tw1834994670272222234:Nat:=0
def tw17006738499122840026:Nat:=0
def tw7814408043493939648:Nat:=0
def tw7589225502235482554:Nat:=0
def tw2289244854569577270:Nat:=0
def tw13808911540015021488:Nat:=0
def tw9071982323692661746:Nat:=0
def tw18334472008867143800:Nat:=0
def tw9049427980019396397:Nat:=0
def tw4323937262065408591:Nat:=0
def tw15969791974778974516:Nat:=0
def tw4258879326048986922:Nat:=0
def tw12867387018123207312:Nat:=0
def tw14928369909860683830:Nat:=0
def tw13243451991138266482:Nat:=0
def tw9182360153402277128:Nat:=0
def tw3659859995867000634:Nat:=0
def tw7673394853821501911:Nat:=0
def tw5369398441881007181:Nat:=0
def tw4440759870261931236:Nat:=0
def tw7179679108271528434:Nat:=0
def tw8044554363809320845:Nat:=0
def tw5811153265858005236:Nat:=0
def tw9022636794379123191:Nat:=0
def tw8925452486511539884:Nat:=0
def tw15636592033217195947:Nat:=0
def tw7925207918304952785:Nat:=0
def tw1133384766863512754:Nat:=0
def tw7793009617834811601:Nat:=0
def tw15230918686461536840:Nat:=0
def tw6235742614550608341:Nat:=0
def tw11013281812282720607:Nat:=0
def tw4649460595264497726:Nat:=0
def tw8538620595174260309:Nat:=0
def tw15384578159665692948:Nat:=0
def tw14315319164295468066:Nat:=0
def tw4266984709885348452:Nat:=0
def tw18216726246796208140:Nat:=0
def tw3191524582301830816:Nat:=0
def tw2680020974965330702:Nat:=0
def tw5381421308897020298:Nat:=0
def tw1039333627925011182:Nat:=0
def tw10348190801524735703:Nat:=0
def tw14897563076891009980:Nat:=0
def tw5929161427276010012:Nat:=0
def tw16483106700186643617:Nat:=0
def tw7480480414164810086:Nat:=0
def tw1628238580568942175:Nat:=0
def tw13417941383002528864:Nat:=0
def tw14537356609502283808:Nat:=0
def tw8476190880592924637:Nat:=0
def tw1549842802354832993:Nat:=0
def tw12194670673362267650:Nat:=0
def tw11678000079465891074:Nat:=0
def tw3088794018897862749:Nat:=0
def tw830280249812758574:Nat:=0
def tw6862256977585541117:Nat:=0
def tw5728516305716251105:Nat:=0
def tw4590307374679955181:Nat:=0
def tw8339346698557526733:Nat:=0
def tw15762901943368794577:Nat:=0
def tw9402101573653814048:Nat:=0
def tw6270152760549889345:Nat:=0
def tw5079639412657917782:Nat:=0
def tw1960858466531895543:Nat:=0
def tw9980440382043927846:Nat:=0
def tw7240351918189031102:Nat:=0
def tw15560087820168785378:Nat:=0
def tw960304059239948827:Nat:=0
def tw12093844526111420657:Nat:=0
def tw8313036238842498487:Nat:=0
def tw10016697648983914568:Nat:=0
def tw2879507208577228065:Nat:=0
def tw10170920026235092383:Nat:=0
def tw17512819106951467641:Nat:=0
def tw9976222436673865302:Nat:=0
def tw3709018165399987401:Nat:=0
def tw9223834074288715898:Nat:=0
def tw12759231086151850459:Nat:=0
def tw17311286778558683590:Nat:=0
def tw14310632520663484979:Nat:=0
def tw16052189773518236231:Nat:=0
end PySem.W.Fast
namespace My
open PySem L2
theorem _root_.L2.fh.u {n:Nat} {A:Around} (hr:fh n A) (k:Nat) (h:k ≤ 64:=by decide):A.units + k < cLine:=Nat.lt_of_le_of_lt (Nat.add_le_add_left h _) hr.units
abbrev KI (K:fm) (f:Addr):Prop:=fo K (.ref f)=true
theorem lQ:0 ≤ de:=by decide
theorem oY:1 ≤ de:=by decide
theorem cZ:2 ≤ de:=by decide
theorem j6:3 ≤ de:=by decide
theorem CT:4 ≤ de:=by decide
theorem Sx:5 ≤ de:=by decide
theorem Sy:7 ≤ de:=by decide
theorem Nq:13 ≤ de:=by decide
theorem Nr:20 ≤ de:=by decide
theorem wZ:(0:Int) < 2:=by decide
theorem Kl:(0:Int) < 3:=by decide
theorem vB:(0:Int) < 4:=by decide
theorem Sz:(0:Int) < 5:=by decide
theorem Nt:(0:Int) < 6:=by decide
theorem SA:(0:Int) < 7:=by decide
theorem FJ:(0:Int) < 8:=by decide
theorem Nu:(0:Int) < 9:=by decide
theorem Nv:(0:Int) < 12:=by decide
theorem Nw:(0:Int) < 16:=by decide
theorem Nx:(0:Int) < 19:=by decide
theorem Ny:(0:Int) < 20:=by decide
theorem Nz:(0:Int) < 61:=by decide
theorem FK:(0:Int) < 2001:=by decide
theorem j7:(0:Int) < 1000001:=by decide
theorem qE:(0:Int) < 2147483629:=by decide
theorem jT:(0:Int) < 2147483647:=by decide
open List (any_cons cons_ne_nil eq_nil_or_concat filter_append length_append length_filter_le length_map length_set length_take map_append map_cons map_map map_set map_take mem_append mem_cons mem_filter mem_map mem_singleton nodup_cons not_mem_nil replicate take_add_one take_length zip_cons_cons)
open PySem.W (Frag KeysLit OpenLaw WalkO codeIn findIn fnOf isFn kIn_of keepIn kitMeta kitOne mg_none_of mg_of nsIn)
open Option (map_eq_some_iff)
open Nat (add_le_add_left le_of_ble_eq_true le_refl le_succ le_trans lt_of_le_of_lt lt_of_succ_lt lt_or_ge zero_le)
def top (i:Nat):Stmt:=PySem.Challenge.pw_widenrows_k51_the_plain_reading.main.body.getD i (.Pass ⟨0,0,0,0⟩)
abbrev s_end:Stmt:=top 7
abbrev jt:Stmt:=top 8
abbrev ju:Stmt:=top 9
abbrev jv:Stmt:=top 10
abbrev kJ:Stmt:=top 11
abbrev jw:Stmt:=top 12
abbrev jx:Stmt:=top 13
abbrev kQ:Stmt:=top 14
abbrev jy:Stmt:=top 15
abbrev jz:Stmt:=top 16
abbrev jA:Stmt:=top 17
abbrev jB:Stmt:=top 18
abbrev kX:Stmt:=top 19
abbrev kZ:Stmt:=top 20
abbrev jC:Stmt:=top 21
abbrev jD:Stmt:=top 22
abbrev jE:Stmt:=top 23
abbrev iV:Stmt:=top 24
abbrev jF:Stmt:=top 25
abbrev jG:Stmt:=top 26
abbrev iW:Stmt:=top 27
abbrev gN:Stmt:=top 33
abbrev d8:Stmt:=top 34
abbrev gP:Stmt:=top 35
abbrev fJ:Stmt:=top 41
abbrev dC:Stmt:=top 42
abbrev dM:Stmt:=top 43
abbrev gQ:Stmt:=top 44
abbrev dU:Stmt:=top 45
abbrev gR:Stmt:=top 46
abbrev iJ:Stmt:=top 47
abbrev cV:Stmt:=top 48
abbrev d9:Stmt:=top 49
abbrev fQ:Stmt:=top 54
abbrev gS:Stmt:=top 55
abbrev gT:Stmt:=top 56
abbrev dD:Stmt:=top 57
abbrev cW:Stmt:=top 58
abbrev cX:Stmt:=top 59
abbrev cu:Stmt:=top 60
abbrev cO:Stmt:=top 62
abbrev fU:Stmt:=top 63
abbrev eV:Stmt:=top 64
abbrev di:Stmt:=top 65
abbrev iK:Stmt:=top 66
abbrev ef:Stmt:=top 67
abbrev eI:Stmt:=top 69
abbrev fq:Stmt:=top 70
abbrev iL:Stmt:=top 71
abbrev eJ:Stmt:=top 72
abbrev g9:Stmt:=top 73
abbrev eQ:Stmt:=top 74
abbrev fV:Stmt:=top 75
abbrev cn:Stmt:=top 76
abbrev eY:Stmt:=top 77
abbrev e9:Stmt:=top 78
abbrev fX:Stmt:=top 79
abbrev fZ:Stmt:=top 80
abbrev dW:Stmt:=top 81
abbrev gU:Stmt:=top 82
abbrev gg:Stmt:=top 83
abbrev eU:Stmt:=top 84
abbrev lf:Stmt:=top 85
theorem ei:bootBuiltins "list" = some (.type "list"):=by decide +kernel
theorem lg:bootBuiltins "tuple" = some (.type "tuple"):=by decide +kernel
theorem w4:bootBuiltins "set" = some (.type "set"):=by decide +kernel
theorem y0:bootBuiltins "bool" = some (.type "bool"):=by decide +kernel
theorem dc:bootBuiltins "len" = some (.builtin "len"):=by decide +kernel
theorem jH:bootBuiltins "sorted" = some (.builtin "sorted"):=by decide +kernel
theorem hC:bootBuiltins "isinstance" = some (.builtin "isinstance"):=by decide +kernel
theorem at0 {α:Type} (a:α) (r:List α):mV (a :: r) 0=some a:=ck (j:=0) rfl
theorem at1 {α:Type} (a b:α) (r:List α):mV (a :: b :: r) 1=some b:=ck (j:=1) rfl
theorem at2 {α:Type} (a b c:α) (r:List α):mV (a :: b :: c :: r) 2=some c:=ck (j:=2) rfl
theorem strEq {a b:Str} (h:decide (V.str a=V.str b)=true):a=b:=V.str.inj (of_decide_eq_true h)
theorem IB {a b:Str} (h:¬ decide (V.str a=V.str b)=true):¬ a=b:=fun e=>h (by rw [e]; exact decide_eq_true rfl)
theorem er (w:Str):∀ ss:List Str,inV (.str w) (ss.map V.str)=decide (w ∈ ss)
 | []=>rfl
 | x :: r=>by
  have ih:=er w r
  unfold inV at ih ⊢
  rw [map_cons,any_cons,ih]
  show ((x == w) || _)=_
  by_cases h:x=w
  ·subst h
   simp
  ·have h':¬ w=x:=fun e=>h e.symm
   simp [h,h']
theorem aj {H:Hp} {l:Addr} {o:HO} (h:H l=none):Same H (upd H l o):=fun b u e=>by
 rw [aL (az e h)]
 exact e
theorem w6:bootBuiltins "int" = some (.type "int"):=by decide +kernel
theorem Km:bootBuiltins "str" = some (.type "str"):=by decide +kernel
theorem w8:bootBuiltins "all" = some (.builtin "all"):=by decide +kernel
theorem dX {H:Hp} {l a:Addr} {o u:HO} (n:H l=none) (h:H a=some u):upd H l o a=some u:=by
 rw [aL (az h n)]
 exact h
theorem cQ {H H1:Hp} {l:Addr} {o:HO} (e:Same H H1) (h:H l=none):Same H (upd H1 l o):=fun b u z=>by
 rw [aL (az z h)]
 exact e b u z
theorem Kn {K:Frag} {a b:String} {r:Bool} (h1:(Value.type a == Value.type b)=false) (h2:kitMeta b=true) (h3:(fastBuiltinMro a).map (·.contains (Value.type b))=some r):kitOne K (.type a) (.type b)=some r:=by
 unfold kitOne
 rw [if_neg (by rw [h1]; decide)]
 show (if kitMeta b=true then (fastBuiltinMro a).map (·.contains (Value.type b)) else none)=some r
 rw [if_pos h2]
 exact h3
theorem oZ {K:Frag} {a:String} (h:(Value.type a == Value.type a)=true):kitOne K (.type a) (.type a)=some true:=by
 unfold kitOne
 rw [if_pos h]
theorem o8 {K:Frag}:kitOne K (.type "int") (.type "bool")=some false:=Kn (by decide) (by decide +kernel) (by decide +kernel)
theorem rF {K:Frag}:kitOne K (.type "int") (.type "int")=some true:=oZ (by decide)
theorem iA {K:Frag}:kitOne K (.type "tuple") (.type "tuple")=some true:=oZ (by decide)
theorem mn {K:Frag}:kitOne K (.type "list") (.type "list")=some true:=oZ (by decide)
def cY:List Str:=["stop", "back", "halt", "jump"]
def eE:List Str:=["jump", "call", "mark"]
def zb:List Str:=["zero", "below"]
def Parts (H:Hp) (w:Str) (items:List V) (ts:List Int):Prop :=
 if w = "table" then ∃ (b:V) (q:Addr),items=[b,.ref q]∧H q=some (.tup (ts.map V.int))
 else if w ∈ eE then ∃ (t:Int) (f:V),items=[.int t,f]∧ts=[t]
 else if w ∈ zb then ∃ (b:V) (t:Int) (f:V),items=[b,.int t,f]∧ts=[t] else ts=[]
def mq (H:Hp) (r:Addr) (w:Str) (ts:List Int):Prop:=∃ items,H r=some (.tup (.str w :: items))∧Parts H w items ts
theorem Parts.same {H H':Hp} {w:Str} {items:List V} {ts:List Int} (e:Same H H') (h:Parts H w items ts):Parts H' w items ts:=by
 unfold Parts at h ⊢
 split
 ·rename_i h1
  rw [if_pos h1] at h
  obtain ⟨b,q,h2,h3⟩:=h
  exact ⟨b,q,h2,e _ _ h3⟩
 ·rename_i h1
  rw [if_neg h1] at h
  exact h
theorem mq.same {H H':Hp} {r:Addr} {w:Str} {ts:List Int} (e:Same H H') (h:mq H r w ts):mq H' r w ts:=by
 obtain ⟨items,h1,h2⟩:=h
 exact ⟨items,e _ _ h1,h2.same e⟩
structure Txt (K:Frag) (pr:Params) (mg:Str→Option Value):Prop where
 o9:∃ p,mg "NOT_GOING_ON" = some (.ref p)∧∀ H,aS K H p [.str "stop",.str "back",.str "halt",.str "jump"]
 vC:∃ t,mg "MOST_ROWS" = some (.int (4000) t)
 pd:∃ t,mg "MOST_TARGETS" = some (.int (16) t)
 CU:∃ p,mg "BOUNDS" = some (.ref p)∧Fz K pr p∧(∃ q,dJ K pr p "box" (some (.ref q))∧∀ H,aS K H q [.int 0,.int 7])∧(∃ q,dJ K pr p "aside" (some (.ref q))∧∀ H,aS K H q [.int 0,.int 1000000])∧(∃ q,dJ K pr p "target" (some (.ref q))∧∀ H,aS K H q [.int 0,.int 1000000000])∧(∃ q,dJ K pr p "number" (some (.ref q))∧∀ H,aS K H q [.int 0,.int 1000000])∧(∃ q,dJ K pr p "value" (some (.ref q))∧∀ H,aS K H q [.int (-1000000000),.int 1000000000])∧(∃ q,dJ K pr p "far" (some (.ref q))∧∀ H,aS K H q [.int 0,.int 1])
 FL:∃ p,mg "PARTS" = some (.ref p)∧Fz K pr p∧(∃ q,dJ K pr p "stop" (some (.ref q))∧∀ H,aS K H q [])∧(∃ q,dJ K pr p "back" (some (.ref q))∧∀ H,aS K H q [])∧(∃ q,dJ K pr p "halt" (some (.ref q))∧∀ H,aS K H q [.str "number"])∧(∃ q,dJ K pr p "set" (some (.ref q))∧∀ H,aS K H q [.str "box",.str "value"])∧(∃ q,dJ K pr p "more" (some (.ref q))∧∀ H,aS K H q [.str "box",.str "value"])∧(∃ q,dJ K pr p "copy" (some (.ref q))∧∀ H,aS K H q [.str "box",.str "box"])∧(∃ q,dJ K pr p "add" (some (.ref q))∧∀ H,aS K H q [.str "box",.str "box"])∧(∃ q,dJ K pr p "less" (some (.ref q))∧∀ H,aS K H q [.str "box",.str "box"])∧(∃ q,dJ K pr p "load" (some (.ref q))∧∀ H,aS K H q [.str "box",.str "box"])∧(∃ q,dJ K pr p "keep" (some (.ref q))∧∀ H,aS K H q [.str "box",.str "box"])∧(∃ q,dJ K pr p "tell" (some (.ref q))∧∀ H,aS K H q [.str "box"])∧(∃ q,dJ K pr p "see" (some (.ref q))∧∀ H,aS K H q [.str "box",.str "number"])∧(∃ q,dJ K pr p "put" (some (.ref q))∧∀ H,aS K H q [.str "box",.str "aside"])∧(∃ q,dJ K pr p "take" (some (.ref q))∧∀ H,aS K H q [.str "box",.str "aside"])∧(∃ q,dJ K pr p "jump" (some (.ref q))∧∀ H,aS K H q [.str "target",.str "far"])∧(∃ q,dJ K pr p "zero" (some (.ref q))∧∀ H,aS K H q [.str "box",.str "target",.str "far"])∧(∃ q,dJ K pr p "below" (some (.ref q))∧∀ H,aS K H q [.str "box",.str "target",.str "far"])∧(∃ q,dJ K pr p "call" (some (.ref q))∧∀ H,aS K H q [.str "target",.str "far"])∧(∃ q,dJ K pr p "mark" (some (.ref q))∧∀ H,aS K H q [.str "target",.str "far"])∧(∃ q,dJ K pr p "table" (some (.ref q))∧∀ H,aS K H q [.str "box",.str "targets"])
 qF:∃ t,mg "MOST_WISHES" = some (.int (12) t)
 CV:∃ p,mg "PLACES" = some (.ref p)∧Fz K pr p∧dJ K pr p "before" (some (.int 2))∧dJ K pr p "after" (some (.int 2))∧dJ K pr p "way" (some (.int 3))
 FN:∃ p,mg "WHATS" = some (.ref p)∧Fz K pr p∧(∃ q,dJ K pr p "look" (some (.ref q))∧∀ H,aS K H q [.str "number",.str "box"])∧(∃ q,dJ K pr p "count" (some (.ref q))∧∀ H,aS K H q [.str "number"])∧(∃ q,dJ K pr p "guard" (some (.ref q))∧∀ H,aS K H q [.str "number",.str "box"])
 len:mg "len" = none
 list:mg "list" = none
 tuple:mg "tuple" = none
 int:mg "int" = none
 bool:mg "bool" = none
 str:mg "str" = none
 dict:mg "dict" = none
 CW:mg "isinstance" = none
 enum:mg "enumerate" = none
 range:mg "range" = none
 all:mg "all" = none
 zip:mg "zip" = none
 sorted:mg "sorted" = none
 set:mg "set" = none
def isStar:Expr→Bool
 | .Starred _ _=>true
 | _=>false
theorem FO {e:Expr} {es:List Expr} {env:Env} (h:isStar e=false):starEach (e :: es) env=(false,eval e env) :: starEach es env:=starEach.eq_3 _ _ _ (fun e1 p h1=>by rw [h1] at h; cases h)
inductive Ko (X:Cx):List Expr→List TE→Prop where
 | nil:Ko X [] []
 | cons {e:Expr} {te:TE} {es:List Expr} {ts:List TE} (h:PE X e te) (r:Ko X es ts) (hs:isStar e=false:=by rfl):Ko X (e :: es) (te :: ts)
def FP:List TE→TA
 | []=>qv
 | te :: ts=>qW te (FP ts)
theorem Ko.pa {X:Cx} {es:List Expr} {ts:List TE} (h:Ko X es ts):PA X es (FP ts):=by
 induction h with
 | nil=>exact ao
 | cons h r hs ih=>exact ae h ih (FO hs)
theorem FQ {X:Cx} {es:List Expr} {ts:List TE} {pos:Pos} (h:Ko X es ts):PE X (.List es pos) (uY (FP ts)):=cr h.pa
@[irreducible] def LZ (X:Cx) (e:Expr) (t:TE):Prop:=PE X e t
@[irreducible] def Rc (X:Cx) (e:Stmt) (t:TS):Prop:=PS X e t
theorem FT {X:Cx} {es:List Expr} {ts:List TE} {pos:Pos} (h:Ko X es ts):LZ X (.List es pos) (uY (FP ts)):=by
 unfold LZ
 exact cr h.pa
theorem y9 {X:Cx} {pos:Pos} {i:Nat} {x:Str} {e:Expr} {te:TE} {pos':Pos} (hN:X.N.Nodup) (hi:X.N[i]? = some x) (hx:Loc X.env.scope x) (he:LZ X e te) (hs:swapsWith e (some (.Name x pos')) pos.line X.env=pure false:=by rfl) (hf:X.fn x=true∨X.env.scope.names.lookup x=some .local:=by first | exact .inl rfl | exact .inr rfl | assumption) :
  Rc X (.Assign [.Name x pos'] e pos) (BL te (gY i)):=by
 unfold LZ at he
 unfold Rc
 exact aU hN hi hx he hs hf
theorem vD {X:Cx} {st:Stmt} {t:TS} (h:Rc X st t):LY X st t:=by
 unfold Rc at h
 exact aG h
theorem cF {c A B:Prop} [Decidable c] (h:c) (a:A):if c then A else B:=by rw [if_pos h]; exact a
theorem aX {c A B:Prop} [Decidable c] (h:¬ c) (b:B):if c then A else B:=by rw [if_neg h]; exact b
theorem bQ {n:Nat} (h:n ≤ 1000000):n < de:=lt_of_le_of_lt h (by decide)
theorem iX {X:Cx} {K:Frag} (hK:X.K=K) {i j:Nat} {x y:Str} {px py pt:Pos} {k:Nat} (hc:X.calm=true) (hN:X.N.Nodup) (hi:X.N[i]? = some x) (hx:Loc X.env.scope x) (hj:X.N[j]? = some y) (hy:Loc X.env.scope y)
  (hf:X.fn x=true∨X.env.scope.names.lookup x=some .local:=by first | exact .inl rfl | exact .inr rfl) (hf2:X.fn y=true∨X.env.scope.names.lookup y=some .local:=by first | exact .inl rfl | exact .inr rfl) :
  PG X (.Tuple [.Name x px,.Name y py] k pt) (JK K 2 (uX (gY i) (uX (gY j) JJ))):=hK ▸ v7 (n:=2) hc (gq (cG hN hi hx hf) (gq (cG hN hj hy hf2) sg))
abbrev IC:Stmt:=eI
abbrev za:Stmt:=fq
abbrev NA:Stmt:=iL
abbrev IE:Stmt:=eJ
abbrev IG:Stmt:=g9
def jU:List Str:=["stop", "back", "halt", "set", "more", "copy", "add", "less", "load", "keep", "tell", "see", "put", "take", "jump", "zero", "below", "call", "mark", "table"]
def w2:List Str:=["copy", "add", "less", "load", "keep"]
def w1:List Str:=["set", "more", "tell", "see", "put", "take", "zero", "below", "table"]
def og (u:Str) (items:List V):Prop:=(u ∈ w2→∃ b c:Int,items=[.int b,.int c])∧(u ∈ w1→∃ (b:Int) (r:List V),items=.int b :: r)
theorem og.one {u:Str} {b:Int} {r:List V} (h:¬ u ∈ w2):og u (.int b :: r):=⟨fun z=>absurd z h,fun _=>⟨b,r,rfl⟩⟩
def kinds:List (Str × List Str):=[("stop",[]),("back",[]),("halt",["number"]),("set",["box", "value"]),("more",["box", "value"]),("copy",["box", "box"]),("add",["box", "box"]),("less",["box", "box"]),("load",["box", "box"]),("keep",["box", "box"]),
 ("tell",["box"]),("see",["box", "number"]),("put",["box", "aside"]),("take",["box", "aside"]),("jump",["target", "far"]),("zero",["box", "target", "far"]),("below",["box", "target", "far"]),("call",["target", "far"]),("mark",["target", "far"]),("table",["box", "targets"])]
def five:List Str:=["jump", "call", "mark", "zero", "below"]
def gM (u:Str):List Str:=((kinds.find? fun x=>x.1 == u).map (·.2)).getD []
def SD (u:Str):Nat:=(gM u).length
theorem sM (w:Int):∀ ss:List Int,inV (.int w) (ss.map V.int)=decide (w ∈ ss)
 | []=>rfl
 | x :: r=>by
  have ih:=sM w r
  unfold inV at ih ⊢
  rw [map_cons,any_cons,ih]
  show ((x == w) || _)=_
  by_cases h:x=w
  ·subst h
   simp
  ·have h':¬ w=x:=fun e=>h e.symm
   simp [h,h']
theorem rG (ms:List Int):(ms.map V.int).all ko=true:=by
 rw [List.all_eq_true]
 intro x hx
 obtain ⟨i,_,rfl⟩:=mem_map.mp hx
 rfl
structure FR where
 u:Str
 is:List Int
 ts:List Int
def FR.Ok (d:FR):Prop:=d.u ∈ jU∧(d.u = "table" → ∃ b,d.is=[b]∧d.ts ≠ [])∧(d.u ∈ eE→∃ t f,d.is=[t,f]∧d.ts=[t])∧(d.u ∈ zb→∃ b t f,d.is=[b,t,f]∧d.ts=[t]) ∧
 (¬ d.u = "table" → ¬ d.u ∈ eE→¬ d.u ∈ zb→d.ts=[]∧d.is.length=SD d.u)∧(d.u ∈ w2→∃ b c,d.is=[b,c])∧(d.u ∈ w1→∃ b r,d.is=b :: r)
def SE (H:Hp) (q:Addr) (d:FR):Prop:=(d.u = "table" ∧ ∃ b p,d.is=[b]∧H q=some (.tup [.str d.u,.int b,.ref p])∧H p=some (.tup (d.ts.map V.int)))∨(¬ d.u = "table" ∧ H q=some (.tup (.str d.u :: d.is.map V.int)))
def gC (H:Hp) (q:Addr) (d:FR):Prop:=d.Ok∧SE H q d
theorem gC.same {H H':Hp} {q:Addr} {d:FR} (s:Same H H') (h:gC H q d):gC H' q d:=by
 obtain ⟨o,h⟩:=h
 refine ⟨o,?_⟩
 rcases h with ⟨a,b,p,e,h1,h2⟩ | ⟨a,h1⟩
 ·exact .inl ⟨a,b,p,e,s _ _ h1,s _ _ h2⟩
 ·exact .inr ⟨a,s _ _ h1⟩
theorem gC.parts {H:Hp} {q:Addr} {d:FR} (h:gC H q d):∃ items,H q=some (.tup (.str d.u :: items))∧og d.u items∧Parts H d.u items d.ts∧∀ (i:Nat) (b:Int),(d.u ∈ w1∨d.u ∈ w2)→i < 2→(d.u ∈ w1→i=0)→(items[i]? = some (.int b)↔d.is[i]? = some b):=by
 obtain ⟨⟨hu,h1,h2,h3,h4,h5,h6⟩,h⟩:=h
 rcases h with ⟨a,b,p,e,g1,g2⟩ | ⟨a,g1⟩
 ·refine ⟨_,g1,og.one (by rw [a]; decide),?_,fun i b' _ hi hw=>?_⟩
  ·unfold Parts
   rw [if_pos a]
   exact ⟨_,p,rfl,g2⟩
  ·have:i=0:=hw (by rw [a]; decide)
   subst this
   rw [e]
   simp
 ·refine ⟨_,g1,⟨fun z=>?_,fun z=>?_⟩,?_,fun i b' _ hi hw=>?_⟩
  ·obtain ⟨b,c,e⟩:=h5 z
   exact ⟨b,c,by rw [e]; rfl⟩
  ·obtain ⟨b,r,e⟩:=h6 z
   exact ⟨b,r.map V.int,by rw [e]; rfl⟩
  ·unfold Parts
   rw [if_neg a]
   split
   ·rename_i z
    obtain ⟨t,f,e1,e2⟩:=h2 z
    exact ⟨t,.int f,by rw [e1]; rfl,e2⟩
   ·rename_i z1
    split
    ·rename_i z
     obtain ⟨b,t,f,e1,e2⟩:=h3 z
     exact ⟨.int b,t,.int f,by rw [e1]; rfl,e2⟩
    ·rename_i z2
     exact (h4 a z1 z2).1
  ·rw [ab,map_eq_some_iff]
   exact ⟨fun ⟨y,e1,e2⟩=>by cases e2; exact e1,fun e=>⟨b',e,rfl⟩⟩
def gJ (H:Hp) (lr:Addr) (ds:List FR):Prop:=∃ qs:List Addr,H lr=some (.lst (qs.map V.ref))∧qs.length=ds.length∧∀ (i:Nat) q d,qs[i]? = some q→ds[i]? = some d→gC H q d
theorem gJ.same {H H':Hp} {lr:Addr} {ds:List FR} (s:Same H H') (h:gJ H lr ds):gJ H' lr ds:=by
 obtain ⟨qs,a,b,c⟩:=h
 exact ⟨qs,s _ _ a,b,fun i q d h1 h2=>(c i q d h1 h2).same s⟩
theorem gJ.get {H:Hp} {lr:Addr} {ds:List FR} {r:Nat} {d:FR} (h:gJ H lr ds) (hd:ds[r]? = some d):∃ (qs:List Addr) (q:Addr),H lr=some (.lst (qs.map V.ref))∧mV (qs.map V.ref) (r:Int)=some (.ref q)∧(qs.map V.ref)[r]? = some (.ref q)∧gC H q d:=by
 obtain ⟨qs,a,b,c⟩:=h
 have hr:=(ac.mp hd).1
 have hq:qs[r]? = some (qs[r]'(by omega)):=aa _
 have hq':(qs.map V.ref)[r]? = some (.ref (qs[r]'(by omega))):=by rw [ab,hq]; rfl
 exact ⟨qs,_,a,ck hq',hq',c r _ d hq hd⟩
def NB (d:FR):Int:=d.is.getLastD 0
theorem cv {X:Cx}:jP X (binaryOp .FloorDiv) (rI (fun _ j=>0 < j∧j < 18446744073709551616) fun i j=>.int (i / j)):=QY fun i j _ _ _ _ _ hc q=>by
 have h1:(0:Int) < j:=hc.1
 have h2:j < 18446744073709551616:=hc.2
 refine PyProof.Rows.floordiv_int (by omega) (by rw [Int.fdiv_eq_ediv_of_nonneg i (by omega)]; exact q) (.inl (PyProof.noPylong_of_log2 ?_))
 have h3:j.natAbs.log2 < 64:=(Nat.log2_lt (by omega)).mpr (by omega)
 omega
theorem pe (xs:List V) (n:Nat):ib xs none (some (n:Int))=xs.take n:=by
 unfold ib
 have h1:HT.eG xs.length 0 none=0:=rfl
 have h2:HT.eG xs.length xs.length (some (n:Int))=min n xs.length:=HT.nV ..
 rw [h1,h2,List.drop_zero,Nat.sub_zero]
 rcases Nat.le_total n xs.length with h | h
 ·rw [Nat.min_eq_left h]
 ·rw [Nat.min_eq_right h,take_length,List.take_of_length_le h]
section
variable {P:Program} {w:World} {K:Frag} {mg:Str→Option Value} {base:Heap}
def CY:Sp:=fun vs H Q _=>∃ (a:Addr) (ns:List Int) (k:Int),vs=[.ref a,.int k]∧bj K H a (ns.map V.int)∧0 ≤ k∧∀ c:Int,Q (.int c) H
theorem Kp:aJ ["_law_script", "_law_k"] ["_law_script", "_law_k"] (ak IC):=⟨rfl,rfl,rfl,by decide +kernel,rfl,by decide +kernel,by decide +kernel⟩
theorem FU {f:Addr} {fd:cx} (F:dO K "_law_cell_at" "_law_cell_at" IC f fd) (T:Txt K w.params mg):aR P w K mg base bV 1 f fd ["_law_script", "_law_k"] (CY (K:=K)):=by
 refine F.ok Kp (fun vs H Q E h=>?_) (fun cdv A outer s H vs Q E hr h=>?_)
 ·obtain ⟨a,ns,k,rfl,_⟩:=h
  rfl
 ·obtain ⟨a,ns,k,rfl,hS,hk,q⟩:=h
  refine ⟨_,aB (cq (aF iH (pv 1) (aW bf (by rfl) T.len dc (ae (pv 0) ao)) (aP _)) (aA (aV (au aK (pv 0) (pv 1) (fun _ _=>rfl)))) aN)
   (aA (aV ai)),?_⟩
  refine ⟨_,rfl,_,rfl,a,_,rfl,.inl hS,_,_,rfl,rfl,_,rfl,?_⟩
  refine dy (fun h1=>?_) (fun h1=>?_)
  ·have h1:=of_decide_eq_true h1
   rw [length_map] at h1
   obtain ⟨j,rfl⟩:=Int.eq_ofNat_of_zero_le hk
   have hj:j < ns.length:=by omega
   refine ⟨_,rfl,_,rfl,a,_,_,.int ns[j],rfl,rfl,hS,ck (j:=j) ?_,q _⟩
   rw [ab,aa hj]
   rfl
  ·exact q 0
def lj:Sp:=fun vs H Q _=>∃ (c:Int) (n:Nat),vs=[.int c,.int (n:Int)]∧n ≤ 10000∧∀ (l:Addr) (ms:List Int) (H':Hp),Same H H'→H l=none→H' l=some (.lst (ms.map V.int))→ms.length=n→(∀ x ∈ ms,0 ≤ x)→Q (.ref l) H'
theorem mr:aJ ["_law_cell", "_law_many", "_law_found", "_law_number", "_law_k"] ["_law_cell", "_law_many"] (ak za):=⟨rfl,rfl,rfl,by decide +kernel,rfl,by decide +kernel,by decide +kernel⟩
theorem Am {f:Addr} {fd:cx} (F:dO K "_law_stream" "_law_stream" za f fd) (T:Txt K w.params mg):aR P w K mg base bV 1 f fd ["_law_cell", "_law_many"] lj:=by
 refine F.ok mr (fun vs H Q E h=>?_) (fun cdv A outer s H vs Q E hr h=>?_)
 ·obtain ⟨c,n,rfl,_⟩:=h
  rfl
 ·obtain ⟨c,n,rfl,hn,k⟩:=h
  refine dG (aw (aG (aU (i:=2) mr.nd rfl (Or.inl rfl) (cr ao)))
   (aw (aG (aU (i:=3) mr.nd rfl (Or.inl rfl) (aO cv (pv 0) ai)))
   (gB (aG (ow PassesOwn.never (eM (aF bX (aO bq (pv 0) ai) ai (aP _)) (eM (aF qV (pv 3) ai (aP _)) (d6 (aF iH (aW bf (by rfl) T.len dc (ae (pv 2) ao)) (pv 1) (aP _))))).pt (aB (bz (gw fb ff fg bZ (pv 2) (ae (aO bq (pv 3) (aO wc ai ai)) ao)))
   (aA (aU (i:=3) mr.nd rfl (Or.inl rfl) (aO cv (pv 3) (aO wc ai ai)))))))
   (aw (aG (aU (i:=3) mr.nd rfl (Or.inl rfl) (aO bq (aO sh (aO dv (aO cv (pv 0) ai) ai) ai) ai)))
   (aw (aG (iu PassesOwn.never rfl (lI rfl T.range (ae (pv 1) ao)) (cG (i:=4) mr.nd rfl (Or.inl rfl)) (aB (aU (i:=3) mr.nd rfl (Or.inl rfl) (aO bq (aO sh (pv 3) (aO dv (aO dv (aO cv (pv 3) ai) ai) (pv 4))) ai))
   (aB (bz (gw fb ff fg bZ (pv 2) (ae (aO bq (aO sh (pv 3) (aO dv (aO cv (pv 3) ai) ai)) ai) ao)))
   (aA (aU (i:=3) mr.nd rfl (Or.inl rfl) (aO dv (pv 3) ai)))))))
   (aM (aG (aV (fi iR (pv 2) jn (eL (pv 1))))))))))) ?_
  refine ⟨le_of_ble_eq_true rfl,fun l nl=>?_⟩
  have s0:=aj (o:=.lst []) nl
  have h0:upd H l (.lst []) l=some (.lst (([]:List Int).map V.int)):=ah
  generalize upd H l (.lst [])=G0 at s0 h0 ⊢
  refine ⟨_,rfl,_,_,rfl,rfl,⟨by show (0:Int) < 2; decide,by show (2:Int) < _; decide⟩,?_⟩
  have cp:JR 10 9:=⟨by decide,by decide,by decide⟩
  refine ⟨fun σ G=>∃ (x:Int) (ms:List Int),σ=[some (.int c),some (.int (n:Int)),some (.ref l),some (.int x),none]∧Same H G∧G l=some (.lst (ms.map V.int))∧(∀ y ∈ ms,0 ≤ y)∧ms.length ≤ n,?_,?_⟩
  ·refine ⟨fun mm σ G=>∃ (x:Int) (ms:List Int),σ=[some (.int c),some (.int (n:Int)),some (.ref l),some (.int x),none]∧Same H G∧G l=some (.lst (ms.map V.int))∧(∀ y ∈ ms,0 ≤ y)∧ms.length ≤ n∧mm=n - ms.length,⟨_,_,[],rfl,s0,h0,fun y hy=>(not_mem_nil hy).elim,zero_le _,rfl⟩,?_⟩
   rintro mm σ G ⟨x,ms,rfl,s1,h1,hp,hl,rfl⟩
   refine ⟨_,rfl,_,_,rfl,rfl,wZ,rfl,_,rfl,?_⟩
   refine dy (fun _=>?_) (fun _=>aX (by decide) ⟨x,ms,rfl,s1,h1,hp,hl⟩)
   refine ⟨_,rfl,_,_,rfl,rfl,_,rfl,?_⟩
   refine dy (fun _=>?_) (fun _=>aX (by decide) ⟨x,ms,rfl,s1,h1,hp,hl⟩)
   refine ⟨_,rfl,l,_,rfl,.inl (bj.of h1),_,rfl,_,_,rfl,rfl,_,rfl,?_⟩
   refine dy (fun e=>?_) (fun _=>⟨x,ms,rfl,s1,h1,hp,hl⟩)
   have e:=of_decide_eq_true e
   rw [length_map] at e
   have hlt:ms.length < n:=by omega
   refine ⟨fun σ' G'=>∃ (x':Int) (EK:List Int),σ'=[some (.int c),some (.int (n:Int)),some (.ref l),some (.int x'),none]∧Same H G'∧G' l=some (.lst (EK.map V.int))∧(∀ y ∈ EK,0 ≤ y)∧EK.length=ms.length + 1,?_,?_⟩
   ·rintro σ' G' ⟨x',EK,rfl,a1,a2,a3,a4⟩
    exact ⟨n - EK.length,by omega,x',EK,rfl,a1,a2,a3,by omega,rfl⟩
   refine ⟨_,rfl,.inl ⟨rfl,_,bj.of h1⟩,_,rfl,_,_,rfl,rfl,cp,_,_,rfl,rfl,(by show (0:Int) < 10 ^ (9:Int).toNat; decide),l,_,_,rfl,rfl,h1,bQ (by rw [length_map]; omega),?_⟩
   refine ⟨_,rfl,_,_,rfl,rfl,cp,_,_,rfl,rfl,⟨by show (0:Int) < 10 ^ (9:Int).toNat; decide,by show (10:Int) ^ (9:Int).toNat < 18446744073709551616; decide⟩,?_⟩
   refine ⟨_,ms ++ [x % 10 ^ (9:Int).toNat],rfl,cQ s1 nl,by rw [ah,map_append]; rfl,fun y hy=>?_,by rw [length_append]; rfl⟩
   rcases mem_append.mp hy with z | z
   ·exact hp y z
   ·rw [mem_singleton.mp z]
    exact Int.emod_nonneg _ (by decide)
  rintro σ G ⟨x,ms,rfl,s1,h1,hp,hl⟩
  refine ⟨_,rfl,_,_,rfl,rfl,⟨by show (0:Int) < 2; decide,by show (2:Int) < _; decide⟩,_,_,rfl,rfl,_,_,rfl,rfl,.inr ⟨by decide,by decide⟩,_,_,rfl,rfl,jT,?_⟩
  have hx0:0 ≤ (c / 2 + 7919) * 48271 % 2147483647∧(c / 2 + 7919) * 48271 % 2147483647 < 2147483647:=⟨Int.emod_nonneg _ (by decide),Int.emod_lt_of_pos _ (by decide)⟩
  refine ⟨_,rfl,_,rfl,by omega,by omega,?_⟩
  refine qU (lo:=0) (n:=((n:Nat):Int).toNat) (fun i σ G=>∃ (x:Int) (v:Option V) (ms:List Int),σ=[some (.int c),some (.int (n:Int)),some (.ref l),some (.int x),v]∧0 ≤ x∧x ≤ 2147483647∧Same H G∧G l=some (.lst (ms.map V.int))∧(∀ y ∈ ms,0 ≤ y)∧i ≤ ms.length∧ms.length ≤ n + i) ?_ ?_ ?_
  ·exact ⟨_,none,ms,rfl,hx0.1,Int.le_of_lt hx0.2,s1,h1,hp,zero_le _,by omega⟩
  ·rintro i σ G hi ⟨x,v,ms,rfl,b1,b2,s1,h1,hp,g1,g2⟩
   have e0:(0:Int) + (i:Int)=(i:Int):=by omega
   rw [e0]
   have hin:i < n:=by rw [i4] at hi; exact hi
   refine ⟨_,rfl,_,rfl,_,_,rfl,rfl,⟨by show (0:Int) < 1009; decide,by show (1009:Int) < _; decide⟩,_,_,rfl,rfl,_,rfl,_,_,rfl,rfl,_,_,rfl,rfl,.inl ⟨by omega,by omega⟩,_,_,rfl,rfl,jT,?_⟩
   have hy0:0 ≤ x * (x / 1009 + 69621 + (i:Int)) % 2147483647∧x * (x / 1009 + 69621 + (i:Int)) % 2147483647 < 2147483647:=⟨Int.emod_nonneg _ (by decide),Int.emod_lt_of_pos _ (by decide)⟩
   have hy1:x * (x / 1009 + 69621 + (i:Int)) % 2147483647 ≤ 2147483646:=by omega
   refine ⟨_,rfl,.inl ⟨rfl,_,bj.of h1⟩,_,rfl,_,rfl,_,_,rfl,rfl,⟨by show (0:Int) < 127; decide,by show (127:Int) < _; decide⟩,_,_,rfl,rfl,_,_,rfl,rfl,.inl ⟨by show -(2 ^ 64) < (x * (x / 1009 + 69621 + (i:Int)) % 2147483647); omega,by show (x * (x / 1009 + 69621 + (i:Int)) % 2147483647) < 2 ^ 64; omega⟩,_,_,rfl,rfl,qE,l,_,_,rfl,rfl,h1,bQ (by rw [length_map]; omega),?_⟩
   have hz0:0 ≤ (x * (x / 1009 + 69621 + (i:Int)) % 2147483647) * ((x * (x / 1009 + 69621 + (i:Int)) % 2147483647) / 127 + 40009) % 2147483629:=Int.emod_nonneg _ (by decide)
   refine ⟨_,rfl,_,_,rfl,rfl,?_⟩
   refine ⟨(x * (x / 1009 + 69621 + (i:Int)) % 2147483647) + 1,_,ms ++ [(x * (x / 1009 + 69621 + (i:Int)) % 2147483647) * ((x * (x / 1009 + 69621 + (i:Int)) % 2147483647) / 127 + 40009) % 2147483629],rfl,by omega,by omega,cQ s1 nl,by rw [ah,map_append]; rfl,fun y hy=>?_,by rw [length_append,List.length_singleton]; omega,by rw [length_append,List.length_singleton]; omega⟩
   rcases mem_append.mp hy with z | z
   ·exact hp y z
   ·rw [mem_singleton.mp z]
    exact hz0
  ·rintro σ G ⟨x,v,ms,rfl,b1,b2,s1,h1,hp,g1,g2⟩
   rw [i4] at g1
   refine ⟨_,rfl,_,rfl,(n:Int),rfl,l,_,rfl,bj.of h1,fun lc nc=>?_⟩
   have ec:ib (ms.map V.int) none (some (n:Int))=(ms.take n).map V.int:=by rw [pe,map_take]
   rw [ec]
   exact k lc (ms.take n) _ (s1.trans (aj nc)) (s1.free nc) ah (by rw [length_take]; omega) fun y hy=>hp y (List.mem_of_mem_take hy)
end
def xc (u:Str):Prop:=u ∈ jU∧¬ u = "table" ∧ ¬ u ∈ eE∧¬ u ∈ zb
instance {u:Str}:Decidable (xc u):=by unfold xc; infer_instance
def ji (n:Nat) (u:Str):Prop:=xc u∧SD u=n
instance {n:Nat} {u:Str}:Decidable (ji n u):=by unfold ji; infer_instance
theorem sO {H:Hp} {q:Addr} {u:Str} {b c:Int} (hu:ji 2 u) (h:H q=some (.tup [.str u,.int b,.int c])):gC H q ⟨u,[b,c],[]⟩ :=
 ⟨⟨hu.1.1,fun z=>absurd z hu.1.2.1,fun z=>absurd z hu.1.2.2.1,fun z=>absurd z hu.1.2.2.2,fun _ _ _=>⟨rfl,hu.2.symm⟩,fun _=>⟨b,c,rfl⟩,fun _=>⟨b,[c],rfl⟩⟩,.inr ⟨hu.1.2.1,h⟩⟩
theorem sP {H:Hp} {q:Addr} {u:Str} {b:Int} (hu:ji 1 u∧¬ u ∈ w2) (h:H q=some (.tup [.str u,.int b])):gC H q ⟨u,[b],[]⟩ :=
 ⟨⟨hu.1.1.1,fun z=>absurd z hu.1.1.2.1,fun z=>absurd z hu.1.1.2.2.1,fun z=>absurd z hu.1.1.2.2.2,fun _ _ _=>⟨rfl,hu.1.2.symm⟩,fun z=>absurd z hu.2,fun _=>⟨b,[],rfl⟩⟩,.inr ⟨hu.1.1.2.1,h⟩⟩
theorem sQ {H:Hp} {q:Addr} {u:Str} (hu:ji 0 u∧¬ u ∈ w2∧¬ u ∈ w1) (h:H q=some (.tup [.str u])):gC H q ⟨u,[],[]⟩ :=
 ⟨⟨hu.1.1.1,fun z=>absurd z hu.1.1.2.1,fun z=>absurd z hu.1.1.2.2.1,fun z=>absurd z hu.1.1.2.2.2,fun _ _ _=>⟨rfl,hu.1.2.symm⟩,fun z=>absurd z hu.2.1,fun z=>absurd z hu.2.2⟩,.inr ⟨hu.1.1.2.1,h⟩⟩
theorem zc {H:Hp} {q:Addr} {u:Str} {t f:Int} (hu:u ∈ eE) (h:H q=some (.tup [.str u,.int t,.int f])):gC H q ⟨u,[t,f],[t]⟩:=by
 have hw:=(by decide:∀ u ∈ eE,u ∈ jU∧¬ u = "table" ∧ ¬ u ∈ zb∧¬ u ∈ w2∧¬ u ∈ w1) u hu
 exact ⟨⟨hw.1,fun z=>absurd z hw.2.1,fun _=>⟨t,f,rfl,rfl⟩,fun z=>absurd z hw.2.2.1,fun _ z=>absurd hu z,fun z=>absurd z hw.2.2.2.1,fun z=>absurd z hw.2.2.2.2⟩,.inr ⟨hw.2.1,h⟩⟩
theorem Kq {H:Hp} {q:Addr} {u:Str} {b t f:Int} (hu:u ∈ zb) (h:H q=some (.tup [.str u,.int b,.int t,.int f])):gC H q ⟨u,[b,t,f],[t]⟩:=by
 have hw:=(by decide:∀ u ∈ zb,u ∈ jU∧¬ u = "table" ∧ ¬ u ∈ eE∧¬ u ∈ w2) u hu
 exact ⟨⟨hw.1,fun z=>absurd z hw.2.1,fun z=>absurd z hw.2.2.1,fun _=>⟨b,t,f,rfl,rfl⟩,fun _ _ z=>absurd hu z,fun z=>absurd z hw.2.2.2,fun _=>⟨b,_,rfl⟩⟩,.inr ⟨hw.2.1,h⟩⟩
theorem Ao {H:Hp} {q p:Addr} {b:Int} {ts:List Int} (h:H q=some (.tup [.str "table",.int b,.ref p])) (hp:H p=some (.tup (ts.map V.int))) (hne:ts ≠ []):gC H q ⟨"table",[b],ts⟩ :=
 ⟨⟨(by decide:("table" : Str) ∈ jU),fun _=>⟨b,rfl,hne⟩,fun z=>absurd z (by decide:¬ ("table" : Str) ∈ eE),fun z=>absurd z (by decide:¬ ("table" : Str) ∈ zb),fun z=>absurd rfl z,fun z=>absurd z (by decide:¬ ("table" : Str) ∈ w2),fun _=>⟨b,[],rfl⟩⟩,.inl ⟨rfl,b,p,rfl,h,hp⟩⟩
def NC (d:FR):Prop:=d.u ∈ five→NB d=0∨NB d=1
def ph (k:Str):Int × Int:=if k = "box" then (0,7) else if k = "value" then (-1000000000,1000000000) else if k = "target" then (0,1000000000) else if k = "far" then (0,1) else (0,1000000)
def vE (k:Str) (v:Int):Prop:=(ph k).1 ≤ v∧v ≤ (ph k).2
def iY (d:FR):Prop:=∀ x ∈ (gM d.u).zip d.is,vE x.1 x.2
theorem sR {u:Str} {ts:List Int}:iY ⟨u,[],ts⟩:=fun x hx=>by
 have hx:x ∈ (gM u).zip ([]:List Int):=hx
 simp at hx
theorem sS {u k1:Str} {r:List Str} {b:Int} {ts:List Int} (h:gM u=k1 :: r) (hb:vE k1 b):iY ⟨u,[b],ts⟩:=fun x hx=>by
 have hx:x ∈ (gM u).zip [b]:=hx
 rw [h] at hx
 rw [show x=(k1,b) by simpa using hx]
 exact hb
theorem pj {u k1 k2:Str} {b c:Int} {ts:List Int} (h:gM u=[k1,k2]) (hb:vE k1 b) (hc:vE k2 c):iY ⟨u,[b,c],ts⟩:=fun x hx=>by
 have hx:x ∈ (gM u).zip [b,c]:=hx
 rw [h] at hx
 rcases (show x=(k1,b)∨x=(k2,c) by simpa using hx) with rfl | rfl
 ·exact hb
 ·exact hc
theorem Kr {u k1 k2 k3:Str} {b c e:Int} {ts:List Int} (h:gM u=[k1,k2,k3]) (hb:vE k1 b) (hc:vE k2 c) (he:vE k3 e):iY ⟨u,[b,c,e],ts⟩:=fun x hx=>by
 have hx:x ∈ (gM u).zip [b,c,e]:=hx
 rw [h] at hx
 rcases (show x=(k1,b)∨x=(k2,c)∨x=(k3,e) by simpa using hx) with rfl | rfl | rfl
 ·exact hb
 ·exact hc
 ·exact he
def GoodR (d:FR) (n:Int):Prop:=d.ts.length ≤ 16∧(∀ t ∈ d.ts,0 ≤ t∧t < n)∧NC d∧iY d
theorem kj:∀ u ∈ eE,gM u=(["target", "far"]:List Str):=by decide +kernel
theorem kz:∀ u ∈ zb,gM u=(["box", "target", "far"]:List Str):=by decide +kernel
theorem GoodR.plain {u:Str} {is:List Int} {n:Int} (h:¬ u ∈ five) (hp:iY ⟨u,is,[]⟩):GoodR ⟨u,is,[]⟩ n:=⟨zero_le _,fun t ht=>(not_mem_nil ht).elim,fun z=>absurd z h,hp⟩
theorem Ap (ws:List Str) (d:Int) (h0:0 ≤ d) (h1:d < ws.length):∃ u,u ∈ ws∧mV (ws.map V.str) d=some (.str u):=by
 obtain ⟨j,rfl⟩:=Int.eq_ofNat_of_zero_le h0
 have hl:j < ws.length:=by omega
 refine ⟨ws[j],ba hl,ck (j:=j) ?_⟩
 rw [ab,aa hl]
 rfl
theorem vF (ws:List Int) (d:Int) (h0:0 ≤ d) (h1:d < ws.length):∃ u,u ∈ ws∧mV (ws.map V.int) d=some (.int u):=by
 obtain ⟨j,rfl⟩:=Int.eq_ofNat_of_zero_le h0
 have hl:j < ws.length:=by omega
 refine ⟨ws[j],ba hl,ck (j:=j) ?_⟩
 rw [ab,aa hl]
 rfl
theorem jM (x:Int) {n:Int} (h:0 < n):0 ≤ x % n∧x % n < n:=⟨Int.emod_nonneg _ (by omega),Int.emod_lt_of_pos _ h⟩
theorem Ks (a b:V):eO [] [((Sum.inr "tell" : Key),a),(Sum.inr "halt",b)]=([((Sum.inr "tell" : Key),a),(Sum.inr "halt",b)]:List (Key × V)):=rfl
theorem Aq (a b:V):cy [((Sum.inr "tell" : Key),a),(Sum.inr "halt",b)] (Sum.inr "tell")=some a:=rfl
theorem Ar (a b:V):cy [((Sum.inr "tell" : Key),a),(Sum.inr "halt",b)] (Sum.inr "halt")=some b:=rfl
theorem Au (a b:V):cy [((Sum.inr "tell" : Key),a),(Sum.inr "halt",b)] (Sum.inr "stop")=none:=rfl
theorem Av (a b:V):cy [((Sum.inr "tell" : Key),a),(Sum.inr "halt",b)] (Sum.inr "back")=none:=rfl
def w20:List Str:=(["set", "more", "copy", "add", "less", "load", "keep", "tell", "see", "put", "take", "jump", "zero"]:List Str) ++ (["below", "call", "mark", "table", "stop", "back", "halt"]:List Str)
section
variable {P:Program} {w:World} {K:Frag} {mg:Str→Option Value} {base:Heap}
def IH:Sp:=fun vs H Q _=>∃ (x n c:Int),vs=[.int x,.int n,.int c]∧0 < n∧n < 1000000∧0 < c∧c ≤ 16∧∀ (p:Addr) (ts:List Int) (H':Hp),Same H H'→H' p=some (.tup (ts.map V.int))→ts.length ≤ 16∧ts ≠ []→(∀ t ∈ ts,0 ≤ t∧t < n)→Q (.ref p) H'
theorem zf:aJ ["_law_x", "_law_many", "_law_count", "_law_found", "_law_k"] ["_law_x", "_law_many", "_law_count"] (ak IE):=⟨rfl,rfl,rfl,by decide +kernel,rfl,by decide +kernel,by decide +kernel⟩
theorem Kt {f:Addr} {fd:cx} (F:dO K "_law_targets" "_law_targets" IE f fd) (T:Txt K w.params mg):aR P w K mg base bV 1 f fd ["_law_x", "_law_many", "_law_count"] IH:=by
 refine F.ok zf (fun vs H Q E h=>?_) (fun cdv A outer s H vs Q E hr h=>?_)
 ·obtain ⟨x,n,c,rfl,_⟩:=h
  rfl
 ·obtain ⟨x,n,c,rfl,hn,hn2,hc,hc2,k⟩:=h
  refine dG (aw (aG (aU (i:=3) zf.nd rfl (Or.inl rfl) (cr ao)))
   (aw (aG (iu PassesOwn.never rfl (lI rfl T.range (ae (pv 2) ao)) (cG (i:=4) zf.nd rfl (Or.inl rfl)) (aB (bz (gw fb ff fg bZ (pv 3) (ae (aO bq (pv 0) (pv 1)) ao)))
   (aA (aU (i:=0) zf.nd rfl (Or.inl rfl) (aO cv (pv 0) (pv 1)))))))
   (aM (aG (aV (bU qB (by rfl) T.tuple lg (ae (pv 3) ao))))))) ?_
  refine ⟨le_of_ble_eq_true rfl,fun l nl=>?_⟩
  have s0:=aj (o:=.lst []) nl
  have h0:upd H l (.lst []) l=some (.lst (([]:List Int).map V.int)):=ah
  generalize upd H l (.lst [])=G0 at s0 h0 ⊢
  refine ⟨_,rfl,_,rfl,by omega,by omega,?_⟩
  refine qU (lo:=0) (n:=c.toNat) (fun i σ G=>∃ (x:Int) (v:Option V) (ts:List Int),σ=[some (.int x),some (.int n),some (.int c),some (.ref l),v]∧Same H G∧G l=some (.lst (ts.map V.int))∧(∀ t ∈ ts,0 ≤ t∧t < n)∧ts.length=i) ?_ ?_ ?_
  ·exact ⟨x,none,[],rfl,s0,h0,fun t ht=>(not_mem_nil ht).elim,rfl⟩
  ·rintro i σ G hi ⟨x,v,ts,rfl,s1,h1,hp,hl⟩
   refine ⟨_,rfl,.inl ⟨rfl,_,bj.of h1⟩,_,rfl,_,rfl,_,_,rfl,rfl,hn,l,_,_,rfl,rfl,h1,bQ (by rw [length_map]; omega),?_⟩
   refine ⟨_,rfl,_,rfl,_,_,rfl,rfl,⟨hn,by omega⟩,?_⟩
   refine ⟨_,_,ts ++ [x % n],rfl,cQ s1 nl,by rw [ah,map_append]; rfl,fun t ht=>?_,by rw [length_append,hl]; rfl⟩
   rcases mem_append.mp ht with z | z
   ·exact hp t z
   ·rw [mem_singleton.mp z]
    exact jM x hn
  ·rintro σ G ⟨x,v,ts,rfl,s1,h1,hp,hl⟩
   refine ⟨_,rfl,l,_,rfl,.inl ⟨bj.of h1,fun t nt=>?_⟩⟩
   exact k t ts _ (s1.trans (aj nt)) ah ⟨by omega,by rintro rfl; simp at hl; omega⟩ hp
def II:Sp:=fun vs H Q _=>∃ (x n:Int),vs=[.int x,.int n]∧0 < n∧n < 1000000∧∀ (p:Addr) (d:FR) (H':Hp),Same H H'→gC H' p d→GoodR d n→Q (.ref p) H'
theorem rH:aJ ["_law_x", "_law_many", "_law_words", "_law_word", "_law_box", "_law_target"] ["_law_x", "_law_many"] (ak NA):=⟨rfl,rfl,rfl,by decide +kernel,rfl,by decide +kernel,by decide +kernel⟩
theorem Ku {f fT:Addr} {fd CZ:cx} (F:dO K "_law_row" "_law_row" NA f fd) (T:Txt K w.params mg) (GT:aR P w K mg base bV 1 fT CZ ["_law_x", "_law_many", "_law_count"] IH) (kT:KI K fT) (bT:Binds K CZ ["_law_x", "_law_many", "_law_count"] []) (mT:mg "_law_targets" = some (.ref fT)):aR P w K mg base bV 2 f fd ["_law_x", "_law_many"] II:=by
 refine F.ok rH (fun vs H Q E h=>?_) (fun cdv A outer s H vs Q E hr h=>?_)
 ·obtain ⟨x,n,rfl,_⟩:=h
  rfl
 ·obtain ⟨x,n,rfl,hn,hn2,k⟩:=h
  have hu:=hr.u 1
  refine dG (aw (vD (y9 (i:=2) rH.nd rfl (Or.inl rfl) (FT (.cons aq (.cons aq (.cons aq (.cons aq (.cons aq (.cons aq (.cons aq (.cons aq (.cons aq (.cons aq (.cons aq (.cons aq (.cons aq .nil))))))))))))))))
   (aw (aG (aU (i:=3) rH.nd rfl (Or.inl rfl) (au aK (aO sr (pv 2) (FQ (.cons aq (.cons aq (.cons aq (.cons aq (.cons aq (.cons aq (.cons aq .nil))))))))) (aO bq (pv 0) ai) (fun _ _=>rfl))))
   (aw (aG (aU (i:=4) rH.nd rfl (Or.inl rfl) (aO bq (aO cv (pv 0) ai) ai)))
   (aw (aG (aU (i:=0) rH.nd rfl (Or.inl rfl) (aO cv (pv 0) ai)))
   (aw (aG (aU (i:=5) rH.nd rfl (Or.inl rfl) (aO bq (pv 0) (pv 1))))
   (aw (cD (aF dh (pv 3) (bg (ae aq (ae aq ao))) rfl) (aM (aG (aV (bg (ae (pv 3) (ae (pv 4) (ae (aO sh (aO iw (aO bq (pv 0) ai) ai) (au aK (cr (ae ai (ae ai (ae (aO wc ai ai) ao)))) (aO bq (aO cv (pv 0) ai) ai) (fun _ _=>rfl))) ao))))))) (bu aN))
   (aw (cD (aF dh (pv 3) (bg (ae aq (ae aq (ae aq (ae aq (ae aq ao)))))) rfl) (aM (aG (aV (bg (ae (pv 3) (ae (pv 4) (ae (aO bq (pv 0) ai) ao))))))) (bu aN))
   (aw (cD (aF dh (pv 3) (bg (ae aq (ae aq (ae aq ao)))) rfl) (aM (aG (aV (bg (ae (pv 3) (ae (pv 4) (ae (au aK (cr (ae (aO bq (pv 0) ai) (ae (aO bq (pv 0) ai) ao))) (aO bq (aO cv (pv 0) ai) ai) (fun _ _=>rfl)) ao))))))) (bu aN))
   (aw (cD (aF dh (pv 3) (bg (ae aq (ae aq (ae aq ao)))) rfl) (aM (aG (aV (bg (ae (pv 3) (ae (pv 5) (ae (aO bq (aO cv (pv 0) (pv 1)) ai) ao))))))) (bu aN))
   (aw (cD (aF dh (pv 3) (bg (ae aq (ae aq ao))) rfl) (aM (aG (aV (bg (ae (pv 3) (ae (pv 4) (ae (pv 5) (ae (aO bq (aO cv (pv 0) (pv 1)) ai) ao)))))))) (bu aN))
   (aw (cD (aF bX (pv 3) aq (aP _)) (aM (aG (aV (bg (ae (pv 3) (ae (pv 4) (ae (aQ GT hr (by rfl) mT kT bT .nil bp (ae (aO cv (pv 0) ai) (ae (pv 1) (ae (aO dv ai (aO bq (pv 0) ai)) ao)))) ao))))))) (bu aN))
   (aM (aG (aV (jf hu (nY (dr aq (bg (ae (pv 3) (ae (pv 4) ao))) (dr aq (bg (ae (pv 3) (ae (aO bq (pv 0) ai) ao))) nX)) rfl rfl (cons_ne_nil _ _) (le_of_ble_eq_true rfl)) (pv 3) (bg (ae (pv 3) ao)) ⟨rfl,rfl,rfl,rfl⟩))))))))))))))) ?_
  refine ⟨Nq,fun lw nw=>?_⟩
  have s1:=aj (o:=.lst [V.str "set",V.str "more",V.str "copy",V.str "add",V.str "less",V.str "load",V.str "keep",V.str "tell",V.str "see",V.str "put",V.str "take",V.str "jump",V.str "zero"]) nw
  have h1:upd H lw (.lst [V.str "set",V.str "more",V.str "copy",V.str "add",V.str "less",V.str "load",V.str "keep",V.str "tell",V.str "see",V.str "put",V.str "take",V.str "jump",V.str "zero"]) lw=some (.lst ((["set", "more", "copy", "add", "less", "load", "keep", "tell", "see", "put", "take", "jump", "zero"]:List Str).map V.str)):=ah
  generalize upd H lw (.lst [V.str "set",V.str "more",V.str "copy",V.str "add",V.str "less",V.str "load",V.str "keep",V.str "tell",V.str "see",V.str "put",V.str "take",V.str "jump",V.str "zero"])=G1 at s1 h1 ⊢
  refine ⟨_,rfl,Sy,fun l7 n7=>?_⟩
  have s2:=s1.trans (aj (o:=.lst [V.str "below",V.str "call",V.str "mark",V.str "table",V.str "stop",V.str "back",V.str "halt"]) n7)
  have h12:=aj (o:=.lst [V.str "below",V.str "call",V.str "mark",V.str "table",V.str "stop",V.str "back",V.str "halt"]) n7 _ _ h1
  have h2:upd G1 l7 (.lst [V.str "below",V.str "call",V.str "mark",V.str "table",V.str "stop",V.str "back",V.str "halt"]) l7=some (.lst ((["below", "call", "mark", "table", "stop", "back", "halt"]:List Str).map V.str)):=ah
  generalize upd G1 l7 (.lst [V.str "below",V.str "call",V.str "mark",V.str "table",V.str "stop",V.str "back",V.str "halt"])=G2 at s2 h12 h2 ⊢
  refine ⟨lw,l7,_,_,rfl,rfl,h12,h2,Nr,fun lx nx=>?_⟩
  have s3:=s2.trans (aj (o:=.lst ((["set", "more", "copy", "add", "less", "load", "keep", "tell", "see", "put", "take", "jump", "zero"]:List Str).map V.str ++ (["below", "call", "mark", "table", "stop", "back", "halt"]:List Str).map V.str)) nx)
  have h3:upd G2 lx (.lst ((["set", "more", "copy", "add", "less", "load", "keep", "tell", "see", "put", "take", "jump", "zero"]:List Str).map V.str ++ (["below", "call", "mark", "table", "stop", "back", "halt"]:List Str).map V.str)) lx=some (.lst (w20.map V.str)):=by rw [ah]; unfold w20; rw [map_append]
  generalize upd G2 lx (.lst ((["set", "more", "copy", "add", "less", "load", "keep", "tell", "see", "put", "take", "jump", "zero"]:List Str).map V.str ++ (["below", "call", "mark", "table", "stop", "back", "halt"]:List Str).map V.str))=G3 at s3 h3 ⊢
  obtain ⟨u,ND,hat⟩:=Ap w20 (x % 20) (jM x (by decide)).1 (jM x (by decide)).2
  refine ⟨_,rfl,_,_,rfl,rfl,Ny,lx,_,_,_,rfl,rfl,bj.of h3,hat,?_⟩
  have hall:u ∈ jU:=(by decide +kernel:∀ u ∈ w20,u ∈ jU) u ND
  refine ⟨_,rfl,_,_,rfl,rfl,⟨by show (0:Int) < 20; decide,by show (20:Int) < _; decide⟩,_,_,rfl,rfl,FJ,?_⟩
  refine ⟨_,rfl,_,_,rfl,rfl,⟨by show (0:Int) < 160; decide,by show (160:Int) < _; decide⟩,?_⟩
  refine ⟨_,rfl,_,rfl,_,_,rfl,rfl,hn,?_⟩
  have ht:=jM (x / 160) hn
  have hp1:JR 10 8:=⟨by decide,by decide,by decide⟩
  have m8:=jM (x / 20) (show (0:Int) < 8 by decide)
  have m88:=jM (x / 160) (show (0:Int) < 8 by decide)
  have hbx:vE "box" (x / 20 % 8):=⟨m8.1,show x / 20 % 8 ≤ 7 by omega⟩
  refine ⟨_,rfl,cZ,fun t3 BA=>⟨t3,(["set", "more"]:List Str).map V.str,rfl,.inr (aS.of ah),rfl,rfl,_,rfl,?_⟩⟩
  have s4:=s3.trans (aj (o:=.tup [V.str "set",V.str "more"]) BA)
  rw [show inV (.str u) ((["set", "more"]:List Str).map V.str)=decide (u ∈ (["set", "more"]:List Str)) from er _ _]
  generalize upd G3 t3 (.tup [V.str "set",V.str "more"])=G4 at s4 ⊢
  refine dy (fun e3=>?_) (fun e3=>?_)
  ·have hw:=(by decide +kernel:∀ u ∈ (["set", "more"]:List Str),ji 2 u∧¬ u ∈ five) u (of_decide_eq_true e3)
   obtain ⟨v,SG,hv⟩:=vF [1,1,10 ^ (8:Int).toNat] ((x / 160) / 19 % 3) (jM _ (by decide)).1 (jM _ (by decide)).2
   have h19:=jM (x / 160) (show (0:Int) < 19 by decide)
   refine ⟨_,rfl,_,rfl,_,rfl,_,_,rfl,rfl,Nx,_,_,rfl,rfl,_,_,rfl,rfl,hp1,j6,fun l3 n3=>⟨_,rfl,_,_,rfl,rfl,⟨by show (0:Int) < 19; decide,by show (19:Int) < _; decide⟩,_,_,rfl,rfl,Kl,l3,_,_,.int v,rfl,rfl,bj.of (show _=some (.lst (([1,1,10 ^ (8:Int).toNat]:List Int).map V.int)) from ah),hv,_,_,rfl,rfl,.inl ⟨by show -(2 ^ 64) < (x / 160) % 19 - 9; omega,by show (x / 160) % 19 - 9 < 2 ^ 64; omega⟩,j6,fun q nq=>?_⟩⟩
   have SJ:vE "value" ((x / 160 % 19 - 9) * v):=by
    rcases (show v=1∨v=100000000 by simpa using SG) with rfl | rfl
    ·exact ⟨show -1000000000 ≤ _ by omega,show _ ≤ 1000000000 by omega⟩
    ·exact ⟨show -1000000000 ≤ _ by omega,show _ ≤ 1000000000 by omega⟩
   exact k q ⟨u,[_,_],[]⟩ _ ((s4.trans (aj n3)).trans (aj nq)) (sO hw.1 ah) (GoodR.plain hw.2 (pj ((by decide +kernel:∀ u ∈ (["set", "more"]:List Str),gM u=(["box", "value"]:List Str)) u (of_decide_eq_true e3)) hbx SJ))
  refine ⟨_,rfl,Sx,fun t4 nt4=>⟨t4,(["copy", "add", "less", "load", "keep"]:List Str).map V.str,rfl,.inr (aS.of ah),rfl,rfl,_,rfl,?_⟩⟩
  have s5:=s4.trans (aj (o:=.tup [V.str "copy",V.str "add",V.str "less",V.str "load",V.str "keep"]) nt4)
  rw [show inV (.str u) ((["copy", "add", "less", "load", "keep"]:List Str).map V.str)=decide (u ∈ (["copy", "add", "less", "load", "keep"]:List Str)) from er _ _]
  generalize upd G4 t4 (.tup [V.str "copy",V.str "add",V.str "less",V.str "load",V.str "keep"])=G5 at s5 ⊢
  refine dy (fun e4=>?_) (fun e4=>?_)
  ·have hw:=(by decide +kernel:∀ u ∈ (["copy", "add", "less", "load", "keep"]:List Str),ji 2 u∧¬ u ∈ five) u (of_decide_eq_true e4)
   refine ⟨_,rfl,_,rfl,_,rfl,_,_,rfl,rfl,FJ,j6,fun q nq=>?_⟩
   exact k q ⟨u,[_,_],[]⟩ _ (s5.trans (aj nq)) (sO hw.1 ah) (GoodR.plain hw.2 (pj ((by decide +kernel:∀ u ∈ (["copy", "add", "less", "load", "keep"]:List Str),gM u=(["box", "box"]:List Str)) u (of_decide_eq_true e4)) hbx ⟨m88.1,show x / 160 % 8 ≤ 7 by omega⟩))
  refine ⟨_,rfl,j6,fun t5 nt5=>⟨t5,(["see", "put", "take"]:List Str).map V.str,rfl,.inr (aS.of ah),rfl,rfl,_,rfl,?_⟩⟩
  have s6:=s5.trans (aj (o:=.tup [V.str "see",V.str "put",V.str "take"]) nt5)
  rw [show inV (.str u) ((["see", "put", "take"]:List Str).map V.str)=decide (u ∈ (["see", "put", "take"]:List Str)) from er _ _]
  generalize upd G5 t5 (.tup [V.str "see",V.str "put",V.str "take"])=G6 at s6 ⊢
  refine dy (fun e5=>?_) (fun e5=>?_)
  ·have hw:=(by decide +kernel:∀ u ∈ (["see", "put", "take"]:List Str),ji 2 u∧¬ u ∈ five) u (of_decide_eq_true e5)
   obtain ⟨v,SG,hv⟩:=vF [(x / 160) % 4,(x / 160) % 1000001] ((x / 160) / 4 % 2) (jM _ (by decide)).1 (jM _ (by decide)).2
   refine ⟨_,rfl,_,rfl,_,rfl,_,_,rfl,rfl,vB,_,rfl,_,_,rfl,rfl,j7,cZ,fun l3 n3=>⟨_,rfl,_,_,rfl,rfl,⟨by show (0:Int) < 4; decide,by show (4:Int) < _; decide⟩,_,_,rfl,rfl,wZ,l3,_,_,.int v,rfl,rfl,bj.of (show _=some (.lst (([(x / 160) % 4,(x / 160) % 1000001]:List Int).map V.int)) from ah),hv,j6,fun q nq=>?_⟩⟩
   obtain ⟨k2,ek,hk2⟩:=(by decide +kernel:∀ u ∈ (["see", "put", "take"]:List Str),∃ k ∈ (["number", "aside"]:List Str),gM u=(["box",k]:List Str)) u (of_decide_eq_true e5)
   have SJ:vE k2 v:=by
    have hv2:0 ≤ v∧v ≤ 1000000:=by
     have a1:=jM (x / 160) (show (0:Int) < 4 by decide)
     have a2:=jM (x / 160) (show (0:Int) < 1000001 by decide)
     rcases (show v=x / 160 % 4∨v=x / 160 % 1000001 by simpa using SG) with rfl | rfl
     ·omega
     ·omega
    rcases (show k2 = "number" ∨ k2 = "aside" by simpa using ek) with rfl | rfl
    ·exact hv2
    ·exact hv2
   exact k q ⟨u,[_,_],[]⟩ _ ((s6.trans (aj n3)).trans (aj nq)) (sO hw.1 ah) (GoodR.plain hw.2 (pj hk2 hbx SJ))
  have h2:(x / 160) / n % 2=0∨(x / 160) / n % 2=1:=by omega
  refine ⟨_,rfl,j6,fun t6 nt6=>⟨t6,(["jump", "call", "mark"]:List Str).map V.str,rfl,.inr (aS.of ah),rfl,rfl,_,rfl,?_⟩⟩
  have s7:=s6.trans (aj (o:=.tup [V.str "jump",V.str "call",V.str "mark"]) nt6)
  rw [show inV (.str u) ((["jump", "call", "mark"]:List Str).map V.str)=decide (u ∈ (["jump", "call", "mark"]:List Str)) from er _ _]
  generalize upd G6 t6 (.tup [V.str "jump",V.str "call",V.str "mark"])=G7 at s7 ⊢
  refine dy (fun e6=>?_) (fun e6=>?_)
  ·refine ⟨_,rfl,_,rfl,_,rfl,_,rfl,_,_,rfl,rfl,⟨hn,by omega⟩,_,_,rfl,rfl,wZ,j6,fun q nq=>?_⟩
   exact k q ⟨u,[_,_],[_]⟩ _ (s7.trans (aj nq)) (zc (of_decide_eq_true e6) ah) ⟨(by show 1 ≤ 16; decide),(fun t ht'=>by rw [mem_singleton.mp ht']; exact ht),fun _=>h2,pj (kj u (of_decide_eq_true e6)) ⟨ht.1,show _ ≤ 1000000000 by omega⟩ ⟨show 0 ≤ _ by omega,show _ ≤ 1 by omega⟩⟩
  refine ⟨_,rfl,cZ,fun t7 nt7=>⟨t7,(["zero", "below"]:List Str).map V.str,rfl,.inr (aS.of ah),rfl,rfl,_,rfl,?_⟩⟩
  have s8:=s7.trans (aj (o:=.tup [V.str "zero",V.str "below"]) nt7)
  rw [show inV (.str u) ((["zero", "below"]:List Str).map V.str)=decide (u ∈ (["zero", "below"]:List Str)) from er _ _]
  generalize upd G7 t7 (.tup [V.str "zero",V.str "below"])=G8 at s8 ⊢
  refine dy (fun e7=>?_) (fun e7=>?_)
  ·refine ⟨_,rfl,_,rfl,_,rfl,_,rfl,_,rfl,_,_,rfl,rfl,⟨hn,by omega⟩,_,_,rfl,rfl,wZ,CT,fun q nq=>?_⟩
   exact k q ⟨u,[_,_,_],[_]⟩ _ (s8.trans (aj nq)) (Kq (of_decide_eq_true e7) ah) ⟨(by show 1 ≤ 16; decide),(fun t ht'=>by rw [mem_singleton.mp ht']; exact ht),fun _=>h2,Kr (kz u (of_decide_eq_true e7)) hbx ⟨ht.1,show _ ≤ 1000000000 by omega⟩ ⟨show 0 ≤ _ by omega,show _ ≤ 1 by omega⟩⟩
  refine ⟨_,rfl,rfl,_,rfl,?_⟩
  refine dy (fun e8=>?_) (fun e8=>?_)
  ·have e8:=strEq e8
   have h4:=jM (x / 160) (show (0:Int) < 4 by decide)
   refine ⟨_,rfl,_,rfl,_,rfl,_,_,rfl,rfl,⟨by show (0:Int) < 4; decide,by show (4:Int) < _; decide⟩,_,rfl,_,rfl,_,_,rfl,rfl,vB,_,_,rfl,rfl,_,n,_,rfl,hn,hn2,(by show (0:Int) < 1 + (x / 160) % 4; omega),(by show 1 + (x / 160) % 4 ≤ 16; omega),fun p ts G9 s9 hp hl hts=>⟨j6,fun q nq=>?_⟩⟩
   subst e8
   exact k q ⟨"table",[_],ts⟩ _ ((s8.trans s9).trans (aj nq)) (Ao ah (aj nq _ _ hp) hl.2) ⟨hl.1,hts,fun z=>absurd z (by show ¬ ("table" : Str) ∈ five; decide),sS (k1 := "box") (r:=["targets"]) rfl hbx⟩
  ·have e8:=IB e8
   refine fun p0 np0=>?_
   have s9:=s8.trans (aj (o:=.dK []) np0)
   have hp9:upd G8 p0 (.dK []) p0=_:=ah
   generalize upd G8 p0 (.dK [])=G9 at s9 hp9 ⊢
   refine ⟨_,rfl,_,rfl,cZ,fun t1 NF=>?_⟩
   have a1:=s9.trans (aj (o:=.tup [V.str u,V.int (x / 20 % 8)]) NF)
   have b1:=aj (o:=.tup [V.str u,V.int (x / 20 % 8)]) NF _ _ hp9
   have c1:upd G9 t1 (.tup [V.str u,V.int (x / 20 % 8)]) t1=_:=ah
   generalize upd G9 t1 (.tup [V.str u,V.int (x / 20 % 8)])=X1 at a1 b1 c1 ⊢
   refine ⟨_,rfl,_,rfl,_,_,rfl,rfl,j7,cZ,fun t2 ER=>?_⟩
   have a2:=a1.trans (aj (o:=.tup [V.str u,V.int (x / 160 % 1000001)]) ER)
   have b2:=aj (o:=.tup [V.str u,V.int (x / 160 % 1000001)]) ER _ _ b1
   have c12:=aj (o:=.tup [V.str u,V.int (x / 160 % 1000001)]) ER _ _ c1
   have c2:upd X1 t2 (.tup [V.str u,V.int (x / 160 % 1000001)]) t2=_:=ah
   refine ⟨b2,[(Sum.inr "tell",.ref t1),(Sum.inr "halt",.ref t2)],rfl,(by show 2 ≤ 15; decide),?_⟩
   refine ⟨p0,rfl,.inl ⟨_,.inl ah⟩,_,rfl,_,rfl,oY,fun t3 BA=>?_⟩
   rw [Ks] at BA ⊢
   have hp8:G8 p0=none:=np0
   have a3:Same H (upd (upd X1 t2 (.tup [V.str u,V.int (x / 160 % 1000001)])) p0 (.dK [(Sum.inr "tell",.ref t1),(Sum.inr "halt",.ref t2)])):=cQ a2 (s8.free np0)
   refine ⟨_,iS.k (k:=Sum.inr u) (aj BA _ _ ah),?_⟩
   have SK:t1 ≠ p0:=fun z=>by rw [z] at c1; rw [b1] at c1; cases c1
   have Fu:t2 ≠ p0:=fun z=>by rw [z] at ER; rw [b1] at ER; cases ER
   have r1:upd (upd X1 t2 (.tup [V.str u,V.int (x / 160 % 1000001)])) p0 (.dK [(Sum.inr "tell",.ref t1),(Sum.inr "halt",.ref t2)]) t1=some (.tup [V.str u,V.int (x / 20 % 8)]):=by rw [aL SK]; exact c12
   have r2:upd (upd X1 t2 (.tup [V.str u,V.int (x / 160 % 1000001)])) p0 (.dK [(Sum.inr "tell",.ref t1),(Sum.inr "halt",.ref t2)]) t2=some (.tup [V.str u,V.int (x / 160 % 1000001)]):=by rw [aL Fu]; exact c2
   have a4:=a3.trans (aj (o:=.tup [V.str u]) BA)
   have hcase:=(by decide +kernel:∀ u ∈ w20,¬ u ∈ (["set", "more"]:List Str)→¬ u ∈ (["copy", "add", "less", "load", "keep"]:List Str)→¬ u ∈ (["see", "put", "take"]:List Str)→¬ u ∈ (["jump", "call", "mark"]:List Str)→¬ u ∈ (["zero", "below"]:List Str)→¬ u = "table" → u = "tell" ∨ u = "halt" ∨ u = "stop" ∨ u = "back") u ND (fun z=>e3 (decide_eq_true z)) (fun z=>e4 (decide_eq_true z)) (fun z=>e5 (decide_eq_true z)) (fun z=>e6 (decide_eq_true z)) (fun z=>e7 (decide_eq_true z)) e8
   rcases hcase with rfl | rfl | rfl | rfl
   ·rw [Aq]
    exact k t1 ⟨"tell",[_],[]⟩ _ a4 (sP (by decide) (aj BA _ _ r1)) (GoodR.plain (by decide) (sS (k1 := "box") (r:=[]) rfl hbx))
   ·rw [Ar]
    exact k t2 ⟨"halt",[_],[]⟩ _ a4 (sP (by decide) (aj BA _ _ r2)) (GoodR.plain (by decide) (sS (k1 := "number") (r:=[]) rfl ⟨(jM (x / 160) (show (0:Int) < 1000001 by decide)).1,show x / 160 % 1000001 ≤ 1000000 by omega⟩))
   ·rw [Au]
    exact k t3 ⟨"stop",[],[]⟩ _ a4 (sQ (by decide) ah) (GoodR.plain (by decide) sR)
   ·rw [Av]
    exact k t3 ⟨"back",[],[]⟩ _ a4 (sQ (by decide) ah) (GoodR.plain (by decide) sR)
end
section
variable {P:Program} {w:World} {K:Frag} {mg:Str→Option Value} {base:Heap}
def C0:Sp:=fun vs H Q _=>∃ (p:Addr) (x n:Int) (d:FR),vs=[.ref p,.int x]∧gC H p d∧GoodR d n∧0 < n∧∀ (p:Addr) (d:FR) (H':Hp),Same H H'→gC H' p d→GoodR d n→d.u ∈ cY→Q (.ref p) H'
theorem Kv:aJ ["_law_row_here", "_law_x"] ["_law_row_here", "_law_x"] (ak IG):=⟨rfl,rfl,rfl,by decide +kernel,rfl,by decide +kernel,by decide +kernel⟩
theorem FV {f:Addr} {fd:cx} (F:dO K "_law_last" "_law_last" IG f fd) (T:Txt K w.params mg):aR P w K mg base bV 1 f fd ["_law_row_here", "_law_x"] C0:=by
 refine F.ok Kv (fun vs H Q E h=>?_) (fun cdv A outer s H vs Q E hr h=>?_)
 ·obtain ⟨p,x,n,d,rfl,_⟩:=h
  rfl
 ·obtain ⟨p,x,n,d,rfl,hR,hg,hn,k⟩:=h
  obtain ⟨items,i1,_,_,_⟩:=hR.parts
  refine dG (aw (cD (aF dh (au ay (pv 0) ai (fun _ _=>rfl)) (bg (ae aq (ae aq (ae aq (ae aq ao))))) rfl) (aM (aG (aV (pv 0)))) (bu aN))
   (aM (aG (aV (au aK (cr (ae (bg (ae aq ao)) (ae (bg (ae aq ao)) (ae (bg (ae aq (ae (aO bq (pv 1) ai) ao))) (ae (bg (ae aq (ae ai (ae (aO bq (aO cv (pv 1) ai) ai) ao)))) ao))))) (aO bq (aO cv (pv 1) ai) ai) (fun _ _=>rfl)))))) ?_
  refine ⟨_,rfl,p,_,0,_,rfl,rfl,aS.of i1,at0 _ _,CT,fun t nt=>⟨t,(["stop", "back", "halt", "jump"]:List Str).map V.str,rfl,.inr (aS.of ah),rfl,rfl,_,rfl,?_⟩⟩
  have s0:=aj (o:=.tup [V.str "stop",V.str "back",V.str "halt",V.str "jump"]) nt
  rw [show inV (.str d.u) ((["stop", "back", "halt", "jump"]:List Str).map V.str)=decide (d.u ∈ (["stop", "back", "halt", "jump"]:List Str)) from er _ _]
  generalize upd H t (.tup [V.str "stop",V.str "back",V.str "halt",V.str "jump"])=G0 at s0 ⊢
  refine dy (fun e=>?_) (fun e=>?_)
  ·exact ⟨_,rfl,k p d _ s0 (hR.same s0) hg (of_decide_eq_true e)⟩
  ·have h2:x / 9 % 2=0∨x / 9 % 2=1:=by omega
   refine ⟨oY,fun t0 nt0=>?_⟩
   have s1:=s0.trans (aj (o:=.tup [V.str "stop"]) nt0)
   have h01:upd G0 t0 (.tup [V.str "stop"]) t0=_:=ah
   generalize upd G0 t0 (.tup [V.str "stop"])=G1 at s1 h01 ⊢
   refine ⟨oY,fun t1 NF=>?_⟩
   have s2:=s1.trans (aj (o:=.tup [V.str "back"]) NF)
   have h12:upd G1 t1 (.tup [V.str "back"]) t1=_:=ah
   have h02:=aj (o:=.tup [V.str "back"]) NF _ _ h01
   generalize upd G1 t1 (.tup [V.str "back"])=G2 at s2 h02 h12 ⊢
   refine ⟨_,rfl,_,_,rfl,rfl,Nu,cZ,fun t2 ER=>?_⟩
   have s3:=s2.trans (aj (o:=.tup [V.str "halt",V.int (x % 9)]) ER)
   have h23:upd G2 t2 (.tup [V.str "halt",V.int (x % 9)]) t2=_:=ah
   have h03:=aj (o:=.tup [V.str "halt",V.int (x % 9)]) ER _ _ h02
   have h13:=aj (o:=.tup [V.str "halt",V.int (x % 9)]) ER _ _ h12
   generalize upd G2 t2 (.tup [V.str "halt",V.int (x % 9)])=G3 at s3 h03 h13 h23 ⊢
   refine ⟨_,rfl,_,_,rfl,rfl,⟨by show (0:Int) < 9; decide,by show (9:Int) < _; decide⟩,_,_,rfl,rfl,wZ,j6,fun t3 BA=>?_⟩
   have s4:=s3.trans (aj (o:=.tup [V.str "jump",V.int 0,V.int (x / 9 % 2)]) BA)
   have h34:upd G3 t3 (.tup [V.str "jump",V.int 0,V.int (x / 9 % 2)]) t3=_:=ah
   have h04:=aj (o:=.tup [V.str "jump",V.int 0,V.int (x / 9 % 2)]) BA _ _ h03
   have h14:=aj (o:=.tup [V.str "jump",V.int 0,V.int (x / 9 % 2)]) BA _ _ h13
   have h24:=aj (o:=.tup [V.str "jump",V.int 0,V.int (x / 9 % 2)]) BA _ _ h23
   generalize upd G3 t3 (.tup [V.str "jump",V.int 0,V.int (x / 9 % 2)])=G4 at s4 h04 h14 h24 h34 ⊢
   refine ⟨CT,fun l nl=>?_⟩
   have s5:=s4.trans (aj (o:=.lst [.ref t0,.ref t1,.ref t2,.ref t3]) nl)
   have h6:upd G4 l (.lst [.ref t0,.ref t1,.ref t2,.ref t3]) l=_:=ah
   have h05:=aj (o:=.lst [.ref t0,.ref t1,.ref t2,.ref t3]) nl _ _ h04
   have h15:=aj (o:=.lst [.ref t0,.ref t1,.ref t2,.ref t3]) nl _ _ h14
   have h25:=aj (o:=.lst [.ref t0,.ref t1,.ref t2,.ref t3]) nl _ _ h24
   have h35:=aj (o:=.lst [.ref t0,.ref t1,.ref t2,.ref t3]) nl _ _ h34
   generalize upd G4 l (.lst [.ref t0,.ref t1,.ref t2,.ref t3])=G5 at s5 h6 h05 h15 h25 h35 ⊢
   refine ⟨_,rfl,_,_,rfl,rfl,⟨by show (0:Int) < 20; decide,by show (20:Int) < _; decide⟩,_,_,rfl,rfl,vB,?_⟩
   have hc:x / 20 % 4=0∨x / 20 % 4=1∨x / 20 % 4=2∨x / 20 % 4=3:=by omega
   rcases hc with hc | hc | hc | hc
   ·exact ⟨l,_,0,_,rfl,congrArg V.int hc,bj.of h6,rfl,k t0 ⟨"stop",[],[]⟩ _ s5 (sQ (by decide) h05) (GoodR.plain (by decide) sR) (by decide:("stop" : Str) ∈ cY)⟩
   ·exact ⟨l,_,1,_,rfl,congrArg V.int hc,bj.of h6,rfl,k t1 ⟨"back",[],[]⟩ _ s5 (sQ (by decide) h15) (GoodR.plain (by decide) sR) (by decide:("back" : Str) ∈ cY)⟩
   ·exact ⟨l,_,2,_,rfl,congrArg V.int hc,bj.of h6,rfl,k t2 ⟨"halt",[_],[]⟩ _ s5 (sP (by decide) h25) (GoodR.plain (by decide) (sS (k1 := "number") (r:=[]) rfl ⟨show 0 ≤ x % 9 by omega,show x % 9 ≤ 1000000 by omega⟩)) (by decide:("halt" : Str) ∈ cY)⟩
   ·exact ⟨l,_,3,_,rfl,congrArg V.int hc,bj.of h6,rfl,k t3 ⟨"jump",[_,_],[_]⟩ _ s5 (zc (by decide) h35) ⟨(by show 1 ≤ 16; decide),(fun t ht=>by rw [mem_singleton.mp ht]; exact ⟨Int.le_refl _,hn⟩),fun _=>h2,pj (k1 := "target") (k2 := "far") rfl ⟨Int.le_refl _,show (0:Int) ≤ 1000000000 by decide⟩ ⟨show 0 ≤ x / 9 % 2 by omega,show x / 9 % 2 ≤ 1 by omega⟩⟩ (by decide:("jump" : Str) ∈ cY)⟩
end
def Bx (b:Int):Prop:=0 ≤ b∧b < 8
abbrev NG:Stmt:=top 7
theorem dE:∀ (ns:List Str) (vs:List V) (i:Nat) (x:Str),ns.Nodup→ns[i]? = some x→(ns.zip vs).lookup x=vs[i]?
 | [],_,i,x,_,h=>by simp at h
 | n :: ns,[],i,x,_,h=>by simp
 | n :: ns,v :: vs,0,x,_,h=>by
  have e:n=x:=by simpa using h
  subst e
  rw [zip_cons_cons,List.lookup_cons_self]
  rfl
 | n :: ns,v :: vs,i + 1,x,hn,h=>by
  have hn':=nodup_cons.mp hn
  have hm:x ∈ ns:=ad (by simpa using h)
  have ne:¬ x=n:=fun e=>hn'.1 (e ▸ hm)
  rw [zip_cons_cons,List.lookup_cons,show (x == n)=false from beq_eq_false_iff_ne.mpr ne]
  exact dE ns vs i x hn'.2 (by simpa using h)
theorem zg:∀ (ns:List Str) (vs:List V) (x:Str),¬ x ∈ ns→(ns.zip vs).lookup x=none
 | [],_,_,_=>by simp
 | _ :: _,[],_,_=>by simp
 | n :: ns,v :: vs,x,h=>by
  have ne:¬ x=n:=fun e=>h (by simp [e])
  rw [zip_cons_cons,List.lookup_cons,show (x == n)=false from beq_eq_false_iff_ne.mpr ne]
  exact zg ns vs x fun z=>h (by simp [z])
theorem oh (y:V):∀ (ns:List Str) (vs:List V) (i:Nat) (x:Str),ns.Nodup→ns[i]? = some x→i < vs.length→d7 x y (ns.zip vs)=ns.zip (vs.set i y)
 | [],_,i,x,_,h,_=>by simp at h
 | n :: ns,[],i,x,_,h,l=>by simp at l
 | n :: ns,v :: vs,0,x,_,h,_=>by
  have e:n=x:=by simpa using h
  subst e
  show (if n=n then _ else _)=_
  rw [if_pos rfl]
  rfl
 | n :: ns,v :: vs,i + 1,x,hn,h,l=>by
  have hn':=nodup_cons.mp hn
  have hm:x ∈ ns:=ad (by simpa using h)
  have ne:¬ n=x:=fun e=>hn'.1 (e ▸ hm)
  show (if n=x then _ else (n,v) :: d7 x y (ns.zip vs))=_
  rw [if_neg ne,oh y ns vs i x hn'.2 (by simpa using h) (by simpa using l)]
  rfl
theorem ft (y:V) (x:Str):∀ (ns:List Str) (vs:List V),¬ x ∈ ns→ns.length=vs.length→d7 x y (ns.zip vs)=(ns ++ [x]).zip (vs ++ [y])
 | [],[],_,_=>rfl
 | [],_ :: _,_,h=>by simp at h
 | _ :: _,[],_,h=>by simp at h
 | n :: ns,v :: vs,h,l=>by
  have ne:¬ n=x:=fun e=>h (by simp [e])
  show (if n=x then _ else (n,v) :: d7 x y (ns.zip vs))=_
  rw [if_neg ne,ft y x ns vs (fun z=>h (by simp [z])) (by simpa using l)]
  rfl
def names:List Str:=["program", "in_boxes", "in_cells", "in_asides", "rung", "told_numbers", "seen_numbers", "pile", "marks_done", "here", "how_ended"]
theorem du:names.Nodup:=by decide +kernel
structure MA where
 (dx p1 p2 p3 p4 p5 p6 p7 p8:Addr)
def vals (m:MA) (k:Int) (h w:V):List V:=[.ref m.p1,.ref m.p2,.ref m.p3,.ref m.p4,.ref m.p5,.ref m.p6,.ref m.p7,.ref m.p8,.int k,h,w]
abbrev fc (m:MA) (k:Int) (h w:V):List (Str × V):=names.zip (vals m k h w)
section
variable {m:MA} {k:Int} {h w v:V}
theorem Kw:(fc m k h w).lookup ("program" : Str)=some (V.ref m.p1):=dE names _ 0 _ du rfl
theorem dY:(fc m k h w).lookup ("in_boxes" : Str)=some (V.ref m.p2):=dE names _ 1 _ du rfl
theorem C1:(fc m k h w).lookup ("in_cells" : Str)=some (V.ref m.p3):=dE names _ 2 _ du rfl
theorem IJ:(fc m k h w).lookup ("in_asides" : Str)=some (V.ref m.p4):=dE names _ 3 _ du rfl
theorem Kx:(fc m k h w).lookup ("rung" : Str)=some (V.ref m.p5):=dE names _ 4 _ du rfl
theorem Ky:(fc m k h w).lookup ("told_numbers" : Str)=some (V.ref m.p6):=dE names _ 5 _ du rfl
theorem Kz:(fc m k h w).lookup ("seen_numbers" : Str)=some (V.ref m.p7):=dE names _ 6 _ du rfl
theorem xg:(fc m k h w).lookup ("pile" : Str)=some (V.ref m.p8):=dE names _ 7 _ du rfl
theorem FW:(fc m k h w).lookup ("marks_done" : Str)=some (V.int k):=dE names _ 8 _ du rfl
theorem pq:(fc m k h w).lookup ("here" : Str)=some h:=dE names _ 9 _ du rfl
theorem xh {x:Str} (hx:¬ x ∈ names):(fc m k h w).lookup x=none:=zg names _ x hx
theorem jj:d7 "here" v (fc m k h w)=fc m k v w:=(oh v names (vals m k h w) 9 _ du rfl (by show 9 < 11; decide)).trans rfl
theorem NH:d7 "how_ended" v (fc m k h w)=fc m k h v:=(oh v names (vals m k h w) 10 _ du rfl (by show 10 < 11; decide)).trans rfl
theorem FX {j:Int}:d7 "marks_done" (.int j) (fc m k h w)=fc m j h w:=(oh (.int j) names (vals m k h w) 8 _ du rfl (by show 8 < 11; decide)).trans rfl
theorem jV:(fc m k h w).length < 1000:=by
 show 11 < 1000
 decide
end
def Own (m:MA) (x c:Addr):Prop:=c=x∨c=m.p2∨c=m.p3∨c=m.p4∨c=m.p5∨c=m.p6∨c=m.p7∨c=m.p8
def Fr (m:MA) (x:Addr) (H H':Hp):Prop:=∀ c o,¬ Own m x c→H c=some o→H' c=some o
theorem Fr.refl {m:MA} {x:Addr} {H:Hp}:Fr m x H H:=fun _ _ _ e=>e
theorem Fr.trans {m:MA} {x:Addr} {H H1 H2:Hp} (a:Fr m x H H1) (b:Fr m x H1 H2):Fr m x H H2:=fun c o n e=>b c o n (a c o n e)
theorem Fr.same {m:MA} {x:Addr} {H H1:Hp} (e:Same H H1):Fr m x H H1:=fun c o _ h=>e c o h
theorem Fr.upd {m:MA} {x p:Addr} {H:Hp} {o:HO} (h:Own m x p):Fr m x H (upd H p o):=fun c u n e=>by
 have ne:c ≠ p:=fun z=>n (by rw [z]; exact h)
 rw [aL ne]
 exact e
structure Zt where
 here:V
 how:Option (List V)
 bs:List Int
 cf:Int→Int
 af:Int→Int
 told:List Int
 seen:List (Int × Int)
 pile:List Int
 k:Int
def iM (H:Hp) (v:V):Option (List V)→Prop
 | none=>v=.non
 | some xs=>∃ p,v=.ref p∧H p=some (.tup xs)
def gh (H:Hp) (ps:List Addr) (sn:List (Int × Int)):Prop:=ps.length=sn.length∧∀ (i:Nat) p c,ps[i]? = some p→sn[i]? = some c→H p=some (.tup [.int c.1,.int c.2])
def cw (H H':Hp):Prop:=∀ b xs,H b=some (.tup xs)→H' b=some (.tup xs)
theorem cw.of {H H':Hp} (e:Same H H'):cw H H':=fun b xs h=>e b _ h
theorem cw.upd {H:Hp} {p:Addr} {o o':HO} (h:H p=some o) (n:∀ xs,o ≠ .tup xs):cw H (upd H p o'):=fun b xs e=>by
 rw [aL (bJ e h (fun z=>n xs z.symm))]
 exact e
theorem iM.tups {H H':Hp} {v:V} {w:Option (List V)} (e:cw H H') (h:iM H v w):iM H' v w:=by
 cases w with
 | none=>exact h
 | some xs =>
  obtain ⟨p,a,b⟩:=h
  exact ⟨p,a,e _ _ b⟩
theorem gh.tups {H H':Hp} {ps:List Addr} {sn:List (Int × Int)} (e:cw H H') (h:gh H ps sn):gh H' ps sn:=⟨h.1,fun i p c a b=>e _ _ (h.2 i p c a b)⟩
structure Apart (m:MA):Prop where
 (n12:m.p1 ≠ m.p2) (n16:m.p1 ≠ m.p6) (n17:m.p1 ≠ m.p7) (n18:m.p1 ≠ m.p8) (n26:m.p2 ≠ m.p6) (n27:m.p2 ≠ m.p7) (n28:m.p2 ≠ m.p8) (Rf:m.p6 ≠ m.p7) (Rg:m.p6 ≠ m.p8) (Rh:m.p7 ≠ m.p8)
 (n34:m.p3 ≠ m.p4) (n35:m.p3 ≠ m.p5) (n45:m.p4 ≠ m.p5)
structure MG (C:Addr) (H:Hp) (x:Addr) (m:MA) (rows:List V) (aD:List (Key × V)) (B:Nat) (z:Zt):Prop where
 obj:∃ w,H x=some (.ins C m.dx (fc m z.k z.here w))∧iM H w z.how
 prog:H m.p1=some (.lst rows)
 box:H m.p2=some (.lst (z.bs.map V.int))
 b8:z.bs.length=8
 cell:∃ d,H m.p3=some (.dK d)∧Rep d z.cf∧d.length ≤ B
 mw:∃ d,H m.p4=some (.dK d)∧Rep d z.af∧d.length ≤ B
 rg:H m.p5=some (.dK aD)
 told:H m.p6=some (.lst (z.told.map V.int))
 seen:∃ ps,H m.p7=some (.lst (ps.map V.ref))∧gh H ps z.seen
 gK:H m.p8=some (.lst (z.pile.map V.int))
 ap:Apart m
 lens:z.told.length ≤ B∧z.seen.length ≤ B∧z.pile.length ≤ B
 big:B ≤ 900
section
variable {C x:Addr} {H H':Hp} {m:MA} {rows:List V} {aD:List (Key × V)} {B:Nat} {z:Zt}
theorem MG.same (M:MG C H x m rows aD B z) (e:Same H H'):MG C H' x m rows aD B z:=by
 obtain ⟨w,o1,o2⟩:=M.obj
 obtain ⟨d,c1,c2⟩:=M.cell
 obtain ⟨d',a1,a2⟩:=M.mw
 obtain ⟨ps,s1,s2⟩:=M.seen
 exact ⟨⟨w,e _ _ o1,o2.tups (.of e)⟩,e _ _ M.prog,e _ _ M.box,M.b8,⟨d,e _ _ c1,c2⟩,⟨d',e _ _ a1,a2⟩,e _ _ M.rg,e _ _ M.told,⟨ps,e _ _ s1,s2.tups (.of e)⟩,e _ _ M.gK,M.ap,M.lens,M.big⟩
theorem MG.more (M:MG C H x m rows aD B z) {B':Nat} (h:B ≤ B') (hb:B' ≤ 900):MG C H x m rows aD B' z:=by
 obtain ⟨d,c1,c2,c3⟩:=M.cell
 obtain ⟨d',a1,a2,a3⟩:=M.mw
 obtain ⟨l1,l2,l3⟩:=M.lens
 exact ⟨M.obj,M.prog,M.box,M.b8,⟨d,c1,c2,by omega⟩,⟨d',a1,a2,by omega⟩,M.rg,M.told,M.seen,M.gK,M.ap,⟨by omega,by omega,by omega⟩,hb⟩
theorem MG.KA (M:MG C H x m rows aD B z) {q:Addr} {xs:List V} (h:H q=some (.tup xs)):¬ Own m x q:=by
 obtain ⟨w,o1,o2⟩:=M.obj
 obtain ⟨d,c1,c2⟩:=M.cell
 obtain ⟨d',a1,a2⟩:=M.mw
 obtain ⟨ps,s1,s2⟩:=M.seen
 rintro (rfl | rfl | rfl | rfl | rfl | rfl | rfl | rfl)
 ·rw [o1] at h; cases h
 ·rw [M.box] at h; cases h
 ·rw [c1] at h; cases h
 ·rw [a1] at h; cases h
 ·rw [M.rg] at h; cases h
 ·rw [M.told] at h; cases h
 ·rw [s1] at h; cases h
 ·rw [M.gK] at h; cases h
theorem MG.put (M:MG C H x m rows aD B z) {k':Int} {ig w':V} {xj:Option (List V)} (hw:iM H w' xj):MG C (upd H x (.ins C m.dx (fc m k' ig w'))) x m rows aD B { z with k:=k',here:=ig,how:=xj }:=by
 obtain ⟨w,o1,o2⟩:=M.obj
 obtain ⟨d,c1,c2⟩:=M.cell
 obtain ⟨d',a1,a2⟩:=M.mw
 obtain ⟨ps,s1,s2⟩:=M.seen
 have e:∀ {c o},H c=some o→(∀ fs,o ≠ .ins C m.dx fs)→upd H x (.ins C m.dx (fc m k' ig w')) c=some o:=fun {c o} h n=>by
  rw [aL (bJ h o1 (n _))]
  exact h
 have t:cw H (upd H x (.ins C m.dx (fc m k' ig w'))):=.upd o1 (by intro _ z; cases z)
 exact ⟨⟨w',ah,hw.tups t⟩,e M.prog (by intro _ z; cases z),e M.box (by intro _ z; cases z),M.b8,⟨d,e c1 (by intro _ z; cases z),c2⟩,⟨d',e a1 (by intro _ z; cases z),a2⟩,e M.rg (by intro _ z; cases z),e M.told (by intro _ z; cases z),⟨ps,e s1 (by intro _ z; cases z),s2.tups t⟩,e M.gK (by intro _ z; cases z),M.ap,M.lens,M.big⟩
theorem MG.x_ (M:MG C H x m rows aD B z) {p:Addr} {o:HO} (h:H p=some o) (n:∀ fs,o ≠ .ins C m.dx fs):x ≠ p:=by
 obtain ⟨w,o1,_⟩:=M.obj
 exact bJ o1 h (fun z=>n _ z.symm)
theorem MG.lq (M:MG C H x m rows aD B z) {bs':List Int} (h8:bs'.length=8):MG C (upd H m.p2 (.lst (bs'.map V.int))) x m rows aD B { z with bs:=bs' }:=by
 obtain ⟨w,o1,o2⟩:=M.obj
 obtain ⟨d,c1,c2⟩:=M.cell
 obtain ⟨d',a1,a2⟩:=M.mw
 obtain ⟨ps,s1,s2⟩:=M.seen
 have t:cw H (upd H m.p2 (.lst (bs'.map V.int))):=.upd M.box (by intro _ z; cases z)
 have e:∀ {c o},H c=some o→c ≠ m.p2→upd H m.p2 (.lst (bs'.map V.int)) c=some o:=fun {c o} h n=>by rw [aL n]; exact h
 exact ⟨⟨w,e o1 (M.x_ M.box (by intro _ z; cases z)),o2.tups t⟩,e M.prog M.ap.n12,ah,h8,⟨d,e c1 (bJ c1 M.box (by intro z; cases z)),c2⟩,⟨d',e a1 (bJ a1 M.box (by intro z; cases z)),a2⟩,e M.rg (bJ M.rg M.box (by intro z; cases z)),e M.told M.ap.n26.symm,⟨ps,e s1 M.ap.n27.symm,s2.tups t⟩,e M.gK M.ap.n28.symm,M.ap,M.lens,M.big⟩
theorem MG.NI (M:MG C H x m rows aD B z) {t':List Int} (hl:t'.length ≤ B):MG C (upd H m.p6 (.lst (t'.map V.int))) x m rows aD B { z with told:=t' }:=by
 obtain ⟨w,o1,o2⟩:=M.obj
 obtain ⟨d,c1,c2⟩:=M.cell
 obtain ⟨d',a1,a2⟩:=M.mw
 obtain ⟨ps,s1,s2⟩:=M.seen
 have t:cw H (upd H m.p6 (.lst (t'.map V.int))):=.upd M.told (by intro _ z; cases z)
 have e:∀ {c o},H c=some o→c ≠ m.p6→upd H m.p6 (.lst (t'.map V.int)) c=some o:=fun {c o} h n=>by rw [aL n]; exact h
 exact ⟨⟨w,e o1 (M.x_ M.told (by intro _ z; cases z)),o2.tups t⟩,e M.prog M.ap.n16,e M.box M.ap.n26,M.b8,⟨d,e c1 (bJ c1 M.told (by intro z; cases z)),c2⟩,⟨d',e a1 (bJ a1 M.told (by intro z; cases z)),a2⟩,e M.rg (bJ M.rg M.told (by intro z; cases z)),ah,⟨ps,e s1 M.ap.Rf.symm,s2.tups t⟩,e M.gK M.ap.Rg.symm,M.ap,⟨hl,M.lens.2⟩,M.big⟩
theorem MG.pA (M:MG C H x m rows aD B z) {ps:List Addr} {sn:List (Int × Int)} (hs:gh H ps sn) (hl:sn.length ≤ B):MG C (upd H m.p7 (.lst (ps.map V.ref))) x m rows aD B { z with seen:=sn }:=by
 obtain ⟨w,o1,o2⟩:=M.obj
 obtain ⟨d,c1,c2⟩:=M.cell
 obtain ⟨d',a1,a2⟩:=M.mw
 obtain ⟨ps0,s1,s2⟩:=M.seen
 have t:cw H (upd H m.p7 (.lst (ps.map V.ref))):=.upd s1 (by intro _ z; cases z)
 have e:∀ {c o},H c=some o→c ≠ m.p7→upd H m.p7 (.lst (ps.map V.ref)) c=some o:=fun {c o} h n=>by rw [aL n]; exact h
 exact ⟨⟨w,e o1 (M.x_ s1 (by intro _ z; cases z)),o2.tups t⟩,e M.prog M.ap.n17,e M.box M.ap.n27,M.b8,⟨d,e c1 (bJ c1 s1 (by intro z; cases z)),c2⟩,⟨d',e a1 (bJ a1 s1 (by intro z; cases z)),a2⟩,e M.rg (bJ M.rg s1 (by intro z; cases z)),e M.told M.ap.Rf,⟨ps,ah,hs.tups t⟩,e M.gK M.ap.Rh.symm,M.ap,⟨M.lens.1,hl,M.lens.2.2⟩,M.big⟩
theorem MG.rJ (M:MG C H x m rows aD B z) {p':List Int} (hl:p'.length ≤ B):MG C (upd H m.p8 (.lst (p'.map V.int))) x m rows aD B { z with pile:=p' }:=by
 obtain ⟨w,o1,o2⟩:=M.obj
 obtain ⟨d,c1,c2⟩:=M.cell
 obtain ⟨d',a1,a2⟩:=M.mw
 obtain ⟨ps,s1,s2⟩:=M.seen
 have t:cw H (upd H m.p8 (.lst (p'.map V.int))):=.upd M.gK (by intro _ z; cases z)
 have e:∀ {c o},H c=some o→c ≠ m.p8→upd H m.p8 (.lst (p'.map V.int)) c=some o:=fun {c o} h n=>by rw [aL n]; exact h
 exact ⟨⟨w,e o1 (M.x_ M.gK (by intro _ z; cases z)),o2.tups t⟩,e M.prog M.ap.n18,e M.box M.ap.n28,M.b8,⟨d,e c1 (bJ c1 M.gK (by intro z; cases z)),c2⟩,⟨d',e a1 (bJ a1 M.gK (by intro z; cases z)),a2⟩,e M.rg (bJ M.rg M.gK (by intro z; cases z)),e M.told M.ap.Rg,⟨ps,e s1 M.ap.Rh,s2.tups t⟩,ah,M.ap,⟨M.lens.1,M.lens.2.1,hl⟩,M.big⟩
theorem MG.cells (M:MG C H x m rows aD B z) {d0:List (Key × V)} {f:Int→Int} (r:Rep d0 f) (hl:d0.length ≤ B):MG C (upd H m.p3 (.dK d0)) x m rows aD B { z with cf:=f }:=by
 obtain ⟨w,o1,o2⟩:=M.obj
 obtain ⟨d,c1,c2⟩:=M.cell
 obtain ⟨d',a1,a2⟩:=M.mw
 obtain ⟨ps,s1,s2⟩:=M.seen
 have t:cw H (upd H m.p3 (.dK d0)):=.upd c1 (by intro _ z; cases z)
 have e:∀ {c o},H c=some o→c ≠ m.p3→upd H m.p3 (.dK d0) c=some o:=fun {c o} h n=>by rw [aL n]; exact h
 exact ⟨⟨w,e o1 (M.x_ c1 (by intro _ z; cases z)),o2.tups t⟩,e M.prog (bJ M.prog c1 (by intro z; cases z)),e M.box (bJ M.box c1 (by intro z; cases z)),M.b8,⟨d0,ah,r,hl⟩,⟨d',e a1 M.ap.n34.symm,a2⟩,e M.rg M.ap.n35.symm,e M.told (bJ M.told c1 (by intro z; cases z)),⟨ps,e s1 (bJ s1 c1 (by intro z; cases z)),s2.tups t⟩,e M.gK (bJ M.gK c1 (by intro z; cases z)),M.ap,M.lens,M.big⟩
theorem MG.C2 (M:MG C H x m rows aD B z) {d0:List (Key × V)} {f:Int→Int} (r:Rep d0 f) (hl:d0.length ≤ B):MG C (upd H m.p4 (.dK d0)) x m rows aD B { z with af:=f }:=by
 obtain ⟨w,o1,o2⟩:=M.obj
 obtain ⟨d,c1,c2⟩:=M.cell
 obtain ⟨d',a1,a2⟩:=M.mw
 obtain ⟨ps,s1,s2⟩:=M.seen
 have t:cw H (upd H m.p4 (.dK d0)):=.upd a1 (by intro _ z; cases z)
 have e:∀ {c o},H c=some o→c ≠ m.p4→upd H m.p4 (.dK d0) c=some o:=fun {c o} h n=>by rw [aL n]; exact h
 exact ⟨⟨w,e o1 (M.x_ a1 (by intro _ z; cases z)),o2.tups t⟩,e M.prog (bJ M.prog a1 (by intro z; cases z)),e M.box (bJ M.box a1 (by intro z; cases z)),M.b8,⟨d,e c1 M.ap.n34,c2⟩,⟨d0,ah,r,hl⟩,e M.rg M.ap.n45.symm,e M.told (bJ M.told a1 (by intro z; cases z)),⟨ps,e s1 (bJ s1 a1 (by intro z; cases z)),s2.tups t⟩,e M.gK (bJ M.gK a1 (by intro z; cases z)),M.ap,M.lens,M.big⟩
theorem MG.at (M:MG C H x m rows aD B z) {b:Int} (hb:Bx b):mV (z.bs.map V.int) b=some (.int (z.bs.getD b.toNat 0)):=by
 obtain ⟨j,rfl⟩:=Int.eq_ofNat_of_zero_le hb.1
 have hj:j < z.bs.length:=by have:=hb.2; have:=M.b8; omega
 refine ck (j:=j) ?_
 rw [ab,aa hj,i4,List.getD_eq_getElem?_getD,aa hj]
 rfl
theorem MG.ix (M:MG C H x m rows aD B z) {b:Int} (hb:Bx b):yH (z.bs.map V.int).length b=some b.toNat:=by
 obtain ⟨j,rfl⟩:=Int.eq_ofNat_of_zero_le hb.1
 rw [length_map,M.b8]
 have:=hb.2
 unfold yH
 rw [if_pos (by omega),if_pos (by omega)]
end
structure lu (K:Frag) (mg:Str→Option Value) (C:Addr):Prop where
 cl:Cls K C
 nP:dQ K C "program"
 nB:dQ K C "in_boxes"
 nC:dQ K C "in_cells"
 nA:dQ K C "in_asides"
 nR:dQ K C "rung"
 nT:dQ K C "told_numbers"
 nS:dQ K C "seen_numbers"
 nL:dQ K C "pile"
 nM:dQ K C "marks_done"
 nH:dQ K C "here"
 nE:dQ K C "how_ended"
abbrev sU:Stmt:=top 8
abbrev sV:Stmt:=top 9
abbrev sW:Stmt:=top 10
abbrev zh:Stmt:=top 11
abbrev sZ:Stmt:=top 12
abbrev tf:Stmt:=top 13
abbrev zi:Stmt:=top 14
abbrev tj:Stmt:=top 15
abbrev tu:Stmt:=top 16
abbrev tD:Stmt:=top 17
abbrev tE:Stmt:=top 18
abbrev zj:Stmt:=top 19
abbrev zk:Stmt:=top 20
abbrev tF:Stmt:=top 21
abbrev tG:Stmt:=top 22
abbrev tH:Stmt:=top 23
abbrev oi:Stmt:=top 24
abbrev tI:Stmt:=top 25
abbrev tJ:Stmt:=top 26
abbrev om:Stmt:=top 27
section
variable {P:Program} {w:World} {K:Frag} {mg:Str→Option Value} {base:Heap}
abbrev Zt.bx (z:Zt) (b:Int):Int:=z.bs.getD b.toNat 0
def IK (C:Addr):Sp:=fun vs H Q _=>∃ (x q:Addr) (m:MA) (rows:List V) (aD:List (Key × V)) (B:Nat) (z:Zt) (h:Int) (u:Str) (b v:Int),vs=[.ref x,.ref q]∧MG C H x m rows aD B z∧B < 900∧z.here=.int h∧H q=some (.tup [.str u,.int b,.int v])∧Bx b∧∀ H',Fr m x H H'→MG C H' x m rows aD (B + 1) { z with bs:=z.bs.set b.toNat (v) }→Q .non H'
def C3 (C:Addr):Sp:=fun vs H Q _=>∃ (x q:Addr) (m:MA) (rows:List V) (aD:List (Key × V)) (B:Nat) (z:Zt) (h:Int) (u:Str) (b v:Int),vs=[.ref x,.ref q]∧MG C H x m rows aD B z∧B < 900∧z.here=.int h∧H q=some (.tup [.str u,.int b,.int v])∧Bx b∧∀ H',Fr m x H H'→MG C H' x m rows aD (B + 1) { z with bs:=z.bs.set b.toNat (z.bx b + v) }→Q .non H'
def C4 (C:Addr):Sp:=fun vs H Q _=>∃ (x q:Addr) (m:MA) (rows:List V) (aD:List (Key × V)) (B:Nat) (z:Zt) (h:Int) (u:Str) (b v:Int),vs=[.ref x,.ref q]∧MG C H x m rows aD B z∧B < 900∧z.here=.int h∧H q=some (.tup [.str u,.int b,.int v])∧Bx b∧Bx v∧∀ H',Fr m x H H'→MG C H' x m rows aD (B + 1) { z with bs:=z.bs.set b.toNat (z.bx v) }→Q .non H'
def IL (C:Addr):Sp:=fun vs H Q _=>∃ (x q:Addr) (m:MA) (rows:List V) (aD:List (Key × V)) (B:Nat) (z:Zt) (h:Int) (u:Str) (b v:Int),vs=[.ref x,.ref q]∧MG C H x m rows aD B z∧B < 900∧z.here=.int h∧H q=some (.tup [.str u,.int b,.int v])∧Bx b∧Bx v∧∀ H',Fr m x H H'→MG C H' x m rows aD (B + 1) { z with bs:=z.bs.set b.toNat (z.bx b + z.bx v) }→Q .non H'
def C5 (C:Addr):Sp:=fun vs H Q _=>∃ (x q:Addr) (m:MA) (rows:List V) (aD:List (Key × V)) (B:Nat) (z:Zt) (h:Int) (u:Str) (b v:Int),vs=[.ref x,.ref q]∧MG C H x m rows aD B z∧B < 900∧z.here=.int h∧H q=some (.tup [.str u,.int b,.int v])∧Bx b∧Bx v∧∀ H',Fr m x H H'→MG C H' x m rows aD (B + 1) { z with bs:=z.bs.set b.toNat (z.bx b - z.bx v) }→Q .non H'
def C6 (C:Addr):Sp:=fun vs H Q _=>∃ (x q:Addr) (m:MA) (rows:List V) (aD:List (Key × V)) (B:Nat) (z:Zt) (h:Int) (u:Str) (b v:Int),vs=[.ref x,.ref q]∧MG C H x m rows aD B z∧B < 900∧z.here=.int h∧H q=some (.tup [.str u,.int b,.int v])∧Bx b∧Bx v∧∀ H',Fr m x H H'→MG C H' x m rows aD (B + 1) { z with bs:=z.bs.set b.toNat (z.cf (z.bx v)) }→Q .non H'
def C7 (C:Addr):Sp:=fun vs H Q _=>∃ (x q:Addr) (m:MA) (rows:List V) (aD:List (Key × V)) (B:Nat) (z:Zt) (h:Int) (u:Str) (b v:Int),vs=[.ref x,.ref q]∧MG C H x m rows aD B z∧B < 900∧z.here=.int h∧H q=some (.tup [.str u,.int b,.int v])∧Bx b∧∀ H',Fr m x H H'→MG C H' x m rows aD (B + 1) { z with bs:=z.bs.set b.toNat (z.af v) }→Q .non H'
def C8 (C:Addr):Sp:=fun vs H Q _=>∃ (x q:Addr) (m:MA) (rows:List V) (aD:List (Key × V)) (B:Nat) (z:Zt) (h:Int) (u:Str) (b v:Int),vs=[.ref x,.ref q]∧MG C H x m rows aD B z∧B < 900∧z.here=.int h∧H q=some (.tup [.str u,.int b,.int v])∧Bx b∧Bx v∧∀ H',Fr m x H H'→MG C H' x m rows aD (B + 1) { z with cf:=ja z.cf (z.bx b) (z.bx v) }→Q .non H'
def IQ (C:Addr):Sp:=fun vs H Q _=>∃ (x q:Addr) (m:MA) (rows:List V) (aD:List (Key × V)) (B:Nat) (z:Zt) (h:Int) (u:Str) (b v:Int),vs=[.ref x,.ref q]∧MG C H x m rows aD B z∧B < 900∧z.here=.int h∧H q=some (.tup [.str u,.int b,.int v])∧Bx b∧∀ H',Fr m x H H'→MG C H' x m rows aD (B + 1) { z with af:=ja z.af v (z.bx b) }→Q .non H'
def C9 (C:Addr):Sp:=fun vs H Q _=>∃ (x q:Addr) (m:MA) (rows:List V) (aD:List (Key × V)) (B:Nat) (z:Zt) (h:Int) (u:Str) (b:Int),vs=[.ref x,.ref q]∧MG C H x m rows aD B z∧B < 900∧z.here=.int h∧H q=some (.tup [.str u,.int b])∧Bx b∧∀ H',Fr m x H H'→MG C H' x m rows aD (B + 1) { z with told:=z.told ++ [z.bx b] }→Q .non H'
def IU (C:Addr):Sp:=fun vs H Q _=>∃ (x q:Addr) (m:MA) (rows:List V) (aD:List (Key × V)) (B:Nat) (z:Zt) (h:Int) (u:Str) (b v:Int),vs=[.ref x,.ref q]∧MG C H x m rows aD B z∧B < 900∧z.here=.int h∧H q=some (.tup [.str u,.int b,.int v])∧Bx b∧∀ H',Fr m x H H'→MG C H' x m rows aD (B + 1) { z with seen:=z.seen ++ [(v,z.bx b)] }→Q .non H'
def Dc (C:Addr):Sp:=fun vs H Q _=>∃ (x q:Addr) (m:MA) (rows:List V) (aD:List (Key × V)) (B:Nat) (z:Zt) (h:Int) (u:Str) (t f:Int),vs=[.ref x,.ref q]∧MG C H x m rows aD B z∧B < 900∧z.here=.int h∧H q=some (.tup [.str u,.int t,.int f])∧∀ H',Fr m x H H'→MG C H' x m rows aD (B + 1) { z with here:=.int t }→Q .non H'
def Dd (C:Addr):Sp:=fun vs H Q _=>∃ (x q:Addr) (m:MA) (rows:List V) (aD:List (Key × V)) (B:Nat) (z:Zt) (h:Int) (u:Str) (b t f:Int),vs=[.ref x,.ref q]∧MG C H x m rows aD B z∧B < 900∧z.here=.int h∧H q=some (.tup [.str u,.int b,.int t,.int f])∧Bx b∧∀ H',Fr m x H H'→MG C H' x m rows aD (B + 1) { z with here:=.int (if z.bx b=0 then t else h) }→Q .non H'
def zm (C:Addr):Sp:=fun vs H Q _=>∃ (x q:Addr) (m:MA) (rows:List V) (aD:List (Key × V)) (B:Nat) (z:Zt) (h:Int) (u:Str) (b t f:Int),vs=[.ref x,.ref q]∧MG C H x m rows aD B z∧B < 900∧z.here=.int h∧H q=some (.tup [.str u,.int b,.int t,.int f])∧Bx b∧∀ H',Fr m x H H'→MG C H' x m rows aD (B + 1) { z with here:=.int (if z.bx b < 0 then t else h) }→Q .non H'
def zp (C:Addr):Sp:=fun vs H Q _=>∃ (x q:Addr) (m:MA) (rows:List V) (aD:List (Key × V)) (B:Nat) (z:Zt) (h:Int) (u:Str) (b:Int) (p:Addr) (ts:List Int),vs=[.ref x,.ref q]∧MG C H x m rows aD B z∧B < 900∧z.here=.int h∧H q=some (.tup [.str u,.int b,.ref p])∧Bx b∧H p=some (.tup (ts.map V.int))∧∀ H',Fr m x H H'→MG C H' x m rows aD (B + 1) { z with here:=.int (if 0 ≤ z.bx b∧z.bx b < ts.length then ts.getD (z.bx b).toNat 0 else h) }→Q .non H'
def xk (C:Addr):Sp:=fun vs H Q _=>∃ (x q:Addr) (m:MA) (rows:List V) (aD:List (Key × V)) (B:Nat) (z:Zt) (h:Int) (u:Str) (t f:Int),vs=[.ref x,.ref q]∧MG C H x m rows aD B z∧B < 900∧z.here=.int h∧H q=some (.tup [.str u,.int t,.int f])∧∀ H',Fr m x H H'→MG C H' x m rows aD (B + 1) { z with pile:=z.pile ++ [h],here:=.int t }→Q .non H'
def De (C:Addr):Sp:=fun vs H Q _=>∃ (x q:Addr) (m:MA) (rows:List V) (aD:List (Key × V)) (B:Nat) (z:Zt) (h:Int) (u:Str) (items:List V),vs=[.ref x,.ref q]∧MG C H x m rows aD B z∧B < 900∧z.here=.int h∧H q=some (.tup (.str u :: items))∧∀ H',Fr m x H H'→MG C H' x m rows aD (B + 1) { z with here:=.non,how:=some [.str "stop"] }→Q .non H'
def Df (C:Addr):Sp:=fun vs H Q _=>∃ (x q:Addr) (m:MA) (rows:List V) (aD:List (Key × V)) (B:Nat) (z:Zt) (h:Int) (u:Str) (v:Int),vs=[.ref x,.ref q]∧MG C H x m rows aD B z∧B < 900∧z.here=.int h∧H q=some (.tup [.str u,.int v])∧∀ H',Fr m x H H'→MG C H' x m rows aD (B + 1) { z with here:=.non,how:=some [.str "halt",.int v] }→Q .non H'
def Dg (C:Addr):Sp:=fun vs H Q _=>∃ (x q:Addr) (m:MA) (rows:List V) (aD:List (Key × V)) (B:Nat) (z:Zt) (h:Int) (u:Str) (t f:Int) (o:Option V),vs=[.ref x,.ref q]∧MG C H x m rows aD B z∧B < 900∧z.here=.int h∧H q=some (.tup [.str u,.int t,.int f])∧cy aD (Sum.inl z.k)=o∧(o.isSome=true→∀ H',Fr m x H H'→MG C H' x m rows aD (B + 1) { z with k:=z.k + 1,pile:=z.pile ++ [h],here:=.int t }→Q .non H')∧(o.isSome=false→∀ H',Fr m x H H'→MG C H' x m rows aD (B + 1) { z with k:=z.k + 1 }→Q .non H')
def Dh (C:Addr):Sp:=fun vs H Q _=>∃ (x q:Addr) (m:MA) (rows:List V) (aD:List (Key × V)) (B:Nat) (z:Zt) (h:Int) (u:Str) (items:List V),vs=[.ref x,.ref q]∧MG C H x m rows aD B z∧B < 900∧z.here=.int h∧H q=some (.tup (.str u :: items))∧(z.pile=[]→∀ H',Fr m x H H'→MG C H' x m rows aD (B + 1) { z with here:=.non,how:=some [.str "home"] }→Q .non H')∧(∀ (r:List Int) (p:Int),z.pile=r ++ [p]→∀ H',Fr m x H H'→MG C H' x m rows aD (B + 1) { z with pile:=r,here:=.int p }→Q .non H')
def zq (C:Addr):Sp:=fun vs H Q _=>∃ (x p:Addr) (xs:List V) (m:MA) (rows:List V) (aD:List (Key × V)) (B:Nat) (z:Zt),vs=[.ref x,.ref p]∧H p=some (.tup xs)∧MG C H x m rows aD B z∧∀ H',Fr m x H H'→MG C H' x m rows aD B { z with here:=.non,how:=some xs }→Q .non H'
theorem NJ:aJ ["machine", "how"] ["machine", "how"] (ak NG):=⟨rfl,rfl,rfl,by decide +kernel,rfl,by decide +kernel,by decide +kernel⟩
theorem KC {f C:Addr} {fd:cx} (F:dO K "end" "end" NG f fd) (T:lu K mg C):aR P w K mg base bV 1 f fd ["machine", "how"] (zq C):=by
 refine F.ok NJ (fun vs H Q E h=>?_) (fun cdv A outer s H vs Q E hr h=>?_)
 ·obtain ⟨x,p,xs,m,rows,aD,B,z,rfl,_⟩:=h
  rfl
 ·obtain ⟨x,p,xs,m,rows,aD,B,z,rfl,hp,M,k⟩:=h
  obtain ⟨w0,ho,hw⟩:=M.obj
  refine ⟨_,aB (dw (pv 0) eA rfl) (aA (dw (pv 0) (pv 1) rfl)),?_⟩
  refine ⟨_,rfl,x,C,m.dx,_,rfl,ho,T.cl,T.nH,jV,?_⟩
  rw [jj]
  have M2:=M.put (k':=z.k) (ig:=.non) hw
  refine ⟨_,rfl,_,rfl,x,C,m.dx,_,rfl,ah,T.cl,T.nE,jV,?_⟩
  rw [NH]
  have hp2:upd H x (.ins C m.dx (fc m z.k .non w0)) p=some (.tup xs):=by
   rw [aL (bJ hp ho (by intro z; cases z))]
   exact hp
  exact k _ ((Fr.upd (.inl rfl)).trans (Fr.upd (.inl rfl))) (M2.put (k':=z.k) (ig:=.non) (w':=.ref p) (xj:=some xs) ⟨p,rfl,hp2⟩)
theorem KD:aJ ["machine", "row"] ["machine", "row"] (ak zh):=⟨rfl,rfl,rfl,by decide +kernel,rfl,by decide +kernel,by decide +kernel⟩
theorem KG {f C:Addr} {fd:cx} (F:dO K "do_set" "do_set" zh f fd) (T:lu K mg C):aR P w K mg base bV 1 f fd ["machine", "row"] (IK C):=by
 refine F.ok KD (fun vs H Q E h=>?_) (fun cdv A outer s H vs Q E hr h=>?_)
 ·obtain ⟨x,q,m,rows,aD,B,z,h,u,b,v,rfl,_⟩:=h
  rfl
 ·obtain ⟨x,q,m,rows,aD,B,z,h,u,b,v,rfl,M,hB,hh,hq,hb,k⟩:=h
  have hu:=cI hr
  obtain ⟨w0,ho,hw⟩:=M.obj
  have M1:=M.more (le_succ B) (by omega)
  refine ⟨_,aA (dP (au ay (pv 1) ai (fun _ _=>rfl)) (eN (bw (pv 0) rfl) (au ay (pv 1) ai (fun _ _=>rfl)) set_list)),?_⟩
  refine ⟨_,rfl,q,_,_,.int v,rfl,rfl,aS.of hq,at2 _ _ _ _,_,rfl,x,C,m.dx,_,_,rfl,ho,T.cl,T.nB,dY,_,rfl,q,_,_,.int b,rfl,rfl,aS.of hq,at1 _ _ _,m.p2,_,_,_,rfl,rfl,M.box,M.ix hb,?_⟩
  rw [← map_set]
  exact k _ (Fr.upd (.inr (.inl rfl))) (M1.lq (by rw [length_set]; exact M.b8))
theorem FY:aJ ["machine", "row"] ["machine", "row"] (ak sZ):=⟨rfl,rfl,rfl,by decide +kernel,rfl,by decide +kernel,by decide +kernel⟩
theorem FZ {f C:Addr} {fd:cx} (F:dO K "do_more" "do_more" sZ f fd) (T:lu K mg C):aR P w K mg base bV 1 f fd ["machine", "row"] (C3 C):=by
 refine F.ok FY (fun vs H Q E h=>?_) (fun cdv A outer s H vs Q E hr h=>?_)
 ·obtain ⟨x,q,m,rows,aD,B,z,h,u,b,v,rfl,_⟩:=h
  rfl
 ·obtain ⟨x,q,m,rows,aD,B,z,h,u,b,v,rfl,M,hB,hh,hq,hb,k⟩:=h
  have hu:=cI hr
  obtain ⟨w0,ho,hw⟩:=M.obj
  have M1:=M.more (le_succ B) (by omega)
  refine ⟨_,aA (dP (aO dv (au aK (bw (pv 0) rfl) (au ay (pv 1) ai (fun _ _=>rfl)) (fun _ _=>rfl)) (au ay (pv 1) ai (fun _ _=>rfl))) (eN (bw (pv 0) rfl) (au ay (pv 1) ai (fun _ _=>rfl)) set_list)),?_⟩
  refine ⟨_,rfl,x,C,m.dx,_,_,rfl,ho,T.cl,T.nB,dY,_,rfl,q,_,_,.int b,rfl,rfl,aS.of hq,at1 _ _ _,m.p2,_,_,_,rfl,rfl,bj.of M.box,M.at hb,_,rfl,q,_,_,.int v,rfl,rfl,aS.of hq,at2 _ _ _ _,_,_,rfl,rfl,_,rfl,x,C,m.dx,_,_,rfl,ho,T.cl,T.nB,dY,_,rfl,q,_,_,.int b,rfl,rfl,aS.of hq,at1 _ _ _,m.p2,_,_,_,rfl,rfl,M.box,M.ix hb,?_⟩
  rw [← map_set]
  exact k _ (Fr.upd (.inr (.inl rfl))) (M1.lq (by rw [length_set]; exact M.b8))
theorem Ga:aJ ["machine", "row"] ["machine", "row"] (ak tf):=⟨rfl,rfl,rfl,by decide +kernel,rfl,by decide +kernel,by decide +kernel⟩
theorem Gb {f C:Addr} {fd:cx} (F:dO K "do_copy" "do_copy" tf f fd) (T:lu K mg C):aR P w K mg base bV 1 f fd ["machine", "row"] (C4 C):=by
 refine F.ok Ga (fun vs H Q E h=>?_) (fun cdv A outer s H vs Q E hr h=>?_)
 ·obtain ⟨x,q,m,rows,aD,B,z,h,u,b,v,rfl,_⟩:=h
  rfl
 ·obtain ⟨x,q,m,rows,aD,B,z,h,u,b,v,rfl,M,hB,hh,hq,hb,hv,k⟩:=h
  have hu:=cI hr
  obtain ⟨w0,ho,hw⟩:=M.obj
  have M1:=M.more (le_succ B) (by omega)
  refine ⟨_,aA (dP (au aK (bw (pv 0) rfl) (au ay (pv 1) ai (fun _ _=>rfl)) (fun _ _=>rfl)) (eN (bw (pv 0) rfl) (au ay (pv 1) ai (fun _ _=>rfl)) set_list)),?_⟩
  refine ⟨_,rfl,x,C,m.dx,_,_,rfl,ho,T.cl,T.nB,dY,_,rfl,q,_,_,.int v,rfl,rfl,aS.of hq,at2 _ _ _ _,m.p2,_,_,_,rfl,rfl,bj.of M.box,M.at hv,_,rfl,x,C,m.dx,_,_,rfl,ho,T.cl,T.nB,dY,_,rfl,q,_,_,.int b,rfl,rfl,aS.of hq,at1 _ _ _,m.p2,_,_,_,rfl,rfl,M.box,M.ix hb,?_⟩
  rw [← map_set]
  exact k _ (Fr.upd (.inr (.inl rfl))) (M1.lq (by rw [length_set]; exact M.b8))
theorem KH:aJ ["machine", "row"] ["machine", "row"] (ak zi):=⟨rfl,rfl,rfl,by decide +kernel,rfl,by decide +kernel,by decide +kernel⟩
theorem KJ {f C:Addr} {fd:cx} (F:dO K "do_add" "do_add" zi f fd) (T:lu K mg C):aR P w K mg base bV 1 f fd ["machine", "row"] (IL C):=by
 refine F.ok KH (fun vs H Q E h=>?_) (fun cdv A outer s H vs Q E hr h=>?_)
 ·obtain ⟨x,q,m,rows,aD,B,z,h,u,b,v,rfl,_⟩:=h
  rfl
 ·obtain ⟨x,q,m,rows,aD,B,z,h,u,b,v,rfl,M,hB,hh,hq,hb,hv,k⟩:=h
  have hu:=cI hr
  obtain ⟨w0,ho,hw⟩:=M.obj
  have M1:=M.more (le_succ B) (by omega)
  refine ⟨_,aA (dP (aO dv (au aK (bw (pv 0) rfl) (au ay (pv 1) ai (fun _ _=>rfl)) (fun _ _=>rfl)) (au aK (bw (pv 0) rfl) (au ay (pv 1) ai (fun _ _=>rfl)) (fun _ _=>rfl))) (eN (bw (pv 0) rfl) (au ay (pv 1) ai (fun _ _=>rfl)) set_list)),?_⟩
  refine ⟨_,rfl,x,C,m.dx,_,_,rfl,ho,T.cl,T.nB,dY,_,rfl,q,_,_,.int b,rfl,rfl,aS.of hq,at1 _ _ _,m.p2,_,_,_,rfl,rfl,bj.of M.box,M.at hb,_,rfl,x,C,m.dx,_,_,rfl,ho,T.cl,T.nB,dY,_,rfl,q,_,_,.int v,rfl,rfl,aS.of hq,at2 _ _ _ _,m.p2,_,_,_,rfl,rfl,bj.of M.box,M.at hv,_,_,rfl,rfl,_,rfl,x,C,m.dx,_,_,rfl,ho,T.cl,T.nB,dY,_,rfl,q,_,_,.int b,rfl,rfl,aS.of hq,at1 _ _ _,m.p2,_,_,_,rfl,rfl,M.box,M.ix hb,?_⟩
  rw [← map_set]
  exact k _ (Fr.upd (.inr (.inl rfl))) (M1.lq (by rw [length_set]; exact M.b8))
theorem Gc:aJ ["machine", "row"] ["machine", "row"] (ak tj):=⟨rfl,rfl,rfl,by decide +kernel,rfl,by decide +kernel,by decide +kernel⟩
theorem Gd {f C:Addr} {fd:cx} (F:dO K "do_less" "do_less" tj f fd) (T:lu K mg C):aR P w K mg base bV 1 f fd ["machine", "row"] (C5 C):=by
 refine F.ok Gc (fun vs H Q E h=>?_) (fun cdv A outer s H vs Q E hr h=>?_)
 ·obtain ⟨x,q,m,rows,aD,B,z,h,u,b,v,rfl,_⟩:=h
  rfl
 ·obtain ⟨x,q,m,rows,aD,B,z,h,u,b,v,rfl,M,hB,hh,hq,hb,hv,k⟩:=h
  have hu:=cI hr
  obtain ⟨w0,ho,hw⟩:=M.obj
  have M1:=M.more (le_succ B) (by omega)
  refine ⟨_,aA (dP (aO iw (au aK (bw (pv 0) rfl) (au ay (pv 1) ai (fun _ _=>rfl)) (fun _ _=>rfl)) (au aK (bw (pv 0) rfl) (au ay (pv 1) ai (fun _ _=>rfl)) (fun _ _=>rfl))) (eN (bw (pv 0) rfl) (au ay (pv 1) ai (fun _ _=>rfl)) set_list)),?_⟩
  refine ⟨_,rfl,x,C,m.dx,_,_,rfl,ho,T.cl,T.nB,dY,_,rfl,q,_,_,.int b,rfl,rfl,aS.of hq,at1 _ _ _,m.p2,_,_,_,rfl,rfl,bj.of M.box,M.at hb,_,rfl,x,C,m.dx,_,_,rfl,ho,T.cl,T.nB,dY,_,rfl,q,_,_,.int v,rfl,rfl,aS.of hq,at2 _ _ _ _,m.p2,_,_,_,rfl,rfl,bj.of M.box,M.at hv,_,_,rfl,rfl,_,rfl,x,C,m.dx,_,_,rfl,ho,T.cl,T.nB,dY,_,rfl,q,_,_,.int b,rfl,rfl,aS.of hq,at1 _ _ _,m.p2,_,_,_,rfl,rfl,M.box,M.ix hb,?_⟩
  rw [← map_set]
  exact k _ (Fr.upd (.inr (.inl rfl))) (M1.lq (by rw [length_set]; exact M.b8))
theorem Ge:aJ ["machine", "row"] ["machine", "row"] (ak tu):=⟨rfl,rfl,rfl,by decide +kernel,rfl,by decide +kernel,by decide +kernel⟩
theorem Gf {f C:Addr} {fd:cx} (F:dO K "do_load" "do_load" tu f fd) (T:lu K mg C):aR P w K mg base bV 1 f fd ["machine", "row"] (C6 C):=by
 refine F.ok Ge (fun vs H Q E h=>?_) (fun cdv A outer s H vs Q E hr h=>?_)
 ·obtain ⟨x,q,m,rows,aD,B,z,h,u,b,v,rfl,_⟩:=h
  rfl
 ·obtain ⟨x,q,m,rows,aD,B,z,h,u,b,v,rfl,M,hB,hh,hq,hb,hv,k⟩:=h
  have hu:=cI hr
  obtain ⟨w0,ho,hw⟩:=M.obj
  have M1:=M.more (le_succ B) (by omega)
  refine ⟨_,aA (dP (jf hu (bw (pv 0) rfl) (au aK (bw (pv 0) rfl) (au ay (pv 1) ai (fun _ _=>rfl)) (fun _ _=>rfl)) ai ⟨rfl,rfl,rfl,rfl⟩) (eN (bw (pv 0) rfl) (au ay (pv 1) ai (fun _ _=>rfl)) set_list)),?_⟩
  obtain ⟨d,c1,c2,c3⟩:=M.cell
  refine ⟨_,rfl,x,C,m.dx,_,_,rfl,ho,T.cl,T.nC,C1,m.p3,rfl,.inl ⟨_,.of c1⟩,_,rfl,x,C,m.dx,_,_,rfl,ho,T.cl,T.nB,dY,_,rfl,q,_,_,.int v,rfl,rfl,aS.of hq,at2 _ _ _ _,m.p2,_,_,_,rfl,rfl,bj.of M.box,M.at hv,_,iS.k (k:=Sum.inl (z.bx v)) c1,?_⟩
  rw [c2.val]
  refine ⟨_,rfl,x,C,m.dx,_,_,rfl,ho,T.cl,T.nB,dY,_,rfl,q,_,_,.int b,rfl,rfl,aS.of hq,at1 _ _ _,m.p2,_,_,_,rfl,rfl,M.box,M.ix hb,?_⟩
  rw [← map_set]
  exact k _ (Fr.upd (.inr (.inl rfl))) (M1.lq (by rw [length_set]; exact M.b8))
theorem Gg:aJ ["machine", "row"] ["machine", "row"] (ak tF):=⟨rfl,rfl,rfl,by decide +kernel,rfl,by decide +kernel,by decide +kernel⟩
theorem Gh {f C:Addr} {fd:cx} (F:dO K "do_take" "do_take" tF f fd) (T:lu K mg C):aR P w K mg base bV 1 f fd ["machine", "row"] (C7 C):=by
 refine F.ok Gg (fun vs H Q E h=>?_) (fun cdv A outer s H vs Q E hr h=>?_)
 ·obtain ⟨x,q,m,rows,aD,B,z,h,u,b,v,rfl,_⟩:=h
  rfl
 ·obtain ⟨x,q,m,rows,aD,B,z,h,u,b,v,rfl,M,hB,hh,hq,hb,k⟩:=h
  have hu:=cI hr
  obtain ⟨w0,ho,hw⟩:=M.obj
  have M1:=M.more (le_succ B) (by omega)
  refine ⟨_,aA (dP (jf hu (bw (pv 0) rfl) (au ay (pv 1) ai (fun _ _=>rfl)) ai ⟨rfl,rfl,rfl,rfl⟩) (eN (bw (pv 0) rfl) (au ay (pv 1) ai (fun _ _=>rfl)) set_list)),?_⟩
  obtain ⟨d,c1,c2,c3⟩:=M.mw
  refine ⟨_,rfl,x,C,m.dx,_,_,rfl,ho,T.cl,T.nA,IJ,m.p4,rfl,.inl ⟨_,.of c1⟩,_,rfl,q,_,_,.int v,rfl,rfl,aS.of hq,at2 _ _ _ _,_,iS.k (k:=Sum.inl (v)) c1,?_⟩
  rw [c2.val]
  refine ⟨_,rfl,x,C,m.dx,_,_,rfl,ho,T.cl,T.nB,dY,_,rfl,q,_,_,.int b,rfl,rfl,aS.of hq,at1 _ _ _,m.p2,_,_,_,rfl,rfl,M.box,M.ix hb,?_⟩
  rw [← map_set]
  exact k _ (Fr.upd (.inr (.inl rfl))) (M1.lq (by rw [length_set]; exact M.b8))
theorem Gi:aJ ["machine", "row"] ["machine", "row"] (ak tD):=⟨rfl,rfl,rfl,by decide +kernel,rfl,by decide +kernel,by decide +kernel⟩
theorem Gj {f C:Addr} {fd:cx} (F:dO K "do_keep" "do_keep" tD f fd) (T:lu K mg C):aR P w K mg base bV 1 f fd ["machine", "row"] (C8 C):=by
 refine F.ok Gi (fun vs H Q E h=>?_) (fun cdv A outer s H vs Q E hr h=>?_)
 ·obtain ⟨x,q,m,rows,aD,B,z,h,u,b,v,rfl,_⟩:=h
  rfl
 ·obtain ⟨x,q,m,rows,aD,B,z,h,u,b,v,rfl,M,hB,hh,hq,hb,hv,k⟩:=h
  have hu:=cI hr
  obtain ⟨w0,ho,hw⟩:=M.obj
  have M1:=M.more (le_succ B) (by omega)
  refine ⟨_,aA (dq hu (bw (pv 0) rfl) (au aK (bw (pv 0) rfl) (au ay (pv 1) ai (fun _ _=>rfl)) (fun _ _=>rfl)) (au aK (bw (pv 0) rfl) (au ay (pv 1) ai (fun _ _=>rfl)) (fun _ _=>rfl)) rfl),?_⟩
  obtain ⟨d,c1,c2,c3⟩:=M.cell
  have hb9:=M.big
  refine ⟨_,rfl,x,C,m.dx,_,_,rfl,ho,T.cl,T.nB,dY,_,rfl,q,_,_,.int v,rfl,rfl,aS.of hq,at2 _ _ _ _,m.p2,_,_,_,rfl,rfl,bj.of M.box,M.at hv,_,rfl,x,C,m.dx,_,_,rfl,ho,T.cl,T.nC,C1,_,rfl,x,C,m.dx,_,_,rfl,ho,T.cl,T.nB,dY,_,rfl,q,_,_,.int b,rfl,rfl,aS.of hq,at1 _ _ _,m.p2,_,_,_,rfl,rfl,bj.of M.box,M.at hb,m.p3,_,rfl,iy.k (k:=Sum.inl (z.bx b)) c1 (cM (by omega)),?_⟩
  exact k _ (Fr.upd (.inr (.inr (.inl rfl)))) (M1.cells (c2.put _ _) (le_trans (dn d _ _) (by omega)))
theorem KL:aJ ["machine", "row"] ["machine", "row"] (ak zk):=⟨rfl,rfl,rfl,by decide +kernel,rfl,by decide +kernel,by decide +kernel⟩
theorem KN {f C:Addr} {fd:cx} (F:dO K "do_put" "do_put" zk f fd) (T:lu K mg C):aR P w K mg base bV 1 f fd ["machine", "row"] (IQ C):=by
 refine F.ok KL (fun vs H Q E h=>?_) (fun cdv A outer s H vs Q E hr h=>?_)
 ·obtain ⟨x,q,m,rows,aD,B,z,h,u,b,v,rfl,_⟩:=h
  rfl
 ·obtain ⟨x,q,m,rows,aD,B,z,h,u,b,v,rfl,M,hB,hh,hq,hb,k⟩:=h
  have hu:=cI hr
  obtain ⟨w0,ho,hw⟩:=M.obj
  have M1:=M.more (le_succ B) (by omega)
  refine ⟨_,aA (dq hu (bw (pv 0) rfl) (au ay (pv 1) ai (fun _ _=>rfl)) (au aK (bw (pv 0) rfl) (au ay (pv 1) ai (fun _ _=>rfl)) (fun _ _=>rfl)) rfl),?_⟩
  obtain ⟨d,c1,c2,c3⟩:=M.mw
  have hb9:=M.big
  refine ⟨_,rfl,x,C,m.dx,_,_,rfl,ho,T.cl,T.nB,dY,_,rfl,q,_,_,.int b,rfl,rfl,aS.of hq,at1 _ _ _,m.p2,_,_,_,rfl,rfl,bj.of M.box,M.at hb,_,rfl,x,C,m.dx,_,_,rfl,ho,T.cl,T.nA,IJ,_,rfl,q,_,_,.int v,rfl,rfl,aS.of hq,at2 _ _ _ _,m.p4,_,rfl,iy.k (k:=Sum.inl v) c1 (cM (by omega)),?_⟩
  exact k _ (Fr.upd (.inr (.inr (.inr (.inl rfl))))) (M1.C2 (c2.put _ _) (le_trans (dn d _ _) (by omega)))
theorem Gk:aJ ["machine", "row"] ["machine", "row"] (ak tE):=⟨rfl,rfl,rfl,by decide +kernel,rfl,by decide +kernel,by decide +kernel⟩
theorem Gm {f C:Addr} {fd:cx} (F:dO K "do_tell" "do_tell" tE f fd) (T:lu K mg C):aR P w K mg base bV 1 f fd ["machine", "row"] (C9 C):=by
 refine F.ok Gk (fun vs H Q E h=>?_) (fun cdv A outer s H vs Q E hr h=>?_)
 ·obtain ⟨x,q,m,rows,aD,B,z,h,u,b,rfl,_⟩:=h
  rfl
 ·obtain ⟨x,q,m,rows,aD,B,z,h,u,b,rfl,M,hB,hh,hq,hb,k⟩:=h
  have hu:=cI hr
  obtain ⟨w0,ho,hw⟩:=M.obj
  have M1:=M.more (le_succ B) (by omega)
  refine ⟨_,aA (bz (gw fb ff fg bZ (bw (pv 0) rfl) (ae (au aK (bw (pv 0) rfl) (au ay (pv 1) ai (fun _ _=>rfl)) (fun _ _=>rfl)) ao))),?_⟩
  have hb9:=M.big
  have hl:=M.lens
  refine ⟨_,rfl,x,C,m.dx,_,_,rfl,ho,T.cl,T.nT,Ky,.inl ⟨rfl,_,bj.of M.told⟩,_,rfl,x,C,m.dx,_,_,rfl,ho,T.cl,T.nB,dY,_,rfl,q,_,_,.int b,rfl,rfl,aS.of hq,at1 _ _ _,m.p2,_,_,_,rfl,rfl,bj.of M.box,M.at hb,m.p6,_,_,rfl,rfl,M.told,(by rw [length_map]; exact cM (by omega)),?_⟩
  rw [show z.told.map V.int ++ [V.int (z.bx b)]=(z.told ++ [z.bx b]).map V.int by simp]
  exact k _ (Fr.upd (.inr (.inr (.inr (.inr (.inr (.inl rfl))))))) (M1.NI (by rw [length_append]; show z.told.length + 1 ≤ B + 1; omega))
theorem KO:aJ ["machine", "row"] ["machine", "row"] (ak zj):=⟨rfl,rfl,rfl,by decide +kernel,rfl,by decide +kernel,by decide +kernel⟩
theorem KP {f C:Addr} {fd:cx} (F:dO K "do_see" "do_see" zj f fd) (T:lu K mg C):aR P w K mg base bV 1 f fd ["machine", "row"] (IU C):=by
 refine F.ok KO (fun vs H Q E h=>?_) (fun cdv A outer s H vs Q E hr h=>?_)
 ·obtain ⟨x,q,m,rows,aD,B,z,h,u,b,v,rfl,_⟩:=h
  rfl
 ·obtain ⟨x,q,m,rows,aD,B,z,h,u,b,v,rfl,M,hB,hh,hq,hb,k⟩:=h
  have hu:=cI hr
  obtain ⟨w0,ho,hw⟩:=M.obj
  have M1:=M.more (le_succ B) (by omega)
  refine ⟨_,aA (bz (gw fb ff fg bZ (bw (pv 0) rfl) (ae (bg (ae (au ay (pv 1) ai (fun _ _=>rfl)) (ae (au aK (bw (pv 0) rfl) (au ay (pv 1) ai (fun _ _=>rfl)) (fun _ _=>rfl)) ao))) ao))),?_⟩
  have hb9:=M.big
  have hl:=M.lens
  obtain ⟨ps,s1,s2⟩:=M.seen
  have hpl:=s2.1
  refine ⟨_,rfl,x,C,m.dx,_,_,rfl,ho,T.cl,T.nS,Kz,.inl ⟨rfl,_,bj.of s1⟩,_,rfl,q,_,_,.int v,rfl,rfl,aS.of hq,at2 _ _ _ _,_,rfl,x,C,m.dx,_,_,rfl,ho,T.cl,T.nB,dY,_,rfl,q,_,_,.int b,rfl,rfl,aS.of hq,at1 _ _ _,m.p2,_,_,_,rfl,rfl,bj.of M.box,M.at hb,cZ,fun t nt=>?_⟩
  have e1:=aj (o:=.tup [.int v,.int (z.bx b)]) nt
  refine ⟨m.p7,_,_,rfl,rfl,e1 _ _ s1,(by rw [length_map]; exact cM (by omega)),?_⟩
  rw [show ps.map V.ref ++ [V.ref t]=(ps ++ [t]).map V.ref by simp]
  refine k _ ((Fr.same e1).trans (Fr.upd (.inr (.inr (.inr (.inr (.inr (.inr (.inl rfl))))))))) ((M1.same e1).pA ⟨by rw [length_append,length_append,hpl]; rfl,fun i p c hp hc=>?_⟩ (by rw [length_append]; show z.seen.length + 1 ≤ B + 1; omega))
  rcases lt_or_ge i ps.length with hi | hi
  ·rw [am hi] at hp
   rw [am (by omega)] at hc
   exact e1 _ _ (s2.2 i p c hp hc)
  ·rw [ar hi] at hp
   rw [ar (by omega)] at hc
   have h0:i - ps.length=0:=by
    have:=(ac.mp hp).1
    simp at this
    omega
   have h1:i - z.seen.length=0:=by omega
   rw [h0] at hp
   rw [h1] at hc
   have hp:=Option.some.inj hp
   have hc:=Option.some.inj hc
   subst hp hc
   exact ah
theorem Gn:aJ ["machine", "row"] ["machine", "row"] (ak tG):=⟨rfl,rfl,rfl,by decide +kernel,rfl,by decide +kernel,by decide +kernel⟩
theorem Gp {f C:Addr} {fd:cx} (F:dO K "do_jump" "do_jump" tG f fd) (T:lu K mg C):aR P w K mg base bV 1 f fd ["machine", "row"] (Dc C):=by
 refine F.ok Gn (fun vs H Q E h=>?_) (fun cdv A outer s H vs Q E hr h=>?_)
 ·obtain ⟨x,q,m,rows,aD,B,z,h,u,t,f,rfl,_⟩:=h
  rfl
 ·obtain ⟨x,q,m,rows,aD,B,z,h,u,t,f,rfl,M,hB,hh,hq,k⟩:=h
  have hu:=cI hr
  obtain ⟨w0,ho,hw⟩:=M.obj
  have M1:=M.more (le_succ B) (by omega)
  refine ⟨_,aA (dw (pv 0) (au ay (pv 1) ai (fun _ _=>rfl)) rfl),?_⟩
  refine ⟨_,rfl,q,_,_,.int t,rfl,rfl,aS.of hq,at1 _ _ _,_,rfl,x,C,m.dx,_,rfl,ho,T.cl,T.nH,jV,?_⟩
  rw [jj]
  exact k _ (Fr.upd (.inl rfl)) (M1.put (k':=z.k) (ig:=.int t) hw)
theorem Gq:aJ ["machine", "row"] ["machine", "row"] (ak tH):=⟨rfl,rfl,rfl,by decide +kernel,rfl,by decide +kernel,by decide +kernel⟩
theorem Gr {f C:Addr} {fd:cx} (F:dO K "do_zero" "do_zero" tH f fd) (T:lu K mg C):aR P w K mg base bV 1 f fd ["machine", "row"] (Dd C):=by
 refine F.ok Gq (fun vs H Q E h=>?_) (fun cdv A outer s H vs Q E hr h=>?_)
 ·obtain ⟨x,q,m,rows,aD,B,z,h,u,b,t,f,rfl,_⟩:=h
  rfl
 ·obtain ⟨x,q,m,rows,aD,B,z,h,u,b,t,f,rfl,M,hB,hh,hq,hb,k⟩:=h
  have hu:=cI hr
  obtain ⟨w0,ho,hw⟩:=M.obj
  have M1:=M.more (le_succ B) (by omega)
  refine ⟨_,aA (cq (aF bX (au aK (bw (pv 0) rfl) (au ay (pv 1) ai (fun _ _=>rfl)) (fun _ _=>rfl)) ai (aP _)) (aA (dw (pv 0) (au ay (pv 1) ai (fun _ _=>rfl)) rfl)) aN),?_⟩
  refine ⟨_,rfl,x,C,m.dx,_,_,rfl,ho,T.cl,T.nB,dY,_,rfl,q,_,_,.int b,rfl,rfl,aS.of hq,at1 _ _ _,m.p2,_,_,_,rfl,rfl,bj.of M.box,M.at hb,rfl,_,rfl,?_⟩
  refine dy (fun e=>?_) (fun e=>?_)
  ·have e:=V.int.inj (of_decide_eq_true e)
   refine ⟨_,rfl,q,_,_,.int t,rfl,rfl,aS.of hq,at2 _ _ _ _,_,rfl,x,C,m.dx,_,rfl,ho,T.cl,T.nH,jV,?_⟩
   rw [jj]
   rw [if_pos e] at k
   exact k _ (Fr.upd (.inl rfl)) (M1.put (k':=z.k) (ig:=.int t) hw)
  ·rw [if_neg (fun c=>e (decide_eq_true (congrArg V.int c))),← hh] at k
   exact k _ Fr.refl M1
theorem Di:aJ ["machine", "row"] ["machine", "row"] (ak oi):=⟨rfl,rfl,rfl,by decide +kernel,rfl,by decide +kernel,by decide +kernel⟩
theorem Dj {f C:Addr} {fd:cx} (F:dO K "do_below" "do_below" oi f fd) (T:lu K mg C):aR P w K mg base bV 1 f fd ["machine", "row"] (zm C):=by
 refine F.ok Di (fun vs H Q E h=>?_) (fun cdv A outer s H vs Q E hr h=>?_)
 ·obtain ⟨x,q,m,rows,aD,B,z,h,u,b,t,f,rfl,_⟩:=h
  rfl
 ·obtain ⟨x,q,m,rows,aD,B,z,h,u,b,t,f,rfl,M,hB,hh,hq,hb,k⟩:=h
  have hu:=cI hr
  obtain ⟨w0,ho,hw⟩:=M.obj
  have M1:=M.more (le_succ B) (by omega)
  refine ⟨_,aA (cq (aF iH (au aK (bw (pv 0) rfl) (au ay (pv 1) ai (fun _ _=>rfl)) (fun _ _=>rfl)) ai (aP _)) (aA (dw (pv 0) (au ay (pv 1) ai (fun _ _=>rfl)) rfl)) aN),?_⟩
  refine ⟨_,rfl,x,C,m.dx,_,_,rfl,ho,T.cl,T.nB,dY,_,rfl,q,_,_,.int b,rfl,rfl,aS.of hq,at1 _ _ _,m.p2,_,_,_,rfl,rfl,bj.of M.box,M.at hb,_,_,rfl,rfl,_,rfl,?_⟩
  refine dy (fun e=>?_) (fun e=>?_)
  ·have e:=of_decide_eq_true e
   refine ⟨_,rfl,q,_,_,.int t,rfl,rfl,aS.of hq,at2 _ _ _ _,_,rfl,x,C,m.dx,_,rfl,ho,T.cl,T.nH,jV,?_⟩
   rw [jj]
   rw [if_pos e] at k
   exact k _ (Fr.upd (.inl rfl)) (M1.put (k':=z.k) (ig:=.int t) hw)
  ·rw [if_neg (fun c=>e (decide_eq_true c)),← hh] at k
   exact k _ Fr.refl M1
theorem Gu:aJ ["machine", "row"] ["machine", "row"] (ak sU):=⟨rfl,rfl,rfl,by decide +kernel,rfl,by decide +kernel,by decide +kernel⟩
theorem Gv {f C:Addr} {fd:cx} (F:dO K "do_stop" "do_stop" sU f fd) (T:lu K mg C)
  {fE:Addr} {IV:cx} (GE:aR P w K mg base bV 1 fE IV ["machine", "how"] (zq C)) (kE:KI K fE) (bE:Binds K IV ["machine", "how"] []) (mE:mg "end" = some (.ref fE)):aR P w K mg base bV 2 f fd ["machine", "row"] (De C):=by
 refine F.ok Gu (fun vs H Q E h=>?_) (fun cdv A outer s H vs Q E hr h=>?_)
 ·obtain ⟨x,q,m,rows,aD,B,z,h,u,items,rfl,_⟩:=h
  rfl
 ·obtain ⟨x,q,m,rows,aD,B,z,h,u,items,rfl,M,hB,hh,hq,k⟩:=h
  have hu:=cI hr
  obtain ⟨w0,ho,hw⟩:=M.obj
  have M1:=M.more (le_succ B) (by omega)
  refine ⟨_,aA (bz (aQ GE hr rfl mE kE bE .nil bp (ae (pv 0) (ae (bg (ae aq ao)) ao)))),?_⟩
  refine ⟨_,rfl,oY,fun t nt=>?_⟩
  have s1:=aj (o:=.tup [.str "stop"]) nt
  exact ⟨x,t,_,m,rows,aD,B + 1,z,rfl,ah,M1.same s1,fun H' e=>k H' ((Fr.same s1).trans e)⟩
theorem Gw:aJ ["machine", "row"] ["machine", "row"] (ak sV):=⟨rfl,rfl,rfl,by decide +kernel,rfl,by decide +kernel,by decide +kernel⟩
theorem Gx {f C:Addr} {fd:cx} (F:dO K "do_halt" "do_halt" sV f fd) (T:lu K mg C)
  {fE:Addr} {IV:cx} (GE:aR P w K mg base bV 1 fE IV ["machine", "how"] (zq C)) (kE:KI K fE) (bE:Binds K IV ["machine", "how"] []) (mE:mg "end" = some (.ref fE)):aR P w K mg base bV 2 f fd ["machine", "row"] (Df C):=by
 refine F.ok Gw (fun vs H Q E h=>?_) (fun cdv A outer s H vs Q E hr h=>?_)
 ·obtain ⟨x,q,m,rows,aD,B,z,h,u,v,rfl,_⟩:=h
  rfl
 ·obtain ⟨x,q,m,rows,aD,B,z,h,u,v,rfl,M,hB,hh,hq,k⟩:=h
  have hu:=cI hr
  obtain ⟨w0,ho,hw⟩:=M.obj
  have M1:=M.more (le_succ B) (by omega)
  refine ⟨_,aA (bz (aQ GE hr rfl mE kE bE .nil bp (ae (pv 0) (ae (bg (ae aq (ae (au ay (pv 1) ai (fun _ _=>rfl)) ao))) ao)))),?_⟩
  refine ⟨_,rfl,_,rfl,q,_,_,.int v,rfl,rfl,aS.of hq,at1 _ _ _,cZ,fun t nt=>?_⟩
  have s1:=aj (o:=.tup [.str "halt",.int v]) nt
  exact ⟨x,t,_,m,rows,aD,B + 1,z,rfl,ah,M1.same s1,fun H' e=>k H' ((Fr.same s1).trans e)⟩
theorem Gy:aJ ["machine", "row"] ["machine", "row"] (ak sW):=⟨rfl,rfl,rfl,by decide +kernel,rfl,by decide +kernel,by decide +kernel⟩
theorem Gz {f C:Addr} {fd:cx} (F:dO K "do_back" "do_back" sW f fd) (T:lu K mg C)
  {fE:Addr} {IV:cx} (GE:aR P w K mg base bV 1 fE IV ["machine", "how"] (zq C)) (kE:KI K fE) (bE:Binds K IV ["machine", "how"] []) (mE:mg "end" = some (.ref fE)) (ln:mg "len" = none):aR P w K mg base bV 2 f fd ["machine", "row"] (Dh C):=by
 refine F.ok Gy (fun vs H Q E h=>?_) (fun cdv A outer s H vs Q E hr h=>?_)
 ·obtain ⟨x,q,m,rows,aD,B,z,h,u,items,rfl,_⟩:=h
  rfl
 ·obtain ⟨x,q,m,rows,aD,B,z,h,u,items,rfl,M,hB,hh,hq,k⟩:=h
  have hu:=cI hr
  obtain ⟨w0,ho,hw⟩:=M.obj
  have M1:=M.more (le_succ B) (by omega)
  refine ⟨_,aA (cq (aF bX (aW bf (by rfl) ln dc (ae (bw (pv 0) rfl) ao)) ai (aP _)) (aA (bz (aQ GE hr (by rfl) mE kE bE .nil bp (ae (pv 0) (ae (bg (ae aq ao)) ao))))) (aA (dw (pv 0) (oF fb PySem.F.slot_list_pop PySem.F.type_list_pop B8 (bw (pv 0) rfl)) rfl))),?_⟩
  refine ⟨_,rfl,x,C,m.dx,_,_,rfl,ho,T.cl,T.nL,xg,m.p8,_,rfl,.inl (bj.of M.gK),rfl,_,rfl,?_⟩
  refine dy (fun e=>?_) (fun e=>?_)
  ·have e:=V.int.inj (of_decide_eq_true e)
   rw [length_map] at e
   have e2:z.pile=[]:=List.eq_nil_of_length_eq_zero (by omega)
   refine ⟨_,rfl,oY,fun t nt=>?_⟩
   have s1:=aj (o:=.tup [.str "home"]) nt
   exact ⟨x,t,_,m,rows,aD,B + 1,z,rfl,ah,M1.same s1,fun H' e=>k.1 e2 H' ((Fr.same s1).trans e)⟩
  ·have e2:z.pile ≠ []:=fun c=>e (by rw [c]; exact decide_eq_true rfl)
   obtain ⟨r,p,e3⟩:∃ r p,z.pile=r ++ [p]:=⟨z.pile.dropLast,z.pile.getLast e2,(List.dropLast_concat_getLast e2).symm⟩
   have hl:(z.pile.map V.int)[(z.pile.map V.int).length - 1]? = some (V.int p):=by
    rw [e3]
    simp
   have hd:(z.pile.map V.int).dropLast=r.map V.int:=by
    rw [e3]
    simp
   refine ⟨_,rfl,x,C,m.dx,_,_,rfl,ho,T.cl,T.nL,xg,.inl ⟨rfl,_,bj.of M.gK⟩,m.p8,_,V.int p,rfl,rfl,M.gK,hl,?_⟩
   rw [hd]
   have M2:=M1.rJ (p':=r) (by have:=M.lens.2.2; have:z.pile.length=r.length + 1:=(by rw [e3]; simp); omega)
   obtain ⟨w2,ho2,hw2⟩:=M2.obj
   refine ⟨_,rfl,x,C,m.dx,_,rfl,ho2,T.cl,T.nH,jV,?_⟩
   rw [jj]
   exact k.2 r p e3 _ ((Fr.upd (.inr (.inr (.inr (.inr (.inr (.inr (.inr rfl)))))))).trans (Fr.upd (.inl rfl))) (M2.put (k':=z.k) (ig:=.int p) hw2)
theorem GF:aJ ["machine", "row"] ["machine", "row"] (ak tI):=⟨rfl,rfl,rfl,by decide +kernel,rfl,by decide +kernel,by decide +kernel⟩
theorem zr {f C:Addr} {fd:cx} (F:dO K "do_call" "do_call" tI f fd) (T:lu K mg C):aR P w K mg base bV 1 f fd ["machine", "row"] (xk C):=by
 refine F.ok GF (fun vs H Q E h=>?_) (fun cdv A outer s H vs Q E hr h=>?_)
 ·obtain ⟨x,q,m,rows,aD,B,z,h,u,t,f,rfl,_⟩:=h
  rfl
 ·obtain ⟨x,q,m,rows,aD,B,z,h,u,t,f,rfl,M,hB,hh,hq,k⟩:=h
  have hu:=cI hr
  obtain ⟨w0,ho,hw⟩:=M.obj
  have M1:=M.more (le_succ B) (by omega)
  refine ⟨_,aB (bz (gw fb ff fg bZ (bw (pv 0) rfl) (ae (bw (pv 0) rfl) ao))) (aA (dw (pv 0) (au ay (pv 1) ai (fun _ _=>rfl)) rfl)),?_⟩
  have hb9:=M.big
  have hl:=M.lens
  have hf:(fc m z.k z.here w0).lookup ("here" : Str)=some (V.int h):=by rw [pq,hh]
  refine ⟨_,rfl,x,C,m.dx,_,_,rfl,ho,T.cl,T.nL,xg,.inl ⟨rfl,_,bj.of M.gK⟩,_,rfl,x,C,m.dx,_,_,rfl,ho,T.cl,T.nH,hf,m.p8,_,_,rfl,rfl,M.gK,(by rw [length_map]; exact cM (by omega)),?_⟩
  rw [show z.pile.map V.int ++ [V.int h]=(z.pile ++ [h]).map V.int by simp]
  have M2:=M1.rJ (p':=z.pile ++ [h]) (by rw [length_append]; show z.pile.length + 1 ≤ B + 1; omega)
  obtain ⟨w2,ho2,hw2⟩:=M2.obj
  have hq2:upd H m.p8 (.lst ((z.pile ++ [h]).map V.int)) q=some (.tup [.str u,.int t,.int f]):=by
   rw [aL (bJ hq M.gK (by intro z; cases z))]
   exact hq
  refine ⟨_,rfl,q,_,_,.int t,rfl,rfl,aS.of hq2,at1 _ _ _,_,rfl,x,C,m.dx,_,rfl,ho2,T.cl,T.nH,jV,?_⟩
  rw [jj]
  exact k _ ((Fr.upd (.inr (.inr (.inr (.inr (.inr (.inr (.inr rfl)))))))).trans (Fr.upd (.inl rfl))) (M2.put (k':=z.k) (ig:=.int t) hw2)
theorem zt:aJ ["machine", "row", "number"] ["machine", "row"] (ak tJ):=⟨rfl,rfl,rfl,by decide +kernel,rfl,by decide +kernel,by decide +kernel⟩
theorem GJ {f C:Addr} {fd:cx} (F:dO K "do_mark" "do_mark" tJ f fd) (T:lu K mg C)
  {fC:Addr} {IW:cx} (GC:aR P w K mg base bV 1 fC IW ["machine", "row"] (xk C)) (kC:KI K fC) (bC:Binds K IW ["machine", "row"] []) (mC:mg "do_call" = some (.ref fC)):aR P w K mg base bV 2 f fd ["machine", "row"] (Dg C):=by
 refine F.ok zt (fun vs H Q E h=>?_) (fun cdv A outer s H vs Q E hr h=>?_)
 ·obtain ⟨x,q,m,rows,aD,B,z,h,u,t,f,o,rfl,_⟩:=h
  rfl
 ·obtain ⟨x,q,m,rows,aD,B,z,h,u,t,f,o,rfl,M,hB,hh,hq,hv,k⟩:=h
  have hu:=cI hr
  obtain ⟨w0,ho,hw⟩:=M.obj
  have M1:=M.more (le_succ B) (by omega)
  refine ⟨_,aB (aU (i:=2) zt.nd rfl (Or.inl rfl) (bw (pv 0) rfl)) (aB (dw (pv 0) (aO dv (pv 2) ai) rfl) (aA (cq (BJ (J2 hu (pv 2) (bw (pv 0) rfl))) (aA (bz (aQ GC hr (by rfl) mC kC bC .nil bp (ae (pv 0) (ae (pv 1) ao))))) aN))),?_⟩
  refine ⟨_,rfl,x,C,m.dx,_,_,rfl,ho,T.cl,T.nM,FW,?_⟩
  refine ⟨_,rfl,_,_,rfl,rfl,_,rfl,x,C,m.dx,_,rfl,ho,T.cl,T.nM,jV,?_⟩
  rw [FX]
  have M2:=M.put (k':=z.k + 1) (ig:=z.here) hw
  refine ⟨_,rfl,_,rfl,x,C,m.dx,_,_,rfl,ah,T.cl,T.nR,Kx,m.p5,_,rfl,iS.k (k:=Sum.inl z.k) M2.rg,_,rfl,?_⟩
  rw [hv]
  refine dy (fun e=>?_) (fun e=>?_)
  ·have hq2:upd H x (.ins C m.dx (fc m (z.k + 1) z.here w0)) q=some (.tup [.str u,.int t,.int f]):=by
    rw [aL (bJ hq ho (by intro z; cases z))]
    exact hq
   exact ⟨_,rfl,_,rfl,x,q,m,rows,aD,B,_,h,u,t,f,rfl,M2,hB,hh,hq2,fun H' e1 e2=>k.1 e H' ((Fr.upd (.inl rfl)).trans e1) e2⟩
  ·exact k.2 (by simpa using e) _ (Fr.upd (.inl rfl)) (M2.more (le_succ B) (by omega))
theorem vG:aJ ["machine", "row", "k"] ["machine", "row"] (ak om):=⟨rfl,rfl,rfl,by decide +kernel,rfl,by decide +kernel,by decide +kernel⟩
theorem Dk {f C:Addr} {fd:cx} (F:dO K "do_table" "do_table" om f fd) (T:lu K mg C) (ln:mg "len" = none):aR P w K mg base bV 1 f fd ["machine", "row"] (zp C):=by
 refine F.ok vG (fun vs H Q E h=>?_) (fun cdv A outer s H vs Q E hr h=>?_)
 ·obtain ⟨x,q,m,rows,aD,B,z,h,u,b,p,ts,rfl,_⟩:=h
  rfl
 ·obtain ⟨x,q,m,rows,aD,B,z,h,u,b,p,ts,rfl,M,hB,hh,hq,hb,hp,k⟩:=h
  have hu:=cI hr
  obtain ⟨w0,ho,hw⟩:=M.obj
  have M1:=M.more (le_succ B) (by omega)
  refine ⟨_,aB (aU (i:=2) vG.nd rfl (Or.inl rfl) (au aK (bw (pv 0) rfl) (au ay (pv 1) ai (fun _ _=>rfl)) (fun _ _=>rfl))) (aA (cq (kh oB iH ai (pv 2) (aW bf (by rfl) ln dc (ae (au ay (pv 1) ai (fun _ _=>rfl)) ao))) (aA (dw (pv 0) (au ay (au ay (pv 1) ai (fun _ _=>rfl)) (pv 2) (fun _ _=>rfl)) rfl)) aN)),?_⟩
  refine ⟨_,rfl,x,C,m.dx,_,_,rfl,ho,T.cl,T.nB,dY,_,rfl,q,_,_,.int b,rfl,rfl,aS.of hq,at1 _ _ _,m.p2,_,_,_,rfl,rfl,bj.of M.box,M.at hb,?_⟩
  unfold Zt.bx at k
  generalize z.bs.getD b.toNat 0=c at k
  refine ⟨_,rfl,_,_,rfl,rfl,_,rfl,?_⟩
  refine dy (fun e1=>?_) (fun e1=>?_)
  ·have e1:=of_decide_eq_true e1
   refine ⟨_,rfl,q,_,_,.ref p,rfl,rfl,aS.of hq,at2 _ _ _ _,p,_,rfl,.inr (aS.of hp),_,_,rfl,rfl,_,rfl,?_⟩
   refine dy (fun e2=>?_) (fun e2=>?_)
   ·have e2:=of_decide_eq_true e2
    rw [length_map] at e2
    obtain ⟨j,rfl⟩:=Int.eq_ofNat_of_zero_le e1
    have hj:j < ts.length:=by omega
    have hat:mV (ts.map V.int) (j:Int)=some (.int (ts.getD j 0)):=by
     refine ck (j:=j) ?_
     rw [ab,aa hj,List.getD_eq_getElem?_getD,aa hj]
     rfl
    refine ⟨_,rfl,q,_,_,.ref p,rfl,rfl,aS.of hq,at2 _ _ _ _,_,rfl,p,_,_,_,rfl,rfl,aS.of hp,hat,_,rfl,x,C,m.dx,_,rfl,ho,T.cl,T.nH,jV,?_⟩
    rw [jj]
    rw [if_pos ⟨e1,e2⟩,i4] at k
    exact k _ (Fr.upd (.inl rfl)) (M1.put (k':=z.k) (ig:=.int (ts.getD j 0)) hw)
   ·rw [if_neg (fun c=>e2 (decide_eq_true (by rw [length_map]; exact c.2))),← hh] at k
    exact k _ Fr.refl M1
  ·rw [if_neg (fun c=>e1 (decide_eq_true c.1)),← hh] at k
   exact ⟨_,rfl,iz (k _ Fr.refl M1)⟩
end
abbrev rK:Stmt:=inClass (top 30) 0
abbrev rL:Stmt:=inClass (top 30) 1
abbrev rM:Stmt:=inClass (top 30) 10
theorem ly:bootBuiltins "dict" = some (.type "dict"):=by decide +kernel
def bt (a:Addr) (H H':Hp):Prop:=∀ c o,c ≠ a→H c=some o→H' c=some o
theorem bt.refl {a:Addr} {H:Hp}:bt a H H:=fun _ _ _ e=>e
theorem bt.trans {a:Addr} {H H' H'':Hp} (e:bt a H H') (e':bt a H' H''):bt a H H'':=fun c o n h=>e' c o n (e c o n h)
theorem bt.put {a:Addr} {H:Hp} {o:HO}:bt a H (upd H a o):=fun c u n h=>by rw [aL n]; exact h
theorem bt.same {a:Addr} {H H':Hp} (e:Same H H'):bt a H H':=fun c o _ h=>e c o h
theorem bt.free {l:Addr} {H H1:Hp} {q:Addr} (x:bt l H H1) (h:q ≠ l) (n:H1 q=none):H q=none:=by
 cases e:H q with
 | none=>rfl
 | some o=>rw [x q o h e] at n; exact absurd n (by simp)
section
variable {P:Program} {w:World} {K:Frag} {mg:Str→Option Value} {base:Heap}
def z0 (bs:List Int) (cf:Int→Int):Zt:=⟨.int 0,none,bs,cf,fun _=>0,[],[],[],0⟩
def Dl (C:Addr):Sp:=fun vs H Q _=>∃ (x dx a1 a2 a3 a4:Addr) (rows:List V) (bs bells:List Int) (d0:List (Key × V)) (cf:Int→Int),vs=[.ref x,.ref a1,.ref a2,.ref a3,.ref a4]∧H x=some (.ins C dx [])∧H a1=some (.lst rows)∧H a2=some (.lst (bs.map V.int))∧bs.length=8 ∧
 H a3=some (.dK d0)∧Rep d0 cf∧d0.length ≤ 50∧H a4=some (.lst (bells.map V.int))∧bells.length ≤ 100∧∀ (m:MA) (aD:List (Key × V)) (H':Hp),(∀ j:Int,(cy aD (Sum.inl j)).isSome=decide (j ∈ bells))→MG C H' x m rows aD 50 (z0 bs cf)→bt x H H'→(∀ c,Own m x c∨c=m.p1→c ≠ x→H c=none)→Q .non H'
theorem Dm:aJ ["self", "rows", "boxes", "cells", "bells", "bell"] ["self", "rows", "boxes", "cells", "bells"] (ak rK):=⟨rfl,rfl,rfl,by decide +kernel,rfl,by decide +kernel,by decide +kernel⟩
theorem GQ {f C:Addr} {fd:cx} (F:dO K "__init__" "Machine.__init__" rK f fd) (TT:Txt K w.params mg) (T:lu K mg C):aR P w K mg base bV 1 f fd ["self", "rows", "boxes", "cells", "bells"] (Dl C):=by
 refine F.ok Dm (fun vs H Q E h=>?_) (fun cdv A outer s H vs Q E hr h=>?_)
 ·obtain ⟨x,dx,a1,a2,a3,a4,rows,bs,bells,d0,cf,rfl,_⟩:=h
  rfl
 ·obtain ⟨x,dx,a1,a2,a3,a4,rows,bs,bells,d0,cf,rfl,hx,h1,h2,b8,h3,hrep,hdl,h4,bl,z⟩:=h
  have hu:=cI hr
  refine ⟨_,aB (dw (pv 0) (bU cJ (by rfl) TT.list ei (ae (pv 1) ao)) rfl)
   (aB (dw (pv 0) (bU cJ (by rfl) TT.list ei (ae (pv 2) ao)) rfl)
   (aB (dw (pv 0) (bU iU (by rfl) TT.dict ly (ae (pv 3) ao)) rfl)
   (aB (dw (pv 0) je rfl) (aB (dw (pv 0) je rfl)
   (aB (iu PassesOwn.never rfl (dB (pv 4)) (cG (i:=5) Dm.nd rfl (Or.inl rfl)) (aA (dq hu (bw (pv 0) rfl) (pv 5) lY rfl)))
   (aB (dw (pv 0) (cr ao) rfl) (aB (dw (pv 0) (cr ao) rfl) (aB (dw (pv 0) (cr ao) rfl)
   (aB (dw (pv 0) ai rfl) (aB (dw (pv 0) ai rfl) (aA (dw (pv 0) eA rfl)))))))))))),?_⟩
  have xa:∀ {a o},H a=some o→(∀ fs,o ≠ .ins C dx fs)→a ≠ x:=fun {a o} e n=>bJ e hx (n _)
  have x1:=xa h1 (by intro _ z; cases z)
  have x2:=xa h2 (by intro _ z; cases z)
  have x3:=xa h3 (by intro _ z; cases z)
  have x4:=xa h4 (by intro _ z; cases z)
  have S0:bt x H H:=bt.refl
  have O0:=hx
  refine ⟨_,rfl,a1,_,rfl,.inl (bj.of h1),fun p1 n1=>?_⟩
  have y1:p1 ≠ x:=(az O0 n1).symm
  have f1:H p1=none:=S0.free y1 n1
  refine ⟨_,rfl,x,C,dx,([]:List (Str × V)),rfl,aj n1 _ _ O0,T.cl,T.nP,(by show 0 < 1000; decide),?_⟩
  rw [show d7 ("program" : Str) (V.ref p1) ([]:List (Str × V))=(List.zip ["program"] [V.ref p1]:List (Str × V)) from rfl]
  obtain ⟨G1,E1⟩:∃ G,G=upd (upd H p1 (.lst rows)) x (.ins C dx (List.zip ["program"] [V.ref p1]:List (Str × V))):=⟨_,rfl⟩
  have R1:bt x H G1:=by rw [E1]; exact (bt.same (aj n1)).trans bt.put
  have K1:G1 p1=some (.lst rows):=by rw [E1,aL y1]; exact ah
  have O1:G1 x=some (.ins C dx (List.zip ["program"] [V.ref p1]:List (Str × V))):=by rw [E1]; exact ah
  have S1:bt x H G1:=S0.trans R1
  rw [← E1]
  clear E1
  refine ⟨_,rfl,a2,_,rfl,.inl (bj.of (S1 _ _ x2 h2)),fun p2 n2=>?_⟩
  have y2:p2 ≠ x:=(az O1 n2).symm
  have f2:H p2=none:=S1.free y2 n2
  refine ⟨_,rfl,x,C,dx,(List.zip ["program"] [V.ref p1]:List (Str × V)),rfl,aj n2 _ _ O1,T.cl,T.nB,(by show 1 < 1000; decide),?_⟩
  rw [show d7 ("in_boxes" : Str) (V.ref p2) (List.zip ["program"] [V.ref p1]:List (Str × V))=(List.zip ["program", "in_boxes"] [V.ref p1,V.ref p2]:List (Str × V)) from ft _ _ _ _ (by decide +kernel) rfl]
  obtain ⟨G2,E2⟩:∃ G,G=upd (upd G1 p2 (.lst (bs.map V.int))) x (.ins C dx (List.zip ["program", "in_boxes"] [V.ref p1,V.ref p2]:List (Str × V))):=⟨_,rfl⟩
  have R2:bt x G1 G2:=by rw [E2]; exact (bt.same (aj n2)).trans bt.put
  have K2:G2 p2=some (.lst (bs.map V.int)):=by rw [E2,aL y2]; exact ah
  have O2:G2 x=some (.ins C dx (List.zip ["program", "in_boxes"] [V.ref p1,V.ref p2]:List (Str × V))):=by rw [E2]; exact ah
  have S2:bt x H G2:=S1.trans R2
  rw [← E2]
  clear E2
  refine ⟨_,rfl,a3,_,rfl,S2 _ _ x3 h3,fun p3 n3=>?_⟩
  have y3:p3 ≠ x:=(az O2 n3).symm
  have f3:H p3=none:=S2.free y3 n3
  refine ⟨_,rfl,x,C,dx,(List.zip ["program", "in_boxes"] [V.ref p1,V.ref p2]:List (Str × V)),rfl,aj n3 _ _ O2,T.cl,T.nC,(by show 2 < 1000; decide),?_⟩
  rw [show d7 ("in_cells" : Str) (V.ref p3) (List.zip ["program", "in_boxes"] [V.ref p1,V.ref p2]:List (Str × V))=(List.zip ["program", "in_boxes", "in_cells"] [V.ref p1,V.ref p2,V.ref p3]:List (Str × V)) from ft _ _ _ _ (by decide +kernel) rfl]
  obtain ⟨G3,E3⟩:∃ G,G=upd (upd G2 p3 (.dK d0)) x (.ins C dx (List.zip ["program", "in_boxes", "in_cells"] [V.ref p1,V.ref p2,V.ref p3]:List (Str × V))):=⟨_,rfl⟩
  have R3:bt x G2 G3:=by rw [E3]; exact (bt.same (aj n3)).trans bt.put
  have K3:G3 p3=some (.dK d0):=by rw [E3,aL y3]; exact ah
  have O3:G3 x=some (.ins C dx (List.zip ["program", "in_boxes", "in_cells"] [V.ref p1,V.ref p2,V.ref p3]:List (Str × V))):=by rw [E3]; exact ah
  have S3:bt x H G3:=S2.trans R3
  rw [← E3]
  clear E3
  intro p4 n4
  have y4:p4 ≠ x:=(az O3 n4).symm
  have f4:H p4=none:=S3.free y4 n4
  refine ⟨_,rfl,x,C,dx,(List.zip ["program", "in_boxes", "in_cells"] [V.ref p1,V.ref p2,V.ref p3]:List (Str × V)),rfl,aj n4 _ _ O3,T.cl,T.nA,(by show 3 < 1000; decide),?_⟩
  rw [show d7 ("in_asides" : Str) (V.ref p4) (List.zip ["program", "in_boxes", "in_cells"] [V.ref p1,V.ref p2,V.ref p3]:List (Str × V))=(List.zip ["program", "in_boxes", "in_cells", "in_asides"] [V.ref p1,V.ref p2,V.ref p3,V.ref p4]:List (Str × V)) from ft _ _ _ _ (by decide +kernel) rfl]
  obtain ⟨G4,E4⟩:∃ G,G=upd (upd G3 p4 (.dK [])) x (.ins C dx (List.zip ["program", "in_boxes", "in_cells", "in_asides"] [V.ref p1,V.ref p2,V.ref p3,V.ref p4]:List (Str × V))):=⟨_,rfl⟩
  have R4:bt x G3 G4:=by rw [E4]; exact (bt.same (aj n4)).trans bt.put
  have K4:G4 p4=some (.dK []):=by rw [E4,aL y4]; exact ah
  have O4:G4 x=some (.ins C dx (List.zip ["program", "in_boxes", "in_cells", "in_asides"] [V.ref p1,V.ref p2,V.ref p3,V.ref p4]:List (Str × V))):=by rw [E4]; exact ah
  have S4:bt x H G4:=S3.trans R4
  rw [← E4]
  clear E4
  intro p5 n5
  have y5:p5 ≠ x:=(az O4 n5).symm
  have f5:H p5=none:=S4.free y5 n5
  refine ⟨_,rfl,x,C,dx,(List.zip ["program", "in_boxes", "in_cells", "in_asides"] [V.ref p1,V.ref p2,V.ref p3,V.ref p4]:List (Str × V)),rfl,aj n5 _ _ O4,T.cl,T.nR,(by show 4 < 1000; decide),?_⟩
  rw [show d7 ("rung" : Str) (V.ref p5) (List.zip ["program", "in_boxes", "in_cells", "in_asides"] [V.ref p1,V.ref p2,V.ref p3,V.ref p4]:List (Str × V))=(List.zip ["program", "in_boxes", "in_cells", "in_asides", "rung"] [V.ref p1,V.ref p2,V.ref p3,V.ref p4,V.ref p5]:List (Str × V)) from ft _ _ _ _ (by decide +kernel) rfl]
  obtain ⟨G5,E5⟩:∃ G,G=upd (upd G4 p5 (.dK [])) x (.ins C dx (List.zip ["program", "in_boxes", "in_cells", "in_asides", "rung"] [V.ref p1,V.ref p2,V.ref p3,V.ref p4,V.ref p5]:List (Str × V))):=⟨_,rfl⟩
  have R5:bt x G4 G5:=by rw [E5]; exact (bt.same (aj n5)).trans bt.put
  have K5:G5 p5=some (.dK []):=by rw [E5,aL y5]; exact ah
  have O5:G5 x=some (.ins C dx (List.zip ["program", "in_boxes", "in_cells", "in_asides", "rung"] [V.ref p1,V.ref p2,V.ref p3,V.ref p4,V.ref p5]:List (Str × V))):=by rw [E5]; exact ah
  have S5:bt x H G5:=S4.trans R5
  rw [← E5]
  clear E5
  refine ⟨_,rfl,a4,rfl,⟨_,bj.of (S5 _ _ x4 h4)⟩,iF (xs:=bells.map V.int) (fun i σ Hc=>∃ (v:Option V) (aD:List (Key × V)),σ=[some (.ref x),some (.ref a1),some (.ref a2),some (.ref a3),some (.ref a4),v]∧(∀ c o,c ≠ p5→G5 c=some o→Hc c=some o)∧Hc p5=some (.dK aD)∧aD.length ≤ i∧∀ j:Int,(cy aD (Sum.inl j)).isSome=decide (j ∈ bells.take i)) ?_ ?_ ?_ ?_⟩
  ·exact ⟨none,[],rfl,fun _ _ _ e=>e,K5,le_refl _,fun j=>by simp [cy]⟩
  ·rintro i σ Hc _ ⟨v,aD,rfl,e5,_⟩
   have q5:a4 ≠ p5:=az h4 f5
   exact bj.of (e5 _ _ q5 (S5 _ _ x4 h4))
  ·rintro i y σ Hc hy ⟨v,aD,rfl,e5,k5,rl,rv⟩
   rw [ab] at hy
   obtain ⟨b,hb,rfl⟩:=map_eq_some_iff.mp hy
   have hil:=(ac.mp hb).1
   refine ⟨_,rfl,x,C,dx,_,_,rfl,e5 _ _ y5.symm O5,T.cl,T.nR,(dE ["program", "in_boxes", "in_cells", "in_asides", "rung"] _ 4 _ (by decide +kernel) rfl),_,rfl,p5,_,rfl,iy.k (k:=Sum.inl b) k5 (cM (by omega)),?_⟩
   refine ⟨_,_,rfl,fun c o n e=>?_,ah,?_,fun j=>?_⟩
   ·rw [aL n]
    exact e5 c o n e
   ·have:=dn aD (Sum.inl b:Key) (V.bl true)
    omega
   ·rw [oG,List.take_succ,hb]
    by_cases hj:j=b
    ·subst hj
     rw [if_pos rfl]
     simp
    ·rw [if_neg (by intro e; exact hj (Sum.inl.inj e)),rv j]
     simp [hj]
  ·rintro σ Ri ⟨v,aD,rfl,e5,k5,rl,rv⟩
   rw [length_map,take_length] at rv
   have O5':=e5 _ _ y5.symm O5
   have S5':bt x H Ri:=fun c o n e=>by
    have hc:c ≠ p5:=az e f5
    exact e5 c o hc (S5 c o n e)
   refine ⟨lQ,fun p6 n6=>?_⟩
   have y6:p6 ≠ x:=(az O5' n6).symm
   have f6:H p6=none:=S5'.free y6 n6
   refine ⟨_,rfl,x,C,dx,(List.zip ["program", "in_boxes", "in_cells", "in_asides", "rung"] [V.ref p1,V.ref p2,V.ref p3,V.ref p4,V.ref p5]:List (Str × V)),rfl,aj n6 _ _ O5',T.cl,T.nT,(by show 5 < 1000; decide),?_⟩
   rw [show d7 ("told_numbers" : Str) (V.ref p6) (List.zip ["program", "in_boxes", "in_cells", "in_asides", "rung"] [V.ref p1,V.ref p2,V.ref p3,V.ref p4,V.ref p5]:List (Str × V))=(List.zip ["program", "in_boxes", "in_cells", "in_asides", "rung", "told_numbers"] [V.ref p1,V.ref p2,V.ref p3,V.ref p4,V.ref p5,V.ref p6]:List (Str × V)) from ft _ _ _ _ (by decide +kernel) rfl]
   obtain ⟨G6,E6⟩:∃ G,G=upd (upd Ri p6 (.lst [])) x (.ins C dx (List.zip ["program", "in_boxes", "in_cells", "in_asides", "rung", "told_numbers"] [V.ref p1,V.ref p2,V.ref p3,V.ref p4,V.ref p5,V.ref p6]:List (Str × V))):=⟨_,rfl⟩
   have R6:bt x Ri G6:=by rw [E6]; exact (bt.same (aj n6)).trans bt.put
   have K6:G6 p6=some (.lst []):=by rw [E6,aL y6]; exact ah
   have O6:G6 x=some (.ins C dx (List.zip ["program", "in_boxes", "in_cells", "in_asides", "rung", "told_numbers"] [V.ref p1,V.ref p2,V.ref p3,V.ref p4,V.ref p5,V.ref p6]:List (Str × V))):=by rw [E6]; exact ah
   have S6:bt x H G6:=S5'.trans R6
   rw [← E6]
   clear E6
   refine ⟨lQ,fun p7 n7=>?_⟩
   have y7:p7 ≠ x:=(az O6 n7).symm
   have f7:H p7=none:=S6.free y7 n7
   refine ⟨_,rfl,x,C,dx,(List.zip ["program", "in_boxes", "in_cells", "in_asides", "rung", "told_numbers"] [V.ref p1,V.ref p2,V.ref p3,V.ref p4,V.ref p5,V.ref p6]:List (Str × V)),rfl,aj n7 _ _ O6,T.cl,T.nS,(by show 6 < 1000; decide),?_⟩
   rw [show d7 ("seen_numbers" : Str) (V.ref p7) (List.zip ["program", "in_boxes", "in_cells", "in_asides", "rung", "told_numbers"] [V.ref p1,V.ref p2,V.ref p3,V.ref p4,V.ref p5,V.ref p6]:List (Str × V))=(List.zip ["program", "in_boxes", "in_cells", "in_asides", "rung", "told_numbers", "seen_numbers"] [V.ref p1,V.ref p2,V.ref p3,V.ref p4,V.ref p5,V.ref p6,V.ref p7]:List (Str × V)) from ft _ _ _ _ (by decide +kernel) rfl]
   obtain ⟨G7,E7⟩:∃ G,G=upd (upd G6 p7 (.lst [])) x (.ins C dx (List.zip ["program", "in_boxes", "in_cells", "in_asides", "rung", "told_numbers", "seen_numbers"] [V.ref p1,V.ref p2,V.ref p3,V.ref p4,V.ref p5,V.ref p6,V.ref p7]:List (Str × V))):=⟨_,rfl⟩
   have R7:bt x G6 G7:=by rw [E7]; exact (bt.same (aj n7)).trans bt.put
   have K7:G7 p7=some (.lst []):=by rw [E7,aL y7]; exact ah
   have O7:G7 x=some (.ins C dx (List.zip ["program", "in_boxes", "in_cells", "in_asides", "rung", "told_numbers", "seen_numbers"] [V.ref p1,V.ref p2,V.ref p3,V.ref p4,V.ref p5,V.ref p6,V.ref p7]:List (Str × V))):=by rw [E7]; exact ah
   have S7:bt x H G7:=S6.trans R7
   rw [← E7]
   clear E7
   refine ⟨lQ,fun p8 n8=>?_⟩
   have y8:p8 ≠ x:=(az O7 n8).symm
   have f8:H p8=none:=S7.free y8 n8
   refine ⟨_,rfl,x,C,dx,(List.zip ["program", "in_boxes", "in_cells", "in_asides", "rung", "told_numbers", "seen_numbers"] [V.ref p1,V.ref p2,V.ref p3,V.ref p4,V.ref p5,V.ref p6,V.ref p7]:List (Str × V)),rfl,aj n8 _ _ O7,T.cl,T.nL,(by show 7 < 1000; decide),?_⟩
   rw [show d7 ("pile" : Str) (V.ref p8) (List.zip ["program", "in_boxes", "in_cells", "in_asides", "rung", "told_numbers", "seen_numbers"] [V.ref p1,V.ref p2,V.ref p3,V.ref p4,V.ref p5,V.ref p6,V.ref p7]:List (Str × V))=(List.zip ["program", "in_boxes", "in_cells", "in_asides", "rung", "told_numbers", "seen_numbers", "pile"] [V.ref p1,V.ref p2,V.ref p3,V.ref p4,V.ref p5,V.ref p6,V.ref p7,V.ref p8]:List (Str × V)) from ft _ _ _ _ (by decide +kernel) rfl]
   obtain ⟨G8,E8⟩:∃ G,G=upd (upd G7 p8 (.lst [])) x (.ins C dx (List.zip ["program", "in_boxes", "in_cells", "in_asides", "rung", "told_numbers", "seen_numbers", "pile"] [V.ref p1,V.ref p2,V.ref p3,V.ref p4,V.ref p5,V.ref p6,V.ref p7,V.ref p8]:List (Str × V))):=⟨_,rfl⟩
   have R8:bt x G7 G8:=by rw [E8]; exact (bt.same (aj n8)).trans bt.put
   have K8:G8 p8=some (.lst []):=by rw [E8,aL y8]; exact ah
   have O8:G8 x=some (.ins C dx (List.zip ["program", "in_boxes", "in_cells", "in_asides", "rung", "told_numbers", "seen_numbers", "pile"] [V.ref p1,V.ref p2,V.ref p3,V.ref p4,V.ref p5,V.ref p6,V.ref p7,V.ref p8]:List (Str × V))):=by rw [E8]; exact ah
   have S8:bt x H G8:=S7.trans R8
   rw [← E8]
   clear E8
   refine ⟨_,rfl,x,C,dx,(List.zip ["program", "in_boxes", "in_cells", "in_asides", "rung", "told_numbers", "seen_numbers", "pile"] [V.ref p1,V.ref p2,V.ref p3,V.ref p4,V.ref p5,V.ref p6,V.ref p7,V.ref p8]:List (Str × V)),rfl,O8,T.cl,T.nM,(by show 8 < 1000; decide),?_⟩
   rw [show d7 ("marks_done" : Str) (V.int 0) (List.zip ["program", "in_boxes", "in_cells", "in_asides", "rung", "told_numbers", "seen_numbers", "pile"] [V.ref p1,V.ref p2,V.ref p3,V.ref p4,V.ref p5,V.ref p6,V.ref p7,V.ref p8]:List (Str × V))=(List.zip ["program", "in_boxes", "in_cells", "in_asides", "rung", "told_numbers", "seen_numbers", "pile", "marks_done"] [V.ref p1,V.ref p2,V.ref p3,V.ref p4,V.ref p5,V.ref p6,V.ref p7,V.ref p8,V.int 0]:List (Str × V)) from ft _ _ _ _ (by decide +kernel) rfl]
   obtain ⟨G9,E9⟩:∃ G,G=upd G8 x (.ins C dx (List.zip ["program", "in_boxes", "in_cells", "in_asides", "rung", "told_numbers", "seen_numbers", "pile", "marks_done"] [V.ref p1,V.ref p2,V.ref p3,V.ref p4,V.ref p5,V.ref p6,V.ref p7,V.ref p8,V.int 0]:List (Str × V))):=⟨_,rfl⟩
   have R9:bt x G8 G9:=by rw [E9]; exact bt.put
   have O9:G9 x=some (.ins C dx (List.zip ["program", "in_boxes", "in_cells", "in_asides", "rung", "told_numbers", "seen_numbers", "pile", "marks_done"] [V.ref p1,V.ref p2,V.ref p3,V.ref p4,V.ref p5,V.ref p6,V.ref p7,V.ref p8,V.int 0]:List (Str × V))):=by rw [E9]; exact ah
   have S9:bt x H G9:=S8.trans R9
   rw [← E9]
   clear E9
   refine ⟨_,rfl,x,C,dx,(List.zip ["program", "in_boxes", "in_cells", "in_asides", "rung", "told_numbers", "seen_numbers", "pile", "marks_done"] [V.ref p1,V.ref p2,V.ref p3,V.ref p4,V.ref p5,V.ref p6,V.ref p7,V.ref p8,V.int 0]:List (Str × V)),rfl,O9,T.cl,T.nH,(by show 9 < 1000; decide),?_⟩
   rw [show d7 ("here" : Str) (V.int 0) (List.zip ["program", "in_boxes", "in_cells", "in_asides", "rung", "told_numbers", "seen_numbers", "pile", "marks_done"] [V.ref p1,V.ref p2,V.ref p3,V.ref p4,V.ref p5,V.ref p6,V.ref p7,V.ref p8,V.int 0]:List (Str × V))=(List.zip ["program", "in_boxes", "in_cells", "in_asides", "rung", "told_numbers", "seen_numbers", "pile", "marks_done", "here"] [V.ref p1,V.ref p2,V.ref p3,V.ref p4,V.ref p5,V.ref p6,V.ref p7,V.ref p8,V.int 0,V.int 0]:List (Str × V)) from ft _ _ _ _ (by decide +kernel) rfl]
   obtain ⟨GU,E10⟩:∃ G,G=upd G9 x (.ins C dx (List.zip ["program", "in_boxes", "in_cells", "in_asides", "rung", "told_numbers", "seen_numbers", "pile", "marks_done", "here"] [V.ref p1,V.ref p2,V.ref p3,V.ref p4,V.ref p5,V.ref p6,V.ref p7,V.ref p8,V.int 0,V.int 0]:List (Str × V))):=⟨_,rfl⟩
   have NK:bt x G9 GU:=by rw [E10]; exact bt.put
   have O10:GU x=some (.ins C dx (List.zip ["program", "in_boxes", "in_cells", "in_asides", "rung", "told_numbers", "seen_numbers", "pile", "marks_done", "here"] [V.ref p1,V.ref p2,V.ref p3,V.ref p4,V.ref p5,V.ref p6,V.ref p7,V.ref p8,V.int 0,V.int 0]:List (Str × V))):=by rw [E10]; exact ah
   have S10:bt x H GU:=S9.trans NK
   rw [← E10]
   clear E10
   refine ⟨_,rfl,x,C,dx,(List.zip ["program", "in_boxes", "in_cells", "in_asides", "rung", "told_numbers", "seen_numbers", "pile", "marks_done", "here"] [V.ref p1,V.ref p2,V.ref p3,V.ref p4,V.ref p5,V.ref p6,V.ref p7,V.ref p8,V.int 0,V.int 0]:List (Str × V)),rfl,O10,T.cl,T.nE,(by show 10 < 1000; decide),?_⟩
   rw [show d7 ("how_ended" : Str) (V.non) (List.zip ["program", "in_boxes", "in_cells", "in_asides", "rung", "told_numbers", "seen_numbers", "pile", "marks_done", "here"] [V.ref p1,V.ref p2,V.ref p3,V.ref p4,V.ref p5,V.ref p6,V.ref p7,V.ref p8,V.int 0,V.int 0]:List (Str × V))=(List.zip ["program", "in_boxes", "in_cells", "in_asides", "rung", "told_numbers", "seen_numbers", "pile", "marks_done", "here", "how_ended"] [V.ref p1,V.ref p2,V.ref p3,V.ref p4,V.ref p5,V.ref p6,V.ref p7,V.ref p8,V.int 0,V.int 0,V.non]:List (Str × V)) from ft _ _ _ _ (by decide +kernel) rfl]
   obtain ⟨NM,E11⟩:∃ G,G=upd GU x (.ins C dx (List.zip ["program", "in_boxes", "in_cells", "in_asides", "rung", "told_numbers", "seen_numbers", "pile", "marks_done", "here", "how_ended"] [V.ref p1,V.ref p2,V.ref p3,V.ref p4,V.ref p5,V.ref p6,V.ref p7,V.ref p8,V.int 0,V.int 0,V.non]:List (Str × V))):=⟨_,rfl⟩
   have NN:bt x GU NM:=by rw [E11]; exact bt.put
   have O11:NM x=some (.ins C dx (List.zip ["program", "in_boxes", "in_cells", "in_asides", "rung", "told_numbers", "seen_numbers", "pile", "marks_done", "here", "how_ended"] [V.ref p1,V.ref p2,V.ref p3,V.ref p4,V.ref p5,V.ref p6,V.ref p7,V.ref p8,V.int 0,V.int 0,V.non]:List (Str × V))):=by rw [E11]; exact ah
   have S11:bt x H NM:=S10.trans NN
   rw [← E11]
   clear E11
   have NP:bt x Ri NM:=R6.trans (R7.trans (R8.trans (R9.trans (NK.trans NN))))
   have n15:p1 ≠ p5:=az (R4 _ _ y1 (R3 _ _ y1 (R2 _ _ y1 K1))) n5
   have n25:p2 ≠ p5:=az (R4 _ _ y2 (R3 _ _ y2 K2)) n5
   have n35:p3 ≠ p5:=az (R4 _ _ y3 K3) n5
   have n45:p4 ≠ p5:=az K4 n5
   have g1:=e5 _ _ n15 (R5 _ _ y1 (R4 _ _ y1 (R3 _ _ y1 (R2 _ _ y1 K1))))
   have g2:=e5 _ _ n25 (R5 _ _ y2 (R4 _ _ y2 (R3 _ _ y2 K2)))
   have g3:=e5 _ _ n35 (R5 _ _ y3 (R4 _ _ y3 K3))
   have g4:=e5 _ _ n45 (R5 _ _ y4 K4)
   have R67:=R6.trans R7
   have n12:p1 ≠ p2:=az K1 n2
   have n34:p3 ≠ p4:=az K3 n4
   have n16:p1 ≠ p6:=az g1 n6
   have n26:p2 ≠ p6:=az g2 n6
   have n17:p1 ≠ p7:=az (R6 _ _ y1 g1) n7
   have n27:p2 ≠ p7:=az (R6 _ _ y2 g2) n7
   have Rf:p6 ≠ p7:=az K6 n7
   have n18:p1 ≠ p8:=az (R67 _ _ y1 g1) n8
   have n28:p2 ≠ p8:=az (R67 _ _ y2 g2) n8
   have Rg:p6 ≠ p8:=az (R7 _ _ y6 K6) n8
   have Rh:p7 ≠ p8:=az K7 n8
   refine z ⟨dx,p1,p2,p3,p4,p5,p6,p7,p8⟩ aD NM rv ⟨⟨_,O11,rfl⟩,NP _ _ y1 g1,NP _ _ y2 g2,b8,⟨d0,NP _ _ y3 g3,hrep,hdl⟩,⟨[],NP _ _ y4 g4,Rep.nil,by simp⟩,NP _ _ y5 k5,(R7.trans (R8.trans (R9.trans (NK.trans NN)))) _ _ y6 K6,⟨[],(R8.trans (R9.trans (NK.trans NN))) _ _ y7 K7,rfl,fun i p c e=>by simp at e⟩,(R9.trans (NK.trans NN)) _ _ y8 K8,⟨n12,n16,n17,n18,n26,n27,n28,Rf,Rg,Rh,n34,n35,n45⟩,⟨by simp [z0],by simp [z0],by simp [z0]⟩,by omega⟩ S11 ?_
   rintro c ((rfl | rfl | rfl | rfl | rfl | rfl | rfl | rfl) | rfl) hc
   ·exact absurd rfl hc
   ·exact f2
   ·exact f3
   ·exact f4
   ·exact f5
   ·exact f6
   ·exact f7
   ·exact f8
   ·exact f1
end
inductive Rw where
 | stop | back | halt (v:Int) | two (u:Str) (b v:Int) | tell (b:Int) | eE (u:Str) (t f:Int) | zb (u:Str) (b t f:Int) | table (b:Int) (ts:List Int)
def ten:List Str:=["set", "more", "copy", "add", "less", "load", "keep", "see", "put", "take"]
def hU (H:Hp) (q:Addr) (n:Int):Rw→Prop
 | .stop=>H q=some (.tup [.str "stop"])
 | .back=>H q=some (.tup [.str "back"])
 | .halt v=>H q=some (.tup [.str "halt",.int v])
 | .two u b v=>H q=some (.tup [.str u,.int b,.int v])∧u ∈ ten∧Bx b∧(u ∈ w2→Bx v)
 | .tell b=>H q=some (.tup [.str "tell",.int b])∧Bx b
 | .eE u t f=>H q=some (.tup [.str u,.int t,.int f])∧u ∈ My.eE∧0 ≤ t∧t < n
 | .zb u b t f=>H q=some (.tup [.str u,.int b,.int t,.int f])∧u ∈ My.zb∧Bx b∧0 ≤ t∧t < n
 | .table b ts=>∃ p,H q=some (.tup [.str "table",.int b,.ref p])∧H p=some (.tup (ts.map V.int))∧Bx b∧∀ t ∈ ts,0 ≤ t∧t < n
theorem hU.tups {H H':Hp} {q:Addr} {n:Int} {r:Rw} (e:cw H H') (h:hU H q n r):hU H' q n r:=by
 cases r with
 | stop=>exact e _ _ h
 | back=>exact e _ _ h
 | halt v=>exact e _ _ h
 | two u b v=>exact ⟨e _ _ h.1,h.2⟩
 | tell b=>exact ⟨e _ _ h.1,h.2⟩
 | eE u t f=>exact ⟨e _ _ h.1,h.2⟩
 | zb u b t f=>exact ⟨e _ _ h.1,h.2⟩
 | table b ts =>
  obtain ⟨p,h1,h2,h3⟩:=h
  exact ⟨p,e _ _ h1,e _ _ h2,h3⟩
def Rw.word:Rw→Str
 | .stop => "stop" | .back => "back" | .halt _ => "halt" | .two u _ _=>u | .tell _ => "tell" | .eE u _ _=>u | .zb u _ _ _=>u | .table _ _ => "table"
def Rw.goes (r:Rw):Prop:=¬ r.word ∈ cY
def num (u:Str) (b v:Int) (z:Zt):Int :=
 if u = "set" then v else if u = "more" then z.bx b + v else if u = "copy" then z.bx v else if u = "add" then z.bx b + z.bx v else if u = "less" then z.bx b - z.bx v
 else if u = "load" then z.cf (z.bx v) else z.af v
def aZ (ring:Int→Bool) (r:Rw) (h:Int) (z:Zt):Zt :=
 match r with
 | .stop=>{ z with here:=.non,how:=some [.str "stop"] }
 | .halt v=>{ z with here:=.non,how:=some [.str "halt",.int v] }
 | .back=>match z.pile.getLast? with
  | none=>{ z with here:=.non,how:=some [.str "home"] }
  | some p=>{ z with here:=.int p,pile:=z.pile.dropLast }
 | .two u b v =>
  if u = "keep" then { z with here:=.int (h + 1),cf:=ja z.cf (z.bx b) (z.bx v) }
  else if u = "put" then { z with here:=.int (h + 1),af:=ja z.af v (z.bx b) }
  else if u = "see" then { z with here:=.int (h + 1),seen:=z.seen ++ [(v,z.bx b)] }
  else { z with here:=.int (h + 1),bs:=z.bs.set b.toNat (num u b v z) }
 | .tell b=>{ z with here:=.int (h + 1),told:=z.told ++ [z.bx b] }
 | .eE u t _ =>
  if u = "jump" then { z with here:=.int t }
  else if u = "call" then { z with here:=.int t,pile:=z.pile ++ [h + 1] }
  else if ring z.k=true then { z with here:=.int t,pile:=z.pile ++ [h + 1],k:=z.k + 1 } else { z with here:=.int (h + 1),k:=z.k + 1 }
 | .zb u b t _=>{ z with here:=.int (if (u = "zero" ∧ z.bx b=0)∨(u = "below" ∧ z.bx b < 0) then t else h + 1) }
 | .table b ts=>{ z with here:=.int (if 0 ≤ z.bx b∧z.bx b < ts.length then ts.getD (z.bx b).toNat 0 else h + 1) }
theorem lz {z:Zt} {h:Int} {ring:Int→Bool} {r:List Int} {p:Int} (e:z.pile=r ++ [p]):aZ ring .back h z={ z with here:=.int p,pile:=r }:=by
 unfold aZ
 have e1:z.pile.getLast? = some p:=by rw [e]; simp
 have e2:z.pile.dropLast=r:=by rw [e]; simp
 simp only [e1,e2]
theorem iN {z:Zt} {h:Int} {ring:Int→Bool} (e:z.pile=[]):aZ ring .back h z={ z with here:=.non,how:=some [.str "home"] }:=by
 unfold aZ
 have e1:z.pile.getLast? = none:=by rw [e]; rfl
 simp only [e1]
def iZ (n:Nat) (z:Zt):Prop:=(z.here=.non∨∃ r:Nat,z.here=.int r∧r < n)∧∀ p ∈ z.pile,0 ≤ p∧p < n
theorem iZ.step {n:Nat} {z:Zt} {ring:Int→Bool} {r:Rw} {h:Nat} {H:Hp} {q:Addr} (S:iZ n z) (hh:h < n) (hr:hU H q n r) (hg:h + 1=n→r.word ∈ cY):iZ n (aZ ring r h z):=by
 have next:r.goes→∃ r':Nat,((h:Int) + 1)=r'∧r' < n:=fun g=>⟨h + 1,by omega,by
  rcases lt_or_ge (h + 1) n with l | l
  ·exact l
  ·exact absurd (hg (by omega)) g⟩
 have tgt:∀ t:Int,0 ≤ t→t < n→∃ r':Nat,t=r'∧r' < n:=fun t a b=>⟨t.toNat,by omega,by omega⟩
 cases r with
 | stop=>exact ⟨.inl rfl,S.2⟩
 | halt v=>exact ⟨.inl rfl,S.2⟩
 | back =>
  rcases eq_nil_or_concat z.pile with e | ⟨r,p,e⟩
  ·rw [iN e]
   exact ⟨.inl rfl,S.2⟩
  ·have e:z.pile=r ++ [p]:=by simpa using e
   rw [lz e]
   have hp:=S.2 p (by rw [e]; simp)
   obtain ⟨r',e1,e2⟩:=tgt p hp.1 hp.2
   exact ⟨.inr ⟨r',by show V.int p=_; rw [e1],e2⟩,fun p' hp'=>S.2 p' (by rw [e]; exact List.mem_append_left _ hp')⟩
 | two u b v =>
  obtain ⟨r',e1,e2⟩:=next ((by decide +kernel:∀ u ∈ ten,¬ u ∈ cY) u hr.2.1)
  have e1:V.int ((h:Int) + 1)=.int r':=by rw [e1]
  simp only [aZ]
  split
  ·exact ⟨.inr ⟨r',e1,e2⟩,S.2⟩
  split
  ·exact ⟨.inr ⟨r',e1,e2⟩,S.2⟩
  split
  ·exact ⟨.inr ⟨r',e1,e2⟩,S.2⟩
  ·exact ⟨.inr ⟨r',e1,e2⟩,S.2⟩
 | tell b =>
  obtain ⟨r',e1,e2⟩:=next (show ¬ ("tell" : Str) ∈ cY by decide +kernel)
  exact ⟨.inr ⟨r',by show V.int ((h:Int) + 1)=_; rw [e1],e2⟩,S.2⟩
 | eE u t f =>
  obtain ⟨t',e1,e2⟩:=tgt t hr.2.2.1 hr.2.2.2
  have e1:V.int t=.int t':=by rw [e1]
  simp only [aZ]
  by_cases hj:u = "jump"
  ·simp only [if_pos hj]
   exact ⟨.inr ⟨t',e1,e2⟩,S.2⟩
  obtain ⟨r',e3,e4⟩:=next (by
   show ¬ u ∈ cY
   rcases (show u = "jump" ∨ u = "call" ∨ u = "mark" by simpa [My.eE] using hr.2.1) with rfl | rfl | rfl
   ·exact absurd rfl hj
   ·decide +kernel
   ·decide +kernel)
  have pl:∀ p ∈ z.pile ++ [(h:Int) + 1],0 ≤ p∧p < n:=fun p hp=>by
   rcases mem_append.mp hp with hp | hp
   ·exact S.2 p hp
   ·rw [mem_singleton.mp hp,e3]
    omega
  have e3:V.int ((h:Int) + 1)=.int r':=by rw [e3]
  simp only [if_neg hj]
  split
  ·exact ⟨.inr ⟨t',e1,e2⟩,pl⟩
  split
  ·exact ⟨.inr ⟨t',e1,e2⟩,pl⟩
  ·exact ⟨.inr ⟨r',e3,e4⟩,S.2⟩
 | zb u b t f =>
  obtain ⟨t',e1,e2⟩:=tgt t hr.2.2.2.1 hr.2.2.2.2
  obtain ⟨r',e3,e4⟩:=next ((by decide +kernel:∀ u ∈ My.zb,¬ u ∈ cY) u hr.2.1)
  refine ⟨.inr ?_,S.2⟩
  show ∃ r:Nat,V.int (if (u = "zero" ∧ z.bx b=0)∨(u = "below" ∧ z.bx b < 0) then t else (h:Int) + 1)=.int r∧r < n
  split
  ·exact ⟨t',by rw [e1],e2⟩
  ·exact ⟨r',by rw [e3],e4⟩
 | table b ts =>
  obtain ⟨r',e3,e4⟩:=next (show ¬ ("table" : Str) ∈ cY by decide +kernel)
  refine ⟨.inr ?_,S.2⟩
  show ∃ r:Nat,V.int (if 0 ≤ z.bx b∧z.bx b < ts.length then ts.getD (z.bx b).toNat 0 else (h:Int) + 1)=.int r∧r < n
  split
  ·rename_i c
   have hl:(z.bx b).toNat < ts.length:=by omega
   obtain ⟨p,_,_,_,ht⟩:=hr
   have hm:=ht (ts.getD (z.bx b).toNat 0) (by rw [List.getD_eq_getElem?_getD,aa hl]; exact ba hl)
   obtain ⟨t',e1,e2⟩:=tgt _ hm.1 hm.2
   exact ⟨t',by rw [e1],e2⟩
  ·exact ⟨r',by rw [e3],e4⟩
theorem NQ {m:MA} {k:Int} {h w:V}:(fc m k h w).lookup ("how_ended" : Str)=some w:=dE names _ 10 _ du rfl
abbrev jI:Stmt:=inClass (top 30) 2
abbrev lR:Stmt:=inClass (top 30) 3
section
variable {P:Program} {w:World} {K:Frag} {mg:Str→Option Value} {base:Heap}
abbrev SL (C:Addr) (H:Hp) (x:Addr) (z:Zt) (B:Nat):Prop:=∃ m rows aD,MG C H x m rows aD B z
def xl (C:Addr):Sp:=fun vs H Q _=>∃ (x:Addr) (z:Zt) (B:Nat),vs=[.ref x]∧SL C H x z B∧Q z.here H
theorem KQ:aJ ["self"] ["self"] (ak rL):=⟨rfl,rfl,rfl,by decide +kernel,rfl,by decide +kernel,by decide +kernel⟩
theorem zu {f C:Addr} {fd:cx} (F:dO K "row" "Machine.row" rL f fd) (TT:Txt K w.params mg) (T:lu K mg C):aR P w K mg base bV 1 f fd ["self"] (xl C):=by
 refine F.ok KQ (fun vs H Q E h=>?_) (fun cdv A outer s H vs Q E hr h=>?_)
 ·obtain ⟨x,z,B,rfl,_⟩:=h
  rfl
 ·obtain ⟨x,z,B,rfl,⟨m,rows,aD,M⟩,q⟩:=h
  obtain ⟨w0,ho,hw⟩:=M.obj
  refine ⟨_,aA (aV (bw (pv 0) rfl)),?_⟩
  exact ⟨_,rfl,x,C,m.dx,_,_,rfl,ho,T.cl,T.nH,pq,q⟩
def vH (C:Addr):Sp:=fun vs H Q _=>∃ (x:Addr) (z:Zt) (B:Nat),vs=[.ref x]∧SL C H x z B∧∀ v,iM H v z.how→Q v H
theorem Dn:aJ ["self"] ["self"] (ak jI):=⟨rfl,rfl,rfl,by decide +kernel,rfl,by decide +kernel,by decide +kernel⟩
theorem Aw {f C:Addr} {fd:cx} (F:dO K "ending" "Machine.ending" jI f fd) (TT:Txt K w.params mg) (T:lu K mg C):aR P w K mg base bV 1 f fd ["self"] (vH C):=by
 refine F.ok Dn (fun vs H Q E h=>?_) (fun cdv A outer s H vs Q E hr h=>?_)
 ·obtain ⟨x,z,B,rfl,_⟩:=h
  rfl
 ·obtain ⟨x,z,B,rfl,⟨m,rows,aD,M⟩,q⟩:=h
  obtain ⟨w0,ho,hw⟩:=M.obj
  refine ⟨_,aA (aV (bw (pv 0) rfl)),?_⟩
  exact ⟨_,rfl,x,C,m.dx,_,_,rfl,ho,T.cl,T.nE,NQ,q _ hw⟩
def tK (C:Addr):Sp:=fun vs H Q _=>∃ (x:Addr) (z:Zt) (B:Nat),vs=[.ref x]∧SL C H x z B∧∀ l,H l=none→Q (.ref l) (upd H l (.lst (z.bs.map V.int)))
theorem GV:aJ ["self"] ["self"] (ak lR):=⟨rfl,rfl,rfl,by decide +kernel,rfl,by decide +kernel,by decide +kernel⟩
theorem vI {f C:Addr} {fd:cx} (F:dO K "boxes" "Machine.boxes" lR f fd) (TT:Txt K w.params mg) (T:lu K mg C):aR P w K mg base bV 1 f fd ["self"] (tK C):=by
 refine F.ok GV (fun vs H Q E h=>?_) (fun cdv A outer s H vs Q E hr h=>?_)
 ·obtain ⟨x,z,B,rfl,_⟩:=h
  rfl
 ·obtain ⟨x,z,B,rfl,⟨m,rows,aD,M⟩,q⟩:=h
  obtain ⟨w0,ho,hw⟩:=M.obj
  refine ⟨_,aA (aV (bU cJ (by rfl) TT.list ei (ae (bw (pv 0) rfl) ao))),?_⟩
  exact ⟨_,rfl,x,C,m.dx,_,_,rfl,ho,T.cl,T.nB,dY,m.p2,_,rfl,.inl (bj.of M.box),q⟩
end
section
variable {P:Program} {w:World} {K:Frag} {mg:Str→Option Value} {base:Heap}
theorem KR {ring:Int→Bool} {b v h:Int} {z:Zt}:aZ ring (.two "set" b v) h z={ z with here:=.int (h + 1),bs:=z.bs.set b.toNat (v) }:=by
 simp only [aZ,num,if_neg (show ¬ ("set" : Str) = "keep" by decide +kernel),if_neg (show ¬ ("set" : Str) = "put" by decide +kernel),if_neg (show ¬ ("set" : Str) = "see" by decide +kernel),if_pos rfl,if_true]
theorem GX {ring:Int→Bool} {b v h:Int} {z:Zt}:aZ ring (.two "more" b v) h z={ z with here:=.int (h + 1),bs:=z.bs.set b.toNat (z.bx b + v) }:=by
 simp only [aZ,num,if_neg (show ¬ ("more" : Str) = "keep" by decide +kernel),if_neg (show ¬ ("more" : Str) = "put" by decide +kernel),if_neg (show ¬ ("more" : Str) = "see" by decide +kernel),if_neg (show ¬ ("more" : Str) = "set" by decide +kernel),if_pos rfl,if_true]
theorem GZ {ring:Int→Bool} {b v h:Int} {z:Zt}:aZ ring (.two "copy" b v) h z={ z with here:=.int (h + 1),bs:=z.bs.set b.toNat (z.bx v) }:=by
 simp only [aZ,num,if_neg (show ¬ ("copy" : Str) = "keep" by decide +kernel),if_neg (show ¬ ("copy" : Str) = "put" by decide +kernel),if_neg (show ¬ ("copy" : Str) = "see" by decide +kernel),if_neg (show ¬ ("copy" : Str) = "set" by decide +kernel),if_neg (show ¬ ("copy" : Str) = "more" by decide +kernel),if_pos rfl,if_true]
theorem KS {ring:Int→Bool} {b v h:Int} {z:Zt}:aZ ring (.two "add" b v) h z={ z with here:=.int (h + 1),bs:=z.bs.set b.toNat (z.bx b + z.bx v) }:=by
 simp only [aZ,num,if_neg (show ¬ ("add" : Str) = "keep" by decide +kernel),if_neg (show ¬ ("add" : Str) = "put" by decide +kernel),if_neg (show ¬ ("add" : Str) = "see" by decide +kernel),if_neg (show ¬ ("add" : Str) = "set" by decide +kernel),if_neg (show ¬ ("add" : Str) = "more" by decide +kernel),if_neg (show ¬ ("add" : Str) = "copy" by decide +kernel),if_pos rfl,if_true]
theorem Ha {ring:Int→Bool} {b v h:Int} {z:Zt}:aZ ring (.two "less" b v) h z={ z with here:=.int (h + 1),bs:=z.bs.set b.toNat (z.bx b - z.bx v) }:=by
 simp only [aZ,num,if_neg (show ¬ ("less" : Str) = "keep" by decide +kernel),if_neg (show ¬ ("less" : Str) = "put" by decide +kernel),if_neg (show ¬ ("less" : Str) = "see" by decide +kernel),if_neg (show ¬ ("less" : Str) = "set" by decide +kernel),if_neg (show ¬ ("less" : Str) = "more" by decide +kernel),if_neg (show ¬ ("less" : Str) = "copy" by decide +kernel),if_neg (show ¬ ("less" : Str) = "add" by decide +kernel),if_pos rfl,if_true]
theorem Hb {ring:Int→Bool} {b v h:Int} {z:Zt}:aZ ring (.two "load" b v) h z={ z with here:=.int (h + 1),bs:=z.bs.set b.toNat (z.cf (z.bx v)) }:=by
 simp only [aZ,num,if_neg (show ¬ ("load" : Str) = "keep" by decide +kernel),if_neg (show ¬ ("load" : Str) = "put" by decide +kernel),if_neg (show ¬ ("load" : Str) = "see" by decide +kernel),if_neg (show ¬ ("load" : Str) = "set" by decide +kernel),if_neg (show ¬ ("load" : Str) = "more" by decide +kernel),if_neg (show ¬ ("load" : Str) = "copy" by decide +kernel),if_neg (show ¬ ("load" : Str) = "add" by decide +kernel),if_neg (show ¬ ("load" : Str) = "less" by decide +kernel),if_pos rfl,if_true]
theorem Hd {ring:Int→Bool} {b v h:Int} {z:Zt}:aZ ring (.two "keep" b v) h z={ z with here:=.int (h + 1),cf:=ja z.cf (z.bx b) (z.bx v) }:=by
 simp only [aZ,num,if_pos rfl,if_true]
theorem KU {ring:Int→Bool} {b v h:Int} {z:Zt}:aZ ring (.two "see" b v) h z={ z with here:=.int (h + 1),seen:=z.seen ++ [(v,z.bx b)] }:=by
 simp only [aZ,num,if_neg (show ¬ ("see" : Str) = "keep" by decide +kernel),if_neg (show ¬ ("see" : Str) = "put" by decide +kernel),if_pos rfl,if_true]
theorem KW {ring:Int→Bool} {b v h:Int} {z:Zt}:aZ ring (.two "put" b v) h z={ z with here:=.int (h + 1),af:=ja z.af v (z.bx b) }:=by
 simp only [aZ,num,if_neg (show ¬ ("put" : Str) = "keep" by decide +kernel),if_pos rfl,if_true]
theorem He {ring:Int→Bool} {b v h:Int} {z:Zt}:aZ ring (.two "take" b v) h z={ z with here:=.int (h + 1),bs:=z.bs.set b.toNat (z.af v) }:=by
 simp only [aZ,num,if_neg (show ¬ ("take" : Str) = "keep" by decide +kernel),if_neg (show ¬ ("take" : Str) = "put" by decide +kernel),if_neg (show ¬ ("take" : Str) = "see" by decide +kernel),if_neg (show ¬ ("take" : Str) = "set" by decide +kernel),if_neg (show ¬ ("take" : Str) = "more" by decide +kernel),if_neg (show ¬ ("take" : Str) = "copy" by decide +kernel),if_neg (show ¬ ("take" : Str) = "add" by decide +kernel),if_neg (show ¬ ("take" : Str) = "less" by decide +kernel),if_neg (show ¬ ("take" : Str) = "load" by decide +kernel)]
theorem Hf {ring:Int→Bool} {t f h:Int} {z:Zt}:aZ ring (.eE "jump" t f) h z={ z with here:=.int t }:=by
 simp only [aZ,if_pos rfl,if_true]
theorem Hg {ring:Int→Bool} {t f h:Int} {z:Zt}:aZ ring (.eE "call" t f) h z={ z with here:=.int t,pile:=z.pile ++ [h + 1] }:=by
 simp only [aZ,if_neg (show ¬ ("call" : Str) = "jump" by decide +kernel),if_pos rfl,if_true]
theorem Dp {ring:Int→Bool} {t f h:Int} {z:Zt} (c:ring z.k=true):aZ ring (.eE "mark" t f) h z={ z with here:=.int t,pile:=z.pile ++ [h + 1],k:=z.k + 1 }:=by
 simp only [aZ,if_neg (show ¬ ("mark" : Str) = "jump" by decide +kernel),if_neg (show ¬ ("mark" : Str) = "call" by decide +kernel),if_pos c]
theorem Dq {ring:Int→Bool} {t f h:Int} {z:Zt} (c:ring z.k=false):aZ ring (.eE "mark" t f) h z={ z with here:=.int (h + 1),k:=z.k + 1 }:=by
 simp only [aZ,if_neg (show ¬ ("mark" : Str) = "jump" by decide +kernel),if_neg (show ¬ ("mark" : Str) = "call" by decide +kernel),if_neg (show ¬ ring z.k=true by rw [c]; decide)]
theorem Hh {ring:Int→Bool} {b t f h:Int} {z:Zt}:aZ ring (.zb "zero" b t f) h z={ z with here:=.int (if z.bx b=0 then t else h + 1) }:=by
 show ({ z with here:=.int (if (("zero" : Str) = "zero" ∧ z.bx b=0)∨(("zero" : Str) = "below" ∧ z.bx b < 0) then t else h + 1) }:Zt)=_
 by_cases c:z.bx b=0
 ·rw [if_pos (.inl ⟨rfl,c⟩),if_pos c]
 ·rw [if_neg (fun y=>y.elim (fun y=>c y.2) (fun y=>absurd y.1 (by decide +kernel))),if_neg c]
theorem Dr {ring:Int→Bool} {b t f h:Int} {z:Zt}:aZ ring (.zb "below" b t f) h z={ z with here:=.int (if z.bx b < 0 then t else h + 1) }:=by
 show ({ z with here:=.int (if (("below" : Str) = "zero" ∧ z.bx b=0)∨(("below" : Str) = "below" ∧ z.bx b < 0) then t else h + 1) }:Zt)=_
 by_cases c:z.bx b < 0
 ·rw [if_pos (.inr ⟨rfl,c⟩),if_pos c]
 ·rw [if_neg (fun y=>y.elim (fun y=>absurd y.1 (by decide +kernel)) (fun y=>c y.2)),if_neg c]
def qG (P:Program) (w:World) (K:Frag) (mg:Str→Option Value) (base:Heap) (pD:Addr) (u:Str) (sp:Sp):Prop:=∃ (f:Addr) (fd:cx),dJ K w.params pD u (some (.ref f))∧aR P w K mg base bV 2 f fd ["machine", "row"] sp∧Binds K fd ["machine", "row"] []∧KI K f
structure IY (P:Program) (w:World) (K:Frag) (mg:Str→Option Value) (base:Heap) (C pD:Addr):Prop where
 sU:qG P w K mg base pD "stop" (De C)
 sV:qG P w K mg base pD "halt" (Df C)
 sW:qG P w K mg base pD "back" (Dh C)
 zh:qG P w K mg base pD "set" (IK C)
 sZ:qG P w K mg base pD "more" (C3 C)
 tf:qG P w K mg base pD "copy" (C4 C)
 zi:qG P w K mg base pD "add" (IL C)
 tj:qG P w K mg base pD "less" (C5 C)
 tu:qG P w K mg base pD "load" (C6 C)
 tD:qG P w K mg base pD "keep" (C8 C)
 tE:qG P w K mg base pD "tell" (C9 C)
 zj:qG P w K mg base pD "see" (IU C)
 zk:qG P w K mg base pD "put" (IQ C)
 tF:qG P w K mg base pD "take" (C7 C)
 tG:qG P w K mg base pD "jump" (Dc C)
 tH:qG P w K mg base pD "zero" (Dd C)
 oi:qG P w K mg base pD "below" (zm C)
 tI:qG P w K mg base pD "call" (xk C)
 tJ:qG P w K mg base pD "mark" (Dg C)
 om:qG P w K mg base pD "table" (zp C)
abbrev cP (aD:List (Key × V)):Int→Bool:=fun j=>(cy aD (Sum.inl j)).isSome
def Ds (C:Addr):Sp:=fun vs H Q _=>∃ (x q:Addr) (m:MA) (rows:List V) (aD:List (Key × V)) (B:Nat) (z:Zt) (r:Nat) (n:Int) (rw:Rw),vs=[.ref x]∧MG C H x m rows aD B z∧B < 900∧z.here=.int r∧rows[r]? = some (.ref q)∧hU H q n rw ∧
 ∀ H',Fr m x H H'→MG C H' x m rows aD (B + 1) (aZ (cP aD) rw r z)→Q .non H'
theorem Dt:aJ ["self", "row"] ["self"] (ak rM):=⟨rfl,rfl,rfl,by decide +kernel,rfl,by decide +kernel,by decide +kernel⟩
theorem hU.word {H:Hp} {q:Addr} {n:Int} {rw:Rw} (h:hU H q n rw):∃ items,H q=some (.tup (.str rw.word :: items)):=by
 cases rw with
 | stop=>exact ⟨_,h⟩
 | back=>exact ⟨_,h⟩
 | halt v=>exact ⟨_,h⟩
 | two u b v=>exact ⟨_,h.1⟩
 | tell b=>exact ⟨_,h.1⟩
 | eE u t f=>exact ⟨_,h.1⟩
 | zb u b t f=>exact ⟨_,h.1⟩
 | table b ts =>
  obtain ⟨p,h,_⟩:=h
  exact ⟨_,h⟩
theorem Hi {f C pD:Addr} {fd:cx} (F:dO K "step" "Machine.step" rM f fd) (T:lu K mg C) (mD:mg "DEEDS" = some (.ref pD)) (D:IY P w K mg base C pD):aR P w K mg base bV 3 f fd ["self"] (Ds C):=by
 refine F.ok Dt (fun vs H Q E h=>?_) (fun cdv A outer s H vs Q E hr h=>?_)
 ·obtain ⟨x,q,m,rows,aD,B,z,r,n,rw,rfl,_⟩:=h
  rfl
 ·obtain ⟨x,q,m,rows,aD,B,z,r,n,rw,rfl,M,hB,hh,hrow,hR,zz⟩:=h
  obtain ⟨w0,ho,hw⟩:=M.obj
  obtain ⟨items,hq⟩:=hR.word
  refine ⟨_,aB (cq (aF lJ (bw (pv 0) rfl) eA (aP _)) lH aN)
   (aB (aU (i:=1) Dt.nd rfl (Or.inl rfl) (au aK (bw (pv 0) rfl) (bw (pv 0) rfl) (fun _ _=>rfl)))
   (aB (dw (pv 0) (aO dv (bw (pv 0) rfl) ai) rfl)
   (aA (bz (CD (k:=2) (jr (dI (v:=.ref pD) (by rfl) mD rfl) (au ay (pv 1) ai (fun _ _=>rfl)) (fun _ _=>rfl)) hr (ae (pv 0) (ae (pv 1) ao))))))),?_⟩
  rw [hh] at ho
  refine ⟨_,rfl,x,C,m.dx,_,_,rfl,ho,T.cl,T.nH,pq,rfl,_,rfl,?_⟩
  refine iz ?_
  refine ⟨_,rfl,x,C,m.dx,_,_,rfl,ho,T.cl,T.nP,Kw,_,rfl,x,C,m.dx,_,_,rfl,ho,T.cl,T.nH,pq,m.p1,_,_,.ref q,rfl,rfl,bj.of M.prog,ck (j:=r) hrow,?_⟩
  refine ⟨_,rfl,x,C,m.dx,_,_,rfl,ho,T.cl,T.nH,pq,_,_,rfl,rfl,_,rfl,x,C,m.dx,_,rfl,ho,T.cl,T.nH,jV,?_⟩
  rw [jj]
  have M2:=M.put (k':=z.k) (ig:=.int ((r:Int) + 1)) hw
  have fr:Fr m x H (upd H x (.ins C m.dx (fc m z.k (.int ((r:Int) + 1)) w0))):=Fr.upd (.inl rfl)
  have tt:cw H (upd H x (.ins C m.dx (fc m z.k (.int ((r:Int) + 1)) w0))):=.upd ho (by intro _ z; cases z)
  have Du:=hR.tups tt
  have hq2:=tt _ _ hq
  refine ⟨_,rfl,q,_,0,.str rw.word,rfl,rfl,aS.of hq2,at0 _ _,pD,rw.word,?_⟩
  suffices hs:∃ sp:Sp,qG P w K mg base pD rw.word sp∧sp ([.ref x,.ref q] ++ []) (upd H x (.ins C m.dx (fc m z.k (.int ((r:Int) + 1)) w0))) (fun _ H1=>Q .non H1) E0 by
   obtain ⟨sp,⟨f,fd,a1,a2,a3,a4⟩,hs⟩:=hs
   exact ⟨.ref f,rfl,rfl,a1,f,fd,_,_,rfl,a2,a3,a4,_,rfl,_,rfl,hs⟩
  have fin:∀ z',z'=aZ (cP aD) rw r z→∀ H',Fr m x (upd H x (.ins C m.dx (fc m z.k (.int ((r:Int) + 1)) w0))) H'→MG C H' x m rows aD (B + 1) z'→Q .non H':=fun z' e H' e1 e2=>zz H' (fr.trans e1) (e ▸ e2)
  cases rw with
  | stop=>exact ⟨_,D.sU,x,q,m,rows,aD,B,_,_,_,_,rfl,M2,hB,rfl,Du,fin _ rfl⟩
  | halt v=>exact ⟨_,D.sV,x,q,m,rows,aD,B,_,_,_,v,rfl,M2,hB,rfl,Du,fin _ rfl⟩
  | back=>exact ⟨_,D.sW,x,q,m,rows,aD,B,_,_,_,_,rfl,M2,hB,rfl,Du,fun ep=>fin _ (iN (z:=z) (h:=r) (ring:=cP aD) ep).symm,fun r' p ep=>fin _ (lz (z:=z) (h:=r) (ring:=cP aD) ep).symm⟩
  | tell b=>exact ⟨_,D.tE,x,q,m,rows,aD,B,_,_,_,b,rfl,M2,hB,rfl,Du.1,Du.2,fin _ rfl⟩
  | table b ts =>
   obtain ⟨p,h1,h2,h3,h4⟩:=Du
   exact ⟨_,D.om,x,q,m,rows,aD,B,_,_,_,b,p,ts,rfl,M2,hB,rfl,h1,h3,h2,fin _ rfl⟩
  | two u b v =>
   obtain ⟨h1,h2,h3,h4⟩:=Du
   rcases (show u = "set" ∨ u = "more" ∨ u = "copy" ∨ u = "add" ∨ u = "less" ∨ u = "load" ∨ u = "keep" ∨ u = "see" ∨ u = "put" ∨ u = "take" by simpa [ten] using h2) with rfl | rfl | rfl | rfl | rfl | rfl | rfl | rfl | rfl | rfl
   ·exact ⟨_,D.zh,x,q,m,rows,aD,B,_,_,_,b,v,rfl,M2,hB,rfl,h1,h3,fin _ (KR (z:=z) (ring:=cP aD)).symm⟩
   ·exact ⟨_,D.sZ,x,q,m,rows,aD,B,_,_,_,b,v,rfl,M2,hB,rfl,h1,h3,fin _ (GX (z:=z) (ring:=cP aD)).symm⟩
   ·exact ⟨_,D.tf,x,q,m,rows,aD,B,_,_,_,b,v,rfl,M2,hB,rfl,h1,h3,h4 (by decide +kernel),fin _ (GZ (z:=z) (ring:=cP aD)).symm⟩
   ·exact ⟨_,D.zi,x,q,m,rows,aD,B,_,_,_,b,v,rfl,M2,hB,rfl,h1,h3,h4 (by decide +kernel),fin _ (KS (z:=z) (ring:=cP aD)).symm⟩
   ·exact ⟨_,D.tj,x,q,m,rows,aD,B,_,_,_,b,v,rfl,M2,hB,rfl,h1,h3,h4 (by decide +kernel),fin _ (Ha (z:=z) (ring:=cP aD)).symm⟩
   ·exact ⟨_,D.tu,x,q,m,rows,aD,B,_,_,_,b,v,rfl,M2,hB,rfl,h1,h3,h4 (by decide +kernel),fin _ (Hb (z:=z) (ring:=cP aD)).symm⟩
   ·exact ⟨_,D.tD,x,q,m,rows,aD,B,_,_,_,b,v,rfl,M2,hB,rfl,h1,h3,h4 (by decide +kernel),fin _ (Hd (z:=z) (ring:=cP aD)).symm⟩
   ·exact ⟨_,D.zj,x,q,m,rows,aD,B,_,_,_,b,v,rfl,M2,hB,rfl,h1,h3,fin _ (KU (z:=z) (ring:=cP aD)).symm⟩
   ·exact ⟨_,D.zk,x,q,m,rows,aD,B,_,_,_,b,v,rfl,M2,hB,rfl,h1,h3,fin _ (KW (z:=z) (ring:=cP aD)).symm⟩
   ·exact ⟨_,D.tF,x,q,m,rows,aD,B,_,_,_,b,v,rfl,M2,hB,rfl,h1,h3,fin _ (He (z:=z) (ring:=cP aD)).symm⟩
  | eE u t f' =>
   obtain ⟨h1,h2,h3,h4⟩:=Du
   rcases (show u = "jump" ∨ u = "call" ∨ u = "mark" by simpa [My.eE] using h2) with rfl | rfl | rfl
   ·exact ⟨_,D.tG,x,q,m,rows,aD,B,_,_,_,t,f',rfl,M2,hB,rfl,h1,fin _ (Hf (z:=z) (ring:=cP aD)).symm⟩
   ·exact ⟨_,D.tI,x,q,m,rows,aD,B,_,_,_,t,f',rfl,M2,hB,rfl,h1,fin _ (Hg (z:=z) (ring:=cP aD)).symm⟩
   ·exact ⟨_,D.tJ,x,q,m,rows,aD,B,_,_,_,t,f',_,rfl,M2,hB,rfl,h1,rfl,fun c=>fin _ (Dp (z:=z) (ring:=cP aD) c).symm,fun c=>fin _ (Dq (z:=z) (ring:=cP aD) c).symm⟩
  | zb u b t f' =>
   obtain ⟨h1,h2,h3,h4⟩:=Du
   rcases (show u = "zero" ∨ u = "below" by simpa [My.zb] using h2) with rfl | rfl
   ·exact ⟨_,D.tH,x,q,m,rows,aD,B,_,_,_,b,t,f',rfl,M2,hB,rfl,h1,h3,fin _ (Hh (z:=z) (ring:=cP aD)).symm⟩
   ·exact ⟨_,D.oi,x,q,m,rows,aD,B,_,_,_,b,t,f',rfl,M2,hB,rfl,h1,h3,fin _ (Dr (z:=z) (ring:=cP aD)).symm⟩
end
def Keeps (R:Addr→Prop) (H H':Hp):Prop:=∀ c o,H c=some o→(¬ R c∨∃ xs,o=.tup xs)→H' c=some o
theorem Keeps.refl {R:Addr→Prop} {H:Hp}:Keeps R H H:=fun _ _ e _=>e
theorem Keeps.trans {R:Addr→Prop} {H H1 H2:Hp} (a:Keeps R H H1) (b:Keeps R H1 H2):Keeps R H H2:=fun c o e n=>b c o (a c o e n) n
theorem Keeps.same {R:Addr→Prop} {H H':Hp} (s:Same H H'):Keeps R H H':=fun c o e _=>s c o e
theorem Keeps.more {R R':Addr→Prop} {H H':Hp} (a:Keeps R H H') (h:∀ c,R c→R' c):Keeps R' H H':=fun c o e n=>a c o e (n.imp (fun z y=>z (h c y)) id)
theorem Keeps.tups {R:Addr→Prop} {H H':Hp} (a:Keeps R H H'):cw H H':=fun b xs e=>a b _ e (.inr ⟨xs,rfl⟩)
theorem Keeps.upd {R:Addr→Prop} {H H':Hp} {p:Addr} {o o':HO} (a:Keeps R H H') (h:H' p=some o) (hn:∀ xs,o ≠ .tup xs) (hp:R p):Keeps R H (L2.upd H' p o'):=fun c u e n=>by
 have e':=a c u e n
 have:c ≠ p:=fun z=>by
  rw [z,h] at e'
  have e':=Option.some.inj e'
  rcases n with n | ⟨xs,rfl⟩
  ·exact n (z ▸ hp)
  ·exact hn xs e'
 rw [aL this]
 exact e'
section
variable {C x:Addr} {H H':Hp} {m:MA} {rows:List V} {aD:List (Key × V)} {B:Nat} {z:Zt}
theorem MG.fr (M:MG C H x m rows aD B z) (f:Fr m x H H'):Keeps (Own m x) H H':=fun c o e n=>by
 rcases n with n | ⟨xs,rfl⟩
 ·exact f c o n e
 ·exact f c _ (M.KA e) e
def Ax (m:MA) (x c:Addr):Prop:=Own m x c∨c=m.p1
theorem MG.keeps {R:Addr→Prop} (M:MG C H x m rows aD B z) (k:Keeps R H H') (d:∀ c,Ax m x c→¬ R c):MG C H' x m rows aD B z:=by
 obtain ⟨w,o1,o2⟩:=M.obj
 obtain ⟨d1,c1,c2⟩:=M.cell
 obtain ⟨d2,a1,a2⟩:=M.mw
 obtain ⟨ps,s1,s2⟩:=M.seen
 have e:∀ {c o},Ax m x c→H c=some o→H' c=some o:=fun {c o} h g=>k c o g (.inl (d c h))
 exact ⟨⟨w,e (.inl (.inl rfl)) o1,o2.tups k.tups⟩,e (.inr rfl) M.prog,e (.inl (.inr (.inl rfl))) M.box,M.b8,⟨d1,e (.inl (.inr (.inr (.inl rfl)))) c1,c2⟩,⟨d2,e (.inl (.inr (.inr (.inr (.inl rfl))))) a1,a2⟩,
  e (.inl (.inr (.inr (.inr (.inr (.inl rfl)))))) M.rg,e (.inl (.inr (.inr (.inr (.inr (.inr (.inl rfl))))))) M.told,⟨ps,e (.inl (.inr (.inr (.inr (.inr (.inr (.inr (.inl rfl)))))))) s1,s2.tups k.tups⟩,e (.inl (.inr (.inr (.inr (.inr (.inr (.inr (.inr rfl)))))))) M.gK,M.ap,M.lens,M.big⟩
theorem MG.my (M:MG C H x m rows aD B z):∀ c,Ax m x c→∃ o,H c=some o:=by
 obtain ⟨w,o1,o2⟩:=M.obj
 obtain ⟨d1,c1,c2⟩:=M.cell
 obtain ⟨d2,a1,a2⟩:=M.mw
 obtain ⟨ps,s1,s2⟩:=M.seen
 rintro c ((rfl | rfl | rfl | rfl | rfl | rfl | rfl | rfl) | rfl)
 ·exact ⟨_,o1⟩
 ·exact ⟨_,M.box⟩
 ·exact ⟨_,c1⟩
 ·exact ⟨_,a1⟩
 ·exact ⟨_,M.rg⟩
 ·exact ⟨_,M.told⟩
 ·exact ⟨_,s1⟩
 ·exact ⟨_,M.gK⟩
 ·exact ⟨_,M.prog⟩
end
def ik:List Str:=["at", "boxes", "cells", "asides", "pile", "marks", "end"]
theorem dZ:ik.Nodup:=by decide +kernel
structure LA where
 (p1 p2 p3 p4:Addr)
def lvals (m:LA) (h w:V) (k:Int):List V:=[h,.ref m.p1,.ref m.p2,.ref m.p3,.ref m.p4,.int k,w]
def gH (ns:List Str) (vs:List V):List (Key × V):=(ns.zip vs).map fun p=>(Sum.inr p.1,p.2)
theorem ez:∀ (ns:List Str) (vs:List V) (i:Nat) (x:Str),ns.Nodup→ns[i]? = some x→cy (gH ns vs) (Sum.inr x:Key)=vs[i]?
 | [],_,i,x,_,h=>by simp at h
 | n :: ns,[],i,x,_,h=>by simp [gH,cy]
 | n :: ns,v :: vs,0,x,_,h=>by
  have e:n=x:=by simpa using h
  subst e
  exact dk rfl
 | n :: ns,v :: vs,i + 1,x,hn,h=>by
  have hn':=nodup_cons.mp hn
  have hm:x ∈ ns:=ad (by simpa using h)
  have ne:¬ n=x:=fun e=>hn'.1 (e ▸ hm)
  rw [show gH (n :: ns) (v :: vs)=(Sum.inr n,v) :: gH ns vs from rfl,dm (fun z=>ne (Sum.inr.inj z))]
  exact ez ns vs i x hn'.2 (by simpa using h)
theorem lA (y:V):∀ (ns:List Str) (vs:List V) (i:Nat) (x:Str),ns.Nodup→ns[i]? = some x→i < vs.length→ns.length=vs.length→putK (gH ns vs) (Sum.inr x:Key) y=gH ns (vs.set i y):=by
 intro ns vs i x hn hi hl hlen
 have hs:(cy (gH ns vs) (Sum.inr x:Key)).isSome=true:=by
  rw [ez ns vs i x hn hi,aa hl]
  rfl
 unfold putK
 rw [dR,if_pos hs]
 have go:∀ (ns:List Str) (vs:List V) (i:Nat),ns.Nodup→ns[i]? = some x→(gH ns vs).map (fun kv=>if kv.1=(Sum.inr x:Key) then (kv.1,y) else kv)=gH ns (vs.set i y):=by
  intro ns
  induction ns with
  | nil=>intro vs i _ h; simp at h
  | cons n ns ih =>
   intro vs i hn hi
   cases vs with
   | nil=>rfl
   | cons v vs =>
    have hn':=nodup_cons.mp hn
    cases i with
    | zero =>
     have e:n=x:=by simpa using hi
     subst e
     show (if (Sum.inr n:Key)=Sum.inr n then _ else _) :: _=(Sum.inr n,y) :: gH ns vs
     rw [if_pos rfl]
     congr 1
     have:∀ p ∈ gH ns vs,(if p.1=(Sum.inr n:Key) then (p.1,y) else p)=p:=fun p hp=>by
      unfold gH at hp
      obtain ⟨q,hq,rfl⟩:=mem_map.mp hp
      have:q.1 ∈ ns:=(List.of_mem_zip hq).1
      rw [if_neg (fun e=>hn'.1 (by rw [← Sum.inr.inj e]; exact this))]
     show (gH ns vs).map (fun kv=>if kv.1=(Sum.inr n:Key) then (kv.1,y) else kv)=gH ns vs
     rw [List.map_congr_left this,List.map_id']
    | succ i =>
     have hm:x ∈ ns:=ad (by simpa using hi)
     have ne:¬ n=x:=fun e=>hn'.1 (e ▸ hm)
     show (if (Sum.inr n:Key)=Sum.inr x then _ else (Sum.inr n,v)) :: (gH ns vs).map _=(Sum.inr n,v) :: gH ns (vs.set i y)
     rw [if_neg (fun z=>ne (Sum.inr.inj z)),ih vs i hn'.2 (by simpa using hi)]
 exact go ns vs i hn hi
abbrev ld (m:LA) (h w:V) (k:Int):List (Key × V):=gH ik (lvals m h w k)
theorem df {H:Hp} {a:Addr} {kvs:List (Key × V)} {x:Str} {v:V} (h:H a=some (.dK kvs)) (e:cy kvs (Sum.inr x:Key)=some v):iS H a (.str x) (some v):=e ▸ iS.k (k:=Sum.inr x) h
section
variable {m:LA} {k:Int} {h w v:V}
theorem rN:cy (ld m h w k) (Sum.inr "at" : Key)=some (h):=ez ik _ 0 _ dZ rfl
theorem vJ:cy (ld m h w k) (Sum.inr "boxes" : Key)=some (.ref m.p1):=ez ik _ 1 _ dZ rfl
theorem IZ:cy (ld m h w k) (Sum.inr "cells" : Key)=some (.ref m.p2):=ez ik _ 2 _ dZ rfl
theorem I0:cy (ld m h w k) (Sum.inr "asides" : Key)=some (.ref m.p3):=ez ik _ 3 _ dZ rfl
theorem tL:cy (ld m h w k) (Sum.inr "pile" : Key)=some (.ref m.p4):=ez ik _ 4 _ dZ rfl
theorem Dv:cy (ld m h w k) (Sum.inr "marks" : Key)=some (.int k):=ez ik _ 5 _ dZ rfl
theorem NR:cy (ld m h w k) (Sum.inr "end" : Key)=some (w):=ez ik _ 6 _ dZ rfl
theorem Ja:putK (ld m h w k) (Sum.inr "at" : Key) v=ld m v w k:=lA v ik _ 0 _ dZ rfl (by show 0 < 7; decide) rfl
theorem NS:putK (ld m h w k) (Sum.inr "end" : Key) v=ld m h v k:=lA v ik _ 6 _ dZ rfl (by show 6 < 7; decide) rfl
theorem KY {j:Int}:putK (ld m h w k) (Sum.inr "marks" : Key) (.int j)=ld m h w j:=lA _ ik _ 5 _ dZ rfl (by show 5 < 7; decide) rfl
theorem zv:(ld m h w k).length < de:=Nat.lt_of_lt_of_le (show 7 < 1001 by decide) (by decide)
end
def i0 (m:LA) (a c:Addr):Prop:=c=a∨c=m.p1∨c=m.p2∨c=m.p3∨c=m.p4
structure LS (H:Hp) (a:Addr) (m:LA) (B:Nat) (z:Zt):Prop where
 st:∃ h w,H a=some (.dK (ld m h w z.k))∧iM H w z.how∧(z.how=none→h=z.here)
 box:H m.p1=some (.lst (z.bs.map V.int))
 b8:z.bs.length=8
 cell:∃ d,H m.p2=some (.dK d)∧Rep d z.cf∧d.length ≤ B
 mw:∃ d,H m.p3=some (.dK d)∧Rep d z.af∧d.length ≤ B
 gK:H m.p4=some (.lst (z.pile.map V.int))
 n14:m.p1 ≠ m.p4
 n23:m.p2 ≠ m.p3
 EV:a ≠ m.p2
 EW:a ≠ m.p3
 lens:z.pile.length ≤ B
 big:B ≤ 900
section
variable {H H':Hp} {a:Addr} {m:LA} {B:Nat} {z:Zt}
theorem LS.keeps {R:Addr→Prop} (M:LS H a m B z) (k:Keeps R H H') (d:∀ c,i0 m a c→¬ R c):LS H' a m B z:=by
 obtain ⟨h,w,o1,o2,o3⟩:=M.st
 obtain ⟨d1,c1,c2⟩:=M.cell
 obtain ⟨d2,a1,a2⟩:=M.mw
 have e:∀ {c o},i0 m a c→H c=some o→H' c=some o:=fun {c o} h g=>k c o g (.inl (d c h))
 exact ⟨⟨h,w,e (.inl rfl) o1,o2.tups k.tups,o3⟩,e (.inr (.inl rfl)) M.box,M.b8,⟨d1,e (.inr (.inr (.inl rfl))) c1,c2⟩,⟨d2,e (.inr (.inr (.inr (.inl rfl)))) a1,a2⟩,e (.inr (.inr (.inr (.inr rfl)))) M.gK,M.n14,M.n23,M.EV,M.EW,M.lens,M.big⟩
theorem LS.same (M:LS H a m B z) (s:Same H H'):LS H' a m B z:=M.keeps (R:=fun _=>False) (.same s) (fun _ _ h=>h)
theorem LS.any (M:LS H a m B z) {t:List Int} {s:List (Int × Int)}:LS H a m B { z with told:=t,seen:=s }:=⟨M.st,M.box,M.b8,M.cell,M.mw,M.gK,M.n14,M.n23,M.EV,M.EW,M.lens,M.big⟩
theorem LS.my (M:LS H a m B z):∀ c,i0 m a c→∃ o,H c=some o:=by
 obtain ⟨h,w,o1,o2⟩:=M.st
 obtain ⟨d1,c1,c2⟩:=M.cell
 obtain ⟨d2,a1,a2⟩:=M.mw
 rintro c (rfl | rfl | rfl | rfl | rfl)
 ·exact ⟨_,o1⟩
 ·exact ⟨_,M.box⟩
 ·exact ⟨_,c1⟩
 ·exact ⟨_,a1⟩
 ·exact ⟨_,M.gK⟩
theorem LS.more (M:LS H a m B z) {B':Nat} (h:B ≤ B') (hb:B' ≤ 900):LS H a m B' z:=by
 obtain ⟨d,c1,c2,c3⟩:=M.cell
 obtain ⟨d',a1,a2,a3⟩:=M.mw
 exact ⟨M.st,M.box,M.b8,⟨d,c1,c2,by omega⟩,⟨d',a1,a2,by omega⟩,M.gK,M.n14,M.n23,M.EV,M.EW,le_trans M.lens h,hb⟩
theorem LS.put (M:LS H a m B z) {h' w' hh:V} {k':Int} {xj:Option (List V)} (hw:iM H w' xj) (hq:xj=none→h'=hh):LS (upd H a (.dK (ld m h' w' k'))) a m B { z with here:=hh,how:=xj,k:=k' }:=by
 obtain ⟨h,w,o1,o2,_⟩:=M.st
 obtain ⟨d1,c1,c2⟩:=M.cell
 obtain ⟨d2,a1,a2⟩:=M.mw
 have t:cw H (upd H a (.dK (ld m h' w' k'))):=.upd o1 (by intro _ z; cases z)
 have e:∀ {c o},H c=some o→c ≠ a→upd H a (.dK (ld m h' w' k')) c=some o:=fun {c o} h n=>by rw [aL n]; exact h
 exact ⟨⟨h',w',ah,hw.tups t,hq⟩,e M.box (bJ M.box o1 (by intro z; cases z)),M.b8,⟨d1,e c1 M.EV.symm,c2⟩,⟨d2,e a1 M.EW.symm,a2⟩,e M.gK (bJ M.gK o1 (by intro z; cases z)),M.n14,M.n23,M.EV,M.EW,M.lens,M.big⟩
theorem LS.a_ (M:LS H a m B z) {p:Addr} {xs:List V} (h:H p=some (.lst xs)):a ≠ p:=by
 obtain ⟨_,w,o1,_⟩:=M.st
 exact bJ o1 h (by intro z; cases z)
theorem LS.lq (M:LS H a m B z) {bs':List Int} (h8:bs'.length=8):LS (upd H m.p1 (.lst (bs'.map V.int))) a m B { z with bs:=bs' }:=by
 obtain ⟨h,w,o1,o2,o3⟩:=M.st
 obtain ⟨d1,c1,c2⟩:=M.cell
 obtain ⟨d2,a1,a2⟩:=M.mw
 have t:cw H (upd H m.p1 (.lst (bs'.map V.int))):=.upd M.box (by intro _ z; cases z)
 have e:∀ {c o},H c=some o→c ≠ m.p1→upd H m.p1 (.lst (bs'.map V.int)) c=some o:=fun {c o} h n=>by rw [aL n]; exact h
 exact ⟨⟨h,w,e o1 (M.a_ M.box),o2.tups t,o3⟩,ah,h8,⟨d1,e c1 (bJ c1 M.box (by intro z; cases z)),c2⟩,⟨d2,e a1 (bJ a1 M.box (by intro z; cases z)),a2⟩,e M.gK M.n14.symm,M.n14,M.n23,M.EV,M.EW,M.lens,M.big⟩
theorem LS.rJ (M:LS H a m B z) {p':List Int} (hl:p'.length ≤ B):LS (upd H m.p4 (.lst (p'.map V.int))) a m B { z with pile:=p' }:=by
 obtain ⟨h,w,o1,o2,o3⟩:=M.st
 obtain ⟨d1,c1,c2⟩:=M.cell
 obtain ⟨d2,a1,a2⟩:=M.mw
 have t:cw H (upd H m.p4 (.lst (p'.map V.int))):=.upd M.gK (by intro _ z; cases z)
 have e:∀ {c o},H c=some o→c ≠ m.p4→upd H m.p4 (.lst (p'.map V.int)) c=some o:=fun {c o} h n=>by rw [aL n]; exact h
 exact ⟨⟨h,w,e o1 (M.a_ M.gK),o2.tups t,o3⟩,e M.box M.n14,M.b8,⟨d1,e c1 (bJ c1 M.gK (by intro z; cases z)),c2⟩,⟨d2,e a1 (bJ a1 M.gK (by intro z; cases z)),a2⟩,ah,M.n14,M.n23,M.EV,M.EW,hl,M.big⟩
theorem LS.cells (M:LS H a m B z) {d:List (Key × V)} {f:Int→Int} (hz:Rep d f) (hl:d.length ≤ B):LS (upd H m.p2 (.dK d)) a m B { z with cf:=f }:=by
 obtain ⟨h,w,o1,o2,o3⟩:=M.st
 obtain ⟨d1,c1,c2⟩:=M.cell
 obtain ⟨d2,a1,a2⟩:=M.mw
 have t:cw H (upd H m.p2 (.dK d)):=.upd c1 (by intro _ z; cases z)
 have e:∀ {c o},H c=some o→c ≠ m.p2→upd H m.p2 (.dK d) c=some o:=fun {c o} h n=>by rw [aL n]; exact h
 exact ⟨⟨h,w,e o1 M.EV,o2.tups t,o3⟩,e M.box (bJ M.box c1 (by intro z; cases z)),M.b8,⟨d,ah,hz,hl⟩,⟨d2,e a1 M.n23.symm,a2⟩,e M.gK (bJ M.gK c1 (by intro z; cases z)),M.n14,M.n23,M.EV,M.EW,M.lens,M.big⟩
theorem LS.C2 (M:LS H a m B z) {d:List (Key × V)} {f:Int→Int} (hz:Rep d f) (hl:d.length ≤ B):LS (upd H m.p3 (.dK d)) a m B { z with af:=f }:=by
 obtain ⟨h,w,o1,o2,o3⟩:=M.st
 obtain ⟨d1,c1,c2⟩:=M.cell
 obtain ⟨d2,a1,a2⟩:=M.mw
 have t:cw H (upd H m.p3 (.dK d)):=.upd a1 (by intro _ z; cases z)
 have e:∀ {c o},H c=some o→c ≠ m.p3→upd H m.p3 (.dK d) c=some o:=fun {c o} h n=>by rw [aL n]; exact h
 exact ⟨⟨h,w,e o1 M.EW,o2.tups t,o3⟩,e M.box (bJ M.box a1 (by intro z; cases z)),M.b8,⟨d1,e c1 M.n23,c2⟩,⟨d,ah,hz,hl⟩,e M.gK (bJ M.gK a1 (by intro z; cases z)),M.n14,M.n23,M.EV,M.EW,M.lens,M.big⟩
theorem LS.at (M:LS H a m B z) {b:Int} (hb:Bx b):mV (z.bs.map V.int) b=some (.int (z.bx b)):=by
 obtain ⟨j,rfl⟩:=Int.eq_ofNat_of_zero_le hb.1
 have hj:j < z.bs.length:=by have:=hb.2; have:=M.b8; omega
 refine ck (j:=j) ?_
 show _=some (V.int (z.bs.getD (j:Int).toNat 0))
 rw [ab,aa hj,i4,List.getD_eq_getElem?_getD,aa hj]
 rfl
theorem LS.ix (M:LS H a m B z) {b:Int} (hb:Bx b):yH (z.bs.map V.int).length b=some b.toNat:=by
 obtain ⟨j,rfl⟩:=Int.eq_ofNat_of_zero_le hb.1
 rw [length_map,M.b8]
 have:=hb.2
 unfold yH
 rw [if_pos (by omega),if_pos (by omega)]
end
theorem Hj {b v:Int} {z:Zt}:num "set" b v z=v:=by
 simp only [num,if_pos rfl,if_true]
theorem Dw {b v:Int} {z:Zt}:num "more" b v z=z.bx b + v:=by
 simp only [num,if_neg (show ¬ ("more" : Str) = "set" by decide +kernel),if_pos rfl,if_true]
theorem Dx {b v:Int} {z:Zt}:num "copy" b v z=z.bx v:=by
 simp only [num,if_neg (show ¬ ("copy" : Str) = "set" by decide +kernel),if_neg (show ¬ ("copy" : Str) = "more" by decide +kernel),if_pos rfl,if_true]
theorem num_add {b v:Int} {z:Zt}:num "add" b v z=z.bx b + z.bx v:=by
 simp only [num,if_neg (show ¬ ("add" : Str) = "set" by decide +kernel),if_neg (show ¬ ("add" : Str) = "more" by decide +kernel),if_neg (show ¬ ("add" : Str) = "copy" by decide +kernel),if_pos rfl,if_true]
theorem Dy {b v:Int} {z:Zt}:num "less" b v z=z.bx b - z.bx v:=by
 simp only [num,if_neg (show ¬ ("less" : Str) = "set" by decide +kernel),if_neg (show ¬ ("less" : Str) = "more" by decide +kernel),if_neg (show ¬ ("less" : Str) = "copy" by decide +kernel),if_neg (show ¬ ("less" : Str) = "add" by decide +kernel),if_pos rfl,if_true]
theorem Dz {b v:Int} {z:Zt}:num "load" b v z=z.cf (z.bx v):=by
 simp only [num,if_neg (show ¬ ("load" : Str) = "set" by decide +kernel),if_neg (show ¬ ("load" : Str) = "more" by decide +kernel),if_neg (show ¬ ("load" : Str) = "copy" by decide +kernel),if_neg (show ¬ ("load" : Str) = "add" by decide +kernel),if_neg (show ¬ ("load" : Str) = "less" by decide +kernel),if_pos rfl,if_true]
theorem DA {b v:Int} {z:Zt}:num "take" b v z=z.af v:=by
 simp only [num,if_neg (show ¬ ("take" : Str) = "set" by decide +kernel),if_neg (show ¬ ("take" : Str) = "more" by decide +kernel),if_neg (show ¬ ("take" : Str) = "copy" by decide +kernel),if_neg (show ¬ ("take" : Str) = "add" by decide +kernel),if_neg (show ¬ ("take" : Str) = "less" by decide +kernel),if_neg (show ¬ ("take" : Str) = "load" by decide +kernel)]
theorem KZ (ts:List Int) (b:Int) (h:0 ≤ b∧b < ts.length):mV (ts.map V.int) b=some (.int (ts.getD b.toNat 0)):=by
 obtain ⟨j,rfl⟩:=Int.eq_ofNat_of_zero_le h.1
 have hj:j < ts.length:=by omega
 refine ck (j:=j) ?_
 rw [ab,aa hj,i4,List.getD_eq_getElem?_getD,aa hj]
 rfl
theorem nin {u:Str} {L:List Str} (h:¬ u ∈ L):¬ ((if false=true then !inV (.str u) (L.map V.str) else inV (.str u) (L.map V.str))=true):=by
 rw [if_neg (by decide),er]
 simpa using h
theorem SM {u:Str} {L:List Str} (h:u ∈ L):(if false=true then !inV (.str u) (L.map V.str) else inV (.str u) (L.map V.str))=true:=by
 rw [if_neg (by decide),er]
 exact decide_eq_true h
theorem neq {u x:Str} (h:¬ u=x):¬ decide (V.str u=V.str x)=true:=fun e=>h (strEq e)
abbrev bh (bells:List Int):Int→Bool:=fun j=>decide (j ∈ bells)
section
variable {P:Program} {w:World} {K:Frag} {mg:Str→Option Value} {base:Heap}
def seven:List Str:=["set", "more", "copy", "add", "less", "load", "take"]
def nine:List Str:=["set", "more", "copy", "add", "less", "load", "keep", "put", "take"]
def fz (r:Rw) (z:Zt):Zt:=match r with
 | .two u b v=>if u = "keep" then { z with cf:=ja z.cf (z.bx b) (z.bx v) } else if u = "put" then { z with af:=ja z.af v (z.bx b) } else if u = "see" then z else { z with bs:=z.bs.set b.toNat (num u b v z) }
 | _=>z
def DB:Sp:=fun vs H Q _=>∃ (a q:Addr) (m:LA) (B:Nat) (z:Zt) (n:Int) (r:Rw),vs=[.ref q,.ref a]∧LS H a m B z∧B < 900∧hU H q n r ∧
 ∀ H',Keeps (i0 m a) H H'→LS H' a m (B + 1) (fz r z)→Q .non H'
theorem xm:aJ ["_law_row_here", "_law_state", "_law_boxes", "_law_word"] ["_law_row_here", "_law_state"] (ak fX):=⟨rfl,rfl,rfl,by decide +kernel,rfl,by decide +kernel,by decide +kernel⟩
theorem lS {H:Hp} {q:Addr} {n:Int} {r:Rw} (h:hU H q n r):∃ xs,H q=some (.tup (.str r.word :: xs)):=by
 cases r with
 | stop=>exact ⟨_,h⟩
 | back=>exact ⟨_,h⟩
 | halt v=>exact ⟨_,h⟩
 | two u b v=>exact ⟨_,h.1⟩
 | tell b=>exact ⟨_,h.1⟩
 | eE u t f=>exact ⟨_,h.1⟩
 | zb u b t f=>exact ⟨_,h.1⟩
 | table b ts=>obtain ⟨p,h1,_⟩:=h; exact ⟨_,h1⟩
theorem Hk {f:Addr} {fd:cx} (F:dO K "_law_done" "_law_done" fX f fd) (T:Txt K w.params mg):aR P w K mg base bV 1 f fd ["_law_row_here", "_law_state"] DB:=by
 refine F.ok xm (fun vs H Q E h=>?_) (fun cdv A outer s H vs Q E hr h=>?_)
 ·obtain ⟨a,q,m,B,z,n,r,rfl,_⟩:=h
  rfl
 ·obtain ⟨a,q,m,B,z,n,r,rfl,M0,hB,hR,k⟩:=h
  have M:=M0.more (le_succ B) (by omega)
  have hu:=cI hr
  obtain ⟨h0,w0,ho,hw,_⟩:=M.st
  obtain ⟨xs0,Hl⟩:=lS hR
  refine ⟨_,(aB (aU (i:=2) xm.nd rfl (Or.inl rfl) (aY hu (pv 1) aq (fun _ _=>rfl)))
   (aB (aU (i:=3) xm.nd rfl (Or.inl rfl) (au ay (pv 0) ai (fun _ _=>rfl)))
   (aB (cq (aF bX (pv 3) aq (aP _)) (aA (dP (au ay (pv 0) ai (fun _ _=>rfl)) (eN (pv 2) (au ay (pv 0) ai (fun _ _=>rfl)) set_list))) aN)
   (aB (cq (aF bX (pv 3) aq (aP _)) (aA (dP (aO dv (au aK (pv 2) (au ay (pv 0) ai (fun _ _=>rfl)) (fun _ _=>rfl)) (au ay (pv 0) ai (fun _ _=>rfl))) (eN (pv 2) (au ay (pv 0) ai (fun _ _=>rfl)) set_list))) aN)
   (aB (cq (aF bX (pv 3) aq (aP _)) (aA (dP (au aK (pv 2) (au ay (pv 0) ai (fun _ _=>rfl)) (fun _ _=>rfl)) (eN (pv 2) (au ay (pv 0) ai (fun _ _=>rfl)) set_list))) aN)
   (aB (cq (aF bX (pv 3) aq (aP _)) (aA (dP (aO dv (au aK (pv 2) (au ay (pv 0) ai (fun _ _=>rfl)) (fun _ _=>rfl)) (au aK (pv 2) (au ay (pv 0) ai (fun _ _=>rfl)) (fun _ _=>rfl))) (eN (pv 2) (au ay (pv 0) ai (fun _ _=>rfl)) set_list))) aN)
   (aB (cq (aF bX (pv 3) aq (aP _)) (aA (dP (aO iw (au aK (pv 2) (au ay (pv 0) ai (fun _ _=>rfl)) (fun _ _=>rfl)) (au aK (pv 2) (au ay (pv 0) ai (fun _ _=>rfl)) (fun _ _=>rfl))) (eN (pv 2) (au ay (pv 0) ai (fun _ _=>rfl)) set_list))) aN)
   (aB (cq (aF bX (pv 3) aq (aP _)) (aA (dP (jf hu (aY hu (pv 1) aq (fun _ _=>rfl)) (au aK (pv 2) (au ay (pv 0) ai (fun _ _=>rfl)) (fun _ _=>rfl)) ai ⟨rfl,rfl,rfl,rfl⟩) (eN (pv 2) (au ay (pv 0) ai (fun _ _=>rfl)) set_list))) aN)
   (aB (cq (aF bX (pv 3) aq (aP _)) (aA (dq hu (aY hu (pv 1) aq (fun _ _=>rfl)) (au aK (pv 2) (au ay (pv 0) ai (fun _ _=>rfl)) (fun _ _=>rfl)) (au aK (pv 2) (au ay (pv 0) ai (fun _ _=>rfl)) (fun _ _=>rfl)) rfl)) aN)
   (aB (cq (aF bX (pv 3) aq (aP _)) (aA (dq hu (aY hu (pv 1) aq (fun _ _=>rfl)) (au ay (pv 0) ai (fun _ _=>rfl)) (au aK (pv 2) (au ay (pv 0) ai (fun _ _=>rfl)) (fun _ _=>rfl)) rfl)) aN)
   (aA (cq (aF bX (pv 3) aq (aP _)) (aA (dP (jf hu (aY hu (pv 1) aq (fun _ _=>rfl)) (au ay (pv 0) ai (fun _ _=>rfl)) ai ⟨rfl,rfl,rfl,rfl⟩) (eN (pv 2) (au ay (pv 0) ai (fun _ _=>rfl)) set_list))) aN)))))))))))),?_⟩
  refine ⟨_,rfl,a,_,rfl,df ho vJ,?_⟩
  by_cases h9:r.word ∈ nine
  ·cases r with
   | stop=>exact absurd h9 (by decide +kernel)
   | back=>exact absurd h9 (by decide +kernel)
   | halt v=>exact absurd h9 (show ¬ ("halt" : Str) ∈ nine by decide +kernel)
   | tell b=>exact absurd h9 (show ¬ ("tell" : Str) ∈ nine by decide +kernel)
   | table b ts=>exact absurd h9 (show ¬ ("table" : Str) ∈ nine by decide +kernel)
   | eE u t f=>exact absurd h9 ((by decide +kernel:∀ u ∈ My.eE,¬ u ∈ nine) u hR.2.1)
   | zb u b t f=>exact absurd h9 ((by decide +kernel:∀ u ∈ My.zb,¬ u ∈ nine) u hR.2.1)
   | two u b v =>
    obtain ⟨HQ,_,hb,hv⟩:=hR
    refine ⟨_,rfl,q,_,_,.str u,rfl,rfl,aS.of HQ,at0 _ _,?_⟩
    have fin:u ∈ seven→∀ y,num u b v z=y→Q .non (upd H m.p1 (.lst ((z.bs.set b.toNat y).map V.int))):=fun h7 y e=>by
     obtain ⟨n1,n2,n3⟩:=(by decide +kernel:∀ u ∈ seven,¬ u = "keep" ∧ ¬ u = "put" ∧ ¬ u = "see") u h7
     refine k _ (Keeps.refl.upd M.box (by intro _ z; cases z) (.inr (.inl rfl))) ?_
     simp only [fz,if_neg n1,if_neg n2,if_neg n3,e]
     exact M.lq (by rw [length_set]; exact M.b8)
    rcases (show u = "set" ∨ u = "more" ∨ u = "copy" ∨ u = "add" ∨ u = "less" ∨ u = "load" ∨ u = "take" ∨ u = "keep" ∨ u = "put" by simpa [seven,or_assoc] using (by decide +kernel:∀ u ∈ nine,u ∈ seven ++ (["keep", "put"]:List Str)) u h9) with rfl | rfl | rfl | rfl | rfl | rfl | rfl | rfl | rfl
    ·repeat refine ⟨_,rfl,rfl,_,rfl,aX (by decide +kernel) ?_⟩
     refine ⟨_,rfl,rfl,_,rfl,cF (by decide +kernel) ?_⟩
     refine ⟨_,rfl,q,_,_,.int v,rfl,rfl,aS.of HQ,at2 _ _ _ _,_,rfl,_,rfl,q,_,_,.int b,rfl,rfl,aS.of HQ,at1 _ _ _,m.p1,_,_,_,rfl,rfl,M.box,M.ix hb,?_⟩
     rw [← map_set]
     repeat refine ⟨_,rfl,rfl,_,rfl,aX (by decide +kernel) ?_⟩
     exact fin (by decide +kernel) _ Hj
    ·repeat refine ⟨_,rfl,rfl,_,rfl,aX (by decide +kernel) ?_⟩
     refine ⟨_,rfl,rfl,_,rfl,cF (by decide +kernel) ?_⟩
     refine ⟨_,rfl,_,rfl,q,_,_,.int b,rfl,rfl,aS.of HQ,at1 _ _ _,m.p1,_,_,.int (z.bx b),rfl,rfl,bj.of M.box,M.at hb,_,rfl,q,_,_,.int v,rfl,rfl,aS.of HQ,at2 _ _ _ _,_,_,rfl,rfl,_,rfl,_,rfl,q,_,_,.int b,rfl,rfl,aS.of HQ,at1 _ _ _,m.p1,_,_,_,rfl,rfl,M.box,M.ix hb,?_⟩
     rw [← map_set]
     repeat refine ⟨_,rfl,rfl,_,rfl,aX (by decide +kernel) ?_⟩
     exact fin (by decide +kernel) _ Dw
    ·repeat refine ⟨_,rfl,rfl,_,rfl,aX (by decide +kernel) ?_⟩
     refine ⟨_,rfl,rfl,_,rfl,cF (by decide +kernel) ?_⟩
     refine ⟨_,rfl,_,rfl,q,_,_,.int v,rfl,rfl,aS.of HQ,at2 _ _ _ _,m.p1,_,_,.int (z.bx v),rfl,rfl,bj.of M.box,M.at (hv (by decide +kernel)),_,rfl,_,rfl,q,_,_,.int b,rfl,rfl,aS.of HQ,at1 _ _ _,m.p1,_,_,_,rfl,rfl,M.box,M.ix hb,?_⟩
     rw [← map_set]
     repeat refine ⟨_,rfl,rfl,_,rfl,aX (by decide +kernel) ?_⟩
     exact fin (by decide +kernel) _ Dx
    ·repeat refine ⟨_,rfl,rfl,_,rfl,aX (by decide +kernel) ?_⟩
     refine ⟨_,rfl,rfl,_,rfl,cF (by decide +kernel) ?_⟩
     refine ⟨_,rfl,_,rfl,q,_,_,.int b,rfl,rfl,aS.of HQ,at1 _ _ _,m.p1,_,_,.int (z.bx b),rfl,rfl,bj.of M.box,M.at hb,_,rfl,_,rfl,q,_,_,.int v,rfl,rfl,aS.of HQ,at2 _ _ _ _,m.p1,_,_,.int (z.bx v),rfl,rfl,bj.of M.box,M.at (hv (by decide +kernel)),_,_,rfl,rfl,_,rfl,_,rfl,q,_,_,.int b,rfl,rfl,aS.of HQ,at1 _ _ _,m.p1,_,_,_,rfl,rfl,M.box,M.ix hb,?_⟩
     rw [← map_set]
     repeat refine ⟨_,rfl,rfl,_,rfl,aX (by decide +kernel) ?_⟩
     exact fin (by decide +kernel) _ num_add
    ·repeat refine ⟨_,rfl,rfl,_,rfl,aX (by decide +kernel) ?_⟩
     refine ⟨_,rfl,rfl,_,rfl,cF (by decide +kernel) ?_⟩
     refine ⟨_,rfl,_,rfl,q,_,_,.int b,rfl,rfl,aS.of HQ,at1 _ _ _,m.p1,_,_,.int (z.bx b),rfl,rfl,bj.of M.box,M.at hb,_,rfl,_,rfl,q,_,_,.int v,rfl,rfl,aS.of HQ,at2 _ _ _ _,m.p1,_,_,.int (z.bx v),rfl,rfl,bj.of M.box,M.at (hv (by decide +kernel)),_,_,rfl,rfl,_,rfl,_,rfl,q,_,_,.int b,rfl,rfl,aS.of HQ,at1 _ _ _,m.p1,_,_,_,rfl,rfl,M.box,M.ix hb,?_⟩
     rw [← map_set]
     repeat refine ⟨_,rfl,rfl,_,rfl,aX (by decide +kernel) ?_⟩
     exact fin (by decide +kernel) _ Dy
    ·repeat refine ⟨_,rfl,rfl,_,rfl,aX (by decide +kernel) ?_⟩
     refine ⟨_,rfl,rfl,_,rfl,cF (by decide +kernel) ?_⟩
     obtain ⟨d,c1,c2,c3⟩:=M.cell
     refine ⟨_,rfl,a,_,rfl,df ho IZ,m.p2,rfl,.inl ⟨_,.of c1⟩,_,rfl,_,rfl,q,_,_,.int v,rfl,rfl,aS.of HQ,at2 _ _ _ _,m.p1,_,_,.int (z.bx v),rfl,rfl,bj.of M.box,M.at (hv (by decide +kernel)),_,iS.k (k:=Sum.inl (z.bx v)) c1,?_⟩
     rw [c2.val]
     refine ⟨_,rfl,_,rfl,q,_,_,.int b,rfl,rfl,aS.of HQ,at1 _ _ _,m.p1,_,_,_,rfl,rfl,M.box,M.ix hb,?_⟩
     rw [← map_set]
     repeat refine ⟨_,rfl,rfl,_,rfl,aX (by decide +kernel) ?_⟩
     exact fin (by decide +kernel) _ Dz
    ·repeat refine ⟨_,rfl,rfl,_,rfl,aX (by decide +kernel) ?_⟩
     refine ⟨_,rfl,rfl,_,rfl,cF (by decide +kernel) ?_⟩
     obtain ⟨d,c1,c2,c3⟩:=M.mw
     refine ⟨_,rfl,a,_,rfl,df ho I0,m.p3,rfl,.inl ⟨_,.of c1⟩,_,rfl,q,_,_,.int v,rfl,rfl,aS.of HQ,at2 _ _ _ _,_,iS.k (k:=Sum.inl v) c1,?_⟩
     rw [c2.val]
     refine ⟨_,rfl,_,rfl,q,_,_,.int b,rfl,rfl,aS.of HQ,at1 _ _ _,m.p1,_,_,_,rfl,rfl,M.box,M.ix hb,?_⟩
     rw [← map_set]
     repeat refine ⟨_,rfl,rfl,_,rfl,aX (by decide +kernel) ?_⟩
     exact fin (by decide +kernel) _ DA
    ·repeat refine ⟨_,rfl,rfl,_,rfl,aX (by decide +kernel) ?_⟩
     refine ⟨_,rfl,rfl,_,rfl,cF (by decide +kernel) ?_⟩
     obtain ⟨d,c1,c2,c3⟩:=M0.cell
     refine ⟨_,rfl,_,rfl,q,_,_,.int v,rfl,rfl,aS.of HQ,at2 _ _ _ _,m.p1,_,_,.int (z.bx v),rfl,rfl,bj.of M.box,M.at (hv (by decide +kernel)),_,rfl,a,_,rfl,df ho IZ,_,rfl,_,rfl,q,_,_,.int b,rfl,rfl,aS.of HQ,at1 _ _ _,m.p1,_,_,.int (z.bx b),rfl,rfl,bj.of M.box,M.at hb,m.p2,_,rfl,iy.k (k:=Sum.inl (z.bx b)) c1 (cM (by omega)),?_⟩
     repeat refine ⟨_,rfl,rfl,_,rfl,aX (by decide +kernel) ?_⟩
     exact k _ (Keeps.refl.upd c1 (by intro _ z; cases z) (.inr (.inr (.inl rfl)))) (by simp only [fz,if_true]; exact M.cells (c2.put _ _) (le_trans (dn d _ _) (by omega)))
    ·repeat refine ⟨_,rfl,rfl,_,rfl,aX (by decide +kernel) ?_⟩
     refine ⟨_,rfl,rfl,_,rfl,cF (by decide +kernel) ?_⟩
     obtain ⟨d,c1,c2,c3⟩:=M0.mw
     refine ⟨_,rfl,_,rfl,q,_,_,.int b,rfl,rfl,aS.of HQ,at1 _ _ _,m.p1,_,_,.int (z.bx b),rfl,rfl,bj.of M.box,M.at hb,_,rfl,a,_,rfl,df ho I0,_,rfl,q,_,_,.int v,rfl,rfl,aS.of HQ,at2 _ _ _ _,m.p3,_,rfl,iy.k (k:=Sum.inl v) c1 (cM (by omega)),?_⟩
     repeat refine ⟨_,rfl,rfl,_,rfl,aX (by decide +kernel) ?_⟩
     exact k _ (Keeps.refl.upd c1 (by intro _ z; cases z) (.inr (.inr (.inr (.inl rfl))))) (by simp only [fz,if_neg (show ¬ ("put" : Str) = "keep" by decide +kernel),if_true]; exact M.C2 (c2.put _ _) (le_trans (dn d _ _) (by omega)))
  ·have no:∀ x ∈ nine,¬ decide (V.str r.word=V.str x)=true:=fun x hx e=>h9 (strEq e ▸ hx)
   have hd:fz r z=z:=by
    cases r with
    | two u b v =>
     have:u = "see" := (by decide +kernel:∀ u ∈ ten,¬ u ∈ nine→u = "see") u hR.2.1 h9
     subst this
     rfl
    | _=>rfl
   rw [hd] at k
   refine ⟨_,rfl,q,_,_,_,rfl,rfl,aS.of Hl,at0 _ _,?_⟩
   iterate 9 refine ⟨_,rfl,rfl,_,rfl,aX (no _ (by decide +kernel)) ?_⟩
   exact k _ Keeps.refl M
end
section
variable {P:Program} {w:World} {K:Frag} {mg:Str→Option Value} {base:Heap}
def cA (ring:Int→Bool) (r:Rw) (h:Int) (z:Zt):Int × Zt:=match r with
 | .eE u t _=>if u = "jump" then (t,z) else if u = "call" then (t,{ z with pile:=z.pile ++ [h + 1] }) else if ring z.k=true then (t,{ z with pile:=z.pile ++ [h + 1],k:=z.k + 1 }) else (h + 1,{ z with k:=z.k + 1 })
 | .zb u b t _=>(if (u = "zero" ∧ z.bx b=0)∨(u = "below" ∧ z.bx b < 0) then t else h + 1,z)
 | .table b ts=>(if 0 ≤ z.bx b∧z.bx b < ts.length then ts.getD (z.bx b).toNat 0 else h + 1,z)
 | _=>(h + 1,z)
def mz:List Str:=["jump", "zero", "below", "table", "mark", "call"]
def zx:Sp:=fun vs H Q _=>∃ (a q lb:Addr) (m:LA) (B:Nat) (z:Zt) (h n:Int) (r:Rw) (bells:List Int),vs=[.ref q,.ref a,.ref lb]∧LS H a m B z∧B < 900∧z.how=none∧z.here=.int h∧hU H q n r∧H lb=some (.lst (bells.map V.int)) ∧
 ∀ H',Keeps (i0 m a) H H'→LS H' a m (B + 1) (cA (bh bells) r h z).2→Q (.int (cA (bh bells) r h z).1) H'
theorem tM:aJ ["_law_row_here", "_law_state", "_law_bells", "_law_boxes", "_law_behind"] ["_law_row_here", "_law_state", "_law_bells"] (ak e9):=⟨rfl,rfl,rfl,by decide +kernel,rfl,by decide +kernel,by decide +kernel⟩
theorem DC {f:Addr} {fd:cx} (F:dO K "_law_moved" "_law_moved" e9 f fd) (T:Txt K w.params mg):aR P w K mg base bV 1 f fd ["_law_row_here", "_law_state", "_law_bells"] zx:=by
 refine F.ok tM (fun vs H Q E h=>?_) (fun cdv A outer s H vs Q E hr h=>?_)
 ·obtain ⟨a,q,lb,m,B,z,h,n,r,bells,rfl,_⟩:=h
  rfl
 ·obtain ⟨a,q,lb,m,B,z,h,n,r,bells,rfl,M0,hB,hn,hh,hR,hlb,k⟩:=h
  have M:=M0.more (le_succ B) (by omega)
  have hu:=cI hr
  obtain ⟨h0,w0,ho,hw,hq0⟩:=M.st
  have hq0:=(hq0 hn).trans hh
  subst hq0
  obtain ⟨xs0,Hl⟩:=lS hR
  refine ⟨_,(aB (aU (i:=3) tM.nd rfl (Or.inl rfl) (aY hu (pv 1) aq (fun _ _=>rfl)))
   (aB (aU (i:=4) tM.nd rfl (Or.inl rfl) (aO dv (aY hu (pv 1) aq (fun _ _=>rfl)) ai))
   (aB (cq (iE (aF bX (au ay (pv 0) ai (fun _ _=>rfl)) aq (aP _)) (iE (eM (aF bX (au ay (pv 0) ai (fun _ _=>rfl)) aq (aP _)) (d6 (aF bX (au aK (pv 3) (au ay (pv 0) ai (fun _ _=>rfl)) (fun _ _=>rfl)) ai (aP _)))).pt (gX (eM (aF bX (au ay (pv 0) ai (fun _ _=>rfl)) aq (aP _)) (d6 (aF iH (au aK (pv 3) (au ay (pv 0) ai (fun _ _=>rfl)) (fun _ _=>rfl)) ai (aP _)))).pt))).pt (aA (aV (au ay (pv 0) (oA j3 ai) (fun _ _=>rfl)))) aN)
   (aB (cq (eM (aF bX (au ay (pv 0) ai (fun _ _=>rfl)) aq (aP _)) (d6 (kh oB iH ai (au aK (pv 3) (au ay (pv 0) ai (fun _ _=>rfl)) (fun _ _=>rfl)) (aW bf (by rfl) T.len dc (ae (au ay (pv 0) ai (fun _ _=>rfl)) ao))))).pt (aA (aV (au ay (au ay (pv 0) ai (fun _ _=>rfl)) (au aK (pv 3) (au ay (pv 0) ai (fun _ _=>rfl)) (fun _ _=>rfl)) (fun _ _=>rfl)))) aN)
   (aB (cq (aF bX (au ay (pv 0) ai (fun _ _=>rfl)) aq (aP _)) (aA (dq hu (pv 1) aq (aO dv (aY hu (pv 1) aq (fun _ _=>rfl)) ai) rfl)) aN)
   (aB (cq (iE (aF bX (au ay (pv 0) ai (fun _ _=>rfl)) aq (aP _)) (gX (eM (aF bX (au ay (pv 0) ai (fun _ _=>rfl)) aq (aP _)) (d6 (aF dh (aO iw (aY hu (pv 1) aq (fun _ _=>rfl)) ai) (pv 2) rfl))).pt)).pt (aB (bz (gw fb ff fg bZ (aY hu (pv 1) aq (fun _ _=>rfl)) (ae (pv 4) ao)))
   (aA (aV (au ay (pv 0) (oA j3 ai) (fun _ _=>rfl))))) aN)
   (aA (aV (pv 4))))))))),?_⟩
  refine ⟨_,rfl,a,_,rfl,df ho vJ,?_⟩
  refine ⟨_,rfl,a,_,rfl,df ho rN,_,_,rfl,rfl,?_⟩
  by_cases h6:r.word ∈ mz
  ·cases r with
   | stop=>exact absurd h6 (by decide +kernel)
   | back=>exact absurd h6 (by decide +kernel)
   | halt v=>exact absurd h6 (show ¬ ("halt" : Str) ∈ mz by decide +kernel)
   | tell b=>exact absurd h6 (show ¬ ("tell" : Str) ∈ mz by decide +kernel)
   | two u b v=>exact absurd h6 ((by decide +kernel:∀ u ∈ ten,¬ u ∈ mz) u hR.2.1)
   | eE u t f =>
    obtain ⟨HQ,h3,_⟩:=hR
    rcases (show u = "jump" ∨ u = "call" ∨ u = "mark" by simpa [My.eE] using h3) with rfl | rfl | rfl
    ·refine ⟨_,rfl,q,_,_,_,rfl,rfl,aS.of HQ,at0 _ _,rfl,_,rfl,cF (by decide +kernel) ?_⟩
     rw [show cA (bh bells) (.eE "jump" t f) h z=(t,z) by simp only [cA,if_true]] at k
     refine Cg ⟨_,rfl,2,rfl,q,_,_,.int t,rfl,rfl,aS.of HQ,rfl,k _ Keeps.refl M⟩
    ·(refine ⟨_,rfl,q,_,_,_,rfl,rfl,aS.of HQ,at0 _ _,rfl,_,rfl,aX (by decide +kernel) ?_⟩; refine ⟨_,rfl,q,_,_,_,rfl,rfl,aS.of HQ,at0 _ _,rfl,_,rfl,aX (by decide +kernel) ?_⟩; refine iz ?_; refine ⟨_,rfl,q,_,_,_,rfl,rfl,aS.of HQ,at0 _ _,rfl,_,rfl,aX (by decide +kernel) ?_⟩; refine iz ?_)
     refine ⟨_,rfl,q,_,_,_,rfl,rfl,aS.of HQ,at0 _ _,rfl,_,rfl,aX (by decide +kernel) ?_⟩
     refine ⟨_,rfl,q,_,_,_,rfl,rfl,aS.of HQ,at0 _ _,rfl,_,rfl,aX (by decide +kernel) ?_⟩
     refine ⟨_,rfl,q,_,_,_,rfl,rfl,aS.of HQ,at0 _ _,rfl,_,rfl,cF (by decide +kernel) ?_⟩
     refine Cg ?_
     (refine ⟨_,rfl,a,_,rfl,df ho tL,.inl ⟨rfl,_,bj.of M.gK⟩,_,rfl,m.p4,_,_,rfl,rfl,M.gK,cM (by have:=M0.lens; rw [length_map]; show z.pile.length ≤ 1000; omega),?_⟩; rw [show z.pile.map V.int ++ [V.int (h + 1)]=(z.pile ++ [h + 1]).map V.int by simp])
     have k2:Keeps (i0 m a) H _:=Keeps.refl.upd (o':=.lst ((z.pile ++ [h + 1]).map V.int)) M.gK (by intro _ z; cases z) (.inr (.inr (.inr (.inr rfl))))
     rw [show cA (bh bells) (.eE "call" t f) h z=(t,{ z with pile:=z.pile ++ [h + 1] }) by simp only [cA,if_neg (show ¬ ("call" : Str) = "jump" by decide +kernel),if_true]] at k
     exact ⟨_,rfl,2,rfl,q,_,_,.int t,rfl,rfl,aS.of (k2.tups _ _ HQ),rfl,k _ k2 (M.rJ (by have:=M0.lens; simp; omega))⟩
    ·(refine ⟨_,rfl,q,_,_,_,rfl,rfl,aS.of HQ,at0 _ _,rfl,_,rfl,aX (by decide +kernel) ?_⟩; refine ⟨_,rfl,q,_,_,_,rfl,rfl,aS.of HQ,at0 _ _,rfl,_,rfl,aX (by decide +kernel) ?_⟩; refine iz ?_; refine ⟨_,rfl,q,_,_,_,rfl,rfl,aS.of HQ,at0 _ _,rfl,_,rfl,aX (by decide +kernel) ?_⟩; refine iz ?_)
     refine ⟨_,rfl,q,_,_,_,rfl,rfl,aS.of HQ,at0 _ _,rfl,_,rfl,aX (by decide +kernel) ?_⟩
     refine ⟨_,rfl,q,_,_,_,rfl,rfl,aS.of HQ,at0 _ _,rfl,_,rfl,cF (by decide +kernel) ?_⟩
     refine ⟨_,rfl,a,_,rfl,df ho Dv,_,_,rfl,rfl,_,rfl,a,_,rfl,iy.k (k:=Sum.inr "marks") ho zv,?_⟩
     rw [KY]
     have k1:Keeps (i0 m a) H _:=Keeps.refl.upd (o':=.dK (ld m (.int h) w0 (z.k + 1))) ho (by intro _ z; cases z) (.inl rfl)
     have M1:=M.put (h':=.int h) (hh:=z.here) (k':=z.k + 1) hw (fun _=>hh.symm)
     have SN:upd H a (.dK (ld m (.int h) w0 (z.k + 1))) lb=some (.lst (bells.map V.int)):=by rw [aL (bJ hlb ho (by intro z; cases z))]; exact hlb
     have Hm:=k1.tups _ _ HQ
     refine ⟨_,rfl,q,_,_,_,rfl,rfl,aS.of Hm,at0 _ _,rfl,_,rfl,aX (by decide +kernel) ?_⟩
     refine ⟨_,rfl,q,_,_,_,rfl,rfl,aS.of Hm,at0 _ _,rfl,_,rfl,cF (by decide +kernel) ?_⟩
     refine ⟨_,rfl,a,_,rfl,df ah Dv,_,_,rfl,rfl,_,rfl,lb,_,rfl,.inl (bj.of SN),rfl,rG _,_,rfl,?_⟩
     rw [show (if false=true then !inV (V.int (z.k + 1 - 1)) (bells.map V.int) else inV (V.int (z.k + 1 - 1)) (bells.map V.int))=decide (z.k ∈ bells) from by rw [if_neg (by decide),sM,show z.k + 1 - 1=z.k by omega]]
     have n1:¬ ("mark" : Str) = "jump" := by decide +kernel
     have n2:¬ ("mark" : Str) = "call" := by decide +kernel
     refine dy (fun c=>?_) (fun c=>?_)
     ·rw [show cA (bh bells) (.eE "mark" t f) h z=(t,{ z with pile:=z.pile ++ [h + 1],k:=z.k + 1 }) by simp only [cA,if_neg n1,if_neg n2]; exact if_pos c] at k
      (refine ⟨_,rfl,a,_,rfl,df ah tL,.inl ⟨rfl,_,bj.of M1.gK⟩,_,rfl,m.p4,_,_,rfl,rfl,M1.gK,cM (by have:=M0.lens; rw [length_map]; show z.pile.length ≤ 1000; omega),?_⟩; rw [show z.pile.map V.int ++ [V.int (h + 1)]=(z.pile ++ [h + 1]).map V.int by simp])
      have k2:=k1.upd (o':=.lst ((z.pile ++ [h + 1]).map V.int)) M1.gK (by intro _ z; cases z) (.inr (.inr (.inr (.inr rfl))))
      exact ⟨_,rfl,2,rfl,q,_,_,.int t,rfl,rfl,aS.of (k2.tups _ _ HQ),rfl,k _ k2 (M1.rJ (by have:=M0.lens; simp; omega))⟩
     ·rw [show cA (bh bells) (.eE "mark" t f) h z=(h + 1,{ z with k:=z.k + 1 }) by simp only [cA,if_neg n1,if_neg n2]; exact if_neg c] at k
      exact ⟨_,rfl,k _ k1 M1⟩
   | zb u b t f =>
    obtain ⟨HQ,h3,hb,_⟩:=hR
    rcases (show u = "zero" ∨ u = "below" by simpa [My.zb] using h3) with rfl | rfl
    ·refine ⟨_,rfl,q,_,_,_,rfl,rfl,aS.of HQ,at0 _ _,rfl,_,rfl,aX (by decide +kernel) ?_⟩
     refine ⟨_,rfl,q,_,_,_,rfl,rfl,aS.of HQ,at0 _ _,rfl,_,rfl,cF (by decide +kernel) ?_⟩
     refine ⟨_,rfl,_,rfl,q,_,_,.int b,rfl,rfl,aS.of HQ,at1 _ _ _,m.p1,_,_,.int (z.bx b),rfl,rfl,bj.of M.box,M.at hb,rfl,_,rfl,dy (fun c=>?_) (fun c=>?_)⟩
     ·have c:z.bx b=0:=by simpa using of_decide_eq_true c
      rw [show cA (bh bells) (.zb "zero" b t f) h z=(t,z) by show (_,_)=_; rw [if_pos (.inl ⟨rfl,c⟩)]] at k
      refine Cg ?_
      exact ⟨_,rfl,2,rfl,q,_,_,.int t,rfl,rfl,aS.of HQ,rfl,k _ Keeps.refl M⟩
     ·have c:¬ z.bx b=0:=fun e=>c (by rw [e]; exact decide_eq_true rfl)
      rw [show cA (bh bells) (.zb "zero" b t f) h z=(h + 1,z) by show (_,_)=_; rw [if_neg (fun y=>y.elim (fun y=>c y.2) (fun y=>absurd y.1 (by decide +kernel)))]] at k
      refine ⟨_,rfl,q,_,_,_,rfl,rfl,aS.of HQ,at0 _ _,rfl,_,rfl,aX (by decide +kernel) ?_⟩
      refine iz ?_
      refine ⟨_,rfl,q,_,_,_,rfl,rfl,aS.of HQ,at0 _ _,rfl,_,rfl,aX (by decide +kernel) ?_⟩
      (refine ⟨_,rfl,q,_,_,_,rfl,rfl,aS.of HQ,at0 _ _,rfl,_,rfl,aX (by decide +kernel) ?_⟩; refine ⟨_,rfl,q,_,_,_,rfl,rfl,aS.of HQ,at0 _ _,rfl,_,rfl,aX (by decide +kernel) ?_⟩; refine ⟨_,rfl,q,_,_,_,rfl,rfl,aS.of HQ,at0 _ _,rfl,_,rfl,aX (by decide +kernel) ?_⟩; refine iz ?_)
      exact ⟨_,rfl,k _ Keeps.refl M⟩
    ·refine ⟨_,rfl,q,_,_,_,rfl,rfl,aS.of HQ,at0 _ _,rfl,_,rfl,aX (by decide +kernel) ?_⟩
     refine ⟨_,rfl,q,_,_,_,rfl,rfl,aS.of HQ,at0 _ _,rfl,_,rfl,aX (by decide +kernel) ?_⟩
     refine iz ?_
     refine ⟨_,rfl,q,_,_,_,rfl,rfl,aS.of HQ,at0 _ _,rfl,_,rfl,cF (by decide +kernel) ?_⟩
     refine ⟨_,rfl,_,rfl,q,_,_,.int b,rfl,rfl,aS.of HQ,at1 _ _ _,m.p1,_,_,.int (z.bx b),rfl,rfl,bj.of M.box,M.at hb,_,_,rfl,rfl,_,rfl,dy (fun c=>?_) (fun c=>?_)⟩
     ·have c:z.bx b < 0:=of_decide_eq_true c
      rw [show cA (bh bells) (.zb "below" b t f) h z=(t,z) by show (_,_)=_; rw [if_pos (.inr ⟨rfl,c⟩)]] at k
      exact ⟨_,rfl,2,rfl,q,_,_,.int t,rfl,rfl,aS.of HQ,rfl,k _ Keeps.refl M⟩
     ·have c:¬ z.bx b < 0:=fun e=>c (decide_eq_true e)
      rw [show cA (bh bells) (.zb "below" b t f) h z=(h + 1,z) by show (_,_)=_; rw [if_neg (fun y=>y.elim (fun y=>absurd y.1 (by decide +kernel)) (fun y=>c y.2))]] at k
      refine ⟨_,rfl,q,_,_,_,rfl,rfl,aS.of HQ,at0 _ _,rfl,_,rfl,aX (by decide +kernel) ?_⟩
      (refine ⟨_,rfl,q,_,_,_,rfl,rfl,aS.of HQ,at0 _ _,rfl,_,rfl,aX (by decide +kernel) ?_⟩; refine ⟨_,rfl,q,_,_,_,rfl,rfl,aS.of HQ,at0 _ _,rfl,_,rfl,aX (by decide +kernel) ?_⟩; refine ⟨_,rfl,q,_,_,_,rfl,rfl,aS.of HQ,at0 _ _,rfl,_,rfl,aX (by decide +kernel) ?_⟩; refine iz ?_)
      exact ⟨_,rfl,k _ Keeps.refl M⟩
   | table b ts =>
    obtain ⟨p,HQ,hp,hb,ht⟩:=hR
    (refine ⟨_,rfl,q,_,_,_,rfl,rfl,aS.of HQ,at0 _ _,rfl,_,rfl,aX (by decide +kernel) ?_⟩; refine ⟨_,rfl,q,_,_,_,rfl,rfl,aS.of HQ,at0 _ _,rfl,_,rfl,aX (by decide +kernel) ?_⟩; refine iz ?_; refine ⟨_,rfl,q,_,_,_,rfl,rfl,aS.of HQ,at0 _ _,rfl,_,rfl,aX (by decide +kernel) ?_⟩; refine iz ?_)
    refine ⟨_,rfl,q,_,_,_,rfl,rfl,aS.of HQ,at0 _ _,rfl,_,rfl,cF (by decide +kernel) ?_⟩
    refine ⟨_,rfl,_,rfl,q,_,_,.int b,rfl,rfl,aS.of HQ,at1 _ _ _,m.p1,_,_,.int (z.bx b),rfl,rfl,bj.of M.box,M.at hb,_,_,rfl,rfl,_,rfl,dy (fun e1=>?_) (fun e1=>?_)⟩
    ·have e1:=of_decide_eq_true e1
     refine ⟨_,rfl,q,_,_,.ref p,rfl,rfl,aS.of HQ,at2 _ _ _ _,p,_,rfl,.inr (aS.of hp),_,_,rfl,rfl,_,rfl,dy (fun e2=>?_) (fun e2=>?_)⟩
     ·have e2:=of_decide_eq_true e2
      rw [length_map] at e2
      rw [show cA (bh bells) (.table b ts) h z=(ts.getD (z.bx b).toNat 0,z) by show (_,_)=_; rw [if_pos ⟨e1,e2⟩]] at k
      exact ⟨_,rfl,q,_,_,.ref p,rfl,rfl,aS.of HQ,at2 _ _ _ _,_,rfl,_,rfl,q,_,_,.int b,rfl,rfl,aS.of HQ,at1 _ _ _,m.p1,_,_,.int (z.bx b),rfl,rfl,bj.of M.box,M.at hb,p,_,_,.int (ts.getD (z.bx b).toNat 0),rfl,rfl,aS.of hp,KZ ts _ ⟨e1,e2⟩,k _ Keeps.refl M⟩
     ·rw [show cA (bh bells) (.table b ts) h z=(h + 1,z) by show (_,_)=_; rw [if_neg (fun c=>e2 (decide_eq_true (by rw [length_map]; exact c.2)))]] at k
      (refine ⟨_,rfl,q,_,_,_,rfl,rfl,aS.of HQ,at0 _ _,rfl,_,rfl,aX (by decide +kernel) ?_⟩; refine ⟨_,rfl,q,_,_,_,rfl,rfl,aS.of HQ,at0 _ _,rfl,_,rfl,aX (by decide +kernel) ?_⟩; refine ⟨_,rfl,q,_,_,_,rfl,rfl,aS.of HQ,at0 _ _,rfl,_,rfl,aX (by decide +kernel) ?_⟩; refine iz ?_)
      exact ⟨_,rfl,k _ Keeps.refl M⟩
    ·rw [show cA (bh bells) (.table b ts) h z=(h + 1,z) by show (_,_)=_; rw [if_neg (fun c=>e1 (decide_eq_true c.1))]] at k
     refine ⟨_,rfl,iz ?_⟩
     (refine ⟨_,rfl,q,_,_,_,rfl,rfl,aS.of HQ,at0 _ _,rfl,_,rfl,aX (by decide +kernel) ?_⟩; refine ⟨_,rfl,q,_,_,_,rfl,rfl,aS.of HQ,at0 _ _,rfl,_,rfl,aX (by decide +kernel) ?_⟩; refine ⟨_,rfl,q,_,_,_,rfl,rfl,aS.of HQ,at0 _ _,rfl,_,rfl,aX (by decide +kernel) ?_⟩; refine iz ?_)
     exact ⟨_,rfl,k _ Keeps.refl M⟩
  ·have no:∀ x ∈ mz,¬ decide (V.str r.word=V.str x)=true:=fun x hx e=>h6 (strEq e ▸ hx)
   rw [show cA (bh bells) r h z=(h + 1,z) by
    cases r with
    | eE u t f=>exact absurd ((by decide +kernel:∀ u ∈ My.eE,u ∈ mz) u hR.2.1) h6
    | zb u b t f=>exact absurd ((by decide +kernel:∀ u ∈ My.zb,u ∈ mz) u hR.2.1) h6
    | table b ts=>exact absurd (show ("table" : Str) ∈ mz by decide +kernel) h6
    | _=>rfl] at k
   refine ⟨_,rfl,q,_,_,_,rfl,rfl,aS.of Hl,at0 _ _,rfl,_,rfl,aX (no _ (by decide +kernel)) ?_⟩
   refine ⟨_,rfl,q,_,_,_,rfl,rfl,aS.of Hl,at0 _ _,rfl,_,rfl,aX (no _ (by decide +kernel)) ?_⟩
   refine iz ?_
   refine ⟨_,rfl,q,_,_,_,rfl,rfl,aS.of Hl,at0 _ _,rfl,_,rfl,aX (no _ (by decide +kernel)) ?_⟩
   refine iz ?_
   refine ⟨_,rfl,q,_,_,_,rfl,rfl,aS.of Hl,at0 _ _,rfl,_,rfl,aX (no _ (by decide +kernel)) ?_⟩
   refine ⟨_,rfl,q,_,_,_,rfl,rfl,aS.of Hl,at0 _ _,rfl,_,rfl,aX (no _ (by decide +kernel)) ?_⟩
   refine ⟨_,rfl,q,_,_,_,rfl,rfl,aS.of Hl,at0 _ _,rfl,_,rfl,aX (no _ (by decide +kernel)) ?_⟩
   refine ⟨_,rfl,q,_,_,_,rfl,rfl,aS.of Hl,at0 _ _,rfl,_,rfl,aX (no _ (by decide +kernel)) ?_⟩
   refine iz ?_
   exact ⟨_,rfl,k _ Keeps.refl M⟩
end
theorem xq {ring:Int→Bool} {r:Rw} {h:Int} {z:Zt} (hs:¬ r.word ∈ (["stop", "halt", "back"]:List Str)):aZ ring r h z={ (cA ring r h (fz r z)).2 with here:=.int (cA ring r h (fz r z)).1,told:=(aZ ring r h z).told,seen:=(aZ ring r h z).seen }:=by
 cases r with
 | stop=>exact absurd (by decide +kernel) hs
 | back=>exact absurd (by decide +kernel) hs
 | halt v=>exact absurd (show ("halt" : Str) ∈ (["stop", "halt", "back"]:List Str) by decide +kernel) hs
 | two u b v =>
  simp only [aZ,cA,fz]
  by_cases h1:u = "keep"
  ·simp only [if_pos h1]
  by_cases h2:u = "put"
  ·simp only [if_neg h1,if_pos h2]
  by_cases h3:u = "see"
  ·simp only [if_neg h1,if_neg h2,if_pos h3]
  ·simp only [if_neg h1,if_neg h2,if_neg h3]
 | eE u t f =>
  rw [show fz (.eE u t f) z=z from rfl]
  simp only [aZ,cA]
  by_cases h1:u = "jump"
  ·simp only [if_pos h1]
  by_cases h2:u = "call"
  ·simp only [if_neg h1,if_pos h2]
  by_cases h3:ring z.k=true
  ·simp only [if_neg h1,if_neg h2,if_pos h3]
  ·simp only [if_neg h1,if_neg h2,if_neg h3]
 | _=>rfl
def pB (r:Rw) (h:Int) (z:Zt):V:=match z.how with
 | some _=>.non
 | none=>if r.word = "back" then (match z.here with | .int t=>.int (t - 1) | _=>.non) else .int h
theorem K0 {ring:Int→Bool} {r:Rw} {h:Int} {z:Zt}:(cA ring r h z).2.how=z.how:=by
 cases r with
 | eE u t f =>
  simp only [cA]
  split
  ·rfl
  split
  ·rfl
  split <;> rfl
 | _=>rfl
theorem K9 {r:Rw} {z:Zt}:(fz r z).how=z.how∧(fz r z).here=z.here:=by
 cases r with
 | two u b v =>
  simp only [fz]
  split
  ·exact ⟨rfl,rfl⟩
  split
  ·exact ⟨rfl,rfl⟩
  split
  ·exact ⟨rfl,rfl⟩
  ·exact ⟨rfl,rfl⟩
 | _=>exact ⟨rfl,rfl⟩
section
variable {P:Program} {w:World} {K:Frag} {mg:Str→Option Value} {base:Heap}
def zy:Sp:=fun vs H Q _=>∃ (lr lb a q:Addr) (m:LA) (B:Nat) (z:Zt) (r:Nat) (n:Int) (rw:Rw) (bells:List Int) (rows:List V),vs=[.ref lr,.ref a,.ref lb]∧LS H a m B z∧B + 1 < 900∧z.how=none∧z.here=.int r∧H lr=some (.lst rows)∧rows[r]? = some (.ref q)∧hU H q n rw∧H lb=some (.lst (bells.map V.int))∧¬ i0 m a lb ∧
 ∀ H',Keeps (i0 m a) H H'→LS H' a m (B + 2) (aZ (bh bells) rw r z)→Q (pB rw r (aZ (bh bells) rw r z)) H'
theorem tN:aJ ["_law_rows_here", "_law_state", "_law_bells", "_law_row_here", "_law_begin"] ["_law_rows_here", "_law_state", "_law_bells"] (ak fZ):=⟨rfl,rfl,rfl,by decide +kernel,rfl,by decide +kernel,by decide +kernel⟩
theorem DE {f fD fM:Addr} {fd Jb fdM:cx} (F:dO K "_law_step" "_law_step" fZ f fd) (T:Txt K w.params mg)
  (GD:aR P w K mg base bV 1 fD Jb ["_law_row_here", "_law_state"] DB) (kD:KI K fD) (bD:Binds K Jb ["_law_row_here", "_law_state"] []) (mD:mg "_law_done" = some (.ref fD))
  (GM:aR P w K mg base bV 1 fM fdM ["_law_row_here", "_law_state", "_law_bells"] zx) (kM:KI K fM) (bM:Binds K fdM ["_law_row_here", "_law_state", "_law_bells"] []) (mM:mg "_law_moved" = some (.ref fM)):aR P w K mg base bV 2 f fd ["_law_rows_here", "_law_state", "_law_bells"] zy:=by
 refine F.ok tN (fun vs H Q E h=>?_) (fun cdv A outer s H vs Q E hr h=>?_)
 ·obtain ⟨lr,lb,a,q,m,B,z,r,n,rw,bells,rows,rfl,_⟩:=h
  rfl
 ·obtain ⟨lr,lb,a,q,m,B,z,r,n,rw,bells,rows,rfl,M0,hB,hn,hh,hlr,hrow,hR,hlb,hlx,k⟩:=h
  have M:=M0.more (Nat.le_add_right B 2) (by omega)
  have hu:=cI hr
  have hu0:=hr.JU
  have hr1:=hr
  obtain ⟨h0,w0,ho,hw,hq0⟩:=M.st
  have hq0:=(hq0 hn).trans hh
  subst hq0
  obtain ⟨items,HQ⟩:=lS hR
  refine ⟨_,(aB (aU (i:=3) tN.nd rfl (Or.inl rfl) (au aK (pv 0) (aY hu (pv 1) aq (fun _ _=>rfl)) (fun _ _=>rfl)))
   (aB (aU (i:=4) tN.nd rfl (Or.inl rfl) (aY hu (pv 1) aq (fun _ _=>rfl)))
   (aB (cq (iE (aF dh (au ay (pv 3) ai (fun _ _=>rfl)) (bg (ae aq (ae aq ao))) rfl) (gX (eM (aF bX (au ay (pv 3) ai (fun _ _=>rfl)) aq (aP _)) (d6 (aF (Cy hu0) (aY hu (pv 1) aq (fun _ _=>rfl)) (cr ao) (aP _)))).pt)).pt (aB (dq hu (pv 1) aq (au aK (cr (ae (pv 3) (ae (bg (ae aq ao)) ao))) (bU zT (by rfl) T.int w6 (ae (ie bX (au ay (pv 3) ai (fun _ _=>rfl)) aq (aP _)) ao)) (fun _ _=>rfl)) rfl)
   (aA (aV eA))) aN)
   (aB (cq (aF bX (au ay (pv 3) ai (fun _ _=>rfl)) aq (aP _)) (aB (dq hu (pv 1) aq (oF fb PySem.F.slot_list_pop PySem.F.type_list_pop B8 (aY hu (pv 1) aq (fun _ _=>rfl))) rfl)
   (aA (aV (aO iw (aY hu (pv 1) aq (fun _ _=>rfl)) ai)))) aN)
   (aB (bz (aQ GD hr1 (by rfl) mD kD bD .nil bp (ae (pv 3) (ae (pv 1) ao))))
   (aB (dq hu (pv 1) aq (aQ GM hr1 (by rfl) mM kM bM .nil bp (ae (pv 3) (ae (pv 1) (ae (pv 2) ao)))) rfl)
   (aA (aV (pv 4))))))))),?_⟩
  refine ⟨_,rfl,_,rfl,a,_,rfl,df ho rN,lr,_,_,.ref q,rfl,rfl,bj.of hlr,ck (j:=r) hrow,?_⟩
  refine ⟨_,rfl,a,_,rfl,df ho rN,?_⟩
  refine ⟨_,rfl,q,_,_,.str rw.word,rfl,rfl,aS.of HQ,at0 _ _,cZ,fun t1 n1=>⟨t1,(["stop", "halt"]:List Str).map V.str,rfl,.inr (aS.of ah),rfl,rfl,_,rfl,?_⟩⟩
  have s1:=aj (o:=.tup [V.str "stop",V.str "halt"]) n1
  have M1:=M.same s1
  have ho1:=s1 _ _ ho
  have Hm:=s1 _ _ HQ
  have hw1:=hw.tups (.of s1)
  have k1:Keeps (i0 m a) H _:=.same s1
  generalize upd H t1 (.tup [V.str "stop",V.str "halt"])=H1 at s1 M1 ho1 Hm hw1 k1 ⊢
  have ends:∀ (H2:Hp),Same H1 H2→∀ (xs:List V),((rw.word = "back" ∧ xs=[.str "home"])∨(¬ rw.word = "back" ∧ H q=some (.tup xs)))→{ z with here:=.non,how:=some xs }=aZ (bh bells) rw r z →
    Fb (Iv (zQ 1) (tC (.str "end")) (JN (Fk K) (uY (qW (zQ 3) (qW (MI (qW (tC (.str "home")) qv)) qv))) (RK (fun xs H Q=>(∃ i,xs=[.int i]∧Q (.int i) H)∨∃ k,xs=[.bl k]∧Q (.int (if k then 1 else 0)) H) (qW (JN rEq (JN (Fl K) (zQ 3) (tC (.int 0))) (tC (.str "back"))) qv)))) (Mr (tC .non)) { nx:=fun _ H'=>Q .non H',rt:=Q } [some (.ref lr),some (.ref a),some (.ref lb),some (.ref q),some (.int r)] H2:=by
   intro H2 s2 xs hx e2
   have M2:=M1.same s2
   refine ⟨_,rfl,oY,fun th nh=>⟨cZ,fun ll nl=>?_⟩⟩
   have s4:=s2.trans ((aj (o:=.tup [V.str "home"]) nh).trans (aj (o:=.lst [V.ref q,V.ref th]) nl))
   refine ⟨_,rfl,q,_,_,.str rw.word,rfl,rfl,aS.of (s4 _ _ Hm),at0 _ _,rfl,.inr ⟨_,rfl,ll,_,_,.ref (if rw.word = "back" then th else q),rfl,rfl,bj.of ah,?_,_,rfl,a,_,rfl,iy.k (k:=Sum.inr "end") (s4 _ _ ho1) zv,?_⟩⟩
   ·by_cases c:rw.word = "back"
    ·rw [if_pos c,if_pos (by rw [c]; exact decide_eq_true rfl)]
     exact at1 _ _ _
    ·rw [if_neg c,if_neg (neq c)]
     exact at0 _ _
   ·rw [NS]
    have hv:iM (upd (upd H2 th (.tup [V.str "home"])) ll (.lst [V.ref q,V.ref th])) (.ref (if rw.word = "back" then th else q)) (some xs):=by
     rcases hx with ⟨hb,rfl⟩ | ⟨hb,hq⟩
     ·rw [if_pos hb]
      exact ⟨th,rfl,dX nl ah⟩
     ·rw [if_neg hb]
      exact ⟨q,rfl,s4 _ _ (s1 _ _ hq)⟩
    have M5:=(M1.same s4).put (h':=.int r) (hh:=.non) (k':=z.k) hv (by intro z; cases z)
    have kk:=k _ ((k1.trans (.same s4)).upd (o':=.dK (ld m (.int r) (.ref (if rw.word = "back" then th else q)) z.k)) (s4 _ _ ho1) (by intro _ z; cases z) (.inl rfl)) (e2 ▸ M5)
    rw [← e2] at kk
    exact kk
  by_cases h3:rw.word ∈ (["stop", "halt", "back"]:List Str)
  ·cases rw with
   | stop =>
    refine cF (SM (by decide +kernel)) ?_
    refine Cg ?_
    exact ends _ (Same.refl _) [.str "stop"] (.inr ⟨by decide +kernel,hR⟩) rfl
   | halt v =>
    refine cF (SM (show ("halt" : Str) ∈ (["stop", "halt"]:List Str) from by decide +kernel)) ?_
    refine Cg ?_
    exact ends _ (Same.refl _) [.str "halt",.int v] (.inr ⟨show ¬ ("halt" : Str) = "back" by decide +kernel,hR⟩) rfl
   | back =>
    refine aX (nin (by decide +kernel)) ?_
    refine ⟨_,rfl,q,_,_,_,rfl,rfl,aS.of Hm,at0 _ _,rfl,_,rfl,cF (by decide +kernel) ?_⟩
    refine ⟨_,rfl,a,_,rfl,df ho1 tL,lQ,fun le ne=>?_⟩
    have s2:=aj (o:=.lst []) ne
    have M2:=M1.same s2
    refine ⟨m.p4,le,_,_,rfl,rfl,bj.of M2.gK,bj.of ah,(fun i x y hx hy=>by simp at hy),_,rfl,?_⟩
    refine dy (fun c=>?_) (fun c=>?_)
    ·have c:z.pile=[]:=by simpa using of_decide_eq_true c
     exact ends _ s2 [.str "home"] (.inl ⟨rfl,rfl⟩) (iN (z:=z) c).symm
    ·have c:¬ z.pile=[]:=fun e=>c (by rw [e]; exact decide_eq_true rfl)
     obtain ⟨p',y,e⟩:∃ p' y,z.pile=p' ++ [y]:=by
      rcases eq_nil_or_concat z.pile with e | ⟨p',y,e⟩
      ·exact absurd e c
      ·exact ⟨p',y,by simpa using e⟩
     have La:=s2 _ _ Hm
     refine ⟨_,rfl,q,_,_,_,rfl,rfl,aS.of La,at0 _ _,rfl,_,rfl,cF (by decide +kernel) ?_⟩
     refine ⟨_,rfl,a,_,rfl,df (s2 _ _ ho1) tL,.inl ⟨rfl,_,bj.of M2.gK⟩,m.p4,_,.int y,rfl,rfl,M2.gK,?_,?_⟩
     ·rw [e]
      simp
     ·have k2:Keeps (i0 m a) H _:=(k1.trans (.same s2)).upd (o':=.lst (z.pile.map V.int).dropLast) M2.gK (by intro _ z; cases z) (.inr (.inr (.inr (.inr rfl))))
      have e3:(z.pile.map V.int).dropLast=p'.map V.int:=by rw [e]; simp
      rw [e3] at k2 ⊢
      have M3:=M2.rJ (p':=p') (by have:=M0.lens; rw [e] at this; simp at this; omega)
      obtain ⟨h3,w3,Rj,NT,hq3⟩:=M3.st
      refine ⟨_,rfl,a,_,rfl,iy.k (k:=Sum.inr "at") Rj zv,?_⟩
      rw [Ja]
      have M4:=M3.put (h':=.int y) (hh:=.int y) (k':=z.k) NT (fun _=>rfl)
      refine ⟨_,rfl,a,_,rfl,df ah rN,_,_,rfl,rfl,?_⟩
      have kk:=k _ (k2.upd (o':=.dK (ld m (.int y) w3 z.k)) Rj (by intro _ z; cases z) (.inl rfl))
      rw [lz (z:=z) e] at kk
      have kk:=kk M4
      rw [show pB .back r { z with here:=.int y,pile:=p' }=.int (y - 1) by simp only [pB,hn]; exact if_pos rfl] at kk
      exact kk
   | tell b=>exact absurd h3 (show ¬ ("tell" : Str) ∈ (["stop", "halt", "back"]:List Str) by decide +kernel)
   | table b ts=>exact absurd h3 (show ¬ ("table" : Str) ∈ (["stop", "halt", "back"]:List Str) by decide +kernel)
   | two u b v=>exact absurd h3 ((by decide +kernel:∀ u ∈ ten,¬ u ∈ (["stop", "halt", "back"]:List Str)) u hR.2.1)
   | eE u b v=>exact absurd h3 ((by decide +kernel:∀ u ∈ My.eE,¬ u ∈ (["stop", "halt", "back"]:List Str)) u hR.2.1)
   | zb u b t v=>exact absurd h3 ((by decide +kernel:∀ u ∈ My.zb,¬ u ∈ (["stop", "halt", "back"]:List Str)) u hR.2.1)
  ·have h2:¬ rw.word = "back" := fun e=>h3 (by rw [e]; decide +kernel)
   have h1:¬ rw.word ∈ (["stop", "halt"]:List Str):=fun e=>h3 (by
    rcases mem_cons.mp e with e | e
    ·rw [e]; decide +kernel
    ·rw [mem_singleton.mp e]; decide +kernel)
   refine aX (nin h1) ?_
   refine ⟨_,rfl,q,_,_,.str rw.word,rfl,rfl,aS.of Hm,at0 _ _,rfl,_,rfl,aX (neq h2) ?_⟩
   refine iz ?_
   refine ⟨_,rfl,q,_,_,.str rw.word,rfl,rfl,aS.of Hm,at0 _ _,rfl,_,rfl,aX (neq h2) ?_⟩
   refine ⟨_,rfl,_,rfl,a,q,m,B,z,n,rw,rfl,M0.same s1,by omega,hR.tups (.of s1),fun H2 k2 M2=>?_⟩
   have SO:H2 lb=some (.lst (bells.map V.int)):=k2 _ _ (s1 _ _ hlb) (.inl hlx)
   have k3:=k1.trans k2
   have hd:=K9 (r:=rw) (z:=z)
   refine ⟨_,rfl,_,rfl,_,rfl,a,q,lb,m,B + 1,fz rw z,r,n,rw,bells,rfl,M2,by omega,hd.1.trans hn,hd.2.trans hh,hR.tups k3.tups,SO,fun H4 k4 M4=>?_⟩
   obtain ⟨h5,w5,ho5,NU,hq5⟩:=M4.st
   refine ⟨_,rfl,a,_,rfl,iy.k (k:=Sum.inr "at") ho5 zv,?_⟩
   rw [Ja]
   have M5:=M4.put (h':=.int (cA (bh bells) rw r (fz rw z)).1) (hh:=.int (cA (bh bells) rw r (fz rw z)).1) (k':=(cA (bh bells) rw r (fz rw z)).2.k) NU (fun _=>rfl)
   have sm:=xq (ring:=bh bells) (r:=rw) (h:=r) (z:=z) h3
   have kk:=k _ ((k3.trans k4).upd (o':=.dK (ld m (.int (cA (bh bells) rw r (fz rw z)).1) w5 (cA (bh bells) rw r (fz rw z)).2.k)) ho5 (by intro _ z; cases z) (.inl rfl)) (sm ▸ M5.any)
   have hq:(aZ (bh bells) rw r z).how=none:=by rw [sm]; exact K0.trans (hd.1.trans hn)
   rw [show pB rw r (aZ (bh bells) rw r z)=.int r by simp only [pB,hq]; exact if_neg h2] at kk
   exact ⟨_,rfl,kk⟩
end
theorem Ay {kvs:List (Key × V)} {k:Key} (h:¬ k ∈ kvs.map (·.1)):cy kvs k=none:=by
 cases e:cy kvs k with
 | none=>rfl
 | some v =>
  exfalso
  have h2:(kvs.any fun kv=>decide (kv.1=k))=true:=by rw [dR,e]; rfl
  obtain ⟨p,hp,hk⟩:=List.any_eq_true.mp h2
  exact h (mem_map.mpr ⟨p,hp,of_decide_eq_true hk⟩)
theorem rO:∀ (more acc:List (Key × V)),((acc ++ more).map (·.1)).Nodup→eO acc more=acc ++ more
 | [],acc,_=>by show acc=acc ++ []; simp
 | p :: r,acc,h=>by
  have h1:¬ p.1 ∈ acc.map (·.1):=by
   rw [map_append,List.nodup_append] at h
   intro z
   exact h.2.2 p.1 z p.1 (by simp) rfl
  show eO (putK acc p.1 p.2) r=_
  rw [u7 _ (Ay h1)]
  have:acc ++ p :: r=acc ++ [(p.1,p.2)] ++ r:=by simp
  rw [this] at h ⊢
  exact rO r _ h
theorem lT {ns:List Str} {vs:List V} (h:ns.Nodup) (hl:ns.length ≤ vs.length):eO [] (gH ns vs)=gH ns vs:=by
 have e:(gH ns vs).map (·.1)=ns.map Sum.inr:=by
  unfold gH
  rw [map_map]
  have:((fun x:Key × V=>x.1) ∘ fun p:Str × V=>((Sum.inr p.1:Key),p.2))=Sum.inr ∘ Prod.fst:=rfl
  rw [this,← map_map,List.map_fst_zip hl]
 rw [rO _ [] (by rw [List.nil_append,e]; exact h.map _ (fun a b n z=>n (Sum.inr.inj z)))]
 rfl
section
variable {P:Program} {w:World} {K:Frag} {mg:Str→Option Value} {base:Heap}
def zA:Sp:=fun vs H Q _=>∃ (lb lc:Addr) (bs:List Int) (d:List (Key × V)) (cf:Int→Int),vs=[.ref lb,.ref lc]∧H lb=some (.lst (bs.map V.int))∧bs.length=8∧H lc=some (.dK d)∧Rep d cf∧d.length ≤ 50 ∧
 ∀ (a:Addr) (m:LA) (H':Hp),Same H H'→(∀ c,i0 m a c→H c=none)→LS H' a m 50 (z0 bs cf)→Q (.ref a) H'
theorem Hn:aJ ["_law_boxes", "_law_cells"] ["_law_boxes", "_law_cells"] (ak eY):=⟨rfl,rfl,rfl,by decide +kernel,rfl,by decide +kernel,by decide +kernel⟩
theorem DF {f:Addr} {fd:cx} (F:dO K "_law_start" "_law_start" eY f fd) (T:Txt K w.params mg):aR P w K mg base bV 1 f fd ["_law_boxes", "_law_cells"] zA:=by
 refine F.ok Hn (fun vs H Q E h=>?_) (fun cdv A outer s H vs Q E hr h=>?_)
 ·obtain ⟨lb,lc,bs,d,cf,rfl,_⟩:=h
  rfl
 ·obtain ⟨lb,lc,bs,d,cf,rfl,hlb,b8,zB,hrep,hdl,k⟩:=h
  have hu:=cI hr
  refine ⟨_,(aA (aV (nY (dr aq ai (dr aq (bU cJ (by rfl) T.list ei (ae (pv 0) ao)) (dr aq (bU iU (by rfl) T.dict ly (ae (pv 1) ao)) (dr aq je (dr aq (cr ao) (dr aq ai (dr aq eA nX))))))) rfl rfl (cons_ne_nil _ _) (le_of_ble_eq_true rfl)))),?_⟩
  refine fun a na=>?_
  refine ⟨_,rfl,lb,_,rfl,.inl (bj.of (dX na hlb)),fun l1 n1=>?_⟩
  refine ⟨_,rfl,lc,_,rfl,dX n1 (dX na zB),fun l2 n2=>?_⟩
  refine fun l3 n3=>?_
  refine ⟨lQ,fun l4 n4=>?_⟩
  have s0:=aj (o:=.dK []) na
  have s1:=aj (o:=.lst (bs.map V.int)) n1
  have s2:=aj (o:=.dK d) n2
  have s3:=aj (o:=.dK []) n3
  have s4:=aj (o:=.lst []) n4
  have a4:=((s1.trans s2).trans (s3.trans s4)) a _ ah
  refine ⟨a4,gH ik (lvals ⟨l1,l2,l3,l4⟩ (.int 0) .non 0),rfl,(show 7 ≤ 15 by decide),?_⟩
  have e7:ik.length ≤ (lvals ⟨l1,l2,l3,l4⟩ (.int 0) .non 0).length:=le_refl 7
  rw [lT dZ e7]
  have g1:=((s2.trans s3).trans s4) l1 _ ah
  have g2:=(s3.trans s4) l2 _ ah
  have g3:=s4 l3 _ ah
  have e1:l1 ≠ a:=(az ah n1).symm
  have e2:l2 ≠ a:=(az (s1 _ _ ah) n2).symm
  have e3:l3 ≠ a:=(az ((s1.trans s2) _ _ ah) n3).symm
  have e4:l4 ≠ a:=(az ((s1.trans (s2.trans s3)) _ _ ah) n4).symm
  have t4:=s0.trans ((s1.trans s2).trans (s3.trans s4))
  refine k a ⟨l1,l2,l3,l4⟩ _ (fun c o e=>?_) ?_ ⟨⟨.int 0,.non,ah,rfl,fun _=>rfl⟩,?_,b8,⟨d,?_,hrep,hdl⟩,⟨[],?_,Rep.nil,zero_le _⟩,?_,?_,?_,e2.symm,e3.symm,zero_le _,by decide⟩
  ·rw [aL (az e na)]
   exact t4 _ _ e
  ·rintro c (rfl | rfl | rfl | rfl | rfl)
   ·exact na
   ·exact s0.free n1
   ·exact (s0.trans s1).free n2
   ·exact (s0.trans (s1.trans s2)).free n3
   ·exact (s0.trans (s1.trans (s2.trans s3))).free n4
  ·rw [aL e1]
   exact g1
  ·rw [aL e2]
   exact g2
  ·rw [aL e3]
   exact g3
  ·rw [aL e4]
   exact ah
  ·exact az ((s2.trans s3) _ _ ah) n4
  ·exact az ah n3
end
theorem gh.snoc {H:Hp} {ts:List Addr} {ps:List (Int × Int)} {t:Addr} {p:Int × Int} (h:gh H ts ps) (ht:H t=some (.tup [.int p.1,.int p.2])):gh H (ts ++ [t]) (ps ++ [p]):=by
 refine ⟨by simp [h.1],fun i t' p' a b=>?_⟩
 rcases lt_or_ge i ts.length with z | z
 ·rw [am z] at a
  rw [am (by have:=h.1; omega)] at b
  exact h.2 i t' p' a b
 ·rw [ar z] at a
  rw [ar (by have:=h.1; omega)] at b
  cases hz:i - ts.length with
  | zero =>
   have hz2:i - ps.length=0:=by have:=h.1; omega
   rw [hz] at a
   rw [hz2] at b
   simp at a b
   subst a
   subst b
   exact ht
  | succ d=>rw [hz] at a; simp at a
theorem at4 (a b c d i:Int) (h:0 ≤ i∧i < 4):∃ v:Int,mV [V.int a,.int b,.int c,.int d] i=some (.int v):=by
 rcases (show i=0∨i=1∨i=2∨i=3 by omega) with rfl | rfl | rfl | rfl
 ·exact ⟨a,rfl⟩
 ·exact ⟨b,rfl⟩
 ·exact ⟨c,rfl⟩
 ·exact ⟨d,rfl⟩
theorem tO (ns:List Int) (lo hi:Option Int):∃ cs:List Int,ib (ns.map V.int) lo hi=cs.map V.int∧cs.length ≤ ns.length:=by
 refine ⟨(ns.drop (HT.eG ns.length 0 lo)).take (HT.eG ns.length ns.length hi - HT.eG ns.length 0 lo),?_,?_⟩
 ·unfold ib
  rw [length_map,map_take,List.map_drop]
 ·rw [length_take,List.length_drop]
  omega
theorem NV (ns:List Int) (h:ns.length=14):ib (ns.map V.int) none (some 8)=(ns.take 8).map V.int:=by
 unfold ib
 rw [show (some (8:Int))=some ((8:Nat):Int) from rfl,HT.nV,HT.B2,List.drop_zero,Nat.sub_zero,length_map,h,map_take]
 rfl
theorem rP:∀ (ps:List (Int × Int)) (acc:List (Key × V)) (f:Int→Int),Rep acc f→∃ f',Rep (eO acc (iD ps)) f'
 | [],acc,f,r=>⟨f,r⟩
 | p :: ps,acc,f,r=>rP ps _ _ (r.put p.1 p.2)
section
variable {P:Program} {w:World} {K:Frag} {mg:Str→Option Value} {base:Heap}
def Jc:Sp:=fun vs H Q _=>∃ c:Int,vs=[.int c]∧∀ (t pb pc pl:Addr) (bs bells:List Int) (d:List (Key × V)) (cf:Int→Int) (H':Hp),Same H H'→H' t=some (.tup [.ref pb,.ref pc,.ref pl])→H' pb=some (.lst (bs.map V.int))→bs.length=8 →
 H' pc=some (.dK d)→Rep d cf→d.length ≤ 50→H' pl=some (.lst (bells.map V.int))→bells.length ≤ 100→Q (.ref t) H'
theorem zC:aJ ["_law_cell", "_law_xs", "_law_boxes", "_law_cells"] ["_law_cell"] (ak cn):=⟨rfl,rfl,rfl,by decide +kernel,rfl,by decide +kernel,by decide +kernel⟩
def Ho:Scope:={ kind:=.function,names:=[(".0",.local),("_law_x",.local)],isGenerator:=false,isCoroutine:=false,more:=[] }
theorem zD:dS (ak cn) Ho ["_law_cell", "_law_xs", "_law_boxes", "_law_cells"] ["_law_x"] [none]:=⟨rfl,by decide +kernel,by decide +kernel,by decide +kernel,by decide +kernel,by decide +kernel⟩
def Hq:Scope:={ kind:=.function,names:=[(".0",.local),("_law_x",.local)],isGenerator:=false,isCoroutine:=false,more:=[] }
theorem zE:dS (ak cn) Hq ["_law_cell", "_law_xs", "_law_boxes", "_law_cells"] ["_law_x"] [none]:=⟨rfl,by decide +kernel,by decide +kernel,by decide +kernel,by decide +kernel,by decide +kernel⟩
def Hr:Scope:={ kind:=.function,names:=[(".0",.local),("_law_x",.local)],isGenerator:=false,isCoroutine:=false,more:=[] }
theorem zF:dS (ak cn) Hr ["_law_cell", "_law_xs", "_law_boxes", "_law_cells"] ["_law_x"] [none]:=⟨rfl,by decide +kernel,by decide +kernel,by decide +kernel,by decide +kernel,by decide +kernel⟩
theorem Lb {f fS:Addr} {fd pC:cx} (F:dO K "_law_beginning" "_law_beginning" cn f fd) (T:Txt K w.params mg)
  (GS:aR P w K mg base bV 1 fS pC ["_law_cell", "_law_many"] lj) (kS:KI K fS) (bS:Binds K pC ["_law_cell", "_law_many"] []) (mS:mg "_law_stream" = some (.ref fS)):aR P w K mg base bV 2 f fd ["_law_cell"] Jc:=by
 refine F.ok zC (fun vs H Q E h=>?_) (fun cdv A outer s H vs Q E hr h=>?_)
 ·obtain ⟨c,rfl,_⟩:=h
  rfl
 ·obtain ⟨c,rfl,k⟩:=h
  have hu:=cI hr
  refine ⟨_,(aB (aU (i:=1) zC.nd rfl (Or.inl rfl) (aQ GS hr (by rfl) mS kS bS .nil bp (ae (pv 0) (ae ai ao))))
   (aB (sx (i:=2) (N':=["_law_x"]) (fr:=[none]) zC.nd rfl rfl zD rfl (dB (fi iR (pv 1) jn (eL ai))) (fun C s0 H0 fp=>(cG (i:=0) zD.nd rfl (Or.inl rfl))) (fun C s0 H0 fp=>iT) (fun C s0 H0 fp=>(au (r:=Fk K) aK (cr (ae (aO iw (aO bq (pv 0) ai) ai) (ae (aO bq (pv 0) ai) (ae (aO iw (aO bq (pv 0) ai) ai) (ae (aO bq (pv 0) ai) ao))))) (aO bq (aO cv (pv 0) ai) ai) (fun _ _=>rfl))))
   (aB (aU (i:=3) zC.nd rfl (Or.inl rfl) (bU (ng rfl) (by rfl) T.dict ly (ae (gj (N':=["_law_x"]) (fr:=[none]) zE rfl (dB (fi iR (pv 1) (eL ai) (eL (aO dv ai (aO bq (au aK (pv 1) ai (fun _ _=>rfl)) ai))))) (fun C s0 H0 fp=>(cG (i:=0) zE.nd rfl (Or.inl rfl))) (fun C s0 H0 fp=>iT) (fun C s0 H0 fp=>(bg (ae (aO iw (aO bq (pv 0) ai) ai) (ae (aO iw (aO bq (aO cv (pv 0) ai) ai) ai) ao))))) ao)))
   (aA (aV (bg (ae (pv 2) (ae (pv 3) (ae (gj (N':=["_law_x"]) (fr:=[none]) zF rfl (dB (fi iR (pv 1) (eL ai) (eL (aO dv ai (aO bq (au aK (pv 1) ai (fun _ _=>rfl)) ai))))) (fun C s0 H0 fp=>(cG (i:=0) zF.nd rfl (Or.inl rfl))) (fun C s0 H0 fp=>iT) (fun C s0 H0 fp=>(aO bq (pv 0) ai))) ao))))))))),?_⟩
  refine ⟨_,rfl,c,14,rfl,(by decide),fun l ms H1 s1 nl hl h14 _=>?_⟩
  refine ⟨_,rfl,_,rfl,l,_,rfl,bj.of hl,fun l2 n2=>?_⟩
  rw [NV ms h14]
  have s2:=aj (o:=.lst ((ms.take 8).map V.int)) n2
  have h2:upd H1 l2 (.lst ((ms.take 8).map V.int)) l2=_:=ah
  generalize upd H1 l2 (.lst ((ms.take 8).map V.int))=H2 at s2 h2 ⊢
  refine ⟨l2,rfl,⟨_,bj.of h2⟩,fun D nD=>fF (K:=K) (a:=l2) (xs:=(ms.take 8).map V.int) (fun j σ ys G=>∃ (v:Option V) (zs:List Int),σ=[v]∧ys=zs.map V.int∧zs.length=j∧Same H2 G∧G D=some (.lst ys)) ?_ ?_ ?_ ?_⟩
  ·exact ⟨none,[],rfl,rfl,rfl,aj nD,ah⟩
  ·rintro j σ ys G _ ⟨v,zs,rfl,rfl,_,s3,_⟩
   exact bj.of (s3 _ _ h2)
  ·rintro j x σ ys G hx ⟨v,zs,rfl,rfl,hz,s3,hD⟩
   have hjl:=(ac.mp hx).1
   rw [ab] at hx
   obtain ⟨y,_,rfl⟩:=map_eq_some_iff.mp hx
   rw [length_map,length_take] at hjl
   obtain ⟨u,hat⟩:=at4 (y % 5 - 2) (y % 16) (y % 2001 - 1000) (y % 4) (y / 2001 % 4) (jM _ (by decide))
   refine ⟨_,rfl,_,_,rfl,rfl,Sz,_,_,rfl,rfl,_,rfl,_,_,rfl,rfl,Nw,_,rfl,_,_,rfl,rfl,FK,_,_,rfl,rfl,_,rfl,_,_,rfl,rfl,vB,CT,fun l4 n4=>⟨_,rfl,_,_,rfl,rfl,⟨by show (0:Int) < 2001; decide,by show (2001:Int) < _; decide⟩,_,_,rfl,rfl,vB,l4,_,_,.int u,rfl,rfl,bj.of ah,hat,dX n4 hD,bQ (by rw [length_map]; omega),_,zs ++ [u],rfl,by simp,by simp [hz],cQ (s3.trans (aj n4)) nD,ah⟩⟩
  rintro σ ys H3 ⟨v,bs,rfl,rfl,b8,s3,hD⟩
  rw [length_map,length_take,h14] at b8
  have hl3:=s3 _ _ (s2 _ _ hl)
  have a11:∀ (i:Nat) (hi:i < 14),mV (ms.map V.int) (i:Int)=some (.int (ms[i]'(by omega))):=fun i hi=>ck (by rw [ab,aa (by omega)]; rfl)
  refine ⟨_,rfl,_,rfl,_,rfl,l,_,_,_,rfl,rfl,bj.of hl3,a11 11 (by decide),_,_,rfl,rfl,vB,_,_,rfl,rfl,_,rfl,l,_,rfl,bj.of hl3,fun l5 n5=>?_⟩
  obtain ⟨cs,ec,lc⟩:=tO ms (some 8) (some ((8:Int) + ms[11]'(by omega) % 4))
  rw [show ib (ms.map V.int) (some 8) (some ((8:Int) + ms[11]'(by omega) % 4))=cs.map V.int from ec]
  have s5:=aj (o:=.lst (cs.map V.int)) n5
  have h5:upd H3 l5 (.lst (cs.map V.int)) l5=_:=ah
  generalize upd H3 l5 (.lst (cs.map V.int))=H5 at s5 h5 ⊢
  refine ⟨l5,rfl,⟨_,bj.of h5⟩,fun D2 Rk=>fF (K:=K) (a:=l5) (xs:=cs.map V.int) (fun j σ ys G=>∃ (v:Option V) (ts:List Addr) (ps:List (Int × Int)),σ=[v]∧ys=ts.map V.ref∧ps.length=j∧gh G ts ps∧Same H5 G∧G D2=some (.lst ys)) ?_ ?_ ?_ ?_⟩
  ·exact ⟨none,[],[],rfl,rfl,rfl,⟨rfl,fun i p c e=>by simp at e⟩,aj Rk,ah⟩
  ·rintro j σ ys G _ ⟨v,ts,ps,rfl,rfl,_,_,s6,_⟩
   exact bj.of (s6 _ _ h5)
  ·rintro j x σ ys G hx ⟨v,ts,ps,rfl,rfl,hz,hS,s6,hD2⟩
   have hjl:=(ac.mp hx).1
   rw [ab] at hx
   obtain ⟨y,_,rfl⟩:=map_eq_some_iff.mp hx
   rw [length_map] at hjl
   refine ⟨_,rfl,_,_,rfl,rfl,Nu,_,_,rfl,rfl,_,rfl,_,_,rfl,rfl,⟨by show (0:Int) < 9; decide,by show (9:Int) < _; decide⟩,_,_,rfl,rfl,SA,_,_,rfl,rfl,cZ,fun t nt=>⟨dX nt hD2,bQ (by rw [length_map,hS.1]; omega),_,ts ++ [t],ps ++ [(y % 9 - 3,y / 9 % 7 - 3)],rfl,by simp,by simp [hz],?_,cQ (s6.trans (aj nt)) Rk,ah⟩⟩
   have t2:t ≠ D2:=(az hD2 nt).symm
   refine (hS.tups (fun b xs e=>?_)).snoc (p:=(y % 9 - 3,y / 9 % 7 - 3)) ?_
   ·rw [aL (bJ e hD2 (by intro z; cases z))]
    exact dX nt e
   ·rw [aL t2]
    exact ah
  rintro σ ys H6 ⟨v,ts,ps,rfl,rfl,hpl,hS,s6,hD2⟩
  rw [length_map] at hpl
  have il:(iD ps).length=ps.length:=by unfold iD; rw [length_map]
  refine ⟨D2,ts,iD ps,rfl,hD2,by rw [il]; exact hS.1,fun i t kk v a b=>?_,by rw [il]; omega,fun l7 n7=>?_⟩
  ·unfold iD at b
   rw [ab] at b
   obtain ⟨p,hp,hpe⟩:=map_eq_some_iff.mp b
   have hk:kk=Sum.inl p.1:=(congrArg Prod.fst hpe).symm
   have hy:v=V.int p.2:=(congrArg Prod.snd hpe).symm
   subst hk hy
   exact hS.2 i t p a hp
  obtain ⟨cf,hrep⟩:=rP ps [] _ Rep.nil
  have hml:=gi (iD ps) []
  rw [il,List.length_nil] at hml
  have s7:=aj (o:=.dK (eO [] (iD ps))) n7
  have h7:upd H6 l7 (.dK (eO [] (iD ps))) l7=_:=ah
  generalize upd H6 l7 (.dK (eO [] (iD ps)))=H7 at s7 h7 ⊢
  have SQ:=s5.trans (s6.trans s7)
  have hl7:=SQ _ _ hl3
  refine ⟨_,rfl,_,rfl,_,rfl,_,rfl,_,rfl,l,_,_,_,rfl,rfl,bj.of hl7,a11 12 (by decide),_,_,rfl,rfl,vB,_,_,rfl,rfl,_,rfl,l,_,rfl,bj.of hl7,fun l8 n8=>?_⟩
  obtain ⟨NW,ec3,lc3⟩:=tO ms (some 11) (some ((11:Int) + ms[12]'(by omega) % 4))
  rw [show ib (ms.map V.int) (some 11) (some ((11:Int) + ms[12]'(by omega) % 4))=NW.map V.int from ec3]
  have s8:=aj (o:=.lst (NW.map V.int)) n8
  have h8:upd H7 l8 (.lst (NW.map V.int)) l8=_:=ah
  generalize upd H7 l8 (.lst (NW.map V.int))=H8 at s8 h8 ⊢
  refine ⟨l8,rfl,⟨_,bj.of h8⟩,fun D3 nD3=>fF (K:=K) (a:=l8) (xs:=NW.map V.int) (fun j σ ys G=>∃ (v:Option V) (zs:List Int),σ=[v]∧ys=zs.map V.int∧zs.length=j∧Same H8 G∧G D3=some (.lst ys)) ?_ ?_ ?_ ?_⟩
  ·exact ⟨none,[],rfl,rfl,rfl,aj nD3,ah⟩
  ·rintro j σ ys G _ ⟨v,zs,rfl,rfl,_,s9,_⟩
   exact bj.of (s9 _ _ h8)
  ·rintro j x σ ys G hx ⟨v,zs,rfl,rfl,hz,s9,SR⟩
   have hjl:=(ac.mp hx).1
   rw [ab] at hx
   obtain ⟨y,_,rfl⟩:=map_eq_some_iff.mp hx
   rw [length_map] at hjl
   exact ⟨_,rfl,_,_,rfl,rfl,Nt,SR,bQ (by rw [length_map]; omega),_,zs ++ [y % 6],rfl,by simp,by simp [hz],cQ s9 nD3,ah⟩
  rintro σ ys H9 ⟨v,bells,rfl,rfl,hbl,s9,SR⟩
  rw [length_map] at hbl
  refine ⟨j6,fun t nt=>?_⟩
  have SU:=s8.trans (s9.trans (aj (o:=.tup [V.ref D,.ref l7,.ref D3]) nt))
  exact k t D l7 D3 bs bells _ cf _ ((s1.trans (s2.trans s3)).trans (SQ.trans SU)) ah ((SQ.trans SU) _ _ hD) b8 (SU _ _ h7) hrep (by omega) (dX nt SR) (by omega)
end
def EX:Da→V
 | .int i=>.int i
 | .str s=>.str s
 | _=>.non
def Flat (l:List Da):Prop:=∀ d ∈ l,(∃ i,d=.int i)∨∃ s,d=.str s
def pF (r:Int):List Da:=[.str "before",.int r]
def tP (r:Int):List Da:=[.str "after",.int r]
def tQ (r s:Int):List Da:=[.str "way",.int r,.int s]
structure Wi where
 (p:List Da) (u:Str) (n b:Int)
def Wi.vs (x:Wi):List V:=if x.u = "count" then [.str x.u,.int x.n] else [.str x.u,.int x.n,.int x.b]
theorem pG {H:Hp} {p:Addr}:∀ {ds:List Da},Flat ds→H p=some (.tup (ds.map EX))→HD H (.ref p) (.tup ds):=fun {ds} f h=>.tup h (by simp) fun i x d hx hd=>by
 rw [ab,hd] at hx
 cases hx
 rcases f d (ad hd) with ⟨i,rfl⟩ | ⟨s,rfl⟩
 ·exact .int i
 ·exact .str s
theorem pH {ds:List Da} (f:Flat ds):Da.Nb 1 (.tup ds):=.tup fun d hd=>by
 rcases f d hd with ⟨i,rfl⟩ | ⟨s,rfl⟩
 ·exact .int
 ·exact .str
theorem pI (r:Int):Flat (pF r):=fun d h=>by
 rcases (show d=.str "before" ∨ d=.int r by simpa [pF] using h) with rfl | rfl
 ·exact .inr ⟨_,rfl⟩
 ·exact .inl ⟨_,rfl⟩
theorem xr (r:Int):Flat (tP r):=fun d h=>by
 rcases (show d=.str "after" ∨ d=.int r by simpa [tP] using h) with rfl | rfl
 ·exact .inr ⟨_,rfl⟩
 ·exact .inl ⟨_,rfl⟩
theorem xt (r s:Int):Flat (tQ r s):=fun d h=>by
 rcases (show d=.str "way" ∨ d=.int r∨d=.int s by simpa [tQ] using h) with rfl | rfl | rfl
 ·exact .inr ⟨_,rfl⟩
 ·exact .inl ⟨_,rfl⟩
 ·exact .inl ⟨_,rfl⟩
def vK (H:Hp) (q:Addr) (x:Wi):Prop:=∃ p h,H q=some (.tup [.ref p,.ref h])∧H p=some (.tup (x.p.map EX))∧Flat x.p∧H h=some (.tup x.vs)
theorem vK.tups {H H':Hp} {q:Addr} {x:Wi} (h:vK H q x) (e:cw H H'):vK H' q x:=by
 obtain ⟨p,w,a,b,c,d⟩:=h
 exact ⟨p,w,e _ _ a,e _ _ b,c,e _ _ d⟩
def jk (H:Hp) (lw:Addr) (xs:List Wi):Prop:=∃ qs:List Addr,H lw=some (.lst (qs.map V.ref))∧qs.length=xs.length∧∀ (i:Nat) q x,qs[i]? = some q→xs[i]? = some x→vK H q x
theorem jk.keeps {R:Addr→Prop} {H H':Hp} {lw:Addr} {xs:List Wi} (h:jk H lw xs) (k:Keeps R H H') (n:¬ R lw):jk H' lw xs:=by
 obtain ⟨qs,a,b,c⟩:=h
 exact ⟨qs,k _ _ a (.inl n),b,fun i q x h1 h2=>(c i q x h1 h2).tups k.tups⟩
theorem jk.same {H H':Hp} {lw:Addr} {xs:List Wi} (h:jk H lw xs) (s:Same H H'):jk H' lw xs:=h.keeps (R:=fun _=>False) (.same s) id
def uO (H:Hp) (hs:List Addr) (ws:List Wi):Prop:=hs.length=ws.length∧∀ (i:Nat) h x,hs[i]? = some h→ws[i]? = some x→H h=some (.tup x.vs)
theorem uO.tups {H H':Hp} {hs:List Addr} {ws:List Wi} (h:uO H hs ws) (e:cw H H'):uO H' hs ws:=⟨h.1,fun i a x h1 h2=>e _ _ (h.2 i a x h1 h2)⟩
theorem tR {α β:Type} {R:α→β→Prop} {as:List α} {bs:List β} {cs:List α} {ds:List β} (hl:as.length=bs.length) (h:∀ (i:Nat) x y,as[i]? = some x→bs[i]? = some y→R x y) (h2:∀ (i:Nat) x y,cs[i]? = some x→ds[i]? = some y→R x y):∀ (i:Nat) x y,(as ++ cs)[i]? = some x→(bs ++ ds)[i]? = some y→R x y:=fun i x y a b=>by
 rcases lt_or_ge i as.length with z | z
 ·rw [am z] at a
  rw [am (by omega)] at b
  exact h i x y a b
 ·rw [ar z] at a
  rw [ar (by omega),← hl] at b
  exact h2 _ x y a b
theorem uO.app {H:Hp} {hs gs:List Addr} {ws vs:List Wi} (h:uO H hs ws) (k:uO H gs vs):uO H (hs ++ gs) (ws ++ vs):=⟨by simp [h.1,k.1],tR (R:=fun a x=>H a=some (.tup (Wi.vs x))) h.1 h.2 k.2⟩
theorem uO.one {H:Hp} {h:Addr} {x:Wi} (e:H h=some (.tup x.vs)):uO H [h] [x]:=⟨rfl,fun i a y h1 h2=>by
 cases i with
 | zero=>cases h1; cases h2; exact e
 | succ i=>simp at h1⟩
theorem oo {K:Frag} {lw D:Addr} {qs:List Addr} {xs:List Wi} {c:Wi→Bool} {tt:TT} {R:Hp→Prop} {σr:St} {H:Hp} (h0:H lw=some (.lst (qs.map V.ref))) (hl:qs.length=xs.length) (hw:∀ (i:Nat) q x,qs[i]? = some q→xs[i]? = some x→vK H q x) (h100:xs.length ≤ 100) (nD:H D=none)
  (ht:∀ (x:Wi) (p h:Addr) (G:Hp) (Q:Bool→Hp→Prop),x ∈ xs→Same H G→G p=some (.tup (x.p.map EX))→Flat x.p→(∀ G',Same G G'→Q (c x) G')→tt (some (.ref p) :: some (.ref h) :: σr) G Q)
  (hR:∀ (hs:List Addr) (G:Hp),Same H G→G D=some (.lst (hs.map V.ref))→uO G hs (xs.filter c)→R G) :
  ∃ W:Nat→Nat→St→List V→Hp→Prop,(∃ m,W 0 m (none :: none :: σr) [] (upd H D (.lst [])))∧∀ i m σ ys H,W i m σ ys H →
   ((BQ K lw).stop i H∧R H)∨((BQ K lw).go i H∧∃ N:St→List V→Hp→Prop,(∀ σ' ys' H',N σ' ys' H'→∃ m',m' < m∧W (i + 1) m' σ' ys' H')∧∀ x H',(BQ K lw).BM i H x H'→JK K 2 (uX (gY 0) (uX (gY 1) JJ)) x σ H' fun σ2 H2=>tt σ2 H2 fun b H3 =>
    if b=true then zQ 1 σ2 H3 fun v H4=>H4 D=some (.lst ys)∧ys.length < de∧N σ2 (ys ++ [v]) (upd H4 D (.lst (ys ++ [v]))) else N σ2 ys H3):=by
 refine fF (K:=K) (a:=lw) (xs:=qs.map V.ref) (fun j σ ys G=>∃ (v1 v2:Option V) (hs:List Addr),σ=v1 :: v2 :: σr∧ys=hs.map V.ref∧Same H G∧G D=some (.lst ys)∧uO G hs ((xs.take j).filter c)) ?_ ?_ ?_ ?_
 ·exact ⟨none,none,[],rfl,rfl,aj nD,ah,rfl,fun i h x e=>by simp at e⟩
 ·rintro j σ ys G _ ⟨v1,v2,hs,rfl,rfl,s,_⟩
  exact bj.of (s _ _ h0)
 ·rintro j x σ ys G hx ⟨v1,v2,hs,rfl,rfl,s,hD,hW⟩
  rw [ab] at hx
  obtain ⟨q,hq,rfl⟩:=map_eq_some_iff.mp hx
  have hjl:j < xs.length:=by have:=(ac.mp hq).1; omega
  have hx:xs[j]? = some xs[j]:=aa hjl
  obtain ⟨p,h,a1,a2,a3,a4⟩:=hw j q _ hq hx
  have hm:=ba hjl
  generalize xs[j]=x at hx a2 a3 a4 hm
  refine ⟨q,_,rfl,aS.of (s _ _ a1),rfl,_,_,rfl,_,_,rfl,rfl,ht x p h G _ hm s (s _ _ a2) a3 fun G' s'=>?_⟩
  have tk:(xs.take (j + 1)).filter c=(xs.take j).filter c ++ [x].filter c:=by rw [take_add_one,hx,filter_append]; rfl
  have hl2:hs.length ≤ 100:=by
   rw [hW.1]
   exact le_trans (length_filter_le _ _) (by rw [length_take]; omega)
  have sT:=s.trans s'
  refine dy (fun e=>?_) (fun e=>?_)
  ·refine ⟨_,rfl,s' _ _ hD,bQ (by rw [length_map]; omega),_,_,hs ++ [h],rfl,by simp,cQ sT nD,ah,?_⟩
   rw [tk,show [x].filter c=[x] by simp [e]]
   have T2:cw G (upd G' D (.lst (hs.map V.ref ++ [V.ref h]))):=fun b ys e=>by
    rw [aL (bJ e hD (by intro z; cases z))]
    exact s' _ _ e
   exact (hW.tups T2).app (.one (T2 _ _ (s _ _ a4)))
  ·refine ⟨_,_,hs,rfl,rfl,sT,s' _ _ hD,?_⟩
   rw [tk,show [x].filter c=[] by simp [e],List.append_nil]
   exact hW.tups (.of s')
 ·rintro σ ys G ⟨v1,v2,hs,rfl,rfl,s,hD,hW⟩
  rw [length_map,hl,take_length] at hW
  exact hR hs G s hD hW
def i3 (r:Int) (x:Wi):Bool:=decide (x.p=pF r)
def pJ (r s:Int) (x:Wi):Bool:=decide (x.p=tP r) || decide (x.p=tQ r s)
theorem Hs {r s:Int} {x:Wi}:decide (Da.tup x.p ∈ [Da.tup (tP r),Da.tup (tQ r s)])=pJ r s x:=by
 unfold pJ
 rw [← Bool.decide_or]
 exact decide_eq_decide.mpr (by simp)
section
variable {P:Program} {w:World} {K:Frag} {mg:Str→Option Value} {base:Heap}
def Lc:Sp:=fun vs H Q _=>∃ (lw:Addr) (xs:List Wi) (r:Int),vs=[.ref lw,.int r]∧jk H lw xs∧xs.length ≤ 100∧∀ (l:Addr) (hs:List Addr) (H':Hp),Same H H'→H l=none→H' l=some (.lst (hs.map V.ref))→uO H' hs (xs.filter (i3 r))→Q (.ref l) H'
theorem SV:aJ ["wishes", "r"] ["wishes", "r"] (ak cW):=⟨rfl,rfl,rfl,by decide +kernel,rfl,by decide +kernel,by decide +kernel⟩
def Ld:Scope:={ kind:=.function,names:=[(".0",.local),("place",.local),("what",.local),("r",.free)],isGenerator:=false,isCoroutine:=false,more:=[] }
theorem DG:dS (ak cW) Ld ["wishes", "r"] ["place", "what", "r"] [none,none,some 1]:=⟨rfl,by decide +kernel,by decide +kernel,by decide +kernel,by decide +kernel,by decide +kernel⟩
theorem NX {f:Addr} {fd:cx} (F:dO K "whats_before" "whats_before" cW f fd) (T:Txt K w.params mg):aR P w K mg base bV 1 f fd ["wishes", "r"] Lc:=by
 refine F.ok SV (fun vs H Q E h=>?_) (fun cdv A outer s H vs Q E hr h=>?_)
 ·obtain ⟨lw,xs,r,rfl,_⟩:=h
  rfl
 ·obtain ⟨lw,xs,r,rfl,⟨qs,h0,hl,hw⟩,h100,k⟩:=h
  have Jd:=lt_of_le_of_lt (add_le_add_left (by decide:6 ≤ 64) _) hr.units
  refine ⟨_,(aA (aV (gj (N':=["place", "what", "r"]) (fr:=[none,none,some 1]) DG rfl (dB (pv 0)) (fun C s0 H0 fp=>(iX (K:=K) (i:=0) (j:=1) rfl rfl DG.nd rfl (Or.inl rfl) rfl (Or.inl rfl))) (fun C s0 H0 fp=>(jo (aF (r:=Kg K false) (CM Jd) (pv 0) (bg (ae aq (ae (pv 2) ao))) (aP _)))) (fun C s0 H0 fp=>(pv 1))))),?_⟩
  refine ⟨_,rfl,lw,rfl,⟨_,bj.of h0⟩,fun D nD=>oo (K:=K) (σr:=[some (.int r)]) (c:=i3 r) h0 hl hw h100 nD (fun x p h G Q' _ sG hp fl kk=>?_) (fun hs G sG hD hW=>k D hs G sG nD hD hW)⟩
  refine ⟨_,rfl,_,rfl,cZ,fun t nt=>?_⟩
  have s2:=aj (o:=.tup [V.str "before",V.int r]) nt
  refine ⟨1,p,t,.tup x.p,.tup (pF r),rfl,rfl,(pG fl (s2 _ _ hp)).da K,(pG (pI r) ah).da K,pH fl,pH (pI r),by decide,_,rfl,?_⟩
  rw [show (false ^^ decide (Da.tup x.p=Da.tup (pF r)))=i3 r x by rw [Bool.false_xor]; exact decide_eq_decide.mpr ⟨fun e=>Da.tup.inj e,fun e=>congrArg _ e⟩]
  exact kk _ s2
def NY:Sp:=fun vs H Q _=>∃ (lw:Addr) (xs:List Wi) (r s:Int),vs=[.ref lw,.int r,.int s]∧jk H lw xs∧xs.length ≤ 100∧∀ (l:Addr) (hs:List Addr) (H':Hp),Same H H'→H l=none→H' l=some (.lst (hs.map V.ref))→uO H' hs (xs.filter (pJ r s))→Q (.ref l) H'
theorem SW:aJ ["wishes", "r", "s"] ["wishes", "r", "s"] (ak cX):=⟨rfl,rfl,rfl,by decide +kernel,rfl,by decide +kernel,by decide +kernel⟩
def Le:Scope:={ kind:=.function,names:=[(".0",.local),("place",.local),("what",.local),("r",.free),("s",.free)],isGenerator:=false,isCoroutine:=false,more:=[] }
theorem DH:dS (ak cX) Le ["wishes", "r", "s"] ["place", "what", "r", "s"] [none,none,some 1,some 2]:=⟨rfl,by decide +kernel,by decide +kernel,by decide +kernel,by decide +kernel,by decide +kernel⟩
theorem DI {H:Hp} {x:Wi} {r s:Int} {p t1 t2 t3:Addr} {Q:V→Hp→Prop} (fl:Flat x.p) (hp:H p=some (.tup (x.p.map EX))) (h1:H t1=some (.tup ((tP r).map EX))) (h2:H t2=some (.tup ((tQ r s).map EX))) (h3:H t3=some (.tup [.ref t1,.ref t2])) (k:Q (.bl (pJ r s x)) H):FD K (.ref p) (.ref t3) H Q:=by
 refine ⟨p,t3,_,.tup x.p,[.tup (tP r),.tup (tQ r s)],1,rfl,rfl,h3,pG fl hp,.cons (pG (xr r) h1) (.cons (pG (xt r s) h2) .nil),fun y hy=>?_,pH fl,fun e he=>?_,by decide,Hs ▸ k⟩
 ·rcases (show y=.ref t1∨y=.ref t2 by simpa using hy) with rfl | rfl
  ·exact ⟨_,rfl⟩
  ·exact ⟨_,rfl⟩
 ·rcases (show e=.tup (tP r)∨e=.tup (tQ r s) by simpa using he) with rfl | rfl
  ·exact pH (xr r)
  ·exact pH (xt r s)
theorem NZ {f:Addr} {fd:cx} (F:dO K "whats_on_way" "whats_on_way" cX f fd) (T:Txt K w.params mg):aR P w K mg base bV 1 f fd ["wishes", "r", "s"] NY:=by
 refine F.ok SW (fun vs H Q E h=>?_) (fun cdv A outer s H vs Q E hr h=>?_)
 ·obtain ⟨lw,xs,r,s,rfl,_⟩:=h
  rfl
 ·obtain ⟨lw,xs,r,s',rfl,⟨qs,h0,hl,hw⟩,h100,k⟩:=h
  have Jd:=lt_of_le_of_lt (add_le_add_left (by decide:6 ≤ 64) _) hr.units
  refine ⟨_,(aA (aV (gj (N':=["place", "what", "r", "s"]) (fr:=[none,none,some 1,some 2]) DH rfl (dB (pv 0)) (fun C s0 H0 fp=>(iX (K:=K) (i:=0) (j:=1) rfl rfl DH.nd rfl (Or.inl rfl) rfl (Or.inl rfl))) (fun C s0 H0 fp=>(jo (aF (r:=FD K) (CP Jd) (pv 0) (bg (ae (bg (ae aq (ae (pv 2) ao))) (ae (bg (ae aq (ae (pv 2) (ae (pv 3) ao)))) ao))) rfl))) (fun C s0 H0 fp=>(pv 1))))),?_⟩
  refine ⟨_,rfl,lw,rfl,⟨_,bj.of h0⟩,fun D nD=>oo (K:=K) (σr:=[some (.int r),some (.int s')]) (c:=pJ r s') h0 hl hw h100 nD (fun x p h G Q' _ sG hp fl kk=>?_) (fun hs G sG hD hW=>k D hs G sG nD hD hW)⟩
  refine ⟨_,rfl,_,rfl,cZ,fun t1 n1=>⟨_,rfl,_,rfl,j6,fun t2 n2=>⟨cZ,fun t3 n3=>?_⟩⟩⟩
  have s1:=aj (o:=.tup [V.str "after",V.int r]) n1
  have s2:=aj (o:=.tup [V.str "way",V.int r,V.int s']) n2
  have s3:=aj (o:=.tup [V.ref t1,V.ref t2]) n3
  exact DI fl ((s1.trans (s2.trans s3)) _ _ hp) ((s2.trans s3) _ _ ah) (s3 _ _ ah) ah ⟨_,rfl,kk _ (s1.trans (s2.trans s3))⟩
end
structure CR (d:List (Key × V)) (ks:List Int) (f:Int→Int):Prop where
 isI:∃ kvs:List (Int × Int),d=iD kvs∧(kvs.map (·.1)).Nodup
 val:∀ j:Int,cy d (Sum.inl j:Key)=if j ∈ ks then some (.int (f j)) else none
theorem CR.nil {f:Int→Int}:CR [] [] f:=⟨⟨[],rfl,List.nodup_nil⟩,fun _=>rfl⟩
theorem CR.put {d:List (Key × V)} {ks ks':List Int} {f:Int→Int} (r:CR d ks f) (j v:Int) (h:∀ i,i ∈ ks'↔i=j∨i ∈ ks):CR (putK d (Sum.inl j) (.int v)) ks' (ja f j v):=by
 obtain ⟨⟨kvs,rfl,hn⟩,hv⟩:=r
 obtain ⟨kvs',e,hn',_⟩:=CN (j:=j) (v:=v) hn
 refine ⟨⟨kvs',e,hn'⟩,fun i=>?_⟩
 rw [oG]
 unfold ja
 by_cases c:i=j
 ·rw [if_pos (by rw [c]),if_pos ((h i).mpr (.inl c)),if_pos c]
 ·rw [if_neg (fun z=>c (Sum.inl.inj z)),if_neg c,hv i]
  by_cases c2:i ∈ ks
  ·rw [if_pos c2,if_pos ((h i).mpr (.inr c2))]
  ·rw [if_neg c2,if_neg (fun z=>((h i).mp z).elim c c2)]
def gD:List Str:=["seen", "counts", "rows", "ending"]
theorem gE:gD.Nodup:=by decide +kernel
structure TA where
 (s c r:Addr)
abbrev td (m:TA) (w:V):List (Key × V):=gH gD [.ref m.s,.ref m.c,.ref m.r,w]
section
variable {m:TA} {w v:V}
theorem pK:cy (td m w) (Sum.inr "seen" : Key)=some (.ref m.s):=ez gD _ 0 _ gE rfl
theorem pL:cy (td m w) (Sum.inr "counts" : Key)=some (.ref m.c):=ez gD _ 1 _ gE rfl
theorem j8:cy (td m w) (Sum.inr "rows" : Key)=some (.ref m.r):=ez gD _ 2 _ gE rfl
theorem zG:cy (td m w) (Sum.inr "ending" : Key)=some (w):=ez gD _ 3 _ gE rfl
theorem tS:putK (td m w) (Sum.inr "ending" : Key) v=td m v:=lA v gD _ 3 _ gE rfl (by show 3 < 4; decide) rfl
theorem zH:(td m w).length < de:=Nat.lt_of_lt_of_le (show 4 < 1001 by decide) (by decide)
end
structure Tl where
 (sn:List (Int × Int)) (ks:List Int) (cf:Int→Int) (rows:List Int) (en:Option (List V))
def cS (m:TA) (a c:Addr):Prop:=c=a∨c=m.s∨c=m.c∨c=m.r
structure TS (H:Hp) (a:Addr) (m:TA) (B:Nat) (t:Tl):Prop where
 st:∃ w,H a=some (.dK (td m w))∧iM H w t.en
 seen:∃ ps,H m.s=some (.lst (ps.map V.ref))∧gh H ps t.sn
 cnt:∃ d,H m.c=some (.dK d)∧CR d t.ks t.cf∧d.length ≤ 100
 rws:H m.r=some (.lst (t.rows.map V.int))
 Je:m.s ≠ m.r
 Jf:a ≠ m.c
 lens:t.sn.length ≤ B∧t.rows.length ≤ B
 big:B ≤ 2000
section
variable {H H':Hp} {a:Addr} {m:TA} {B:Nat} {t:Tl}
theorem TS.keeps {R:Addr→Prop} (M:TS H a m B t) (k:Keeps R H H') (d:∀ c,cS m a c→¬ R c):TS H' a m B t:=by
 obtain ⟨w,o1,o2⟩:=M.st
 obtain ⟨ps,s1,s2⟩:=M.seen
 obtain ⟨d1,c1,c2⟩:=M.cnt
 have e:∀ {c o},cS m a c→H c=some o→H' c=some o:=fun {c o} h g=>k c o g (.inl (d c h))
 exact ⟨⟨w,e (.inl rfl) o1,o2.tups k.tups⟩,⟨ps,e (.inr (.inl rfl)) s1,s2.tups k.tups⟩,⟨d1,e (.inr (.inr (.inl rfl))) c1,c2⟩,e (.inr (.inr (.inr rfl))) M.rws,M.Je,M.Jf,M.lens,M.big⟩
theorem TS.same (M:TS H a m B t) (s:Same H H'):TS H' a m B t:=M.keeps (R:=fun _=>False) (.same s) (fun _ _ h=>h)
theorem TS.more (M:TS H a m B t) {B':Nat} (h:B ≤ B') (hb:B' ≤ 2000):TS H a m B' t:=⟨M.st,M.seen,M.cnt,M.rws,M.Je,M.Jf,⟨le_trans M.lens.1 h,le_trans M.lens.2 h⟩,hb⟩
theorem TS.a_ (M:TS H a m B t) {p:Addr} {xs:List V} (h:H p=some (.lst xs)):a ≠ p:=by
 obtain ⟨w,o1,_⟩:=M.st
 exact bJ o1 h (by intro z; cases z)
theorem TS.put (M:TS H a m B t) {w':V} {en':Option (List V)} (hw:iM H w' en'):TS (upd H a (.dK (td m w'))) a m B { t with en:=en' }:=by
 obtain ⟨w,o1,o2⟩:=M.st
 obtain ⟨ps,s1,s2⟩:=M.seen
 obtain ⟨d1,c1,c2⟩:=M.cnt
 have tt:cw H (upd H a (.dK (td m w'))):=.upd o1 (by intro _ z; cases z)
 have e:∀ {c o},H c=some o→c ≠ a→upd H a (.dK (td m w')) c=some o:=fun {c o} h n=>by rw [aL n]; exact h
 exact ⟨⟨w',ah,hw.tups tt⟩,⟨ps,e s1 (M.a_ s1).symm,s2.tups tt⟩,⟨d1,e c1 M.Jf.symm,c2⟩,e M.rws (M.a_ M.rws).symm,M.Je,M.Jf,M.lens,M.big⟩
theorem TS.pA (M:TS H a m B t) {ps:List Addr} {sn:List (Int × Int)} (hs:gh H ps sn) (hl:sn.length ≤ B):TS (upd H m.s (.lst (ps.map V.ref))) a m B { t with sn:=sn }:=by
 obtain ⟨w,o1,o2⟩:=M.st
 obtain ⟨ps0,s1,s2⟩:=M.seen
 obtain ⟨d1,c1,c2⟩:=M.cnt
 have tt:cw H (upd H m.s (.lst (ps.map V.ref))):=.upd s1 (by intro _ z; cases z)
 have e:∀ {c o},H c=some o→c ≠ m.s→upd H m.s (.lst (ps.map V.ref)) c=some o:=fun {c o} h n=>by rw [aL n]; exact h
 exact ⟨⟨w,e o1 (M.a_ s1),o2.tups tt⟩,⟨ps,ah,hs.tups tt⟩,⟨d1,e c1 (bJ c1 s1 (by intro z; cases z)),c2⟩,e M.rws M.Je.symm,M.Je,M.Jf,⟨hl,M.lens.2⟩,M.big⟩
theorem TS.DJ (M:TS H a m B t) {rs:List Int} (hl:rs.length ≤ B):TS (upd H m.r (.lst (rs.map V.int))) a m B { t with rows:=rs }:=by
 obtain ⟨w,o1,o2⟩:=M.st
 obtain ⟨ps,s1,s2⟩:=M.seen
 obtain ⟨d1,c1,c2⟩:=M.cnt
 have tt:cw H (upd H m.r (.lst (rs.map V.int))):=.upd M.rws (by intro _ z; cases z)
 have e:∀ {c o},H c=some o→c ≠ m.r→upd H m.r (.lst (rs.map V.int)) c=some o:=fun {c o} h n=>by rw [aL n]; exact h
 exact ⟨⟨w,e o1 (M.a_ M.rws),o2.tups tt⟩,⟨ps,e s1 M.Je,s2.tups tt⟩,⟨d1,e c1 (bJ c1 M.rws (by intro z; cases z)),c2⟩,ah,M.Je,M.Jf,⟨M.lens.1,hl⟩,M.big⟩
theorem TS.Ht (M:TS H a m B t) {d:List (Key × V)} {ks:List Int} {f:Int→Int} (hz:CR d ks f) (hl:d.length ≤ 100):TS (upd H m.c (.dK d)) a m B { t with ks:=ks,cf:=f }:=by
 obtain ⟨w,o1,o2⟩:=M.st
 obtain ⟨ps,s1,s2⟩:=M.seen
 obtain ⟨d1,c1,c2⟩:=M.cnt
 have tt:cw H (upd H m.c (.dK d)):=.upd c1 (by intro _ z; cases z)
 have e:∀ {c o},H c=some o→c ≠ m.c→upd H m.c (.dK d) c=some o:=fun {c o} h n=>by rw [aL n]; exact h
 exact ⟨⟨w,e o1 M.Jf,o2.tups tt⟩,⟨ps,e s1 (bJ s1 c1 (by intro z; cases z)),s2.tups tt⟩,⟨d,ah,hz,hl⟩,e M.rws (bJ M.rws c1 (by intro z; cases z)),M.Je,M.Jf,M.lens,M.big⟩
end
def qH (bs:List Int) (b:Int):Int:=bs.getD b.toNat 0
theorem rQ {bs:List Int} (h8:bs.length=8) {b:Int} (hb:Bx b):mV (bs.map V.int) b=some (.int (qH bs b)):=by
 obtain ⟨j,rfl⟩:=Int.eq_ofNat_of_zero_le hb.1
 have hj:j < bs.length:=by have:=hb.2; omega
 refine ck (j:=j) ?_
 unfold qH
 rw [ab,aa hj,i4,List.getD_eq_getElem?_getD,aa hj]
 rfl
def i5 (bs:List Int) (t:Tl) (x:Wi):Tl :=
 if x.u = "look" then { t with sn:=t.sn ++ [(x.n,qH bs x.b)] } else if x.u = "count" then { t with cf:=ja t.cf x.n (t.cf x.n + 1) }
 else if qH bs x.b < 0 then { t with en:=some [.str "halt",.int x.n] } else t
def cj (bs:List Int):Tl→List Wi→Tl
 | t,[]=>t
 | t,x :: r=>cj bs (if t.en=none then i5 bs t x else t) r
theorem jJ (bs:List Int):∀ (a b:List Wi) (t:Tl),cj bs t (a ++ b)=cj bs (cj bs t a) b
 | [],b,t=>rfl
 | x :: a,b,t=>jJ bs a b _
theorem rR (bs:List Int):∀ (a:List Wi) (t:Tl),¬ t.en=none→cj bs t a=t
 | [],t,h=>rfl
 | x :: a,t,h=>by
  show cj bs (if t.en=none then i5 bs t x else t) a=t
  rw [if_neg h]
  exact rR bs a t h
structure pM (ks:List Int) (x:Wi):Prop where
 u:x.u = "look" ∨ x.u = "count" ∨ x.u = "guard"
 b:Bx x.b
 k:x.u = "count" → x.n ∈ ks
theorem Hu {bs:List Int} {t:Tl} {x:Wi}:(i5 bs t x).ks=t.ks∧(i5 bs t x).rows=t.rows:=by
 unfold i5
 split
 ·exact ⟨rfl,rfl⟩
 split
 ·exact ⟨rfl,rfl⟩
 split
 ·exact ⟨rfl,rfl⟩
 ·exact ⟨rfl,rfl⟩
theorem gF {bs:List Int}:∀ {a:List Wi} {t:Tl},(cj bs t a).ks=t.ks∧(cj bs t a).rows=t.rows
 | [],t=>⟨rfl,rfl⟩
 | x :: a,t=>by
  have h:=gF (bs:=bs) (a:=a) (t:=if t.en=none then i5 bs t x else t)
  have e:(if t.en=none then i5 bs t x else t).ks=t.ks∧(if t.en=none then i5 bs t x else t).rows=t.rows:=by
   split
   ·exact Hu
   ·exact ⟨rfl,rfl⟩
  exact ⟨h.1.trans e.1,h.2.trans e.2⟩
section
variable {P:Program} {w:World} {K:Frag} {mg:Str→Option Value} {base:Heap}
def N0:Sp:=fun vs H Q _=>∃ (a h pb:Addr) (m:TA) (B:Nat) (t:Tl) (x:Wi) (bs:List Int),vs=[.ref a,.ref h,.ref pb]∧TS H a m B t∧B < 2000∧H h=some (.tup x.vs)∧pM t.ks x∧H pb=some (.lst (bs.map V.int))∧bs.length=8 ∧
 ∀ H',Keeps (cS m a) H H'→TS H' a m (B + 1) (i5 bs t x)→Q .non H'
theorem Lf:aJ ["reading", "what", "boxes", "word", "number"] ["reading", "what", "boxes"] (ak fU):=⟨rfl,rfl,rfl,by decide +kernel,rfl,by decide +kernel,by decide +kernel⟩
theorem N2 {f:Addr} {fd:cx} (F:dO K "see_what" "see_what" fU f fd) (T:Txt K w.params mg):aR P w K mg base bV 1 f fd ["reading", "what", "boxes"] N0:=by
 refine F.ok Lf (fun vs H Q E h=>?_) (fun cdv A outer s H vs Q E hr h=>?_)
 ·obtain ⟨a,h,pb,m,B,t,x,bs,rfl,_⟩:=h
  rfl
 ·obtain ⟨a,h,pb,m,B,t,x,bs,rfl,M0,hB,hh,g,hpb,b8,k⟩:=h
  have M:=M0.more (le_succ B) (by omega)
  have hu:=cI hr
  obtain ⟨w0,ho,hw⟩:=M.st
  obtain ⟨ps,s1,s2⟩:=M.seen
  obtain ⟨d,c1,c2,c3⟩:=M.cnt
  obtain ⟨xp,xu,xn,xb⟩:=x
  obtain ⟨gu,gb,gk⟩:=g
  have lm:=M0.lens
  refine ⟨_,(aB (aU (i:=3) Lf.nd rfl (Or.inl rfl) (au ay (pv 1) ai (fun _ _=>rfl)))
   (aB (aU (i:=4) Lf.nd rfl (Or.inl rfl) (au ay (pv 1) ai (fun _ _=>rfl)))
   (aA (cq (aF bX (pv 3) aq (aP _)) (aA (bz (gw fb ff fg bZ (aY hu (pv 0) aq (fun _ _=>rfl)) (ae (bg (ae (pv 4) (ae (au aK (pv 2) (au ay (pv 1) ai (fun _ _=>rfl)) (fun _ _=>rfl)) ao))) ao)))) (aA (cq (aF bX (pv 3) aq (aP _)) (aA (dq hu (aY hu (pv 0) aq (fun _ _=>rfl)) (pv 4) (aO dv (aY hu (aY hu (pv 0) aq (fun _ _=>rfl)) (pv 4) (fun _ _=>rfl)) ai) rfl)) (aA (cq (aF iH (au aK (pv 2) (au ay (pv 1) ai (fun _ _=>rfl)) (fun _ _=>rfl)) ai (aP _)) (aA (dq hu (pv 0) aq (bg (ae aq (ae (pv 4) ao))) rfl)) aN)))))))),?_⟩
  rcases gu with rfl | rfl | rfl
  ·have hh:H h=some (.tup [.str "look",.int xn,.int xb]):=hh
   refine ⟨_,rfl,h,_,_,_,rfl,rfl,aS.of hh,at0 _ _,?_⟩
   refine ⟨_,rfl,h,_,_,.int xn,rfl,rfl,aS.of hh,at1 _ _ _,?_⟩
   refine ⟨_,rfl,rfl,_,rfl,cF (by decide +kernel) ?_⟩
   refine ⟨_,rfl,a,_,rfl,df ho pK,.inl ⟨rfl,_,bj.of s1⟩,_,rfl,_,rfl,_,rfl,h,_,_,.int xb,rfl,rfl,aS.of hh,at2 _ _ _ _,pb,_,_,_,rfl,rfl,bj.of hpb,rQ b8 gb,cZ,fun t1 n1=>⟨m.s,_,_,rfl,rfl,dX n1 s1,bQ (by rw [length_map,s2.1]; omega),?_⟩⟩
   have sN:=aj (o:=.tup [V.int xn,V.int (qH bs xb)]) n1
   rw [show ps.map V.ref ++ [V.ref t1]=(ps ++ [t1]).map V.ref by simp]
   refine k _ ((Keeps.same sN).upd (sN _ _ s1) (by intro _ z; cases z) (.inr (.inl rfl))) ?_
   rw [show i5 bs t ⟨xp, "look",xn,xb⟩={ t with sn:=t.sn ++ [(xn,qH bs xb)] } from if_pos rfl]
   exact (M.same sN).pA ((s2.tups (.of sN)).snoc (p:=(xn,qH bs xb)) ah) (by simp; omega)
  ·have hh:H h=some (.tup [.str "count",.int xn]):=hh
   have kn:cy d (Sum.inl xn:Key)=some (.int (t.cf xn)):=by rw [c2.val,if_pos (gk rfl)]
   refine ⟨_,rfl,h,_,_,_,rfl,rfl,aS.of hh,at0 _ _,?_⟩
   refine ⟨_,rfl,h,_,_,.int xn,rfl,rfl,aS.of hh,at1 _ _ _,?_⟩
   refine ⟨_,rfl,rfl,_,rfl,aX (by decide +kernel) ?_⟩
   refine ⟨_,rfl,rfl,_,rfl,cF (by decide +kernel) ?_⟩
   refine ⟨_,rfl,a,_,rfl,df ho pL,_,rfl,m.c,_,rfl,kn ▸ iS.k (k:=Sum.inl xn) c1,_,_,rfl,rfl,_,rfl,a,_,rfl,df ho pL,_,rfl,m.c,_,rfl,iy.k (k:=Sum.inl xn) c1 (bQ (by omega)),?_⟩
   refine k _ (Keeps.refl.upd c1 (by intro _ z; cases z) (.inr (.inr (.inl rfl)))) ?_
   rw [show i5 bs t ⟨xp, "count",xn,xb⟩={ t with cf:=ja t.cf xn (t.cf xn + 1) } from (if_neg (show ¬ ("count" : Str) = "look" by decide +kernel)).trans (if_pos rfl)]
   refine M.Ht (c2.put xn _ fun i=>⟨.inr,fun z=>z.elim (fun e=>e ▸ gk rfl) id⟩) ?_
   have hs:(cy d (Sum.inl xn:Key)).isSome=true:=by rw [kn]; rfl
   unfold putK
   rw [dR,if_pos hs,length_map]
   exact c3
  ·have hh:H h=some (.tup [.str "guard",.int xn,.int xb]):=hh
   refine ⟨_,rfl,h,_,_,_,rfl,rfl,aS.of hh,at0 _ _,?_⟩
   refine ⟨_,rfl,h,_,_,.int xn,rfl,rfl,aS.of hh,at1 _ _ _,?_⟩
   refine ⟨_,rfl,rfl,_,rfl,aX (by decide +kernel) ?_⟩
   refine ⟨_,rfl,rfl,_,rfl,aX (by decide +kernel) ?_⟩
   refine ⟨_,rfl,_,rfl,h,_,_,.int xb,rfl,rfl,aS.of hh,at2 _ _ _ _,pb,_,_,_,rfl,rfl,bj.of hpb,rQ b8 gb,_,_,rfl,rfl,_,rfl,?_⟩
   have e0:i5 bs t ⟨xp, "guard",xn,xb⟩=if qH bs xb < 0 then { t with en:=some [.str "halt",.int xn] } else t:=(if_neg (show ¬ ("guard" : Str) = "look" by decide +kernel)).trans (if_neg (show ¬ ("guard" : Str) = "count" by decide +kernel))
   rw [e0] at k
   refine dy (fun c=>?_) (fun c=>?_)
   ·have c:qH bs xb < 0:=of_decide_eq_true c
    rw [if_pos c] at k
    refine ⟨_,rfl,cZ,fun t1 n1=>⟨_,rfl,a,_,rfl,iy.k (k:=Sum.inr "ending") (dX n1 ho) zH,?_⟩⟩
    rw [tS]
    have sN:=aj (o:=.tup [V.str "halt",V.int xn]) n1
    exact k _ ((Keeps.same sN).upd (dX n1 ho) (by intro _ z; cases z) (.inl rfl)) ((M.same sN).put ⟨t1,rfl,ah⟩)
   ·rw [if_neg (fun z=>c (decide_eq_true z))] at k
    exact k _ Keeps.refl M
def N3:Sp:=fun vs H Q _=>∃ (a lh pb:Addr) (m:TA) (B:Nat) (t:Tl) (hs:List Addr) (ws:List Wi) (bs:List Int),vs=[.ref a,.ref lh,.ref pb]∧TS H a m B t∧B + ws.length ≤ 2000∧H lh=some (.lst (hs.map V.ref))∧uO H hs ws∧(∀ x ∈ ws,pM t.ks x)∧H pb=some (.lst (bs.map V.int))∧bs.length=8∧¬ cS m a lh∧¬ cS m a pb ∧
 ∀ H',Keeps (cS m a) H H'→TS H' a m (B + ws.length) (cj bs t ws)→Q .non H'
theorem N4:aJ ["reading", "whats", "boxes", "what"] ["reading", "whats", "boxes"] (ak eV):=⟨rfl,rfl,rfl,by decide +kernel,rfl,by decide +kernel,by decide +kernel⟩
theorem N5 {f fW:Addr} {fd rS:cx} (F:dO K "see_whats" "see_whats" eV f fd) (T:Txt K w.params mg)
  (GW:aR P w K mg base bV 1 fW rS ["reading", "what", "boxes"] N0) (kW:KI K fW) (bW:Binds K rS ["reading", "what", "boxes"] []) (mW:mg "see_what" = some (.ref fW)):aR P w K mg base bV 2 f fd ["reading", "whats", "boxes"] N3:=by
 refine F.ok N4 (fun vs H Q E h=>?_) (fun cdv A outer s H vs Q E hr h=>?_)
 ·obtain ⟨a,lh,pb,m,B,t,hs,ws,bs,rfl,_⟩:=h
  rfl
 ·obtain ⟨a,lh,pb,m,B,t,hs,ws,bs,rfl,M,hB,Hv,hW,g,hpb,b8,n1,n2,k⟩:=h
  have hu:=cI hr
  refine ⟨_,(aA (iu PassesOwn.never rfl (dB (pv 1)) (cG (i:=3) N4.nd rfl (Or.inl rfl)) (aA (cq (aF lJ (aY hu (pv 0) aq (fun _ _=>rfl)) eA (aP _)) (aA (bz (aQ GW hr (by rfl) mW kW bW .nil bp (ae (pv 0) (ae (pv 3) (ae (pv 2) ao)))))) aN)))),?_⟩
  refine ⟨_,rfl,lh,rfl,⟨_,bj.of Hv⟩,iF (K:=K) (a:=lh) (xs:=hs.map V.ref) (fun j σ G=>∃ v:Option V,σ=[some (.ref a),some (.ref lh),some (.ref pb),v]∧Keeps (cS m a) H G∧TS G a m (B + j) (cj bs t (ws.take j))) ?_ ?_ ?_ ?_⟩
  ·exact ⟨none,rfl,Keeps.refl,M⟩
  ·rintro j σ G _ ⟨v,rfl,kp,_⟩
   exact bj.of (kp _ _ Hv (.inl n1))
  ·rintro j x σ G hx ⟨v,rfl,kp,MT⟩
   rw [ab] at hx
   obtain ⟨q,hq,rfl⟩:=map_eq_some_iff.mp hx
   have hjl:j < ws.length:=by have:=(ac.mp hq).1; have:=hW.1; omega
   have hx:ws[j]? = some ws[j]:=aa hjl
   have hh:=hW.2 j q _ hq hx
   have gx:=g _ (ba hjl)
   generalize ws[j]=x at hx hh gx
   have tk:ws.take (j + 1)=ws.take j ++ [x]:=by rw [take_add_one,hx]; rfl
   have eS:cj bs t (ws.take (j + 1))=if (cj bs t (ws.take j)).en=none then i5 bs (cj bs t (ws.take j)) x else cj bs t (ws.take j):=by rw [tk,jJ]; rfl
   obtain ⟨w0,ho,hw⟩:=MT.st
   refine ⟨_,rfl,a,_,rfl,df ho zG,?_⟩
   cases he:(cj bs t (ws.take j)).en with
   | none =>
    rw [he] at hw
    have hw:w0=.non:=hw
    subst hw
    refine ⟨rfl,_,rfl,cF (by decide) ?_⟩
    refine ⟨_,rfl,_,rfl,_,rfl,a,q,pb,m,B + j,_,x,bs,rfl,MT,by omega,kp.tups _ _ hh,by rw [gF.1]; exact gx,kp _ _ hpb (.inl n2),b8,fun H' k' M'=>⟨_,rfl,kp.trans k',?_⟩⟩
    rw [eS,if_pos he]
    exact M'
   | some zs =>
    rw [he] at hw
    obtain ⟨p,rfl,_⟩:=hw
    refine ⟨rfl,_,rfl,aX (fun z=>by cases of_decide_eq_true z) ?_⟩
    refine ⟨_,rfl,kp,?_⟩
    rw [eS,if_neg (by rw [he]; intro z; cases z)]
    exact MT.more (by omega) (by omega)
  ·rintro σ G ⟨v,rfl,kp,MT⟩
   rw [length_map,hW.1,take_length] at MT
   exact k _ kp MT
end
theorem xv:¬ ("row" : Str) ∈ names:=by decide +kernel
theorem Az:¬ ("ending" : Str) ∈ names:=by decide +kernel
theorem vL:¬ ("boxes" : Str) ∈ names:=by decide +kernel
theorem Hw:¬ ("step" : Str) ∈ names:=by decide +kernel
theorem DK {ring:Int→Bool} {r:Rw} {h:Int} {z:Zt} (hn:z.how=none):((aZ ring r h z).here=.non∧∃ xs,(aZ ring r h z).how=some xs)∨((∃ t,(aZ ring r h z).here=.int t)∧(aZ ring r h z).how=none):=by
 cases r with
 | stop=>exact .inl ⟨rfl,_,rfl⟩
 | halt v=>exact .inl ⟨rfl,_,rfl⟩
 | back =>
  rcases eq_nil_or_concat z.pile with e | ⟨r,p,e⟩
  ·rw [iN e]
   exact .inl ⟨rfl,_,rfl⟩
  ·have e:z.pile=r ++ [p]:=by simpa using e
   rw [lz e]
   exact .inr ⟨⟨_,rfl⟩,hn⟩
 | two u b v =>
  simp only [aZ]
  split
  ·exact .inr ⟨⟨_,rfl⟩,hn⟩
  split
  ·exact .inr ⟨⟨_,rfl⟩,hn⟩
  split
  ·exact .inr ⟨⟨_,rfl⟩,hn⟩
  ·exact .inr ⟨⟨_,rfl⟩,hn⟩
 | eE u t f =>
  simp only [aZ]
  split
  ·exact .inr ⟨⟨_,rfl⟩,hn⟩
  split
  ·exact .inr ⟨⟨_,rfl⟩,hn⟩
  split
  ·exact .inr ⟨⟨_,rfl⟩,hn⟩
  ·exact .inr ⟨⟨_,rfl⟩,hn⟩
 | _=>exact .inr ⟨⟨_,rfl⟩,hn⟩
def Hx (r:Rw) (h s:Int):Int:=if r.word = "back" then s - 1 else h
def vM (xs:List Wi) (l s:Int):List Wi:=xs.filter (pJ l s) ++ xs.filter (i3 s)
def jl (r:Rw) (bs:List Int) (t:Tl):Tl:=match r with
 | .two u b v=>if u = "see" then { t with sn:=t.sn ++ [(v,qH bs b)] } else t
 | _=>t
section
variable {P:Program} {w:World} {K:Frag} {mg:Str→Option Value} {base:Heap}
def N6:Sp:=fun vs H Q _=>∃ (lr lw q:Addr) (rows:List V) (xs:List Wi) (r:Nat) (s n:Int) (rw:Rw),vs=[.ref lr,.ref lw,.int (r:Int),.int s]∧H lr=some (.lst rows)∧rows[r]? = some (.ref q)∧hU H q n rw∧jk H lw xs∧xs.length ≤ 100 ∧
 ∀ (l:Addr) (hs:List Addr) (H':Hp),Same H H'→H l=none→H' l=some (.lst (hs.map V.ref))→uO H' hs (vM xs (Hx rw r s) s)→Q (.ref l) H'
theorem N7:aJ ["rows", "wishes", "r", "s", "leaving"] ["rows", "wishes", "r", "s"] (ak di):=⟨rfl,rfl,rfl,by decide +kernel,rfl,by decide +kernel,by decide +kernel⟩
theorem N8 {f fY fB:Addr} {fd N9 Jg:cx} (F:dO K "whats_between" "whats_between" di f fd) (T:Txt K w.params mg)
  (GY:aR P w K mg base bV 1 fY N9 ["wishes", "r", "s"] NY) (kY:KI K fY) (bY:Binds K N9 ["wishes", "r", "s"] []) (mY:mg "whats_on_way" = some (.ref fY))
  (GB:aR P w K mg base bV 1 fB Jg ["wishes", "r"] Lc) (kB:KI K fB) (bB:Binds K Jg ["wishes", "r"] []) (mB:mg "whats_before" = some (.ref fB)):aR P w K mg base bV 2 f fd ["rows", "wishes", "r", "s"] N6:=by
 refine F.ok N7 (fun vs H Q E h=>?_) (fun cdv A outer s H vs Q E hr h=>?_)
 ·obtain ⟨lr,lw,q,rows,xs,r,s,n,rw,rfl,_⟩:=h
  rfl
 ·obtain ⟨lr,lw,q,rows,xs,r,s',n,rw,rfl,hlr,hrow,hR,hW,h100,k⟩:=h
  have hu:=cI hr
  obtain ⟨items,HQ⟩:=lS hR
  refine ⟨_,(aB (aU (i:=4) N7.nd rfl (Or.inl rfl) (uW (aF bX (au ay (au aK (pv 0) (pv 2) (fun _ _=>rfl)) ai (fun _ _=>rfl)) aq (aP _)) (aO iw (pv 3) ai) (pv 2)))
   (aA (aV (aO sr (aQ GY hr (by rfl) mY kY bY .nil bp (ae (pv 1) (ae (pv 4) (ae (pv 3) ao)))) (aQ GB hr (by rfl) mB kB bB .nil bp (ae (pv 1) (ae (pv 3) ao))))))),?_⟩
  refine ⟨_,rfl,_,rfl,lr,_,_,.ref q,rfl,rfl,bj.of hlr,ck (j:=r) hrow,q,_,_,.str rw.word,rfl,rfl,aS.of HQ,at0 _ _,rfl,_,rfl,?_⟩
  refine dy (fun c=>?_) (fun c=>?_)
  ·have e:Hx rw r s'=s' - 1:=if_pos (strEq c)
   rw [e] at k
   refine ⟨_,rfl,_,_,rfl,rfl,?_⟩
   refine ⟨_,rfl,_,rfl,_,rfl,lw,xs,(s' - 1),s',rfl,hW,h100,fun l1 hs1 H1 s1 n1 h1 w1=>⟨_,rfl,_,rfl,lw,xs,s',rfl,hW.same s1,h100,fun l2 hs2 H2 s2 n2 h2 w2=>⟨l1,l2,_,_,rfl,rfl,s2 _ _ h1,h2,?_,fun l3 n3=>?_⟩⟩⟩
   ·have e1:=w1.1
    have e2:=w2.1
    have e3:=length_filter_le (pJ (s' - 1) s') xs
    have e4:=length_filter_le (i3 s') xs
    rw [length_map,length_map]
    exact le_trans (show _ ≤ 200 by omega) (by decide)
   ·rw [← map_append]
    have s3:=aj (o:=.lst ((hs1 ++ hs2).map V.ref)) n3
    exact k l3 (hs1 ++ hs2) _ (s1.trans (s2.trans s3)) ((s1.trans s2).free n3) ah (((w1.tups (.of s2)).app w2).tups (.of s3))
  ·have e:Hx rw r s'=r:=if_neg (fun z=>c (by rw [z]; exact decide_eq_true rfl))
   rw [e] at k
   refine ⟨_,rfl,?_⟩
   refine ⟨_,rfl,_,rfl,_,rfl,lw,xs,r,s',rfl,hW,h100,fun l1 hs1 H1 s1 n1 h1 w1=>⟨_,rfl,_,rfl,lw,xs,s',rfl,hW.same s1,h100,fun l2 hs2 H2 s2 n2 h2 w2=>⟨l1,l2,_,_,rfl,rfl,s2 _ _ h1,h2,?_,fun l3 n3=>?_⟩⟩⟩
   ·have e1:=w1.1
    have e2:=w2.1
    have e3:=length_filter_le (pJ r s') xs
    have e4:=length_filter_le (i3 s') xs
    rw [length_map,length_map]
    exact le_trans (show _ ≤ 200 by omega) (by decide)
   ·rw [← map_append]
    have s3:=aj (o:=.lst ((hs1 ++ hs2).map V.ref)) n3
    exact k l3 (hs1 ++ hs2) _ (s1.trans (s2.trans s3)) ((s1.trans s2).free n3) ah (((w1.tups (.of s2)).app w2).tups (.of s3))
def Oa (C:Addr):Sp:=fun vs H Q _=>∃ (a lr lw x q:Addr) (mt:TA) (Bt:Nat) (t:Tl) (m:MA) (rows:List V) (aD:List (Key × V)) (B:Nat) (z:Zt) (r:Nat) (n:Int) (rw:Rw) (xs:List Wi),vs=[.ref a,.ref lr,.ref lw,.ref x]∧TS H a mt Bt t∧Bt < 2000∧H lr=some (.lst rows)∧MG C H x m rows aD B z∧B < 900∧z.here=.int r∧z.how=none ∧
 rows[r]? = some (.ref q)∧hU H q n rw∧jk H lw xs∧xs.length ≤ 100∧(∀ c,cS mt a c→¬ Ax m x c)∧¬ cS mt a lr∧¬ Own m x lr∧¬ cS mt a lw∧¬ Own m x lw ∧
 ∀ (l:Addr) (hs:List Addr) (H':Hp),Keeps (fun c=>cS mt a c∨Own m x c) H H'→TS H' a mt (Bt + 1) { jl rw z.bs t with en:=(aZ (cP aD) rw r z).how }→MG C H' x m rows aD (B + 1) (aZ (cP aD) rw r z)→H l=none→H' l=some (.lst (hs.map V.ref)) →
  uO H' hs (match (aZ (cP aD) rw r z).here with | .int s=>vM xs (Hx rw r s) s | _=>[])→Q (.ref l) H'
theorem Lg:aJ ["reading", "rows", "wishes", "machine", "r", "s"] ["reading", "rows", "wishes", "machine"] (ak iK):=⟨rfl,rfl,rfl,by decide +kernel,rfl,by decide +kernel,by decide +kernel⟩
theorem Ob {f fT C f0 f1 f2 fs:Addr} {fd CZ Oc fd1 fd2 fds:cx} (F:dO K "do_row" "do_row" iK f fd) (T:Txt K w.params mg) (TM:lu K mg C)
  (M0:Meth K C "row" f0) (G0:aR P w K mg base bV 1 f0 Oc ["self"] (xl C)) (b0:Binds K Oc ["self"] [])
  (M1:Meth K C "ending" f1) (G1:aR P w K mg base bV 1 f1 fd1 ["self"] (vH C)) (b1:Binds K fd1 ["self"] [])
  (M2:Meth K C "boxes" f2) (G2:aR P w K mg base bV 1 f2 fd2 ["self"] (tK C)) (b2:Binds K fd2 ["self"] [])
  (Ms:Meth K C "step" fs) (Gs:aR P w K mg base bV 3 fs fds ["self"] (Ds C)) (bs_:Binds K fds ["self"] [])
  (GT:aR P w K mg base bV 2 fT CZ ["rows", "wishes", "r", "s"] N6) (kT:KI K fT) (bT:Binds K CZ ["rows", "wishes", "r", "s"] []) (mT:mg "whats_between" = some (.ref fT)):aR P w K mg base bV 4 f fd ["reading", "rows", "wishes", "machine"] (Oa C):=by
 refine F.ok Lg (fun vs H Q E h=>?_) (fun cdv A outer s H vs Q E hr h=>?_)
 ·obtain ⟨a,lr,lw,x,q,mt,Bt,t,m,rows,aD,B,z,r,n,rw,xs,rfl,_⟩:=h
  rfl
 ·obtain ⟨a,lr,lw,x,q,mt,Bt,t,m,rows,aD,B,z,r,n,rw,xs,rfl,Jh,hBt,hlr,M,hB,hh,hn,hrow,hR,hW,h100,dj,t1,o1,t2,o2,k⟩:=h
  have hu:=cI hr
  have hr1:=hr.mono (show 1 ≤ 3 by decide)
  have hr2:=hr.mono (show 2 ≤ 3 by decide)
  have MT:=Jh.more (le_succ Bt) (by omega)
  obtain ⟨w0,ho,hw⟩:=M.obj
  obtain ⟨wt,hot,uP⟩:=MT.st
  obtain ⟨ps,ps1,ps2⟩:=MT.seen
  obtain ⟨items,HQ⟩:=lS hR
  have lm:=Jh.lens
  refine ⟨_,(aB (aU (i:=4) Lg.nd rfl (Or.inl rfl) (gZ (pv 3) TM.cl M0 G0 hr1 b0 .nil bp))
   (sH (cq (aF bX (au ay (au aK (pv 1) (pv 4) (fun _ _=>rfl)) ai (fun _ _=>rfl)) aq (aP _)) (aA (bz (gw fb ff fg bZ (aY hu (pv 0) aq (fun _ _=>rfl)) (ae (bg (ae (au ay (au aK (pv 1) (pv 4) (fun _ _=>rfl)) ai (fun _ _=>rfl)) (ae (au aK (gZ (pv 3) TM.cl M2 G2 hr1 b2 .nil bp) (au ay (au aK (pv 1) (pv 4) (fun _ _=>rfl)) ai (fun _ _=>rfl)) (fun _ _=>rfl)) ao))) ao)))) aN)
   (aB (bz (gZ (pv 3) TM.cl Ms Gs hr bs_ .nil bp))
   (aB (dq hu (pv 0) aq (gZ (pv 3) TM.cl M1 G1 hr1 b1 .nil bp) rfl)
   (aB (aU (i:=5) Lg.nd rfl (Or.inl rfl) (gZ (pv 3) TM.cl M0 G0 hr1 b0 .nil bp))
   (aA (aV (uW (aF lJ (pv 5) eA (aP _)) (cr ao) (aQ GT hr2 (by rfl) mT kT bT .nil bp (ae (pv 1) (ae (pv 2) (ae (pv 4) (ae (pv 5) ao))))))))))))),?_⟩
  refine ⟨_,rfl,x,m.dx,_,rfl,ho,xh xv,x,z,B,rfl,⟨m,rows,aD,M⟩,?_⟩
  refine ⟨fun σ G=>σ=[some (.ref a),some (.ref lr),some (.ref lw),some (.ref x),some z.here,none]∧Keeps (cS mt a) H G∧TS G a mt (Bt + 1) (jl rw z.bs t),?_,?_⟩
  ·refine ⟨_,rfl,_,rfl,lr,_,_,.ref q,rfl,hh,bj.of hlr,ck (j:=r) hrow,q,_,_,.str rw.word,rfl,rfl,aS.of HQ,at0 _ _,rfl,_,rfl,?_⟩
   refine dy (fun c=>?_) (fun c=>?_)
   ·have c:rw.word = "see" := strEq c
    obtain ⟨b,v,rfl⟩:∃ b v,rw=.two "see" b v:=by
     cases rw with
     | two u b v=>exact ⟨b,v,by rw [show u = "see" from c]⟩
     | stop=>exact absurd c (by decide +kernel)
     | back=>exact absurd c (by decide +kernel)
     | halt v=>exact absurd c (show ¬ ("halt" : Str) = "see" by decide +kernel)
     | tell v=>exact absurd c (show ¬ ("tell" : Str) = "see" by decide +kernel)
     | table b ts=>exact absurd c (show ¬ ("table" : Str) = "see" by decide +kernel)
     | eE u t f=>exact absurd c ((by decide +kernel:∀ u ∈ My.eE,¬ u = "see") u hR.2.1)
     | zb u b t f=>exact absurd c ((by decide +kernel:∀ u ∈ My.zb,¬ u = "see") u hR.2.1)
    obtain ⟨La,_,hb,_⟩:=hR
    refine ⟨_,rfl,a,_,rfl,df hot pK,.inl ⟨rfl,_,bj.of ps1⟩,_,rfl,_,rfl,lr,_,_,.ref q,rfl,hh,bj.of hlr,ck (j:=r) hrow,q,_,_,.int v,rfl,rfl,aS.of La,at2 _ _ _ _,?_⟩
    refine ⟨_,rfl,x,m.dx,_,rfl,ho,xh vL,x,z,B,rfl,⟨m,rows,aD,M⟩,fun lb nb=>?_⟩
    have sb:=aj (o:=.lst (z.bs.map V.int)) nb
    refine ⟨_,rfl,_,rfl,lr,_,_,.ref q,rfl,hh,bj.of (sb _ _ hlr),ck (j:=r) hrow,q,_,_,.int b,rfl,rfl,aS.of (sb _ _ La),at1 _ _ _,lb,_,_,_,rfl,rfl,bj.of ah,rQ M.b8 hb,cZ,fun t3 n3=>⟨mt.s,_,_,rfl,rfl,dX n3 (sb _ _ ps1),bQ (by rw [length_map,ps2.1]; omega),?_⟩⟩
    have sN:=sb.trans (aj (o:=.tup [V.int v,V.int (qH z.bs b)]) n3)
    rw [show ps.map V.ref ++ [V.ref t3]=(ps ++ [t3]).map V.ref by simp]
    refine ⟨rfl,(Keeps.same sN).upd (sN _ _ ps1) (by intro _ z; cases z) (.inr (.inl rfl)),?_⟩
    rw [show jl (.two "see" b v) z.bs t={ t with sn:=t.sn ++ [(v,qH z.bs b)] } by simp only [jl,if_true]]
    exact (MT.same sN).pA ((ps2.tups (.of sN)).snoc (p:=(v,qH z.bs b)) ah) (by simp; omega)
   ·have e:jl rw z.bs t=t:=by
     cases rw with
     | two u b v=>exact if_neg (fun e=>c (decide_eq_true (congrArg V.str e)))
     | _=>rfl
    rw [e]
    exact ⟨rfl,Keeps.refl,MT⟩
  rintro σ G ⟨rfl,k1,zI⟩
  have M1:=M.keeps k1 (fun c hc ht=>dj c ht hc)
  obtain ⟨w1,ho1,hw1⟩:=M1.obj
  refine ⟨_,rfl,x,m.dx,_,rfl,ho1,xh Hw,x,q,m,rows,aD,B,z,r,n,rw,rfl,M1,hB,hh,hrow,hR.tups k1.tups,fun G2 fr M2=>?_⟩
  have k2:=M1.fr fr
  have AA:=zI.keeps k2 (fun c hc hm=>dj c hc (.inl hm))
  obtain ⟨w2,ho2,hw2⟩:=M2.obj
  obtain ⟨wt2,xA,Od⟩:=AA.st
  refine ⟨_,rfl,x,m.dx,_,rfl,ho2,xh Az,x,_,B + 1,rfl,⟨m,rows,aD,M2⟩,fun v hv=>⟨_,rfl,a,_,rfl,iy.k (k:=Sum.inr "ending") xA zH,?_⟩⟩
  rw [tS]
  have uQ:=AA.put hv
  have k3:Keeps (cS mt a) G2 (upd G2 a (.dK (td mt v))):=Keeps.refl.upd xA (by intro _ z; cases z) (.inl rfl)
  generalize upd G2 a (.dK (td mt v))=G3 at uQ k3 ⊢
  have M3:=M2.keeps k3 (fun c hc ht=>dj c ht hc)
  obtain ⟨w3,Rj,NT⟩:=M3.obj
  have kA:Keeps (fun c=>cS mt a c∨Own m x c) H G3:=(k1.more fun _=>.inl).trans ((k2.more fun _=>.inr).trans (k3.more fun _=>.inl))
  refine ⟨_,rfl,x,m.dx,_,rfl,Rj,xh xv,x,_,B + 1,rfl,⟨m,rows,aD,M3⟩,?_⟩
  have fresh:∀ l,G3 l=none→H l=none:=fun l hl=>by
   cases e:H l with
   | none=>rfl
   | some o =>
    by_cases c:cS mt a l∨Own m x l
    ·rcases c with c | c
     ·have:∃ o,G3 l=some o:=by
       obtain ⟨wz,oz,_⟩:=uQ.st
       obtain ⟨pz,sz,_⟩:=uQ.seen
       obtain ⟨dz,cz,_⟩:=uQ.cnt
       rcases c with rfl | rfl | rfl | rfl
       ·exact ⟨_,oz⟩
       ·exact ⟨_,sz⟩
       ·exact ⟨_,cz⟩
       ·exact ⟨_,uQ.rws⟩
      obtain ⟨o',e'⟩:=this
      rw [hl] at e'
      cases e'
     ·obtain ⟨o',e'⟩:=M3.my l (.inl c)
      rw [hl] at e'
      cases e'
    ·have:=kA l o e (.inl c)
     rw [hl] at this
     cases this
  have SY:=kA _ _ hlr (.inl (fun z=>z.elim t1 o1))
  have hW3:=hW.keeps kA (fun z=>z.elim t2 o2)
  have kk:=fun l hs H'=>k l hs H'
  rcases DK (ring:=cP aD) (r:=rw) (h:=r) (z:=z) hn with ⟨e,_⟩ | ⟨⟨s',e⟩,_⟩
  ·refine ⟨_,rfl,?_⟩
   rw [e] at kk ⊢
   refine ⟨rfl,_,rfl,cF (by decide) ?_⟩
   refine ⟨lQ,fun l nl=>?_⟩
   have s4:=aj (o:=.lst []) nl
   exact kk l [] _ (kA.trans (.same s4)) (uQ.same s4) (M3.same s4) (fresh l nl) ah ⟨rfl,fun i h x e=>by simp at e⟩
  ·refine ⟨_,rfl,?_⟩
   rw [e] at kk ⊢
   refine ⟨rfl,_,rfl,aX (fun z=>by cases of_decide_eq_true z) ?_⟩
   refine ⟨_,rfl,_,rfl,_,rfl,_,rfl,lr,lw,q,rows,xs,r,s',n,rw,?_,SY,hrow,hR.tups kA.tups,hW3,h100,fun l hs H' s4 nl hl hw=>?_⟩
   ·rw [hh]; rfl
   ·exact kk l hs H' (kA.trans (.same s4)) (uQ.same s4) (M3.same s4) (fresh l nl) hl hw
end
def tT (xs:List Wi) (b:V) (s:Int):List Wi:=(match b with | .int l=>xs.filter (pJ l s) | _=>[]) ++ xs.filter (i3 s)
def come (bs:List Int) (ws:List Wi) (s:Int) (t:Tl):Tl:=if (cj bs t ws).en=none then { cj bs t ws with rows:=(cj bs t ws).rows ++ [s] } else cj bs t ws
def Lh (b:V) (s:Int) (x:Wi):Bool:=match b with
 | .int l=>pJ l s x
 | _=>false
theorem xB {xs:List Wi} {b:V} {s:Int}:xs.filter (Lh b s) ++ xs.filter (i3 s)=tT xs b s:=by
 cases b with
 | int l=>rfl
 | _ =>
  show xs.filter (fun _=>false) ++ _=[] ++ _
  simp
section
variable {P:Program} {w:World} {K:Frag} {mg:Str→Option Value} {base:Heap}
def DL:Sp:=fun vs H Q _=>∃ (lw a at_:Addr) (b:V) (ml:LA) (B:Nat) (z:Zt) (s:Int) (mt:TA) (Bt:Nat) (t:Tl) (xs:List Wi),vs=[.ref lw,b,.ref a,.ref at_]∧LS H a ml B z∧z.how=none∧z.here=.int s∧TS H at_ mt Bt t∧t.en=none∧jk H lw xs∧xs.length ≤ 100∧(∀ x ∈ xs,pM t.ks x)∧(∀ c,cS mt at_ c→¬ i0 ml a c)∧(b=.non∨∃ l,b=.int l)∧Bt + (tT xs b s).length + 1 ≤ 2000 ∧
 ∀ H',Keeps (cS mt at_) H H'→TS H' at_ mt (Bt + (tT xs b s).length + 1) (come z.bs (tT xs b s) s t)→Q .non H'
theorem Hy:aJ ["_law_wishes", "_law_begin", "_law_state", "_law_tale", "_law_here", "_law_some", "_law_what"] ["_law_wishes", "_law_begin", "_law_state", "_law_tale"] (ak dW):=⟨rfl,rfl,rfl,by decide +kernel,rfl,by decide +kernel,by decide +kernel⟩
def Li:Scope:={ kind:=.function,names:=[(".0",.local),("_law_place",.local),("_law_what",.local),("_law_begin",.free),("_law_here",.free)],isGenerator:=false,isCoroutine:=false,more:=[] }
theorem DM:dS (ak dW) Li ["_law_wishes", "_law_begin", "_law_state", "_law_tale", "_law_here", "_law_some", "_law_what"] ["_law_place", "_law_what", "_law_begin", "_law_here"] [none,none,some 1,some 4]:=⟨rfl,by decide +kernel,by decide +kernel,by decide +kernel,by decide +kernel,by decide +kernel⟩
def Lj:Scope:={ kind:=.function,names:=[(".0",.local),("_law_place",.local),("_law_what",.local),("_law_here",.free)],isGenerator:=false,isCoroutine:=false,more:=[] }
theorem DN:dS (ak dW) Lj ["_law_wishes", "_law_begin", "_law_state", "_law_tale", "_law_here", "_law_some", "_law_what"] ["_law_place", "_law_what", "_law_here"] [none,none,some 4]:=⟨rfl,by decide +kernel,by decide +kernel,by decide +kernel,by decide +kernel,by decide +kernel⟩
theorem Hz {f:Addr} {fd:cx} (F:dO K "_law_come" "_law_come" dW f fd) (T:Txt K w.params mg):aR P w K mg base bV 1 f fd ["_law_wishes", "_law_begin", "_law_state", "_law_tale"] DL:=by
 refine F.ok Hy (fun vs H Q E h=>?_) (fun cdv A outer s H vs Q E hr h=>?_)
 ·obtain ⟨lw,a,at_,b,ml,B,z,s,mt,Bt,t,xs,rfl,_⟩:=h
  rfl
 ·obtain ⟨lw,a,at_,b,ml,B,z,s',mt,Bt,t,xs,rfl,ML0,hn,hz,Jh,ht,hW,h100,hg,dj,hb,hBt,k⟩:=h
  have hu:=cI hr
  have Jd:=lt_of_le_of_lt (add_le_add_left (by decide:6 ≤ 64) _) hr.units
  obtain ⟨h0,w0,ho,hw,hq0⟩:=ML0.st
  have hq0:=(hq0 hn).trans hz
  subst hq0
  refine ⟨_,(aB (aU (i:=4) Hy.nd rfl (Or.inr rfl) (aY hu (pv 2) aq (fun _ _=>rfl)))
   (aB (sx (i:=5) (N':=["_law_place", "_law_what", "_law_begin", "_law_here"]) (fr:=[none,none,some 1,some 4]) Hy.nd rfl rfl DM rfl (dB (pv 0)) (fun C s0 H0 fp=>(iX (K:=K) (i:=0) (j:=1) rfl rfl DM.nd rfl (Or.inl rfl) rfl (Or.inl rfl))) (fun C s0 H0 fp=>(jo (eM (aF yE (pv 2) eA (aP _)) (d6 (aF (r:=FD K) (CP Jd) (pv 0) (bg (ae (bg (ae aq (ae (pv 2) ao))) (ae (bg (ae aq (ae (pv 2) (ae (pv 3) ao)))) ao))) rfl))).pt)) (fun C s0 H0 fp=>(pv 1)))
   (aB (iu PassesOwn.never rfl (dB (aO sr (pv 5) (gj (N':=["_law_place", "_law_what", "_law_here"]) (fr:=[none,none,some 4]) DN rfl (dB (pv 0)) (fun C s0 H0 fp=>(iX (K:=K) (i:=0) (j:=1) rfl rfl DN.nd rfl (Or.inl rfl) rfl (Or.inl rfl))) (fun C s0 H0 fp=>(jo (aF (r:=Kg K false) (CM Jd) (pv 0) (bg (ae aq (ae (pv 2) ao))) (aP _)))) (fun C s0 H0 fp=>(pv 1))))) (cG (i:=6) Hy.nd rfl (Or.inl rfl)) (aA (cq (aF bX (au ay (pv 6) ai (fun _ _=>rfl)) aq (aP _)) (aA (bz (gw fb ff fg bZ (aY hu (pv 3) aq (fun _ _=>rfl)) (ae (bg (ae (au ay (pv 6) ai (fun _ _=>rfl)) (ae (au aK (aY hu (pv 2) aq (fun _ _=>rfl)) (au ay (pv 6) ai (fun _ _=>rfl)) (fun _ _=>rfl)) ao))) ao)))) (aA (cq (aF bX (au ay (pv 6) ai (fun _ _=>rfl)) aq (aP _)) (aA (dq hu (aY hu (pv 3) aq (fun _ _=>rfl)) (au ay (pv 6) ai (fun _ _=>rfl)) (aO dv (aY hu (aY hu (pv 3) aq (fun _ _=>rfl)) (au ay (pv 6) ai (fun _ _=>rfl)) (fun _ _=>rfl)) ai) rfl)) (aA (cq (aF iH (au aK (aY hu (pv 2) aq (fun _ _=>rfl)) (au ay (pv 6) ai (fun _ _=>rfl)) (fun _ _=>rfl)) ai (aP _)) (aB (dq hu (pv 3) aq (bg (ae aq (ae (au ay (pv 6) ai (fun _ _=>rfl)) ao))) rfl)
   (aA Fc)) aN)))))))
   (aA (bz (gw fb ff fg bZ (aY hu (pv 3) aq (fun _ _=>rfl)) (ae (pv 4) ao))))))),?_⟩
  refine ⟨_,rfl,a,_,rfl,df ho rN,?_⟩
  obtain ⟨qs,hq,hql,BD⟩:=id hW
  refine ⟨_,rfl,lw,rfl,⟨_,bj.of hq⟩,fun D1 nD1=>oo (K:=K) (σr:=[some b,some (.int s')]) (c:=Lh b s') hq hql BD h100 nD1 (fun x p h G Q' _ sG hp fl kk=>?_) (fun hs1 G1 Oe hD1 hW1=>?_)⟩
  ·rcases hb with rfl | ⟨l,rfl⟩
   ·exact ⟨_,rfl,rfl,_,rfl,aX (by decide) (kk G (Same.refl _))⟩
   ·refine ⟨_,rfl,rfl,_,rfl,cF rfl ?_⟩
    refine ⟨_,rfl,_,rfl,cZ,fun t1 n1=>⟨_,rfl,_,rfl,j6,fun t2 n2=>⟨cZ,fun t3 n3=>?_⟩⟩⟩
    have s1:=aj (o:=.tup [V.str "after",V.int l]) n1
    have s2:=aj (o:=.tup [V.str "way",V.int l,V.int s']) n2
    have s3:=aj (o:=.tup [V.ref t1,V.ref t2]) n3
    exact DI fl ((s1.trans (s2.trans s3)) _ _ hp) ((s2.trans s3) _ _ ah) (s3 _ _ ah) ah ⟨_,rfl,kk _ (s1.trans (s2.trans s3))⟩
  refine ⟨_,rfl,_,rfl,lw,rfl,⟨_,bj.of (Oe _ _ hq)⟩,fun D2 Rk=>oo (K:=K) (σr:=[some (.int s')]) (c:=i3 s') (Oe _ _ hq) hql (fun i q x h1 h2=>(BD i q x h1 h2).tups (.of Oe)) h100 Rk (fun x p h G Q' _ sG hp fl kk=>?_) (fun hs2 G2 Rm hD2 hW2=>?_)⟩
  ·refine ⟨_,rfl,_,rfl,cZ,fun t nt=>?_⟩
   have s2:=aj (o:=.tup [V.str "before",V.int s']) nt
   refine ⟨1,p,t,.tup x.p,.tup (pF s'),rfl,rfl,(pG fl (s2 _ _ hp)).da K,(pG (pI s') ah).da K,pH fl,pH (pI s'),by decide,_,rfl,?_⟩
   rw [show (false ^^ decide (Da.tup x.p=Da.tup (pF s')))=i3 s' x by rw [Bool.false_xor]; exact decide_eq_decide.mpr ⟨fun e=>Da.tup.inj e,fun e=>congrArg _ e⟩]
   exact kk _ s2
  have Ji:=(hW1.tups (.of Rm)).app hW2
  rw [xB] at Ji
  have gW:∀ x ∈ tT xs b s',pM t.ks x:=fun x hx=>by
   rw [← xB] at hx
   rcases mem_append.mp hx with hx | hx
   ·exact hg x (mem_filter.mp hx).1
   ·exact hg x (mem_filter.mp hx).1
  generalize tT xs b s'=ws at Ji gW hBt k
  have Lk:(hs1 ++ hs2).length=ws.length:=Ji.1
  refine ⟨D1,D2,_,_,rfl,rfl,Rm _ _ hD1,hD2,?_,fun l3 n3=>?_⟩
  ·rw [length_map,length_map,← length_append,Lk]
   exact le_trans (show _ ≤ 2000 by omega) (by decide)
  rw [← map_append]
  have s3:=aj (o:=.lst ((hs1 ++ hs2).map V.ref)) n3
  have h3:upd G2 l3 (.lst ((hs1 ++ hs2).map V.ref)) l3=_:=ah
  have sA:=Oe.trans (Rm.trans s3)
  have hl3:H l3=none:=(Oe.trans Rm).free n3
  have Ji:=Ji.tups (.of s3)
  generalize upd G2 l3 (.lst ((hs1 ++ hs2).map V.ref))=H3 at s3 h3 sA Ji ⊢
  generalize hs1 ++ hs2=hs at Ji h3 Lk
  have SZ:=ML0.same sA
  have zI:=Jh.same sA
  have n3t:¬ cS mt at_ l3:=fun c=>by
   obtain ⟨wz,oz,_⟩:=Jh.st
   obtain ⟨pz,sz,_⟩:=Jh.seen
   obtain ⟨dz,cz,_⟩:=Jh.cnt
   rcases c with rfl | rfl | rfl | rfl
   ·rw [hl3] at oz; cases oz
   ·rw [hl3] at sz; cases sz
   ·rw [hl3] at cz; cases cz
   ·have:=Jh.rws
    rw [hl3] at this; cases this
  refine ⟨l3,rfl,⟨_,bj.of h3⟩,iF (K:=K) (a:=l3) (xs:=hs.map V.ref) (fun j σ G=>∃ v:Option V,σ=[some (.ref lw),some b,some (.ref a),some (.ref at_),some (.int s'),some (.ref D1),v]∧Keeps (cS mt at_) H3 G∧TS G at_ mt (Bt + j) (cj z.bs t (ws.take j))∧(cj z.bs t (ws.take j)).en=none) ?_ ?_ ?_ ?_⟩
  ·exact ⟨none,rfl,Keeps.refl,zI,ht⟩
  ·rintro j σ G _ ⟨v,rfl,kp,_⟩
   exact bj.of (kp _ _ h3 (.inl n3t))
  ·rintro j x σ G hx ⟨v,rfl,kp,MT,he⟩
   rw [ab] at hx
   obtain ⟨q,hq,rfl⟩:=map_eq_some_iff.mp hx
   have hjl:j < ws.length:=by have:=(ac.mp hq).1; omega
   have hx:ws[j]? = some ws[j]:=aa hjl
   have hh:=kp.tups _ _ (Ji.2 j q _ hq hx)
   have gx:=gW _ (ba hjl)
   generalize ws[j]=x at hx hh gx
   have tk:ws.take (j + 1)=ws.take j ++ [x]:=by rw [take_add_one,hx]; rfl
   have tk2:ws=ws.take (j + 1) ++ ws.drop (j + 1):=(List.take_append_drop _ _).symm
   have eS:cj z.bs t (ws.take (j + 1))=i5 z.bs (cj z.bs t (ws.take j)) x:=by rw [tk,jJ]; exact if_pos he
   have eK:=gF (bs:=z.bs) (a:=ws.take j) (t:=t)
   generalize cj z.bs t (ws.take j)=u at MT he eS eK
   have ML:=SZ.keeps kp (fun c hc ht=>dj c ht hc)
   obtain ⟨hl_,wl,hol,_⟩:=ML.st
   have M:=MT.more (le_succ (Bt + j)) (by omega)
   obtain ⟨wt,hot,uP⟩:=M.st
   obtain ⟨ps,s1,s2⟩:=M.seen
   obtain ⟨d,c1,c2,c3⟩:=M.cnt
   obtain ⟨xp,xu,xn,xb⟩:=x
   obtain ⟨gu,gb,gk⟩:=gx
   have lm:=MT.lens
   rcases gu with rfl | rfl | rfl
   ·have hh:G q=some (.tup [.str "look",.int xn,.int xb]):=hh
    rw [show i5 z.bs u ⟨xp, "look",xn,xb⟩={ u with sn:=u.sn ++ [(xn,qH z.bs xb)] } from if_pos rfl] at eS
    refine ⟨_,rfl,q,_,_,_,rfl,rfl,aS.of hh,at0 _ _,rfl,_,rfl,cF (by decide +kernel) ?_⟩
    refine ⟨_,rfl,at_,_,rfl,df hot pK,.inl ⟨rfl,_,bj.of s1⟩,_,rfl,q,_,_,.int xn,rfl,rfl,aS.of hh,at1 _ _ _,_,rfl,a,_,rfl,df hol vJ,_,rfl,q,_,_,.int xb,rfl,rfl,aS.of hh,at2 _ _ _ _,ml.p1,_,_,_,rfl,rfl,bj.of ML.box,rQ ML.b8 gb,cZ,fun t1 n1=>⟨mt.s,_,_,rfl,rfl,dX n1 s1,bQ (by rw [length_map,s2.1]; omega),?_⟩⟩
    have sN:=aj (o:=.tup [V.int xn,V.int (qH z.bs xb)]) n1
    rw [show ps.map V.ref ++ [V.ref t1]=(ps ++ [t1]).map V.ref by simp]
    refine ⟨_,rfl,kp.trans ((Keeps.same sN).upd (sN _ _ s1) (by intro _ z; cases z) (.inr (.inl rfl))),?_,by rw [eS]; exact he⟩
    rw [eS]
    exact (M.same sN).pA ((s2.tups (.of sN)).snoc (p:=(xn,qH z.bs xb)) ah) (by simp; omega)
   ·have hh:G q=some (.tup [.str "count",.int xn]):=hh
    rw [show i5 z.bs u ⟨xp, "count",xn,xb⟩={ u with cf:=ja u.cf xn (u.cf xn + 1) } from (if_neg (show ¬ ("count" : Str) = "look" by decide +kernel)).trans (if_pos rfl)] at eS
    have gk':xn ∈ u.ks:=by rw [eK.1]; exact gk rfl
    have kn:cy d (Sum.inl xn:Key)=some (.int (u.cf xn)):=by rw [c2.val,if_pos gk']
    refine ⟨_,rfl,q,_,_,_,rfl,rfl,aS.of hh,at0 _ _,rfl,_,rfl,aX (by decide +kernel) ?_⟩
    refine ⟨_,rfl,q,_,_,_,rfl,rfl,aS.of hh,at0 _ _,rfl,_,rfl,cF (by decide +kernel) ?_⟩
    refine ⟨_,rfl,at_,_,rfl,df hot pL,_,rfl,q,_,_,.int xn,rfl,rfl,aS.of hh,at1 _ _ _,mt.c,_,rfl,kn ▸ iS.k (k:=Sum.inl xn) c1,_,_,rfl,rfl,_,rfl,at_,_,rfl,df hot pL,_,rfl,q,_,_,.int xn,rfl,rfl,aS.of hh,at1 _ _ _,mt.c,_,rfl,iy.k (k:=Sum.inl xn) c1 (bQ (by omega)),?_⟩
    refine ⟨_,rfl,kp.trans (Keeps.refl.upd c1 (by intro _ z; cases z) (.inr (.inr (.inl rfl)))),?_,by rw [eS]; exact he⟩
    rw [eS]
    refine M.Ht (c2.put xn _ fun i=>⟨.inr,fun z=>z.elim (fun e=>e ▸ gk') id⟩) ?_
    have hs:(cy d (Sum.inl xn:Key)).isSome=true:=by rw [kn]; rfl
    unfold putK
    rw [dR,if_pos hs,length_map]
    exact c3
   ·have hh:G q=some (.tup [.str "guard",.int xn,.int xb]):=hh
    rw [show i5 z.bs u ⟨xp, "guard",xn,xb⟩=if qH z.bs xb < 0 then { u with en:=some [.str "halt",.int xn] } else u from (if_neg (show ¬ ("guard" : Str) = "look" by decide +kernel)).trans (if_neg (show ¬ ("guard" : Str) = "count" by decide +kernel))] at eS
    refine ⟨_,rfl,q,_,_,_,rfl,rfl,aS.of hh,at0 _ _,rfl,_,rfl,aX (by decide +kernel) ?_⟩
    refine ⟨_,rfl,q,_,_,_,rfl,rfl,aS.of hh,at0 _ _,rfl,_,rfl,aX (by decide +kernel) ?_⟩
    refine ⟨_,rfl,a,_,rfl,df hol vJ,_,rfl,q,_,_,.int xb,rfl,rfl,aS.of hh,at2 _ _ _ _,ml.p1,_,_,_,rfl,rfl,bj.of ML.box,rQ ML.b8 gb,_,_,rfl,rfl,_,rfl,?_⟩
    refine dy (fun c=>?_) (fun c=>?_)
    ·have c:qH z.bs xb < 0:=of_decide_eq_true c
     rw [if_pos c] at eS
     refine ⟨_,rfl,q,_,_,.int xn,rfl,rfl,aS.of hh,at1 _ _ _,cZ,fun t1 n1=>⟨_,rfl,at_,_,rfl,iy.k (k:=Sum.inr "ending") (dX n1 hot) zH,?_⟩⟩
     rw [tS]
     have sN:=aj (o:=.tup [V.str "halt",V.int xn]) n1
     have MZ:=(M.same sN).put (w':=.ref t1) (en':=some [.str "halt",.int xn]) ⟨t1,rfl,ah⟩
     rw [← eS] at MZ
     have en1:¬ (cj z.bs t (ws.take (j + 1))).en=none:=by rw [eS]; intro z; cases z
     have e1:cj z.bs t ws=cj z.bs t (ws.take (j + 1)):=by
      rw [tk2,jJ,← tk2]
      exact rR _ _ _ en1
     have e2:come z.bs ws s' t=cj z.bs t (ws.take (j + 1)):=by
      unfold come
      rw [e1,if_neg en1]
     exact k _ ((Keeps.same sA).trans (kp.trans ((Keeps.same sN).upd (dX n1 hot) (by intro _ z; cases z) (.inl rfl)))) (e2 ▸ MZ.more (by omega) (by omega))
    ·rw [if_neg (fun z=>c (decide_eq_true z))] at eS
     exact ⟨_,rfl,kp,eS ▸ M,by rw [eS]; exact he⟩
  ·rintro σ G ⟨v,rfl,kp,MT,he⟩
   rw [length_map,Lk,take_length] at MT he
   have e2:come z.bs ws s' t={ cj z.bs t ws with rows:=(cj z.bs t ws).rows ++ [s'] }:=by unfold come; rw [if_pos he]
   obtain ⟨wt,hot,uP⟩:=MT.st
   have lm:=MT.lens
   refine ⟨_,rfl,at_,_,rfl,df hot j8,.inl ⟨rfl,_,bj.of MT.rws⟩,_,rfl,mt.r,_,_,rfl,rfl,MT.rws,bQ (by rw [length_map]; omega),?_⟩
   rw [show (cj z.bs t ws).rows.map V.int ++ [V.int s']=((cj z.bs t ws).rows ++ [s']).map V.int by simp]
   refine k _ ((Keeps.same sA).trans (kp.upd MT.rws (by intro _ z; cases z) (.inr (.inr (.inr rfl))))) ?_
   rw [e2]
   exact (MT.more (le_succ _) (by omega)).DJ (by simp; omega)
end
def mF (H:Hp) (lr:Addr) (rws:List Rw):Prop:=∃ qs:List Addr,H lr=some (.lst (qs.map V.ref))∧qs.length=rws.length∧∀ (i:Nat) q rw,qs[i]? = some q→rws[i]? = some rw→hU H q (rws.length:Nat) rw
theorem mF.keeps {R:Addr→Prop} {H H':Hp} {lr:Addr} {rws:List Rw} (h:mF H lr rws) (k:Keeps R H H') (n:¬ R lr):mF H' lr rws:=by
 obtain ⟨qs,a,b,c⟩:=h
 exact ⟨qs,k _ _ a (.inl n),b,fun i q x h1 h2=>(c i q x h1 h2).tups k.tups⟩
theorem mF.same {H H':Hp} {lr:Addr} {rws:List Rw} (h:mF H lr rws) (s:Same H H'):mF H' lr rws:=h.keeps (R:=fun _=>False) (.same s) id
def dH (z:Zt):Int:=match z.here with
 | .int i=>i
 | _=>0
def qI (rws:List Rw) (z:Zt):Rw:=rws.getD (dH z).toNat .stop
def hV (ring:Int→Bool) (rws:List Rw) (z:Zt):Zt:=aZ ring (qI rws z) (dH z) z
def nextT (ring:Int→Bool) (rws:List Rw) (z:Zt) (t:Tl):Tl:={ jl (qI rws z) z.bs t with en:=(hV ring rws z).how }
def mI (ring:Int→Bool) (rws:List Rw) (xs:List Wi) (z:Zt):List Wi:=vM xs (Hx (qI rws z) (dH z) (dH (hV ring rws z))) (dH (hV ring rws z))
def lU (ring:Int→Bool) (rws:List Rw) (xs:List Wi):Nat→Zt→Tl→List Wi→Tl
 | 0,_,t,_=>t
 | n + 1,z,t,ws=>if (come z.bs ws (dH z) t).en=none∧n ≠ 0 then (if (hV ring rws z).how=none then lU ring rws xs n (hV ring rws z) (nextT ring rws z (come z.bs ws (dH z) t)) (mI ring rws xs z) else nextT ring rws z (come z.bs ws (dH z) t)) else come z.bs ws (dH z) t
def Jj (ring:Int→Bool) (rws:List Rw) (xs:List Wi) (n:Nat) (z:Zt) (t:Tl):Tl :=
 if t.en=none∧n ≠ 0 then (if (hV ring rws z).how=none then lU ring rws xs n (hV ring rws z) (nextT ring rws z t) (mI ring rws xs z) else nextT ring rws z t) else t
theorem pN {ring:Int→Bool} {rws:List Rw} {xs:List Wi} {n:Nat} {z:Zt} {t:Tl} {ws:List Wi}:lU ring rws xs (n + 1) z t ws=Jj ring rws xs n z (come z.bs ws (dH z) t):=rfl
def lV (xs:List Wi):List Int:=(xs.filter fun x=>decide (x.u=("count" : Str))).map (·.n)
def AB (xs:List Wi):Tl:=⟨[],lV xs,fun _=>0,[],none⟩
theorem CR.len {d:List (Key × V)} {ks:List Int} {f:Int→Int} (r:CR d ks f):d.length ≤ ks.length:=by
 obtain ⟨⟨kvs,rfl,hn⟩,hv⟩:=r
 have e:(iD kvs).length=(kvs.map (·.1)).length:=by unfold iD; rw [length_map,length_map]
 rw [e]
 refine sL _ _ hn fun x hx=>?_
 obtain ⟨p,hp,rfl⟩:=mem_map.mp hx
 have h1:=wX hn (show (p.1,p.2) ∈ kvs from hp)
 have h2:=hv p.1
 rw [h1] at h2
 by_cases c:p.1 ∈ ks
 ·exact c
 ·rw [if_neg c] at h2
  cases h2
theorem Jk (j:Int):ja (fun _=>0) j 0=fun _=>0:=by
 funext i
 unfold ja
 split <;> rfl
theorem rT {bs:List Int} {ws:List Wi} {s:Int} {t:Tl} (h:(come bs ws s t).en=none):(come bs ws s t).rows=t.rows ++ [s]:=by
 unfold come at h ⊢
 by_cases c:(cj bs t ws).en=none
 ·rw [if_pos c]
  show (cj bs t ws).rows ++ [s]=_
  rw [gF.2]
 ·rw [if_neg c] at h
  exact absurd h c
theorem zJ {bs:List Int} {ws:List Wi} {s:Int} {t:Tl}:(come bs ws s t).ks=t.ks:=by
 unfold come
 split
 ·exact gF.1
 ·exact gF.1
theorem oq {r:Rw} {bs:List Int} {t:Tl}:(jl r bs t).ks=t.ks∧(jl r bs t).rows=t.rows:=by
 cases r with
 | two u b v =>
  simp only [jl]
  split
  ·exact ⟨rfl,rfl⟩
  ·exact ⟨rfl,rfl⟩
 | _=>exact ⟨rfl,rfl⟩
theorem zK {xs:List Wi} {b:V} {s:Int}:(tT xs b s).length ≤ 2 * xs.length:=by
 rw [← xB,length_append]
 have h1:=length_filter_le (Lh b s) xs
 have h2:=length_filter_le (i3 s) xs
 omega
theorem DO {ring:Int→Bool} {rws:List Rw} {xs:List Wi} {z:Zt} {s:Int} (hn:(hV ring rws z).how=none) (hs:(hV ring rws z).here=.int s):tT xs (pB (qI rws z) (dH z) (hV ring rws z)) s=mI ring rws xs z:=by
 have e:dH (hV ring rws z)=s:=by unfold dH; rw [hs]
 unfold mI pB
 rw [e,hn,hs]
 unfold Hx
 by_cases c:(qI rws z).word = "back"
 ·simp only [if_pos c]
  rfl
 ·simp only [if_neg c]
  rfl
def Up (rws:List Rw) (z:Zt):Prop:=z.how=none∧∃ r:Nat,z.here=.int r∧r < rws.length
def Ln (ring:Int→Bool) (rws:List Rw) (xs:List Wi) (most:Nat) (F:Tl) (H:Hp) (a:Addr) (ml:LA) (at_:Addr) (mt:TA) (i:Nat) (G:Hp):Prop:=∃ (z:Zt) (t:Tl),i ≤ most∧Keeps (fun c=>cS mt at_ c∨i0 ml a c) H G∧LS G a ml (50 + 2 * i) z∧TS G at_ mt (26 * i) t∧t.ks=lV xs∧(t.en=none→t.rows.length=i∧Up rws z∧iZ rws.length z)∧F=Jj ring rws xs (most - i) z t
theorem Keeps.xC {R:Addr→Prop} {H H':Hp} (k:Keeps R H H') (n:∀ c,R c→H c=none):Same H H':=fun c o e=>k c o e (.inl fun r=>by rw [n c r] at e; cases e)
theorem AF {σ:St} {H1:Hp} {Q:V→Hp→Prop} (k:∀ (at_:Addr) (mt:TA) (H2:Hp),Same H1 H2→(∀ c,cS mt at_ c→H1 c=none)→TS H2 at_ mt 0 ⟨[],[],fun _=>0,[],none⟩→Q (.ref at_) H2) :
  yL [(tC (.str "seen"),uY qv),(tC (.str "counts"),Ca),(tC (.str "rows"),uY qv),(tC (.str "ending"),tC .non)] σ H1 Q:=by
 refine fun at_ na=>?_
 refine ⟨lQ,fun l1 n1=>?_⟩
 refine fun l2 n2=>?_
 refine ⟨lQ,fun l3 n3=>?_⟩
 have q0:=aj (o:=.dK []) na
 have q1:=aj (o:=.lst []) n1
 have q2:=aj (o:=.dK []) n2
 have q3:=aj (o:=.lst []) n3
 refine ⟨(q1.trans (q2.trans q3)) at_ _ ah,gH gD [.ref l1,.ref l2,.ref l3,.non],rfl,(show 4 ≤ 15 by decide),?_⟩
 have e4:gD.length ≤ ([.ref l1,.ref l2,.ref l3,.non]:List V).length:=le_refl 4
 rw [lT gE e4]
 have f1:=(q2.trans q3) l1 _ ah
 have f2:=q3 l2 _ ah
 have d1:l1 ≠ at_:=(az ah n1).symm
 have d2:l2 ≠ at_:=(az (q1 _ _ ah) n2).symm
 have d3:l3 ≠ at_:=(az ((q1.trans q2) _ _ ah) n3).symm
 have qA:=q0.trans (q1.trans (q2.trans q3))
 refine k at_ ⟨l1,l2,l3⟩ _ (fun c o e=>?_) ?_ ⟨⟨.non,ah,rfl⟩,⟨[],?_,rfl,fun i p c e=>by simp at e⟩,⟨[],?_,CR.nil,zero_le _⟩,?_,az (q2 _ _ ah) n3,d2.symm,⟨le_refl _,le_refl _⟩,by decide⟩
 ·rw [aL (az e na)]
  exact qA _ _ e
 ·rintro c (rfl | rfl | rfl | rfl)
  ·exact na
  ·exact q0.free n1
  ·exact (q0.trans q1).free n2
  ·exact (q0.trans (q1.trans q2)).free n3
 ·rw [aL d1]
  exact f1
 ·rw [aL d2]
  exact f2
 ·rw [aL d3]
  exact ah
section
variable {P:Program} {w:World} {K:Frag} {mg:Str→Option Value} {base:Heap}
def Jl:Sp:=fun vs H Q _=>∃ (lr lw tb pb pc pl:Addr) (most:Nat) (rws:List Rw) (xs:List Wi) (bs bells:List Int) (d:List (Key × V)) (cf:Int→Int),vs=[.ref lr,.ref lw,.ref tb,.int (most:Int)]∧most ≤ 61∧mF H lr rws∧1 ≤ rws.length∧(∀ rw,rws[rws.length - 1]? = some rw→rw.word ∈ cY)∧jk H lw xs∧xs.length ≤ 12∧(∀ x ∈ xs,pM (lV xs) x) ∧
 H tb=some (.tup [.ref pb,.ref pc,.ref pl])∧H pb=some (.lst (bs.map V.int))∧bs.length=8∧H pc=some (.dK d)∧Rep d cf∧d.length ≤ 50∧H pl=some (.lst (bells.map V.int)) ∧
 ∀ (a:Addr) (mt:TA) (H':Hp),Same H H'→(∀ c,cS mt a c→H c=none)→TS H' a mt 1999 (lU (bh bells) rws xs most (z0 bs cf) (AB xs) (xs.filter (i3 0)))→Q (.ref a) H'
theorem tU:aJ ["_law_rows_here", "_law_wishes", "_law_beginning_here", "_law_most", "_law_boxes", "_law_cells", "_law_bells", "_law_state", "_law_tale", "_law_place", "_law_what", "_law_row_here", "_law_begin"] ["_law_rows_here", "_law_wishes", "_law_beginning_here", "_law_most"] (ak gU):=⟨rfl,rfl,rfl,by decide +kernel,rfl,by decide +kernel,by decide +kernel⟩
theorem Lp {f fS fC fP:Addr} {fd pC IW Jm:cx} (F:dO K "_law_due" "_law_due" gU f fd) (T:Txt K w.params mg)
  (GS:aR P w K mg base bV 1 fS pC ["_law_boxes", "_law_cells"] zA) (kS:KI K fS) (bS:Binds K pC ["_law_boxes", "_law_cells"] []) (mS:mg "_law_start" = some (.ref fS))
  (GC:aR P w K mg base bV 1 fC IW ["_law_wishes", "_law_begin", "_law_state", "_law_tale"] DL) (kC:KI K fC) (bC:Binds K IW ["_law_wishes", "_law_begin", "_law_state", "_law_tale"] []) (mC:mg "_law_come" = some (.ref fC))
  (GP:aR P w K mg base bV 2 fP Jm ["_law_rows_here", "_law_state", "_law_bells"] zy) (kP:KI K fP) (bP:Binds K Jm ["_law_rows_here", "_law_state", "_law_bells"] []) (mP:mg "_law_step" = some (.ref fP)):aR P w K mg base bV 3 f fd ["_law_rows_here", "_law_wishes", "_law_beginning_here", "_law_most"] Jl:=by
 refine F.ok tU (fun vs H Q E h=>?_) (fun cdv A outer s H vs Q E hr h=>?_)
 ·obtain ⟨lr,lw,tb,pb,pc,pl,most,rws,xs,bs,bells,d,cf,rfl,_⟩:=h
  rfl
 ·obtain ⟨lr,lw,tb,pb,pc,pl,most,rws,xs,bs,bells,d,cf,rfl,hmo,hR,DP,L0,hW,hx12,hg,htb,hpb,b8,hpc,hrep,hdl,hpl,k⟩:=h
  have hu:=cI hr
  have hr1:=hr.mono (show 1 ≤ 2 by decide)
  refine dG (aw (aG (dP (pv 2) (v7 (n:=3) rfl (gq (cG (i:=4) tU.nd rfl (Or.inl rfl)) (gq (cG (i:=5) tU.nd rfl (Or.inl rfl)) (gq (cG (i:=6) tU.nd rfl (Or.inl rfl)) sg))))))
   (aw (aG (aU (i:=7) tU.nd rfl (Or.inl rfl) (aQ GS hr1 (by rfl) mS kS bS .nil bp (ae (pv 4) (ae (pv 5) ao)))))
   (aw (aG (aU (i:=8) tU.nd rfl (Or.inl rfl) (nY (dr aq (cr ao) (dr aq je (dr aq (cr ao) (dr aq eA nX)))) rfl rfl (cons_ne_nil _ _) (le_of_ble_eq_true rfl))))
   (aw (aG (iu PassesOwn.never rfl (dB (pv 1)) (iX (K:=K) (i:=9) (j:=10) rfl rfl tU.nd rfl (Or.inl rfl) rfl (Or.inl rfl)) (aA (cq (aF bX (au ay (pv 10) ai (fun _ _=>rfl)) aq (aP _)) (aA (dq hu (aY hu (pv 8) aq (fun _ _=>rfl)) (au ay (pv 10) ai (fun _ _=>rfl)) ai rfl)) aN))))
   (gB (cD (aF qV (pv 3) ai (aP _)) (aM (aG (bz (aQ GC hr1 (by rfl) mC kC bC .nil bp (ae (pv 1) (ae eA (ae (pv 7) (ae (pv 8) ao)))))))) (bu aN))
   (aw (aG (ow PassesOwn.never (eM (aF iH (aW bf (by rfl) T.len dc (ae (aY hu (pv 8) aq (fun _ _=>rfl)) ao)) (pv 3) (aP _)) (d6 (aF lJ (aY hu (pv 8) aq (fun _ _=>rfl)) eA (aP _)))).pt (aB (aU (i:=11) tU.nd rfl (Or.inl rfl) (au aK (pv 0) (aY hu (pv 7) aq (fun _ _=>rfl)) (fun _ _=>rfl)))
   (sH (cq (aF bX (au ay (pv 11) ai (fun _ _=>rfl)) aq (aP _)) (aA (bz (gw fb ff fg bZ (aY hu (pv 8) aq (fun _ _=>rfl)) (ae (bg (ae (au ay (pv 11) ai (fun _ _=>rfl)) (ae (au aK (aY hu (pv 7) aq (fun _ _=>rfl)) (au ay (pv 11) ai (fun _ _=>rfl)) (fun _ _=>rfl)) ao))) ao)))) aN)
   (aB (aU (i:=12) tU.nd rfl (Or.inl rfl) (aQ GP hr (by rfl) mP kP bP .nil bp (ae (pv 0) (ae (pv 7) (ae (pv 6) ao)))))
   (aB (dq hu (pv 8) aq (aY hu (pv 7) aq (fun _ _=>rfl)) rfl)
   (aA (cq (aF yE (pv 12) eA (aP _)) (aA (bz (aQ GC hr1 (by rfl) mC kC bC .nil bp (ae (pv 1) (ae (pv 12) (ae (pv 7) (ae (pv 8) ao))))))) aN))))))))
   (aM (aG (aV (pv 8)))))))))) ?_
  refine ⟨_,rfl,tb,_,rfl,aS.of htb,rfl,_,_,rfl,_,_,rfl,_,_,rfl,rfl,?_⟩
  refine ⟨_,rfl,_,rfl,pb,pc,bs,d,cf,rfl,hpb,b8,hpc,hrep,hdl,fun a ml H1 s1 nw ML=>?_⟩
  show gY _ _ _ _ _
  refine kI (vy ?_)
  refine AF fun at_ mt H2 s2 L1 MT=>?_
  show gY _ _ _ _ _
  refine kI ?_
  have sA:=s1.trans s2
  have nT:∀ c,cS mt at_ c→H c=none:=fun c hc=>s1.free (L1 c hc)
  have dj:∀ c,cS mt at_ c→¬ i0 ml a c:=fun c hc hl=>by
   obtain ⟨o,e⟩:=ML.my c hl
   rw [L1 c hc] at e
   cases e
  have Ta:¬ cS mt at_ lw:=fun c=>by
   obtain ⟨qs,e,_⟩:=hW
   rw [nT _ c] at e
   cases e
  obtain ⟨qs,hq,hql,BD⟩:=hW.same sA
  refine ⟨_,rfl,lw,rfl,⟨_,bj.of hq⟩,iF (K:=K) (a:=lw) (xs:=qs.map V.ref) (fun j σ G=>∃ v1 v2:Option V,σ=[some (.ref lr),some (.ref lw),some (.ref tb),some (.int (most:Int)),some (.ref pb),some (.ref pc),some (.ref pl),some (.ref a),some (.ref at_),v1,v2,none,none]∧Keeps (cS mt at_) H2 G∧TS G at_ mt 0 (AB (xs.take j))) ?_ ?_ ?_ ?_⟩
  ·exact ⟨none,none,rfl,Keeps.refl,MT⟩
  ·rintro j σ G _ ⟨v1,v2,rfl,kp,_⟩
   exact bj.of (kp _ _ hq (.inl Ta))
  ·rintro j x σ G hx ⟨v1,v2,rfl,kp,MJ⟩
   rw [ab] at hx
   obtain ⟨q,Og,rfl⟩:=map_eq_some_iff.mp hx
   have hjl:j < xs.length:=by have:=(ac.mp Og).1; omega
   have hx:xs[j]? = some xs[j]:=aa hjl
   obtain ⟨p,h,a1,a2,a3,a4⟩:=(BD j q _ Og hx).tups kp.tups
   have gx:=hg _ (ba hjl)
   generalize xs[j]=x at hx a2 a3 a4 gx
   obtain ⟨wt,hot,uP⟩:=MJ.st
   obtain ⟨dd,c1,c2,c3⟩:=MJ.cnt
   have tk:xs.take (j + 1)=xs.take j ++ [x]:=by rw [take_add_one,hx]; rfl
   have cl:=c2.len
   have cl2:(lV (xs.take j)).length ≤ 12:=by
    unfold lV
    rw [length_map]
    exact le_trans (length_filter_le _ _) (by rw [length_take]; omega)
   refine ⟨q,_,rfl,aS.of a1,rfl,_,_,rfl,_,_,rfl,rfl,?_⟩
   have hv:∃ r,x.vs=.str x.u :: .int x.n :: r:=by unfold Wi.vs; split <;> exact ⟨_,rfl⟩
   obtain ⟨r,hv⟩:=hv
   rw [hv] at a4
   refine ⟨_,rfl,h,_,_,.str x.u,rfl,rfl,aS.of a4,at0 _ _,rfl,_,rfl,dy (fun c=>?_) (fun c=>?_)⟩
   ·have c:x.u = "count" := strEq c
    refine ⟨_,rfl,at_,_,rfl,df hot pL,_,rfl,h,_,_,.int x.n,rfl,rfl,aS.of a4,at1 _ _ _,mt.c,_,rfl,iy.k (k:=Sum.inl x.n) c1 (bQ (by omega)),?_⟩
    refine ⟨_,_,rfl,kp.trans (Keeps.refl.upd c1 (by intro _ z; cases z) (.inr (.inr (.inl rfl)))),?_⟩
    have ec:lV (xs.take (j + 1))=lV (xs.take j) ++ [x.n]:=by
     unfold lV
     rw [tk,filter_append,map_append]
     simp [c]
    have h9:=c2.put (ks':=lV (xs.take (j + 1))) x.n 0 (fun i=>by rw [ec,mem_append,mem_singleton]; exact or_comm)
    rw [show ja (AB (xs.take j)).cf x.n 0=fun _=>0 from Jk _] at h9
    exact MJ.Ht h9 (le_trans (dn dd _ _) (by have:dd.length ≤ 12:=le_trans cl cl2; omega))
   ·have ec:lV (xs.take (j + 1))=lV (xs.take j):=by
     have c:¬ x.u = "count" := fun e=>c (decide_eq_true (congrArg V.str e))
     unfold lV
     rw [tk,filter_append,map_append]
     simp [c]
    refine ⟨_,_,rfl,kp,?_⟩
    unfold AB
    rw [ec]
    exact MJ
  rintro σ G ⟨v1,v2,rfl,kp,MJ⟩
  rw [length_map,hql,take_length] at MJ
  have Jo:=(ML.same s2).keeps kp (fun c hc ht=>dj c ht hc)
  have kG:Keeps (fun c=>cS mt at_ c∨i0 ml a c) H G:=(Keeps.same sA).trans (kp.more fun _=>.inl)
  have nU:∀ c,(cS mt at_ c∨i0 ml a c)→H c=none:=fun c hc=>hc.elim (nT c) (nw c)
  have nr:∀ c o,H c=some o→¬ (cS mt at_ c∨i0 ml a c):=fun c o e z=>by rw [nU c z] at e; cases e
  generalize hF:lU (bh bells) rws xs most (z0 bs cf) (AB xs) (xs.filter (i3 0))=F at k
  have nrl:∀ c o,H c=some o→¬ cS mt at_ c∧¬ i0 ml a c:=fun c o e=>⟨fun z=>nr c o e (.inl z),fun z=>nr c o e (.inr z)⟩
  have HA:iZ rws.length (z0 bs cf):=⟨.inr ⟨0,rfl,DP⟩,fun p hp=>absurd hp (by simp [z0])⟩
  refine ⟨fun σ G'=>∃ v1 v2 v3 v4 i,σ=[some (.ref lr),some (.ref lw),some (.ref tb),some (.int (most:Int)),some (.ref pb),some (.ref pc),some (.ref pl),some (.ref a),some (.ref at_),v1,v2,v3,v4]∧Ln (bh bells) rws xs most F H a ml at_ mt i G',?_,?_⟩
  ·refine ⟨_,rfl,_,_,rfl,rfl,_,rfl,dy (fun c=>?_) (fun c=>?_)⟩
   ·have c:(0:Int) < (most:Int):=of_decide_eq_true c
    obtain ⟨n0,rfl⟩:∃ n0,most=n0 + 1:=⟨most - 1,by omega⟩
    have wl:=zK (xs:=xs) (b:=.non) (s:=0)
    have ew:tT xs .non 0=xs.filter (i3 0):=rfl
    refine ⟨_,rfl,_,rfl,_,rfl,lw,a,at_,.non,ml,50,z0 bs cf,0,mt,0,AB xs,xs,rfl,Jo,rfl,rfl,MJ,rfl,?_,by omega,hg,dj,.inl rfl,by omega,fun H' k' M'=>?_⟩
    ·obtain ⟨Lq,e0,_⟩:=id hW
     exact hW.keeps kG (nr lw _ e0)
    refine ⟨v1,v2,none,none,1,rfl,z0 bs cf,_,by omega,kG.trans (k'.more fun _=>.inl),(Jo.keeps k' (fun c hc ht=>dj c ht hc)).more (by omega) (by omega),M'.more (by omega) (by omega),zJ,fun he=>⟨?_,⟨rfl,0,rfl,DP⟩,HA⟩,?_⟩
    ·rw [rT he]
     rfl
    ·rw [← hF,pN,ew]
     rfl
   ·have c:most=0:=by
     have:¬ (0:Int) < (most:Int):=fun z=>c (decide_eq_true z)
     omega
    subst c
    refine ⟨v1,v2,none,none,0,rfl,z0 bs cf,AB xs,le_refl _,kG,Jo,MJ,rfl,fun _=>⟨rfl,⟨rfl,0,rfl,DP⟩,HA⟩,?_⟩
    rw [← hF]
    exact (if_neg (fun z=>z.2 rfl)).symm
  rintro σ G' ⟨v1,v2,v3,v4,i,rfl,hI⟩
  clear Jo MJ kp kG
  refine ⟨fun n σ G=>∃ v1 v2 v3 v4 i,σ=[some (.ref lr),some (.ref lw),some (.ref tb),some (.int (most:Int)),some (.ref pb),some (.ref pc),some (.ref pl),some (.ref a),some (.ref at_),v1,v2,v3,v4]∧n=most - i∧Ln (bh bells) rws xs most F H a ml at_ mt i G,⟨_,v1,v2,v3,v4,i,rfl,rfl,hI⟩,?_⟩
  rintro n σ G ⟨v1,v2,v3,v4,i,rfl,rfl,z,t,hi,kG,ML,MT,hks,hup,hFF⟩
  obtain ⟨wt,hot,uP⟩:=MT.st
  have fin:F=t→Q (.ref at_) G:=fun e=>k at_ mt G (kG.xC nU) nT (e ▸ MT.more (by omega) (by decide))
  refine ⟨_,rfl,at_,_,rfl,df hot j8,mt.r,_,rfl,.inl (bj.of MT.rws),_,rfl,_,_,rfl,rfl,_,rfl,dy (fun c1=>?_) (fun c1=>?_)⟩
  ·refine ⟨_,rfl,at_,_,rfl,df hot zG,?_⟩
   cases he:t.en with
   | some zs =>
    rw [he] at uP
    obtain ⟨p,rfl,_⟩:=uP
    refine ⟨rfl,_,rfl,aX (fun z=>by cases of_decide_eq_true z) ⟨_,rfl,fin ?_⟩⟩
    rw [hFF]
    exact if_neg (fun z=>by rw [he] at z; cases z.1)
   | none =>
   rw [he] at uP
   have uP:wt=.non:=uP
   subst uP
   obtain ⟨hrl,⟨hn,r,Jp,hrn⟩,hst⟩:=hup he
   have c1:t.rows.length < most:=by have:=of_decide_eq_true c1; rw [length_map] at this; omega
   have hne:most - i ≠ 0:=by omega
   refine ⟨rfl,_,rfl,cF (by decide) ⟨fun σ' G'=>∃ v1 v2 v3 v4,σ'=[some (.ref lr),some (.ref lw),some (.ref tb),some (.int (most:Int)),some (.ref pb),some (.ref pc),some (.ref pl),some (.ref a),some (.ref at_),v1,v2,v3,v4]∧Ln (bh bells) rws xs most F H a ml at_ mt (i + 1) G',?_,?_⟩⟩
   ·rintro σ' G' ⟨v1,v2,v3,v4,rfl,h⟩
    exact ⟨most - (i + 1),by omega,v1,v2,v3,v4,i + 1,rfl,rfl,h⟩
   obtain ⟨Lq,e0,_⟩:=id hR
   obtain ⟨qs,hq,hql,BD⟩:=hR.keeps kG (nr lr _ e0)
   have hqr:qs[r]? = some qs[r]:=aa (by omega)
   have hwr:rws[r]? = some rws[r]:=aa hrn
   have AG:=BD r _ _ hqr hwr
   have hI:dH z=r:=by unfold dH; rw [Jp]
   have hOf:qI rws z=rws[r]:=by unfold qI; rw [hI,i4,List.getD_eq_getElem?_getD,hwr]; rfl
   have vN:r + 1=rws.length→rws[r].word ∈ cY:=fun e=>L0 _ (by rw [show rws.length - 1=r by omega]; exact hwr)
   generalize rws[r]=rw at hwr AG hOf vN
   generalize qs[r]=q at hqr AG
   have hrow:(qs.map V.ref)[r]? = some (.ref q):=by rw [ab,hqr]; rfl
   obtain ⟨h0,wl,hol,hwl,Tb⟩:=ML.st
   have Tb:=(Tb hn).trans Jp
   subst Tb
   refine ⟨_,rfl,_,rfl,a,_,rfl,df hol rN,lr,_,_,.ref q,rfl,rfl,bj.of hq,ck (j:=r) hrow,?_⟩
   obtain ⟨items,HQ⟩:=lS AG
   have Tc:=MT.more (le_succ (26 * i)) (by omega)
   obtain ⟨ps,ps1,ps2⟩:=Tc.seen
   have lm:=MT.lens
   refine ⟨fun σ' G'=>σ'=[some (.ref lr),some (.ref lw),some (.ref tb),some (.int (most:Int)),some (.ref pb),some (.ref pc),some (.ref pl),some (.ref a),some (.ref at_),v1,v2,some (.ref q),v4]∧Keeps (cS mt at_) G G'∧TS G' at_ mt (26 * i + 1) (jl rw z.bs t),?_,?_⟩
   ·refine ⟨_,rfl,q,_,_,.str rw.word,rfl,rfl,aS.of HQ,at0 _ _,rfl,_,rfl,dy (fun c=>?_) (fun c=>?_)⟩
    ·have c:rw.word = "see" := strEq c
     obtain ⟨b,v,rfl⟩:∃ b v,rw=.two "see" b v:=by
      cases rw with
      | two u b v=>exact ⟨b,v,by rw [show u = "see" from c]⟩
      | stop=>exact absurd c (by decide +kernel)
      | back=>exact absurd c (by decide +kernel)
      | halt v=>exact absurd c (show ¬ ("halt" : Str) = "see" by decide +kernel)
      | tell v=>exact absurd c (show ¬ ("tell" : Str) = "see" by decide +kernel)
      | table b ts=>exact absurd c (show ¬ ("table" : Str) = "see" by decide +kernel)
      | eE u t f=>exact absurd c ((by decide +kernel:∀ u ∈ My.eE,¬ u = "see") u AG.2.1)
      | zb u b t f=>exact absurd c ((by decide +kernel:∀ u ∈ My.zb,¬ u = "see") u AG.2.1)
     obtain ⟨La,_,hb,_⟩:=AG
     refine ⟨_,rfl,at_,_,rfl,df hot pK,.inl ⟨rfl,_,bj.of ps1⟩,_,rfl,q,_,_,.int v,rfl,rfl,aS.of La,at2 _ _ _ _,_,rfl,a,_,rfl,df hol vJ,_,rfl,q,_,_,.int b,rfl,rfl,aS.of La,at1 _ _ _,ml.p1,_,_,_,rfl,rfl,bj.of ML.box,rQ ML.b8 hb,cZ,fun t3 n3=>⟨mt.s,_,_,rfl,rfl,dX n3 ps1,bQ (by rw [length_map,ps2.1]; omega),?_⟩⟩
     have sN:=aj (o:=.tup [V.int v,V.int (qH z.bs b)]) n3
     rw [show ps.map V.ref ++ [V.ref t3]=(ps ++ [t3]).map V.ref by simp]
     refine ⟨rfl,(Keeps.same sN).upd (sN _ _ ps1) (by intro _ z; cases z) (.inr (.inl rfl)),?_⟩
     rw [show jl (.two "see" b v) z.bs t={ t with sn:=t.sn ++ [(v,qH z.bs b)] } by simp only [jl,if_true]]
     exact (Tc.same sN).pA ((ps2.tups (.of sN)).snoc (p:=(v,qH z.bs b)) ah) (by simp; omega)
    ·have e:jl rw z.bs t=t:=by
      cases rw with
      | two u b v=>exact if_neg (fun e=>c (decide_eq_true (congrArg V.str e)))
      | _=>rfl
     rw [e]
     exact ⟨rfl,Keeps.refl,Tc⟩
   rintro σ' G1 ⟨rfl,k1,zI⟩
   have SZ:=ML.keeps k1 (fun c hc ht=>dj c ht hc)
   have Oh:=kG.trans (k1.more fun _=>Or.inl)
   refine ⟨_,rfl,_,rfl,_,rfl,lr,pl,a,q,ml,50 + 2 * i,z,r,_,rw,bells,qs.map V.ref,rfl,SZ,by omega,hn,Jp,k1 _ _ hq (.inl (nrl lr _ e0).1),hrow,AG.tups k1.tups,Oh _ _ hpl (.inl (nr pl _ hpl)),(nrl pl _ hpl).2,fun G2 k2 Jo=>?_⟩
   have Lr:=Oh.trans (k2.more fun _=>Or.inr)
   have AA:=zI.keeps k2 (fun c hc hl=>dj c hc hl)
   have eZ:hV (bh bells) rws z=aZ (bh bells) rw r z:=by unfold hV; rw [hOf,hI]
   have eT:nextT (bh bells) rws z t={ jl rw z.bs t with en:=(aZ (bh bells) rw r z).how }:=by unfold nextT; rw [hOf,eZ]
   have hst':iZ rws.length (aZ (bh bells) rw r z):=hst.step hrn AG vN
   have rn:=DK (ring:=bh bells) (r:=rw) (h:=r) (z:=z) hn
   have eF:F=if (aZ (bh bells) rw r z).how=none then lU (bh bells) rws xs (most - i) (aZ (bh bells) rw r z) (nextT (bh bells) rws z t) (mI (bh bells) rws xs z) else nextT (bh bells) rws z t:=by
    rw [hFF,← eZ]
    exact if_pos ⟨he,hne⟩
   have wn:=fun (s:Int)=>DO (ring:=bh bells) (rws:=rws) (xs:=xs) (z:=z) (s:=s)
   rw [eZ,hOf,hI] at wn
   generalize hz':aZ (bh bells) rw r z=z' at Jo eZ eT hst' rn eF wn
   obtain ⟨h2,w2,hol2,Td,_⟩:=Jo.st
   obtain ⟨wt2,xA,Od⟩:=AA.st
   refine ⟨_,rfl,a,_,rfl,df hol2 NR,_,rfl,at_,_,rfl,iy.k (k:=Sum.inr "ending") xA zH,?_⟩
   rw [tS]
   have uQ:=AA.put Td
   have k3:Keeps (cS mt at_) G2 (upd G2 at_ (.dK (td mt w2))):=Keeps.refl.upd xA (by intro _ z; cases z) (.inl rfl)
   generalize upd G2 at_ (.dK (td mt w2))=G3 at uQ k3 ⊢
   rw [← eT] at uQ
   have Te:=Jo.keeps k3 (fun c hc ht=>dj c ht hc)
   have L3:=Lr.trans (k3.more fun _=>Or.inl)
   have hk3:(nextT (bh bells) rws z t).ks=lV xs:=by rw [eT]; exact oq.1.trans hks
   have Tf:(nextT (bh bells) rws z t).rows.length=i:=by rw [eT]; show (jl rw z.bs t).rows.length=i; rw [oq.2]; exact hrl
   have L4:(nextT (bh bells) rws z t).en=z'.how:=by rw [eT]
   rcases rn with ⟨e1,ys,e2⟩ | ⟨⟨s',e1⟩,e2⟩
   ·have eb:pB rw r z'=.non:=by unfold pB; rw [e2]
    refine ⟨_,rfl,?_⟩
    rw [eb]
    refine ⟨rfl,_,rfl,aX (by decide) ?_⟩
    refine ⟨v1,v2,_,_,rfl,z',nextT (bh bells) rws z t,by omega,L3,Te.more (by omega) (by omega),uQ.more (by omega) (by omega),hk3,(fun e=>by rw [L4,e2] at e; cases e),?_⟩
    rw [eF,if_neg (by rw [e2]; intro z; cases z)]
    exact (if_neg (fun y=>by rw [L4,e2] at y; cases y.1)).symm
   ·have wn:=wn s' e2 e1
    have eb:∃ l,pB rw r z'=.int l:=by unfold pB; rw [e2,e1]; by_cases c:rw.word = "back"; exact ⟨_,if_pos c⟩; exact ⟨_,if_neg c⟩
    obtain ⟨l,eb⟩:=eb
    have wl:=zK (xs:=xs) (b:=.int l) (s:=s')
    refine ⟨_,rfl,?_⟩
    rw [eb] at wn ⊢
    refine ⟨rfl,_,rfl,cF rfl ?_⟩
    obtain ⟨qsw,ew,_⟩:=id hW
    refine ⟨_,rfl,_,rfl,_,rfl,_,rfl,lw,a,at_,.int l,ml,50 + 2 * i + 2,z',s',mt,26 * i + 1,nextT (bh bells) rws z t,xs,rfl,Te,e2,e1,uQ,L4.trans e2,hW.keeps L3 (nr lw _ ew),by omega,by rw [hk3]; exact hg,dj,.inr ⟨l,rfl⟩,by omega,fun G4 k4 M4=>?_⟩
    refine ⟨v1,v2,_,_,rfl,z',_,by omega,L3.trans (k4.more fun _=>.inl),(Te.keeps k4 (fun c hc ht=>dj c ht hc)).more (by omega) (by omega),M4.more (by omega) (by omega),zJ.trans hk3,fun e=>⟨?_,⟨e2,?_⟩,hst'⟩,?_⟩
    ·rw [rT e,length_append,Tf]
     rfl
    ·rcases hst'.1 with y | ⟨r',y1,y2⟩
     ·rw [e1] at y
      cases y
     ·exact ⟨r',y1,y2⟩
    ·obtain ⟨n0,hn0⟩:∃ n0,most - i=n0 + 1:=⟨most - i - 1,by omega⟩
     have hs':dH z'=s':=by unfold dH; rw [e1]
     rw [eF,if_pos e2,hn0,pN,hs',wn,show most - (i + 1)=n0 by omega]
  ·refine iz ⟨_,rfl,fin ?_⟩
   have c1:¬ (t.rows.length:Int) < (most:Int):=fun z=>c1 (decide_eq_true (by rw [length_map]; exact z))
   rw [hFF]
   refine if_neg (fun z=>z.2 ?_)
   have:=(hup z.1).1
   omega
end
section
variable {P:Program} {w:World} {K:Frag} {mg:Str→Option Value} {base:Heap}
def xD:Sp:=fun vs H Q _=>∃ (r:Addr) (w:Str) (items:List V),vs=[.ref r]∧H r=some (.tup (.str w :: items))∧Q (.bl (!decide (w ∈ cY))) H
theorem Ls:aJ ["row"] ["row"] (ak gN):=⟨rfl,rfl,rfl,by decide +kernel,rfl,by decide +kernel,by decide +kernel⟩
theorem xE {f:Addr} {fd:cx} (F:dO K "goes_on" "goes_on" gN f fd) (T:Txt K w.params mg):aR P w K mg base bV 1 f fd ["row"] xD:=by
 refine F.ok Ls (fun vs H Q E h=>?_) (fun cdv A outer s H vs Q E hr h=>?_)
 ·obtain ⟨r,w,items,rfl,_⟩:=h
  rfl
 ·obtain ⟨r,w',items,rfl,hR,k⟩:=h
  obtain ⟨p,hp,hq⟩:=T.o9
  refine ⟨_,aA (aV (ie ku (au ay (pv 0) ai (fun _ _=>rfl)) (dI (v:=.ref p) rfl hp rfl) rfl)),?_⟩
  refine ⟨_,rfl,r,_,0,.str w',rfl,rfl,aS.of hR,at0 _ _,p,_,rfl,.inr (hq _),rfl,rfl,?_⟩
  show Q (.bl (!inV (.str w') (cY.map V.str))) H
  rw [er]
  exact k
def lW:Sp:=fun vs H Q _=>∃ (r:Addr) (w:Str) (ts:List Int),vs=[.ref r]∧mq H r w ts∧∀ (l:Addr) (H':Hp),Same H H'→H l=none→H' l=some (.lst (ts.map V.int))→Q (.ref l) H'
theorem rV:aJ ["row", "word"] ["row"] (ak d8):=⟨rfl,rfl,rfl,by decide +kernel,rfl,by decide +kernel,by decide +kernel⟩
theorem qJ {f:Addr} {fd:cx} (F:dO K "targets_of" "targets_of" d8 f fd) (T:Txt K w.params mg):aR P w K mg base bV 1 f fd ["row"] lW:=by
 refine F.ok rV (fun vs H Q E h=>?_) (fun cdv A outer s H vs Q E hr h=>?_)
 ·obtain ⟨r,w,ts,rfl,_⟩:=h
  rfl
 ·obtain ⟨r,w',ts,rfl,⟨items,hR,hP⟩,k⟩:=h
  refine ⟨_,aB (aU (i:=1) rV.nd rfl (Or.inl rfl) (au ay (pv 0) ai (fun _ _=>rfl)))
   (aB (cq (aF bX (pv 1) aq (aP _)) (aA (aV (bU cJ (by rfl) T.list ei (ae (au ay (pv 0) ai (fun _ _=>rfl)) ao)))) aN)
   (aB (cq (aF dh (pv 1) (bg (ae aq (ae aq (ae aq ao)))) rfl) (aA (aV (cr (ae (au ay (pv 0) ai (fun _ _=>rfl)) ao)))) aN)
   (aB (cq (aF dh (pv 1) (bg (ae aq (ae aq ao))) rfl) (aA (aV (cr (ae (au ay (pv 0) ai (fun _ _=>rfl)) ao)))) aN)
   (aA (aV (cr ao)))))),?_⟩
  refine ⟨_,rfl,r,_,0,.str w',rfl,rfl,aS.of hR,at0 _ _,_,rfl,rfl,_,rfl,?_⟩
  refine dy (fun h1=>?_) (fun h1=>?_)
  ·have h1:=strEq h1
   unfold Parts at hP
   rw [if_pos h1] at hP
   obtain ⟨b,q,rfl,hq⟩:=hP
   refine ⟨_,rfl,r,_,2,.ref q,rfl,rfl,aS.of hR,at2 _ _ _ _,q,_,rfl,.inr (aS.of hq),fun l hl=>?_⟩
   exact k l _ (aj hl) hl ah
  ·have h1:=IB h1
   unfold Parts at hP
   rw [if_neg h1] at hP
   refine ⟨_,rfl,j6,fun t ht=>⟨t,eE.map V.str,rfl,.inr (aS.of ah),rfl,rfl,_,rfl,?_⟩⟩
   have s1:=aj (o:=.tup (eE.map V.str)) ht
   have DP:=s1 _ _ hR
   rw [show inV (.str w') (eE.map V.str)=decide (w' ∈ eE) from er _ _]
   refine dy (fun h2=>?_) (fun h2=>?_)
   ·have h2:=of_decide_eq_true h2
    rw [if_pos h2] at hP
    obtain ⟨t',f',rfl,rfl⟩:=hP
    refine ⟨_,rfl,r,_,1,.int t',rfl,rfl,aS.of DP,at1 _ _ _,oY,fun l hl=>?_⟩
    exact k l _ (s1.trans (aj hl)) (s1.free hl) ah
   ·have h2:¬ w' ∈ eE:=fun e=>h2 (decide_eq_true e)
    rw [if_neg h2] at hP
    refine ⟨_,rfl,cZ,fun t2 Ng=>⟨t2,zb.map V.str,rfl,.inr (aS.of ah),rfl,rfl,_,rfl,?_⟩⟩
    have s2:=s1.trans (aj (o:=.tup (zb.map V.str)) Ng)
    have Du:=s2 _ _ hR
    rw [show inV (.str w') (zb.map V.str)=decide (w' ∈ zb) from er _ _]
    refine dy (fun h3=>?_) (fun h3=>?_)
    ·have h3:=of_decide_eq_true h3
     rw [if_pos h3] at hP
     obtain ⟨b,t',f',rfl,rfl⟩:=hP
     refine ⟨_,rfl,r,_,2,.int t',rfl,rfl,aS.of Du,at2 _ _ _ _,oY,fun l hl=>?_⟩
     exact k l _ (s2.trans (aj hl)) (s2.free hl) ah
    ·have h3:¬ w' ∈ zb:=fun e=>h3 (decide_eq_true e)
     rw [if_neg h3] at hP
     subst hP
     refine ⟨lQ,fun l hl=>?_⟩
     exact k l _ (s2.trans (aj hl)) (s2.free hl) ah
def DQ:Sp:=fun vs H Q _=>∃ (p q:Addr) (rows:List V) (r:Nat) (w:Str) (ts:List Int),vs=[.ref p,.int r]∧bj K H p rows∧rows[r]? = some (.ref q)∧mq H q w ts∧ts.length ≤ 16 ∧
 ∀ (l:Addr) (ms:List Int) (H':Hp),Same H H'→H l=none→H' l=some (.lst (ms.map V.int))→ms.Pairwise (· ≤ ·)→ms.Nodup→(∀ j,j ∈ ms↔j ∈ ts∨(¬ w ∈ cY∧j=r + 1))→Q (.ref l) H'
theorem DR:aJ ["rows", "r", "ways"] ["rows", "r"] (ak gP):=⟨rfl,rfl,rfl,by decide +kernel,rfl,by decide +kernel,by decide +kernel⟩
theorem xF {f fG fT:Addr} {fd Oi CZ:cx} (F:dO K "ways_of" "ways_of" gP f fd) (T:Txt K w.params mg) (GG:aR P w K mg base bV 1 fG Oi ["row"] xD) (kG:KI K fG) (bG:Binds K Oi ["row"] []) (mG:mg "goes_on" = some (.ref fG)) (GT:aR P w K mg base bV 1 fT CZ ["row"] lW) (kT:KI K fT) (bT:Binds K CZ ["row"] []) (mT:mg "targets_of" = some (.ref fT)):aR P w K mg base bV 2 f fd ["rows", "r"] (DQ (K:=K)):=by
 refine F.ok DR (fun vs H Q E h=>?_) (fun cdv A outer s H vs Q E hr h=>?_)
 ·obtain ⟨p,q,rows,r,w,ts,rfl,_⟩:=h
  rfl
 ·obtain ⟨p,q,rows,r,w',ts,rfl,hS,hq,hR,hlen,k⟩:=h
  refine ⟨_,aB (aU (i:=2) DR.nd rfl (Or.inl rfl) (aQ GT hr (by rfl) mT kT bT .nil bp (ae (au aK (pv 0) (pv 1) (fun _ _=>rfl)) ao)))
   (aB (cq (eB (aQ GG hr (by rfl) mG kG bG .nil bp (ae (au aK (pv 0) (pv 1) (fun _ _=>rfl)) ao)))
    (aA (bz (gw fb ff fg bZ (pv 2) (ae (aO dv (pv 1) ai) ao)))) aN)
   (aA (aV (aW (g6 rfl) (by rfl) T.sorted jH (ae (bU (jh rfl) (by rfl) T.set w4 (ae (pv 2) ao)) ao))))),?_⟩
  refine ⟨_,rfl,_,rfl,p,rows,r,.ref q,rfl,rfl,hS,ck hq,q,w',ts,rfl,hR,fun l H1 s1 nl hl=>?_⟩
  have hS1:=s1.seq hS
  obtain ⟨items,hq1,_⟩:=hR.same s1
  refine ⟨_,rfl,_,rfl,p,rows,r,.ref q,rfl,rfl,hS1,ck hq,q,w',items,rfl,hq1,_,rfl,?_⟩
  have fin:∀ (ns:List Int) (H2:Hp),Same H H2→H2 l=some (.lst (ns.map V.int))→ns.length ≤ 17→(∀ j,j ∈ ns↔j ∈ ts∨(¬ w' ∈ cY∧j=r + 1)) →
    ∃ v,[some (V.ref p),some (V.int r),some (V.ref l)][2]? = some (some v)∧∃ (p':Addr) (ns':List Int),[v]=[V.ref p']∧bj K H2 p' (ns'.map V.int)∧ns'.length < 4000∧∀ (l':Addr) (us:List Int),H2 l'=none→us.length ≤ ns'.length→us.Nodup→(∀ j,j ∈ us↔j ∈ ns') →
     ∃ (p2:Addr) (Nc:List Int),[V.ref l']=[V.ref p2]∧(upd H2 l' (oU P w l' us)) p2=some (oU P w p2 Nc)∧Nc.length < 64∧∀ (l2:Addr) (ms:List Int),(upd H2 l' (oU P w l' us)) l2=none→ms.Perm Nc→ms.Pairwise (· ≤ ·)→Q (.ref l2) (upd (upd H2 l' (oU P w l' us)) l2 (.lst (ms.map V.int))):=by
   intro ns H2 s2 h2 hl2 hm
   refine ⟨_,rfl,l,ns,rfl,bj.of h2,by omega,fun l' us Oj hu hnd Ol=>⟨l',us,rfl,ah,by omega,fun l2 ms Jq hp EL=>?_⟩⟩
   have s3:=s2.trans (aj (o:=oU P w l' us) Oj)
   exact k l2 ms _ (s3.trans (aj Jq)) (s3.free Jq) ah EL (hp.nodup_iff.mpr hnd) (fun j=>by rw [hp.mem_iff,Ol,hm])
  refine dy (fun h1=>?_) (fun h1=>?_)
  ·have h1:¬ w' ∈ cY:=by simpa using h1
   refine ⟨_,rfl,.inl ⟨rfl,_,bj.of hl⟩,_,rfl,_,_,rfl,rfl,l,_,_,rfl,rfl,hl,?_,?_⟩
   ·rw [length_map]
    exact cM (by omega)
   ·have e:(ts.map V.int ++ [V.int ((r:Int) + 1)])=(ts ++ [(r:Int) + 1]).map V.int:=by simp
    rw [e]
    refine fin (ts ++ [(r:Int) + 1]) _ ?_ ah (by simp; omega) (fun j=>?_)
    ·intro b o z
     rw [aL (az z nl)]
     exact s1 b o z
    ·rw [mem_append,mem_singleton]
     exact ⟨fun z=>z.imp id fun e=>⟨h1,e⟩,fun z=>z.imp id fun e=>e.2⟩
  ·have h1:w' ∈ cY:=by simpa using h1
   refine fin ts _ s1 hl (by omega) (fun j=>⟨.inl,fun z=>z.elim id fun e=>absurd h1 e.1⟩)
end
def kdN:List Str:=["box", "aside", "target", "number", "value", "far"]
def HB (H:Hp) (kd:Str) (v:V):Prop:=(kd = "targets" ∧ ∃ (p:Addr) (ts:List Int),v=.ref p∧H p=some (.tup (ts.map V.int))∧ts ≠ []∧ts.length ≤ 16∧∀ t ∈ ts,0 ≤ t∧t ≤ 1000000000)∨(kd ∈ kdN∧∃ i,v=.int i∧vE kd i)
theorem HB.same {H H':Hp} {kd:Str} {v:V} (h:HB H kd v) (s:Same H H'):HB H' kd v:=by
 rcases h with ⟨a,p,ts,b,c,d⟩ | h
 ·exact .inl ⟨a,p,ts,b,s _ _ c,d⟩
 ·exact .inr h
theorem pO (n:Nat):(replicate n true).map V.bl ++ [V.bl true]=(replicate (n + 1) true).map V.bl:=by
 rw [List.replicate_succ',map_append]
 rfl
theorem tV (n:Nat):(replicate n true).all id=true:=by simp
theorem Jr (a:V) (l:List V):ib (a :: l) (some 1) none=l:=by
 unfold ib
 simp [HT.eG]
section
variable {P:Program} {w:World} {K:Frag} {mg:Str→Option Value} {base:Heap}
def Lv:Sp:=fun vs H Q _=>∃ i:Int,vs=[.int i]∧Q (.bl true) H
theorem Tg:aJ ["thing"] ["thing"] (ak fJ):=⟨rfl,rfl,rfl,by decide +kernel,rfl,by decide +kernel,by decide +kernel⟩
theorem vO {f:Addr} {fd:cx} (F:dO K "is_whole" "is_whole" fJ f fd) (T:Txt K w.params mg)  : aR P w K mg base bV 1 f fd ["thing"] Lv:=by
 refine F.ok Tg (fun vs H Q E h=>?_) (fun cdv A outer s H vs Q E hr h=>?_)
 ·obtain ⟨i,rfl,_⟩:=h
  rfl
 ·obtain ⟨i,rfl,k⟩:=h
  refine dG (aM (aG (aV (iP (aW cK (by rfl) T.CW hC (ae (pv 0) (ae (fe (v:=.ty "int") (by rfl) T.int w6 rfl) ao))) (j0 (JG (aW cK (by rfl) T.CW hC (ae (pv 0) (ae (fe (v:=.ty "bool") (by rfl) T.bool y0 rfl) ao))))))))) ?_
  exact ⟨_,rfl,_,_,_,_,rfl,.int _,rF,_,rfl,cF rfl ⟨_,rfl,_,_,_,_,rfl,.int _,o8,_,rfl,k⟩⟩
def HC:Sp:=fun vs H Q _=>∃ (q:Addr) (u:Str) (r:List V),vs=[.ref q]∧H q=some (.tup (.str u :: r))∧Q (.str u) H
theorem Ti:aJ ["thing"] ["thing"] (ak gR):=⟨rfl,rfl,rfl,by decide +kernel,rfl,by decide +kernel,by decide +kernel⟩
theorem xG {f:Addr} {fd:cx} (F:dO K "word_of" "word_of" gR f fd) (T:Txt K w.params mg)  : aR P w K mg base bV 1 f fd ["thing"] HC:=by
 refine F.ok Ti (fun vs H Q E h=>?_) (fun cdv A outer s H vs Q E hr h=>?_)
 ·obtain ⟨q,u,r,rfl,_⟩:=h
  rfl
 ·obtain ⟨q,u,r,rfl,hq,k⟩:=h
  refine dG (aw (cD (eM (eB (aW cK (by rfl) T.CW hC (ae (pv 0) (ae (fe (v:=.ty "tuple") (by rfl) T.tuple lg rfl) ao)))) (eM (aF qV (aW bf (by rfl) T.len dc (ae (pv 0) ao)) ai (aP _)) (d6 (eB (aW cK (by rfl) T.CW hC (ae (au ay (pv 0) ai (fun _ _=>rfl)) (ae (fe (v:=.ty "str") (by rfl) T.str Km rfl) ao))))))).pt (aM (aG (aV (au ay (pv 0) ai (fun _ _=>rfl))))) (bu aN))
   (aM (aG (aV eA)))) ?_
  refine ⟨_,rfl,_,_,_,_,rfl,.tup hq,iA,_,rfl,cF rfl ?_⟩
  refine ⟨_,rfl,q,_,rfl,.inr (aS.of hq),_,_,rfl,rfl,_,rfl,cF (decide_eq_true (by rw [bo]; omega)) ?_⟩
  exact ⟨_,rfl,q,_,0,_,rfl,rfl,aS.of hq,at0 _ _,_,_,_,_,rfl,.str _,oZ (by decide),_,rfl,cF rfl ⟨_,rfl,q,_,0,_,rfl,rfl,aS.of hq,at0 _ _,k⟩⟩
def Lw:Sp:=fun vs H Q _=>∃ (kd:Str) (i:Int),vs=[.str kd,.int i]∧kd ∈ kdN∧vE kd i∧Q (.bl true) H
theorem Txt.bnd {pr:Params} (T:Txt K pr mg):∃ p,mg "BOUNDS" = some (.ref p)∧∀ kd ∈ kdN,∃ q,dJ K pr p kd (some (.ref q))∧∀ H,aS K H q [.int (ph kd).1,.int (ph kd).2]:=by
 obtain ⟨p,hp,_,h0,h1,h2,h3,h4,h5⟩:=T.CU
 refine ⟨p,hp,fun kd hk=>?_⟩
 rcases (by decide +kernel:∀ kd:Str,kd ∈ kdN→(kd=("box" : Str)∧ph kd=(0,7))∨(kd=("aside" : Str)∧ph kd=(0,1000000))∨(kd=("target" : Str)∧ph kd=(0,1000000000))∨(kd=("number" : Str)∧ph kd=(0,1000000))∨(kd=("value" : Str)∧ph kd=(-1000000000,1000000000))∨(kd=("far" : Str)∧ph kd=(0,1))) kd hk with ⟨rfl,e⟩ | ⟨rfl,e⟩ | ⟨rfl,e⟩ | ⟨rfl,e⟩ | ⟨rfl,e⟩ | ⟨rfl,e⟩ <;> rw [e] <;> assumption
theorem Tj:aJ ["kind", "thing"] ["kind", "thing"] (ak dC):=⟨rfl,rfl,rfl,by decide +kernel,rfl,by decide +kernel,by decide +kernel⟩
theorem nj {f fW:Addr} {fd rS:cx} (F:dO K "is_number_of" "is_number_of" dC f fd) (T:Txt K w.params mg) (GW:aR P w K mg base bV 1 fW rS ["thing"] Lv) (kW:KI K fW) (bW:Binds K rS ["thing"] []) (mW:mg "is_whole" = some (.ref fW)):aR P w K mg base bV 2 f fd ["kind", "thing"] Lw:=by
 refine F.ok Tj (fun vs H Q E h=>?_) (fun cdv A outer s H vs Q E hr h=>?_)
 ·obtain ⟨kd,i,rfl,_⟩:=h
  rfl
 ·obtain ⟨kd,i,rfl,hk,hi,k⟩:=h
  obtain ⟨pb,hpb,hpk⟩:=T.bnd
  obtain ⟨q,hq,hS⟩:=hpk kd hk
  refine dG (aM (aG (aV (iP (aQ GW hr (by rfl) mW kW bW .nil bp (ae (pv 1) ao)) (j0 (BW oB oB (au ay (jr (dI (v:=.ref pb) (by rfl) hpb rfl) (pv 0) (fun _ _=>rfl)) ai (fun _ _=>rfl)) (pv 1) (au ay (jr (dI (v:=.ref pb) (by rfl) hpb rfl) (pv 0) (fun _ _=>rfl)) ai (fun _ _=>rfl)))))))) ?_
  refine ⟨_,rfl,i,rfl,_,rfl,cF rfl ?_⟩
  refine ⟨_,rfl,pb,kd,_,rfl,rfl,hq,q,_,0,_,rfl,rfl,hS _,at0 _ _,_,rfl,_,_,rfl,rfl,_,rfl,cF (decide_eq_true hi.1) ?_⟩
  refine ⟨_,rfl,pb,kd,_,rfl,rfl,hq,q,_,1,_,rfl,rfl,hS _,at1 _ _ _,_,_,rfl,rfl,?_⟩
  show Q (.bl (decide (i ≤ (ph kd).2))) H
  rw [decide_eq_true hi.2]
  exact k
def Om:Sp:=fun vs H Q _=>∃ (p:Addr) (ts:List Int),vs=[.ref p]∧H p=some (.tup (ts.map V.int))∧ts ≠ []∧ts.length ≤ 16∧(∀ t ∈ ts,0 ≤ t∧t ≤ 1000000000)∧∀ H',Same H H'→Q (.bl true) H'
theorem Tn:aJ ["thing"] ["thing"] (ak dM):=⟨rfl,rfl,rfl,by decide +kernel,rfl,by decide +kernel,by decide +kernel⟩
def Lx:Scope:={ kind:=.function,names:=[(".0",.local),("target",.local),("is_number_of",.globalImplicit)],isGenerator:=false,isCoroutine:=false,more:=[] }
theorem DS:dS (ak dM) Lx ["thing"] ["target"] [none]:=⟨rfl,by decide +kernel,by decide +kernel,by decide +kernel,by decide +kernel,by decide +kernel⟩
theorem qK {f fN:Addr} {fd DT:cx} (F:dO K "is_targets" "is_targets" dM f fd) (T:Txt K w.params mg) (GN:aR P w K mg base bV 2 fN DT ["kind", "thing"] Lw) (kN:KI K fN) (bN:Binds K DT ["kind", "thing"] []) (mN:mg "is_number_of" = some (.ref fN)):aR P w K mg base bV 3 f fd ["thing"] Om:=by
 refine F.ok Tn (fun vs H Q E h=>?_) (fun cdv A outer s H vs Q E hr h=>?_)
 ·obtain ⟨p,ts,rfl,_⟩:=h
  rfl
 ·obtain ⟨p,ts,rfl,hp,c1,c2,hts,k⟩:=h
  obtain ⟨tm,hmt⟩:=T.pd
  have c1:0 < ts.length:=List.length_pos_iff.mpr c1
  refine dG (aw (cD (iE (gG (eB (aW cK (by rfl) T.CW hC (ae (pv 0) (ae (fe (v:=.ty "tuple") (by rfl) T.tuple lg rfl) ao))))) (gX (gG (kh oB oB ai (aW bf (by rfl) T.len dc (ae (pv 0) ao)) (dI (v:=.int 16) (by rfl) hmt ⟨_,rfl⟩))))).pt (aM (aG (aV lY))) (bu aN))
   (aM (aG (aV (aW (lP rfl) (by rfl) T.all w8 (ae (gj (N':=["target"]) (fr:=[none]) DS rfl (JM (pv 0)) (fun C s0 H0 fp=>(cG (i:=0) DS.nd rfl (Or.inl rfl))) (fun C s0 H0 fp=>iT) (fun C s0 H0 fp=>(aQ GN hr (by rfl) mN kN bN .nil bp (ae aq (ae (pv 0) ao))))) ao)))))) ?_
  refine ⟨_,rfl,_,_,_,_,rfl,.tup hp,iA,_,rfl,aX (by decide) ?_⟩
  refine ⟨_,rfl,p,_,rfl,.inr (aS.of hp),_,_,rfl,rfl,_,rfl,cF (decide_eq_true (by rw [length_map]; omega)) ⟨_,_,rfl,rfl,_,rfl,aX (by rw [decide_eq_true (by rw [length_map]; omega)]; decide) ?_⟩⟩
  refine ⟨_,rfl,p,rfl,⟨_,aS.of hp⟩,fun D nD=>CI (K:=K) (a:=p) (xs:=ts.map V.int) (fun i σ ys G=>∃ v:Option V,σ=[v]∧i ≤ 16∧ys=(replicate i true).map V.bl∧Same H G∧G D=some (.lst ys)) ?_ ?_ ?_ ?_⟩
  ·exact ⟨none,rfl,zero_le _,rfl,aj nD,ah⟩
  ·rintro i σ ys G _ ⟨v,rfl,_,_,s2,_⟩
   exact aS.of (s2 _ _ hp)
  ·rintro i x σ ys G hx ⟨v,rfl,Tp,rfl,s2,hD⟩
   rw [ab] at hx
   obtain ⟨t,ht,rfl⟩:=map_eq_some_iff.mp hx
   have hi:=(ac.mp ht).1
   refine ⟨_,rfl, "target",t,rfl,by decide +kernel,hts t (ad ht),hD,bQ (by rw [length_map,List.length_replicate]; omega),_,rfl,by omega,pO i,cQ s2 nD,ah⟩
  rintro σ ys G ⟨v,rfl,_,rfl,s2,hD⟩
  refine ⟨D,_,rfl,bj.of hD,?_⟩
  rw [tV]
  exact k G s2
def Oo:Sp:=fun vs H Q _=>∃ (kd:Str) (v:V),vs=[.str kd,v]∧HB H kd v∧∀ H',Same H H'→Q (.bl true) H'
theorem Tq:aJ ["kind", "thing"] ["kind", "thing"] (ak gQ):=⟨rfl,rfl,rfl,by decide +kernel,rfl,by decide +kernel,by decide +kernel⟩
theorem xH {f fN fS:Addr} {fd DT pC:cx} (F:dO K "is_part" "is_part" gQ f fd) (T:Txt K w.params mg) (GN:aR P w K mg base bV 2 fN DT ["kind", "thing"] Lw) (kN:KI K fN) (bN:Binds K DT ["kind", "thing"] []) (mN:mg "is_number_of" = some (.ref fN)) (GS:aR P w K mg base bV 3 fS pC ["thing"] Om) (kS:KI K fS) (bS:Binds K pC ["thing"] []) (mS:mg "is_targets" = some (.ref fS)):aR P w K mg base bV 4 f fd ["kind", "thing"] Oo:=by
 refine F.ok Tq (fun vs H Q E h=>?_) (fun cdv A outer s H vs Q E hr h=>?_)
 ·obtain ⟨kd,v,rfl,_⟩:=h
  rfl
 ·obtain ⟨kd,v,rfl,h,k⟩:=h
  refine dG (aw (cD (aF bX (pv 0) aq (aP _)) (aM (aG (aV (aQ GS hr (by rfl) mS kS bS .nil bp (ae (pv 1) ao))))) (bu aN))
   (aM (aG (aV (aQ GN (hr.mono (by decide)) (by rfl) mN kN bN .nil bp (ae (pv 0) (ae (pv 1) ao))))))) ?_
  refine ⟨_,rfl,rfl,_,rfl,?_⟩
  rcases h with ⟨rfl,p,ts,rfl,hp,c1,c2,hts⟩ | ⟨hk,i,rfl,hi⟩
  ·exact cF (decide_eq_true rfl) ⟨_,rfl,p,ts,rfl,hp,c1,c2,hts,k⟩
  ·refine aX (fun z=>?_) ⟨_,rfl,_,rfl,kd,i,rfl,hk,hi,k _ (.refl _)⟩
   rw [strEq z] at hk
   exact absurd hk (by decide +kernel)
def Ly:Sp:=fun vs H Q _=>∃ (q p1:Addr) (ks:List Str) (xs:List V),vs=[.ref q,.ref p1]∧(∀ H,aS K H q (ks.map V.str))∧H p1=some (.tup xs)∧ks.length ≤ 3∧xs.length=ks.length∧(∀ (i:Nat) kd x,ks[i]? = some kd→xs[i]? = some x→HB H kd x)∧∀ H',Same H H'→Q (.bl true) H'
theorem Tr:aJ ["kinds", "things"] ["kinds", "things"] (ak dU):=⟨rfl,rfl,rfl,by decide +kernel,rfl,by decide +kernel,by decide +kernel⟩
def Lz:Scope:={ kind:=.function,names:=[(".0",.local),("kind",.local),("thing",.local),("is_part",.globalImplicit)],isGenerator:=false,isCoroutine:=false,more:=[] }
theorem DU:dS (ak dU) Lz ["kinds", "things"] ["kind", "thing"] [none,none]:=⟨rfl,by decide +kernel,by decide +kernel,by decide +kernel,by decide +kernel,by decide +kernel⟩
theorem tW {f fP:Addr} {fd Jm:cx} (F:dO K "are_parts" "are_parts" dU f fd) (T:Txt K w.params mg) (GP:aR P w K mg base bV 4 fP Jm ["kind", "thing"] Oo) (kP:KI K fP) (bP:Binds K Jm ["kind", "thing"] []) (mP:mg "is_part" = some (.ref fP)):aR P w K mg base bV 5 f fd ["kinds", "things"] (Ly (K:=K)):=by
 refine F.ok Tr (fun vs H Q E h=>?_) (fun cdv A outer s H vs Q E hr h=>?_)
 ·obtain ⟨q,p1,ks,xs,rfl,_⟩:=h
  rfl
 ·obtain ⟨q,p1,ks,xs,rfl,hq,hp1,h3,hlen,hg,k⟩:=h
  refine dG (aM (aG (aV (iP (ie bX (aW bf (by rfl) T.len dc (ae (pv 1) ao)) (aW bf (by rfl) T.len dc (ae (pv 0) ao)) (aP _)) (j0 (aW (lP rfl) (by rfl) T.all w8 (ae (gj (N':=["kind", "thing"]) (fr:=[none,none]) DU rfl (Kf rfl T.zip (ae (pv 0) (ae (pv 1) ao))) (fun C s0 H0 fp=>(iX (K:=K) (i:=0) (j:=1) rfl rfl DU.nd rfl (Or.inl rfl) rfl (Or.inl rfl))) (fun C s0 H0 fp=>iT) (fun C s0 H0 fp=>(aQ GP hr (by rfl) mP kP bP .nil bp (ae (pv 0) (ae (pv 1) ao))))) ao))))))) ?_
  refine ⟨_,rfl,p1,_,rfl,.inr (aS.of hp1),_,rfl,q,_,rfl,.inr (hq _),rfl,_,rfl,cF (decide_eq_true (by rw [length_map,hlen])) ?_⟩
  refine ⟨_,rfl,_,rfl,q,p1,rfl,⟨_,hq _⟩,⟨_,aS.of hp1⟩,fun D nD=>CJ (K:=K) (a:=q) (b:=p1) (xs:=ks.map V.str) (zs:=xs) (by rw [length_map,hlen])
    (fun i σ ys H1=>∃ (v1 v2:Option V),σ=[v1,v2]∧ys=(replicate i true).map V.bl∧Same H H1∧H1 D=some (.lst ys)) ?_ ?_ ?_ ?_⟩
  ·exact ⟨none,none,rfl,rfl,aj nD,ah⟩
  ·rintro i σ ys H1 _ ⟨v1,v2,rfl,rfl,s1,_⟩
   exact ⟨hq _,aS.of (s1 _ _ hp1)⟩
  ·rintro i y z σ ys H1 t hy hz nt ⟨v1,v2,rfl,rfl,s1,hD⟩
   rw [ab] at hy
   obtain ⟨kd,hkd,rfl⟩:=map_eq_some_iff.mp hy
   have hil:=(ac.mp hkd).1
   have s3:=aj (o:=.tup [.str kd,z]) nt
   refine ⟨t,_,rfl,aS.of ah,rfl,_,_,rfl,_,_,rfl,rfl,?_⟩
   exact ⟨_,rfl,_,rfl,kd,z,rfl,(hg i kd z hkd hz).same (s1.trans s3),fun H5 s5=>⟨s5 _ _ (s3 _ _ hD),bQ (by rw [length_map,List.length_replicate]; omega),_,_,rfl,pO i,cQ ((s1.trans s3).trans s5) nD,ah⟩⟩
  ·rintro σ ys H1 ⟨v1,v2,rfl,rfl,s1,hD⟩
   refine ⟨D,_,rfl,bj.of hD,?_⟩
   rw [tV]
   exact k H1 s1
theorem Txt.prt {pr:Params} (T:Txt K pr mg):∃ p,mg "PARTS" = some (.ref p)∧∀ x ∈ kinds,∃ q,dJ K pr p x.1 (some (.ref q))∧∀ H,aS K H q (x.2.map V.str):=by
 obtain ⟨p,hp,hl,h0,h1,h2,h3,h4,h5,h6,h7,h8,h9,h10,h11,h12,h13,h14,h15,Tp,h17,h18,h19⟩:=T.FL
 refine ⟨p,hp,fun x hx=>?_⟩
 unfold kinds at hx
 iterate 19 (rcases mem_cons.mp hx with rfl | hx; · assumption)
 rw [mem_singleton.mp hx]
 assumption
theorem Oq:∀ u ∈ jU,(u,gM u) ∈ kinds:=by decide +kernel
theorem DV:∀ u ∈ jU,(gM u).length ≤ 3∧(¬ u = "table" → ∀ k ∈ gM u,k ∈ kdN):=by decide +kernel
theorem AH {H:Hp} {q:Addr} {d:FR} {n:Int} (h:gC H q d) (g:GoodR d n) (hn:n ≤ 1000):∃ items,H q=some (.tup (.str d.u :: items))∧items.length=(gM d.u).length∧∀ (i:Nat) kd x,(gM d.u)[i]? = some kd→items[i]? = some x→HB H kd x:=by
 obtain ⟨⟨o1,o2,o3,o4,o5,_⟩,hA⟩:=h
 rcases hA with ⟨hu,b,p,e,h1,h2⟩ | ⟨hu,h1⟩
 ·obtain ⟨_,_,hne⟩:=o2 hu
  have hk:gM d.u=(["box", "targets"]:List Str):=by rw [hu]; rfl
  refine ⟨_,h1,by rw [hk]; rfl,fun i kd x a1 a2=>?_⟩
  rw [hk] at a1
  match i with
  | 0 =>
   cases a1; cases a2
   refine .inr ⟨by decide +kernel,b,rfl,?_⟩
   exact g.2.2.2 ("box",b) (by rw [hk,e]; simp)
  | 1 =>
   cases a1; cases a2
   exact .inl ⟨rfl,p,d.ts,rfl,h2,hne,g.1,fun t ht=>⟨(g.2.1 t ht).1,by have:=(g.2.1 t ht).2; omega⟩⟩
  | i + 2=>simp at a1
 ·have hl:d.is.length=(gM d.u).length:=by
   by_cases c1:d.u ∈ eE
   ·obtain ⟨t,f,e,_⟩:=o3 c1
    rw [e,kj _ c1]; rfl
   by_cases c2:d.u ∈ zb
   ·obtain ⟨b,t,f,e,_⟩:=o4 c2
    rw [e,kz _ c2]; rfl
   exact (o5 hu c1 c2).2
  refine ⟨_,h1,by rw [length_map,hl],fun i kd x a1 a2=>?_⟩
  rw [ab] at a2
  obtain ⟨v,hv,rfl⟩:=map_eq_some_iff.mp a2
  exact .inr ⟨(DV _ o1).2 hu kd (ad a1),v,rfl,g.2.2.2 (kd,v) (ad (i:=i) (List.getElem?_zip_eq_some.mpr ⟨a1,hv⟩))⟩
def Ot:Sp:=fun vs H Q _=>∃ (q:Addr) (d:FR) (n:Int),vs=[.ref q]∧gC H q d∧GoodR d n∧n ≤ 1000∧∀ H',Same H H'→Q (.bl true) H'
theorem Ou:aJ ["row", "word"] ["row"] (ak iJ):=⟨rfl,rfl,rfl,by decide +kernel,rfl,by decide +kernel,by decide +kernel⟩
theorem AI {f fO fA:Addr} {fd Js Ov:cx} (F:dO K "is_row" "is_row" iJ f fd) (T:Txt K w.params mg) (GO:aR P w K mg base bV 1 fO Js ["thing"] HC) (kO:KI K fO) (bO:Binds K Js ["thing"] []) (mO:mg "word_of" = some (.ref fO)) (GA:aR P w K mg base bV 5 fA Ov ["kinds", "things"] (Ly (K:=K))) (kA:KI K fA) (bA:Binds K Ov ["kinds", "things"] []) (mA:mg "are_parts" = some (.ref fA)):aR P w K mg base bV 6 f fd ["row"] Ot:=by
 refine F.ok Ou (fun vs H Q E h=>?_) (fun cdv A outer s H vs Q E hr h=>?_)
 ·obtain ⟨q,d,n,rfl,_⟩:=h
  rfl
 ·obtain ⟨q,d,n,rfl,hR,hg,hn,k⟩:=h
  obtain ⟨pp,hpp,h1⟩:=T.prt
  obtain ⟨items,hq,hl,hgp⟩:=AH hR hg hn
  obtain ⟨qk,Ow,hS⟩:=h1 _ (Oq _ hR.1.1)
  refine dG (aw (aG (aU (i:=1) Ou.nd rfl (Or.inl rfl) (aQ GO (hr.mono (by decide)) (by rfl) mO kO bO .nil bp (ae (pv 0) ao))))
   (aM (aG (aV (iP (BH (CF (pv 1) (dI (v:=.ref pp) (by rfl) hpp rfl)) rfl) (j0 (aQ GA hr (by rfl) mA kA bA .nil bp (ae (jr (dI (v:=.ref pp) (by rfl) hpp rfl) (pv 1) (fun _ _=>rfl)) (ae (fi B4 (pv 0) (eL ai) jn) ao))))))))) ?_
  refine ⟨_,rfl,q,d.u,items,rfl,hq,?_⟩
  refine ⟨_,rfl,pp,d.u,_,rfl,rfl,Ow,_,rfl,cF rfl ?_⟩
  refine ⟨_,rfl,pp,d.u,_,rfl,rfl,Ow,_,rfl,1,rfl,q,_,rfl,aS.of hq,?_,fun t nt=>?_⟩
  ·intro z
   have:HT.eG (V.str d.u :: items).length 0 (some 1)=0:=z.1
   simp [HT.eG] at this
  rw [Jr]
  exact ⟨qk,t,gM d.u,items,rfl,hS,ah,(DV _ hR.1.1).1,hl,fun i kd x a1 a2=>(hgp i kd x a1 a2).same (aj nt),fun H' s'=>k H' ((aj nt).trans s')⟩
def Ox:Sp:=fun vs H Q _=>∃ (q:Addr) (u:Str) (ts:List Int) (n:Int),vs=[.ref q,.int n]∧mq H q u ts∧ts.length ≤ 16∧(∀ t ∈ ts,0 ≤ t∧t < n)∧∀ H',Same H H'→Q (.bl true) H'
theorem Ts:aJ ["row", "how_many"] ["row", "how_many"] (ak cV):=⟨rfl,rfl,rfl,by decide +kernel,rfl,by decide +kernel,by decide +kernel⟩
def LB:Scope:={ kind:=.function,names:=[(".0",.local),("target",.local),("how_many",.free)],isGenerator:=false,isCoroutine:=false,more:=[] }
theorem DW:dS (ak cV) LB ["row", "how_many"] ["target", "how_many"] [none,some 1]:=⟨rfl,by decide +kernel,by decide +kernel,by decide +kernel,by decide +kernel,by decide +kernel⟩
theorem nu {f fT:Addr} {fd CZ:cx} (F:dO K "stays_within" "stays_within" cV f fd) (T:Txt K w.params mg) (GT:aR P w K mg base bV 1 fT CZ ["row"] lW) (kT:KI K fT) (bT:Binds K CZ ["row"] []) (mT:mg "targets_of" = some (.ref fT)):aR P w K mg base bV 2 f fd ["row", "how_many"] Ox:=by
 refine F.ok Ts (fun vs H Q E h=>?_) (fun cdv A outer s H vs Q E hr h=>?_)
 ·obtain ⟨q,u,ts,n,rfl,_⟩:=h
  rfl
 ·obtain ⟨q,u,ts,n,rfl,hR,Tp,hts,k⟩:=h
  refine dG (aM (aG (aV (aW (lP rfl) (by rfl) T.all w8 (ae (gj (N':=["target", "how_many"]) (fr:=[none,some 1]) DW rfl (dB (aQ GT hr (by rfl) mT kT bT .nil bp (ae (pv 0) ao))) (fun C s0 H0 fp=>(cG (i:=0) DW.nd rfl (Or.inl rfl))) (fun C s0 H0 fp=>iT) (fun C s0 H0 fp=>(ie iH (pv 0) (pv 1) (aP _)))) ao))))) ?_
  refine ⟨_,rfl,q,u,ts,rfl,hR,fun l G1 s1 nl hl=>?_⟩
  refine ⟨l,rfl,⟨_,bj.of hl⟩,fun D nD=>fF (K:=K) (a:=l) (xs:=ts.map V.int) (fun i σ ys G=>∃ v:Option V,σ=[v,some (.int n)]∧i ≤ 16∧ys=(replicate i true).map V.bl∧Same G1 G∧G D=some (.lst ys)) ?_ ?_ ?_ ?_⟩
  ·exact ⟨none,rfl,zero_le _,rfl,aj nD,ah⟩
  ·rintro i σ ys G _ ⟨v,rfl,_,_,s2,_⟩
   exact bj.of (s2 _ _ hl)
  ·rintro i x σ ys G hx ⟨v,rfl,_,rfl,s2,hD⟩
   rw [ab] at hx
   obtain ⟨t,ht,rfl⟩:=map_eq_some_iff.mp hx
   have hi:=(ac.mp ht).1
   refine ⟨_,rfl,_,rfl,_,_,rfl,rfl,hD,bQ (by rw [length_map,List.length_replicate]; omega),_,rfl,by omega,?_,cQ s2 nD,ah⟩
   show _ ++ [V.bl (decide (t < n))]=_
   rw [decide_eq_true (hts t (ad ht)).2]
   exact pO i
  rintro σ ys G ⟨v,rfl,_,rfl,s2,hD⟩
  refine ⟨D,_,rfl,bj.of hD,?_⟩
  rw [tV]
  exact k G (s1.trans s2)
end
def Jt (d:FR) (r s:Int):Prop:=s ∈ d.ts∨(¬ d.u ∈ cY∧s=r + 1)
def Oy (ds:List FR) (p:List Da):Prop:=∃ (r:Nat) (d:FR),ds[r]? = some d∧(p=pF r∨(p=tP r∧∃ s,Jt d r s)∨∃ s,p=tQ r s∧Jt d r s)
def Tt (x:Wi):Prop:=(x.u = "look" ∨ x.u = "count" ∨ x.u = "guard")∧vE "number" x.n∧vE "box" x.b
def L5 (u:Str):List Str:=if u = "count" then ["number"] else ["number", "box"]
theorem gC.at_ {H:Hp} {q:Addr} {d:FR} (h:gC H q d):mq H q d.u d.ts:=by
 obtain ⟨items,h1,_,h2,_⟩:=h.parts
 exact ⟨items,h1,h2⟩
theorem tY {xs:List V} {v:V} {n:Nat} (hl:xs.length=n + 1) (h:xs[n]? = some v):mV xs (-1)=some v:=by
 unfold mV yH
 rw [if_neg (by decide),if_pos (by omega)]
 show xs[((-1:Int) + (xs.length:Int)).toNat]? = _
 rw [show ((-1:Int) + (xs.length:Int)).toNat=n by omega]
 exact h
section
variable {P:Program} {w:World} {K:Frag} {mg:Str→Option Value} {base:Heap}
def mJ (ds:List FR):Prop:=0 < ds.length∧ds.length ≤ 1000∧(∀ d ∈ ds,GoodR d (ds.length:Nat))∧∃ d,ds[ds.length - 1]? = some d∧d.u ∈ cY
def Oz:Sp:=fun vs H Q _=>∃ (lr:Addr) (ds:List FR),vs=[.ref lr]∧gJ H lr ds∧mJ ds∧∀ H',Same H H'→Q .non H'
theorem OB:aJ ["rows", "at", "row"] ["rows"] (ak d9):=⟨rfl,rfl,rfl,by decide +kernel,rfl,by decide +kernel,by decide +kernel⟩
theorem qL {f fR fS fG:Addr} {fd Ju pC Oi:cx} (F:dO K "check_rows" "check_rows" d9 f fd) (T:Txt K w.params mg) (GR:aR P w K mg base bV 6 fR Ju ["row"] Ot) (kR:KI K fR) (bR:Binds K Ju ["row"] []) (mR:mg "is_row" = some (.ref fR)) (GS:aR P w K mg base bV 2 fS pC ["row", "how_many"] Ox) (kS:KI K fS) (bS:Binds K pC ["row", "how_many"] []) (mS:mg "stays_within" = some (.ref fS)) (GG:aR P w K mg base bV 1 fG Oi ["row"] xD) (kG:KI K fG) (bG:Binds K Oi ["row"] []) (mG:mg "goes_on" = some (.ref fG)):aR P w K mg base bV 7 f fd ["rows"] Oz:=by
 refine F.ok OB (fun vs H Q E h=>?_) (fun cdv A outer s H vs Q E hr h=>?_)
 ·obtain ⟨lr,ds,rfl,_⟩:=h
  rfl
 ·obtain ⟨lr,ds,rfl,hR,hG,k⟩:=h
  obtain ⟨tm,hmr⟩:=T.vC
  obtain ⟨hl0,hl1,hgd,dl,hdl,hno⟩:=hG
  obtain ⟨qs,h0,hql,hqr⟩:=id hR
  have L6:(qs.map V.ref).length=ds.length:=by rw [length_map,hql]
  refine dG (aw (cD (iE (gG (eB (aW cK (by rfl) T.CW hC (ae (pv 0) (ae (fe (v:=.ty "list") (by rfl) T.list ei rfl) ao))))) (gX (aF bX (aW bf (by rfl) T.len dc (ae (pv 0) ao)) ai (aP _)))).pt (aM (aG jc)) (bu aN))
   (aw (aG (iu PassesOwn.never rfl (yS rfl T.enum (ae (fi iR (pv 0) jn (eL (dI (v:=.int 4000) (by rfl) hmr ⟨_,rfl⟩))) ao)) (iX (K:=K) (i:=1) (j:=2) rfl rfl OB.nd rfl (Or.inl rfl) rfl (Or.inl rfl)) (aA (cq (iE (gG (eB (aQ GR hr (by rfl) mR kR bR .nil bp (ae (pv 2) ao)))) (gX (gG (eB (aQ GS (hr.mono (by decide)) (by rfl) mS kS bS .nil bp (ae (pv 2) (ae (aW bf (by rfl) T.len dc (ae (pv 0) ao)) ao))))))).pt lH aN))))
   (aw (cD (aF qV (aW bf (by rfl) T.len dc (ae (pv 0) ao)) (dI (v:=.int 4000) (by rfl) hmr ⟨_,rfl⟩) (aP _)) (aM (aG jc)) (bu aN))
   (aM (cD (eB (aQ GG (hr.mono (by decide)) (by rfl) mG kG bG .nil bp (ae (au aK (pv 0) (oA j3 ai) (fun _ _=>rfl)) ao))) (aM (aG jc)) (bu aN)))))) ?_
  refine ⟨_,rfl,_,_,_,_,rfl,.lst h0,mn,_,rfl,aX (by decide) ?_⟩
  refine ⟨_,rfl,lr,_,rfl,.inl (bj.of h0),rfl,_,rfl,aX (fun z=>?_) ?_⟩
  ·have:=V.int.inj (of_decide_eq_true z)
   omega
  refine ⟨_,rfl,_,rfl,lr,_,rfl,bj.of h0,fun lc Jv=>?_⟩
  rw [show ib (qs.map V.ref) none (some 4000)=(qs.map V.ref).take 4000 from pe _ 4000,List.take_of_length_le (by omega)]
  have s1:=aj (o:=.lst (qs.map V.ref)) Jv
  have zB:upd H lc (.lst (qs.map V.ref)) lc=_:=ah
  generalize upd H lc (.lst (qs.map V.ref))=G1 at s1 zB ⊢
  refine ⟨lc,rfl,⟨_,bj.of zB⟩,vv (K:=K) (xs:=qs.map V.ref) (fun i σ G=>∃ v2 v3:Option V,σ=[some (.ref lr),v2,v3]∧Same G1 G) ?_ ?_ ?_ ?_⟩
  ·exact ⟨none,none,rfl,.refl _⟩
  ·rintro i σ G _ ⟨v2,v3,rfl,s2⟩
   exact bj.of (s2 _ _ zB)
  ·rintro i x σ G tt hx Tv ⟨v2,v3,rfl,s2⟩
   rw [ab] at hx
   obtain ⟨q,hq,rfl⟩:=map_eq_some_iff.mp hx
   have hil:i < ds.length:=by have:=(ac.mp hq).1; omega
   have hd:ds[i]? = some ds[i]:=aa hil
   have hg:=hgd _ (ba hil)
   generalize ds[i]=d at hd hg
   have s3:=s2.trans (aj (o:=.tup [V.int i,.ref q]) Tv)
   have htt:upd G tt (.tup [V.int i,.ref q]) tt=_:=ah
   generalize upd G tt (.tup [V.int i,.ref q])=G3 at s3 htt ⊢
   have HE:=s1.trans s3
   refine ⟨tt,_,rfl,aS.of htt,rfl,_,_,rfl,_,_,rfl,rfl,?_⟩
   have hF:=(hqr i q d hq hd).same HE
   refine ⟨_,rfl,q,d,_,rfl,hF,hg,by omega,fun G4 s4=>⟨_,rfl,aX (by decide) ?_⟩⟩
   refine ⟨_,rfl,_,rfl,lr,_,rfl,.inl (bj.of (s4 _ _ (HE _ _ h0))),q,d.u,d.ts,(ds.length:Nat),by rw [L6]; rfl,(hF.same s4).at_,hg.1,hg.2.1,fun G5 s5=>⟨_,rfl,aX (by decide) ?_⟩⟩
   exact ⟨_,_,rfl,(s3.trans s4).trans s5⟩
  ·rintro σ G ⟨v2,v3,rfl,s2⟩
   have s3:=s1.trans s2
   have h3:=s3 _ _ h0
   refine ⟨_,rfl,lr,_,rfl,.inl (bj.of h3),_,_,rfl,rfl,_,rfl,aX (fun z=>by have:=of_decide_eq_true z; omega) ?_⟩
   have LC:qs[ds.length - 1]? = some (qs[ds.length - 1]'(by omega)):=aa _
   generalize (qs[ds.length - 1]'(by omega))=q at LC
   obtain ⟨items,hq,_⟩:=((hqr _ q dl LC hdl).same s3).parts
   have hat:mV (qs.map V.ref) (-1)=some (.ref q):=tY (n:=ds.length - 1) (by omega) (by rw [ab,LC]; rfl)
   refine ⟨_,rfl,_,rfl,lr,_,_,.ref q,rfl,rfl,bj.of h3,hat,q,dl.u,items,rfl,hq,_,rfl,?_⟩
   rw [decide_eq_true hno]
   exact aX (by decide) (k _ s3)
def OD:Sp:=fun vs H Q _=>∃ (lr p:Addr) (ds:List FR) (pl:List Da),vs=[.ref lr,.ref p]∧gJ H lr ds∧mJ ds∧H p=some (.tup (pl.map EX))∧Oy ds pl∧∀ H',Same H H'→Q (.bl true) H'
theorem HF:aJ ["rows", "place", "word", "r", "ways"] ["rows", "place"] (ak fQ):=⟨rfl,rfl,rfl,by decide +kernel,rfl,by decide +kernel,by decide +kernel⟩
theorem vP {f fO fH fW:Addr} {fd Js fdH rS:cx} (F:dO K "is_place" "is_place" fQ f fd) (T:Txt K w.params mg) (GO:aR P w K mg base bV 1 fO Js ["thing"] HC) (kO:KI K fO) (bO:Binds K Js ["thing"] []) (mO:mg "word_of" = some (.ref fO)) (GH:aR P w K mg base bV 1 fH fdH ["thing"] Lv) (kH:KI K fH) (bH:Binds K fdH ["thing"] []) (mH:mg "is_whole" = some (.ref fH)) (GW:aR P w K mg base bV 2 fW rS ["rows", "r"] (DQ (K:=K))) (kW:KI K fW) (bW:Binds K rS ["rows", "r"] []) (mW:mg "ways_of" = some (.ref fW)):aR P w K mg base bV 3 f fd ["rows", "place"] OD:=by
 refine F.ok HF (fun vs H Q E h=>?_) (fun cdv A outer s H vs Q E hr h=>?_)
 ·obtain ⟨lr,p,ds,pl,rfl,_⟩:=h
  rfl
 ·obtain ⟨lr,p,ds,pl,rfl,hR,hG,hp,hpl,k⟩:=h
  have Tw:=hr.mono (show 1 ≤ _ by decide)
  obtain ⟨pp,hpp,_,h1,h2,h3⟩:=T.CV
  obtain ⟨qs,g1,g2,g3⟩:=id hR
  obtain ⟨r,d,hd,hpl⟩:=hpl
  have hrl:=(ac.mp hd).1
  have hgd:=hG.2.2.1 d (ad hd)
  obtain ⟨qs',q,y1,y2,y3,y4⟩:=hR.get hd
  refine dG (aw (aG (aU (i:=2) HF.nd rfl (Or.inl rfl) (aQ GO Tw (by rfl) mO kO bO .nil bp (ae (pv 1) ao))))
   (aw (cD (iE (BJ (Al (pv 2) (dI (v:=.ref pp) (by rfl) hpp rfl)) rfl) (gX (aF MH (aW bf (by rfl) T.len dc (ae (pv 1) ao)) (jr (dI (v:=.ref pp) (by rfl) hpp rfl) (pv 2) (fun _ _=>rfl)) (aP _)))).pt (aM (aG (aV lY))) (bu aN))
   (aw (aG (aU (i:=3) HF.nd rfl (Or.inl rfl) (au ay (pv 1) ai (fun _ _=>rfl))))
   (aw (cD (iE (gG (eB (aQ GH Tw (by rfl) mH kH bH .nil bp (ae (pv 3) ao)))) (gX (gG (kh oB iH ai (pv 3) (aW bf (by rfl) T.len dc (ae (pv 0) ao)))))).pt (aM (aG (aV lY))) (bu aN))
   (aw (cD (aF bX (pv 2) aq (aP _)) (aM (aG (aV lY))) (bu aN))
   (aw (aG (aU (i:=4) HF.nd rfl (Or.inl rfl) (aQ GW hr (by rfl) mW kW bW .nil bp (ae (pv 0) (ae (pv 3) ao)))))
   (aw (cD (aF bX (pv 2) aq (aP _)) (aM (aG (aV (ie qV (aW bf (by rfl) T.len dc (ae (pv 4) ao)) ai (aP _))))) (bu aN))
   (aM (aG (aV (iP (aQ GH Tw (by rfl) mH kH bH .nil bp (ae (au ay (pv 1) ai (fun _ _=>rfl)) ao)) (j0 (ie dh (au ay (pv 1) ai (fun _ _=>rfl)) (pv 4) rfl))))))))))))) ?_
  rcases hpl with rfl | ⟨rfl,sw,hsw⟩ | ⟨sw,rfl,hsw⟩
  ·skip
   have hp':H p=some (.tup [.str "before",.int (r:Int)]):=hp
   refine ⟨_,rfl,p, "before",_,rfl,hp',?_⟩
   refine ⟨_,rfl,pp, "before",_,rfl,rfl,h1,_,rfl,aX ir ?_⟩
   refine ⟨_,rfl,p,_,rfl,.inr (aS.of hp'),_,rfl,pp, "before",_,rfl,rfl,h1,rfl,_,rfl,aX (by show ¬ ((!decide (V.int 2=V.int 2))=true); decide) ?_⟩
   refine ⟨_,rfl,p,_,1,_,rfl,rfl,aS.of hp',at1 _ _ _,?_⟩
   refine ⟨_,rfl,_,rfl,_,rfl,aX ir ?_⟩
   refine ⟨_,rfl,_,_,rfl,rfl,_,rfl,cF (decide_eq_true (by omega)) ?_⟩
   refine ⟨_,rfl,lr,_,rfl,.inl (bj.of g1),_,_,rfl,rfl,_,rfl,aX (by rw [decide_eq_true (by rw [length_map,g2]; omega)]; decide) ?_⟩
   exact ⟨_,rfl,rfl,_,rfl,cF (decide_eq_true rfl) (k _ (.refl _))⟩
  ·skip
   have hp':H p=some (.tup [.str "after",.int (r:Int)]):=hp
   refine ⟨_,rfl,p, "after",_,rfl,hp',?_⟩
   refine ⟨_,rfl,pp, "after",_,rfl,rfl,h2,_,rfl,aX ir ?_⟩
   refine ⟨_,rfl,p,_,rfl,.inr (aS.of hp'),_,rfl,pp, "after",_,rfl,rfl,h2,rfl,_,rfl,aX (by show ¬ ((!decide (V.int 2=V.int 2))=true); decide) ?_⟩
   refine ⟨_,rfl,p,_,1,_,rfl,rfl,aS.of hp',at1 _ _ _,?_⟩
   refine ⟨_,rfl,_,rfl,_,rfl,aX ir ?_⟩
   refine ⟨_,rfl,_,_,rfl,rfl,_,rfl,cF (decide_eq_true (by omega)) ?_⟩
   refine ⟨_,rfl,lr,_,rfl,.inl (bj.of g1),_,_,rfl,rfl,_,rfl,aX (by rw [decide_eq_true (by rw [length_map,g2]; omega)]; decide) ?_⟩
   refine ⟨_,rfl,rfl,_,rfl,aX (by decide) ?_⟩
   refine ⟨_,rfl,_,rfl,lr,q,_,r,d.u,d.ts,rfl,bj.of y1,y3,y4.at_,hgd.1,fun l ms H1 s1 nl hl' EL hnd hmem=>?_⟩
   refine ⟨_,rfl,rfl,_,rfl,cF (decide_eq_true rfl) ?_⟩
   refine ⟨_,rfl,l,_,rfl,.inl (bj.of hl'),_,_,rfl,rfl,?_⟩
   have hm:sw ∈ ms:=(hmem sw).mpr hsw
   have:=List.length_pos_of_mem hm
   show Q (.bl (decide ((0:Int) < ((ms.map V.int).length:Nat)))) H1
   rw [decide_eq_true (show (0:Int) < ((ms.map V.int).length:Nat) by rw [length_map]; omega)]
   exact k _ s1
  ·skip
   have hp':H p=some (.tup [.str "way",.int (r:Int),.int sw]):=hp
   refine ⟨_,rfl,p, "way",_,rfl,hp',?_⟩
   refine ⟨_,rfl,pp, "way",_,rfl,rfl,h3,_,rfl,aX ir ?_⟩
   refine ⟨_,rfl,p,_,rfl,.inr (aS.of hp'),_,rfl,pp, "way",_,rfl,rfl,h3,rfl,_,rfl,aX (by show ¬ ((!decide (V.int 3=V.int 3))=true); decide) ?_⟩
   refine ⟨_,rfl,p,_,1,_,rfl,rfl,aS.of hp',at1 _ _ _,?_⟩
   refine ⟨_,rfl,_,rfl,_,rfl,aX ir ?_⟩
   refine ⟨_,rfl,_,_,rfl,rfl,_,rfl,cF (decide_eq_true (by omega)) ?_⟩
   refine ⟨_,rfl,lr,_,rfl,.inl (bj.of g1),_,_,rfl,rfl,_,rfl,aX (by rw [decide_eq_true (by rw [length_map,g2]; omega)]; decide) ?_⟩
   refine ⟨_,rfl,rfl,_,rfl,aX (by decide) ?_⟩
   refine ⟨_,rfl,_,rfl,lr,q,_,r,d.u,d.ts,rfl,bj.of y1,y3,y4.at_,hgd.1,fun l ms H1 s1 nl hl' EL hnd hmem=>?_⟩
   refine ⟨_,rfl,rfl,_,rfl,aX (by decide) ?_⟩
   have hp1:=s1 _ _ hp'
   refine ⟨_,rfl,p,_,2,_,rfl,rfl,aS.of hp1,at2 _ _ _ _,sw,rfl,_,rfl,cF rfl ?_⟩
   refine ⟨_,rfl,p,_,2,.int sw,rfl,rfl,aS.of hp1,at2 _ _ _ _,_,rfl,l,_,rfl,.inl (bj.of hl'),rfl,rG _,?_⟩
   show Q (.bl (inV (.int sw) (ms.map V.int))) H1
   rw [sM,decide_eq_true ((hmem sw).mpr hsw)]
   exact k _ s1
theorem Txt.whs {pr:Params} (T:Txt K pr mg):∃ p,mg "WHATS" = some (.ref p)∧∀ u:Str,(u = "look" ∨ u = "count" ∨ u = "guard")→∃ q,dJ K pr p u (some (.ref q))∧∀ H,aS K H q ((L5 u).map V.str):=by
 obtain ⟨p,hp,hl,h0,h1,h2⟩:=T.FN
 refine ⟨p,hp,fun u hu=>?_⟩
 rcases hu with rfl | rfl | rfl
 ·exact h0
 ·exact h1
 ·exact h2
theorem vQ {H:Hp} {x:Wi} (g:Tt x):∃ items,x.vs=.str x.u :: items∧(L5 x.u).length ≤ 3∧items.length=(L5 x.u).length∧∀ (i:Nat) kd v,(L5 x.u)[i]? = some kd→items[i]? = some v→HB H kd v:=by
 have h0:HB H "number" (.int x.n):=.inr ⟨by decide +kernel,_,rfl,g.2.1⟩
 have h1:HB H "box" (.int x.b):=.inr ⟨by decide +kernel,_,rfl,g.2.2⟩
 unfold Wi.vs L5
 split
 ·refine ⟨_,rfl,by decide,rfl,fun i kd v a b=>?_⟩
  match i with
  | 0=>cases a; cases b; exact h0
  | i + 1=>simp at a
 ·refine ⟨_,rfl,by decide,rfl,fun i kd v a b=>?_⟩
  match i with
  | 0=>cases a; cases b; exact h0
  | 1=>cases a; cases b; exact h1
  | i + 2=>simp at a
def OG:Sp:=fun vs H Q _=>∃ (h:Addr) (x:Wi),vs=[.ref h]∧H h=some (.tup x.vs)∧Tt x∧∀ H',Same H H'→Q (.bl true) H'
theorem OI:aJ ["what", "word"] ["what"] (ak gS):=⟨rfl,rfl,rfl,by decide +kernel,rfl,by decide +kernel,by decide +kernel⟩
theorem xI {f fO fA:Addr} {fd Js Ov:cx} (F:dO K "is_what" "is_what" gS f fd) (T:Txt K w.params mg) (GO:aR P w K mg base bV 1 fO Js ["thing"] HC) (kO:KI K fO) (bO:Binds K Js ["thing"] []) (mO:mg "word_of" = some (.ref fO)) (GA:aR P w K mg base bV 5 fA Ov ["kinds", "things"] (Ly (K:=K))) (kA:KI K fA) (bA:Binds K Ov ["kinds", "things"] []) (mA:mg "are_parts" = some (.ref fA)):aR P w K mg base bV 6 f fd ["what"] OG:=by
 refine F.ok OI (fun vs H Q E h=>?_) (fun cdv A outer s H vs Q E hr h=>?_)
 ·obtain ⟨h,x,rfl,_⟩:=h
  rfl
 ·obtain ⟨h,x,rfl,hh,hx,k⟩:=h
  obtain ⟨pw,EL,h1⟩:=T.whs
  obtain ⟨qk,Ow,hS⟩:=h1 _ hx.1
  obtain ⟨items,e,h3,hl,_⟩:=vQ (H:=H) hx
  rw [e] at hh
  refine dG (aw (aG (aU (i:=1) OI.nd rfl (Or.inl rfl) (aQ GO (hr.mono (by decide)) (by rfl) mO kO bO .nil bp (ae (pv 0) ao))))
   (aM (aG (aV (iP (BH (CF (pv 1) (dI (v:=.ref pw) (by rfl) EL rfl)) rfl) (j0 (aQ GA hr (by rfl) mA kA bA .nil bp (ae (jr (dI (v:=.ref pw) (by rfl) EL rfl) (pv 1) (fun _ _=>rfl)) (ae (fi B4 (pv 0) (eL ai) jn) ao))))))))) ?_
  refine ⟨_,rfl,h,x.u,items,rfl,hh,?_⟩
  refine ⟨_,rfl,pw,x.u,_,rfl,rfl,Ow,_,rfl,cF rfl ?_⟩
  refine ⟨_,rfl,pw,x.u,_,rfl,rfl,Ow,_,rfl,1,rfl,h,_,rfl,aS.of hh,?_,fun t nt=>?_⟩
  ·intro z
   have:HT.eG (V.str x.u :: items).length 0 (some 1)=0:=z.1
   simp [HT.eG] at this
  rw [Jr]
  refine ⟨qk,t,L5 x.u,items,rfl,hS,ah,h3,hl,?_,fun H' s'=>k H' ((aj nt).trans s')⟩
  obtain ⟨items',e',_,_,hp⟩:=vQ (H:=upd H t (.tup items)) hx
  rw [e] at e'
  cases e'
  exact hp
def L7 (ds:List FR) (x:Wi):Prop:=Oy ds x.p∧Tt x
def OJ:Sp:=fun vs H Q _=>∃ (lr q:Addr) (ds:List FR) (x:Wi),vs=[.ref lr,.ref q]∧gJ H lr ds∧mJ ds∧vK H q x∧L7 ds x∧∀ H',Same H H'→Q (.bl true) H'
theorem Tx:aJ ["rows", "wish"] ["rows", "wish"] (ak gT):=⟨rfl,rfl,rfl,by decide +kernel,rfl,by decide +kernel,by decide +kernel⟩
theorem xJ {f fL fW:Addr} {fd OL rS:cx} (F:dO K "is_wish" "is_wish" gT f fd) (T:Txt K w.params mg) (GL:aR P w K mg base bV 3 fL OL ["rows", "place"] OD) (kL:KI K fL) (bL:Binds K OL ["rows", "place"] []) (mL:mg "is_place" = some (.ref fL)) (GW:aR P w K mg base bV 6 fW rS ["what"] OG) (kW:KI K fW) (bW:Binds K rS ["what"] []) (mW:mg "is_what" = some (.ref fW)):aR P w K mg base bV 7 f fd ["rows", "wish"] OJ:=by
 refine F.ok Tx (fun vs H Q E h=>?_) (fun cdv A outer s H vs Q E hr h=>?_)
 ·obtain ⟨lr,q,ds,x,rfl,_⟩:=h
  rfl
 ·obtain ⟨lr,q,ds,x,rfl,hR,hG,hW,hx,k⟩:=h
  obtain ⟨p,h,hq,hp,fl,hh⟩:=hW
  refine dG (aM (aG (aV (iP (aW cK (by rfl) T.CW hC (ae (pv 1) (ae (fe (v:=.ty "tuple") (by rfl) T.tuple lg rfl) ao))) (iP (ie bX (aW bf (by rfl) T.len dc (ae (pv 1) ao)) ai (aP _)) (iP (aQ GL (hr.mono (by decide)) (by rfl) mL kL bL .nil bp (ae (pv 0) (ae (au ay (pv 1) ai (fun _ _=>rfl)) ao))) (j0 (aQ GW hr (by rfl) mW kW bW .nil bp (ae (au ay (pv 1) ai (fun _ _=>rfl)) ao))))))))) ?_
  refine ⟨_,rfl,_,_,_,_,rfl,.tup hq,iA,_,rfl,cF rfl ?_⟩
  refine ⟨_,rfl,q,_,rfl,.inr (aS.of hq),rfl,_,rfl,cF (decide_eq_true rfl) ?_⟩
  refine ⟨_,rfl,_,rfl,q,_,0,_,rfl,rfl,aS.of hq,at0 _ _,lr,p,ds,x.p,rfl,hR,hG,hp,hx.1,fun H1 s1=>⟨_,rfl,cF rfl ?_⟩⟩
  exact ⟨_,rfl,q,_,1,_,rfl,rfl,aS.of (s1 _ _ hq),at1 _ _ _,h,x,rfl,s1 _ _ hh,hx.2,fun H2 s2=>k H2 (s1.trans s2)⟩
def OM:Sp:=fun vs H Q _=>∃ (lr lw:Addr) (ds:List FR) (xs:List Wi),vs=[.ref lr,.ref lw]∧gJ H lr ds∧mJ ds∧jk H lw xs∧xs.length ≤ 12∧(∀ x ∈ xs,L7 ds x)∧∀ H',Same H H'→Q .non H'
theorem OO:aJ ["rows", "wishes", "at", "wish"] ["rows", "wishes"] (ak dD):=⟨rfl,rfl,rfl,by decide +kernel,rfl,by decide +kernel,by decide +kernel⟩
theorem ny {f fW:Addr} {fd rS:cx} (F:dO K "check_wishes" "check_wishes" dD f fd) (T:Txt K w.params mg) (GW:aR P w K mg base bV 7 fW rS ["rows", "wish"] OJ) (kW:KI K fW) (bW:Binds K rS ["rows", "wish"] []) (mW:mg "is_wish" = some (.ref fW)):aR P w K mg base bV 8 f fd ["rows", "wishes"] OM:=by
 refine F.ok OO (fun vs H Q E h=>?_) (fun cdv A outer s H vs Q E hr h=>?_)
 ·obtain ⟨lr,lw,ds,xs,rfl,_⟩:=h
  rfl
 ·obtain ⟨lr,lw,ds,xs,rfl,hR,hG,hW,h12,hx,k⟩:=h
  obtain ⟨tm,hm⟩:=T.qF
  obtain ⟨qs,h0,hql,BD⟩:=hW
  have L6:(qs.map V.ref).length=xs.length:=by rw [length_map,hql]
  refine dG (aw (cD (gG (eB (aW cK (by rfl) T.CW hC (ae (pv 1) (ae (fe (v:=.ty "list") (by rfl) T.list ei rfl) ao))))) (aM (aG jc)) (bu aN))
   (aw (aG (iu PassesOwn.never rfl (yS rfl T.enum (ae (fi iR (pv 1) jn (eL (dI (v:=.int 12) (by rfl) hm ⟨_,rfl⟩))) ao)) (iX (K:=K) (i:=2) (j:=3) rfl rfl OO.nd rfl (Or.inl rfl) rfl (Or.inl rfl)) (aA (cq (gG (eB (aQ GW hr (by rfl) mW kW bW .nil bp (ae (pv 0) (ae (pv 3) ao))))) lH aN))))
   (aM (cD (aF qV (aW bf (by rfl) T.len dc (ae (pv 1) ao)) (dI (v:=.int 12) (by rfl) hm ⟨_,rfl⟩) (aP _)) (aM (aG jc)) (bu aN))))) ?_
  refine ⟨_,rfl,_,_,_,_,rfl,.lst h0,mn,_,rfl,aX (by decide) ?_⟩
  refine ⟨_,rfl,_,rfl,lw,_,rfl,bj.of h0,fun lc Jv=>?_⟩
  rw [show ib (qs.map V.ref) none (some 12)=(qs.map V.ref).take 12 from pe _ 12,List.take_of_length_le (by omega)]
  have s1:=aj (o:=.lst (qs.map V.ref)) Jv
  have zB:upd H lc (.lst (qs.map V.ref)) lc=_:=ah
  generalize upd H lc (.lst (qs.map V.ref))=G1 at s1 zB ⊢
  refine ⟨lc,rfl,⟨_,bj.of zB⟩,vv (K:=K) (xs:=qs.map V.ref) (fun i σ G=>∃ v2 v3:Option V,σ=[some (.ref lr),some (.ref lw),v2,v3]∧Same G1 G) ?_ ?_ ?_ ?_⟩
  ·exact ⟨none,none,rfl,.refl _⟩
  ·rintro i σ G _ ⟨v2,v3,rfl,s2⟩
   exact bj.of (s2 _ _ zB)
  ·rintro i x σ G tt hx' Tv ⟨v2,v3,rfl,s2⟩
   rw [ab] at hx'
   obtain ⟨q,hq,rfl⟩:=map_eq_some_iff.mp hx'
   have hil:i < xs.length:=by have:=(ac.mp hq).1; omega
   have hd:xs[i]? = some xs[i]:=aa hil
   have hg:=hx _ (ba hil)
   generalize xs[i]=d at hd hg
   have s3:=s2.trans (aj (o:=.tup [V.int i,.ref q]) Tv)
   have htt:upd G tt (.tup [V.int i,.ref q]) tt=_:=ah
   generalize upd G tt (.tup [V.int i,.ref q])=G3 at s3 htt ⊢
   have HE:=s1.trans s3
   refine ⟨tt,_,rfl,aS.of htt,rfl,_,_,rfl,_,_,rfl,rfl,?_⟩
   exact ⟨_,rfl,_,rfl,lr,q,ds,d,rfl,hR.same HE,hG,(BD i q d hq hd).tups (.of HE),hg,fun G4 s4=>⟨_,rfl,aX (by decide) ⟨_,_,rfl,s3.trans s4⟩⟩⟩
  ·rintro σ G ⟨v2,v3,rfl,s2⟩
   have s3:=s1.trans s2
   exact ⟨_,rfl,lw,_,rfl,.inl (bj.of (s3 _ _ h0)),_,_,rfl,rfl,_,rfl,aX (fun z=>by have:=of_decide_eq_true z; omega) (k _ s3)⟩
end
theorem CR.congr {d:List (Key × V)} {ks ks':List Int} {f:Int→Int} (r:CR d ks f) (h:∀ i,i ∈ ks'↔i ∈ ks):CR d ks' f:=⟨r.isI,fun j=>by
 rw [r.val j]
 by_cases c:j ∈ ks
 ·rw [if_pos c,if_pos ((h j).mpr c)]
 ·rw [if_neg c,if_neg fun z=>c ((h j).mp z)]⟩
theorem tZ (xs:List Wi):(lV xs).length ≤ xs.length:=by
 unfold lV
 rw [length_map]
 exact length_filter_le _ _
theorem LD (x:Wi):∃ r,x.vs=.str x.u :: .int x.n :: r:=by unfold Wi.vs; split <;> exact ⟨_,rfl⟩
section
variable {P:Program} {w:World} {K:Frag} {mg:Str→Option Value} {base:Heap}
def OQ:Sp:=fun vs H Q _=>∃ (lw:Addr) (xs:List Wi),vs=[.ref lw,.str "count"]∧jk H lw xs∧xs.length ≤ 12∧∀ (l:Addr) (ms:List Int) (H':Hp),Same H H'→H l=none→H' l=some (.lst (ms.map V.int))→ms.length ≤ 12→(∀ j,j ∈ lV xs↔j ∈ ms)→Q (.ref l) H'
theorem Tz:aJ ["wishes", "word"] ["wishes", "word"] (ak cu):=⟨rfl,rfl,rfl,by decide +kernel,rfl,by decide +kernel,by decide +kernel⟩
def LG:Scope:={ kind:=.function,names:=[(".0",.local),("place",.local),("what",.local),("word",.free)],isGenerator:=false,isCoroutine:=false,more:=[] }
theorem DX:dS (ak cu) LG ["wishes", "word"] ["place", "what", "word"] [none,none,some 1]:=⟨rfl,by decide +kernel,by decide +kernel,by decide +kernel,by decide +kernel,by decide +kernel⟩
theorem OS {f:Addr} {fd:cx} (F:dO K "numbers_of_whats" "numbers_of_whats" cu f fd) (T:Txt K w.params mg)  : aR P w K mg base bV 1 f fd ["wishes", "word"] OQ:=by
 refine F.ok Tz (fun vs H Q E h=>?_) (fun cdv A outer s H vs Q E hr h=>?_)
 ·obtain ⟨lw,xs,rfl,_⟩:=h
  rfl
 ·obtain ⟨lw,xs,rfl,hW,h12,k⟩:=h
  obtain ⟨qs,h0,hql,BD⟩:=hW
  refine dG (aM (aG (aV (aW (g6 rfl) (by rfl) T.sorted jH (ae (bU (jh rfl) (by rfl) T.set w4 (ae (gj (N':=["place", "what", "word"]) (fr:=[none,none,some 1]) DX rfl (dB (pv 0)) (fun C s0 H0 fp=>(iX (K:=K) (i:=0) (j:=1) rfl rfl DX.nd rfl (Or.inl rfl) rfl (Or.inl rfl))) (fun C s0 H0 fp=>(jo (aF bX (au (r:=Fl K) ay (pv 1) ai (fun _ _=>rfl)) (pv 2) (aP _)))) (fun C s0 H0 fp=>(au (r:=Fl K) ay (pv 1) ai (fun _ _=>rfl)))) ao)) ao))))) ?_
  refine ⟨_,rfl,lw,rfl,⟨_,bj.of h0⟩,fun D nD=>fF (K:=K) (a:=lw) (xs:=qs.map V.ref) (fun j σ ys G=>∃ v1 v2:Option V,σ=[v1,v2,some (.str "count")]∧ys=(lV (xs.take j)).map V.int∧Same H G∧G D=some (.lst ys)) ?_ ?_ ?_ ?_⟩
  ·exact ⟨none,none,rfl,rfl,aj nD,ah⟩
  ·rintro j σ ys G _ ⟨v1,v2,rfl,rfl,s,_⟩
   exact bj.of (s _ _ h0)
  ·rintro j x σ ys G hx ⟨v1,v2,rfl,rfl,s,hD⟩
   rw [ab] at hx
   obtain ⟨q,Og,rfl⟩:=map_eq_some_iff.mp hx
   have hjl:j < xs.length:=by have:=(ac.mp Og).1; omega
   have hx:xs[j]? = some xs[j]:=aa hjl
   obtain ⟨p,h,a1,a2,a3,a4⟩:=(BD j q _ Og hx).tups (.of s)
   generalize xs[j]=x at hx a2 a3 a4
   have tk:xs.take (j + 1)=xs.take j ++ [x]:=by rw [take_add_one,hx]; rfl
   have cl:=tZ (xs.take j)
   rw [length_take] at cl
   obtain ⟨r,hv⟩:=LD x
   rw [hv] at a4
   refine ⟨q,_,rfl,aS.of a1,rfl,_,_,rfl,_,_,rfl,rfl,?_⟩
   refine ⟨_,rfl,h,_,0,.str x.u,rfl,rfl,aS.of a4,at0 _ _,_,rfl,rfl,_,rfl,dy (fun c=>?_) (fun c=>?_)⟩
   ·have c:x.u = "count" := strEq c
    refine ⟨_,rfl,h,_,1,.int x.n,rfl,rfl,aS.of a4,at1 _ _ _,hD,cM (by rw [length_map]; omega),_,_,rfl,?_,cQ s nD,ah⟩
    unfold lV
    rw [tk,filter_append,map_append,map_append]
    simp [c]
   ·have c:¬ x.u = "count" := fun e=>c (decide_eq_true (congrArg V.str e))
    refine ⟨_,_,rfl,?_,s,hD⟩
    unfold lV
    rw [tk,filter_append,map_append,map_append]
    simp [c]
  rintro σ ys G ⟨v1,v2,rfl,rfl,s,hD⟩
  rw [length_map,hql,take_length] at hD
  have cl:=tZ xs
  refine ⟨D,_,rfl,bj.of hD,by omega,fun l' us Oj hu hnd Ol=>⟨l',us,rfl,ah,by omega,fun l2 ms Jq hp EL=>?_⟩⟩
  have s3:=s.trans (aj (o:=oU P w l' us) Oj)
  exact k l2 ms _ (s3.trans (aj Jq)) (s3.free Jq) ah (by rw [hp.length_eq]; omega) (fun j=>by rw [hp.mem_iff,Ol])
def OU:Sp:=fun vs H Q _=>∃ (lw:Addr) (xs:List Wi),vs=[.ref lw]∧jk H lw xs∧xs.length ≤ 12∧∀ (l:Addr) (d:List (Key × V)) (H':Hp),Same H H'→H l=none→H' l=some (.dK d)→CR d (lV xs) (fun _=>0)→Q (.ref l) H'
theorem LH:aJ ["wishes", "counts", "number"] ["wishes"] (ak cO):=⟨rfl,rfl,rfl,by decide +kernel,rfl,by decide +kernel,by decide +kernel⟩
theorem OV {f fN:Addr} {fd DT:cx} (F:dO K "nothing_counted" "nothing_counted" cO f fd) (T:Txt K w.params mg) (GN:aR P w K mg base bV 1 fN DT ["wishes", "word"] OQ) (kN:KI K fN) (bN:Binds K DT ["wishes", "word"] []) (mN:mg "numbers_of_whats" = some (.ref fN)):aR P w K mg base bV 2 f fd ["wishes"] OU:=by
 refine F.ok LH (fun vs H Q E h=>?_) (fun cdv A outer s H vs Q E hr h=>?_)
 ·obtain ⟨lw,xs,rfl,_⟩:=h
  rfl
 ·obtain ⟨lw,xs,rfl,hW,h12,k⟩:=h
  have hu:=cI hr
  refine dG (aw (aG (aU (i:=1) LH.nd rfl (Or.inl rfl) je))
   (aw (aG (iu PassesOwn.never rfl (dB (aQ GN hr (by rfl) mN kN bN .nil bp (ae (pv 0) (ae aq ao)))) (cG (i:=2) LH.nd rfl (Or.inl rfl)) (aA (dq hu (pv 1) (pv 2) ai rfl))))
   (aM (aG (aV (pv 1)))))) ?_
  refine fun ld nd=>?_
  have s0:=aj (o:=.dK []) nd
  have hd0:upd H ld (.dK []) ld=some (.dK []):=ah
  generalize upd H ld (.dK [])=G0 at s0 hd0 ⊢
  refine ⟨_,rfl,lw,xs,rfl,hW.same s0,h12,fun ln ms G1 s1 nn hln hm12 hmem=>?_⟩
  have nld:ld ≠ ln:=az hd0 nn
  refine ⟨ln,rfl,⟨_,bj.of hln⟩,iF (K:=K) (a:=ln) (xs:=ms.map V.int) (fun j σ G=>∃ (v:Option V) (d:List (Key × V)),σ=[some (.ref lw),some (.ref ld),v]∧Same H G∧G ln=some (.lst (ms.map V.int))∧G ld=some (.dK d)∧CR d (ms.take j) (fun _=>0)) ?_ ?_ ?_ ?_⟩
  ·exact ⟨none,[],rfl,s0.trans s1,hln,s1 _ _ hd0,CR.nil⟩
  ·rintro j σ G _ ⟨v,d,rfl,s,hn,_⟩
   exact bj.of hn
  ·rintro j x σ G hx ⟨v,d,rfl,s,hn,hd,hc⟩
   rw [ab] at hx
   obtain ⟨n,hnj,rfl⟩:=map_eq_some_iff.mp hx
   have cl:=hc.len
   rw [length_take] at cl
   refine ⟨_,rfl,_,rfl,ld,_,rfl,iy.k (k:=Sum.inl n) hd (cM (by omega)),_,_,rfl,cQ s nd,by rw [aL nld.symm]; exact hn,ah,?_⟩
   have h9:=hc.put (ks':=ms.take (j + 1)) n 0 (fun i=>by rw [take_add_one,hnj,mem_append]; simp [or_comm])
   rw [Jk] at h9
   exact h9
  rintro σ G ⟨v,d,rfl,s,hn,hd,hc⟩
  rw [length_map,take_length] at hc
  exact ⟨_,rfl,k ld d G s nd hd (hc.congr hmem)⟩
end
def hZ (d:FR):Rw :=
 if d.u = "stop" then .stop else if d.u = "back" then .back else if d.u = "halt" then .halt (d.is.getD 0 0) else if d.u = "tell" then .tell (d.is.getD 0 0) else if d.u = "table" then .table (d.is.getD 0 0) d.ts
 else if d.u ∈ eE then .eE d.u (d.is.getD 0 0) (d.is.getD 1 0) else if d.u ∈ zb then .zb d.u (d.is.getD 0 0) (d.is.getD 1 0) (d.is.getD 2 0) else .two d.u (d.is.getD 0 0) (d.is.getD 1 0)
theorem DY {d:FR} (h:d.u ∈ eE):hZ d=.eE d.u (d.is.getD 0 0) (d.is.getD 1 0):=by
 have a:=(by decide +kernel:∀ u ∈ eE,¬ u = "stop" ∧ ¬ u = "back" ∧ ¬ u = "halt" ∧ ¬ u = "tell" ∧ ¬ u = "table") _ h
 unfold hZ
 rw [if_neg a.1,if_neg a.2.1,if_neg a.2.2.1,if_neg a.2.2.2.1,if_neg a.2.2.2.2,if_pos h]
theorem HG {d:FR} (h:d.u ∈ zb):hZ d=.zb d.u (d.is.getD 0 0) (d.is.getD 1 0) (d.is.getD 2 0):=by
 have a:=(by decide +kernel:∀ u ∈ zb,¬ u = "stop" ∧ ¬ u = "back" ∧ ¬ u = "halt" ∧ ¬ u = "tell" ∧ ¬ u = "table" ∧ ¬ u ∈ eE) _ h
 unfold hZ
 rw [if_neg a.1,if_neg a.2.1,if_neg a.2.2.1,if_neg a.2.2.2.1,if_neg a.2.2.2.2.1,if_neg a.2.2.2.2.2,if_pos h]
theorem DZ {d:FR} (h:d.u ∈ ten):hZ d=.two d.u (d.is.getD 0 0) (d.is.getD 1 0):=by
 have a:=(by decide +kernel:∀ u ∈ ten,¬ u = "stop" ∧ ¬ u = "back" ∧ ¬ u = "halt" ∧ ¬ u = "tell" ∧ ¬ u = "table" ∧ ¬ u ∈ eE∧¬ u ∈ zb) _ h
 unfold hZ
 rw [if_neg a.1,if_neg a.2.1,if_neg a.2.2.1,if_neg a.2.2.2.1,if_neg a.2.2.2.2.1,if_neg a.2.2.2.2.2.1,if_neg a.2.2.2.2.2.2]
theorem t8 {d:FR} {b:Int} {r:List Int} {ks:List Str} (hp:iY d) (h:d.is=b :: r) (hk:gM d.u=("box" : Str) :: ks):Bx b:=by
 have:=hp ("box",b) (by rw [hk,h,zip_cons_cons]; exact List.mem_cons_self)
 have h1:(0:Int) ≤ b:=this.1
 have h2:b ≤ 7:=this.2
 exact ⟨h1,by omega⟩
theorem rw_is {H:Hp} {q:Addr} {d:FR} {n:Int} (h:gC H q d) (g:GoodR d n):hU H q n (hZ d)∧(hZ d).word=d.u:=by
 have ht:=g.2.1
 have hp:=g.2.2.2
 obtain ⟨⟨o1,o2,o3,o4,o5,o6,o7⟩,hA⟩:=h
 have LI:¬ d.u = "table" → H q=some (.tup (.str d.u :: d.is.map V.int)):=fun z=>by
  rcases hA with ⟨a,_⟩ | ⟨_,a⟩
  ·exact absurd a z
  ·exact a
 have cls:=(by decide +kernel:∀ u ∈ jU,u = "stop" ∨ u = "back" ∨ u = "halt" ∨ u = "tell" ∨ u = "table" ∨ u ∈ eE∨u ∈ zb∨u ∈ ten) _ o1
 rcases cls with hu | hu | hu | hu | hu | hu | hu | hu
 ·have l:=(o5 (by rw [hu]; decide) (by rw [hu]; decide) (by rw [hu]; decide)).2
  rw [hu] at l
  have e1:d.is=[]:=List.length_eq_zero_iff.mp (l.trans rfl)
  have hq:=LI (by rw [hu]; decide)
  rw [e1,hu] at hq
  unfold hZ
  rw [if_pos hu]
  exact ⟨hq,hu.symm⟩
 ·have l:=(o5 (by rw [hu]; decide) (by rw [hu]; decide) (by rw [hu]; decide)).2
  rw [hu] at l
  have e1:d.is=[]:=List.length_eq_zero_iff.mp (l.trans rfl)
  have hq:=LI (by rw [hu]; decide)
  rw [e1,hu] at hq
  unfold hZ
  rw [if_neg (by rw [hu]; decide),if_pos hu]
  exact ⟨hq,hu.symm⟩
 ·have l:=(o5 (by rw [hu]; decide) (by rw [hu]; decide) (by rw [hu]; decide)).2
  rw [hu] at l
  obtain ⟨v,e1⟩:=List.length_eq_one_iff.mp (l.trans rfl)
  have hq:=LI (by rw [hu]; decide)
  rw [e1,hu] at hq
  unfold hZ
  rw [if_neg (by rw [hu]; decide),if_neg (by rw [hu]; decide),if_pos hu,e1]
  exact ⟨hq,hu.symm⟩
 ·have l:=(o5 (by rw [hu]; decide) (by rw [hu]; decide) (by rw [hu]; decide)).2
  rw [hu] at l
  obtain ⟨v,e1⟩:=List.length_eq_one_iff.mp (l.trans rfl)
  have hq:=LI (by rw [hu]; decide)
  have hb:=t8 (ks:=[]) hp e1 (by rw [hu]; rfl)
  rw [e1,hu] at hq
  unfold hZ
  rw [if_neg (by rw [hu]; decide),if_neg (by rw [hu]; decide),if_neg (by rw [hu]; decide),if_pos hu,e1]
  exact ⟨⟨hq,hb⟩,hu.symm⟩
 ·rcases hA with ⟨_,b,p,e1,h1,h2⟩ | ⟨a,_⟩
  ·have hb:=t8 (ks:=["targets"]) hp e1 (by rw [hu]; rfl)
   unfold hZ
   rw [if_neg (by rw [hu]; decide),if_neg (by rw [hu]; decide),if_neg (by rw [hu]; decide),if_neg (by rw [hu]; decide),if_pos hu,e1]
   rw [hu] at h1
   exact ⟨⟨p,h1,h2,hb,ht⟩,hu.symm⟩
  ·exact absurd hu a
 ·obtain ⟨t,f,e1,e2⟩:=o3 hu
  have hq:=LI ((by decide +kernel:∀ u ∈ eE,¬ u = "table") _ hu)
  rw [e1] at hq
  rw [DY hu,e1]
  rw [e2] at ht
  exact ⟨⟨hq,hu,(ht t (by simp)).1,(ht t (by simp)).2⟩,rfl⟩
 ·obtain ⟨b,t,f,e1,e2⟩:=o4 hu
  have hq:=LI ((by decide +kernel:∀ u ∈ zb,¬ u = "table") _ hu)
  have hb:=t8 hp e1 (kz _ hu)
  rw [e1] at hq
  rw [HG hu,e1]
  rw [e2] at ht
  exact ⟨⟨hq,hu,hb,(ht t (by simp)).1,(ht t (by simp)).2⟩,rfl⟩
 ·have a:=(by decide +kernel:∀ u ∈ ten,SD u=2∧¬ u = "table" ∧ ¬ u ∈ eE∧¬ u ∈ zb∧(∃ k ∈ (["box", "value", "number", "aside"]:List Str),gM u=(["box",k]:List Str)∧(u ∈ w2→k = "box"))) _ hu
  obtain ⟨k2,_,ek,ew⟩:=a.2.2.2.2
  obtain ⟨b,v,e1⟩:∃ b v,d.is=[b,v]:=by
   match hh:d.is,(o5 a.2.1 a.2.2.1 a.2.2.2.1).2.trans a.1 with
   | [b,v],_=>exact ⟨b,v,rfl⟩
  have hq:=LI a.2.1
  have hb:=t8 hp e1 ek
  have hv:d.u ∈ w2→Bx v:=fun z=>by
   have hk:=ew z
   subst hk
   have:=hp ("box",v) (by rw [ek,e1]; simp)
   have h1:(0:Int) ≤ v:=this.1
   have h2:v ≤ 7:=this.2
   exact ⟨h1,by omega⟩
  rw [e1] at hq
  rw [DZ hu,e1]
  exact ⟨⟨hq,hu,hb,hv⟩,rfl⟩
theorem vR {H:Hp} {lr:Addr} {ds:List FR} (h:gJ H lr ds) (g:∀ d ∈ ds,GoodR d (ds.length:Nat)):mF H lr (ds.map hZ):=by
 obtain ⟨qs,a,b,c⟩:=h
 refine ⟨qs,a,by rw [length_map,b],fun i q rw h1 h2=>?_⟩
 rw [ab] at h2
 obtain ⟨d,hd,rfl⟩:=map_eq_some_iff.mp h2
 rw [length_map]
 exact (rw_is (c i q d h1 hd) (g d (ad hd))).1
theorem rW {H:Hp} {lr:Addr} {ds:List FR} (h:gJ H lr ds) (g:mJ ds):∀ rw,(ds.map hZ)[(ds.map hZ).length - 1]? = some rw→rw.word ∈ cY:=fun rw hrw=>by
 obtain ⟨qs,a,b,c⟩:=h
 obtain ⟨g0,_,g1,d,hd,hn⟩:=g
 rw [length_map,ab,hd] at hrw
 cases hrw
 have hq:qs[ds.length - 1]? = some (qs[ds.length - 1]'(by omega)):=aa _
 rw [(rw_is (c _ _ d hq hd) (g1 d (ad hd))).2]
 exact hn
theorem TS.my {H:Hp} {a:Addr} {m:TA} {B:Nat} {t:Tl} (M:TS H a m B t):∀ c,cS m a c→∃ o,H c=some o:=by
 obtain ⟨wz,oz,_⟩:=M.st
 obtain ⟨pz,sz,_⟩:=M.seen
 obtain ⟨dz,cz,_⟩:=M.cnt
 rintro c (rfl | rfl | rfl | rfl)
 ·exact ⟨_,oz⟩
 ·exact ⟨_,sz⟩
 ·exact ⟨_,cz⟩
 ·exact ⟨_,M.rws⟩
theorem AJ {σ:St} {H1:Hp} {Q:V→Hp→Prop} {te:TE} {xs:List Wi} (h12:xs.length ≤ 12) (hte:∀ (G:Hp) (Q':V→Hp→Prop),Same H1 G→(∀ (l2:Addr) (d:List (Key × V)) (G':Hp),Same G G'→G l2=none→G' l2=some (.dK d)→CR d (lV xs) (fun _=>0)→Q' (.ref l2) G')→te σ G Q')
  (k:∀ (at_:Addr) (mt:TA) (H2:Hp),Same H1 H2→(∀ c,cS mt at_ c→H1 c=none)→TS H2 at_ mt 0 (AB xs)→Q (.ref at_) H2) :
  yL [(tC (.str "seen"),uY qv),(tC (.str "counts"),te),(tC (.str "rows"),uY qv),(tC (.str "ending"),tC .non)] σ H1 Q:=by
 refine fun at_ na=>?_
 refine ⟨lQ,fun l1 n1=>?_⟩
 have q0:=aj (o:=.dK []) na
 have q1:=aj (o:=.lst []) n1
 have TB:=q0.trans q1
 refine hte _ _ TB fun l2 d G2 q2 n2 hd2 hc2=>?_
 refine ⟨lQ,fun l3 n3=>?_⟩
 have q3:=aj (o:=.lst []) n3
 refine ⟨(q1.trans (q2.trans q3)) at_ _ ah,gH gD [.ref l1,.ref l2,.ref l3,.non],rfl,(show 4 ≤ 15 by decide),?_⟩
 have e4:gD.length ≤ ([.ref l1,.ref l2,.ref l3,.non]:List V).length:=le_refl 4
 rw [lT gE e4]
 have f1:=(q2.trans q3) l1 _ ah
 have f2:=q3 l2 _ hd2
 have d1:l1 ≠ at_:=(az ah n1).symm
 have d2:l2 ≠ at_:=(az (q1 _ _ ah) n2).symm
 have d3:l3 ≠ at_:=(az ((q1.trans q2) _ _ ah) n3).symm
 have qA:=q0.trans (q1.trans (q2.trans q3))
 refine k at_ ⟨l1,l2,l3⟩ _ (fun c o e=>?_) ?_ ⟨⟨.non,ah,rfl⟩,⟨[],?_,rfl,fun i p c e=>by simp at e⟩,⟨d,?_,hc2,?_⟩,?_,az (q2 _ _ ah) n3,d2.symm,⟨le_refl _,le_refl _⟩,by decide⟩
 ·rw [aL (az e na)]
  exact qA _ _ e
 ·rintro c (rfl | rfl | rfl | rfl)
  ·exact na
  ·exact q0.free n1
  ·exact TB.free n2
  ·exact (TB.trans q2).free n3
 ·rw [aL d1]
  exact f1
 ·rw [aL d2]
  exact f2
 ·have a:=hc2.len
  have b:=tZ xs
  omega
 ·rw [aL d3]
  exact ah
inductive L8 (X:Cx) (pos:Pos):List (Option Expr)→List Expr→List (TE × TE)→Prop where
 | nil:L8 X pos [] [] []
 | cons {k v:Expr} {ks:List (Option Expr)} {vs:List Expr} {tk tv:TE} {uN:List (TE × TE)} (hk:PE X k tk) (hv:PE X v tv) (hr:L8 X pos ks vs uN):L8 X pos (some k :: ks) (v :: vs) ((tk,tv) :: uN)
theorem L8.pps {X:Cx} {pos:Pos} {ks:List (Option Expr)} {vs:List Expr} {uN:List (TE × TE)} (h:L8 X pos ks vs uN):MX X pos ks vs uN:=by
 induction h with
 | nil=>exact nX
 | cons hk hv _ ih=>exact dr hk hv ih
theorem D0 {X:Cx} {pos:Pos} {keys:List (Option Expr)} {values:List Expr} {uN:List (TE × TE)} (h:L8 X pos keys values uN) (hall:keys.all (·.isSome)=true) (hl:keys.length=values.length) (h0:keys ≠ []) (h15:keys.length ≤ 15):LZ X (.Dict keys values pos) (yL uN):=by
 unfold LZ
 exact nY h.pps hall hl h0 h15
def PsI (C:Addr) (ring:Int→Bool) (rws:List Rw) (xs:List Wi) (most:Nat) (F:Tl) (H:Hp) (x:Addr) (m:MA) (rows:List V) (aD:List (Key × V)) (at_:Addr) (mt:TA) (lh:Addr) (i:Nat) (G:Hp):Prop:=∃ (z:Zt) (t:Tl) (ws:List Wi) (hs:List Addr),i ≤ most∧Keeps (fun c=>cS mt at_ c∨Own m x c) H G∧MG C G x m rows aD (50 + i) z∧TS G at_ mt (26 * i) t∧t.ks=lV xs∧G lh=some (.lst (hs.map V.ref))∧uO G hs ws∧¬ cS mt at_ lh∧ws.length ≤ 24∧(∀ y ∈ ws,y ∈ xs)∧(t.en=none→t.rows.length=i∧Up rws z∧iZ rws.length z∧F=lU ring rws xs (most - i) z t ws)∧(¬ t.en=none→F=t)
theorem HI {xs:List Wi} {l s:Int}:(vM xs l s).length ≤ 2 * xs.length∧∀ y ∈ vM xs l s,y ∈ xs:=by
 unfold vM
 refine ⟨?_,fun y hy=>?_⟩
 ·rw [length_append]
  have h1:=length_filter_le (pJ l s) xs
  have h2:=length_filter_le (i3 s) xs
  omega
 ·rcases mem_append.mp hy with z | z
  ·exact (mem_filter.mp z).1
  ·exact (mem_filter.mp z).1
theorem HJ {bs:List Int} {ws:List Wi} {s:Int} {t:Tl} (h:(cj bs t ws).en=none):come bs ws s t={ cj bs t ws with rows:=(cj bs t ws).rows ++ [s] }:=if_pos h
theorem HK {bs:List Int} {ws:List Wi} {s:Int} {t:Tl} (h:¬ (cj bs t ws).en=none):come bs ws s t=cj bs t ws:=if_neg h
section
variable {P:Program} {w:World} {K:Frag} {mg:Str→Option Value} {base:Heap}
def OW:Sp:=fun vs H Q _=>∃ (lr lw pb pc pl:Addr) (most:Nat) (ds:List FR) (xs:List Wi) (bs bells:List Int) (d:List (Key × V)) (cf:Int→Int),vs=[.ref lr,.ref lw,.ref pb,.ref pc,.ref pl,.int (most:Int)]∧most ≤ 61∧gJ H lr ds∧mJ ds∧jk H lw xs∧xs.length ≤ 12∧(∀ x ∈ xs,L7 ds x)∧(∀ x ∈ xs,pM (lV xs) x) ∧
 H pb=some (.lst (bs.map V.int))∧bs.length=8∧H pc=some (.dK d)∧Rep d cf∧d.length ≤ 50∧H pl=some (.lst (bells.map V.int))∧bells.length ≤ 100 ∧
 ∀ (a:Addr) (mt:TA) (H':Hp),Same H H'→(∀ c,cS mt a c→H c=none)→TS H' a mt 1999 (lU (bh bells) (ds.map hZ) xs most (z0 bs cf) (AB xs) (xs.filter (i3 0)))→Q (.ref a) H'
theorem D4:aJ ["rows", "wishes", "boxes", "cells", "bells", "most", "machine", "reading", "whats"] ["rows", "wishes", "boxes", "cells", "bells", "most"] (ak ef):=⟨rfl,rfl,rfl,by decide +kernel,rfl,by decide +kernel,by decide +kernel⟩
theorem OX {f fK fW fN fB fS fD C fI f0 f2:Addr} {fd fdK rS DT Jg pC Jb fdI Oc fd2:cx} (F:dO K "plain_seen" "plain_seen" ef f fd) (T:Txt K w.params mg)
  (GK:aR P w K mg base bV 7 fK fdK ["rows"] Oz) (kK:KI K fK) (bK:Binds K fdK ["rows"] []) (mK:mg "check_rows" = some (.ref fK))
  (GW:aR P w K mg base bV 8 fW rS ["rows", "wishes"] OM) (kW:KI K fW) (bW:Binds K rS ["rows", "wishes"] []) (mW:mg "check_wishes" = some (.ref fW))
  (GN:aR P w K mg base bV 2 fN DT ["wishes"] OU) (kN:KI K fN) (bN:Binds K DT ["wishes"] []) (mN:mg "nothing_counted" = some (.ref fN))
  (GB:aR P w K mg base bV 1 fB Jg ["wishes", "r"] Lc) (kB:KI K fB) (bB:Binds K Jg ["wishes", "r"] []) (mB:mg "whats_before" = some (.ref fB))
  (GS:aR P w K mg base bV 2 fS pC ["reading", "whats", "boxes"] N3) (kS:KI K fS) (bS:Binds K pC ["reading", "whats", "boxes"] []) (mS:mg "see_whats" = some (.ref fS))
  (GD:aR P w K mg base bV 4 fD Jb ["reading", "rows", "wishes", "machine"] (Oa C)) (kD:KI K fD) (bD:Binds K Jb ["reading", "rows", "wishes", "machine"] []) (mD:mg "do_row" = some (.ref fD))
  (TM:lu K mg C) (mMc:mg "Machine" = some (.ref C)) (Mk:Mk K C fI) (GI:aR P w K mg base bV 1 fI fdI ["self", "rows", "boxes", "cells", "bells"] (Dl C)) (bI:Binds K fdI ["self", "rows", "boxes", "cells", "bells"] [])
  (M0:Meth K C "row" f0) (G0:aR P w K mg base bV 1 f0 Oc ["self"] (xl C)) (b0:Binds K Oc ["self"] [])
  (M2:Meth K C "boxes" f2) (G2:aR P w K mg base bV 1 f2 fd2 ["self"] (tK C)) (b2:Binds K fd2 ["self"] []):aR P w K mg base bV 9 f fd ["rows", "wishes", "boxes", "cells", "bells", "most"] OW:=by
 refine F.ok D4 (fun vs H Q E h=>?_) (fun cdv A outer s H vs Q E hr h=>?_)
 ·obtain ⟨lr,lw,pb,pc,pl,most,ds,xs,bs,bells,d,cf,rfl,_⟩:=h
  rfl
 ·obtain ⟨lr,lw,pb,pc,pl,most,ds,xs,bs,bells,d,cf,rfl,hmo,OY,hG,hW,h12,TF,hg,hpb,b8,hpc,hrep,hdl,hpl,OZ,k⟩:=h
  have hu:=cI hr
  have hr2:=hr.mono (show 2 ≤ 8 by decide)
  have hr1:=hr.mono (show 1 ≤ 8 by decide)
  refine dG (aw (aG (bz (aQ GK (hr.mono (by decide)) (by rfl) mK kK bK .nil bp (ae (pv 0) ao))))
   (aw (aG (bz (aQ GW hr (by rfl) mW kW bW .nil bp (ae (pv 0) (ae (pv 1) ao)))))
   (aw (aG (aU (i:=6) D4.nd rfl (Or.inl rfl) (Fg Mk GI hr2 rfl mMc bI .nil bp (ae (pv 0) (ae (pv 2) (ae (pv 3) (ae (pv 4) ao)))))))
   (aw (vD (y9 (i:=7) D4.nd rfl (Or.inl rfl) (D0 (.cons aq (cr ao) (.cons aq (aQ GN (hr.mono (by decide)) (by rfl) mN kN bN .nil bp (ae (pv 1) ao)) (.cons aq (cr ao) (.cons aq eA .nil)))) rfl rfl (cons_ne_nil _ _) (le_of_ble_eq_true rfl))))
   (aw (aG (aU (i:=8) D4.nd rfl (Or.inl rfl) (aQ GB (hr.mono (by decide)) (by rfl) mB kB bB .nil bp (ae (pv 1) (ae ai ao)))))
   (aw (aG (ow PassesOwn.never (eM (aF iH (aW bf (by rfl) T.len dc (ae (aY hu (pv 7) aq (fun _ _=>rfl)) ao)) (pv 5) (aP _)) (d6 (aF lJ (aY hu (pv 7) aq (fun _ _=>rfl)) eA (aP _)))).pt (aB (bz (aQ GS (hr.mono (by decide)) (by rfl) mS kS bS .nil bp (ae (pv 7) (ae (pv 8) (ae (gZ (pv 6) TM.cl M2 G2 hr1 b2 .nil bp) ao)))))
   (aA (cq (aF lJ (aY hu (pv 7) aq (fun _ _=>rfl)) eA (aP _)) (aB (bz (gw fb ff fg bZ (aY hu (pv 7) aq (fun _ _=>rfl)) (ae (gZ (pv 6) TM.cl M0 G0 hr1 b0 .nil bp) ao)))
   (aA (cq (aF iH (aW bf (by rfl) T.len dc (ae (aY hu (pv 7) aq (fun _ _=>rfl)) ao)) (pv 5) (aP _)) (aA (aU (i:=8) D4.nd rfl (Or.inl rfl) (aQ GD (hr.mono (by decide)) (by rfl) mD kD bD .nil bp (ae (pv 7) (ae (pv 0) (ae (pv 1) (ae (pv 6) ao))))))) aN))) aN)))))
   (aM (aG (aV (pv 7)))))))))) ?_
  refine ⟨_,rfl,lr,ds,rfl,OY,hG,fun H1 s1=>?_⟩
  refine ⟨_,rfl,_,rfl,lr,lw,ds,xs,rfl,OY.same s1,hG,hW.same s1,h12,TF,fun H2 s2=>?_⟩
  have sA:=s1.trans s2
  obtain ⟨qs,g1,g2,g3⟩:=id OY
  refine ⟨_,rfl,_,rfl,_,rfl,_,rfl,fun x dx nx ndx nex=>?_⟩
  have u1:∀ {c o},H2 c=some o→upd (upd H2 dx (.own x)) x (.ins C dx []) c=some o:=fun {c o} h=>by
   rw [aL (az h nx),aL (az h ndx)]
   exact h
  refine ⟨x,dx,lr,pb,pc,pl,qs.map V.ref,bs,bells,d,cf,rfl,ah,u1 (sA _ _ g1),u1 (sA _ _ hpb),b8,u1 (sA _ _ hpc),hrep,hdl,u1 (sA _ _ hpl),OZ,fun m aD HX hrg M SX own=>⟨rfl,?_⟩⟩
  have eR:cP aD=bh bells:=funext hrg
  have tX:Same H2 HX:=fun c o h=>SX _ _ (az h nx) (u1 h)
  have sX:=sA.trans tX
  have nO:∀ c,Ax m x c→H c=none:=fun c hc=>by
   cases e:H c with
   | none=>rfl
   | some o =>
    have e2:=sA _ _ e
    have:=own c hc (az e2 nx)
    rw [u1 e2] at this
    cases this
  clear u1 SX own nx ndx nex
  show gY _ _ _ _ _
  refine kI (vy ?_)
  refine AJ (xs:=xs) h12 (fun G Q' sG kk=>⟨_,rfl,lw,xs,rfl,hW.same (sX.trans sG),h12,kk⟩) fun at_ mt H3 s3 L1 MT=>?_
  show gY _ _ _ _ _
  refine kI ?_
  have nT:∀ c,cS mt at_ c→H c=none:=fun c hc=>sX.free (L1 c hc)
  have dj:∀ c,cS mt at_ c→¬ Ax m x c:=fun c hc hl=>by
   obtain ⟨o,e⟩:=M.my c hl
   rw [L1 c hc] at e
   cases e
  have nR:∀ c,(cS mt at_ c∨Own m x c)→H c=none:=fun c hc=>hc.elim (nT c) fun z=>nO c (.inl z)
  have nr:∀ c o,H c=some o→¬ (cS mt at_ c∨Own m x c):=fun c o e z=>by rw [nR c z] at e; cases e
  refine ⟨_,rfl,lw,xs,0,rfl,hW.same (sX.trans s3),by omega,fun lh hs H4 s4 nlh Hv Ma=>?_⟩
  have sT:¬ cS mt at_ lh:=fun z=>by
   obtain ⟨o,e⟩:=MT.my lh z
   rw [nlh] at e
   cases e
  generalize hF:lU (bh bells) (ds.map hZ) xs most (z0 bs cf) (AB xs) (xs.filter (i3 0))=Fi at k
  have Pa:=vR OY hG.2.2.1
  have L0:=rW OY hG
  have DP:1 ≤ (ds.map hZ).length:=by rw [length_map]; exact hG.1
  generalize ds.map hZ=rws at hF Pa L0 DP
  have HA:iZ rws.length (z0 bs cf):=⟨.inr ⟨0,rfl,DP⟩,fun p hp=>absurd hp (by simp [z0])⟩
  have wl0:=length_filter_le (i3 0) xs
  refine ⟨fun n σ G=>∃ lh i,σ=[some (.ref lr),some (.ref lw),some (.ref pb),some (.ref pc),some (.ref pl),some (.int (most:Int)),some (.ref x),some (.ref at_),some (.ref lh)]∧n=most - i∧PsI C (bh bells) rws xs most Fi H x m (qs.map V.ref) aD at_ mt lh i G,⟨_,lh,0,rfl,rfl,z0 bs cf,AB xs,_,hs,zero_le _,.same (sX.trans (s3.trans s4)),(M.same s3).same s4,MT.same s4,rfl,Hv,Ma,sT,by omega,fun y hy=>(mem_filter.mp hy).1,fun _=>⟨rfl,⟨rfl,0,rfl,DP⟩,HA,hF.symm⟩,fun z=>absurd rfl z⟩,?_⟩
  clear hF MT M Hv Ma sT wl0 nlh s4 s3 L1
  rintro n σ G ⟨lh,i,rfl,rfl,z,t,ws,hs,hi,kG,M,MT,hks,Hv,Ma,sT,hwl,hwi,hup,hdn⟩
  obtain ⟨wt,hot,uP⟩:=MT.st
  have fin:Fi=t→Q (.ref at_) G:=fun e=>k at_ mt G (kG.xC nR) nT (e ▸ MT.more (by omega) (by decide))
  refine ⟨_,rfl,at_,_,rfl,df hot j8,mt.r,_,rfl,.inl (bj.of MT.rws),_,rfl,_,_,rfl,rfl,_,rfl,dy (fun c1=>?_) (fun c1=>?_)⟩
  ·refine ⟨_,rfl,at_,_,rfl,df hot zG,?_⟩
   cases he:t.en with
   | some zs =>
    rw [he] at uP
    obtain ⟨p,rfl,_⟩:=uP
    exact ⟨rfl,_,rfl,aX (fun z=>by cases of_decide_eq_true z) ⟨_,rfl,fin (hdn (by rw [he]; intro z; cases z))⟩⟩
   | none =>
   rw [he] at uP
   have uP:wt=.non:=uP
   subst uP
   obtain ⟨hrl,⟨hn,r,Jp,hrn⟩,hst,hFF⟩:=hup he
   have c1:t.rows.length < most:=by have:=of_decide_eq_true c1; rw [length_map] at this; omega
   refine ⟨rfl,_,rfl,cF (by decide) ⟨fun σ' G'=>∃ lh,σ'=[some (.ref lr),some (.ref lw),some (.ref pb),some (.ref pc),some (.ref pl),some (.int (most:Int)),some (.ref x),some (.ref at_),some (.ref lh)]∧PsI C (bh bells) rws xs most Fi H x m (qs.map V.ref) aD at_ mt lh (i + 1) G',?_,?_⟩⟩
   ·rintro σ' G' ⟨lh,rfl,h⟩
    exact ⟨most - (i + 1),by omega,lh,i + 1,rfl,rfl,h⟩
   have Rn:dH z=r:=by unfold dH; rw [Jp]
   obtain ⟨n0,hn0⟩:∃ n0,most - i=n0 + 1:=⟨most - i - 1,by omega⟩
   have hn1:most - (i + 1)=n0:=by omega
   rw [hn0,pN,Rn] at hFF
   obtain ⟨w0,ho,hw0⟩:=M.obj
   refine ⟨_,rfl,_,rfl,_,rfl,x,m.dx,_,rfl,ho,xh vL,x,z,50 + i,rfl,⟨m,_,aD,M⟩,fun lb nb=>?_⟩
   have sb:=aj (o:=.lst (z.bs.map V.int)) nb
   have sTb:¬ cS mt at_ lb:=fun y=>by
    obtain ⟨o,e⟩:=MT.my lb y
    rw [nb] at e
    cases e
   refine ⟨at_,lh,lb,mt,26 * i,t,hs,ws,z.bs,rfl,MT.same sb,by omega,sb _ _ Hv,Ma.tups (.of sb),fun y hy=>by rw [hks]; exact hg y (hwi y hy),ah,M.b8,sT,sTb,fun G1 k1 zI=>?_⟩
   have k1:=(Keeps.same (R:=cS mt at_) sb).trans k1
   have M1:=M.keeps k1 (fun c hc ht=>dj c ht hc)
   have Oh:=kG.trans (k1.more fun _=>Or.inl)
   have TH:(cj z.bs t ws).ks=lV xs:=gF.1.trans hks
   have Ro:(cj z.bs t ws).rows=t.rows:=gF.2
   have cN:=HK (bs:=z.bs) (ws:=ws) (s:=(r:Int)) (t:=t)
   have cE:=HJ (bs:=z.bs) (ws:=ws) (s:=(r:Int)) (t:=t)
   generalize cj z.bs t ws=t1 at zI TH Ro cN cE
   obtain ⟨wt1,CC,AK⟩:=zI.st
   refine ⟨_,rfl,at_,_,rfl,df CC zG,?_⟩
   cases Kb:t1.en with
   | some zs =>
    rw [Kb] at AK
    obtain ⟨p,rfl,_⟩:=AK
    have hne:¬ t1.en=none:=by rw [Kb]; intro z; cases z
    rw [cN hne] at hFF
    refine ⟨rfl,_,rfl,aX (fun z=>by cases of_decide_eq_true z) ⟨lh,rfl,z,t1,ws,hs,by omega,Oh,M1.more (by omega) (by omega),zI.more (by omega) (by omega),TH,k1 _ _ Hv (.inl sT),Ma.tups k1.tups,sT,hwl,hwi,fun e=>absurd e hne,fun _=>?_⟩⟩
    rw [hFF]
    exact if_neg (fun y=>hne y.1)
   | none =>
   rw [Kb] at AK
   have AK:wt1=.non:=AK
   subst AK
   rw [cE Kb] at hFF
   obtain ⟨w1,ho1,hw1⟩:=M1.obj
   have lm:=zI.lens
   refine ⟨rfl,_,rfl,cF (by decide) ?_⟩
   refine ⟨_,rfl,at_,_,rfl,df CC j8,.inl ⟨rfl,_,bj.of zI.rws⟩,_,rfl,x,m.dx,_,rfl,ho1,xh xv,x,z,50 + i,rfl,⟨m,_,aD,M1⟩,mt.r,_,_,rfl,rfl,zI.rws,bQ (by rw [length_map,Ro]; omega),?_⟩
   rw [Jp,show t1.rows.map V.int ++ [V.int (r:Int)]=(t1.rows ++ [(r:Int)]).map V.int by simp]
   have AA:=(zI.more (show 26 * i + ws.length ≤ 26 * i + 25 by omega) (by omega)).DJ (rs:=t1.rows ++ [(r:Int)]) (by rw [length_append,Ro]; simp; omega)
   have k2:Keeps (cS mt at_) G1 (upd G1 mt.r (.lst ((t1.rows ++ [(r:Int)]).map V.int))):=Keeps.refl.upd zI.rws (by intro _ z; cases z) (.inr (.inr (.inr rfl)))
   generalize upd G1 mt.r (.lst ((t1.rows ++ [(r:Int)]).map V.int))=G2 at AA k2 ⊢
   have M2:=M1.keeps k2 (fun c hc ht=>dj c ht hc)
   have Lr:=Oh.trans (k2.more fun _=>Or.inl)
   have TJ:=k2 _ _ (k1 _ _ Hv (.inl sT)) (.inl sT)
   have TK:=(Ma.tups k1.tups).tups k2.tups
   have rl2:(t1.rows ++ [(r:Int)]).length=i + 1:=by rw [length_append,Ro,hrl]; rfl
   obtain ⟨t2,Pb⟩:∃ t2:Tl,t2={ t1 with rows:=t1.rows ++ [(r:Int)] }:=⟨_,rfl⟩
   rw [← Pb] at AA hFF
   have ks2:t2.ks=lV xs:=by rw [Pb]; exact TH
   have en2:t2.en=none:=by rw [Pb]; exact Kb
   have rw2:t2.rows.length=i + 1:=by rw [Pb]; exact rl2
   clear Pb
   obtain ⟨wt2,xA,Od⟩:=AA.st
   refine ⟨_,rfl,at_,_,rfl,df xA j8,mt.r,_,rfl,.inl (bj.of AA.rws),_,rfl,_,_,rfl,rfl,_,rfl,dy (fun c2=>?_) (fun c2=>?_)⟩
   rotate_left
   ·have c2:¬ (t2.rows.length:Int) < (most:Int):=fun z=>c2 (decide_eq_true (by rw [length_map]; exact z))
    have e0:n0=0:=by omega
    refine ⟨lh,rfl,z,t2,ws,hs,by omega,Lr,M2.more (by omega) (by omega),AA.more (by omega) (by omega),ks2,TJ,TK,sT,hwl,hwi,fun _=>⟨rw2,⟨hn,r,Jp,hrn⟩,hst,?_⟩,fun e=>absurd en2 e⟩
    rw [hFF,hn1,e0]
    exact if_neg (fun y=>y.2 rfl)
   have c2:t2.rows.length < most:=by have:=of_decide_eq_true c2; rw [length_map] at this; omega
   have hne:n0 ≠ 0:=by omega
   obtain ⟨Lq,e0,e0l,e0r⟩:=Pa.keeps Lr (nr lr _ g1)
   have hq0:Lq=qs:=by
    rw [Lr _ _ g1 (.inl (nr lr _ g1))] at e0
    exact (List.map_inj_right (fun a b h=>V.ref.inj h)).mp (HO.lst.inj (Option.some.inj e0)).symm
   subst hq0
   have hqr:Lq[r]? = some Lq[r]:=aa (by omega)
   have hwr:rws[r]? = some rws[r]:=aa hrn
   have AG:=e0r r _ _ hqr hwr
   have hOf:qI rws z=rws[r]:=by unfold qI; rw [Rn,i4,List.getD_eq_getElem?_getD,hwr]; rfl
   have vN:r + 1=rws.length→rws[r].word ∈ cY:=fun e=>L0 _ (by rw [show rws.length - 1=r by omega]; exact hwr)
   generalize rws[r]=rw at hwr AG hOf vN
   generalize Lq[r]=q at hqr AG
   have hrow:(Lq.map V.ref)[r]? = some (.ref q):=by rw [ab,hqr]; rfl
   obtain ⟨qsw,ew,_⟩:=id hW
   have TL:=nr lr _ g1
   have Jw:=nr lw _ ew
   refine ⟨_,rfl,_,rfl,_,rfl,_,rfl,at_,lr,lw,x,q,mt,26 * i + 25,t2,m,_,aD,50 + i,z,r,_,rw,xs,rfl,AA,by omega,e0,M2,by omega,Jp,hn,hrow,AG,hW.keeps Lr Jw,by omega,dj,fun y=>TL (.inl y),fun y=>TL (.inr y),fun y=>Jw (.inl y),fun y=>Jw (.inr y),fun l hs' G3 k3 uQ M3 nl hl' hw'=>?_⟩
   rw [eR] at uQ M3 hw'
   have eZ:hV (bh bells) rws z=aZ (bh bells) rw r z:=by unfold hV; rw [hOf,Rn]
   have eT:nextT (bh bells) rws z t2={ jl rw z.bs t2 with en:=(aZ (bh bells) rw r z).how }:=by unfold nextT; rw [hOf,eZ]
   have hst':iZ rws.length (aZ (bh bells) rw r z):=hst.step hrn AG vN
   have rn:=DK (ring:=bh bells) (r:=rw) (h:=r) (z:=z) hn
   have eF:Fi=if (aZ (bh bells) rw r z).how=none then lU (bh bells) rws xs n0 (aZ (bh bells) rw r z) (nextT (bh bells) rws z t2) (mI (bh bells) rws xs z) else nextT (bh bells) rws z t2:=by
    rw [hFF,← eZ]
    exact if_pos ⟨en2,hne⟩
   have eW:mI (bh bells) rws xs z=vM xs (Hx rw r (dH (aZ (bh bells) rw r z))) (dH (aZ (bh bells) rw r z)):=by unfold mI; rw [hOf,Rn,eZ]
   rw [← eT] at uQ
   generalize aZ (bh bells) rw r z=z' at uQ M3 hw' eZ eT hst' rn eF eW
   have hk3:(nextT (bh bells) rws z t2).ks=lV xs:=by rw [eT]; exact oq.1.trans ks2
   have Tf:(nextT (bh bells) rws z t2).rows.length=i + 1:=by rw [eT]; show (jl rw z.bs t2).rows.length=i + 1; rw [oq.2]; exact rw2
   have L4:(nextT (bh bells) rws z t2).en=z'.how:=by rw [eT]
   have L3:=Lr.trans k3
   have sT3:¬ cS mt at_ l:=fun y=>by
    obtain ⟨o,e⟩:=AA.my l y
    rw [nl] at e
    cases e
   rcases rn with ⟨e1,ys,e2⟩ | ⟨⟨s',e1⟩,e2⟩
   ·rw [e1] at hw'
    refine ⟨l,rfl,z',_,[],hs',by omega,L3,M3.more (by omega) (by omega),uQ.more (by omega) (by omega),hk3,hl',hw',sT3,by simp,fun y hy=>absurd hy (by simp),(fun e=>by rw [L4,e2] at e; cases e),fun _=>?_⟩
    rw [eF,if_neg (by rw [e2]; intro z; cases z)]
   ·rw [e1] at hw'
    have hw':uO G3 hs' (vM xs (Hx rw r s') s'):=hw'
    have hs2:dH z'=s':=by unfold dH; rw [e1]
    rw [hs2] at eW
    have bl:=HI (xs:=xs) (l:=Hx rw r s') (s:=s')
    refine ⟨l,rfl,z',_,_,hs',by omega,L3,M3.more (by omega) (by omega),uQ.more (by omega) (by omega),hk3,hl',hw',sT3,by have:=bl.1; omega,bl.2,fun _=>⟨Tf,⟨e2,?_⟩,hst',?_⟩,fun e=>absurd (L4.trans e2) e⟩
    ·rcases hst'.1 with y | ⟨r',y1,y2⟩
     ·rw [e1] at y
      cases y
     ·exact ⟨r',y1,y2⟩
    ·rw [eF,if_pos e2,hn1,← eW]
  ·refine iz ⟨_,rfl,fin ?_⟩
   have c1:¬ (t.rows.length:Int) < (most:Int):=fun z=>c1 (decide_eq_true (by rw [length_map]; exact z))
   cases he:t.en with
   | some zs=>exact hdn (by rw [he]; intro z; cases z)
   | none =>
    obtain ⟨hrl,_,_,hFF⟩:=hup he
    rw [hFF,show most - i=0 by omega]
    rfl
end
theorem D5:∀ u ∈ (["jump", "zero", "below", "call", "mark"]:List Str),u ≠ "table" ∧ (u ∈ eE∨(¬ u ∈ eE∧u ∈ zb)):=by decide +kernel
theorem LJ {u:Str} (h:¬ u ∈ (["jump", "zero", "below", "call", "mark"]:List Str)):¬ u ∈ eE∧¬ u ∈ zb:=by
 unfold eE zb
 simp at h ⊢
 exact ⟨⟨h.1,h.2.2.2.1,h.2.2.2.2⟩,h.2.1,h.2.2.1⟩
theorem HL (a:Int) {n:Nat} (h:0 < n):∃ k:Nat,a % (n:Int)=(k:Int)∧k < n:=by
 have h1:=Int.emod_nonneg a (show (n:Int) ≠ 0 by omega)
 have h2:=Int.emod_lt_of_pos a (show (0:Int) < n by omega)
 obtain ⟨k,hk⟩:=Int.eq_ofNat_of_zero_le h1
 exact ⟨k,hk,by omega⟩
theorem HM (n:Nat):yH (n + 1) (-1)=some n:=by
 unfold yH
 rw [if_neg (by decide),if_pos (by omega)]
 congr 1
 omega
theorem gC.tups {H H':Hp} {q:Addr} {d:FR} (h:gC H q d) (s:cw H H'):gC H' q d:=by
 obtain ⟨o,h⟩:=h
 refine ⟨o,?_⟩
 rcases h with ⟨a,b,p,e,h1,h2⟩ | ⟨a,h1⟩
 ·exact .inl ⟨a,b,p,e,s _ _ h1,s _ _ h2⟩
 ·exact .inr ⟨a,s _ _ h1⟩
theorem pP {H:Hp} {l:Addr} {xs:List V} {o:HO} (h:H l=some (.lst xs)):cw H (upd H l o):=fun b ys e=>by
 rw [aL (bJ e h (by intro z; cases z))]
 exact e
theorem TN {ms:List Int} (h:ms.length=5):∃ a b c d e,ms=[a,b,c,d,e]:=by
 match ms,h with
 | [a,b,c,d,e],_=>exact ⟨a,b,c,d,e,rfl⟩
section
variable {P:Program} {w:World} {K:Frag} {mg:Str→Option Value} {base:Heap}
def Pg:Sp:=fun vs H Q _=>∃ (c:Int) (n:Nat),vs=[.int c,.int (n:Int)]∧0 < n∧n ≤ 1000∧∀ (lr:Addr) (ds:List FR) (H':Hp),Same H H'→H lr=none→gJ H' lr ds→mJ ds→ds.length=n→Q (.ref lr) H'
theorem LK:aJ ["_law_cell", "_law_many", "_law_xs", "_law_rows_here"] ["_law_cell", "_law_many"] (ak eQ):=⟨rfl,rfl,rfl,by decide +kernel,rfl,by decide +kernel,by decide +kernel⟩
def LL:Scope:={ kind:=.function,names:=[(".0",.local),("_law_k",.local),("_law_row",.globalImplicit),("_law_many",.free),("_law_xs",.free)],isGenerator:=false,isCoroutine:=false,more:=[] }
theorem D6:dS (ak eQ) LL ["_law_cell", "_law_many", "_law_xs", "_law_rows_here"] ["_law_k", "_law_many", "_law_xs"] [none,some 1,some 2]:=⟨rfl,by decide +kernel,by decide +kernel,by decide +kernel,by decide +kernel,by decide +kernel⟩
theorem vS {f fS fR fL:Addr} {fd pC Ju OL:cx} (F:dO K "_law_rows" "_law_rows" eQ f fd) (T:Txt K w.params mg) (GS:aR P w K mg base bV 1 fS pC ["_law_cell", "_law_many"] lj) (kS:KI K fS) (bS:Binds K pC ["_law_cell", "_law_many"] []) (mS:mg "_law_stream" = some (.ref fS)) (GR:aR P w K mg base bV 2 fR Ju ["_law_x", "_law_many"] II) (kR:KI K fR) (bR:Binds K Ju ["_law_x", "_law_many"] []) (mR:mg "_law_row" = some (.ref fR)) (GL:aR P w K mg base bV 1 fL OL ["_law_row_here", "_law_x"] C0) (kL:KI K fL) (bL:Binds K OL ["_law_row_here", "_law_x"] []) (mL:mg "_law_last" = some (.ref fL)):aR P w K mg base bV 3 f fd ["_law_cell", "_law_many"] Pg:=by
 refine F.ok LK (fun vs H Q E h=>?_) (fun cdv A outer s H vs Q E hr h=>?_)
 ·obtain ⟨c,n,rfl,_⟩:=h
  rfl
 ·obtain ⟨c,n,rfl,hn0,hn1,k⟩:=h
  refine dG (aw (aG (aU (i:=2) LK.nd rfl (Or.inr rfl) (aQ GS (hr.mono (by decide)) (by rfl) mS kS bS .nil bp (ae (pv 0) (ae (pv 1) ao)))))
   (aw (aG (sx (i:=3) (N':=["_law_k", "_law_many", "_law_xs"]) (fr:=[none,some 1,some 2]) LK.nd rfl rfl D6 rfl (lI rfl T.range (ae (pv 1) ao)) (fun C s0 H0 fp=>(cG (i:=0) D6.nd rfl (Or.inl rfl))) (fun C s0 H0 fp=>iT) (fun C s0 H0 fp=>(aQ GR hr (by rfl) mR kR bR .nil bp (ae (au (r:=Fk K) aK (pv 2) (pv 0) (fun _ _=>rfl)) (ae (pv 1) ao))))))
   (aw (aG (dP (aQ GL (hr.mono (by decide)) (by rfl) mL kL bL .nil bp (ae (au aK (pv 3) (oA j3 ai) (fun _ _=>rfl)) (ae (au aK (pv 2) (oA j3 ai) (fun _ _=>rfl)) ao))) (eN (pv 3) (oA j3 ai) set_list)))
   (aM (aG (aV (pv 3))))))) ?_
  refine ⟨_,rfl,_,rfl,c,n,rfl,by omega,fun lx ms H1 s1 nlx hlx hml _=>?_⟩
  refine ⟨_,rfl,_,rfl,by omega,by omega,fun D nD=>?_⟩
  have nDx:D ≠ lx:=fun z=>by rw [z,hlx] at nD; cases nD
  refine wH (lo:=0) (n:=((n:Nat):Int).toNat) (fun i σ ys G=>∃ (v:Option V) (qs:List Addr) (ds:List FR),σ=[v,some (.int (n:Int)),some (.ref lx)]∧ys=qs.map V.ref∧qs.length=i∧ds.length=i∧(∀ (j:Nat) q d,qs[j]? = some q→ds[j]? = some d→gC G q d)∧(∀ d ∈ ds,GoodR d (n:Int))∧Same H1 G∧G D=some (.lst ys)) ?_ ?_ ?_
  ·exact ⟨none,[],[],rfl,rfl,rfl,rfl,(fun j q d e=>by simp at e),fun d hd=>absurd hd not_mem_nil,aj nD,ah⟩
  ·rintro i σ ys G hi ⟨v,qs,ds,rfl,rfl,hq,hd,hR,hg,s2,hD⟩
   rw [i4] at hi
   have hmi:ms[i]? = some (ms[i]'(by omega)):=aa _
   generalize ms[i]'(by omega)=mi at hmi
   have hat:mV (ms.map V.int) (0 + (i:Int))=some (.int mi):=by rw [Int.zero_add]; exact ck (j:=i) (by rw [ab,hmi]; rfl)
   refine ⟨_,rfl,_,rfl,lx,_,_,.int mi,rfl,rfl,bj.of (s2 _ _ hlx),hat,_,rfl,mi,n,rfl,by omega,by omega,fun p d G' s' TQ hgd=>⟨s' _ _ hD,bQ (by rw [length_map]; omega),_,qs ++ [p],ds ++ [d],rfl,by simp,by simp [hq],by simp [hd],?_,fun e he=>?_,cQ (s2.trans s') nD,ah⟩⟩
   ·have T:=pP (o:=.lst (qs.map V.ref ++ [V.ref p])) (s' _ _ hD)
    refine tR (as:=qs) (bs:=ds) (cs:=[p]) (ds:=[d]) (R:=gC (upd G' D (.lst (qs.map V.ref ++ [V.ref p])))) (by omega) (fun j q d a b=>((hR j q d a b).same s').tups T) (fun j q d a b=>?_)
    cases j with
    | zero=>cases a; cases b; exact TQ.tups T
    | succ j=>simp at a
   ·rcases mem_append.mp he with z | z
    ·exact hg e z
    ·rw [mem_singleton.mp z]; exact hgd
  rintro σ ys G ⟨v,qs,ds,rfl,rfl,hq,hd,hR,hg,s2,hD⟩
  rw [i4] at hq hd
  obtain ⟨n,rfl⟩:∃ n0,n=n0 + 1:=⟨n - 1,by omega⟩
  have LC:qs[n]? = some (qs[n]'(by omega)):=aa _
  generalize (qs[n]'(by omega))=q at LC
  have hdi:ds[n]? = some (ds[n]'(by omega)):=aa _
  generalize (ds[n]'(by omega))=d at hdi
  have hmi:ms[n]? = some (ms[n]'(by omega)):=aa _
  generalize (ms[n]'(by omega))=mi at hmi
  refine ⟨_,rfl,_,rfl,D,_,_,.ref q,rfl,rfl,bj.of hD,tY (n:=n) (by rw [length_map,hq]) (by rw [ab,LC]; rfl),?_⟩
  refine ⟨_,rfl,_,rfl,lx,_,_,.int mi,rfl,rfl,bj.of (s2 _ _ hlx),tY (n:=n) (by rw [length_map,hml]) (by rw [ab,hmi]; rfl),?_⟩
  refine ⟨q,mi,((n + 1:Nat):Int),d,rfl,hR n q d LC hdi,hg d (ad hdi),by omega,fun p d' G' s' TQ hgd hno=>?_⟩
  have hD':=s' _ _ hD
  refine ⟨_,rfl,_,rfl,D,_,_,n,rfl,rfl,hD',?_,?_⟩
  ·rw [length_map,hq]
   exact HM n
  have T:=pP (o:=.lst ((qs.map V.ref).set n (.ref p))) hD'
  have sA:Same H (upd G' D (.lst ((qs.map V.ref).set n (.ref p)))):=s1.trans (cQ (s2.trans s') nD)
  have hDn:upd G' D (.lst ((qs.map V.ref).set n (.ref p))) D=_:=ah
  generalize upd G' D (.lst ((qs.map V.ref).set n (.ref p)))=G9 at T sA hDn ⊢
  refine ⟨_,rfl,k D (ds.set n d') G9 sA (s1.free nD) ⟨qs.set n p,by rw [hDn,map_set],by rw [length_set,length_set,hq,hd],fun i q1 d1 a b=>?_⟩ ⟨by rw [length_set]; omega,by rw [length_set]; omega,fun e he=>?_,d',?_,hno⟩ (by rw [length_set,hd])⟩
  ·rw [List.getElem?_set] at a b
   by_cases c:n=i
   ·rw [if_pos c,if_pos (by omega)] at a
    rw [if_pos c,if_pos (by omega)] at b
    cases a; cases b
    exact TQ.tups T
   ·rw [if_neg c] at a b
    exact ((hR i q1 d1 a b).same s').tups T
  ·rw [length_set,hd]
   rcases List.mem_or_eq_of_mem_set he with z | z
   ·exact hg e z
   ·rw [z]; exact hgd
  ·rw [length_set,hd,show n + 1 - 1=n by omega,List.getElem?_set,if_pos rfl,if_pos (by omega)]
def Ph:Sp:=fun vs H Q _=>∃ (p q:Addr) (rows:List V) (r:Nat) (u:Str) (ts:List Int),vs=[.ref p,.int r]∧H p=some (.lst rows)∧rows[r]? = some (.ref q)∧mq H q u ts∧ts.length ≤ 16 ∧
 ∀ (l:Addr) (ms:List Int) (H':Hp),Same H H'→H l=none→H' l=some (.lst (ms.map V.int))→(∀ j,j ∈ ms↔j ∈ ts∨(¬ u ∈ cY∧j=r + 1))→ms.length ≤ 17→Q (.ref l) H'
theorem D7:aJ ["_law_rows_here", "_law_r", "_law_row_here", "_law_found"] ["_law_rows_here", "_law_r"] (ak fV):=⟨rfl,rfl,rfl,by decide +kernel,rfl,by decide +kernel,by decide +kernel⟩
theorem vT {f:Addr} {fd:cx} (F:dO K "_law_ways" "_law_ways" fV f fd) (T:Txt K w.params mg)  : aR P w K mg base bV 1 f fd ["_law_rows_here", "_law_r"] Ph:=by
 refine F.ok D7 (fun vs H Q E h=>?_) (fun cdv A outer s H vs Q E hr h=>?_)
 ·obtain ⟨p,q,rows,r,u,ts,rfl,_⟩:=h
  rfl
 ·obtain ⟨p,q,rows,r,u,ts,rfl,hp,hrq,hR,Tp,k⟩:=h
  obtain ⟨items,hq0,hP⟩:=id hR
  refine dG (aw (aG (aU (i:=2) D7.nd rfl (Or.inl rfl) (au aK (pv 0) (pv 1) (fun _ _=>rfl))))
   (aw (aG (aU (i:=3) D7.nd rfl (Or.inl rfl) (cr ao)))
   (gB (cD (aF bX (au ay (pv 2) ai (fun _ _=>rfl)) aq (aP _)) (aM (aG (aU (i:=3) D7.nd rfl (Or.inl rfl) (bU cJ (by rfl) T.list ei (ae (au ay (pv 2) ai (fun _ _=>rfl)) ao))))) (bu aN))
   (gB (cD (aF dh (au ay (pv 2) ai (fun _ _=>rfl)) (bg (ae aq (ae aq (ae aq (ae aq (ae aq ao)))))) rfl) (aM (aG (aU (i:=3) D7.nd rfl (Or.inl rfl) (cr (ae (au ay (pv 2) (oA j3 ai) (fun _ _=>rfl)) ao))))) (bu aN))
   (gB (cD (aF ku (au ay (pv 2) ai (fun _ _=>rfl)) (bg (ae aq (ae aq (ae aq (ae aq ao))))) rfl) (aM (aG (bz (gw fb ff fg bZ (pv 3) (ae (aO dv (pv 1) ai) ao))))) (bu aN))
   (aM (aG (aV (aW (g6 rfl) (by rfl) T.sorted jH (ae (bU (jh rfl) (by rfl) T.set w4 (ae (pv 3) ao)) ao)))))))))) ?_
  refine ⟨_,rfl,_,rfl,p,rows,r,.ref q,rfl,rfl,bj.of hp,ck hrq,le_of_ble_eq_true rfl,fun l nl=>?_⟩
  have S1:=aj (o:=.lst []) nl
  have hl1:upd H l (.lst []) l=some (.lst (([]:List Int).map V.int)):=ah
  have hq1:=S1 _ _ hq0
  generalize upd H l (.lst [])=G1 at S1 hl1 hq1 ⊢
  refine ⟨fun σ G=>∃ (l:Addr) (ms:List Int),σ=[some (.ref p),some (.int (r:Int)),some (.ref q),some (.ref l)]∧Same H G∧H l=none∧G l=some (.lst (ms.map V.int))∧(u = "table" → ms=ts)∧(¬ u = "table" → ms=[]),?_,?_⟩
  ·refine ⟨_,rfl,q,_,0,_,rfl,rfl,aS.of hq1,at0 _ _,rfl,_,rfl,?_⟩
   by_cases hu:u = "table"
   ·refine cF (decide_eq_true (by rw [hu])) ?_
    unfold Parts at hP
    rw [if_pos hu] at hP
    obtain ⟨b,q2,rfl,hq2⟩:=hP
    refine ⟨_,rfl,q,_,2,.ref q2,rfl,rfl,aS.of hq1,rfl,q2,_,rfl,.inr (aS.of (S1 _ _ hq2)),fun l3 n3=>?_⟩
    exact ⟨l3,ts,rfl,S1.trans (aj n3),S1.free n3,ah,fun _=>rfl,fun z=>absurd hu z⟩
   ·exact aX (fun z=>hu (V.str.inj (of_decide_eq_true z))) ⟨l,[],rfl,S1,nl,hl1,fun z=>absurd z hu,fun _=>rfl⟩
  clear S1 hl1 hq1 nl
  rintro σ G1 ⟨l,ms,rfl,S1,nl,hl1,m1,m2⟩
  have hq1:=S1 _ _ hq0
  refine ⟨fun σ G=>∃ (l:Addr),σ=[some (.ref p),some (.int (r:Int)),some (.ref q),some (.ref l)]∧Same H G∧H l=none∧G l=some (.lst (ts.map V.int)),?_,?_⟩
  ·refine ⟨_,rfl,q,_,0,_,rfl,rfl,aS.of hq1,at0 _ _,le_of_ble_eq_true rfl,fun t2 n2=>?_⟩
   have v2:=aj (o:=.tup [V.str "jump",V.str "zero",V.str "below",V.str "call",V.str "mark"]) n2
   refine ⟨t2,(["jump", "zero", "below", "call", "mark"]:List Str).map V.str,rfl,.inr (aS.of ah),rfl,rfl,_,rfl,?_⟩
   have hl2:=v2 _ _ hl1
   have hq2:=v2 _ _ hq1
   have S2:=S1.trans v2
   generalize upd G1 t2 (.tup [V.str "jump",V.str "zero",V.str "below",V.str "call",V.str "mark"])=G2 at hl2 hq2 S2 ⊢
   by_cases hu:u ∈ (["jump", "zero", "below", "call", "mark"]:List Str)
   ·refine cF (SM hu) ?_
    obtain ⟨ht,hc⟩:=D5 u hu
    obtain ⟨t,rfl,hat⟩:∃ t,ts=[t]∧mV (V.str u :: items) (-2)=some (.int t):=by
     unfold Parts at hP
     rw [if_neg ht] at hP
     rcases hc with hc | ⟨hc,hz⟩
     ·rw [if_pos hc] at hP
      obtain ⟨t,fv,rfl,rfl⟩:=hP
      exact ⟨t,rfl,rfl⟩
     ·rw [if_neg hc,if_pos hz] at hP
      obtain ⟨b,t,fv,rfl,rfl⟩:=hP
      exact ⟨t,rfl,rfl⟩
    refine ⟨_,rfl,_,rfl,q,_,-2,.int t,rfl,rfl,aS.of hq2,hat,le_of_ble_eq_true rfl,fun l3 n3=>?_⟩
    exact ⟨l3,rfl,S2.trans (aj n3),S2.free n3,ah⟩
   ·refine aX (nin hu) ⟨l,rfl,S2,nl,?_⟩
    by_cases ht:u = "table"
    ·rw [m1 ht] at hl2
     exact hl2
    ·obtain ⟨c1,c2⟩:=LJ hu
     unfold Parts at hP
     rw [if_neg ht,if_neg c1,if_neg c2] at hP
     rw [m2 ht] at hl2
     rw [hP]
     exact hl2
  clear S1 hl1 hq1 m1 m2 nl
  rintro σ G1 ⟨l,rfl,S1,nl,hl1⟩
  have hq1:=S1 _ _ hq0
  refine ⟨fun σ G=>∃ (ms:List Int),σ=[some (.ref p),some (.int (r:Int)),some (.ref q),some (.ref l)]∧Same H G∧G l=some (.lst (ms.map V.int))∧ms.length ≤ 17∧∀ j,j ∈ ms↔j ∈ ts∨(¬ u ∈ cY∧j=r + 1),?_,?_⟩
  ·refine ⟨_,rfl,q,_,0,_,rfl,rfl,aS.of hq1,at0 _ _,le_of_ble_eq_true rfl,fun t1 n1=>?_⟩
   have v1:=aj (o:=.tup [V.str "stop",V.str "back",V.str "halt",V.str "jump"]) n1
   refine ⟨t1,cY.map V.str,rfl,.inr (aS.of ah),rfl,rfl,_,rfl,?_⟩
   have hl2:=v1 _ _ hl1
   have S2:=S1.trans v1
   generalize upd G1 t1 (.tup [V.str "stop",V.str "back",V.str "halt",V.str "jump"])=G2 at hl2 S2 ⊢
   have ein:(if true=true then !inV (.str u) (cY.map V.str) else inV (.str u) (cY.map V.str))=!decide (u ∈ cY):=by rw [if_pos rfl,er]
   rw [ein]
   by_cases hu:u ∈ cY
   ·exact aX (by rw [decide_eq_true hu]; decide) ⟨ts,rfl,S2,hl2,by omega,fun j=>⟨.inl,fun z=>z.elim id fun e=>absurd hu e.1⟩⟩
   ·refine cF (by rw [decide_eq_false hu]; rfl) ?_
    refine ⟨_,rfl,.inl ⟨rfl,_,bj.of hl2⟩,_,rfl,_,_,rfl,rfl,l,_,_,rfl,rfl,hl2,bQ (by rw [length_map]; omega),ts ++ [(r:Int) + 1],rfl,cQ S2 nl,?_,by simp; omega,fun j=>?_⟩
    ·rw [map_append]
     exact ah
    ·rw [mem_append,mem_singleton]
     exact ⟨fun z=>z.imp id fun e=>⟨hu,e⟩,fun z=>z.imp id fun e=>e.2⟩
  clear S1 hl1 hq1
  rintro σ G1 ⟨ms,rfl,S1,hl1,hml,hmm⟩
  refine ⟨_,rfl,l,ms,rfl,bj.of hl1,by omega,fun l' us Oj hu hnd Ol=>⟨l',us,rfl,ah,by omega,fun l2 ms2 Jq hp2 EL=>?_⟩⟩
  have s3:=S1.trans (aj (o:=oU P w l' us) Oj)
  exact k l2 ms2 _ (s3.trans (aj Jq)) (s3.free Jq) ah (fun j=>by rw [hp2.mem_iff,Ol,hmm]) (by rw [hp2.length_eq]; omega)
def Pj:Sp:=fun vs H Q _=>∃ (lr:Addr) (c nb:Int) (g:Bool) (ds:List FR),vs=[.ref lr,.int c,.int nb,.bl g]∧gJ H lr ds∧mJ ds∧vE "number" nb∧∀ (q:Addr) (x:Wi) (H':Hp),Same H H'→vK H' q x→L7 ds x→Q (.ref q) H'
theorem xK:aJ ["_law_rows_here", "_law_cell", "_law_number", "_law_guards", "_law_xs", "_law_r", "_law_ways_here", "_law_place"] ["_law_rows_here", "_law_cell", "_law_number", "_law_guards"] (ak gg):=⟨rfl,rfl,rfl,by decide +kernel,rfl,by decide +kernel,by decide +kernel⟩
theorem vU {f fS fY:Addr} {fd pC N9:cx} (F:dO K "_law_wish" "_law_wish" gg f fd) (T:Txt K w.params mg) (GS:aR P w K mg base bV 1 fS pC ["_law_cell", "_law_many"] lj) (kS:KI K fS) (bS:Binds K pC ["_law_cell", "_law_many"] []) (mS:mg "_law_stream" = some (.ref fS)) (GY:aR P w K mg base bV 1 fY N9 ["_law_rows_here", "_law_r"] Ph) (kY:KI K fY) (bY:Binds K N9 ["_law_rows_here", "_law_r"] []) (mY:mg "_law_ways" = some (.ref fY)):aR P w K mg base bV 2 f fd ["_law_rows_here", "_law_cell", "_law_number", "_law_guards"] Pj:=by
 refine F.ok xK (fun vs H Q E h=>?_) (fun cdv A outer s H vs Q E hr h=>?_)
 ·obtain ⟨lr,c,nb,g,ds,rfl,_⟩:=h
  rfl
 ·obtain ⟨lr,c,nb,g,ds,rfl,hR,hG,hnb,k⟩:=h
  have hu:=cI hr
  obtain ⟨qs,g1,g2,g3⟩:=id hR
  refine dG (aw (aG (aU (i:=4) xK.nd rfl (Or.inl rfl) (aQ GS hr (by rfl) mS kS bS .nil bp (ae (pv 1) (ae ai ao)))))
   (aw (aG (aU (i:=5) xK.nd rfl (Or.inl rfl) (aO bq (au aK (pv 4) ai (fun _ _=>rfl)) (aW bf (by rfl) T.len dc (ae (pv 0) ao)))))
   (aw (aG (aU (i:=6) xK.nd rfl (Or.inl rfl) (aQ GY hr (by rfl) mY kY bY .nil bp (ae (pv 0) (ae (pv 5) ao)))))
   (aw (aG (aU (i:=7) xK.nd rfl (Or.inl rfl) (bg (ae aq (ae (pv 5) ao)))))
   (gB (cD (eM (aF (wQ (lt_of_succ_lt hu)) (pv 6) (cr ao) (aP _)) (d6 (aF bX (aO bq (au aK (pv 4) ai (fun _ _=>rfl)) ai) ai (aP _)))).pt (aM (aG (aU (i:=7) xK.nd rfl (Or.inl rfl) (bg (ae aq (ae (pv 5) ao)))))) (bu aN))
   (gB (cD (eM (aF (wQ (lt_of_succ_lt hu)) (pv 6) (cr ao) (aP _)) (d6 (aF bX (aO bq (au aK (pv 4) ai (fun _ _=>rfl)) ai) ai (aP _)))).pt (aM (aG (aU (i:=7) xK.nd rfl (Or.inl rfl) (bg (ae aq (ae (pv 5) (ae (au aK (pv 6) (aO bq (au aK (pv 4) ai (fun _ _=>rfl)) (aW bf (by rfl) T.len dc (ae (pv 6) ao))) (fun _ _=>rfl)) ao))))))) (bu aN))
   (gB (cD (eM (eB (pv 3)) (d6 (aF bX (aO bq (au aK (pv 4) ai (fun _ _=>rfl)) ai) ai (aP _)))).pt (aM (aG (aV (bg (ae (pv 7) (ae (bg (ae aq (ae (pv 2) (ae (aO bq (au aK (pv 4) ai (fun _ _=>rfl)) ai) ao)))) ao)))))) (bu aN))
   (aM (aG (aV (bg (ae (pv 7) (ae (au aK (cr (ae (bg (ae aq (ae (pv 2) (ae (aO bq (au aK (pv 4) ai (fun _ _=>rfl)) ai) ao)))) (ae (bg (ae aq (ae (pv 2) ao))) ao))) (aO bq (au aK (pv 4) ai (fun _ _=>rfl)) ai) (fun _ _=>rfl)) ao))))))))))))) ?_
  refine ⟨_,rfl,c,5,rfl,by omega,fun lx ms H1 s1 nlx hlx hml _=>?_⟩
  obtain ⟨m0,m1,m2,m3,m4,rfl⟩:=TN hml
  refine ⟨_,rfl,lx,_,0,.int m0,rfl,rfl,bj.of hlx,rfl,_,rfl,lr,_,rfl,.inl (bj.of (s1 _ _ g1)),_,_,rfl,rfl,(by have:=hG.1; rw [length_map]; omega),?_⟩
  obtain ⟨r,hrr,hrl⟩:=HL m0 hG.1
  show gY _ (.int (m0 % (((qs.map V.ref).length:Nat):Int))) _ _ _
  rw [length_map,g2,hrr]
  have hdr:ds[r]? = some ds[r]:=aa hrl
  generalize ds[r]=d at hdr
  obtain ⟨qs',q,y1,y2,y3,y4⟩:=hR.get hdr
  have hgd:=hG.2.2.1 d (ad hdr)
  refine ⟨_,rfl,_,rfl,lr,q,_,r,d.u,d.ts,rfl,s1 _ _ y1,y3,(y4.same s1).at_,hgd.1,fun lw ws H2 s2 Jw hw0 hwm hwl=>?_⟩
  refine ⟨_,rfl,le_of_ble_eq_true rfl,fun tp ntp=>?_⟩
  have v0:=aj (o:=.tup [V.str "before",.int (r:Int)]) ntp
  have S1:=(s1.trans s2).trans v0
  have hp1:upd H2 tp (.tup [V.str "before",.int (r:Int)]) tp=some (.tup ((pF r).map EX)):=ah
  have hw0:=v0 _ _ hw0
  have hx0:=v0 _ _ (s2 _ _ hlx)
  generalize upd H2 tp (.tup [V.str "before",.int (r:Int)])=G0 at S1 hp1 hw0 hx0 ⊢
  have hfl:=pI r
  have hpl:Oy ds (pF r):=⟨r,d,hdr,.inl rfl⟩
  generalize pF r=pl at hp1 hfl hpl
  have S0:=S1
  obtain ⟨G1,TU⟩:∃ G,G=G0:=⟨_,rfl⟩
  have S1:Same G0 G1:=by rw [TU]; exact .refl _
  rw [← TU] at hp1 ⊢
  clear TU
  refine ⟨fun σ G=>∃ (tp:Addr) (pl:List Da),σ=[some (.ref lr),some (.int c),some (.int nb),some (.bl g),some (.ref lx),some (.int (r:Int)),some (.ref lw),some (.ref tp)]∧Same G0 G∧G tp=some (.tup (pl.map EX))∧Flat pl∧Oy ds pl,?_,?_⟩
  ·have hw1:=S1 _ _ hw0
   have hx1:=S1 _ _ hx0
   refine ⟨_,rfl,le_of_ble_eq_true rfl,fun l1 n1=>?_⟩
   have v1:=aj (o:=.lst []) n1
   refine ⟨lw,l1,_,[],rfl,rfl,bj.of (v1 _ _ hw1),bj.of ah,fun i a b _ z=>by simp at z,_,rfl,?_⟩
   have hw2:=v1 _ _ hw1
   have hx2:=v1 _ _ hx1
   have hp2:=v1 _ _ hp1
   have S2:=S1.trans v1
   generalize upd G1 l1 (.lst [])=G2 at hw2 hx2 hp2 S2 ⊢
   by_cases xM:ws=[]
   ·refine aX (by rw [decide_eq_true (by rw [xM]; rfl)]; decide) (aX (by decide) ?_)
    exact ⟨tp,pl,rfl,S2,hp2,hfl,hpl⟩
   refine cF (by rw [decide_eq_false (fun z=>xM (List.map_eq_nil_iff.mp z))]; rfl) ?_
   refine ⟨_,rfl,lx,_,1,.int m1,rfl,rfl,bj.of hx2,rfl,_,_,rfl,rfl,Kl,rfl,_,rfl,dy (fun _=>?_) (fun _=>?_)⟩
   rotate_left
   ·exact ⟨tp,pl,rfl,S2,hp2,hfl,hpl⟩
   ·refine ⟨_,rfl,le_of_ble_eq_true rfl,fun tn TV=>?_⟩
    obtain ⟨s',hs'⟩:=List.exists_mem_of_ne_nil ws xM
    exact ⟨tn,tP r,rfl,S2.trans (aj TV),ah,xr _,r,d,hdr,.inr (.inl ⟨rfl,s',(hwm s').mp hs'⟩)⟩
  clear S1 hp1 hfl hpl
  rintro σ G1 ⟨tp,pl,rfl,S1,hp1,hfl,hpl⟩
  refine ⟨fun σ G=>∃ (tp:Addr) (pl:List Da),σ=[some (.ref lr),some (.int c),some (.int nb),some (.bl g),some (.ref lx),some (.int (r:Int)),some (.ref lw),some (.ref tp)]∧Same G0 G∧G tp=some (.tup (pl.map EX))∧Flat pl∧Oy ds pl,?_,?_⟩
  ·have hw1:=S1 _ _ hw0
   have hx1:=S1 _ _ hx0
   refine ⟨_,rfl,le_of_ble_eq_true rfl,fun l1 n1=>?_⟩
   have v1:=aj (o:=.lst []) n1
   refine ⟨lw,l1,_,[],rfl,rfl,bj.of (v1 _ _ hw1),bj.of ah,fun i a b _ z=>by simp at z,_,rfl,?_⟩
   have hw2:=v1 _ _ hw1
   have hx2:=v1 _ _ hx1
   have hp2:=v1 _ _ hp1
   have S2:=S1.trans v1
   generalize upd G1 l1 (.lst [])=G2 at hw2 hx2 hp2 S2 ⊢
   by_cases xM:ws=[]
   ·refine aX (by rw [decide_eq_true (by rw [xM]; rfl)]; decide) (aX (by decide) ?_)
    exact ⟨tp,pl,rfl,S2,hp2,hfl,hpl⟩
   refine cF (by rw [decide_eq_false (fun z=>xM (List.map_eq_nil_iff.mp z))]; rfl) ?_
   refine ⟨_,rfl,lx,_,1,.int m1,rfl,rfl,bj.of hx2,rfl,_,_,rfl,rfl,Kl,rfl,_,rfl,dy (fun _=>?_) (fun _=>?_)⟩
   rotate_left
   ·exact ⟨tp,pl,rfl,S2,hp2,hfl,hpl⟩
   ·have hwl:0 < ws.length:=List.length_pos_iff.mpr xM
    obtain ⟨j,hj,hjl⟩:=HL m2 hwl
    have TX:ws[j]? = some ws[j]:=aa hjl
    generalize ws[j]=s' at TX
    refine ⟨_,rfl,_,rfl,_,rfl,lx,_,2,.int m2,rfl,rfl,bj.of hx2,rfl,_,rfl,lw,_,rfl,.inl (bj.of hw2),_,_,rfl,rfl,(by rw [length_map]; omega),lw,_,_,.int s',rfl,rfl,bj.of hw2,?_,le_of_ble_eq_true rfl,fun tn TV=>?_⟩
    ·rw [length_map,hj]
     exact ck (j:=j) (by rw [ab,TX]; rfl)
    ·exact ⟨tn,tQ r s',rfl,S2.trans (aj TV),ah,xt _ _,r,d,hdr,.inr (.inr ⟨s',rfl,(hwm s').mp (ad TX)⟩)⟩
  clear S1 hp1 hfl hpl
  rintro σ G1 ⟨tp,pl,rfl,S1,hp1,hfl,hpl⟩
  have hx1:=S1 _ _ hx0
  have h8:vE "box" (m4 % 8):=⟨show 0 ≤ _ by omega,show _ ≤ 7 by omega⟩
  have S0:=S0.trans S1
  refine ⟨fun σ G=>σ=[some (.ref lr),some (.int c),some (.int nb),some (.bl g),some (.ref lx),some (.int (r:Int)),some (.ref lw),some (.ref tp)]∧G=G1,?_,?_⟩
  ·refine ⟨_,rfl,_,rfl,?_⟩
   cases g with
   | true =>
    refine cF rfl ?_
    refine ⟨_,rfl,lx,_,3,.int m3,rfl,rfl,bj.of hx1,rfl,_,_,rfl,rfl,vB,rfl,_,rfl,dy (fun _=>?_) (fun _=>⟨rfl,rfl⟩)⟩
    refine ⟨_,rfl,_,rfl,_,rfl,lx,_,4,.int m4,rfl,rfl,bj.of hx1,rfl,_,_,rfl,rfl,FJ,le_of_ble_eq_true rfl,fun tw Ta=>⟨le_of_ble_eq_true rfl,fun tq Pk=>?_⟩⟩
    have v1:=aj (o:=.tup [V.str "guard",.int nb,.int (m4 % 8)]) Ta
    have v2:=aj (o:=.tup [V.ref tp,.ref tw]) Pk
    exact k tq ⟨pl, "guard",nb,m4 % 8⟩ _ (S0.trans (v1.trans v2)) ⟨tp,tw,ah,(v1.trans v2) _ _ hp1,hfl,v2 _ _ ah⟩ ⟨hpl,.inr (.inr rfl),hnb,h8⟩
   | false=>exact aX (by decide) (aX (by decide) ⟨rfl,rfl⟩)
  rintro σ G ⟨rfl,rfl⟩
  refine ⟨_,rfl,_,rfl,_,rfl,lx,_,4,.int m4,rfl,rfl,bj.of hx1,rfl,_,_,rfl,rfl,FJ,le_of_ble_eq_true rfl,fun t1 n1=>?_⟩
  have v1:=aj (o:=.tup [V.str "look",.int nb,.int (m4 % 8)]) n1
  have h11:upd G t1 (.tup [V.str "look",.int nb,.int (m4 % 8)]) t1=_:=ah
  have hx2:=v1 _ _ hx1
  have hp2:=v1 _ _ hp1
  have S2:=S0.trans v1
  generalize upd G t1 (.tup [V.str "look",.int nb,.int (m4 % 8)])=G2 at h11 hx2 hp2 S2 ⊢
  refine ⟨_,rfl,le_of_ble_eq_true rfl,fun t2 n2=>⟨le_of_ble_eq_true rfl,fun l3 n3=>?_⟩⟩
  have v2:=aj (o:=.tup [V.str "count",.int nb]) n2
  have v3:=aj (o:=.lst [V.ref t1,V.ref t2]) n3
  have h12:=(v2.trans v3) _ _ h11
  have h22:=v3 _ _ (ah (H:=G2) (a:=t2) (o:=.tup [V.str "count",.int nb]))
  have hl2:upd (upd G2 t2 (.tup [V.str "count",.int nb])) l3 (.lst [V.ref t1,V.ref t2]) l3=_:=ah
  have hx3:=(v2.trans v3) _ _ hx2
  have hp3:=(v2.trans v3) _ _ hp2
  have S3:=S2.trans (v2.trans v3)
  generalize upd (upd G2 t2 (.tup [V.str "count",.int nb])) l3 (.lst [V.ref t1,V.ref t2])=G3 at h12 h22 hl2 hx3 hp3 S3 ⊢
  refine ⟨_,rfl,lx,_,3,.int m3,rfl,rfl,bj.of hx3,rfl,_,_,rfl,rfl,wZ,?_⟩
  rcases (show m3 % 2=0∨m3 % 2=1 by omega) with z | z
  ·refine ⟨l3,_,_,.ref t1,rfl,rfl,bj.of hl2,by rw [z]; rfl,le_of_ble_eq_true rfl,fun tq Pk=>?_⟩
   have v4:=aj (o:=.tup [V.ref tp,.ref t1]) Pk
   exact k tq ⟨pl, "look",nb,m4 % 8⟩ _ (S3.trans v4) ⟨tp,t1,ah,v4 _ _ hp3,hfl,v4 _ _ h12⟩ ⟨hpl,.inl rfl,hnb,h8⟩
  ·refine ⟨l3,_,_,.ref t2,rfl,rfl,bj.of hl2,by rw [z]; rfl,le_of_ble_eq_true rfl,fun tq Pk=>?_⟩
   have v4:=aj (o:=.tup [V.ref tp,.ref t2]) Pk
   exact k tq ⟨pl, "count",nb,m4 % 8⟩ _ (S3.trans v4) ⟨tp,t2,ah,v4 _ _ hp3,hfl,v4 _ _ h22⟩ ⟨hpl,.inr (.inl rfl),hnb,h8⟩
end
theorem AO (l:List Int):∀ z ∈ l.map V.int,vw z:=fun z h=>by
 obtain ⟨i,_,rfl⟩:=mem_map.mp h
 exact .inr (.inl ⟨i,rfl⟩)
theorem uf {H:Hp} {p q:Addr} {l:List Int} (h1:H p=some (.lst (l.map V.int))) (h2:H q=some (.lst (l.map V.int))):Iw H (.ref p) (.ref q):=.inr (.inr (.inl ⟨p,q,_,rfl,rfl,h1,h2,AO l⟩))
theorem HN {H:Hp} {p q:Addr} {ps qs:List Addr} {sn:List (Int × Int)} (h1:H p=some (.lst (ps.map V.ref))) (h2:H q=some (.lst (qs.map V.ref))) (z1:gh H ps sn) (z2:gh H qs sn):Iw H (.ref p) (.ref q):=by
 refine .inr (.inr (.inr (.inl ⟨p,q,_,_,rfl,rfl,h1,h2,by rw [length_map,length_map,z1.1,z2.1],fun i a b ha hb=>?_⟩)))
 rw [ab] at ha hb
 obtain ⟨t,ht,rfl⟩:=map_eq_some_iff.mp ha
 obtain ⟨u,hu,rfl⟩:=map_eq_some_iff.mp hb
 have hi:i < sn.length:=by rw [← z1.1]; exact (ac.mp ht).1
 have hc:=aa hi
 refine ⟨t,u,_,rfl,rfl,z1.2 i t _ ht hc,z2.2 i u _ hu hc,fun y hy=>?_⟩
 rcases (show y=V.int sn[i].1∨y=V.int sn[i].2 by simpa using hy) with rfl | rfl
 ·exact .inr (.inl ⟨_,rfl⟩)
 ·exact .inr (.inl ⟨_,rfl⟩)
def zL (t:Tl):Prop:=∀ xs,t.en=some xs→∀ z ∈ xs,vw z
theorem HP {bs:List Int} {t:Tl} {x:Wi} (h:zL t):zL (i5 bs t x):=by
 unfold i5
 split
 ·exact h
 split
 ·exact h
 split
 ·intro xs e z hz
  cases e
  rcases (show z=.str "halt" ∨ z=.int x.n by simpa using hz) with rfl | rfl
  ·exact .inr (.inr ⟨_,rfl⟩)
  ·exact .inr (.inl ⟨_,rfl⟩)
 ·exact h
theorem pQ {bs:List Int}:∀ (ws:List Wi) (t:Tl),zL t→zL (cj bs t ws)
 | [],_,h=>h
 | x :: r,t,h=>pQ r _ (by
  split
  ·exact HP h
  ·exact h)
theorem HR {bs:List Int} {ws:List Wi} {s:Int} {t:Tl} (h:zL t):zL (come bs ws s t):=by
 unfold come
 split
 ·exact pQ ws t h
 ·exact pQ ws t h
theorem Pl {ring:Int→Bool} {r:Rw} {h:Int} {z:Zt} (hn:z.how=none):∀ xs,(aZ ring r h z).how=some xs→∀ y ∈ xs,vw y:=by
 have no:∀ xs,z.how=some xs→∀ y ∈ xs,vw y:=fun xs e=>by rw [hn] at e; cases e
 cases r with
 | stop =>
  intro xs e y hy
  cases e
  rw [mem_singleton.mp hy]
  exact .inr (.inr ⟨_,rfl⟩)
 | halt v =>
  intro xs e y hy
  cases e
  rcases (show y=.str "halt" ∨ y=.int v by simpa using hy) with rfl | rfl
  ·exact .inr (.inr ⟨_,rfl⟩)
  ·exact .inr (.inl ⟨_,rfl⟩)
 | back =>
  rcases eq_nil_or_concat z.pile with e | ⟨r,p,e⟩
  ·rw [iN e]
   intro xs e y hy
   cases e
   rw [mem_singleton.mp hy]
   exact .inr (.inr ⟨_,rfl⟩)
  ·have e:z.pile=r ++ [p]:=by simpa using e
   rw [lz e]
   exact no
 | two u b v =>
  simp only [aZ]
  split
  ·exact no
  split
  ·exact no
  split
  ·exact no
  ·exact no
 | eE u t f =>
  simp only [aZ]
  split
  ·exact no
  split
  ·exact no
  split
  ·exact no
  ·exact no
 | _=>exact no
theorem D8 {ring:Int→Bool} {rws:List Rw} {xs:List Wi}:∀ (n:Nat) (z:Zt) (t:Tl) (ws:List Wi),z.how=none→zL t→zL (lU ring rws xs n z t ws)
 | 0,_,_,_,_,h=>h
 | n + 1,z,t,ws,hz,h=>by
  have h1:=HR (bs:=z.bs) (ws:=ws) (s:=dH z) h
  have h2:zL (nextT ring rws z (come z.bs ws (dH z) t)):=Pl (ring:=ring) (r:=qI rws z) (h:=dH z) hz
  unfold lU
  split
  ·split
   ·rename_i c
    exact D8 n _ _ _ c h2
   ·exact h2
  ·exact h1
theorem LM {H:Hp} {p q:Addr} {d e:List (Key × V)} {ks:List Int} {f:Int→Int} (h1:H p=some (.dK d)) (h2:H q=some (.dK e)) (a:CR d ks f) (b:CR e ks f):Iw H (.ref p) (.ref q):=by
 obtain ⟨⟨ka,rfl,na⟩,va⟩:=a
 obtain ⟨⟨kb,rfl,nb⟩,vb⟩:=b
 have sub:∀ {ka kb:List (Int × Int)},(ka.map (·.1)).Nodup→(∀ j:Int,cy (iD ka) (Sum.inl j:Key)=if j ∈ ks then some (.int (f j)) else none)→(∀ j:Int,cy (iD kb) (Sum.inl j:Key)=if j ∈ ks then some (.int (f j)) else none)→∀ c ∈ ka,c ∈ kb:=by
  intro ka kb na va vb c hc
  have h1:=wX na (show (c.1,c.2) ∈ ka from hc)
  obtain ⟨v,e1,hm⟩:=Kh ((vb c.1).trans ((va c.1).symm.trans h1))
  rw [← V.int.inj e1] at hm
  exact hm
 have s1:=sub na va vb
 have s2:=sub nb vb va
 refine .inr (.inr (.inr (.inr ⟨p,q,ka,kb,rfl,rfl,h1,h2,?_,s1⟩)))
 have l1:=sL (ka.map (·.1)) (kb.map (·.1)) na fun x hx=>by
  obtain ⟨c,hc,rfl⟩:=mem_map.mp hx
  exact mem_map.mpr ⟨c,s1 c hc,rfl⟩
 have l2:=sL (kb.map (·.1)) (ka.map (·.1)) nb fun x hx=>by
  obtain ⟨c,hc,rfl⟩:=mem_map.mp hx
  exact mem_map.mpr ⟨c,s2 c hc,rfl⟩
 rw [length_map,length_map] at l1 l2
 omega
theorem LN {H:Hp} {v w:V} {t:Tl} (hz:zL t) (h1:iM H v t.en) (h2:iM H w t.en):Iw H v w:=by
 cases e:t.en with
 | none =>
  rw [e] at h1 h2
  cases h1
  cases h2
  exact .inl ⟨rfl,.inl rfl⟩
 | some xs =>
  rw [e] at h1 h2
  obtain ⟨p,rfl,hp⟩:=h1
  obtain ⟨q,rfl,hq⟩:=h2
  exact .inr (.inl ⟨p,q,xs,rfl,rfl,hp,hq,hz xs e⟩)
theorem HS {H:Hp} {a b:Addr} {m n:TA} {B C:Nat} {t:Tl} {Q:V→Hp→Prop} (M:TS H a m B t) (N:TS H b n C t) (hz:zL t) (k:Q (.bl false) H):IA (.ref a) (.ref b) H Q:=by
 obtain ⟨w1,o1,e1⟩:=M.st
 obtain ⟨w2,o2,e2⟩:=N.st
 obtain ⟨p1,s1,t1⟩:=M.seen
 obtain ⟨p2,s2,t2⟩:=N.seen
 obtain ⟨d1,c1,r1,_⟩:=M.cnt
 obtain ⟨d2,c2,r2,_⟩:=N.cnt
 refine ⟨a,b,_,_,rfl,rfl,o1,o2,rfl,fun i x y hx hy=>?_,k⟩
 have hx:([.ref m.s,.ref m.c,.ref m.r,w1]:List V)[i]? = some x:=hx
 have hy:([.ref n.s,.ref n.c,.ref n.r,w2]:List V)[i]? = some y:=hy
 match i with
 | 0=>cases hx; cases hy; exact HN s1 s2 t1 t2
 | 1=>cases hx; cases hy; exact LM c1 c2 r1 r2
 | 2=>cases hx; cases hy; exact uf M.rws N.rws
 | 3=>cases hx; cases hy; exact LN hz e1 e2
 | i + 4=>simp at hx
def Pm (K:Frag):List V→Hp→VK→Prop:=fun xs H Q=>∃ (x:V) (n:String) (t:Value) (b:Bool),xs=[x,.ty n]∧kl K H x t∧kitOne K t (.type n)=some b∧Q (.bl b) H
theorem AQ:∀ a ∈ gD,∀ b ∈ gD,∀ c ∈ gD,∀ d ∈ gD,[a,b,c,d].Nodup→PyProof.Rows.sortedS [a,b,c,d]=true→[a,b,c,d]=(["counts", "ending", "rows", "seen"]:List Str):=by decide +kernel
theorem Pn {ts:List Str} (h:ts.Perm gD) (s:PyProof.Rows.sortedS ts=true):ts=(["counts", "ending", "rows", "seen"]:List Str):=by
 have hl:ts.length=4:=h.length_eq
 have hn:=h.nodup_iff.mpr gE
 match ts,hl with
 | [a,b,c,d],_=>exact AQ a (h.mem_iff.mp (by simp)) b (h.mem_iff.mp (by simp)) c (h.mem_iff.mp (by simp)) d (h.mem_iff.mp (by simp)) hn s
theorem HU {d:List (Key × V)} {ks:List Int} {f:Int→Int} (h:CR d ks f):∃ ns:List Int,d.map (·.2)=ns.map V.int:=by
 obtain ⟨⟨kvs,rfl,_⟩,_⟩:=h
 exact ⟨kvs.map (·.2),by unfold iD; rw [map_map,map_map]; rfl⟩
theorem HV {ds:List FR} {xs:List Wi} (h:∀ x ∈ xs,L7 ds x):∀ x ∈ xs,pM (lV xs) x:=fun x hx=>by
 obtain ⟨_,hu,_,hb⟩:=h x hx
 have b1:(0:Int) ≤ x.b:=hb.1
 have b2:x.b ≤ 7:=hb.2
 exact ⟨hu,⟨b1,by omega⟩,fun e=>mem_map.mpr ⟨x,mem_filter.mpr ⟨hx,decide_eq_true e⟩,rfl⟩⟩
theorem LO {xs:List Wi}:zL (AB xs):=fun _ e=>by cases e
theorem TY (xs:List V):(ib xs (some 4) (some 13)).length ≤ 9:=by
 unfold ib
 rw [length_take]
 have e1:HT.eG xs.length xs.length (some 13)=min 13 xs.length:=HT.nV _ _ 13
 have e2:HT.eG xs.length 0 (some 4)=min 4 xs.length:=HT.nV _ _ 4
 rw [e1,e2]
 omega
theorem vV (qs:List Addr):∀ z ∈ qs.map V.ref,∃ c,z=.ref c:=fun z hz=>by
 obtain ⟨c,_,rfl⟩:=mem_map.mp hz
 exact ⟨c,rfl⟩
section
variable {P:Program} {w:World} {K:Frag} {mg:Str→Option Value} {base:Heap}
def Pp:Sp:=fun vs H Q _=>∃ (a b:Addr) (m n:TA) (t:Tl),vs=[.ref a,.ref b]∧TS H a m 1999 t∧TS H b n 1999 t∧zL t∧∀ H',Same H H'→Q (.bl true) H'
theorem Pq:aJ ["_law_found", "_law_due_here", "_law_numbers"] ["_law_found", "_law_due_here"] (ak eU):=⟨rfl,rfl,rfl,by decide +kernel,rfl,by decide +kernel,by decide +kernel⟩
def LP:Scope:={ kind:=.function,names:=[(".0",.local),("_law_number",.local),("isinstance",.globalImplicit),("int",.globalImplicit),("bool",.globalImplicit)],isGenerator:=false,isCoroutine:=false,more:=[] }
theorem D9:dS (ak eU) LP ["_law_found", "_law_due_here", "_law_numbers"] ["_law_number"] [none]:=⟨rfl,by decide +kernel,by decide +kernel,by decide +kernel,by decide +kernel,by decide +kernel⟩
theorem HW {f:Addr} {fd:cx} (F:dO K "_law_same" "_law_same" eU f fd) (T:Txt K w.params mg)  : aR P w K mg base bV 1 f fd ["_law_found", "_law_due_here"] Pp:=by
 refine F.ok Pq (fun vs H Q E h=>?_) (fun cdv A outer s H vs Q E hr h=>?_)
 ·obtain ⟨a,b,m,n,t,rfl,_⟩:=h
  rfl
 ·obtain ⟨a,b,m,n,t,rfl,M,N,hz,k⟩:=h
  have hu:=cI hr
  have Jd:=lt_of_le_of_lt (add_le_add_left (by decide:6 ≤ 64) _) hr.units
  obtain ⟨w0,ho,hw⟩:=M.st
  obtain ⟨d,hc,hcr,hd⟩:=M.cnt
  obtain ⟨ns,hns⟩:=HU hcr
  have lm:=M.lens
  have hnl:ns.length ≤ 100:=by
   have e:=congrArg List.length hns
   rw [length_map,length_map] at e
   omega
  have mb:=M.big
  refine dG (aw (cD (iE (gG (eB (aW cK (by rfl) T.CW hC (ae (pv 0) (ae (fe (v:=.ty "dict") (by rfl) T.dict ly rfl) ao))))) (iE (aF (FE Jd) (pv 0) (pv 1) (aP _)) (gX (aF (wQ (lt_of_succ_lt hu)) (aW (ni rfl) (by rfl) T.sorted jH (ae (pv 0) ao)) (cr (ae aq (ae aq (ae aq (ae aq ao))))) (aP _))))).pt (aM (aG (aV lY))) (bu aN))
   (aw (aG (aU (i:=2) Pq.nd rfl (Or.inl rfl) (aO sr (CQ rfl (by rfl) T.list ei (aY hu (pv 0) aq (fun _ _=>rfl))) (aY hu (pv 0) aq (fun _ _=>rfl)))))
   (aM (aG (aV (ie (Cy (lt_of_succ_lt hu)) (gj (N':=["_law_number"]) (fr:=[none]) D9 rfl (dB (pv 2)) (fun C s0 H0 fp=>(cG (i:=0) D9.nd rfl (Or.inl rfl))) (fun C s0 H0 fp=>(jo (iE (gG (eB (aW (r:=Pm K) cK (by rfl) T.CW hC (ae (pv 0) (ae (fe (v:=.ty "int") (by rfl) T.int w6 rfl) ao))))) (gX (eB (aW (r:=Pm K) cK (by rfl) T.CW hC (ae (pv 0) (ae (fe (v:=.ty "bool") (by rfl) T.bool y0 rfl) ao)))))).pt)) (fun C s0 H0 fp=>(pv 0))) (cr ao) (aP _))))))) ?_
  refine ⟨_,rfl,_,_,_,_,rfl,.dK ho,oZ (by decide),_,rfl,aX (by decide) ?_⟩
  refine ⟨_,rfl,_,rfl,HS M N hz ⟨_,rfl,aX (by decide) ?_⟩⟩
  refine ⟨_,rfl,a,_,gD,rfl,ho,rfl,by decide,fun l1 ts n1 hp hs=>?_⟩
  have ets:=Pn hp hs
  subst ets
  have v1:=aj (o:=.lst ((["counts", "ending", "rows", "seen"]:List Str).map V.str)) n1
  have h11:upd H l1 (.lst ((["counts", "ending", "rows", "seen"]:List Str).map V.str)) l1=_:=ah
  generalize upd H l1 (.lst ((["counts", "ending", "rows", "seen"]:List Str).map V.str))=G1 at v1 h11 ⊢
  refine ⟨le_of_ble_eq_true rfl,fun l2 n2=>?_⟩
  have v2:=aj (o:=.lst [V.str "counts",V.str "ending",V.str "rows",V.str "seen"]) n2
  have h22:upd G1 l2 (.lst [V.str "counts",V.str "ending",V.str "rows",V.str "seen"]) l2=some (.lst ((["counts", "ending", "rows", "seen"]:List Str).map V.str)):=ah
  have h12:=v2 _ _ h11
  have Pr:=v1.trans v2
  generalize upd G1 l2 (.lst [V.str "counts",V.str "ending",V.str "rows",V.str "seen"])=G2 at h22 h12 Pr ⊢
  refine ⟨l1,l2,_,_,rfl,rfl,bj.of h12,bj.of h22,fun i x y hx hy=>?_,_,rfl,aX (by rw [decide_eq_true rfl]; decide) ?_⟩
  ·rw [hx] at hy
   cases hy
   rw [ab] at hx
   obtain ⟨c,_,rfl⟩:=map_eq_some_iff.mp hx
   exact .inr (.inr ⟨c,c,rfl,rfl⟩)
  have ho2:=Pr _ _ ho
  have hc2:=Pr _ _ hc
  have hr2:=Pr _ _ M.rws
  refine ⟨_,rfl,a,_,rfl,df ho2 pL,m.c,d,rfl,hc2,fun l3 n3=>?_⟩
  rw [hns]
  have v3:=aj (o:=.lst (ns.map V.int)) n3
  have h33:upd G2 l3 (.lst (ns.map V.int)) l3=some (.lst (ns.map V.int)):=ah
  have v13:=Pr.trans v3
  generalize upd G2 l3 (.lst (ns.map V.int))=G3 at v3 h33 v13 ⊢
  refine ⟨_,rfl,a,_,rfl,df (v3 _ _ ho2) j8,l3,m.r,_,_,rfl,rfl,h33,v3 _ _ hr2,?_,fun l4 n4=>?_⟩
  ·rw [length_map,length_map]
   exact Nat.le_of_lt (bQ (by omega))
  rw [← map_append]
  have v4:=aj (o:=.lst ((ns ++ t.rows).map V.int)) n4
  have T3:upd G3 l4 (.lst ((ns ++ t.rows).map V.int)) l4=some (.lst ((ns ++ t.rows).map V.int)):=ah
  have v14:=v13.trans v4
  generalize upd G3 l4 (.lst ((ns ++ t.rows).map V.int))=G4 at T3 v14 ⊢
  refine ⟨_,rfl,l4,rfl,⟨_,bj.of T3⟩,fun D nD=>fF (K:=K) (a:=l4) (xs:=(ns ++ t.rows).map V.int) (fun i σ ys G=>∃ v:Option V,σ=[v]∧ys=[]∧Same G4 G∧G D=some (.lst [])) ?_ ?_ ?_ ?_⟩
  ·exact ⟨none,rfl,rfl,aj nD,ah⟩
  ·rintro i σ ys G _ ⟨v,rfl,_,s5,_⟩
   exact bj.of (s5 _ _ T3)
  ·rintro i x σ ys G hx ⟨v,rfl,rfl,s5,hD⟩
   rw [ab] at hx
   obtain ⟨c,_,rfl⟩:=map_eq_some_iff.mp hx
   exact ⟨_,rfl,_,_,_,_,rfl,.int _,rF,_,rfl,aX (by decide) ⟨_,rfl,_,_,_,_,rfl,.int _,o8,_,rfl,aX (by decide) ⟨_,rfl,rfl,s5,hD⟩⟩⟩
  rintro σ ys G ⟨v,rfl,rfl,s5,hD⟩
  refine ⟨le_of_ble_eq_true rfl,fun l6 n6=>?_⟩
  have v6:=aj (o:=.lst []) n6
  refine ⟨D,l6,[],[],rfl,rfl,bj.of (v6 _ _ hD),bj.of ah,fun i x y e=>by simp at e,?_⟩
  exact k _ ((v14.trans s5).trans v6)
end
section
variable {P:Program} {w:World} {K:Frag} {mg:Str→Option Value} {base:Heap}
def zM:Sp:=fun vs H Q _=>∃ (a:Addr) (ns:List Int),vs=[.ref a]∧bj K H a (ns.map V.int)∧ns.length ≤ 63∧∀ H',Q (.bl true) H'
theorem ip:aJ ["_law_script", "_law_first", "_law_rows_here", "_law_most", "_law_wishes", "_law_cell", "_law_number", "_law_beginning_here", "_law_due_here", "_law_boxes", "_law_cells", "_law_bells", "_law_handed", "_law_found"] ["_law_script"] (ak lf):=⟨rfl,rfl,rfl,by decide +kernel,rfl,by decide +kernel,by decide +kernel⟩
theorem LQ {f fC fR fW fB fD fP fS:Addr} {fd IW Ju rS Jg Jb Jm pC:cx} (F:dO K "law" "law" lf f fd) (T:Txt K w.params mg) (GC:aR P w K mg base bV 1 fC IW ["_law_script", "_law_k"] (CY (K:=K))) (kC:KI K fC) (bC:Binds K IW ["_law_script", "_law_k"] []) (mC:mg "_law_cell_at" = some (.ref fC)) (GR:aR P w K mg base bV 3 fR Ju ["_law_cell", "_law_many"] Pg) (kR:KI K fR) (bR:Binds K Ju ["_law_cell", "_law_many"] []) (mR:mg "_law_rows" = some (.ref fR)) (GW:aR P w K mg base bV 2 fW rS ["_law_rows_here", "_law_cell", "_law_number", "_law_guards"] Pj) (kW:KI K fW) (bW:Binds K rS ["_law_rows_here", "_law_cell", "_law_number", "_law_guards"] []) (mW:mg "_law_wish" = some (.ref fW)) (GB:aR P w K mg base bV 2 fB Jg ["_law_cell"] Jc) (kB:KI K fB) (bB:Binds K Jg ["_law_cell"] []) (mB:mg "_law_beginning" = some (.ref fB)) (GD:aR P w K mg base bV 3 fD Jb ["_law_rows_here", "_law_wishes", "_law_beginning_here", "_law_most"] Jl) (kD:KI K fD) (bD:Binds K Jb ["_law_rows_here", "_law_wishes", "_law_beginning_here", "_law_most"] []) (mD:mg "_law_due" = some (.ref fD)) (GP:aR P w K mg base bV 9 fP Jm ["rows", "wishes", "boxes", "cells", "bells", "most"] OW) (kP:KI K fP) (bP:Binds K Jm ["rows", "wishes", "boxes", "cells", "bells", "most"] []) (mP:mg "plain_seen" = some (.ref fP)) (GS:aR P w K mg base bV 1 fS pC ["_law_found", "_law_due_here"] Pp) (kS:KI K fS) (bS:Binds K pC ["_law_found", "_law_due_here"] []) (mS:mg "_law_same" = some (.ref fS)):aR P w K mg base bV 10 f fd ["_law_script"] (zM (K:=K)):=by
 refine F.ok ip (fun vs H Q E h=>?_) (fun cdv A outer s H vs Q E hr h=>?_)
 ·obtain ⟨a,ns,rfl,_⟩:=h
  rfl
 ·obtain ⟨a,ns,rfl,hS,hn,k⟩:=h
  have hu:=cI hr
  refine dG (aw (aG (aU (i:=1) ip.nd rfl (Or.inl rfl) (aQ GC (hr.mono (by decide)) (by rfl) mC kC bC .nil bp (ae (pv 0) (ae ai ao)))))
   (aw (aG (aU (i:=2) ip.nd rfl (Or.inl rfl) (aQ GR (hr.mono (by decide)) (by rfl) mR kR bR .nil bp (ae (aQ GC (hr.mono (by decide)) (by rfl) mC kC bC .nil bp (ae (pv 0) (ae ai ao))) (ae (aO dv ai (aO bq (pv 1) ai)) ao)))))
   (aw (aG (aU (i:=3) ip.nd rfl (Or.inl rfl) (aO bq (aO cv (pv 1) ai) ai)))
   (aw (aG (aU (i:=4) ip.nd rfl (Or.inl rfl) (cr ao)))
   (aw (aG (iu PassesOwn.never rfl (dB (fi iR (pv 0) (eL ai) (eL ai))) (cG (i:=5) ip.nd rfl (Or.inl rfl)) (aB (aU (i:=6) ip.nd rfl (Or.inl rfl) (au aK (cr (ae (aO bq (pv 5) ai) (ae (aO bq (aO cv (pv 5) ai) ai) ao))) (aO bq (aO cv (pv 5) ai) ai) (fun _ _=>rfl)))
   (aA (bz (gw fb ff fg bZ (pv 4) (ae (aQ GW (hr.mono (by decide)) (by rfl) mW kW bW .nil bp (ae (pv 2) (ae (pv 5) (ae (pv 6) (ae lY ao))))) ao)))))))
   (aw (aG (aU (i:=7) ip.nd rfl (Or.inl rfl) (aQ GB (hr.mono (by decide)) (by rfl) mB kB bB .nil bp (ae (aQ GC (hr.mono (by decide)) (by rfl) mC kC bC .nil bp (ae (pv 0) (ae ai ao))) ao))))
   (aw (aG (aU (i:=8) ip.nd rfl (Or.inl rfl) (aQ GD (hr.mono (by decide)) (by rfl) mD kD bD .nil bp (ae (pv 2) (ae (pv 4) (ae (pv 7) (ae (pv 3) ao)))))))
   (aw (aG (dP (pv 7) (v7 (n:=3) rfl (gq (cG (i:=9) ip.nd rfl (Or.inl rfl)) (gq (cG (i:=10) ip.nd rfl (Or.inl rfl)) (gq (cG (i:=11) ip.nd rfl (Or.inl rfl)) sg))))))
   (aw (aG (aU (i:=12) ip.nd rfl (Or.inl rfl) (bg (ae (bU cJ (by rfl) T.list ei (ae (pv 2) ao)) (ae (bU cJ (by rfl) T.list ei (ae (pv 4) ao)) (ae (bU cJ (by rfl) T.list ei (ae (pv 9) ao)) (ae (bU iU (by rfl) T.dict ly (ae (pv 10) ao)) (ae (bU cJ (by rfl) T.list ei (ae (pv 11) ao)) ao))))))))
   (aw (aG (aU (i:=13) ip.nd rfl (Or.inl rfl) (aQ GP hr (by rfl) mP kP bP .nil bp (ae (au ay (pv 12) ai (fun _ _=>rfl)) (ae (au ay (pv 12) ai (fun _ _=>rfl)) (ae (au ay (pv 12) ai (fun _ _=>rfl)) (ae (au ay (pv 12) ai (fun _ _=>rfl)) (ae (au ay (pv 12) ai (fun _ _=>rfl)) (ae (pv 3) ao)))))))))
   (aw (cD (iE (aF (FI (lt_of_le_of_lt (add_le_add_left (by decide:2 ≤ 64) _) hr.units)) (pv 12) (bg (ae (pv 2) (ae (pv 4) (ae (pv 9) (ae (pv 10) (ae (pv 11) ao)))))) (aP _)) (gX (gG (eB (aQ GS (hr.mono (by decide)) (by rfl) mS kS bS .nil bp (ae (pv 13) (ae (pv 8) ao))))))).pt (aM (aG (aV lY))) (bu aN))
   (aw (aG (bz (gw fb ff fg bZ (aY hu (pv 13) aq (fun _ _=>rfl)) (ae (bg (ae ai (ae ai ao))) ao))))
   (aw (aG (bz (oF fk PySem.F.slot_dict_clear PySem.F.type_dict_clear rE (aY hu (pv 13) aq (fun _ _=>rfl)))))
   (aw (aG (bz (oF fb PySem.F.slot_list_clear PySem.F.type_list_clear B9 (aY hu (pv 13) aq (fun _ _=>rfl)))))
   (aw (aG (bz (oF fk PySem.F.slot_dict_clear PySem.F.type_dict_clear rE (pv 13))))
   (aM (aG (aV (aQ GS (hr.mono (by decide)) (by rfl) mS kS bS .nil bp (ae (aQ GP hr (by rfl) mP kP bP .nil bp (ae (pv 2) (ae (pv 4) (ae (pv 9) (ae (pv 10) (ae (pv 11) (ae (pv 3) ao))))))) (ae (pv 8) ao))))))))))))))))))))) ?_
  refine ⟨_,rfl,a,ns,1,rfl,hS,by decide,fun c1=>?_⟩
  refine ⟨_,rfl,a,ns,0,rfl,hS,by decide,fun c0=>?_⟩
  obtain ⟨n0,hn0,hnl⟩:=HL c1 (n:=12) (by decide)
  refine ⟨_,rfl,_,_,rfl,rfl,Nv,_,_,rfl,rfl,c0,n0 + 2,?_,by omega,by omega,fun lr ds H1 s1 TL hR hG hdn=>?_⟩
  ·have e:(2:Int) + c1 % 12=((n0 + 2:Nat):Int):=by omega
   show ([V.int c0,V.int (2 + c1 % 12)]:List V)=_
   rw [e]
  obtain ⟨mo,hmo,hmol⟩:=HL (c1 / 12) (n:=61) (by decide)
  refine ⟨_,rfl,_,_,rfl,rfl,⟨by show (0:Int) < 12; decide,by show (12:Int) < _; decide⟩,_,_,rfl,rfl,Nz,?_⟩
  show gY _ (.int (c1 / 12 % ((61:Nat):Int))) _ _ _
  rw [hmo]
  refine ⟨le_of_ble_eq_true rfl,fun lw Jw=>?_⟩
  have s2:=aj (o:=.lst []) Jw
  have Rp:upd H1 lw (.lst []) lw=some (.lst ([]:List V)):=ah
  generalize upd H1 lw (.lst [])=H2 at s2 Rp ⊢
  refine ⟨_,rfl,4,rfl,13,rfl,a,_,rfl,(s1.trans s2).seq hS,fun lc Jv=>?_⟩
  obtain ⟨cs,ec,_⟩:=tO ns (some 4) (some 13)
  have h9:=TY (ns.map V.int)
  rw [ec,length_map] at h9
  rw [show ib (ns.map V.int) (some 4) (some 13)=cs.map V.int from ec]
  have s3:=aj (o:=.lst (cs.map V.int)) Jv
  have zB:upd H2 lc (.lst (cs.map V.int)) lc=some (.lst (cs.map V.int)):=ah
  have LR:=s3 _ _ Rp
  have ncw:lc ≠ lw:=fun z=>by rw [z,Rp] at Jv; cases Jv
  have Rq:=hR.same (s2.trans s3)
  have HE:=s1.trans (s2.trans s3)
  have nrw:¬ lr=lw:=fun z=>by
   obtain ⟨_,e,_⟩:=hR
   rw [z,Jw] at e
   cases e
  generalize upd H2 lc (.lst (cs.map V.int))=H3 at zB LR Rq HE ⊢
  clear s2 s3 Rp Jv
  have nw0:H lw=none:=s1.free Jw
  refine ⟨lc,rfl,⟨_,bj.of zB⟩,iF (K:=K) (a:=lc) (xs:=cs.map V.int) (fun i σ G=>∃ (v1 v2:Option V) (xs:List Wi),σ=[some (.ref a),some (.int c1),some (.ref lr),some (.int (mo:Int)),some (.ref lw),v1,v2,none,none,none,none,none,none,none]∧Keeps (fun c=>c=lw) H3 G∧jk G lw xs∧xs.length=i∧∀ x ∈ xs,L7 ds x) ?_ ?_ ?_ ?_⟩
  ·exact ⟨none,none,[],rfl,Keeps.refl,⟨[],LR,rfl,fun i q x e=>by simp at e⟩,rfl,fun x hx=>absurd hx not_mem_nil⟩
  ·rintro i σ G _ ⟨v1,v2,xs,rfl,kp,_⟩
   exact bj.of (kp _ _ zB (.inl ncw))
  ·rintro i y σ G hy ⟨v1,v2,xs,rfl,kp,⟨qs,hw,hql,BD⟩,L6,Pt⟩
   rw [ab] at hy
   obtain ⟨cl,hcl,rfl⟩:=map_eq_some_iff.mp hy
   have hi9:i < 9:=by have:=(ac.mp hcl).1; omega
   refine ⟨_,rfl,_,_,rfl,rfl,Nt,_,rfl,_,_,rfl,rfl,⟨by show (0:Int) < 6; decide,by show (6:Int) < _; decide⟩,_,_,rfl,rfl,j7,le_of_ble_eq_true rfl,fun l2 n2=>?_⟩
   have s3:=aj (o:=.lst [V.int (cl % 6),V.int (cl / 6 % 1000001)]) n2
   have h22:upd G l2 (.lst [V.int (cl % 6),V.int (cl / 6 % 1000001)]) l2=_:=ah
   generalize upd G l2 (.lst [V.int (cl % 6),V.int (cl / 6 % 1000001)])=G3 at s3 h22 ⊢
   obtain ⟨nb,hnb,hat⟩:∃ nb,vE "number" nb∧mV [V.int (cl % 6),V.int (cl / 6 % 1000001)] (cl / 3 % 2)=some (.int nb):=by
    rcases (show cl / 3 % 2=0∨cl / 3 % 2=1 by omega) with z | z
    ·exact ⟨cl % 6,⟨show (0:Int) ≤ cl % 6 by omega,show cl % 6 ≤ 1000000 by omega⟩,by rw [z]; rfl⟩
    ·exact ⟨cl / 6 % 1000001,⟨show (0:Int) ≤ cl / 6 % 1000001 by omega,show cl / 6 % 1000001 ≤ 1000000 by omega⟩,by rw [z]; rfl⟩
   refine ⟨_,rfl,_,_,rfl,rfl,⟨by show (0:Int) < 3; decide,by show (3:Int) < _; decide⟩,_,_,rfl,rfl,wZ,l2,_,_,.int nb,rfl,rfl,bj.of h22,hat,?_⟩
   have T4:=kp.trans (.same s3)
   have NT:=s3 _ _ hw
   have Mb:gJ G3 lr ds:=by
    obtain ⟨qr,e1,e2,e3⟩:=Rq
    exact ⟨qr,T4 _ _ e1 (.inl nrw),e2,fun i q d h1 h2=>(e3 i q d h1 h2).tups T4.tups⟩
   refine ⟨_,rfl,.inl ⟨rfl,_,bj.of NT⟩,_,rfl,_,rfl,_,rfl,lr,cl,nb,false,ds,rfl,Mb,hG,hnb,fun q x G4 s4 hwi TF=>?_⟩
   have NU:=s4 _ _ NT
   refine ⟨lw,_,_,rfl,rfl,NU,cM (by rw [length_map]; omega),?_⟩
   have T:=pP (o:=.lst (qs.map V.ref ++ [V.ref q])) NU
   refine ⟨_,_,xs ++ [x],rfl,(T4.trans (.same s4)).upd NU (by intro _ z; cases z) rfl,⟨qs ++ [q],by rw [ah,map_append]; rfl,by rw [length_append,length_append,hql]; rfl,?_⟩,by rw [length_append,L6]; rfl,fun y hy=>?_⟩
   ·refine tR (as:=qs) (bs:=xs) (cs:=[q]) (ds:=[x]) (R:=vK (upd G4 lw (.lst (qs.map V.ref ++ [V.ref q])))) (by omega) (fun j q d a b=>((BD j q d a b).tups (.of (s3.trans s4))).tups T) (fun j q d a b=>?_)
    cases j with
    | zero=>cases a; cases b; exact hwi.tups T
    | succ j=>simp at a
   ·rcases mem_append.mp hy with z | z
    ·exact Pt y z
    ·rw [mem_singleton.mp z]; exact TF
  rintro σ G ⟨v1,v2,xs,rfl,kp,hW,L6,Pt⟩
  rw [length_map] at L6
  have SH:Same H G:=fun c o e=>kp c o (HE _ _ e) (.inl fun z=>by rw [z,nw0] at e; cases e)
  have Mb:gJ G lr ds:=by
   obtain ⟨qr,e1,e2,e3⟩:=Rq
   exact ⟨qr,kp _ _ e1 (.inl nrw),e2,fun i q d h1 h2=>(e3 i q d h1 h2).tups kp.tups⟩
  clear kp Rq hR HE zB LR
  have hgw:=HV Pt
  refine ⟨_,rfl,a,ns,2,rfl,SH.seq hS,by decide,fun c2=>⟨c2,rfl,fun tb pb pc pl bs bells d cf G5 s5 ht hpb b8 hpc hrep hdl hpl hb=>?_⟩⟩
  have Pa:=vR Mb hG.2.2.1
  have L0:=rW Mb hG
  have DP:1 ≤ (ds.map hZ).length:=by rw [length_map]; exact hG.1
  refine ⟨_,rfl,_,rfl,_,rfl,_,rfl,lr,lw,tb,pb,pc,pl,mo,ds.map hZ,xs,bs,bells,d,cf,rfl,by omega,Pa.same s5,DP,L0,hW.same s5,by omega,hgw,ht,hpb,b8,hpc,hrep,hdl,hpl,fun a1 mt1 G6 s6 _ M6=>?_⟩
  generalize hF:lU (bh bells) (ds.map hZ) xs mo (z0 bs cf) (AB xs) (xs.filter (i3 0))=Fi at M6
  have hz:zL Fi:=by rw [← hF]; exact D8 _ _ _ _ rfl LO
  refine ⟨_,rfl,tb,_,rfl,aS.of (s6 _ _ ht),rfl,_,_,rfl,_,_,rfl,_,_,rfl,rfl,?_⟩
  have T5:=s5.trans s6
  obtain ⟨qr,f1,f2,f3⟩:=Mb.same T5
  obtain ⟨qw,g1,g2,g3⟩:=hW.same T5
  have hpb:=s6 _ _ hpb
  have hpc:=s6 _ _ hpc
  have hpl:=s6 _ _ hpl
  clear Mb hW Pa ht SH T5 s6 s5
  refine ⟨_,rfl,lr,_,rfl,.inl (bj.of f1),fun k1 m1=>?_⟩
  have u1:=aj (o:=.lst (qr.map V.ref)) m1
  refine ⟨_,rfl,lw,_,rfl,.inl (bj.of (u1 _ _ g1)),fun k2 m2=>?_⟩
  have u2:=aj (o:=.lst (qw.map V.ref)) m2
  have T6:=u1.trans u2
  refine ⟨_,rfl,pb,_,rfl,.inl (bj.of (T6 _ _ hpb)),fun k3 m3=>?_⟩
  have u3:=aj (o:=.lst (bs.map V.int)) m3
  have T7:=T6.trans u3
  refine ⟨_,rfl,pc,_,rfl,T7 _ _ hpc,fun k4 m4=>?_⟩
  have u4:=aj (o:=.dK d) m4
  have T8:=T7.trans u4
  refine ⟨_,rfl,pl,_,rfl,.inl (bj.of (T8 _ _ hpl)),fun k5 m5=>⟨le_of_ble_eq_true rfl,fun kt mt=>?_⟩⟩
  have u5:=aj (o:=.lst (bells.map V.int)) m5
  have u6:=aj (o:=.tup [V.ref k1,V.ref k2,V.ref k3,V.ref k4,V.ref k5]) mt
  have e1:=(u2.trans (u3.trans (u4.trans (u5.trans u6)))) k1 _ ah
  have e2:=(u3.trans (u4.trans (u5.trans u6))) k2 _ ah
  have e3:=(u4.trans (u5.trans u6)) k3 _ ah
  have e4:=(u5.trans u6) k4 _ ah
  have e5:=u6 k5 _ ah
  have e6:upd (upd (upd (upd (upd (upd G6 k1 (.lst (qr.map V.ref))) k2 (.lst (qw.map V.ref))) k3 (.lst (bs.map V.int))) k4 (.dK d)) k5 (.lst (bells.map V.int))) kt (.tup [V.ref k1,V.ref k2,V.ref k3,V.ref k4,V.ref k5]) kt=_:=ah
  have u:=T8.trans (u5.trans u6)
  generalize upd (upd (upd (upd (upd (upd G6 k1 (.lst (qr.map V.ref))) k2 (.lst (qw.map V.ref))) k3 (.lst (bs.map V.int))) k4 (.dK d)) k5 (.lst (bells.map V.int))) kt (.tup [V.ref k1,V.ref k2,V.ref k3,V.ref k4,V.ref k5])=G7 at e1 e2 e3 e4 e5 e6 u ⊢
  clear u1 u2 u3 u4 u5 u6 T6 T7 T8 m1 m2 m3 m4 m5 mt
  have M7:=M6.same u
  have f1:=u _ _ f1
  have g1:=u _ _ g1
  have hpb:=u _ _ hpb
  have hpc:=u _ _ hpc
  have hpl:=u _ _ hpl
  have f3:=fun i q x h1 h2=>(f3 i q x h1 h2).same u
  have g3:=fun i q x h1 h2=>(g3 i q x h1 h2).tups (.of u)
  clear M6
  refine ⟨_,rfl,kt,_,0,_,rfl,rfl,aS.of e6,at0 _ _,_,rfl,kt,_,1,_,rfl,rfl,aS.of e6,at1 _ _ _,_,rfl,kt,_,2,_,rfl,rfl,aS.of e6,at2 _ _ _ _,_,rfl,kt,_,3,.ref k4,rfl,rfl,aS.of e6,rfl,_,rfl,kt,_,4,.ref k5,rfl,rfl,aS.of e6,rfl,?_⟩
  refine ⟨_,rfl,k1,k2,k3,k4,k5,mo,ds,xs,bs,bells,d,cf,rfl,by omega,⟨qr,e1,f2,f3⟩,hG,⟨qw,e2,g2,g3⟩,by omega,Pt,hgw,e3,b8,e4,hrep,hdl,e5,hb,fun a2 Ea G8 s8 n8 M8=>?_⟩
  rw [hF] at M8
  have Md:=s8 _ _ f1
  refine ⟨_,rfl,_,rfl,_,rfl,_,rfl,_,rfl,_,rfl,le_of_ble_eq_true rfl,fun t9 n9=>?_⟩
  have v9:=aj (o:=.tup [V.ref lr,V.ref lw,V.ref pb,V.ref pc,V.ref pl]) n9
  have w9:=s8.trans v9
  refine ⟨kt,t9,_,_,rfl,rfl,w9 _ _ e6,ah,rfl,fun i x y hx hy=>?_,_,rfl,aX (by decide) ?_⟩
  ·match i with
   | 0=>cases hx; cases hy; exact .inl ⟨_,_,_,rfl,rfl,w9 _ _ e1,w9 _ _ f1,vV _⟩
   | 1=>cases hx; cases hy; exact .inl ⟨_,_,_,rfl,rfl,w9 _ _ e2,w9 _ _ g1,vV _⟩
   | 2=>cases hx; cases hy; exact .inr (uf (w9 _ _ e3) (w9 _ _ hpb))
   | 3 =>
    cases hx; cases hy
    obtain ⟨kv,rfl,_⟩:=hrep.isI
    exact .inr (.inr (.inr (.inr (.inr ⟨_,_,kv,kv,rfl,rfl,w9 _ _ e4,w9 _ _ hpc,rfl,fun _ h=>h⟩))))
   | 4=>cases hx; cases hy; exact .inr (uf (w9 _ _ e5) (w9 _ _ hpl))
   | i + 5=>simp at hx
  refine ⟨_,rfl,_,rfl,a2,a1,Ea,mt1,Fi,rfl,M8.same v9,M7.same w9,hz,fun GU M9=>⟨_,rfl,aX (by decide) ?_⟩⟩
  have wA:=w9.trans M9
  have MA:=(M8.same v9).same M9
  have nA:∀ c,cS Ea a2 c→G7 c=none:=n8
  have MA:=MA.more (show 1999 ≤ 2000 by decide) (by decide)
  obtain ⟨wt,hot,uP⟩:=MA.st
  obtain ⟨ps,p1,p2⟩:=MA.seen
  have lm:=((M8.same v9).same M9).lens
  refine ⟨_,rfl,a2,_,rfl,df hot pK,.inl ⟨rfl,_,bj.of p1⟩,le_of_ble_eq_true rfl,fun t3 n3=>⟨Ea.s,_,_,rfl,rfl,dX n3 p1,bQ (by rw [length_map,p2.1]; omega),?_⟩⟩
  have sN:=aj (o:=.tup [V.int 0,V.int 0]) n3
  rw [show ps.map V.ref ++ [V.ref t3]=(ps ++ [t3]).map V.ref by simp]
  have MB:=(MA.same sN).pA ((p2.tups (.of sN)).snoc (p:=(0,0)) ah) (by simp; omega)
  have kB:Keeps (cS Ea a2) GU (upd (upd GU t3 (.tup [V.int 0,V.int 0])) Ea.s (.lst ((ps ++ [t3]).map V.ref))):=(Keeps.same sN).upd (sN _ _ p1) (by intro _ z; cases z) (.inr (.inl rfl))
  generalize upd (upd GU t3 (.tup [V.int 0,V.int 0])) Ea.s (.lst ((ps ++ [t3]).map V.ref))=GB at MB kB ⊢
  obtain ⟨_,hoB,_⟩:=MB.st
  obtain ⟨dd,cB,_⟩:=MB.cnt
  refine ⟨_,rfl,a2,_,rfl,df hoB pL,.inr (.inr (.inl ⟨rfl,.inl ⟨_,cB⟩⟩)),Ea.c,_,rfl,rfl,cB,?_⟩
  have MC:=MB.Ht (d:=[]) (ks:=[]) (f:=fun _=>0) CR.nil (zero_le _)
  have kC:=kB.upd (o':=.dK []) cB (by intro _ z; cases z) (.inr (.inr (.inl rfl)))
  generalize upd GB Ea.c (.dK [])=GC_ at MC kC ⊢
  obtain ⟨_,hoC,_⟩:=MC.st
  refine ⟨_,rfl,a2,_,rfl,df hoC j8,.inl ⟨rfl,_,bj.of MC.rws⟩,Ea.r,_,rfl,rfl,MC.rws,?_⟩
  have MD:=MC.DJ (rs:=[]) (zero_le _)
  have kD:=kC.upd (o':=.lst (([]:List Int).map V.int)) MC.rws (by intro _ z; cases z) (.inr (.inr (.inr rfl)))
  rw [show (.lst []:HO)=.lst (([]:List Int).map V.int) from rfl]
  generalize upd GC_ Ea.r (.lst (([]:List Int).map V.int))=GD_ at MD kD ⊢
  obtain ⟨_,hoD,_⟩:=MD.st
  refine ⟨_,rfl,.inr (.inr (.inl ⟨rfl,.inl ⟨_,hoD⟩⟩)),a2,_,rfl,rfl,hoD,?_⟩
  have kE:=kD.upd (o':=.dK []) hoD (by intro _ z; cases z) (.inl rfl)
  generalize upd GD_ a2 (.dK [])=GE at kE ⊢
  have S:=((Keeps.same (R:=cS Ea a2) wA).trans kE).xC nA
  refine ⟨_,rfl,_,rfl,_,rfl,_,rfl,_,rfl,_,rfl,lr,lw,pb,pc,pl,mo,ds,xs,bs,bells,d,cf,rfl,by omega,⟨qr,S _ _ f1,f2,fun i q x h1 h2=>(f3 i q x h1 h2).same S⟩,hG,⟨qw,S _ _ g1,g2,fun i q x h1 h2=>(g3 i q x h1 h2).tups (.of S)⟩,by omega,Pt,hgw,S _ _ hpb,b8,S _ _ hpc,hrep,hdl,S _ _ hpl,hb,fun a3 mt3 GY sY _ MY=>?_⟩
  rw [hF] at MY
  exact ⟨_,rfl,a3,a1,mt3,mt1,Fi,rfl,MY,M7.same (S.trans sY),hz,fun _ _=>k _⟩
end
set_option maxHeartbeats 8000000
theorem all_mk {l:OpenLaw} {w:World} {K:Frag} {h:Heap} {mg:Str→Option Value} {fa f0 f1 f2 f3 f4 f5 f6 f7 f8 f9 Pu f11 Pw Px Py Pz PB PD Md PF PH T9 Ua Ub Uc Ud Ue Ug Uh Ui Uj Uk f32 Ul Um Uo Uq Ur Us Ut Uu Uv Uw Ux Uy Uz UA UB UC UD UE UG UH UI UJ UK UL UM UN UO UP UQ UR:Addr} (X:K.In h) (G:h.Ns ci mg) (hfa:mg "law" = some (.ref fa))
  {od0 an0 od1 an1 od2 an2 od3 an3 od4 an4 od5 an5 od6 an6 od7 an7 od8 an8 od9 an9 US UT UU UW UX UY UZ U0 U1 U2 U3 U4 U5 U6 U7 U8 U9 Va Vb Vc Vd Ve Vf Vg Vh Vi Vj Vk Vl Vm Vn Vo Vp Vq Vr Vs Vt Vu Vv Vw Vx Vy Vz VA VB VC VD VE VF VG VH VI VJ VL VM VN VO VP VQ VR VT VU VW VX VY VZ V0 V1 V2 V3 V4 V5 V6 V7 V8 V9 Wa Wb Wc Wd Wf Wg Wh Wj Wk Wl Wm Wn Wo Wp Wq Wr Ws Wt Wu Wv Ww Wx Wy Wz WB WC WD WG WH PJ:Option Addr} {sl0 sl1 sl2 sl3 sl4 sl5 sl6 sl7 sl8 sl9 WK WL WM WN WO WQ WR WT WU WV WW WX WY WZ W0 W1 W2 W3 W4 W5 W6 W7 W8 W9 Xa Xb Xc Xd Xe Xf Xg Xh Xi Xj Xk Xl Xm Xn Xo Xp Xq Xr Xt Xu Xv Xw Xx Xy Xz XA XB XC XD:Array (Option Value)} {oc0 kV0 dc0 pm0 cd0 ct0 oc1 kV1 dc1 pm1 cd1 ct1 oc2 kV2 dc2 pm2 cd2 ct2 oc3 kV3 dc3 pm3 cd3 ct3 oc4 kV4 dc4 pm4 cd4 ct4 oc5 kV5 dc5 pm5 cd5 ct5 oc6 kV6 dc6 pm6 cd6 ct6 oc7 kV7 dc7 pm7 cd7 ct7 oc8 kV8 dc8 pm8 cd8 ct8 oc9 kV9 dc9 pm9 cd9 ct9 XF XG XH XI PK XJ XM XO XQ XR PL XS XT XU XW XY PN XZ X0 X2 X3 X4 PR X5 X6 X7 X8 X9 PU Ya Yb Yc Yd Ye PV Yf Yg Yh Yi Yj PX Yk Yl Ym Yn Yo PY Yp Yq Yr Ys Yt PZ Yu Yv Yw Yx Yy P0 Yz YB YC YD YF P1 YG YH YJ YK YL P2 YM YN YQ YR YS P4 YT YV YW YX YZ P5 Y0 Y1 Y2 Y3 Y4 P6 Y5 Y6 Y7 Y8 Y9 P7 Za Zb Zc Zd Ze P8 Zf Zg Zh Zi Zj P9 Zk Zm Zn Zo Zq Qa Zr Zu Zv Zw Zx Qb Zy Zz ZA ZC ZD Qc ZE ZF ZG ZI ZJ Qd ZK ZL ZM ZO ZP Qe ZQ ZR ZS ZU ZV Qf ZW ZX ZY Z0 Z1 Qg Z2 Z3 Z4 Z5 Z6 Qh Z7 Z8 Z9 aac aad Qi aae aaf aag aah aai Qj aaj aak aal aam aan Qk aao aap aaq aar aas Ql aat aau aav aaw aax Qm aay aaz aaA aaB aaC Qn aaD aaE aaF aaG aaH Qo aaI aaJ aaK aaL aaM Qp aaN aaO aaP aaQ aaR Qq aaS aaT aaU aaV aaW Qr aaX aaY aaZ aa0 aa1 Qs aa2 aa3 aa4 aa5 aa6 Qt aa7 aa8 aa9 abb abd Qu abe abf abg abh abi Qv abj abk abl abm abn Qw abo abp abq abr abt Qx abu abv abw abx aby Qy abz abA abB abC abD Qz abE abF abG abH abI QA abJ abK abL abM abN QB abO abP abQ abR abS QC abT abU abV abW abX QD abY abZ ab0 ab1 ab2 QE ab3 ab4 ab5 ab6 ab7 QF ab8 ab9 aca acb acd QG ace acf acg ach aci QH acj acm QI QJ QK LU QL:Value}
  (a0:nsIn K ci "end" = some (some (.ref f0))) (l0:K.lookup f0=some ⟨oc0,od0,.func (fnOf "end" "end" (aI s_end) (aH s_end) (ak s_end) .none kV0 dc0 pm0 an0 cd0 ct0),sl0⟩) (c0:codeIn K cd0 "end" = true) (k0:keepIn K (.ref f0)=true)
  (a1:nsIn K ci "do_stop" = some (some (.ref f1))) (l1:K.lookup f1=some ⟨oc1,od1,.func (fnOf "do_stop" "do_stop" (aI jt) (aH jt) (ak jt) .none kV1 dc1 pm1 an1 cd1 ct1),sl1⟩) (c1:codeIn K cd1 "do_stop" = true) (k1:keepIn K (.ref f1)=true)
  (a2:nsIn K ci "do_halt" = some (some (.ref f2))) (l2:K.lookup f2=some ⟨oc2,od2,.func (fnOf "do_halt" "do_halt" (aI ju) (aH ju) (ak ju) .none kV2 dc2 pm2 an2 cd2 ct2),sl2⟩) (c2:codeIn K cd2 "do_halt" = true) (k2:keepIn K (.ref f2)=true)
  (a3:nsIn K ci "do_back" = some (some (.ref f3))) (l3:K.lookup f3=some ⟨oc3,od3,.func (fnOf "do_back" "do_back" (aI jv) (aH jv) (ak jv) .none kV3 dc3 pm3 an3 cd3 ct3),sl3⟩) (c3:codeIn K cd3 "do_back" = true) (k3:keepIn K (.ref f3)=true)
  (a4:nsIn K ci "do_set" = some (some (.ref f4))) (l4:K.lookup f4=some ⟨oc4,od4,.func (fnOf "do_set" "do_set" (aI kJ) (aH kJ) (ak kJ) .none kV4 dc4 pm4 an4 cd4 ct4),sl4⟩) (c4:codeIn K cd4 "do_set" = true) (k4:keepIn K (.ref f4)=true)
  (a5:nsIn K ci "do_more" = some (some (.ref f5))) (l5:K.lookup f5=some ⟨oc5,od5,.func (fnOf "do_more" "do_more" (aI jw) (aH jw) (ak jw) .none kV5 dc5 pm5 an5 cd5 ct5),sl5⟩) (c5:codeIn K cd5 "do_more" = true) (k5:keepIn K (.ref f5)=true)
  (a6:nsIn K ci "do_copy" = some (some (.ref f6))) (l6:K.lookup f6=some ⟨oc6,od6,.func (fnOf "do_copy" "do_copy" (aI jx) (aH jx) (ak jx) .none kV6 dc6 pm6 an6 cd6 ct6),sl6⟩) (c6:codeIn K cd6 "do_copy" = true) (k6:keepIn K (.ref f6)=true)
  (a7:nsIn K ci "do_add" = some (some (.ref f7))) (l7:K.lookup f7=some ⟨oc7,od7,.func (fnOf "do_add" "do_add" (aI kQ) (aH kQ) (ak kQ) .none kV7 dc7 pm7 an7 cd7 ct7),sl7⟩) (c7:codeIn K cd7 "do_add" = true) (k7:keepIn K (.ref f7)=true)
  (a8:nsIn K ci "do_less" = some (some (.ref f8))) (l8:K.lookup f8=some ⟨oc8,od8,.func (fnOf "do_less" "do_less" (aI jy) (aH jy) (ak jy) .none kV8 dc8 pm8 an8 cd8 ct8),sl8⟩) (c8:codeIn K cd8 "do_less" = true) (k8:keepIn K (.ref f8)=true)
  (a9:nsIn K ci "do_load" = some (some (.ref f9))) (l9:K.lookup f9=some ⟨oc9,od9,.func (fnOf "do_load" "do_load" (aI jz) (aH jz) (ak jz) .none kV9 dc9 pm9 an9 cd9 ct9),sl9⟩) (c9:codeIn K cd9 "do_load" = true) (k9:keepIn K (.ref f9)=true)
  (a10:nsIn K ci "do_keep" = some (some (.ref Pu))) (l10:K.lookup Pu=some ⟨XF,US,.func (fnOf "do_keep" "do_keep" (aI jA) (aH jA) (ak jA) .none XG XH XI UT PK XJ),WK⟩) (c10:codeIn K PK "do_keep" = true) (k10:keepIn K (.ref Pu)=true)
  (a11:nsIn K ci "do_tell" = some (some (.ref f11))) (l11:K.lookup f11=some ⟨XM,UU,.func (fnOf "do_tell" "do_tell" (aI jB) (aH jB) (ak jB) .none XO XQ XR UW PL XS),WL⟩) (c11:codeIn K PL "do_tell" = true) (k11:keepIn K (.ref f11)=true)
  (a12:nsIn K ci "do_see" = some (some (.ref Pw))) (l12:K.lookup Pw=some ⟨XT,UX,.func (fnOf "do_see" "do_see" (aI kX) (aH kX) (ak kX) .none XU XW XY UY PN XZ),WM⟩) (c12:codeIn K PN "do_see" = true) (k12:keepIn K (.ref Pw)=true)
  (a13:nsIn K ci "do_put" = some (some (.ref Px))) (l13:K.lookup Px=some ⟨X0,UZ,.func (fnOf "do_put" "do_put" (aI kZ) (aH kZ) (ak kZ) .none X2 X3 X4 U0 PR X5),WN⟩) (c13:codeIn K PR "do_put" = true) (k13:keepIn K (.ref Px)=true)
  (a14:nsIn K ci "do_take" = some (some (.ref Py))) (l14:K.lookup Py=some ⟨X6,U1,.func (fnOf "do_take" "do_take" (aI jC) (aH jC) (ak jC) .none X7 X8 X9 U2 PU Ya),WO⟩) (c14:codeIn K PU "do_take" = true) (k14:keepIn K (.ref Py)=true)
  (a15:nsIn K ci "do_jump" = some (some (.ref Pz))) (l15:K.lookup Pz=some ⟨Yb,U3,.func (fnOf "do_jump" "do_jump" (aI jD) (aH jD) (ak jD) .none Yc Yd Ye U4 PV Yf),WQ⟩) (c15:codeIn K PV "do_jump" = true) (k15:keepIn K (.ref Pz)=true)
  (a16:nsIn K ci "do_zero" = some (some (.ref PB))) (l16:K.lookup PB=some ⟨Yg,U5,.func (fnOf "do_zero" "do_zero" (aI jE) (aH jE) (ak jE) .none Yh Yi Yj U6 PX Yk),WR⟩) (c16:codeIn K PX "do_zero" = true) (k16:keepIn K (.ref PB)=true)
  (a17:nsIn K ci "do_below" = some (some (.ref PD))) (l17:K.lookup PD=some ⟨Yl,U7,.func (fnOf "do_below" "do_below" (aI iV) (aH iV) (ak iV) .none Ym Yn Yo U8 PY Yp),WT⟩) (c17:codeIn K PY "do_below" = true) (k17:keepIn K (.ref PD)=true)
  (a18:nsIn K ci "do_call" = some (some (.ref Md))) (l18:K.lookup Md=some ⟨Yq,U9,.func (fnOf "do_call" "do_call" (aI jF) (aH jF) (ak jF) .none Yr Ys Yt Va PZ Yu),WU⟩) (c18:codeIn K PZ "do_call" = true) (k18:keepIn K (.ref Md)=true)
  (a19:nsIn K ci "do_mark" = some (some (.ref PF))) (l19:K.lookup PF=some ⟨Yv,Vb,.func (fnOf "do_mark" "do_mark" (aI jG) (aH jG) (ak jG) .none Yw Yx Yy Vc P0 Yz),WV⟩) (c19:codeIn K P0 "do_mark" = true) (k19:keepIn K (.ref PF)=true)
  (a20:nsIn K ci "do_table" = some (some (.ref PH))) (l20:K.lookup PH=some ⟨YB,Vd,.func (fnOf "do_table" "do_table" (aI iW) (aH iW) (ak iW) .none YC YD YF Ve P1 YG),WW⟩) (c20:codeIn K P1 "do_table" = true) (k20:keepIn K (.ref PH)=true)
  (a21:nsIn K ci "goes_on" = some (some (.ref T9))) (l21:K.lookup T9=some ⟨YH,Vf,.func (fnOf "goes_on" "goes_on" (aI gN) (aH gN) (ak gN) .none YJ YK YL Vg P2 YM),WX⟩) (c21:codeIn K P2 "goes_on" = true) (k21:keepIn K (.ref T9)=true)
  (a22:nsIn K ci "targets_of" = some (some (.ref Ua))) (l22:K.lookup Ua=some ⟨YN,Vh,.func (fnOf "targets_of" "targets_of" (aI d8) (aH d8) (ak d8) .none YQ YR YS Vi P4 YT),WY⟩) (c22:codeIn K P4 "targets_of" = true) (k22:keepIn K (.ref Ua)=true)
  (a23:nsIn K ci "ways_of" = some (some (.ref Ub))) (l23:K.lookup Ub=some ⟨YV,Vj,.func (fnOf "ways_of" "ways_of" (aI gP) (aH gP) (ak gP) .none YW YX YZ Vk P5 Y0),WZ⟩) (c23:codeIn K P5 "ways_of" = true) (k23:keepIn K (.ref Ub)=true)
  (a24:nsIn K ci "is_whole" = some (some (.ref Uc))) (l24:K.lookup Uc=some ⟨Y1,Vl,.func (fnOf "is_whole" "is_whole" (aI fJ) (aH fJ) (ak fJ) .none Y2 Y3 Y4 Vm P6 Y5),W0⟩) (c24:codeIn K P6 "is_whole" = true) (k24:keepIn K (.ref Uc)=true)
  (a25:nsIn K ci "is_number_of" = some (some (.ref Ud))) (l25:K.lookup Ud=some ⟨Y6,Vn,.func (fnOf "is_number_of" "is_number_of" (aI dC) (aH dC) (ak dC) .none Y7 Y8 Y9 Vo P7 Za),W1⟩) (c25:codeIn K P7 "is_number_of" = true) (k25:keepIn K (.ref Ud)=true)
  (a26:nsIn K ci "is_targets" = some (some (.ref Ue))) (l26:K.lookup Ue=some ⟨Zb,Vp,.func (fnOf "is_targets" "is_targets" (aI dM) (aH dM) (ak dM) .none Zc Zd Ze Vq P8 Zf),W2⟩) (c26:codeIn K P8 "is_targets" = true) (k26:keepIn K (.ref Ue)=true)
  (a27:nsIn K ci "is_part" = some (some (.ref Ug))) (l27:K.lookup Ug=some ⟨Zg,Vr,.func (fnOf "is_part" "is_part" (aI gQ) (aH gQ) (ak gQ) .none Zh Zi Zj Vs P9 Zk),W3⟩) (c27:codeIn K P9 "is_part" = true) (k27:keepIn K (.ref Ug)=true)
  (a28:nsIn K ci "are_parts" = some (some (.ref Uh))) (l28:K.lookup Uh=some ⟨Zm,Vt,.func (fnOf "are_parts" "are_parts" (aI dU) (aH dU) (ak dU) .none Zn Zo Zq Vu Qa Zr),W4⟩) (c28:codeIn K Qa "are_parts" = true) (k28:keepIn K (.ref Uh)=true)
  (a29:nsIn K ci "word_of" = some (some (.ref Ui))) (l29:K.lookup Ui=some ⟨Zu,Vv,.func (fnOf "word_of" "word_of" (aI gR) (aH gR) (ak gR) .none Zv Zw Zx Vw Qb Zy),W5⟩) (c29:codeIn K Qb "word_of" = true) (k29:keepIn K (.ref Ui)=true)
  (a30:nsIn K ci "is_row" = some (some (.ref Uj))) (l30:K.lookup Uj=some ⟨Zz,Vx,.func (fnOf "is_row" "is_row" (aI iJ) (aH iJ) (ak iJ) .none ZA ZC ZD Vy Qc ZE),W6⟩) (c30:codeIn K Qc "is_row" = true) (k30:keepIn K (.ref Uj)=true)
  (a31:nsIn K ci "stays_within" = some (some (.ref Uk))) (l31:K.lookup Uk=some ⟨ZF,Vz,.func (fnOf "stays_within" "stays_within" (aI cV) (aH cV) (ak cV) .none ZG ZI ZJ VA Qd ZK),W7⟩) (c31:codeIn K Qd "stays_within" = true) (k31:keepIn K (.ref Uk)=true)
  (a32:nsIn K ci "check_rows" = some (some (.ref f32))) (l32:K.lookup f32=some ⟨ZL,VB,.func (fnOf "check_rows" "check_rows" (aI d9) (aH d9) (ak d9) .none ZM ZO ZP VC Qe ZQ),W8⟩) (c32:codeIn K Qe "check_rows" = true) (k32:keepIn K (.ref f32)=true)
  (a33:nsIn K ci "is_place" = some (some (.ref Ul))) (l33:K.lookup Ul=some ⟨ZR,VD,.func (fnOf "is_place" "is_place" (aI fQ) (aH fQ) (ak fQ) .none ZS ZU ZV VE Qf ZW),W9⟩) (c33:codeIn K Qf "is_place" = true) (k33:keepIn K (.ref Ul)=true)
  (a34:nsIn K ci "is_what" = some (some (.ref Um))) (l34:K.lookup Um=some ⟨ZX,VF,.func (fnOf "is_what" "is_what" (aI gS) (aH gS) (ak gS) .none ZY Z0 Z1 VG Qg Z2),Xa⟩) (c34:codeIn K Qg "is_what" = true) (k34:keepIn K (.ref Um)=true)
  (a35:nsIn K ci "is_wish" = some (some (.ref Uo))) (l35:K.lookup Uo=some ⟨Z3,VH,.func (fnOf "is_wish" "is_wish" (aI gT) (aH gT) (ak gT) .none Z4 Z5 Z6 VI Qh Z7),Xb⟩) (c35:codeIn K Qh "is_wish" = true) (k35:keepIn K (.ref Uo)=true)
  (a36:nsIn K ci "check_wishes" = some (some (.ref Uq))) (l36:K.lookup Uq=some ⟨Z8,VJ,.func (fnOf "check_wishes" "check_wishes" (aI dD) (aH dD) (ak dD) .none Z9 aac aad VL Qi aae),Xc⟩) (c36:codeIn K Qi "check_wishes" = true) (k36:keepIn K (.ref Uq)=true)
  (a37:nsIn K ci "whats_before" = some (some (.ref Ur))) (l37:K.lookup Ur=some ⟨aaf,VM,.func (fnOf "whats_before" "whats_before" (aI cW) (aH cW) (ak cW) .none aag aah aai VN Qj aaj),Xd⟩) (c37:codeIn K Qj "whats_before" = true) (k37:keepIn K (.ref Ur)=true)
  (a38:nsIn K ci "whats_on_way" = some (some (.ref Us))) (l38:K.lookup Us=some ⟨aak,VO,.func (fnOf "whats_on_way" "whats_on_way" (aI cX) (aH cX) (ak cX) .none aal aam aan VP Qk aao),Xe⟩) (c38:codeIn K Qk "whats_on_way" = true) (k38:keepIn K (.ref Us)=true)
  (a39:nsIn K ci "numbers_of_whats" = some (some (.ref Ut))) (l39:K.lookup Ut=some ⟨aap,VQ,.func (fnOf "numbers_of_whats" "numbers_of_whats" (aI cu) (aH cu) (ak cu) .none aaq aar aas VR Ql aat),Xf⟩) (c39:codeIn K Ql "numbers_of_whats" = true) (k39:keepIn K (.ref Ut)=true)
  (a40:nsIn K ci "nothing_counted" = some (some (.ref Uu))) (l40:K.lookup Uu=some ⟨aau,VT,.func (fnOf "nothing_counted" "nothing_counted" (aI cO) (aH cO) (ak cO) .none aav aaw aax VU Qm aay),Xg⟩) (c40:codeIn K Qm "nothing_counted" = true) (k40:keepIn K (.ref Uu)=true)
  (a41:nsIn K ci "see_what" = some (some (.ref Uv))) (l41:K.lookup Uv=some ⟨aaz,VW,.func (fnOf "see_what" "see_what" (aI fU) (aH fU) (ak fU) .none aaA aaB aaC VX Qn aaD),Xh⟩) (c41:codeIn K Qn "see_what" = true) (k41:keepIn K (.ref Uv)=true)
  (a42:nsIn K ci "see_whats" = some (some (.ref Uw))) (l42:K.lookup Uw=some ⟨aaE,VY,.func (fnOf "see_whats" "see_whats" (aI eV) (aH eV) (ak eV) .none aaF aaG aaH VZ Qo aaI),Xi⟩) (c42:codeIn K Qo "see_whats" = true) (k42:keepIn K (.ref Uw)=true)
  (a43:nsIn K ci "whats_between" = some (some (.ref Ux))) (l43:K.lookup Ux=some ⟨aaJ,V0,.func (fnOf "whats_between" "whats_between" (aI di) (aH di) (ak di) .none aaK aaL aaM V1 Qp aaN),Xj⟩) (c43:codeIn K Qp "whats_between" = true) (k43:keepIn K (.ref Ux)=true)
  (a44:nsIn K ci "do_row" = some (some (.ref Uy))) (l44:K.lookup Uy=some ⟨aaO,V2,.func (fnOf "do_row" "do_row" (aI iK) (aH iK) (ak iK) .none aaP aaQ aaR V3 Qq aaS),Xk⟩) (c44:codeIn K Qq "do_row" = true) (k44:keepIn K (.ref Uy)=true)
  (a45:nsIn K ci "plain_seen" = some (some (.ref Uz))) (l45:K.lookup Uz=some ⟨aaT,V4,.func (fnOf "plain_seen" "plain_seen" (aI ef) (aH ef) (ak ef) .none aaU aaV aaW V5 Qr aaX),Xl⟩) (c45:codeIn K Qr "plain_seen" = true) (k45:keepIn K (.ref Uz)=true)
  (a46:nsIn K ci "_law_cell_at" = some (some (.ref UA))) (l46:K.lookup UA=some ⟨aaY,V6,.func (fnOf "_law_cell_at" "_law_cell_at" (aI eI) (aH eI) (ak eI) .none aaZ aa0 aa1 V7 Qs aa2),Xm⟩) (c46:codeIn K Qs "_law_cell_at" = true) (k46:keepIn K (.ref UA)=true)
  (a47:nsIn K ci "_law_stream" = some (some (.ref UB))) (l47:K.lookup UB=some ⟨aa3,V8,.func (fnOf "_law_stream" "_law_stream" (aI fq) (aH fq) (ak fq) .none aa4 aa5 aa6 V9 Qt aa7),Xn⟩) (c47:codeIn K Qt "_law_stream" = true) (k47:keepIn K (.ref UB)=true)
  (a48:nsIn K ci "_law_row" = some (some (.ref UC))) (l48:K.lookup UC=some ⟨aa8,Wa,.func (fnOf "_law_row" "_law_row" (aI iL) (aH iL) (ak iL) .none aa9 abb abd Wb Qu abe),Xo⟩) (c48:codeIn K Qu "_law_row" = true) (k48:keepIn K (.ref UC)=true)
  (a49:nsIn K ci "_law_targets" = some (some (.ref UD))) (l49:K.lookup UD=some ⟨abf,Wc,.func (fnOf "_law_targets" "_law_targets" (aI eJ) (aH eJ) (ak eJ) .none abg abh abi Wd Qv abj),Xp⟩) (c49:codeIn K Qv "_law_targets" = true) (k49:keepIn K (.ref UD)=true)
  (a50:nsIn K ci "_law_last" = some (some (.ref UE))) (l50:K.lookup UE=some ⟨abk,Wf,.func (fnOf "_law_last" "_law_last" (aI g9) (aH g9) (ak g9) .none abl abm abn Wg Qw abo),Xq⟩) (c50:codeIn K Qw "_law_last" = true) (k50:keepIn K (.ref UE)=true)
  (a51:nsIn K ci "_law_rows" = some (some (.ref UG))) (l51:K.lookup UG=some ⟨abp,Wh,.func (fnOf "_law_rows" "_law_rows" (aI eQ) (aH eQ) (ak eQ) .none abq abr abt Wj Qx abu),Xr⟩) (c51:codeIn K Qx "_law_rows" = true) (k51:keepIn K (.ref UG)=true)
  (a52:nsIn K ci "_law_ways" = some (some (.ref UH))) (l52:K.lookup UH=some ⟨abv,Wk,.func (fnOf "_law_ways" "_law_ways" (aI fV) (aH fV) (ak fV) .none abw abx aby Wl Qy abz),Xt⟩) (c52:codeIn K Qy "_law_ways" = true) (k52:keepIn K (.ref UH)=true)
  (a53:nsIn K ci "_law_beginning" = some (some (.ref UI))) (l53:K.lookup UI=some ⟨abA,Wm,.func (fnOf "_law_beginning" "_law_beginning" (aI cn) (aH cn) (ak cn) .none abB abC abD Wn Qz abE),Xu⟩) (c53:codeIn K Qz "_law_beginning" = true) (k53:keepIn K (.ref UI)=true)
  (a54:nsIn K ci "_law_start" = some (some (.ref UJ))) (l54:K.lookup UJ=some ⟨abF,Wo,.func (fnOf "_law_start" "_law_start" (aI eY) (aH eY) (ak eY) .none abG abH abI Wp QA abJ),Xv⟩) (c54:codeIn K QA "_law_start" = true) (k54:keepIn K (.ref UJ)=true)
  (a55:nsIn K ci "_law_moved" = some (some (.ref UK))) (l55:K.lookup UK=some ⟨abK,Wq,.func (fnOf "_law_moved" "_law_moved" (aI e9) (aH e9) (ak e9) .none abL abM abN Wr QB abO),Xw⟩) (c55:codeIn K QB "_law_moved" = true) (k55:keepIn K (.ref UK)=true)
  (a56:nsIn K ci "_law_done" = some (some (.ref UL))) (l56:K.lookup UL=some ⟨abP,Ws,.func (fnOf "_law_done" "_law_done" (aI fX) (aH fX) (ak fX) .none abQ abR abS Wt QC abT),Xx⟩) (c56:codeIn K QC "_law_done" = true) (k56:keepIn K (.ref UL)=true)
  (a57:nsIn K ci "_law_step" = some (some (.ref UM))) (l57:K.lookup UM=some ⟨abU,Wu,.func (fnOf "_law_step" "_law_step" (aI fZ) (aH fZ) (ak fZ) .none abV abW abX Wv QD abY),Xy⟩) (c57:codeIn K QD "_law_step" = true) (k57:keepIn K (.ref UM)=true)
  (a58:nsIn K ci "_law_come" = some (some (.ref UN))) (l58:K.lookup UN=some ⟨abZ,Ww,.func (fnOf "_law_come" "_law_come" (aI dW) (aH dW) (ak dW) .none ab0 ab1 ab2 Wx QE ab3),Xz⟩) (c58:codeIn K QE "_law_come" = true) (k58:keepIn K (.ref UN)=true)
  (a59:nsIn K ci "_law_due" = some (some (.ref UO))) (l59:K.lookup UO=some ⟨ab4,Wy,.func (fnOf "_law_due" "_law_due" (aI gU) (aH gU) (ak gU) .none ab5 ab6 ab7 Wz QF ab8),XA⟩) (c59:codeIn K QF "_law_due" = true) (k59:keepIn K (.ref UO)=true)
  (a60:nsIn K ci "_law_wish" = some (some (.ref UP))) (l60:K.lookup UP=some ⟨ab9,WB,.func (fnOf "_law_wish" "_law_wish" (aI gg) (aH gg) (ak gg) .none aca acb acd WC QG ace),XB⟩) (c60:codeIn K QG "_law_wish" = true) (k60:keepIn K (.ref UP)=true)
  (a61:nsIn K ci "_law_same" = some (some (.ref UQ))) (l61:K.lookup UQ=some ⟨acf,WD,.func (fnOf "_law_same" "_law_same" (aI eU) (aH eU) (ak eU) .none acg ach aci WG QH acj),XC⟩) (c61:codeIn K QH "_law_same" = true) (k61:keepIn K (.ref UQ)=true)
  (a62:nsIn K ci "law" = some (some (.ref UR))) (l62:K.lookup UR=some ⟨acm,WH,.func (fnOf "law" "law" (aI lf) (aH lf) (ak lf) .none QI QJ QK PJ LU QL),XD⟩) (c62:codeIn K LU "law" = true) (k62:keepIn K (.ref UR)=true)
  (z_len:nsIn K ci "len" = some none)
  (z_list:nsIn K ci "list" = some none)
  (z_tuple:nsIn K ci "tuple" = some none)
  (z_int:nsIn K ci "int" = some none)
  (z_bool:nsIn K ci "bool" = some none)
  (z_str:nsIn K ci "str" = some none)
  (z_dict:nsIn K ci "dict" = some none)
  (z_isinstance:nsIn K ci "isinstance" = some none)
  (z_enumerate:nsIn K ci "enumerate" = some none)
  (z_range:nsIn K ci "range" = some none)
  (z_all:nsIn K ci "all" = some none)
  (z_zip:nsIn K ci "zip" = some none)
  (z_sorted:nsIn K ci "sorted" = some none)
  (z_set:nsIn K ci "set" = some none)
  {iB:Addr} {pR:Option Addr} {pS:Array (Option Value)} {qM:Nat} {pT pU pV pW:Tok} (aNOT_GOING_ON:nsIn K ci "NOT_GOING_ON" = some (some (.ref iB))) (lNOT_GOING_ON:K.lookup iB=some ⟨.type "tuple",pR,.seq #[.str "stop" pT,.str "back" pU,.str "halt" pV,.str "jump" pW] qM,pS⟩)
  {pX:Tok} (aMOST_ROWS:nsIn K ci "MOST_ROWS" = some (some (.int (4000) pX)))
  {jW:Tok} (aMOST_TARGETS:nsIn K ci "MOST_TARGETS" = some (some (.int (16) jW)))
  {gn:Addr} {fu:Array DictEntry} {iq:Nat} (aBOUNDS:nsIn K ci "BOUNDS" = some (some (.ref gn))) (lBOUNDS:K.lookup gn=some ⟨.type "dict",none,.dict fu iq,#[]⟩) (kBOUNDS:KeysLit w.params fu.toList) (oBOUNDS:(gn == sysModules)=false)
  {pY:Addr} {AR:Array (Option Value)} {Eb:Nat} {xN xO:Tok} (eBOUNDS0:nsIn K gn "box" = some (some (.ref pY))) (lBOUNDS0:K.lookup pY=some ⟨.type "tuple",none,.seq #[.int (0) xN,.int (7) xO] Eb,AR⟩)
  {pZ:Addr} {AT:Array (Option Value)} {Ec:Nat} {xP xQ:Tok} (eBOUNDS1:nsIn K gn "aside" = some (some (.ref pZ))) (lBOUNDS1:K.lookup pZ=some ⟨.type "tuple",none,.seq #[.int (0) xP,.int (1000000) xQ] Ec,AT⟩)
  {p9:Addr} {AU:Array (Option Value)} {Ed:Nat} {xR xS:Tok} (eBOUNDS2:nsIn K gn "target" = some (some (.ref p9))) (lBOUNDS2:K.lookup p9=some ⟨.type "tuple",none,.seq #[.int (0) xR,.int (1000000000) xS] Ed,AU⟩)
  {qa:Addr} {AV:Array (Option Value)} {Ee:Nat} {xT xU:Tok} (eBOUNDS3:nsIn K gn "number" = some (some (.ref qa))) (lBOUNDS3:K.lookup qa=some ⟨.type "tuple",none,.seq #[.int (0) xT,.int (1000000) xU] Ee,AV⟩)
  {qb:Addr} {AW:Array (Option Value)} {Ef:Nat} {xV xW:Tok} (eBOUNDS4:nsIn K gn "value" = some (some (.ref qb))) (lBOUNDS4:K.lookup qb=some ⟨.type "tuple",none,.seq #[.int (-1000000000) xV,.int (1000000000) xW] Ef,AW⟩)
  {qc:Addr} {AX:Array (Option Value)} {Eg:Nat} {xX xY:Tok} (eBOUNDS5:nsIn K gn "far" = some (some (.ref qc))) (lBOUNDS5:K.lookup qc=some ⟨.type "tuple",none,.seq #[.int (0) xX,.int (1) xY] Eg,AX⟩)
  {cT:Addr} {cC:Array DictEntry} {dg:Nat} (aPARTS:nsIn K ci "PARTS" = some (some (.ref cT))) (lPARTS:K.lookup cT=some ⟨.type "dict",none,.dict cC dg,#[]⟩) (kPARTS:KeysLit w.params cC.toList) (oPARTS:(cT == sysModules)=false)
  {ug:Addr} {Eh:Array (Option Value)} {HY:Nat} (ePARTS0:nsIn K cT "stop" = some (some (.ref ug))) (lPARTS0:K.lookup ug=some ⟨.type "tuple",none,.seq #[] HY,Eh⟩)
  {uh:Addr} {Ei:Array (Option Value)} {HZ:Nat} (ePARTS1:nsIn K cT "back" = some (some (.ref uh))) (lPARTS1:K.lookup uh=some ⟨.type "tuple",none,.seq #[] HZ,Ei⟩)
  {ui:Addr} {Ej:Array (Option Value)} {Ia:Nat} {AY:Tok} (ePARTS2:nsIn K cT "halt" = some (some (.ref ui))) (lPARTS2:K.lookup ui=some ⟨.type "tuple",none,.seq #[.str "number" AY] Ia,Ej⟩)
  {uj:Addr} {Ek:Array (Option Value)} {Ib:Nat} {AZ A0:Tok} (ePARTS3:nsIn K cT "set" = some (some (.ref uj))) (lPARTS3:K.lookup uj=some ⟨.type "tuple",none,.seq #[.str "box" AZ,.str "value" A0] Ib,Ek⟩)
  {uk:Addr} {El:Array (Option Value)} {Ic:Nat} {A1 A2:Tok} (ePARTS4:nsIn K cT "more" = some (some (.ref uk))) (lPARTS4:K.lookup uk=some ⟨.type "tuple",none,.seq #[.str "box" A1,.str "value" A2] Ic,El⟩)
  {um:Addr} {Em:Array (Option Value)} {Ie:Nat} {A3 A4:Tok} (ePARTS5:nsIn K cT "copy" = some (some (.ref um))) (lPARTS5:K.lookup um=some ⟨.type "tuple",none,.seq #[.str "box" A3,.str "box" A4] Ie,Em⟩)
  {uo:Addr} {En:Array (Option Value)} {Ig:Nat} {A5 A6:Tok} (ePARTS6:nsIn K cT "add" = some (some (.ref uo))) (lPARTS6:K.lookup uo=some ⟨.type "tuple",none,.seq #[.str "box" A5,.str "box" A6] Ig,En⟩)
  {uq:Addr} {Eo:Array (Option Value)} {Ih:Nat} {A7 A8:Tok} (ePARTS7:nsIn K cT "less" = some (some (.ref uq))) (lPARTS7:K.lookup uq=some ⟨.type "tuple",none,.seq #[.str "box" A7,.str "box" A8] Ih,Eo⟩)
  {ur:Addr} {Ep:Array (Option Value)} {Ii:Nat} {A9 Ba:Tok} (ePARTS8:nsIn K cT "load" = some (some (.ref ur))) (lPARTS8:K.lookup ur=some ⟨.type "tuple",none,.seq #[.str "box" A9,.str "box" Ba] Ii,Ep⟩)
  {uv:Addr} {Er:Array (Option Value)} {Ij:Nat} {Bb Bc:Tok} (ePARTS9:nsIn K cT "keep" = some (some (.ref uv))) (lPARTS9:K.lookup uv=some ⟨.type "tuple",none,.seq #[.str "box" Bb,.str "box" Bc] Ij,Er⟩)
  {qd:Addr} {Bd:Array (Option Value)} {Es:Nat} {xZ:Tok} (ePARTS10:nsIn K cT "tell" = some (some (.ref qd))) (lPARTS10:K.lookup qd=some ⟨.type "tuple",none,.seq #[.str "box" xZ] Es,Bd⟩)
  {qe:Addr} {Be:Array (Option Value)} {Et:Nat} {ya yb:Tok} (ePARTS11:nsIn K cT "see" = some (some (.ref qe))) (lPARTS11:K.lookup qe=some ⟨.type "tuple",none,.seq #[.str "box" ya,.str "number" yb] Et,Be⟩)
  {qf:Addr} {Bf:Array (Option Value)} {Eu:Nat} {yc yd:Tok} (ePARTS12:nsIn K cT "put" = some (some (.ref qf))) (lPARTS12:K.lookup qf=some ⟨.type "tuple",none,.seq #[.str "box" yc,.str "aside" yd] Eu,Bf⟩)
  {qg:Addr} {Bg:Array (Option Value)} {Ew:Nat} {ye yf:Tok} (ePARTS13:nsIn K cT "take" = some (some (.ref qg))) (lPARTS13:K.lookup qg=some ⟨.type "tuple",none,.seq #[.str "box" ye,.str "aside" yf] Ew,Bg⟩)
  {qh:Addr} {Bh:Array (Option Value)} {Ex:Nat} {yg yh:Tok} (ePARTS14:nsIn K cT "jump" = some (some (.ref qh))) (lPARTS14:K.lookup qh=some ⟨.type "tuple",none,.seq #[.str "target" yg,.str "far" yh] Ex,Bh⟩)
  {qj:Addr} {Bi:Array (Option Value)} {Ey:Nat} {yi yj yk:Tok} (ePARTS15:nsIn K cT "zero" = some (some (.ref qj))) (lPARTS15:K.lookup qj=some ⟨.type "tuple",none,.seq #[.str "box" yi,.str "target" yj,.str "far" yk] Ey,Bi⟩)
  {ql:Addr} {Bj:Array (Option Value)} {Ez:Nat} {yl ym yn:Tok} (ePARTS16:nsIn K cT "below" = some (some (.ref ql))) (lPARTS16:K.lookup ql=some ⟨.type "tuple",none,.seq #[.str "box" yl,.str "target" ym,.str "far" yn] Ez,Bj⟩)
  {qm:Addr} {Bk:Array (Option Value)} {EA:Nat} {yo yp:Tok} (ePARTS17:nsIn K cT "call" = some (some (.ref qm))) (lPARTS17:K.lookup qm=some ⟨.type "tuple",none,.seq #[.str "target" yo,.str "far" yp] EA,Bk⟩)
  {qo:Addr} {Bl:Array (Option Value)} {EB:Nat} {yq yr:Tok} (ePARTS18:nsIn K cT "mark" = some (some (.ref qo))) (lPARTS18:K.lookup qo=some ⟨.type "tuple",none,.seq #[.str "target" yq,.str "far" yr] EB,Bl⟩)
  {qp:Addr} {Bm:Array (Option Value)} {EC:Nat} {yt yu:Tok} (ePARTS19:nsIn K cT "table" = some (some (.ref qp))) (lPARTS19:K.lookup qp=some ⟨.type "tuple",none,.seq #[.str "box" yt,.str "targets" yu] EC,Bm⟩)
  {lB:Tok} (aMOST_WISHES:nsIn K ci "MOST_WISHES" = some (some (.int (12) lB)))
  {i6:Addr} {iO:Array DictEntry} {lC:Nat} (aPLACES:nsIn K ci "PLACES" = some (some (.ref i6))) (lPLACES:K.lookup i6=some ⟨.type "dict",none,.dict iO lC,#[]⟩) (kPLACES:KeysLit w.params iO.toList) (oPLACES:(i6 == sysModules)=false)
  {ED:Tok} (ePLACES0:nsIn K i6 "before" = some (some (.int 2 ED)))
  {EF:Tok} (ePLACES1:nsIn K i6 "after" = some (some (.int 2 EF)))
  {EG:Tok} (ePLACES2:nsIn K i6 "way" = some (some (.int 3 EG)))
  {j9:Addr} {jK:Array DictEntry} {qq:Nat} (aWHATS:nsIn K ci "WHATS" = some (some (.ref j9))) (lWHATS:K.lookup j9=some ⟨.type "dict",none,.dict jK qq,#[]⟩) (kWHATS:KeysLit w.params jK.toList) (oWHATS:(j9 == sysModules)=false)
  {uw:Addr} {EH:Array (Option Value)} {Ik:Nat} {Bo Bp:Tok} (eWHATS0:nsIn K j9 "look" = some (some (.ref uw))) (lWHATS0:K.lookup uw=some ⟨.type "tuple",none,.seq #[.str "number" Bo,.str "box" Bp] Ik,EH⟩)
  {uz:Addr} {EI:Array (Option Value)} {Il:Nat} {Bq:Tok} (eWHATS1:nsIn K j9 "count" = some (some (.ref uz))) (lWHATS1:K.lookup uz=some ⟨.type "tuple",none,.seq #[.str "number" Bq] Il,EI⟩)
  {uD:Addr} {EJ:Array (Option Value)} {Im:Nat} {Br Bs:Tok} (eWHATS2:nsIn K j9 "guard" = some (some (.ref uD))) (lWHATS2:K.lookup uD=some ⟨.type "tuple",none,.seq #[.str "number" Br,.str "box" Bs] Im,EJ⟩)
  {C:Addr} (aC:nsIn K ci "Machine" = some (some (.ref C)))
  {g0:Addr} {acn aco:Option Addr} {acp:Array (Option Value)} {acq acr acs acu QM acv:Value} (ag0:findIn K (.ref C) "__init__" = some (some (.ref g0))) (ig0:isFn K (.ref g0)=true) (lg0:K.lookup g0=some ⟨acq,acn,.func (fnOf "__init__" "Machine.__init__" (aI rK) (aH rK) (ak rK) .none acr acs acu aco QM acv),acp⟩) (cg0:codeIn K QM "Machine.__init__" = true) (kg0:keepIn K (.ref g0)=true)
  {g1:Addr} {acw acx:Option Addr} {acy:Array (Option Value)} {acz acA acB acC QN acD:Value} (ag1:findIn K (.ref C) "row" = some (some (.ref g1))) (ig1:isFn K (.ref g1)=true) (lg1:K.lookup g1=some ⟨acz,acw,.func (fnOf "row" "Machine.row" (aI rL) (aH rL) (ak rL) .none acA acB acC acx QN acD),acy⟩) (cg1:codeIn K QN "Machine.row" = true) (kg1:keepIn K (.ref g1)=true)
  {g2:Addr} {acE acF:Option Addr} {acG:Array (Option Value)} {acH acI acJ acK QO acL:Value} (ag2:findIn K (.ref C) "ending" = some (some (.ref g2))) (ig2:isFn K (.ref g2)=true) (lg2:K.lookup g2=some ⟨acH,acE,.func (fnOf "ending" "Machine.ending" (aI jI) (aH jI) (ak jI) .none acI acJ acK acF QO acL),acG⟩) (cg2:codeIn K QO "Machine.ending" = true) (kg2:keepIn K (.ref g2)=true)
  {g3:Addr} {acM acN:Option Addr} {acO:Array (Option Value)} {acP acQ acR acS QP acT:Value} (ag3:findIn K (.ref C) "boxes" = some (some (.ref g3))) (ig3:isFn K (.ref g3)=true) (lg3:K.lookup g3=some ⟨acP,acM,.func (fnOf "boxes" "Machine.boxes" (aI lR) (aH lR) (ak lR) .none acQ acR acS acN QP acT),acO⟩) (cg3:codeIn K QP "Machine.boxes" = true) (kg3:keepIn K (.ref g3)=true)
  {g4:Addr} {acU acV:Option Addr} {acW:Array (Option Value)} {acX acY acZ ac0 QR ac1:Value} (ag4:findIn K (.ref C) "step" = some (some (.ref g4))) (ig4:isFn K (.ref g4)=true) (lg4:K.lookup g4=some ⟨acX,acU,.func (fnOf "step" "Machine.step" (aI rM) (aH rM) (ak rM) .none acY acZ ac0 acV QR ac1),acW⟩) (cg4:codeIn K QR "Machine.step" = true) (kg4:keepIn K (.ref g4)=true)
  (pg:PySem.W.plainGet K C Str.empty=true) (hd:PySem.W.hasDictIn K C=true) (po:PySem.W.plainOver K C=true) (sa:findIn K (.ref C) "__setattr__" = some (some (.builtin "object.__setattr__"))) (mkc:PySem.W.makesIn K C=true) (kc:keepIn K (.ref C)=true)
  (n_program:findIn K (.ref C) "program" = some none)
  (n_in_boxes:findIn K (.ref C) "in_boxes" = some none)
  (n_in_cells:findIn K (.ref C) "in_cells" = some none)
  (n_in_asides:findIn K (.ref C) "in_asides" = some none)
  (n_rung:findIn K (.ref C) "rung" = some none)
  (n_told_numbers:findIn K (.ref C) "told_numbers" = some none)
  (n_seen_numbers:findIn K (.ref C) "seen_numbers" = some none)
  (n_pile:findIn K (.ref C) "pile" = some none)
  (n_marks_done:findIn K (.ref C) "marks_done" = some none)
  (n_here:findIn K (.ref C) "here" = some none)
  (n_how_ended:findIn K (.ref C) "how_ended" = some none)
  {pE:Addr} {qu:Array DictEntry} {nE:Nat} (aE:nsIn K ci "DEEDS" = some (some (.ref pE))) (lE:K.lookup pE=some ⟨.type "dict",none,.dict qu nE,#[]⟩) (kE:KeysLit w.params qu.toList) (oE:(pE == sysModules)=false)
  (e_stop:nsIn K pE "stop" = some (some (.ref f1)))
  (e_halt:nsIn K pE "halt" = some (some (.ref f2)))
  (e_back:nsIn K pE "back" = some (some (.ref f3)))
  (e_set:nsIn K pE "set" = some (some (.ref f4)))
  (e_more:nsIn K pE "more" = some (some (.ref f5)))
  (e_copy:nsIn K pE "copy" = some (some (.ref f6)))
  (e_add:nsIn K pE "add" = some (some (.ref f7)))
  (e_less:nsIn K pE "less" = some (some (.ref f8)))
  (e_load:nsIn K pE "load" = some (some (.ref f9)))
  (e_keep:nsIn K pE "keep" = some (some (.ref Pu)))
  (e_tell:nsIn K pE "tell" = some (some (.ref f11)))
  (e_see:nsIn K pE "see" = some (some (.ref Pw)))
  (e_put:nsIn K pE "put" = some (some (.ref Px)))
  (e_take:nsIn K pE "take" = some (some (.ref Py)))
  (e_jump:nsIn K pE "jump" = some (some (.ref Pz)))
  (e_zero:nsIn K pE "zero" = some (some (.ref PB)))
  (e_below:nsIn K pE "below" = some (some (.ref PD)))
  (e_call:nsIn K pE "call" = some (some (.ref Md)))
  (e_mark:nsIn K pE "mark" = some (some (.ref PF)))
  (e_table:nsIn K pE "table" = some (some (.ref PH)))
  : ∃ fd:cx,(∀ (s:Shared) (v:Value),BindsTo s fd ⟨[v],[]⟩ [("_law_script",v)])∧∀ base:Heap,K.In base→base.Ns ci mg→aR l.prog w K mg base bV 10 fa fd ["_law_script"] (zM (K:=K)):=by
 have e:=hfa.symm.trans (mg_of X G a62)
 cases e
 have F0:=aT (st:=s_end) l0 c0 k0
 have b0:=F0.binds (ps:=["machine", "how"]) fun _ _ _ _ _ _ us hl=>match us,hl with | [_,_],_=>rfl
 have m0:=mg_of X G a0
 have F1:=aT (st:=jt) l1 c1 k1
 have b1:=F1.binds (ps:=["machine", "row"]) fun _ _ _ _ _ _ us hl=>match us,hl with | [_,_],_=>rfl
 have m1:=mg_of X G a1
 have F2:=aT (st:=ju) l2 c2 k2
 have b2:=F2.binds (ps:=["machine", "row"]) fun _ _ _ _ _ _ us hl=>match us,hl with | [_,_],_=>rfl
 have m2:=mg_of X G a2
 have F3:=aT (st:=jv) l3 c3 k3
 have b3:=F3.binds (ps:=["machine", "row"]) fun _ _ _ _ _ _ us hl=>match us,hl with | [_,_],_=>rfl
 have m3:=mg_of X G a3
 have F4:=aT (st:=kJ) l4 c4 k4
 have b4:=F4.binds (ps:=["machine", "row"]) fun _ _ _ _ _ _ us hl=>match us,hl with | [_,_],_=>rfl
 have m4:=mg_of X G a4
 have F5:=aT (st:=jw) l5 c5 k5
 have b5:=F5.binds (ps:=["machine", "row"]) fun _ _ _ _ _ _ us hl=>match us,hl with | [_,_],_=>rfl
 have m5:=mg_of X G a5
 have F6:=aT (st:=jx) l6 c6 k6
 have b6:=F6.binds (ps:=["machine", "row"]) fun _ _ _ _ _ _ us hl=>match us,hl with | [_,_],_=>rfl
 have m6:=mg_of X G a6
 have F7:=aT (st:=kQ) l7 c7 k7
 have b7:=F7.binds (ps:=["machine", "row"]) fun _ _ _ _ _ _ us hl=>match us,hl with | [_,_],_=>rfl
 have m7:=mg_of X G a7
 have F8:=aT (st:=jy) l8 c8 k8
 have b8:=F8.binds (ps:=["machine", "row"]) fun _ _ _ _ _ _ us hl=>match us,hl with | [_,_],_=>rfl
 have m8:=mg_of X G a8
 have F9:=aT (st:=jz) l9 c9 k9
 have b9:=F9.binds (ps:=["machine", "row"]) fun _ _ _ _ _ _ us hl=>match us,hl with | [_,_],_=>rfl
 have m9:=mg_of X G a9
 have F10:=aT (st:=jA) l10 c10 k10
 have b10:=F10.binds (ps:=["machine", "row"]) fun _ _ _ _ _ _ us hl=>match us,hl with | [_,_],_=>rfl
 have m10:=mg_of X G a10
 have F11:=aT (st:=jB) l11 c11 k11
 have b11:=F11.binds (ps:=["machine", "row"]) fun _ _ _ _ _ _ us hl=>match us,hl with | [_,_],_=>rfl
 have m11:=mg_of X G a11
 have F12:=aT (st:=kX) l12 c12 k12
 have b12:=F12.binds (ps:=["machine", "row"]) fun _ _ _ _ _ _ us hl=>match us,hl with | [_,_],_=>rfl
 have m12:=mg_of X G a12
 have F13:=aT (st:=kZ) l13 c13 k13
 have b13:=F13.binds (ps:=["machine", "row"]) fun _ _ _ _ _ _ us hl=>match us,hl with | [_,_],_=>rfl
 have m13:=mg_of X G a13
 have F14:=aT (st:=jC) l14 c14 k14
 have b14:=F14.binds (ps:=["machine", "row"]) fun _ _ _ _ _ _ us hl=>match us,hl with | [_,_],_=>rfl
 have m14:=mg_of X G a14
 have F15:=aT (st:=jD) l15 c15 k15
 have b15:=F15.binds (ps:=["machine", "row"]) fun _ _ _ _ _ _ us hl=>match us,hl with | [_,_],_=>rfl
 have m15:=mg_of X G a15
 have F16:=aT (st:=jE) l16 c16 k16
 have b16:=F16.binds (ps:=["machine", "row"]) fun _ _ _ _ _ _ us hl=>match us,hl with | [_,_],_=>rfl
 have m16:=mg_of X G a16
 have F17:=aT (st:=iV) l17 c17 k17
 have b17:=F17.binds (ps:=["machine", "row"]) fun _ _ _ _ _ _ us hl=>match us,hl with | [_,_],_=>rfl
 have m17:=mg_of X G a17
 have F18:=aT (st:=jF) l18 c18 k18
 have b18:=F18.binds (ps:=["machine", "row"]) fun _ _ _ _ _ _ us hl=>match us,hl with | [_,_],_=>rfl
 have m18:=mg_of X G a18
 have F19:=aT (st:=jG) l19 c19 k19
 have b19:=F19.binds (ps:=["machine", "row"]) fun _ _ _ _ _ _ us hl=>match us,hl with | [_,_],_=>rfl
 have m19:=mg_of X G a19
 have F20:=aT (st:=iW) l20 c20 k20
 have b20:=F20.binds (ps:=["machine", "row"]) fun _ _ _ _ _ _ us hl=>match us,hl with | [_,_],_=>rfl
 have m20:=mg_of X G a20
 have F21:=aT (st:=gN) l21 c21 k21
 have b21:=F21.binds (ps:=["row"]) fun _ _ _ _ _ _ us hl=>match us,hl with | [_],_=>rfl
 have m21:=mg_of X G a21
 have F22:=aT (st:=d8) l22 c22 k22
 have b22:=F22.binds (ps:=["row"]) fun _ _ _ _ _ _ us hl=>match us,hl with | [_],_=>rfl
 have m22:=mg_of X G a22
 have F23:=aT (st:=gP) l23 c23 k23
 have b23:=F23.binds (ps:=["rows", "r"]) fun _ _ _ _ _ _ us hl=>match us,hl with | [_,_],_=>rfl
 have m23:=mg_of X G a23
 have F24:=aT (st:=fJ) l24 c24 k24
 have b24:=F24.binds (ps:=["thing"]) fun _ _ _ _ _ _ us hl=>match us,hl with | [_],_=>rfl
 have m24:=mg_of X G a24
 have F25:=aT (st:=dC) l25 c25 k25
 have b25:=F25.binds (ps:=["kind", "thing"]) fun _ _ _ _ _ _ us hl=>match us,hl with | [_,_],_=>rfl
 have m25:=mg_of X G a25
 have F26:=aT (st:=dM) l26 c26 k26
 have b26:=F26.binds (ps:=["thing"]) fun _ _ _ _ _ _ us hl=>match us,hl with | [_],_=>rfl
 have m26:=mg_of X G a26
 have F27:=aT (st:=gQ) l27 c27 k27
 have b27:=F27.binds (ps:=["kind", "thing"]) fun _ _ _ _ _ _ us hl=>match us,hl with | [_,_],_=>rfl
 have m27:=mg_of X G a27
 have F28:=aT (st:=dU) l28 c28 k28
 have b28:=F28.binds (ps:=["kinds", "things"]) fun _ _ _ _ _ _ us hl=>match us,hl with | [_,_],_=>rfl
 have m28:=mg_of X G a28
 have F29:=aT (st:=gR) l29 c29 k29
 have b29:=F29.binds (ps:=["thing"]) fun _ _ _ _ _ _ us hl=>match us,hl with | [_],_=>rfl
 have m29:=mg_of X G a29
 have F30:=aT (st:=iJ) l30 c30 k30
 have b30:=F30.binds (ps:=["row"]) fun _ _ _ _ _ _ us hl=>match us,hl with | [_],_=>rfl
 have m30:=mg_of X G a30
 have F31:=aT (st:=cV) l31 c31 k31
 have b31:=F31.binds (ps:=["row", "how_many"]) fun _ _ _ _ _ _ us hl=>match us,hl with | [_,_],_=>rfl
 have m31:=mg_of X G a31
 have F32:=aT (st:=d9) l32 c32 k32
 have b32:=F32.binds (ps:=["rows"]) fun _ _ _ _ _ _ us hl=>match us,hl with | [_],_=>rfl
 have m32:=mg_of X G a32
 have F33:=aT (st:=fQ) l33 c33 k33
 have b33:=F33.binds (ps:=["rows", "place"]) fun _ _ _ _ _ _ us hl=>match us,hl with | [_,_],_=>rfl
 have m33:=mg_of X G a33
 have F34:=aT (st:=gS) l34 c34 k34
 have b34:=F34.binds (ps:=["what"]) fun _ _ _ _ _ _ us hl=>match us,hl with | [_],_=>rfl
 have m34:=mg_of X G a34
 have F35:=aT (st:=gT) l35 c35 k35
 have b35:=F35.binds (ps:=["rows", "wish"]) fun _ _ _ _ _ _ us hl=>match us,hl with | [_,_],_=>rfl
 have m35:=mg_of X G a35
 have F36:=aT (st:=dD) l36 c36 k36
 have b36:=F36.binds (ps:=["rows", "wishes"]) fun _ _ _ _ _ _ us hl=>match us,hl with | [_,_],_=>rfl
 have m36:=mg_of X G a36
 have F37:=aT (st:=cW) l37 c37 k37
 have b37:=F37.binds (ps:=["wishes", "r"]) fun _ _ _ _ _ _ us hl=>match us,hl with | [_,_],_=>rfl
 have m37:=mg_of X G a37
 have F38:=aT (st:=cX) l38 c38 k38
 have b38:=F38.binds (ps:=["wishes", "r", "s"]) fun _ _ _ _ _ _ us hl=>match us,hl with | [_,_,_],_=>rfl
 have m38:=mg_of X G a38
 have F39:=aT (st:=cu) l39 c39 k39
 have b39:=F39.binds (ps:=["wishes", "word"]) fun _ _ _ _ _ _ us hl=>match us,hl with | [_,_],_=>rfl
 have m39:=mg_of X G a39
 have F40:=aT (st:=cO) l40 c40 k40
 have b40:=F40.binds (ps:=["wishes"]) fun _ _ _ _ _ _ us hl=>match us,hl with | [_],_=>rfl
 have m40:=mg_of X G a40
 have F41:=aT (st:=fU) l41 c41 k41
 have b41:=F41.binds (ps:=["reading", "what", "boxes"]) fun _ _ _ _ _ _ us hl=>match us,hl with | [_,_,_],_=>rfl
 have m41:=mg_of X G a41
 have F42:=aT (st:=eV) l42 c42 k42
 have b42:=F42.binds (ps:=["reading", "whats", "boxes"]) fun _ _ _ _ _ _ us hl=>match us,hl with | [_,_,_],_=>rfl
 have m42:=mg_of X G a42
 have F43:=aT (st:=di) l43 c43 k43
 have b43:=F43.binds (ps:=["rows", "wishes", "r", "s"]) fun _ _ _ _ _ _ us hl=>match us,hl with | [_,_,_,_],_=>rfl
 have m43:=mg_of X G a43
 have F44:=aT (st:=iK) l44 c44 k44
 have b44:=F44.binds (ps:=["reading", "rows", "wishes", "machine"]) fun _ _ _ _ _ _ us hl=>match us,hl with | [_,_,_,_],_=>rfl
 have m44:=mg_of X G a44
 have F45:=aT (st:=ef) l45 c45 k45
 have b45:=F45.binds (ps:=["rows", "wishes", "boxes", "cells", "bells", "most"]) fun _ _ _ _ _ _ us hl=>match us,hl with | [_,_,_,_,_,_],_=>rfl
 have m45:=mg_of X G a45
 have F46:=aT (st:=eI) l46 c46 k46
 have b46:=F46.binds (ps:=["_law_script", "_law_k"]) fun _ _ _ _ _ _ us hl=>match us,hl with | [_,_],_=>rfl
 have m46:=mg_of X G a46
 have F47:=aT (st:=fq) l47 c47 k47
 have b47:=F47.binds (ps:=["_law_cell", "_law_many"]) fun _ _ _ _ _ _ us hl=>match us,hl with | [_,_],_=>rfl
 have m47:=mg_of X G a47
 have F48:=aT (st:=iL) l48 c48 k48
 have b48:=F48.binds (ps:=["_law_x", "_law_many"]) fun _ _ _ _ _ _ us hl=>match us,hl with | [_,_],_=>rfl
 have m48:=mg_of X G a48
 have F49:=aT (st:=eJ) l49 c49 k49
 have b49:=F49.binds (ps:=["_law_x", "_law_many", "_law_count"]) fun _ _ _ _ _ _ us hl=>match us,hl with | [_,_,_],_=>rfl
 have m49:=mg_of X G a49
 have F50:=aT (st:=g9) l50 c50 k50
 have b50:=F50.binds (ps:=["_law_row_here", "_law_x"]) fun _ _ _ _ _ _ us hl=>match us,hl with | [_,_],_=>rfl
 have m50:=mg_of X G a50
 have F51:=aT (st:=eQ) l51 c51 k51
 have b51:=F51.binds (ps:=["_law_cell", "_law_many"]) fun _ _ _ _ _ _ us hl=>match us,hl with | [_,_],_=>rfl
 have m51:=mg_of X G a51
 have F52:=aT (st:=fV) l52 c52 k52
 have b52:=F52.binds (ps:=["_law_rows_here", "_law_r"]) fun _ _ _ _ _ _ us hl=>match us,hl with | [_,_],_=>rfl
 have m52:=mg_of X G a52
 have F53:=aT (st:=cn) l53 c53 k53
 have b53:=F53.binds (ps:=["_law_cell"]) fun _ _ _ _ _ _ us hl=>match us,hl with | [_],_=>rfl
 have m53:=mg_of X G a53
 have F54:=aT (st:=eY) l54 c54 k54
 have b54:=F54.binds (ps:=["_law_boxes", "_law_cells"]) fun _ _ _ _ _ _ us hl=>match us,hl with | [_,_],_=>rfl
 have m54:=mg_of X G a54
 have F55:=aT (st:=e9) l55 c55 k55
 have b55:=F55.binds (ps:=["_law_row_here", "_law_state", "_law_bells"]) fun _ _ _ _ _ _ us hl=>match us,hl with | [_,_,_],_=>rfl
 have m55:=mg_of X G a55
 have F56:=aT (st:=fX) l56 c56 k56
 have b56:=F56.binds (ps:=["_law_row_here", "_law_state"]) fun _ _ _ _ _ _ us hl=>match us,hl with | [_,_],_=>rfl
 have m56:=mg_of X G a56
 have F57:=aT (st:=fZ) l57 c57 k57
 have b57:=F57.binds (ps:=["_law_rows_here", "_law_state", "_law_bells"]) fun _ _ _ _ _ _ us hl=>match us,hl with | [_,_,_],_=>rfl
 have m57:=mg_of X G a57
 have F58:=aT (st:=dW) l58 c58 k58
 have b58:=F58.binds (ps:=["_law_wishes", "_law_begin", "_law_state", "_law_tale"]) fun _ _ _ _ _ _ us hl=>match us,hl with | [_,_,_,_],_=>rfl
 have m58:=mg_of X G a58
 have F59:=aT (st:=gU) l59 c59 k59
 have b59:=F59.binds (ps:=["_law_rows_here", "_law_wishes", "_law_beginning_here", "_law_most"]) fun _ _ _ _ _ _ us hl=>match us,hl with | [_,_,_,_],_=>rfl
 have m59:=mg_of X G a59
 have F60:=aT (st:=gg) l60 c60 k60
 have b60:=F60.binds (ps:=["_law_rows_here", "_law_cell", "_law_number", "_law_guards"]) fun _ _ _ _ _ _ us hl=>match us,hl with | [_,_,_,_],_=>rfl
 have m60:=mg_of X G a60
 have F61:=aT (st:=eU) l61 c61 k61
 have b61:=F61.binds (ps:=["_law_found", "_law_due_here"]) fun _ _ _ _ _ _ us hl=>match us,hl with | [_,_],_=>rfl
 have m61:=mg_of X G a61
 have F62:=aT (st:=lf) l62 c62 k62
 have T:Txt K w.params mg:=⟨⟨iB,mg_of X G aNOT_GOING_ON,fun H=>.inr ⟨_,_,_,lNOT_GOING_ON,rfl,rfl,CT,.cons ⟨_,rfl⟩ (.cons ⟨_,rfl⟩ (.cons ⟨_,rfl⟩ (.cons ⟨_,rfl⟩ (.nil))))⟩⟩,
  ⟨pX,mg_of X G aMOST_ROWS⟩,
  ⟨jW,mg_of X G aMOST_TARGETS⟩,
  ⟨gn,mg_of X G aBOUNDS,⟨fu,iq,lBOUNDS,kBOUNDS,oBOUNDS⟩,⟨pY,⟨fu,iq,lBOUNDS,kBOUNDS,oBOUNDS,_,eBOUNDS0,rfl⟩,fun H=>.inr ⟨_,_,_,lBOUNDS0,rfl,rfl,cZ,.cons ⟨_,rfl⟩ (.cons ⟨_,rfl⟩ (.nil))⟩⟩,
   ⟨pZ,⟨fu,iq,lBOUNDS,kBOUNDS,oBOUNDS,_,eBOUNDS1,rfl⟩,fun H=>.inr ⟨_,_,_,lBOUNDS1,rfl,rfl,cZ,.cons ⟨_,rfl⟩ (.cons ⟨_,rfl⟩ (.nil))⟩⟩,
   ⟨p9,⟨fu,iq,lBOUNDS,kBOUNDS,oBOUNDS,_,eBOUNDS2,rfl⟩,fun H=>.inr ⟨_,_,_,lBOUNDS2,rfl,rfl,cZ,.cons ⟨_,rfl⟩ (.cons ⟨_,rfl⟩ (.nil))⟩⟩,
   ⟨qa,⟨fu,iq,lBOUNDS,kBOUNDS,oBOUNDS,_,eBOUNDS3,rfl⟩,fun H=>.inr ⟨_,_,_,lBOUNDS3,rfl,rfl,cZ,.cons ⟨_,rfl⟩ (.cons ⟨_,rfl⟩ (.nil))⟩⟩,
   ⟨qb,⟨fu,iq,lBOUNDS,kBOUNDS,oBOUNDS,_,eBOUNDS4,rfl⟩,fun H=>.inr ⟨_,_,_,lBOUNDS4,rfl,rfl,cZ,.cons ⟨_,rfl⟩ (.cons ⟨_,rfl⟩ (.nil))⟩⟩,
   ⟨qc,⟨fu,iq,lBOUNDS,kBOUNDS,oBOUNDS,_,eBOUNDS5,rfl⟩,fun H=>.inr ⟨_,_,_,lBOUNDS5,rfl,rfl,cZ,.cons ⟨_,rfl⟩ (.cons ⟨_,rfl⟩ (.nil))⟩⟩⟩,
  ⟨cT,mg_of X G aPARTS,⟨cC,dg,lPARTS,kPARTS,oPARTS⟩,⟨ug,⟨cC,dg,lPARTS,kPARTS,oPARTS,_,ePARTS0,rfl⟩,fun H=>.inr ⟨_,_,_,lPARTS0,rfl,rfl,lQ,.nil⟩⟩,
   ⟨uh,⟨cC,dg,lPARTS,kPARTS,oPARTS,_,ePARTS1,rfl⟩,fun H=>.inr ⟨_,_,_,lPARTS1,rfl,rfl,lQ,.nil⟩⟩,
   ⟨ui,⟨cC,dg,lPARTS,kPARTS,oPARTS,_,ePARTS2,rfl⟩,fun H=>.inr ⟨_,_,_,lPARTS2,rfl,rfl,oY,.cons ⟨_,rfl⟩ (.nil)⟩⟩,
   ⟨uj,⟨cC,dg,lPARTS,kPARTS,oPARTS,_,ePARTS3,rfl⟩,fun H=>.inr ⟨_,_,_,lPARTS3,rfl,rfl,cZ,.cons ⟨_,rfl⟩ (.cons ⟨_,rfl⟩ (.nil))⟩⟩,
   ⟨uk,⟨cC,dg,lPARTS,kPARTS,oPARTS,_,ePARTS4,rfl⟩,fun H=>.inr ⟨_,_,_,lPARTS4,rfl,rfl,cZ,.cons ⟨_,rfl⟩ (.cons ⟨_,rfl⟩ (.nil))⟩⟩,
   ⟨um,⟨cC,dg,lPARTS,kPARTS,oPARTS,_,ePARTS5,rfl⟩,fun H=>.inr ⟨_,_,_,lPARTS5,rfl,rfl,cZ,.cons ⟨_,rfl⟩ (.cons ⟨_,rfl⟩ (.nil))⟩⟩,
   ⟨uo,⟨cC,dg,lPARTS,kPARTS,oPARTS,_,ePARTS6,rfl⟩,fun H=>.inr ⟨_,_,_,lPARTS6,rfl,rfl,cZ,.cons ⟨_,rfl⟩ (.cons ⟨_,rfl⟩ (.nil))⟩⟩,
   ⟨uq,⟨cC,dg,lPARTS,kPARTS,oPARTS,_,ePARTS7,rfl⟩,fun H=>.inr ⟨_,_,_,lPARTS7,rfl,rfl,cZ,.cons ⟨_,rfl⟩ (.cons ⟨_,rfl⟩ (.nil))⟩⟩,
   ⟨ur,⟨cC,dg,lPARTS,kPARTS,oPARTS,_,ePARTS8,rfl⟩,fun H=>.inr ⟨_,_,_,lPARTS8,rfl,rfl,cZ,.cons ⟨_,rfl⟩ (.cons ⟨_,rfl⟩ (.nil))⟩⟩,
   ⟨uv,⟨cC,dg,lPARTS,kPARTS,oPARTS,_,ePARTS9,rfl⟩,fun H=>.inr ⟨_,_,_,lPARTS9,rfl,rfl,cZ,.cons ⟨_,rfl⟩ (.cons ⟨_,rfl⟩ (.nil))⟩⟩,
   ⟨qd,⟨cC,dg,lPARTS,kPARTS,oPARTS,_,ePARTS10,rfl⟩,fun H=>.inr ⟨_,_,_,lPARTS10,rfl,rfl,oY,.cons ⟨_,rfl⟩ (.nil)⟩⟩,
   ⟨qe,⟨cC,dg,lPARTS,kPARTS,oPARTS,_,ePARTS11,rfl⟩,fun H=>.inr ⟨_,_,_,lPARTS11,rfl,rfl,cZ,.cons ⟨_,rfl⟩ (.cons ⟨_,rfl⟩ (.nil))⟩⟩,
   ⟨qf,⟨cC,dg,lPARTS,kPARTS,oPARTS,_,ePARTS12,rfl⟩,fun H=>.inr ⟨_,_,_,lPARTS12,rfl,rfl,cZ,.cons ⟨_,rfl⟩ (.cons ⟨_,rfl⟩ (.nil))⟩⟩,
   ⟨qg,⟨cC,dg,lPARTS,kPARTS,oPARTS,_,ePARTS13,rfl⟩,fun H=>.inr ⟨_,_,_,lPARTS13,rfl,rfl,cZ,.cons ⟨_,rfl⟩ (.cons ⟨_,rfl⟩ (.nil))⟩⟩,
   ⟨qh,⟨cC,dg,lPARTS,kPARTS,oPARTS,_,ePARTS14,rfl⟩,fun H=>.inr ⟨_,_,_,lPARTS14,rfl,rfl,cZ,.cons ⟨_,rfl⟩ (.cons ⟨_,rfl⟩ (.nil))⟩⟩,
   ⟨qj,⟨cC,dg,lPARTS,kPARTS,oPARTS,_,ePARTS15,rfl⟩,fun H=>.inr ⟨_,_,_,lPARTS15,rfl,rfl,j6,.cons ⟨_,rfl⟩ (.cons ⟨_,rfl⟩ (.cons ⟨_,rfl⟩ (.nil)))⟩⟩,
   ⟨ql,⟨cC,dg,lPARTS,kPARTS,oPARTS,_,ePARTS16,rfl⟩,fun H=>.inr ⟨_,_,_,lPARTS16,rfl,rfl,j6,.cons ⟨_,rfl⟩ (.cons ⟨_,rfl⟩ (.cons ⟨_,rfl⟩ (.nil)))⟩⟩,
   ⟨qm,⟨cC,dg,lPARTS,kPARTS,oPARTS,_,ePARTS17,rfl⟩,fun H=>.inr ⟨_,_,_,lPARTS17,rfl,rfl,cZ,.cons ⟨_,rfl⟩ (.cons ⟨_,rfl⟩ (.nil))⟩⟩,
   ⟨qo,⟨cC,dg,lPARTS,kPARTS,oPARTS,_,ePARTS18,rfl⟩,fun H=>.inr ⟨_,_,_,lPARTS18,rfl,rfl,cZ,.cons ⟨_,rfl⟩ (.cons ⟨_,rfl⟩ (.nil))⟩⟩,
   ⟨qp,⟨cC,dg,lPARTS,kPARTS,oPARTS,_,ePARTS19,rfl⟩,fun H=>.inr ⟨_,_,_,lPARTS19,rfl,rfl,cZ,.cons ⟨_,rfl⟩ (.cons ⟨_,rfl⟩ (.nil))⟩⟩⟩,
  ⟨lB,mg_of X G aMOST_WISHES⟩,
  ⟨i6,mg_of X G aPLACES,⟨iO,lC,lPLACES,kPLACES,oPLACES⟩,⟨iO,lC,lPLACES,kPLACES,oPLACES,_,ePLACES0,⟨_,rfl⟩⟩,
   ⟨iO,lC,lPLACES,kPLACES,oPLACES,_,ePLACES1,⟨_,rfl⟩⟩,
   ⟨iO,lC,lPLACES,kPLACES,oPLACES,_,ePLACES2,⟨_,rfl⟩⟩⟩,
  ⟨j9,mg_of X G aWHATS,⟨jK,qq,lWHATS,kWHATS,oWHATS⟩,⟨uw,⟨jK,qq,lWHATS,kWHATS,oWHATS,_,eWHATS0,rfl⟩,fun H=>.inr ⟨_,_,_,lWHATS0,rfl,rfl,cZ,.cons ⟨_,rfl⟩ (.cons ⟨_,rfl⟩ (.nil))⟩⟩,
   ⟨uz,⟨jK,qq,lWHATS,kWHATS,oWHATS,_,eWHATS1,rfl⟩,fun H=>.inr ⟨_,_,_,lWHATS1,rfl,rfl,oY,.cons ⟨_,rfl⟩ (.nil)⟩⟩,
   ⟨uD,⟨jK,qq,lWHATS,kWHATS,oWHATS,_,eWHATS2,rfl⟩,fun H=>.inr ⟨_,_,_,lWHATS2,rfl,rfl,cZ,.cons ⟨_,rfl⟩ (.cons ⟨_,rfl⟩ (.nil))⟩⟩⟩,
  mg_none_of X G z_len,
  mg_none_of X G z_list,
  mg_none_of X G z_tuple,
  mg_none_of X G z_int,
  mg_none_of X G z_bool,
  mg_none_of X G z_str,
  mg_none_of X G z_dict,
  mg_none_of X G z_isinstance,
  mg_none_of X G z_enumerate,
  mg_none_of X G z_range,
  mg_none_of X G z_all,
  mg_none_of X G z_zip,
  mg_none_of X G z_sorted,
  mg_none_of X G z_set⟩
 refine ⟨fnOf "law" "law" (aI lf) (aH lf) (ak lf) .none QI QJ QK PJ LU QL,fun s v=>.of_eq rfl,fun base _ _=>?_⟩
 have FM0:=aT (st:=rK) lg0 cg0 kg0
 have bm0:=FM0.binds (ps:=["self", "rows", "boxes", "cells", "bells"]) fun _ _ _ _ _ _ us hl=>match us,hl with | [_,_,_,_,_],_=>rfl
 have FM1:=aT (st:=rL) lg1 cg1 kg1
 have bm1:=FM1.binds (ps:=["self"]) fun _ _ _ _ _ _ us hl=>match us,hl with | [_],_=>rfl
 have FM2:=aT (st:=jI) lg2 cg2 kg2
 have bm2:=FM2.binds (ps:=["self"]) fun _ _ _ _ _ _ us hl=>match us,hl with | [_],_=>rfl
 have FM3:=aT (st:=lR) lg3 cg3 kg3
 have bm3:=FM3.binds (ps:=["self"]) fun _ _ _ _ _ _ us hl=>match us,hl with | [_],_=>rfl
 have FM4:=aT (st:=rM) lg4 cg4 kg4
 have bm4:=FM4.binds (ps:=["self"]) fun _ _ _ _ _ _ us hl=>match us,hl with | [_],_=>rfl
 have MT:lu K mg C:=⟨⟨pg,hd,po,sa⟩,n_program,n_in_boxes,n_in_cells,n_in_asides,n_rung,n_told_numbers,n_seen_numbers,n_pile,n_marks_done,n_here,n_how_ended⟩
 have GE:=KC (P:=l.prog) (w:=w) (base:=base) F0 MT
 have GCa:=zr (P:=l.prog) (w:=w) (base:=base) F18 MT
 have DD:IY l.prog w K mg base C pE:=⟨⟨f1,_,⟨qu,nE,lE,kE,oE,_,e_stop,rfl⟩,Gv F1 MT GE F0.kp b0 m0,b1,F1.kp⟩,⟨f2,_,⟨qu,nE,lE,kE,oE,_,e_halt,rfl⟩,Gx F2 MT GE F0.kp b0 m0,b2,F2.kp⟩,⟨f3,_,⟨qu,nE,lE,kE,oE,_,e_back,rfl⟩,Gz F3 MT GE F0.kp b0 m0 T.len,b3,F3.kp⟩,⟨f4,_,⟨qu,nE,lE,kE,oE,_,e_set,rfl⟩,(KG (P:=l.prog) (base:=base) F4 MT).mono (by decide),b4,F4.kp⟩,⟨f5,_,⟨qu,nE,lE,kE,oE,_,e_more,rfl⟩,(FZ (P:=l.prog) (base:=base) F5 MT).mono (by decide),b5,F5.kp⟩,⟨f6,_,⟨qu,nE,lE,kE,oE,_,e_copy,rfl⟩,(Gb (P:=l.prog) (base:=base) F6 MT).mono (by decide),b6,F6.kp⟩,⟨f7,_,⟨qu,nE,lE,kE,oE,_,e_add,rfl⟩,(KJ (P:=l.prog) (base:=base) F7 MT).mono (by decide),b7,F7.kp⟩,⟨f8,_,⟨qu,nE,lE,kE,oE,_,e_less,rfl⟩,(Gd (P:=l.prog) (base:=base) F8 MT).mono (by decide),b8,F8.kp⟩,⟨f9,_,⟨qu,nE,lE,kE,oE,_,e_load,rfl⟩,(Gf (P:=l.prog) (base:=base) F9 MT).mono (by decide),b9,F9.kp⟩,⟨Pu,_,⟨qu,nE,lE,kE,oE,_,e_keep,rfl⟩,(Gj (P:=l.prog) (base:=base) F10 MT).mono (by decide),b10,F10.kp⟩,⟨f11,_,⟨qu,nE,lE,kE,oE,_,e_tell,rfl⟩,(Gm (P:=l.prog) (base:=base) F11 MT).mono (by decide),b11,F11.kp⟩,⟨Pw,_,⟨qu,nE,lE,kE,oE,_,e_see,rfl⟩,(KP (P:=l.prog) (base:=base) F12 MT).mono (by decide),b12,F12.kp⟩,⟨Px,_,⟨qu,nE,lE,kE,oE,_,e_put,rfl⟩,(KN (P:=l.prog) (base:=base) F13 MT).mono (by decide),b13,F13.kp⟩,⟨Py,_,⟨qu,nE,lE,kE,oE,_,e_take,rfl⟩,(Gh (P:=l.prog) (base:=base) F14 MT).mono (by decide),b14,F14.kp⟩,⟨Pz,_,⟨qu,nE,lE,kE,oE,_,e_jump,rfl⟩,(Gp (P:=l.prog) (base:=base) F15 MT).mono (by decide),b15,F15.kp⟩,⟨PB,_,⟨qu,nE,lE,kE,oE,_,e_zero,rfl⟩,(Gr (P:=l.prog) (base:=base) F16 MT).mono (by decide),b16,F16.kp⟩,⟨PD,_,⟨qu,nE,lE,kE,oE,_,e_below,rfl⟩,(Dj (P:=l.prog) (base:=base) F17 MT).mono (by decide),b17,F17.kp⟩,⟨Md,_,⟨qu,nE,lE,kE,oE,_,e_call,rfl⟩,(zr (P:=l.prog) (base:=base) F18 MT).mono (by decide),b18,F18.kp⟩,⟨PF,_,⟨qu,nE,lE,kE,oE,_,e_mark,rfl⟩,GJ F19 MT GCa F18.kp b18 m18,b19,F19.kp⟩,⟨PH,_,⟨qu,nE,lE,kE,oE,_,e_table,rfl⟩,(Dk (P:=l.prog) (base:=base) F20 MT T.len).mono (by decide),b20,F20.kp⟩⟩
 have nF:=FU (P:=l.prog) (w:=w) (base:=base) F46 T
 have ia:=Am (P:=l.prog) (w:=w) (base:=base) F47 T
 have nG:=Kt (P:=l.prog) (w:=w) (base:=base) F49 T
 have vW:=Ku (P:=l.prog) (w:=w) (base:=base) F48 T nG F49.kp b49 m49
 have uE:=FV (P:=l.prog) (w:=w) (base:=base) F50 T
 have uF:=Hk (P:=l.prog) (w:=w) (base:=base) F56 T
 have qN:=DC (P:=l.prog) (w:=w) (base:=base) F55 T
 have uG:=DE (P:=l.prog) (w:=w) (base:=base) F57 T uF F56.kp b56 m56 qN F55.kp b55 m55
 have qO:=DF (P:=l.prog) (w:=w) (base:=base) F54 T
 have lD:=Lb (P:=l.prog) (w:=w) (base:=base) F53 T ia F47.kp b47 m47
 have i7:=NX (P:=l.prog) (w:=w) (base:=base) F37 T
 have nI:=NZ (P:=l.prog) (w:=w) (base:=base) F38 T
 have vX:=N2 (P:=l.prog) (w:=w) (base:=base) F41 T
 have uH:=N5 (P:=l.prog) (w:=w) (base:=base) F42 T vX F41.kp b41 m41
 have lX:=N8 (P:=l.prog) (w:=w) (base:=base) F43 T nI F38.kp b38 m38 i7 F37.kp b37 m37
 have Bu:=Ob (P:=l.prog) (w:=w) (base:=base) F44 T MT ⟨ag1,ig1,kg1⟩ (zu FM1 T MT) bm1 ⟨ag2,ig2,kg2⟩ (Aw FM2 T MT) bm2 ⟨ag3,ig3,kg3⟩ (vI FM3 T MT) bm3 ⟨ag4,ig4,kg4⟩ (Hi FM4 MT (mg_of X G aE) DD) bm4 lX F43.kp b43 m43
 have uI:=Hz (P:=l.prog) (w:=w) (base:=base) F58 T
 have vY:=Lp (P:=l.prog) (w:=w) (base:=base) F59 T qO F54.kp b54 m54 uI F58.kp b58 m58 uG F57.kp b57 m57
 have qt:=xE (P:=l.prog) (w:=w) (base:=base) F21 T
 have jX:=qJ (P:=l.prog) (w:=w) (base:=base) F22 T
 have yv:=xF (P:=l.prog) (w:=w) (base:=base) F23 T qt F21.kp b21 m21 jX F22.kp b22 m22
 have mQ:=vO (P:=l.prog) (w:=w) (base:=base) F24 T
 have ke:=xG (P:=l.prog) (w:=w) (base:=base) F29 T
 have i9:=nj (P:=l.prog) (w:=w) (base:=base) F25 T mQ F24.kp b24 m24
 have qP:=qK (P:=l.prog) (w:=w) (base:=base) F26 T i9 F25.kp b25 m25
 have yw:=xH (P:=l.prog) (w:=w) (base:=base) F27 T i9 F25.kp b25 m25 qP F26.kp b26 m26
 have lF:=tW (P:=l.prog) (w:=w) (base:=base) F28 T yw F27.kp b27 m27
 have Bv:=AI (P:=l.prog) (w:=w) (base:=base) F30 T ke F29.kp b29 m29 lF F28.kp b28 m28
 have nJ:=nu (P:=l.prog) (w:=w) (base:=base) F31 T jX F22.kp b22 m22
 have qQ:=qL (P:=l.prog) (w:=w) (base:=base) F32 T Bv F30.kp b30 m30 nJ F31.kp b31 m31 qt F21.kp b21 m21
 have vZ:=vP (P:=l.prog) (w:=w) (base:=base) F33 T ke F29.kp b29 m29 mQ F24.kp b24 m24 yv F23.kp b23 m23
 have yx:=xI (P:=l.prog) (w:=w) (base:=base) F34 T ke F29.kp b29 m29 lF F28.kp b28 m28
 have yz:=xJ (P:=l.prog) (w:=w) (base:=base) F35 T vZ F33.kp b33 m33 yx F34.kp b34 m34
 have nK:=ny (P:=l.prog) (w:=w) (base:=base) F36 T yz F35.kp b35 m35
 have jN:=OS (P:=l.prog) (w:=w) (base:=base) F39 T
 have kf:=OV (P:=l.prog) (w:=w) (base:=base) F40 T jN F39.kp b39 m39
 have qR:=OX (P:=l.prog) (w:=w) (base:=base) F45 T qQ F32.kp b32 m32 nK F36.kp b36 m36 kf F40.kp b40 m40 i7 F37.kp b37 m37 uH F42.kp b42 m42 Bu F44.kp b44 m44 MT (mg_of X G aC) ⟨mkc,ag0,ig0,kc⟩ (GQ FM0 T MT) bm0 ⟨ag1,ig1,kg1⟩ (zu FM1 T MT) bm1 ⟨ag3,ig3,kg3⟩ (vI FM3 T MT) bm3
 have uJ:=vS (P:=l.prog) (w:=w) (base:=base) F51 T ia F47.kp b47 m47 vW F48.kp b48 m48 uE F50.kp b50 m50
 have uK:=vT (P:=l.prog) (w:=w) (base:=base) F52 T
 have uL:=vU (P:=l.prog) (w:=w) (base:=base) F60 T ia F47.kp b47 m47 uK F52.kp b52 m52
 have uM:=HW (P:=l.prog) (w:=w) (base:=base) F61 T
 exact LQ F62 T nF F46.kp b46 m46 uJ F51.kp b51 m51 uL F60.kp b60 m60 lD F53.kp b53 m53 vY F59.kp b59 m59 qR F45.kp b45 m45 uM F61.kp b61 m61
theorem walk {l:OpenLaw} {q:Program} {loose:List Str} {XP:(Str→Option Value)→Heap→Prop} {YP:World→Heap→Prop} {d:DefRec} {K:Params→Frag} (hn:l.most=some 63) (hdf:d.params.defaults=[])
  (hY:∀ (w:World) (h:Heap),YP w h→(K w.params).In h)
  (F:∀ (w:World) (mg:Str→Option Value) (fa:Addr) (h:Heap),(K w.params).In h→h.Ns ci mg→mg d.name=some (.ref fa) →
   ∃ fd:cx,(∀ (s:Shared) (u:Value),BindsTo s fd ⟨[u],[]⟩ [("_law_script",u)])∧∀ base:Heap,(K w.params).In base→base.Ns ci mg→aR l.prog w (K w.params) mg base bV 10 fa fd ["_law_script"] (zM (K:=K w.params))) :
  WalkO q loose XP YP l.row.toRowW d [] (fun f vs=>PySem.call f vs) :=
 L2.yN (n:=63) (k:=10) (x := "_law_script") (CX:=fun _=>bV) (sp:=fun w=>zM (K:=K w.params)) hn (by decide) hdf ⟨rfl,by decide,by decide⟩ hY F (fun _ _ a ns hl _ hS=>⟨a,ns,rfl,hS,hl,fun _=>rfl⟩) fun _ _ _ _ _ z=>z
end My
open PySem PySem.W PyProof.Rows
set_option maxRecDepth 100000 in
set_option maxHeartbeats 0 in
theorem PySem.Challenge.cw_widenrows_k51_the_plain_reading_holds : PySem.Challenge.rw_widenrows_k51_the_plain_reading.Holds := by
 w_on; o_law; k_head; (case hw=>w_witness2)
 k_fill
 refine My.walk (l:=PySem.Challenge.rw_widenrows_k51_the_plain_reading) rfl rfl (fun w h Y=>kIn_of Y) ?F
 case F =>
  intro w mg fa h KX G hmg
  refine' My.all_mk KX G hmg ?a0 ?l0 ?c0 ?k0 ?a1 ?l1 ?c1 ?k1 ?a2 ?l2 ?c2 ?k2 ?a3 ?l3 ?c3 ?k3 ?a4 ?l4 ?c4 ?k4 ?a5 ?l5 ?c5 ?k5 ?a6 ?l6 ?c6 ?k6 ?a7 ?l7 ?c7 ?k7 ?a8 ?l8 ?c8 ?k8 ?a9 ?l9 ?c9 ?k9 ?a10 ?l10 ?c10 ?k10 ?a11 ?l11 ?c11 ?k11 ?a12 ?l12 ?c12 ?k12 ?a13 ?l13 ?c13 ?k13 ?a14 ?l14 ?c14 ?k14 ?a15 ?l15 ?c15 ?k15 ?a16 ?l16 ?c16 ?k16 ?a17 ?l17 ?c17 ?k17 ?a18 ?l18 ?c18 ?k18 ?a19 ?l19 ?c19 ?k19 ?a20 ?l20 ?c20 ?k20 ?a21 ?l21 ?c21 ?k21 ?a22 ?l22 ?c22 ?k22 ?a23 ?l23 ?c23 ?k23 ?a24 ?l24 ?c24 ?k24 ?a25 ?l25 ?c25 ?k25 ?a26 ?l26 ?c26 ?k26 ?a27 ?l27 ?c27 ?k27 ?a28 ?l28 ?c28 ?k28 ?a29 ?l29 ?c29 ?k29 ?a30 ?l30 ?c30 ?k30 ?a31 ?l31 ?c31 ?k31 ?a32 ?l32 ?c32 ?k32 ?a33 ?l33 ?c33 ?k33 ?a34 ?l34 ?c34 ?k34 ?a35 ?l35 ?c35 ?k35 ?a36 ?l36 ?c36 ?k36 ?a37 ?l37 ?c37 ?k37 ?a38 ?l38 ?c38 ?k38 ?a39 ?l39 ?c39 ?k39 ?a40 ?l40 ?c40 ?k40 ?a41 ?l41 ?c41 ?k41 ?a42 ?l42 ?c42 ?k42 ?a43 ?l43 ?c43 ?k43 ?a44 ?l44 ?c44 ?k44 ?a45 ?l45 ?c45 ?k45 ?a46 ?l46 ?c46 ?k46 ?a47 ?l47 ?c47 ?k47 ?a48 ?l48 ?c48 ?k48 ?a49 ?l49 ?c49 ?k49 ?a50 ?l50 ?c50 ?k50 ?a51 ?l51 ?c51 ?k51 ?a52 ?l52 ?c52 ?k52 ?a53 ?l53 ?c53 ?k53 ?a54 ?l54 ?c54 ?k54 ?a55 ?l55 ?c55 ?k55 ?a56 ?l56 ?c56 ?k56 ?a57 ?l57 ?c57 ?k57 ?a58 ?l58 ?c58 ?k58 ?a59 ?l59 ?c59 ?k59 ?a60 ?l60 ?c60 ?k60 ?a61 ?l61 ?c61 ?k61 ?a62 ?l62 ?c62 ?k62 ?z_len ?z_list ?z_tuple ?z_int ?z_bool ?z_str ?z_dict ?z_isinstance ?z_enumerate ?z_range ?z_all ?z_zip ?z_sorted ?z_set ?aNOT_GOING_ON ?lNOT_GOING_ON ?aMOST_ROWS ?aMOST_TARGETS ?aBOUNDS ?lBOUNDS ?kBOUNDS ?oBOUNDS ?eBOUNDS0 ?lBOUNDS0 ?eBOUNDS1 ?lBOUNDS1 ?eBOUNDS2 ?lBOUNDS2 ?eBOUNDS3 ?lBOUNDS3 ?eBOUNDS4 ?lBOUNDS4 ?eBOUNDS5 ?lBOUNDS5 ?aPARTS ?lPARTS ?kPARTS ?oPARTS ?ePARTS0 ?lPARTS0 ?ePARTS1 ?lPARTS1 ?ePARTS2 ?lPARTS2 ?ePARTS3 ?lPARTS3 ?ePARTS4 ?lPARTS4 ?ePARTS5 ?lPARTS5 ?ePARTS6 ?lPARTS6 ?ePARTS7 ?lPARTS7 ?ePARTS8 ?lPARTS8 ?ePARTS9 ?lPARTS9 ?ePARTS10 ?lPARTS10 ?ePARTS11 ?lPARTS11 ?ePARTS12 ?lPARTS12 ?ePARTS13 ?lPARTS13 ?ePARTS14 ?lPARTS14 ?ePARTS15 ?lPARTS15 ?ePARTS16 ?lPARTS16 ?ePARTS17 ?lPARTS17 ?ePARTS18 ?lPARTS18 ?ePARTS19 ?lPARTS19 ?aMOST_WISHES ?aPLACES ?lPLACES ?kPLACES ?oPLACES ?ePLACES0 ?ePLACES1 ?ePLACES2 ?aWHATS ?lWHATS ?kWHATS ?oWHATS ?eWHATS0 ?lWHATS0 ?eWHATS1 ?lWHATS1 ?eWHATS2 ?lWHATS2 ?aC ?ag0 ?ig0 ?lg0 ?cg0 ?kg0 ?ag1 ?ig1 ?lg1 ?cg1 ?kg1 ?ag2 ?ig2 ?lg2 ?cg2 ?kg2 ?ag3 ?ig3 ?lg3 ?cg3 ?kg3 ?ag4 ?ig4 ?lg4 ?cg4 ?kg4 ?pg ?hd ?po ?sa ?mkc ?kc ?n_program ?n_in_boxes ?n_in_cells ?n_in_asides ?n_rung ?n_told_numbers ?n_seen_numbers ?n_pile ?n_marks_done ?n_here ?n_how_ended ?aE ?lE ?kE ?oE ?e_stop ?e_halt ?e_back ?e_set ?e_more ?e_copy ?e_add ?e_less ?e_load ?e_keep ?e_tell ?e_see ?e_put ?e_take ?e_jump ?e_zero ?e_below ?e_call ?e_mark ?e_table
  (case a0=>k_is)
  (case l0=>k_is)
  (case c0=>k_is)
  (case k0=>k_is)
  (case a1=>k_is)
  (case l1=>k_is)
  (case c1=>k_is)
  (case k1=>k_is)
  (case a2=>k_is)
  (case l2=>k_is)
  (case c2=>k_is)
  (case k2=>k_is)
  (case a3=>k_is)
  (case l3=>k_is)
  (case c3=>k_is)
  (case k3=>k_is)
  (case a4=>k_is)
  (case l4=>k_is)
  (case c4=>k_is)
  (case k4=>k_is)
  (case a5=>k_is)
  (case l5=>k_is)
  (case c5=>k_is)
  (case k5=>k_is)
  (case a6=>k_is)
  (case l6=>k_is)
  (case c6=>k_is)
  (case k6=>k_is)
  (case a7=>k_is)
  (case l7=>k_is)
  (case c7=>k_is)
  (case k7=>k_is)
  (case a8=>k_is)
  (case l8=>k_is)
  (case c8=>k_is)
  (case k8=>k_is)
  (case a9=>k_is)
  (case l9=>k_is)
  (case c9=>k_is)
  (case k9=>k_is)
  (case a10=>k_is)
  (case l10=>k_is)
  (case c10=>k_is)
  (case k10=>k_is)
  (case a11=>k_is)
  (case l11=>k_is)
  (case c11=>k_is)
  (case k11=>k_is)
  (case a12=>k_is)
  (case l12=>k_is)
  (case c12=>k_is)
  (case k12=>k_is)
  (case a13=>k_is)
  (case l13=>k_is)
  (case c13=>k_is)
  (case k13=>k_is)
  (case a14=>k_is)
  (case l14=>k_is)
  (case c14=>k_is)
  (case k14=>k_is)
  (case a15=>k_is)
  (case l15=>k_is)
  (case c15=>k_is)
  (case k15=>k_is)
  (case a16=>k_is)
  (case l16=>k_is)
  (case c16=>k_is)
  (case k16=>k_is)
  (case a17=>k_is)
  (case l17=>k_is)
  (case c17=>k_is)
  (case k17=>k_is)
  (case a18=>k_is)
  (case l18=>k_is)
  (case c18=>k_is)
  (case k18=>k_is)
  (case a19=>k_is)
  (case l19=>k_is)
  (case c19=>k_is)
  (case k19=>k_is)
  (case a20=>k_is)
  (case l20=>k_is)
  (case c20=>k_is)
  (case k20=>k_is)
  (case a21=>k_is)
  (case l21=>k_is)
  (case c21=>k_is)
  (case k21=>k_is)
  (case a22=>k_is)
  (case l22=>k_is)
  (case c22=>k_is)
  (case k22=>k_is)
  (case a23=>k_is)
  (case l23=>k_is)
  (case c23=>k_is)
  (case k23=>k_is)
  (case a24=>k_is)
  (case l24=>k_is)
  (case c24=>k_is)
  (case k24=>k_is)
  (case a25=>k_is)
  (case l25=>k_is)
  (case c25=>k_is)
  (case k25=>k_is)
  (case a26=>k_is)
  (case l26=>k_is)
  (case c26=>k_is)
  (case k26=>k_is)
  (case a27=>k_is)
  (case l27=>k_is)
  (case c27=>k_is)
  (case k27=>k_is)
  (case a28=>k_is)
  (case l28=>k_is)
  (case c28=>k_is)
  (case k28=>k_is)
  (case a29=>k_is)
  (case l29=>k_is)
  (case c29=>k_is)
  (case k29=>k_is)
  (case a30=>k_is)
  (case l30=>k_is)
  (case c30=>k_is)
  (case k30=>k_is)
  (case a31=>k_is)
  (case l31=>k_is)
  (case c31=>k_is)
  (case k31=>k_is)
  (case a32=>k_is)
  (case l32=>k_is)
  (case c32=>k_is)
  (case k32=>k_is)
  (case a33=>k_is)
  (case l33=>k_is)
  (case c33=>k_is)
  (case k33=>k_is)
  (case a34=>k_is)
  (case l34=>k_is)
  (case c34=>k_is)
  (case k34=>k_is)
  (case a35=>k_is)
  (case l35=>k_is)
  (case c35=>k_is)
  (case k35=>k_is)
  (case a36=>k_is)
  (case l36=>k_is)
  (case c36=>k_is)
  (case k36=>k_is)
  (case a37=>k_is)
  (case l37=>k_is)
  (case c37=>k_is)
  (case k37=>k_is)
  (case a38=>k_is)
  (case l38=>k_is)
  (case c38=>k_is)
  (case k38=>k_is)
  (case a39=>k_is)
  (case l39=>k_is)
  (case c39=>k_is)
  (case k39=>k_is)
  (case a40=>k_is)
  (case l40=>k_is)
  (case c40=>k_is)
  (case k40=>k_is)
  (case a41=>k_is)
  (case l41=>k_is)
  (case c41=>k_is)
  (case k41=>k_is)
  (case a42=>k_is)
  (case l42=>k_is)
  (case c42=>k_is)
  (case k42=>k_is)
  (case a43=>k_is)
  (case l43=>k_is)
  (case c43=>k_is)
  (case k43=>k_is)
  (case a44=>k_is)
  (case l44=>k_is)
  (case c44=>k_is)
  (case k44=>k_is)
  (case a45=>k_is)
  (case l45=>k_is)
  (case c45=>k_is)
  (case k45=>k_is)
  (case a46=>k_is)
  (case l46=>k_is)
  (case c46=>k_is)
  (case k46=>k_is)
  (case a47=>k_is)
  (case l47=>k_is)
  (case c47=>k_is)
  (case k47=>k_is)
  (case a48=>k_is)
  (case l48=>k_is)
  (case c48=>k_is)
  (case k48=>k_is)
  (case a49=>k_is)
  (case l49=>k_is)
  (case c49=>k_is)
  (case k49=>k_is)
  (case a50=>k_is)
  (case l50=>k_is)
  (case c50=>k_is)
  (case k50=>k_is)
  (case a51=>k_is)
  (case l51=>k_is)
  (case c51=>k_is)
  (case k51=>k_is)
  (case a52=>k_is)
  (case l52=>k_is)
  (case c52=>k_is)
  (case k52=>k_is)
  (case a53=>k_is)
  (case l53=>k_is)
  (case c53=>k_is)
  (case k53=>k_is)
  (case a54=>k_is)
  (case l54=>k_is)
  (case c54=>k_is)
  (case k54=>k_is)
  (case a55=>k_is)
  (case l55=>k_is)
  (case c55=>k_is)
  (case k55=>k_is)
  (case a56=>k_is)
  (case l56=>k_is)
  (case c56=>k_is)
  (case k56=>k_is)
  (case a57=>k_is)
  (case l57=>k_is)
  (case c57=>k_is)
  (case k57=>k_is)
  (case a58=>k_is)
  (case l58=>k_is)
  (case c58=>k_is)
  (case k58=>k_is)
  (case a59=>k_is)
  (case l59=>k_is)
  (case c59=>k_is)
  (case k59=>k_is)
  (case a60=>k_is)
  (case l60=>k_is)
  (case c60=>k_is)
  (case k60=>k_is)
  (case a61=>k_is)
  (case l61=>k_is)
  (case c61=>k_is)
  (case k61=>k_is)
  (case a62=>k_is)
  (case l62=>k_is)
  (case c62=>k_is)
  (case k62=>k_is)
  (case z_len=>k_is)
  (case z_list=>k_is)
  (case z_tuple=>k_is)
  (case z_int=>k_is)
  (case z_bool=>k_is)
  (case z_str=>k_is)
  (case z_dict=>k_is)
  (case z_isinstance=>k_is)
  (case z_enumerate=>k_is)
  (case z_range=>k_is)
  (case z_all=>k_is)
  (case z_zip=>k_is)
  (case z_sorted=>k_is)
  (case z_set=>k_is)
  (case aNOT_GOING_ON=>k_is)
  (case lNOT_GOING_ON=>k_is)
  (case aMOST_ROWS=>k_is)
  (case aMOST_TARGETS=>k_is)
  (case aBOUNDS=>k_is)
  (case lBOUNDS=>k_is)
  (case kBOUNDS=>k_keys)
  (case oBOUNDS=>first | exact rfl | decide | k_is)
  (case eBOUNDS0=>k_is)
  (case lBOUNDS0=>k_is)
  (case eBOUNDS1=>k_is)
  (case lBOUNDS1=>k_is)
  (case eBOUNDS2=>k_is)
  (case lBOUNDS2=>k_is)
  (case eBOUNDS3=>k_is)
  (case lBOUNDS3=>k_is)
  (case eBOUNDS4=>k_is)
  (case lBOUNDS4=>k_is)
  (case eBOUNDS5=>k_is)
  (case lBOUNDS5=>k_is)
  (case aPARTS=>k_is)
  (case lPARTS=>k_is)
  (case kPARTS=>k_keys)
  (case oPARTS=>first | exact rfl | decide | k_is)
  (case ePARTS0=>k_is)
  (case lPARTS0=>k_is)
  (case ePARTS1=>k_is)
  (case lPARTS1=>k_is)
  (case ePARTS2=>k_is)
  (case lPARTS2=>k_is)
  (case ePARTS3=>k_is)
  (case lPARTS3=>k_is)
  (case ePARTS4=>k_is)
  (case lPARTS4=>k_is)
  (case ePARTS5=>k_is)
  (case lPARTS5=>k_is)
  (case ePARTS6=>k_is)
  (case lPARTS6=>k_is)
  (case ePARTS7=>k_is)
  (case lPARTS7=>k_is)
  (case ePARTS8=>k_is)
  (case lPARTS8=>k_is)
  (case ePARTS9=>k_is)
  (case lPARTS9=>k_is)
  (case ePARTS10=>k_is)
  (case lPARTS10=>k_is)
  (case ePARTS11=>k_is)
  (case lPARTS11=>k_is)
  (case ePARTS12=>k_is)
  (case lPARTS12=>k_is)
  (case ePARTS13=>k_is)
  (case lPARTS13=>k_is)
  (case ePARTS14=>k_is)
  (case lPARTS14=>k_is)
  (case ePARTS15=>k_is)
  (case lPARTS15=>k_is)
  (case ePARTS16=>k_is)
  (case lPARTS16=>k_is)
  (case ePARTS17=>k_is)
  (case lPARTS17=>k_is)
  (case ePARTS18=>k_is)
  (case lPARTS18=>k_is)
  (case ePARTS19=>k_is)
  (case lPARTS19=>k_is)
  (case aMOST_WISHES=>k_is)
  (case aPLACES=>k_is)
  (case lPLACES=>k_is)
  (case kPLACES=>k_keys)
  (case oPLACES=>first | exact rfl | decide | k_is)
  (case ePLACES0=>k_is)
  (case ePLACES1=>k_is)
  (case ePLACES2=>k_is)
  (case aWHATS=>k_is)
  (case lWHATS=>k_is)
  (case kWHATS=>k_keys)
  (case oWHATS=>first | exact rfl | decide | k_is)
  (case eWHATS0=>k_is)
  (case lWHATS0=>k_is)
  (case eWHATS1=>k_is)
  (case lWHATS1=>k_is)
  (case eWHATS2=>k_is)
  (case lWHATS2=>k_is)
  (case aC=>k_is)
  (case ag0=>k_is)
  (case ig0=>k_is)
  (case lg0=>k_is)
  (case cg0=>k_is)
  (case kg0=>k_is)
  (case ag1=>k_is)
  (case ig1=>k_is)
  (case lg1=>k_is)
  (case cg1=>k_is)
  (case kg1=>k_is)
  (case ag2=>k_is)
  (case ig2=>k_is)
  (case lg2=>k_is)
  (case cg2=>k_is)
  (case kg2=>k_is)
  (case ag3=>k_is)
  (case ig3=>k_is)
  (case lg3=>k_is)
  (case cg3=>k_is)
  (case kg3=>k_is)
  (case ag4=>k_is)
  (case ig4=>k_is)
  (case lg4=>k_is)
  (case cg4=>k_is)
  (case kg4=>k_is)
  (case pg=>k_is)
  (case hd=>k_is)
  (case po=>k_is)
  (case sa=>k_is)
  (case mkc=>k_is)
  (case kc=>k_is)
  (case n_program=>k_is)
  (case n_in_boxes=>k_is)
  (case n_in_cells=>k_is)
  (case n_in_asides=>k_is)
  (case n_rung=>k_is)
  (case n_told_numbers=>k_is)
  (case n_seen_numbers=>k_is)
  (case n_pile=>k_is)
  (case n_marks_done=>k_is)
  (case n_here=>k_is)
  (case n_how_ended=>k_is)
  (case aE=>k_is)
  (case lE=>k_is)
  (case kE=>k_keys)
  (case oE=>first | exact rfl | decide | k_is)
  (case e_stop=>k_is)
  (case e_halt=>k_is)
  (case e_back=>k_is)
  (case e_set=>k_is)
  (case e_more=>k_is)
  (case e_copy=>k_is)
  (case e_add=>k_is)
  (case e_less=>k_is)
  (case e_load=>k_is)
  (case e_keep=>k_is)
  (case e_tell=>k_is)
  (case e_see=>k_is)
  (case e_put=>k_is)
  (case e_take=>k_is)
  (case e_jump=>k_is)
  (case e_zero=>k_is)
  (case e_below=>k_is)
  (case e_call=>k_is)
  (case e_mark=>k_is)
  (case e_table=>k_is)
#print axioms PySem.Challenge.cw_widenrows_k51_the_plain_reading_holds
