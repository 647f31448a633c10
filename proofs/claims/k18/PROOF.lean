import PyProof.Rows.All
import Wide.All
import OpenK.AllK
import Wide.FinOn
import Lean
import PyProof.EqAt
import PyProof.EqKinds
import PyProof.TupleCall
import PyProof.NeKinds
import PyProof.ListRange
import KE.KDictSum
import Wide.Seal
import PyProof.EnumIter
import PyProof.EnumFor
import PyProof.EnumMake
import PyProof.EnumStmt
import PyProof.ConsumeWalk
import KE.KPairComp
import PyProof.DictItemsLoops
import KE.KEqDict
import PyProof.AttrMissSeq
import PyProof.CollectWalk
import OpenK.KTop
import PyProof.TupleOps
import PyProof.ListMulRoad
import PyProof.FactsAll.tuple_2
import PyProof.StrBlock2
import PyProof.Rows.SortWalk
import KE.KFind
import PyProof.StationsW
import PyProof.Rows.OwnQ
import OpenK.KOwn
import KE.KTryMore
import PyProof.NsDelKeeps
import PyProof.ExcArgsOwn
import PyProof.ExcAttrAll.ValueError
import PyProof.InstStoreFacts
import PyProof.ExcBaseAll.ValueError
import PyProof.Rows.FStr
import OpenK.KCls
import KE.LcSums
import PyProof.Cells
import PyProof.Rows.TupAdd
import PyProof.ZipIter
import PyProof.TupleIter
import PyProof.WalksMore
import KE.KTurns
import PyProof.FactsAll.tuple_0
import PyProof.FactsAll.tuple_1
import PyProof.FactsAll.tuple_3
import KE.KIntText
import PyProof.StrWalks
import PySem.Challenge.RW_widenrows_k18_whole_units_read_are_told
set_option Elab.async false
set_option linter.all false
set_option maxRecDepth 100000
open List renaming getElem?_eq_getElem → aa, getElem?_map → ac, getElem?_eq_some_iff → ad, mem_of_getElem? → ag, size_toArray → al, length_append → am, getElem?_append_left → ap, getElem?_append_right → ar, mem_singleton → av, getElem_mem → ba, length_cons → bv, map_cons → ca
open PySem renaming wpAny_bind → c8, wpAny_pure → db, mainGlobals → dL, FuncData → ed, sizeLine → ee, wpAny_mono → eg
open PySem.Heap renaming get?_push_of_some → fg, get?_push_size → fk, lt_size → fm
open PySem.F renaming plainAttrs_list → fv, slot_list_append → fw, type_list_append → gf, plainAttrs_str → gr
open PySem.W renaming Frag → gv
open Nat renaming le_refl → jp, ne_of_lt → js, le_trans → kq
open Bool renaming false_ne_true → kt
open Int renaming toNat_natCast → le
local macro_rules | `(tactic| walk_at "sc1") => `(tactic| exact ⟨rfl,rfl,rfl,by decide +kernel,rfl,by decide +kernel,by decide +kernel⟩)
local macro_rules | `(tactic| walk_at "sc2") => `(tactic| exact ⟨rfl,by decide +kernel,by decide +kernel,by decide +kernel,by decide +kernel,by decide +kernel⟩)
local macro_rules | `(tactic| walk_at "ln") => `(tactic| (intro vs H Q E h; first | (cases h; subst_vars; rfl) | (repeat (first | (obtain ⟨e, _⟩ := h; subst e; rfl) | (obtain ⟨_, h⟩ := h)))))
namespace L2
open PySem PySem.Spec PyProof.Rows
abbrev Key:=Sum Int Str
def qO:Key->Value->Bool
 | .inl k,v=>Value.isInt k v
 | .inr x,v=>Value.isStrOf x v
def RD(w:World):Key->Int
 | .inl k=>hashInt k
 | .inr x=>hashStr w x
theorem cP:∀{k:Key} {v:Value},qO k v=true->(∃i t,k=Sum.inl i/\v=Value.int i t)\/(∃x t,k=Sum.inr x/\v=Value.str x t)
 | .inl i,v,h=>by
  obtain⟨t,e⟩:=Value.isInt_shape (k:=i) (v:=v) h;exact .inl ⟨i,t,rfl,e⟩
 | .inr x,v,h=>by obtain⟨t,e⟩:=Value.isStrOf_shape (x:=x) (v:=v) h;exact .inr ⟨x,t,rfl,e⟩
theorem zT(i:Int)(t:Tok):qO (.inl i) (.int i t)=true:=by simp[qO,Value.isInt]
theorem zU(x:Str)(t:Tok):qO (.inr x) (.str x t)=true:=by simp[qO,Value.isStrOf]
theorem IJ(a b:Int):decide ((Sum.inl a:Key)=Sum.inl b)=(a==b):=by
 by_cases e:a=b
 ·subst e;simp
 ·have h:¬(Sum.inl a:Key)=Sum.inl b:=fun q=>e (Sum.inl.inj q);rw[decide_eq_false h];exact(beq_eq_false_iff_ne.mpr e).symm
theorem IK(a b:Str):decide ((Sum.inr a:Key)=Sum.inr b)=decide (a=b):=by
 by_cases e:a=b
 ·subst e;simp
 ·have h:¬(Sum.inr a:Key)=Sum.inr b:=fun q=>e (Sum.inr.inj q);rw[decide_eq_false h,decide_eq_false e]
theorem IL(a:Int)(b:Str):decide ((Sum.inl a:Key)=Sum.inr b)=false:=decide_eq_false (fun q=>nomatch q)
theorem IQ(a:Str)(b:Int):decide ((Sum.inr a:Key)=Sum.inl b)=false:=decide_eq_false (fun q=>nomatch q)
def cW(prog:Program)(w:World):PySem.KeyKind prog w Key where
 is:=qO
 hash:=RD w
 inj:=fun v a b ha hb=>by
  rcases cP ha with ⟨i,t,rfl,rfl⟩ | ⟨x,t,rfl,rfl⟩
  ·rcases cP hb with ⟨j,u,rfl,e⟩ | ⟨y,u,rfl,e⟩
   ·injection e with e1 _;rw[e1]
   ·exact nomatch e
  ·rcases cP hb with ⟨j,u,rfl,e⟩ | ⟨y,u,rfl,e⟩
   ·exact nomatch e
   ·injection e with e1 _;rw[e1]
 byValue:=fun k v h=>by rcases cP h with ⟨i,t,rfl,rfl⟩ | ⟨x,t,rfl,rfl⟩<;>rfl
 pyHash:=fun hv h=>by
  rcases cP hv with ⟨i,t,rfl,rfl⟩ | ⟨x,t,rfl,rfl⟩
  ·exact wpAny_pyHash_int h
  ·exact wpAny_pyHash_str h
 eqBool:=fun hu hv h=>by
  rcases cP hu with ⟨i,t,rfl,rfl⟩ | ⟨x,t,rfl,rfl⟩
  ·rcases cP hv with ⟨j,u,rfl,rfl⟩ | ⟨y,u,rfl,rfl⟩
   ·rw[IJ]at h;exact wpAny_eqBool_int h
   ·rw[IL]at h;exact SeqAt.EqAt.int_str i t y u _ _ _ _ h
  ·rcases cP hv with ⟨j,u,rfl,rfl⟩ | ⟨y,u,rfl,rfl⟩
   ·rw[IQ]at h;exact SeqAt.EqAt.str_int x t j u _ _ _ _ h
   ·rw[IK]at h;exact wpAny_eqBool_str h
 «strs»:=fun k x t v h=>by
  rcases cP h with ⟨i,u,rfl,e⟩ | ⟨y,u,rfl,e⟩
  ·exact nomatch e
  ·injection e with e1 _
   subst e1;cases v<;>rfl
theorem uH(prog:Program)(w:World)(i:Int)(t:Tok):(cW prog w).is (.inl i) (.int i t)=true:=zT i t
theorem uI(prog:Program)(w:World)(x:Str)(t:Tok):(cW prog w).is (.inr x) (.str x t)=true:=zU x t
inductive V where
 | non | bl (b:Bool) | int (i:Int) | str (x:Str) | Bk (b:Array UInt8) | flt (b:UInt64) | ref (a:Addr) | ty (n:String)
 deriving DecidableEq
def RelV:V->Value->Prop
 | .non,u=>u=Value.none
 | .bl b,u=>u=Value.bool b
 | .int i,u=>∃t,u=Value.int i t
 | .str x,u=>∃t,u=Value.str x t
 | .Bk b,u=>∃t,u=Value.bytes b t
 | .flt b,u=>∃t,u=Value.float b t
 | .ref a,u=>u=Value.ref a
 | .ty n,u=>u=Value.type n
abbrev Vals:List V->List Value->Prop:=Paired RelV
theorem Vals.length{xs:List V}{us:List Value}(r:Vals xs us):xs.length=us.length:=Paired.length r
theorem Vals.get:∀{xs:List V} {us:List Value} {i:Nat} {x:V},Vals xs us->xs[i]? =some x->∃u,us[i]? =some u/\RelV x u
 | _,_,_,_,.nil,e=>by simp at e
 | _,_,0,_,.cons r _,e=>by simp at e;subst e;exact⟨_,rfl,r⟩
 | _,_,i+1,x,.cons _ t,e=>by obtain⟨u,h1,h2⟩:=Vals.get (i:=i) (x:=x) t (by simpa using e);exact⟨u,by simpa using h1,h2⟩
theorem Vals.append:∀{xs ys:List V} {us ws:List Value},Vals xs us->Vals ys ws->Vals (xs++ys) (us++ws)
 | _,_,_,_,.nil,s=>s
 | _,_,_,_,.cons r t,s=>.cons r (Vals.append t s)
theorem Vals.take:∀{xs:List V} {us:List Value} (n:Nat),Vals xs us->Vals (xs.take n) (us.take n)
 | _,_,0,_=>.nil
 | _,_,_+1,.nil=>.nil
 | _,_,n+1,.cons r t=>.cons r (Vals.take n t)
theorem Vals.drop:∀{xs:List V} {us:List Value} (n:Nat),Vals xs us->Vals (xs.drop n) (us.drop n)
 | _,_,0,r=>r
 | _,_,_+1,.nil=>.nil
 | _,_,n+1,.cons _ t=>Vals.drop n t
def jH:Option V->Option Value->Prop
 | some v,some u=>RelV v u
 | none,none=>True
 | _,_=>False
def KV{κ:Type}:List (κ×V)->List (κ×Value)->Prop:=Paired fun(p:κ×V) (q:κ×Value)=>p.1=q.1/\RelV p.2 q.2
def kV:Key->V
 | .inl i=>.int i
 | .inr x=>.str x
inductive HO where
 | lst (xs:List V)
 | tup (xs:List V)
 | dK (kvs:List (Key×V)) | dT (kvs:List (List Key×V))
 | set (S:Int->Bool) (n:Nat)
 | ins (C dx:Addr) (fs:List (Str×V))
 | own (x:Addr)
 | xd (fs:List (Str×V))
 | met (f x:Addr)
 | rng (lo hi:Int)
 | jI (o:Obj) (u:HO)
 | GZ (ps:Array Value)
 | ext (φ:Heap->Prop)
abbrev Hp:=Addr->Option HO
def upd(H:Hp)(a:Addr)(o:HO):Hp:=fun b=>if b=a then some o else H b
theorem ai{H:Hp}{a:Addr}{o:HO}:upd H a o a=some o:=by unfold upd;rw[if_pos rfl]
theorem aG{H:Hp}{a b:Addr}{o:HO}(h:b≠a):upd H a o b=H b:=by unfold upd;rw[if_neg h]
theorem Ha{H:Hp}{a b:Addr}{o u:HO}(h:H a=some o)(h':H b=some u)(d:o≠u):a≠b:=by intro e;subst e;rw[h]at h';exact d (Option.some.inj h')
theorem cI{H:Hp}{a b:Addr}{o:HO}(h:H a=some o)(h':H b=none):a≠b:=by intro e;subst e;rw[h]at h';cases h'
section
variable (P:Program)(w:World)
def cM(H:Hp)(h:Heap)(a:Addr):HO->Prop
 | .lst xs=>xs.length<=ee/\∃(its:List Value) (n:Nat),Vals xs its/\h.get? a=some {cls:=.type "list",data:=.seq its.toArray n}
 | .tup xs=>xs.length<=ee/\∃its:List Value,Vals xs its/\IsTup h a its.toArray
 | .dK kvs=>kvs.length<=ee/\(a==sysModules)=false/\∃vs,KV kvs vs/\h.DictOf (cW P w) a vs
 | .dT kvs=>kvs.length<=ee/\(a==sysModules)=false/\∃xs:List (List Key×Addr×Value),
   Paired (fun(p:List Key×V) (q:List Key×Addr×Value)=>p.1=q.1/\H q.2.1=some (.tup (p.1.map kV))/\RelV p.2 q.2.2) kvs xs/\
   ∃o es ep,h.get? a=some o/\o.ExactDict/\o.data=.dict es ep/\es.toList=xs.map (entryOfKey (tupleKind (cW P w)))/\(xs.map (·.1)).Nodup
 | .set S n=>h.SetOf (intKind P w) a S n
 | .ins C dx fs=>H dx=some (.own a)/\fs.length<=1000/\dx≠a/\h.get? a=some (PySem.W.instObj C dx)/\
   ∃mA,h.Ns1 dx mA/\(∀f,jH (fs.lookup f) (mA f))/\PySem.Within mA (fs.map (·.1))
 | .own _=>∃o,h.get? a=some o
 | .xd fs=>∃mA,h.Ns1 a mA/\∀f,jH (fs.lookup f) (mA f)
 | .rng lo hi=>∃t u v,h.get? a=some {cls:=.type "range",data:=.fields #[.int lo t,.int hi u,.int 1 v]}
 | .jI o u=>h.get? a=some o/\cM H h a u
 | .GZ ps=>h.get? a=some {cls:=.none,data:=.fields ps}
 | .met f x=>h.get? a=some (PySem.W.methodObj (.ref f) (.ref x))
 | .ext φ=>φ h/\(∃o,h.get? a=some o)/\∀h1 h2:Heap,φ h1->(∀o,h1.get? a=some o->h2.get? a=some o)->φ h2
def i7(H:Hp)(h:Heap):Prop:=∀a o,H a=some o->cM P w H h a o
end
section
variable {P:Program}{w:World}{H H':Hp}{h h':Heap}{a:Addr}{o:HO}
theorem cM.lt(x:cM P w H h a o):a<h.objs.size:=by
 cases o with
 | lst xs=>obtain⟨_,_,_,_,e⟩:=x;exact fm e
 | tup xs=>obtain⟨_,_,_,p⟩:=x;exact p.lt
 | dK kvs=>obtain⟨_,_,_,_,o,_,_,e,_⟩:=x;exact fm e
 | dT kvs=>obtain⟨_,_,_,_,o,_,_,e,_⟩:=x;exact fm e
 | set S n=>obtain⟨o,_,_,_,e,_⟩:=x;exact fm e
 | ins C dx fs=>obtain⟨_,_,_,e,_⟩:=x;exact fm e
 | own y=>obtain⟨_,e⟩:=x;exact fm e
 | xd fs=>obtain⟨_,⟨_,_,_,e,_⟩,_⟩:=x;exact fm e
 | rng lo hi=>obtain⟨_,_,_,e⟩:=x;exact fm e
 | jI ob u=>obtain⟨e,_⟩:=x;exact fm e
 | GZ ps=>exact fm (show h.get? a=some _ from x)
 | met f y=>exact fm (show h.get? a=some _ from x)
 | ext φ=>obtain⟨_,⟨_,e⟩,_⟩:=x;exact fm e
theorem Paired.IU{α β:Type}{F G:α->β->Prop}:∀{l₁:List α} {l₂:List β},Paired F l₁ l₂->(∀a b,F a b->G a b)->Paired G l₁ l₂
 | _,_,.nil,_=>.nil
 | _,_,.cons r t,f=>.cons (f _ _ r) (Paired.IU t f)
theorem cM.stay(x:cM P w H h a o)(k:∀b u,(b=a\/H b=some (.own a))->h.get? b=some u->h'.get? b=some u)
  (ho:∀b,H b=some (.own a)->H' b=some (.own a)) (ht:∀b xs,H b=some (.tup xs)->H' b=some (.tup xs)):cM P w H' h' a o:=by
 induction o with
 | lst xs=>obtain⟨z,its,n,r,e⟩:=x;exact⟨z,its,n,r,k _ _ (.inl rfl) e⟩
 | tup xs=>obtain⟨z,its,r,ob,e,c⟩:=x;exact⟨z,its,r,ob,k _ _ (.inl rfl) e,c⟩
 | dK kvs=>obtain⟨z,y,vs,r,ob,es,ep,e,c⟩:=x;exact⟨z,y,vs,r,ob,es,ep,k _ _ (.inl rfl) e,c⟩
 | dT kvs=>
  obtain⟨z,y,xs,r,ob,es,ep,e,c⟩:=x;exact⟨z,y,xs,Paired.IU r fun p q z=>⟨z.1,ht _ _ z.2.1,z.2.2⟩,ob,es,ep,k _ _ (.inl rfl) e,c⟩
 | set S n=>obtain⟨ob,es,ep,t,e,c⟩:=x;exact⟨ob,es,ep,t,k _ _ (.inl rfl) e,c⟩
 | ins C dx fs=>
  obtain⟨d,z,ne,e,mA,⟨od,es,ep,e2,c⟩,r⟩:=x;exact⟨ho _ d,z,ne,k _ _ (.inl rfl) e,mA,⟨od,es,ep,k _ _ (.inr d) e2,c⟩,r⟩
 | own y=>obtain⟨ob,e⟩:=x;exact⟨ob,k _ _ (.inl rfl) e⟩
 | xd fs=>obtain⟨mA,⟨od,es,ep,e,c⟩,r⟩:=x;exact⟨mA,⟨od,es,ep,k _ _ (.inl rfl) e,c⟩,r⟩
 | rng lo hi=>obtain⟨t,u,v,e⟩:=x;exact⟨t,u,v,k _ _ (.inl rfl) e⟩
 | jI ob u ih=>obtain⟨e,q⟩:=x;exact⟨k _ _ (.inl rfl) e,ih q⟩
 | GZ ps=>
  have e:h.get? a=some {cls:=.none,data:=.fields ps}:=x;show h'.get? a=some {cls:=.none,data:=.fields ps};exact k a _ (.inl rfl) e
 | met f y=>
  have e:h.get? a=some (PySem.W.methodObj (.ref f) (.ref y)):=x;show h'.get? a=some (PySem.W.methodObj (.ref f) (.ref y));exact k a _ (.inl rfl) e
 | ext φ=>obtain⟨p,⟨o,e⟩,st⟩:=x;exact⟨st _ _ p fun o q=>k _ _ (.inl rfl) q,⟨o,k _ _ (.inl rfl) e⟩,st⟩
theorem i7.lt(x:i7 P w H h)(e:H a=some o):a<h.objs.size:=(x a o e).lt
theorem i7.fresh(x:i7 P w H h)(e:h.objs.size<=a):H a=none:=by
 cases q:H a with
 | none=>rfl
 | some u=>exact absurd (Nat.lt_of_lt_of_le (x.lt q) e) (Nat.lt_irrefl _)
theorem i7.kept(x:i7 P w H h)(k:∀b u,h.get? b=some u->h'.get? b=some u):i7 P w H h':=fun a o e=>
 (x a o e).stay (fun b u _ q=>k b u q) (fun _ q=>q) fun _ _ q=>q
theorem i7.laid(x:i7 P w H h)(k:∀b u,h.get? b=some u->h'.get? b=some u)(hp:h.objs.size<=a)(new:cM P w (upd H a o) h' a o):i7 P w (upd H a o) h':=fun b u e=>by
 have hn:=x.fresh hp;by_cases hb:b=a
 ·subst hb;rw[ai]at e;cases e;exact new
 ·rw[aG hb]at e;exact(x b u e).stay (fun c v _ q=>k c v q) (fun c q=>by rw[aG (cI q hn)];exact q) fun c xs q=>by rw[aG (cI q hn)];exact q
def Rd(H:Hp)(a:Addr)(u:HO):Prop:=H a=some u\/∃o,H a=some (.jI o u)
theorem Rd.ok{P:Program}{w:World}{H:Hp}{h:Heap}{a:Addr}{u:HO}(r:Rd H a u)(x:i7 P w H h):cM P w H h a u:=by
 rcases r with r | ⟨o,r⟩
 ·exact x a u r
 ·obtain⟨_,q⟩:=x a _ r;exact q
def L1:Option HO->Prop
 | some (.lst _)=>True
 | some (.dK _)=>True
 | some (.dT _)=>True
 | some (.set _ _)=>True
 | some (.ins _ _ _)=>True
 | some (.ext _)=>True
 | _=>False
variable {x e:Addr}{o':HO}
theorem i7.write(ok:i7 P w H h)(mu:L1 (H x))(he:e=x\/H e=some (.own x))(k:∀b u,b≠e->h.get? b=some u->h'.get? b=some u)(heo:∃u,h'.get? e=some u)
  (new:cM P w (upd H x o') h' x o'):i7 P w (upd H x o') h':=fun b u q=>by
 have L3:∀c y,H c=some (.own y)->c≠x:=fun c y r z=>by subst z;rw[r]at mu;exact mu
 have RE:∀c xs,H c=some (.tup xs)->c≠x:=fun c xs r z=>by subst z;rw[r]at mu;exact mu
 by_cases hb:b=x
 ·subst hb;rw[ai]at q;cases q;exact new
 ·rw[aG hb]at q;by_cases hbe:b=e
  ·have q':H b=some (.own x):=by
    rcases he with z | z
    ·exact absurd (hbe.trans z) hb
    ·rw[hbe];exact z
   rw[q]at q';cases q';obtain⟨v,hv⟩:=heo;exact⟨v,by rw[hbe];exact hv⟩
  ·refine(ok b u q).stay (fun c v hc r=>k c v ?_ r) (fun c r=>by rw[aG (L3 c b r)];exact r) fun c xs r=>by rw[aG (RE c xs r)];exact r
   rcases hc with rfl | hc
   ·exact hbe
   ·rintro rfl;rcases he with z | z
    ·exact L3 c b hc z
    ·rw[hc]at z;cases z;exact hb rfl
structure Un(fs ex:List Addr)(H H':Hp)(h h':Heap):Prop where
 keep:∀b o,h.get? b=some o->H b=none->b∉fs->b∉ex->h'.get? b=some o
 slot:∀b o,h.get? b=some o->H b=none->b∈fs->b∉ex->∃sl,h'.get? b=some {o with slots:=sl}
 free:∀b o,h.get? b=some o->H b=none->b∉ex->H' b=none
 there:∀b o,h.get? b=some o->b∉ex->∃o',h'.get? b=some o'
 tups:∀b xs,H b=some (.tup xs)->H' b=some (.tup xs)
 iZ:∀b o u,H b=some (.jI o u)->H' b=some (.jI o u)
 jJ:∀b ps,H b=some (.GZ ps)->∃more,H' b=some (.GZ (ps++more))
variable {fs fs' ex ex':List Addr}{H1 H2:Hp}{h1 h2:Heap}
theorem Un.any(u:Un fs ex H H1 h h1){b:Addr}{ob:Obj}(q:h.get? b=some ob)(n:H b=none)(hx:b∉ex):∃sl,h1.get? b=some {ob with slots:=sl}:=by
 by_cases hb:b∈fs
 ·exact u.slot b ob q n hb hx
 ·exact⟨ob.slots,u.keep b ob q n hb hx⟩
theorem Un.trans(a:Un fs ex H H1 h h1)(b:Un fs ex H1 H2 h1 h2):Un fs ex H H2 h h2 where
 keep:=fun c ob q n hc hx=>b.keep c ob (a.keep c ob q n hc hx) (a.free c ob q n hx) hc hx
 slot:=fun c ob q n hc hx=>by obtain⟨sl,e1⟩:=a.slot c ob q n hc hx;obtain⟨sl',e2⟩:=b.slot c _ e1 (a.free c ob q n hx) hc hx;exact⟨sl',e2⟩
 free:=fun c ob q n hx=>by obtain⟨o',e1⟩:=a.there c ob q hx;exact b.free c o' e1 (a.free c ob q n hx) hx
 there:=fun c ob q hx=>by obtain⟨o',e1⟩:=a.there c ob q hx;exact b.there c o' e1 hx
 tups:=fun c xs q=>b.tups c xs (a.tups c xs q)
 iZ:=fun c ob xs q=>b.iZ c ob xs (a.iZ c ob xs q)
 jJ:=fun c ps q=>by obtain⟨m1,e1⟩:=a.jJ c ps q;obtain⟨m2,e2⟩:=b.jJ c _ e1;exact⟨m1++m2,by rw[e2,Array.append_assoc]⟩
theorem Un.kept(k:∀b u,h.get? b=some u->h'.get? b=some u):Un fs ex H H h h' :=
 ⟨fun b ob q _ _ _=>k b ob q,fun b ob q _ _ _=>⟨ob.slots,k b ob q⟩,fun _ _ _ n _=>n,fun b ob q _=>⟨ob,k b ob q⟩,fun _ _ q=>q,fun _ _ _ q=>q,fun _ ps q=>⟨#[],by rw[q];simp⟩⟩
theorem Un.refl:Un fs ex H H h h:=Un.kept fun _ _ q=>q
theorem Un.laid(k:∀b u,h.get? b=some u->h'.get? b=some u)(hp:h.objs.size<=a)(hn:H a=none):Un fs ex H (upd H a o) h h' where
 keep:=fun b u q _ _ _=>k b u q
 slot:=fun b u q _ _ _=>⟨u.slots,k b u q⟩
 free:=fun b u q n _=>by rw[aG (js (Nat.lt_of_lt_of_le (fm q) hp))];exact n
 there:=fun b u q _=>⟨u,k b u q⟩
 tups:=fun b xs q=>by rw[aG (cI q hn)];exact q
 iZ:=fun b u xs q=>by rw[aG (cI q hn)];exact q
 jJ:=fun b ps q=>⟨#[],by rw[aG (cI q hn),q];simp⟩
theorem Un.write(mu:L1 (H x))(he:e=x\/H e=some (.own x))(k:∀b u,b≠e->h.get? b=some u->h'.get? b=some u)(heo:∃u,h'.get? e=some u):Un fs ex H (upd H x o) h h':=by
 have hx:∀b,H b=none->b≠x:=fun b n z=>by subst z;rw[n]at mu;exact mu
 have hb:∀b,H b=none->b≠e:=fun b n z=>by
  subst z;rcases he with r | r
  ·exact hx b n r
  ·rw[n]at r;cases r
 have hm:∀b u,H b=some u->¬L1 (some u)->b≠x:=fun b u q nm z=>by subst z;rw[q]at mu;exact nm mu
 refine⟨fun b u q n _ _=>k b u (hb b n) q,fun b u q n _ _=>⟨u.slots,k b u (hb b n) q⟩,fun b u q n _=>by rw[aG (hx b n)];exact n,fun b u q _=>?_,
  fun b xs q=>by rw[aG (hm b _ q fun z=>z)];exact q,fun b u xs q=>by rw[aG (hm b _ q fun z=>z)];exact q,fun b ps q=>⟨#[],by rw[aG (hm b _ q fun z=>z),q];simp⟩⟩
 by_cases hbe:b=e
 ·subst hbe;exact heo
 ·exact⟨u,k b u hbe q⟩
theorem Un.mono(u:Un fs ex H H1 h h1)(hs:∀b∈fs,b∈fs')(hx:∀b∈ex,b∈ex'):Un fs' ex' H H1 h h1 :=
 ⟨fun b ob q n hb he=>u.keep b ob q n (fun z=>hb (hs b z)) fun z=>he (hx b z),fun _ _ q n _ he=>u.any q n fun z=>he (hx _ z),fun b ob q n he=>u.free b ob q n fun z=>he (hx b z),fun b ob q he=>u.there b ob q fun z=>he (hx b z),u.tups,u.iZ,u.jJ⟩
end
def QI(h:Heap)(H:Hp):List Addr:=(List.range h.objs.size).filter fun a=>(H a).isSome
def sm(h:Heap)(H:Hp):Heap:=PySem.W.hideAll h (QI h H)
theorem zV(h:Heap)(H:Hp):(sm h H).objs.size=h.objs.size:=PySem.W.hideAll_size _ _
theorem Bl{h:Heap}{H:Hp}{b:Addr}{o:Obj}(e:h.get? b=some o)(n:H b=none):(sm h H).get? b=some o :=
 PySem.W.hideAll_get _ e fun hm=>by have q:(H b).isSome=true:=(List.mem_filter.mp hm).2;rw[n]at q;simp at q
theorem D8{h:Heap}{H:Hp}{b:Addr}{o:Obj}(e:(sm h H).get? b=some o):h.get? b=some o/\H b=none:=by
 have e':h.get? b=some o:=PySem.W.of_hideAll (QI h H) e;refine⟨e',?_⟩;cases q:H b with
 | none=>rfl
 | some x=>
  have hm:b∈QI h H:=List.mem_filter.mpr ⟨List.mem_range.mpr (fm e'),by simp[q]⟩;have z:(sm h H).get? b=none:=PySem.W.hideAll_none (QI h H) hm;rw[z]at e;cases e
structure Mod(K:gv)(mg:Str->Option Value)(base:Heap):Prop where
 QJ:K.In base
 glob:base.Ns dL mg
 blt:∃mb,base.Ns builtinsNs mb/\∀x:Str,x≠ "__name__"->mb x=bootBuiltins x
 nolimit:base.NoLimit
structure Cx where
 prog:Program
 w:World
 K:gv
 mg:Str->Option Value
 base:Heap
 A:Around
 N:List Str
 s₀:Shared
 H₀:Hp
 env:Env
 outer:List Env
 stack:List Env
 ex:List Addr
 fn:Str->Bool
 calm:Bool
 pn:List (Addr×Obj)
 xe:Value->Shared->Prop
def frs(l:List Env):List Addr:=l.filterMap (·.frame)
abbrev Cx.fs(X:Cx):List Addr:=frs X.outer
def RF(sc:Scope)(x:Str):Prop:=sc.names.lookup x=some .local\/sc.names.lookup x=some .cell\/sc.names.lookup x=some .free
def Loc(sc:Scope)(x:Str):Prop:=sc.names.lookup x=some .local\/sc.names.lookup x=some .cell
def Look(env:Env)(h:Heap)(m:Str->Option Value)(x:Str)(u:Value):Prop :=
 (env.kindOf x=some .local/\m x=some u)\/((env.kindOf x=some .cell\/env.kindOf x=some .free)/\∃c,env.cells.lookup x=some c/\h.IsCell c (some u))
structure Cx.Ok(X:Cx):Prop where
 mod:Mod X.K X.mg X.base
 kind:X.env.scope.kind=.function
 glob:X.env.globals=dL
 blt:X.env.builtins=builtinsNs
 above:X.s₀.heap.objs.size<=X.env.locals
 inj:∀x y c,X.env.cells.lookup x=some c->X.env.cells.lookup y=some c->x=y
 has:∀x,(X.env.kindOf x=some .cell\/X.env.kindOf x=some .free)->∃c,X.env.cells.lookup x=some c
 cab:∀x c,X.fn x=true->X.env.cells.lookup x=some c->X.s₀.heap.objs.size<=c
 hd:X.calm=true->X.A.handled=none
 frames:X.A.frames=some X.stack
 stk:X.stack=X.outer\/(X.stack=X.env::X.outer/\X.env.frame=some X.env.locals)
 QK:∀b∈X.ex,b≠X.env.locals/\∀x c,X.env.cells.lookup x=some c->c≠b
 bs:∀b o,X.base.get? b=some o->X.s₀.heap.get? b=some o/\X.H₀ b=none
 D9:X.base.objs.size<=X.s₀.heap.objs.size
 Bm:∀b o,X.base.get? b=some o->b∉X.ex
 zW:∀b∈X.ex,b∉X.fs
 kf:X.s₀.heap.FunFrames X.base X.outer
 IV:∀b∈X.fs,X.H₀ b=none
structure Inv(X:Cx)(kb:List (Addr×Obj))(σ:List (Option V))(H:Hp)(s:Shared):Prop where
 ok:X.Ok
 os:s.os=X.s₀.os
 bare:AllBare s.gens
 base:Un X.fs X.ex X.H₀ H X.s₀.heap s.heap
 loc:∃m,s.heap.Ns X.env.locals m/\∀(i:Nat) (x:Str) (v:V),X.N[i]? =some x->σ[i]? =some (some v)->RF X.env.scope x->∃u,RelV v u/\Look X.env s.heap m x u
 cell:∀x c,X.env.cells.lookup x=some c->∃v,s.heap.IsCell c v
 free:H X.env.locals=none
 iR:∀x c,X.env.cells.lookup x=some c->H c=none
 pin:∀p∈X.pn++kb,s.heap.get? p.1=some p.2/\H p.1=none/\p.1≠X.env.locals/\p.1∉X.fs/\∀v,p.2.data≠.cell v
 hok:i7 X.prog X.w H s.heap
 len:σ.length=X.N.length
section
variable {X:Cx}{kb:List (Addr×Obj)}{σ:List (Option V)}{H H':Hp}{s:Shared}{h':Heap}
theorem Cx.Ok.RG(ok:X.Ok){b:Addr}{o:Obj}(e:X.base.get? b=some o):b∉X.fs:=fun hb=>by have:=(ok.kf.mem hb).1;rw[e]at this;cases this
theorem Inv.bs(I:Inv X kb σ H s):∀b o,X.base.get? b=some o->s.heap.get? b=some o/\H b=none:=fun b o e=>
 ⟨I.base.keep b o (I.ok.bs b o e).1 (I.ok.bs b o e).2 (I.ok.RG e) (I.ok.Bm b o e),I.base.free b o (I.ok.bs b o e).1 (I.ok.bs b o e).2 (I.ok.Bm b o e)⟩
theorem Inv.bk(I:Inv X kb σ H s):∀b o,X.base.get? b=some o->s.heap.get? b=some o:=fun b o e=>(I.bs b o e).1
theorem Inv.mod(I:Inv X kb σ H s):Mod X.K X.mg X.base:=I.ok.mod
theorem Inv.lL(I:Inv X kb σ H s):X.K.In s.heap:=I.ok.mod.QJ.keeps I.bk
theorem Inv.lt(I:Inv X kb σ H s):X.env.locals<s.heap.objs.size:=let ⟨_,hn,_⟩:=I.loc;hn.lt
theorem Inv.sz(I:Inv X kb σ H s):X.s₀.heap.objs.size<=s.heap.objs.size:=kq I.ok.above (Nat.le_of_lt I.lt)
theorem Inv.RH(I:Inv X kb σ H s){a:Addr}(h:s.heap.objs.size<=a):a∉X.fs:=fun hb=>by obtain⟨_,o,ho,_⟩:=I.ok.kf.mem hb;exact absurd (Nat.lt_of_lt_of_le (fm ho) (kq I.sz h)) (Nat.lt_irrefl _)
theorem Inv.IW(I:Inv X kb σ H s):∀x c,X.env.cells.lookup x=some c->c≠X.env.locals:=fun x c e z=>by obtain⟨v,o,ho,hd⟩:=I.cell x c e;obtain⟨m,⟨o',es,ep,ho',hd',_⟩,_⟩:=I.loc;rw[z,ho']at ho;cases ho;rw[hd']at hd;cases hd
theorem Inv.kf(I:Inv X kb σ H s):s.heap.FunFrames X.base X.outer:=by
 have all:∀(l:List Env),(∀b∈frs l,b∈X.fs)->X.s₀.heap.FunFrames X.base l->s.heap.FunFrames X.base l:=by
  intro l
  induction l with
  | nil=>intro _ _;trivial
  | cons env r ih=>
   intro hs hl;obtain⟨hk,⟨L,o,hf,hn,ho,hd⟩,hr⟩:=hl;have hL:L∈X.fs:=hs L (by unfold frs;rw[List.filterMap_cons,hf];exact List.mem_cons_self);obtain⟨sl,e⟩:=I.base.slot L o ho (I.ok.IV L hL) hL fun z=>I.ok.zW L z hL;exact⟨hk,⟨L,_,hf,hn,e,hd⟩,ih (fun b hb=>hs b (by unfold frs;rw[List.filterMap_cons,hf];exact List.mem_cons_of_mem _ hb)) hr⟩
 exact all X.outer (fun _ hb=>hb) I.ok.kf
theorem Inv.stack(I:Inv X kb σ H s):s.heap.FunFrames X.base X.stack:=by
 rcases I.ok.stk with e | ⟨e,hf⟩
 ·rw[e];exact I.kf
 ·rw[e];obtain⟨m,hn,_⟩:=I.loc;refine .cons (by rw[I.ok.kind];decide) hf hn ?_ I.kf;exact Heap.get?_none_of_le (kq I.ok.D9 I.ok.above)
theorem Inv.lM(I:Inv X kb σ H s):∀b∈frs X.stack,b∈X.env.locals::X.fs:=fun b hb=>by
 rcases I.ok.stk with e | ⟨e,hf⟩
 ·rw[e]at hb;exact List.mem_cons_of_mem _ hb
 ·rw[e]at hb;unfold frs at hb;rw[List.filterMap_cons,hf]at hb;exact hb
theorem Inv.kh(I:Inv X kb σ H s):∀b∈frs X.stack,H b=none:=fun b hb=>by
 rcases List.mem_cons.mp (I.lM b hb)with e | hb
 ·rw[e];exact I.free
 ·obtain⟨_,o,ho,_⟩:=I.ok.kf.mem hb;exact I.base.free b o ho (I.ok.IV b hb) fun z=>I.ok.zW b z hb
theorem Inv.step{g':Array GenState}{t':Nat}{d':Drawn}{ch:List Addr}(I:Inv X kb σ H s)
  (hch:∀b∈ch,(b∈X.ex\/X.s₀.heap.objs.size<=b)/\b≠X.env.locals/\(∀x c,X.env.cells.lookup x=some c->c≠b)/\∀p∈X.pn++kb,p.1≠b)
  (keep:∀b o,b≠X.env.locals->b∉X.fs->b∉ch->s.heap.get? b=some o->H b=none->h'.get? b=some o)
  (slot:∀b o,b≠X.env.locals->b∈X.fs->b∉ch->s.heap.get? b=some o->H b=none->∃sl,h'.get? b=some {o with slots:=sl}) (free:∀b o,b∉ch->s.heap.get? b=some o->H b=none->H' b=none)
  (there:∀b o,b∉ch->s.heap.get? b=some o->∃o',h'.get? b=some o')
  (tups:∀b xs,H b=some (.tup xs)->H' b=some (.tup xs)) (iZ:∀b o u,H b=some (.jI o u)->H' b=some (.jI o u)) (jJ:∀b ps,H b=some (.GZ ps)->∃more,H' b=some (.GZ (ps++more)))
  (ns:∀m,s.heap.Ns X.env.locals m->h'.Ns X.env.locals m) (hok:i7 X.prog X.w H' h') (hg:AllBare g'):
  Inv X kb σ H' {s with heap:=h',gens:=g',drawn:=d',toks:=t'}:=by
 have Xq:∀b o,X.s₀.heap.get? b=some o->b≠X.env.locals:=fun b o e=>js (Nat.lt_of_lt_of_le (fm e) I.ok.above);have QL:∀b o,X.s₀.heap.get? b=some o->b∉X.ex->b∉ch:=fun b o e hx hb=>by
  rcases(hch b hb).1 with z | z
  ·exact hx z
  ·exact absurd (Nat.lt_of_lt_of_le (fm e) z) (Nat.lt_irrefl _)
 have cellK:∀x c,X.env.cells.lookup x=some c->∀v,s.heap.IsCell c v->h'.IsCell c v:=fun x c e v ⟨o,ho,hd⟩=>by
  have L4:c∉ch:=fun z=>(hch c z).2.2.1 x c e rfl;by_cases hc:c∈X.fs
  ·obtain⟨sl,q⟩:=slot c o (I.IW x c e) hc L4 ho (I.iR x c e);exact⟨_,q,hd⟩
  ·exact⟨o,keep c o (I.IW x c e) hc L4 ho (I.iR x c e),hd⟩
 refine⟨I.ok,I.os,hg,⟨fun b o e n hb hx=>?_,fun b o e n hb hx=>?_,fun b o e n hx=>?_,fun b o e hx=>?_,fun b xs e=>tups b xs (I.base.tups b xs e),fun b o xs e=>iZ b o xs (I.base.iZ b o xs e),fun b ps e=>?_⟩,?_,fun x c e=>?_,?_,fun x c e=>?_,fun p hp=>?_,hok,I.len⟩
 ·exact keep b o (Xq b o e) hb (QL b o e hx) (I.base.keep b o e n hb hx) (I.base.free b o e n hx)
 ·obtain⟨sl,e1⟩:=I.base.slot b o e n hb hx;obtain⟨sl',e2⟩:=slot b _ (Xq b o e) hb (QL b o e hx) e1 (I.base.free b o e n hx);exact⟨sl',e2⟩
 ·obtain⟨o',e1⟩:=I.base.there b o e hx;exact free b o' (QL b o e hx) e1 (I.base.free b o e n hx)
 ·obtain⟨o',e1⟩:=I.base.there b o e hx;exact there b o' (QL b o e hx) e1
 ·obtain⟨m1,e1⟩:=I.base.jJ b ps e;obtain⟨m2,e2⟩:=jJ b _ e1;exact⟨m1++m2,by rw[e2,Array.append_assoc]⟩
 ·obtain⟨m,hn,hl⟩:=I.loc;refine⟨m,ns m hn,fun i x v e1 e2 e3=>?_⟩;obtain⟨u,r,l⟩:=hl i x v e1 e2 e3;refine⟨u,r,?_⟩;rcases l with l | ⟨k,c,e,z⟩
  ·exact .inl l
  ·exact .inr ⟨k,c,e,cellK x c e _ z⟩
 ·obtain⟨v,z⟩:=I.cell x c e;exact⟨v,cellK x c e v z⟩
 ·obtain⟨m,⟨o,_,_,ho,_⟩,_⟩:=I.loc;exact free _ o (fun z=>(hch _ z).2.1 rfl) ho I.free
 ·obtain⟨v,o,ho,hd⟩:=I.cell x c e;exact free c o (fun z=>(hch c z).2.2.1 x c e rfl) ho (I.iR x c e)
 ·obtain⟨e,n,ne,nf,d⟩:=I.pin p hp;have L4:p.1∉ch:=fun z=>(hch p.1 z).2.2.2 p hp rfl;exact⟨keep p.1 p.2 ne nf L4 e n,free p.1 p.2 L4 e n,ne,nf,d⟩
theorem Inv.un{t':Nat}(I:Inv X kb σ H s)(u:Un X.fs [] H H' s.heap h')(hok:i7 X.prog X.w H' h'):Inv X kb σ H' {s with heap:=h',toks:=t'}:=by
 obtain⟨m,⟨o,es,ep,ho,r⟩,_⟩:=id I.loc;obtain⟨sl,hL⟩:=u.any ho I.free (by simp)
 exact I.step (g':=s.gens) (d':=s.drawn) (ch:=[]) (fun _ z=>nomatch z) (fun b o _ hb _ e n=>u.keep b o e n hb (by simp)) (fun b o _ hb _ e n=>u.slot b o e n hb (by simp)) (fun b o _ e n=>u.free b o e n (by simp)) (fun b o _ e=>u.there b o e (by simp)) u.tups u.iZ u.jJ (fun m' hm=>by
  obtain⟨o',es',ep',ho',r'⟩:=hm;rw[ho]at ho';cases ho'
  exact⟨_,es',ep',hL,r'⟩) hok I.bare
theorem Inv.call{g':Array GenState}{t':Nat}{d':Drawn}{ch:List Addr}(I:Inv X kb σ H s)(u:Un (frs X.stack) ch H H' s.heap h')(hok:i7 X.prog X.w H' h')(hg:AllBare g')
  (hch:∀b∈ch,(b∈X.ex\/X.s₀.heap.objs.size<=b)/\b≠X.env.locals/\(∀x c,X.env.cells.lookup x=some c->c≠b)/\∀p∈X.pn++kb,p.1≠b):
  Inv X kb σ H' {s with heap:=h',gens:=g',drawn:=d',toks:=t'}:=by
 obtain⟨m,⟨o,es,ep,ho,r⟩,_⟩:=id I.loc;obtain⟨sl,hL⟩:=u.any ho I.free fun z=>(hch _ z).2.1 rfl
 exact I.step (ch:=ch) hch (fun b o hL hb hc e n=>u.keep b o e n (fun z=>(List.mem_cons.mp (I.lM b z)).elim hL hb) hc) (fun b o _ _ hc e n=>u.any e n hc) (fun b o hc e n=>u.free b o e n hc) (fun b o hc e=>u.there b o e hc) u.tups u.iZ u.jJ (fun m' hm=>by
  obtain⟨o',es',ep',ho',r'⟩:=hm;rw[ho]at ho';cases ho'
  exact⟨_,es',ep',hL,r'⟩) hok hg
theorem Inv.turned{t':Nat}{it:Addr}(I:Inv X kb σ H s)(k:∀b o,b≠it->s.heap.get? b=some o->h'.get? b=some o)(hn:H it=none)(hL:it≠X.env.locals)
  (h1:it∈X.ex\/X.s₀.heap.objs.size<=it) (h2:∀x c,X.env.cells.lookup x=some c->c≠it) (h3:∀p∈X.pn++kb,p.1≠it):Inv X kb σ H {s with heap:=h',toks:=t'}:=by
 have Hb:∀b u,H b=some u->b≠it:=fun b u e z=>by rw[z,hn]at e;cases e
 refine I.step (g':=s.gens) (d':=s.drawn) (ch:=[it]) (fun b hb=>?_) (fun b o _ _ hc e _=>k b o (fun z=>hc (by simp[z])) e) (fun b o _ _ hc e _=>⟨o.slots,k b o (fun z=>hc (by simp[z])) e⟩) (fun _ _ _ _ n=>n)
  (fun b o hc e=>⟨o,k b o (fun z=>hc (by simp[z])) e⟩) (fun _ _ e=>e) (fun _ _ _ e=>e) (fun b ps e=>⟨#[],by rw[e];simp⟩) (fun m hm=>?_) (fun b u e=>?_) I.bare
 ·have e:b=it:=by simpa using hb
  subst e;exact⟨h1,hL,h2,h3⟩
 ·obtain⟨o,es,ep,ho,r⟩:=hm;exact⟨o,es,ep,k _ o (Ne.symm hL) ho,r⟩
 ·refine(I.hok b u e).stay (fun c v hc q=>k c v ?_ q) (fun _ q=>q) fun _ _ q=>q;rcases hc with z | z
  ·rw[z];exact Hb b u e
  ·exact Hb c _ z
theorem Inv.tok(I:Inv X kb σ H s)(t:Nat):Inv X kb σ H {s with toks:=t}:=I.un (h':=s.heap) (t':=t) Un.refl I.hok
theorem Inv.kept{t':Nat}(I:Inv X kb σ H s)(k:∀b u,s.heap.get? b=some u->h'.get? b=some u):Inv X kb σ H {s with heap:=h',toks:=t'}:=I.un (Un.kept k) (I.hok.kept k)
theorem Inv.laid{a:Addr}{o:HO}{t':Nat}(I:Inv X kb σ H s)(k:∀b u,s.heap.get? b=some u->h'.get? b=some u)(hp:s.heap.objs.size<=a)(new:cM X.prog X.w (upd H a o) h' a o):
  Inv X kb σ (upd H a o) {s with heap:=h',toks:=t'}:=I.un (Un.laid k hp (I.hok.fresh hp)) (I.hok.laid k hp new)
theorem Inv.write{x e:Addr}{o:HO}{t':Nat}(I:Inv X kb σ H s)(mu:L1 (H x))(he:e=x\/H e=some (.own x))(k:∀b u,b≠e->s.heap.get? b=some u->h'.get? b=some u)(heo:∃u,h'.get? e=some u)
  (new:cM X.prog X.w (upd H x o) h' x o):Inv X kb σ (upd H x o) {s with heap:=h',toks:=t'}:=I.un (Un.write mu he k heo) (I.hok.write mu he k heo new)
theorem Inv.yh{uJ:List (Addr×Obj)}(I:Inv X kb σ H s)(h:∀p∈uJ,s.heap.get? p.1=some p.2/\H p.1=none/\p.1≠X.env.locals/\p.1∉X.fs/\∀v,p.2.data≠.cell v):Inv X uJ σ H s :=
 ⟨I.ok,I.os,I.bare,I.base,I.loc,I.cell,I.free,I.iR,fun p hp=>(List.mem_append.mp hp).elim (fun z=>I.pin p (List.mem_append_left _ z)) (h p),I.hok,I.len⟩
theorem uK{N:List Str}(hN:N.Nodup){i j:Nat}{x:Str}(a:N[i]? =some x)(b:N[j]? =some x):i=j:=by obtain⟨h1,e1⟩:=ad.mp a;obtain⟨h2,e2⟩:=ad.mp b;exact(List.getElem_inj hN).mp (e1.trans e2.symm)
theorem qP{M:Model}{A:Around}{E:Value->Shared->Prop}{i:Nat}{x:Str}{v:V}{u:Value}{Q:Unit->Shared->Prop}(I:Inv X kb σ H s)(hN:X.N.Nodup)(hi:X.N[i]? =some x)(hx:Loc X.env.scope x)(r:RelV v u)
  (h:∀s',Inv X kb (σ.set i (some v)) H s'->(∃a,Heap.SameBut a s.heap s'.heap/\(a=X.env.locals\/X.env.cells.lookup x=some a))->Q () s') (hf:X.fn x=true\/X.env.scope.names.lookup x=some .local:=by first | exact .inl rfl | exact .inr rfl | assumption):wpAny M A (storeName X.env x u) Q E s:=by
 obtain⟨m,hn,hl⟩:=id I.loc;have hcls:(X.env.scope.kind== .class||(X.env.scope.kind== .module&&X.env.locals !=X.env.globals))=false:=by rw[I.ok.kind];rfl
 have hiσ:i<σ.length:=by rw[I.len];exact(ad.mp hi).1
 have IW:=I.IW;have tracked:∀{a:Addr} {h':Heap},(∃o,s.heap.get? a=some o/\H a=none)->Heap.SameBut a s.heap h'->i7 X.prog X.w H h':=fun {a h'} ha hs b ob e=>by
  obtain⟨_,_,hfree⟩:=ha;refine(I.hok b ob e).stay (fun c w' hc q=>(hs.2 c ?_).trans q) (fun _ q=>q) fun _ _ q=>q;rintro rfl;rcases hc with rfl | hc
  ·rw[hfree]at e;cases e
  ·rw[hfree]at hc;cases hc
 rcases hx with hk | hk
 ·refine wpAny_storeName_local hk hn (fun h' hn' hs=>?_) hcls;obtain⟨oL,_,_,hoL,_⟩:=id hn;refine h _ ⟨I.ok,I.os,I.bare,⟨fun b o e n hb hx=>?_,fun b o e n hb hx=>?_,I.base.free,fun b o e hx=>?_,I.base.tups,I.base.iZ,I.base.jJ⟩,⟨_,hn',fun j y v' e1 e2 e3=>?_⟩,fun y c e=>?_,I.free,I.iR,fun p hp=>?_,tracked ⟨oL,hoL,I.free⟩ hs,by simpa using I.len⟩ ⟨_,hs,.inl rfl⟩
  ·exact(hs.2 b (js (Nat.lt_of_lt_of_le (fm e) I.ok.above))).trans (I.base.keep b o e n hb hx)
  ·obtain⟨sl,e1⟩:=I.base.slot b o e n hb hx;exact⟨sl,(hs.2 b (js (Nat.lt_of_lt_of_le (fm e) I.ok.above))).trans e1⟩
  ·obtain⟨o',e1⟩:=I.base.there b o e hx;exact⟨o',(hs.2 b (js (Nat.lt_of_lt_of_le (fm e) I.ok.above))).trans e1⟩
  ·by_cases hj:j=i
   ·subst hj;rw[hi]at e1;cases e1;rw[List.getElem?_set_self hiσ]at e2;cases e2;exact⟨u,r,.inl ⟨hk,by simp⟩⟩
   ·rw[List.getElem?_set_ne (Ne.symm hj)]at e2;obtain⟨u',r',q⟩:=hl j y v' e1 e2 e3;refine⟨u',r',?_⟩;rcases q with ⟨k,e⟩ | ⟨k,c,e,z⟩
    ·refine .inl ⟨k,?_⟩;have:y≠x:=fun e=>hj (uK hN e1 (e▸hi));simp[this,e]
    ·exact .inr ⟨k,c,e,z.sameBut hs (IW y c e)⟩
  ·obtain⟨w',z⟩:=I.cell y c e;exact⟨w',z.sameBut hs (IW y c e)⟩
  ·obtain⟨e,n,ne,nf,d⟩:=I.pin p hp;exact⟨(hs.2 p.1 ne).trans e,n,ne,nf,d⟩
 ·have hfn:X.fn x=true:=by
   rcases hf with z | z
   ·exact z
   ·rw[z]at hk;cases hk
  obtain⟨c,hc⟩:=I.ok.has x (.inl hk);obtain⟨w',z⟩:=I.cell x c hc;refine wpAny_storeName_cell I.ok.kind hk hc z (fun h' hc' hs=>?_);obtain⟨oc,hoc,RI⟩:=id z;refine h {s with heap:=h'} ⟨I.ok,I.os,I.bare,⟨fun b o e n hb hx=>?_,fun b o e n hb hx=>?_,I.base.free,fun b o e hx=>?_,I.base.tups,I.base.iZ,I.base.jJ⟩,⟨m,hn.sameBut hs (Ne.symm (IW x c hc)),fun j y v' e1 e2 e3=>?_⟩,fun y c' e=>?_,I.free,I.iR,fun p hp=>?_,tracked ⟨oc,hoc,I.iR x c hc⟩ hs,by simpa using I.len⟩ ⟨c,hs,.inr hc⟩
  ·exact(hs.2 b (js (Nat.lt_of_lt_of_le (fm e) (I.ok.cab x c hfn hc)))).trans (I.base.keep b o e n hb hx)
  ·obtain⟨sl,e1⟩:=I.base.slot b o e n hb hx;exact⟨sl,(hs.2 b (js (Nat.lt_of_lt_of_le (fm e) (I.ok.cab x c hfn hc)))).trans e1⟩
  ·obtain⟨o',e1⟩:=I.base.there b o e hx;exact⟨o',(hs.2 b (js (Nat.lt_of_lt_of_le (fm e) (I.ok.cab x c hfn hc)))).trans e1⟩
  ·by_cases hj:j=i
   ·subst hj;rw[hi]at e1;cases e1;rw[List.getElem?_set_self hiσ]at e2;cases e2;exact⟨u,r,.inr ⟨.inl hk,c,hc,hc'⟩⟩
   ·rw[List.getElem?_set_ne (Ne.symm hj)]at e2;obtain⟨u',r',q⟩:=hl j y v' e1 e2 e3;refine⟨u',r',?_⟩;rcases q with q | ⟨k,c',e,z'⟩
    ·exact .inl q
    ·refine .inr ⟨k,c',e,z'.sameBut hs ?_⟩;rintro rfl;exact hj (uK hN e1 (I.ok.inj _ _ _ e hc▸hi))
  ·by_cases hcc:c'=c
   ·subst hcc;exact⟨_,hc'⟩
   ·obtain⟨w2,z2⟩:=I.cell y c' e;exact⟨w2,z2.sameBut hs hcc⟩
  ·obtain⟨e,n,ne,nf,d⟩:=I.pin p hp;refine⟨(hs.2 p.1 ?_).trans e,n,ne,nf,d⟩;intro q;rw[q,hoc]at e;have q':oc=p.2:=Option.some.inj e;exact d w' (by rw[<-q'];exact RI)
theorem uL{M:Model}{A:Around}{E:Value->Shared->Prop}{i:Nat}{x:Str}{v:V}{u:Value}{Q:Unit->Shared->Prop}(I:Inv X kb σ H s)(hN:X.N.Nodup)(hi:X.N[i]? =some x)(hx:Loc X.env.scope x)(r:RelV v u)
  (h:∀s',Inv X kb (σ.set i (some v)) H s'->Q () s') (hf:X.fn x=true\/X.env.scope.names.lookup x=some .local:=by first | exact .inl rfl | exact .inr rfl | assumption):wpAny M A (storeName X.env x u) Q E s :=
 qP I hN hi hx r (fun s' I' _=>h s' I') hf
theorem Inv.call'{s':Shared}{ch:List Addr}(I:Inv X kb σ H s)(ho:s'.os=s.os)(u:Un (frs X.stack) ch H H' s.heap s'.heap)(hok:i7 X.prog X.w H' s'.heap)(hg:AllBare s'.gens)
  (hch:∀b∈ch,(b∈X.ex\/X.s₀.heap.objs.size<=b)/\b≠X.env.locals/\(∀x c,X.env.cells.lookup x=some c->c≠b)/\∀p∈X.pn++kb,p.1≠b):Inv X kb σ H' s':=by
 obtain⟨h',g',d',t',o'⟩:=s';have e:o'=s.os:=ho;subst e;exact I.call (g':=g') (t':=t') (d':=d') u hok hg hch
end
abbrev XK:=Value->Option Addr->Hp->Prop
abbrev St:=List (Option V)
abbrev VK:=V->Hp->Prop
abbrev TE:=St->Hp->VK->Prop
abbrev TT:=St->Hp->(Bool->Hp->Prop)->Prop
abbrev TA:=St->Hp->(List V->Hp->Prop)->Prop
structure Ends where
 nx:St->Hp->Prop
 rt:VK
 bk:St->Hp->Prop:=fun _ _=>False
 ct:St->Hp->Prop:=fun _ _=>False
abbrev TS:=Ends->St->Hp->Prop
def EP(X:Cx)(kb:List (Addr×Obj))(σ:St)(Q:VK)(u:Value)(s':Shared):Prop:=∃v H',Inv X kb σ H' s'/\RelV v u/\Q v H'
def TP(X:Cx)(kb:List (Addr×Obj))(σ:St)(Q:Bool->Hp->Prop)(b:Bool)(s':Shared):Prop:=∃H',Inv X kb σ H' s'/\Q b H'
def AP(X:Cx)(kb:List (Addr×Obj))(σ:St)(Q:List V->Hp->Prop)(us:List Value)(s':Shared):Prop:=∃vs H',Inv X kb σ H' s'/\Vals vs us/\Q vs H'
def SP(X:Cx)(kb:List (Addr×Obj))(D:Ends)(f:Flow)(s':Shared):Prop :=
 match f with
 | .next=>∃σ' H',Inv X kb σ' H' s'/\D.nx σ' H'
 | .brk=>∃σ' H',Inv X kb σ' H' s'/\D.bk σ' H'
 | .cont=>∃σ' H',Inv X kb σ' H' s'/\D.ct σ' H'
 | .ret u=>∃v σ' H',Inv X kb σ' H' s'/\RelV v u/\D.rt v H'
def PE(X:Cx)(e:Expr)(t:TE):Prop :=
 ∀(kb:List (Addr×Obj)) (s:Shared) (σ:St) (H:Hp) (Q:VK),Inv X kb σ H s->t σ H Q->wpAny (model X.prog X.w) X.A (eval e X.env) (EP X kb σ Q) X.xe s
def PT(X:Cx)(e:Expr)(t:TT):Prop :=
 ∀(kb:List (Addr×Obj)) (s:Shared) (σ:St) (H:Hp) (Q:Bool->Hp->Prop),Inv X kb σ H s->t σ H Q->wpAny (model X.prog X.w) X.A (isTrue e X.env (eval e X.env)) (TP X kb σ Q) X.xe s
def PW(X:Cx)(e:Expr)(t:TT):Prop :=
 ∀(whole:Sem Value) (kb:List (Addr×Obj)) (s:Shared) (σ:St) (H:Hp) (Q:Bool->Hp->Prop),Inv X kb σ H s->t σ H Q->wpAny (model X.prog X.w) X.A (isTrue e X.env whole) (TP X kb σ Q) X.xe s
theorem PW.pt{X:Cx}{e:Expr}{t:TT}(h:PW X e t):PT X e t:=h _
def PA(X:Cx)(es:List Expr)(t:TA):Prop :=
 ∀(pos:Pos) (kb:List (Addr×Obj)) (s:Shared) (σ:St) (H:Hp) (Q:List V->Hp->Prop),Inv X kb σ H s->t σ H Q->wpAny (model X.prog X.w) X.A (spliced (backTo pos (starEach es X.env))) (AP X kb σ Q) X.xe s
def PS(X:Cx)(st:Stmt)(t:TS):Prop :=
 ∀(kb:List (Addr×Obj)) (s:Shared) (σ:St) (H:Hp) (D:Ends),Inv X kb σ H s->t D σ H->wpAny (model X.prog X.w) X.A (exec st X.env) (SP X kb D) X.xe s
def qQ(X:Cx)(st:List Stmt)(t:TS):Prop :=
 ∀(kb:List (Addr×Obj)) (s:Shared) (σ:St) (H:Hp) (D:Ends),Inv X kb σ H s->t D σ H->wpAny (model X.prog X.w) X.A (execs st X.env) (SP X kb D) X.xe s
theorem cJ{α:Type}{t:Sem α}{Q Q':α->Shared->Prop}{M:Model}{A:Around}{E:Value->Shared->Prop}{s:Shared}(h:wpAny M A t Q E s)(hQ:∀a s,Q a s->Q' a s):wpAny M A t Q' E s:=eg h hQ fun _ _ x=>x
section
variable {X:Cx}
inductive L5(i:Nat)(σ:St)(H:Hp)(Q:VK):Prop
 | mk (v) (_:σ[i]? =some (some v)) (_:Q v H)
def tC(v:V):TE:=fun _ H Q=>Q v H
theorem IY{i:Nat}{x:Str}{pos:Pos}(hN:X.N[i]? =some x)(hv:RF X.env.scope x)(hd:(x==("__debug__": Str))=false:=by decide)(hcd:(x==("__classdict__": Str))=false:=by decide):PE X (.Name x pos) (L5 i):=by
 intro kb s σ H Q I h;obtain⟨v,e,h⟩:=h;obtain⟨m,hn,hl⟩:=I.loc;obtain⟨u,r,l⟩:=hl i x v hN e hv;have fin:EP X kb σ Q u s:=⟨v,H,I,r,h⟩;rcases l with ⟨hk,hm⟩ | ⟨hk,c,hc,hcell⟩
 ·exact wpAny_Name (wpAny_loadName_local I.ok.kind hk hn hm fin) hd
 ·rcases hk with hk | hk
  ·exact wpAny_Name (wpAny_loadName_cell I.ok.kind hk hc hcell fin) hd
  ·exact wpAny_Name (wpAny_loadName_free I.ok.kind hk hc hcell fin hcd) hd
theorem ah{i j pos}:PE X (.Constant (.int i) j pos) (tC (.int i)):=fun _ _ _ H _ I h=>wpAny_Constant_int ⟨.int i,H,I.tok _,⟨_,rfl⟩,h⟩
theorem jO{b j pos}:PE X (.Constant (.bool b) j pos) (tC (.bl b)):=fun _ _ _ H _ I h=>Constant_bool ⟨.bl b,H,I,rfl,h⟩
theorem iG{j pos}:PE X (.Constant .none j pos) (tC .non):=fun _ _ _ H _ I h=>Constant_none ⟨.non,H,I,rfl,h⟩
theorem aW{x j pos}:PE X (.Constant (.str x) j pos) (tC (.str x)):=fun _ _ _ H _ I h=>Calls.Constant_str ⟨.str x,H,I.tok _,⟨_,rfl⟩,h⟩
def Gl(X:Cx)(x:Str):Prop:=X.env.kindOf x=some .globalImplicit
theorem nU{E:Value->Shared->Prop}{kb:List (Addr×Obj)}{s:Shared}{σ:St}{H:Hp}{x:Str}{u:Value}{pos:Pos}{Q:Value->Shared->Prop}(I:Inv X kb σ H s)(hg:Gl X x)(hm:X.mg x=some u)(h:Q u s)
  (hd:(x==("__debug__": Str))=false:=by decide):wpAny (model X.prog X.w) X.A (eval (.Name x pos) X.env) Q E s :=
 Calls.Name_function_global I.ok.kind hg (Calls.loadGlobal_global (by rw[I.ok.glob];exact I.mod.glob.keeps I.bk) hm h) hd
theorem jZ{E:Value->Shared->Prop}{kb:List (Addr×Obj)}{s:Shared}{σ:St}{H:Hp}{x:Str}{u:Value}{pos:Pos}{Q:Value->Shared->Prop}(I:Inv X kb σ H s)(hg:Gl X x)(hm:X.mg x=none)(hv:bootBuiltins x=some u)(h:Q u s)
  (hn:x≠ "__name__":=by decide) (hd:(x==("__debug__": Str))=false:=by decide):wpAny (model X.prog X.w) X.A (eval (.Name x pos) X.env) Q E s:=by
 obtain⟨mb,h1,h2⟩:=I.mod.blt;exact Calls.Name_function_global I.ok.kind hg (Calls.loadGlobal_builtin (by rw[I.ok.glob];exact I.mod.glob.keeps I.bk) hm (by rw[I.ok.blt];exact h1.keeps I.bk) ((h2 x hn).trans hv) h) hd
theorem bp{x:Str}{v:V}{u:Value}{pos:Pos}(hg:Gl X x)(hm:X.mg x=some u)(r:RelV v u)(hd:(x==("__debug__": Str))=false:=by decide):PE X (.Name x pos) (tC v):=
 fun _ _ _ H _ I h=>nU I hg hm ⟨v,H,I,r,h⟩ hd
theorem gQ{x:Str}{v:V}{u:Value}{pos:Pos}(hg:Gl X x)(hm:X.mg x=none)(hv:bootBuiltins x=some u)(r:RelV v u)(hn:x≠ "__name__":=by decide)(hd:(x==("__debug__": Str))=false:=by decide):PE X (.Name x pos) (tC v):=
 fun _ _ _ H _ I h=>jZ I hg hm hv ⟨v,H,I,r,h⟩ hn hd
variable {a b:Expr}{ta tb:TE}{pos:Pos}
def PC(X:Cx)(op:CmpOp)(a b:Expr)(t:TE):Prop :=
 ∀(kb:List (Addr×Obj)) (s:Shared) (σ:St) (H:Hp) (Q:VK),Inv X kb σ H s->t σ H Q->
  wpAny (model X.prog X.w) X.A (eval a X.env) (fun v s₁=>wpAny (model X.prog X.w) X.A (eval b X.env) (fun u s₂=>wpAny (model X.prog X.w) X.A (compareOp op v u) (EP X kb σ Q) X.xe s₂) X.xe s₁) X.xe s
def tB(t:TE):TT:=fun σ H Q=>t σ H fun x H1=>∃c,x=.bl c/\Q c H1
theorem IZ{op:CmpOp}{t:TE}(h:PC X op a b t)(h1:behindInMarks op b=false:=by first | exact Bo _ (by decide) (by decide) | rfl):PE X (.Compare a [op] [b] pos) t:=fun kb s σ H Q I hw=>wpAny_Compare1 (h kb s σ H Q I hw) h1
theorem sq{op:CmpOp}{t:TE}(h:PC X op a b t)(h1:behindInMarks op b=false:=by first | exact Bo _ (by decide) (by decide) | rfl):PT X (.Compare a [op] [b] pos) (tB t):=by intro kb s σ H Q I hw;refine wpAny_isTrue_Compare1 (cJ (h kb s σ H _ I hw) fun v s1 h1=>cJ h1 fun u s2 h2=>cJ h2 fun c s3 ⟨x,H1,I1,r1,q1⟩=>?_) h1;obtain⟨d,rfl,q⟩:=q1;cases r1;exact wpAny_truthy_bool ⟨H1,I1,q⟩
theorem bQ{e:Expr}{t:TE}(h:PE X e t)(he:∀whole,isTrue e X.env whole=(do let v <-whole;standAt e.pos;holding [v] (truthy v)):=by intro _;rfl):PT X e (tB t):=by intro kb s σ H Q I hw;refine isTrue_plain (cJ (h kb s σ H _ I hw) fun v s1 ⟨x,H1,I1,r1,q1⟩=>?_) (he _);obtain⟨d,rfl,q⟩:=q1;cases r1;exact wpAny_truthy_bool ⟨H1,I1,q⟩
variable {tA QM:TT}{rest:List Expr}
def RJ(t u:TT):TT:=fun σ H Q=>t σ H fun c H1=>if c=true then u σ H1 Q else Q false H1
def Zy(t u:TT):TT:=fun σ H Q=>t σ H fun c H1=>if c=true then Q true H1 else u σ H1 Q
def RK(t:TT):TT:=fun σ H Q=>t σ H fun c H1=>Q (!c) H1
theorem gR(ha:PT X a tA):PW X (.BoolOp .And [a] pos) tA:=by
 intro wh kb s σ H Q I h;refine isTrue_and (cJ (ha kb s σ H Q I h) fun c s1 e=>?_);cases c with
 | true=>exact isTrue_and_nil e
 | false=>exact e
theorem ia(ha:PT X a tA):PW X (.BoolOp .Or [a] pos) tA:=by
 intro wh kb s σ H Q I h;refine isTrue_or (cJ (ha kb s σ H Q I h) fun c s1 e=>?_);cases c with
 | false=>exact isTrue_or_nil e
 | true=>exact e
theorem gq(ha:PT X a tA)(hb:PW X (.BoolOp .And (b::rest) pos) QM):PW X (.BoolOp .And (a::b::rest) pos) (RJ tA QM):=by
 intro wh kb s σ H Q I h;refine isTrue_and (cJ (ha kb s σ H _ I h) fun c s1 ⟨H1,I1,q1⟩=>?_);cases c with
 | true=>exact hb wh kb s1 σ H1 Q I1 q1
 | false=>exact⟨H1,I1,q1⟩
theorem iS(ha:PT X a tA)(hb:PW X (.BoolOp .Or (b::rest) pos) QM):PW X (.BoolOp .Or (a::b::rest) pos) (Zy tA QM):=by
 intro wh kb s σ H Q I h;refine isTrue_or (cJ (ha kb s σ H _ I h) fun c s1 ⟨H1,I1,q1⟩=>?_);cases c with
 | true=>exact⟨H1,I1,q1⟩
 | false=>exact hb wh kb s1 σ H1 Q I1 q1
theorem dD(ha:PT X a tA):PT X (.UnaryOp .Not a pos) (RK tA):=by intro kb s σ H Q I h;exact isTrue_not (ha kb s σ H (fun c H1=>Q (!c) H1) I h)
def L6(ta tb:TE):TE:=fun σ H Q=>ta σ H fun x H1=>∃c,x=.bl c/\if c=true then tb σ H1 Q else Q (.bl false) H1
def RL(ta tb:TE):TE:=fun σ H Q=>ta σ H fun x H1=>∃c,x=.bl c/\if c=true then Q (.bl true) H1 else tb σ H1 Q
def L7(ta:TE):TE:=fun σ H Q=>ta σ H fun x H1=>∃c,x=.bl c/\Q (.bl (!c)) H1
theorem ft{op}{t:TE}(h:PE X a t):PE X (.BoolOp op [a] pos) t:=fun kb s σ H Q I hw=>BoolOp_one (h kb s σ H Q I hw)
theorem ib(ha:PE X a ta)(hb:PE X (.BoolOp .And (b::rest) pos) tb):PE X (.BoolOp .And (a::b::rest) pos) (L6 ta tb):=by
 intro kb s σ H Q I h;refine BoolOp_and (cJ (ha kb s σ H _ I h) fun v s1 ⟨x,H1,I1,r1,q1⟩=>?_);obtain⟨c,rfl,q1⟩:=q1;cases r1;refine wpAny_truthy_bool ?_;cases c with
 | true=>exact hb kb s1 σ H1 Q I1 q1
 | false=>exact⟨.bl false,H1,I1,rfl,q1⟩
theorem Hd(ha:PE X a ta)(hb:PE X (.BoolOp .Or (b::rest) pos) tb):PE X (.BoolOp .Or (a::b::rest) pos) (RL ta tb):=by
 intro kb s σ H Q I h;refine BoolOp_or (cJ (ha kb s σ H _ I h) fun v s1 ⟨x,H1,I1,r1,q1⟩=>?_);obtain⟨c,rfl,q1⟩:=q1;cases r1;refine wpAny_truthy_bool ?_;cases c with
 | false=>exact hb kb s1 σ H1 Q I1 q1
 | true=>exact⟨.bl true,H1,I1,rfl,q1⟩
theorem I0(ha:PE X a ta):PE X (.UnaryOp .Not a pos) (L7 ta):=by intro kb s σ H Q I h;refine UnaryOp_ (cJ (ha kb s σ H _ I h) fun v s1 ⟨x,H1,I1,r1,q1⟩=>?_);obtain⟨c,rfl,q1⟩:=q1;cases r1;exact not_of (wpAny_truthy_bool ⟨.bl (!c),H1,I1,rfl,q1⟩)
def Zz(t:TT)(ta tb:TE):TE:=fun σ H Q=>t σ H fun c H1=>if c=true then ta σ H1 Q else tb σ H1 Q
theorem cQ{c:Expr}(hc:PT X c tA)(ha:PE X a ta)(hb:PE X b tb):PE X (.IfExp c a b pos) (Zz tA ta tb):=by
 intro kb s σ H Q I h;refine wpAny_IfExp (cJ (hc kb s σ H _ I h) fun d s1 ⟨H1,I1,q1⟩=>?_);cases d with
 | true=>exact ha kb s1 σ H1 Q I1 q1
 | false=>exact hb kb s1 σ H1 Q I1 q1
end
def aV(K:gv)(H:Hp)(a:Addr)(xs:List V):Prop :=
 Rd H a (.lst xs)\/
  ∃(o:Obj) (its:Array Value) (n:Nat),K.lookup a=some o/\o.cls=.type "list"/\o.dict=none/\o.data=.seq its n/\its.size<=ee/\Vals xs its.toList
def bz(K:gv)(H:Hp)(a:Addr)(xs:List V):Prop :=
 Rd H a (.tup xs)\/
  ∃(o:Obj) (its:Array Value) (n:Nat),K.lookup a=some o/\o.cls=.type "tuple"/\o.data=.seq its n/\its.size<=ee/\Vals xs its.toList
def RM:Value->Option V
 | .none=>some .non
 | .bool b=>some (.bl b)
 | .int i _=>some (.int i)
 | .str x _=>some (.str x)
 | .bytes b _=>some (.Bk b)
 | .float b _=>some (.flt b)
 | .ref a=>some (.ref a)
 | .type n=>some (.ty n)
 | _=>none
theorem RelV.abs{x:V}{u:Value}(r:RelV x u):RM u=some x:=by
 cases x with
 | non=>cases r;rfl
 | bl _=>cases r;rfl
 | int _=>obtain⟨t,rfl⟩:=r;rfl
 | str _=>obtain⟨t,rfl⟩:=r;rfl
 | Bk _=>obtain⟨t,rfl⟩:=r;rfl
 | flt _=>obtain⟨t,rfl⟩:=r;rfl
 | ref _=>cases r;rfl
 | ty _=>cases r;rfl
theorem RelV.inj{x y:V}{u:Value}(r:RelV x u)(q:RelV y u):x=y:=Option.some.inj (r.abs.symm.trans q.abs)
theorem Vals.inj:∀{xs ys:List V} {us:List Value},Vals xs us->Vals ys us->xs=ys
 | _,_,_,.nil,.nil=>rfl
 | _,_,_,.cons r t,.cons r' t'=>by rw[r.inj r',Vals.inj t t']
section
variable {X:Cx}{kb:List (Addr×Obj)}{σ:St}{H:Hp}{s:Shared}{a:Addr}{xs ys:List V}
theorem aV.of{K:gv}(h:H a=some (.lst xs)):aV K H a xs:=.inl (.inl h)
theorem bz.of{K:gv}(h:H a=some (.tup xs)):bz K H a xs:=.inl (.inl h)
theorem Inv.list(I:Inv X kb σ H s)(h:aV X.K H a xs):∃its:List Value,Vals xs its/\PlainL s.heap a its.toArray/\xs.length<=ee:=by
 rcases h with h | ⟨o,its,n,hk,hc,hd,hs,hz,r⟩
 ·obtain⟨z,its,n,r,e⟩:=h.ok I.hok;exact⟨its,r,⟨_,n,e,rfl,rfl,rfl⟩,z⟩
 ·refine⟨its.toList,r,⟨o,n,I.lL a o hk,hc,hd,by simpa using hs⟩,?_⟩;have e:=r.length;simp only[Array.length_toList]at e;omega
theorem Inv.tuple(I:Inv X kb σ H s)(h:bz X.K H a xs):∃its:List Value,Vals xs its/\IsTup s.heap a its.toArray/\xs.length<=ee:=by
 rcases h with h | ⟨o,its,n,hk,hc,hs,hz,r⟩
 ·obtain⟨z,its,r,p⟩:=h.ok I.hok;exact⟨its,r,p,z⟩
 ·refine⟨its.toList,r,⟨o,I.lL a o hk,hc,n,by simpa using hs⟩,?_⟩;have e:=r.length;simp only[Array.length_toList]at e;omega
theorem Inv.ox(I:Inv X kb σ H s)(h:aV X.K H a xs)(h':aV X.K H a ys):xs=ys:=by
 obtain⟨its,r,⟨o,n,e,_,_,d⟩,_⟩:=I.list h;obtain⟨its',r',⟨o',n',e',_,_,d'⟩,_⟩:=I.list h';rw[e]at e';cases e';rw[d]at d';injection d' with d1 _
 have:its=its':=by simpa using congrArg Array.toList d1
 subst this;exact r.inj r'
theorem Inv.jv(I:Inv X kb σ H s)(h:bz X.K H a xs)(h':bz X.K H a ys):xs=ys:=by
 obtain⟨its,r,⟨o,e,_,n,d⟩,_⟩:=I.tuple h;obtain⟨its',r',⟨o',e',_,n',d'⟩,_⟩:=I.tuple h';rw[e]at e';cases e';rw[d]at d';injection d' with d1 _
 have:its=its':=by simpa using congrArg Array.toList d1
 subst this;exact r.inj r'
abbrev Cx.wish(X:Cx)(E:Value->Shared->Prop):Cx:={X with xe:=E}
abbrev Cx.QN(X:Cx):Cx:=X.wish fun _ _=>False
theorem Cx.Ok.wish{X:Cx}(ok:X.Ok)(E:Value->Shared->Prop):(X.wish E).Ok :=
 ⟨ok.mod,ok.kind,ok.glob,ok.blt,ok.above,ok.inj,ok.has,ok.cab,ok.hd,ok.frames,ok.stk,ok.QK,ok.bs,ok.D9,ok.Bm,ok.zW,ok.kf,ok.IV⟩
theorem Cx.Ok.iH{X:Cx}{E:Value->Shared->Prop}(ok:(X.wish E).Ok):X.Ok :=
 ⟨ok.mod,ok.kind,ok.glob,ok.blt,ok.above,ok.inj,ok.has,ok.cab,ok.hd,ok.frames,ok.stk,ok.QK,ok.bs,ok.D9,ok.Bm,ok.zW,ok.kf,ok.IV⟩
variable {E:Value->Shared->Prop}
theorem Inv.wish(I:Inv X kb σ H s)(E:Value->Shared->Prop):Inv (X.wish E) kb σ H s:=⟨I.ok.wish E,I.os,I.bare,I.base,I.loc,I.cell,I.free,I.iR,I.pin,I.hok,I.len⟩
theorem Inv.iH(I:Inv (X.wish E) kb σ H s):Inv X kb σ H s:=⟨I.ok.iH,I.os,I.bare,I.base,I.loc,I.cell,I.free,I.iR,I.pin,I.hok,I.len⟩
theorem SP.iH{D:Ends}{f:Flow}{s':Shared}(h:SP (X.wish E) kb D f s'):SP X kb D f s':=by
 cases f with
 | next=>obtain⟨σ',H',I,q⟩:=h;exact⟨σ',H',I.iH,q⟩
 | brk=>obtain⟨σ',H',I,q⟩:=h;exact⟨σ',H',I.iH,q⟩
 | cont=>obtain⟨σ',H',I,q⟩:=h;exact⟨σ',H',I.iH,q⟩
 | ret u=>obtain⟨v,σ',H',I,r,q⟩:=h;exact⟨v,σ',H',I.iH,r,q⟩
theorem qQ.QN{st:List Stmt}{t:TS}(h:qQ X.QN st t):qQ X st t:=fun kb s σ H D I hw=>
 eg (h kb s σ H D (I.wish _) hw) (fun _ _ q=>q.iH) fun _ _ z=>False.elim z
variable {st:Stmt}{rest:List Stmt}{t u:TS}{e:Expr}{te:TE}{pos:Pos}
def L8:TS:=fun D σ H=>D.nx σ H
def Ma(t u:TS):TS:=fun D σ H=>t {D with nx:=u D} σ H
theorem aO:qQ X [] L8:=fun _ _ σ H _ I h=>wpAny_execs_nil ⟨σ,H,I,h⟩
theorem aq(h1:PS X st t)(h2:qQ X rest u):qQ X (st::rest) (Ma t u):=by
 intro kb s σ H D I h;refine wpAny_execs_cons (cJ (h1 kb s σ H {D with nx:=u D} I h) fun f s1 q=>?_);cases f with
 | next=>
  obtain⟨σ',H',I',q⟩:=q;exact h2 kb s1 σ' H' D I' q
 | ret v=>exact q
 | brk=>exact q
 | cont=>exact q
theorem az(h1:PS X st t):qQ X [st] t:=by
 intro kb s σ H D I h;refine wpAny_execs_cons (cJ (h1 kb s σ H D I h) fun f s1 q=>?_);cases f with
 | next=>exact wpAny_execs_nil q
 | ret v=>exact q
 | brk=>exact q
 | cont=>exact q
theorem Inv.quiet{kb:List (Addr×Obj)}{σ:St}{H:Hp}{s:Shared}(I:Inv X kb σ H s):interactive X.env=false:=by simp[interactive,I.ok.kind]
def Mb(te:TE):TS:=fun D σ H=>te σ H fun _ H1=>D.nx σ H1
theorem cC(he:PE X e te)(hs:swapsWith e none pos.line X.env=pure false:=by rfl):PS X (.Expr e pos) (Mb te):=by intro kb s σ H D I h;exact wpAny_Expr_any (cJ (he kb s σ H _ I h) fun v s1 ⟨x,H1,I1,r1,q1⟩=>⟨σ,H1,I1,q1⟩) I.quiet hs
def Md(te:TE):TS:=fun D σ H=>te σ H D.rt
theorem aC(he:PE X e te):PS X (.Return (some e) pos) (Md te):=by intro kb s σ H D I h;exact wpAny_Return_some (cJ (he kb s σ H _ I h) fun v s1 ⟨x,H1,I1,r1,q1⟩=>⟨x,σ,H1,I1,r1,q1⟩)
def Mf(c:TT)(t u:TS):TS:=fun D σ H=>c σ H fun b H1=>if b=true then t D σ H1 else u D σ H1
theorem cN{c:Expr}{a b:List Stmt}{tc:TT}(hc:PT X c tc)(ha:qQ X a t)(hb:qQ X b u):PS X (.If c a b pos) (Mf tc t u):=by
 intro kb s σ H D I h;refine wpAny_If (cJ (hc kb s σ H _ I h) fun d s1 ⟨H1,I1,q1⟩=>?_);cases d with
 | true=>exact ha kb s1 σ H1 D I1 q1
 | false=>exact hb kb s1 σ H1 D I1 q1
def Bp:TS:=fun _ _ _=>False
theorem oy:PS X st Bp:=fun _ _ _ _ _ _ h=>h.elim
theorem lN{sts:List Stmt}:qQ X sts Bp:=fun _ _ _ _ _ _ h=>h.elim
end
abbrev TG:=V->St->Hp->(St->Hp->Prop)->Prop
abbrev Ja:=List V->St->Hp->(St->Hp->Prop)->Prop
def PG(X:Cx)(target:Expr)(t:TG):Prop :=
 ∀(kb:List (Addr×Obj)) (s:Shared) (σ:St) (H:Hp) (v:V) (u:Value) (Q:St->Hp->Prop),Inv X kb σ H s->RelV v u->t v σ H Q->
  wpAny (model X.prog X.w) X.A (assign target X.env u) (fun _ s'=>∃σ' H',Inv X kb σ' H' s'/\Q σ' H') X.xe s
def QO(X:Cx)(ts:List Expr)(t:Ja):Prop :=
 ∀(kb:List (Addr×Obj)) (s:Shared) (σ:St) (H:Hp) (vs:List V) (us:List Value) (Q:St->Hp->Prop),Inv X kb σ H s->Vals vs us->t vs σ H Q->
  wpAny (model X.prog X.w) X.A (assignInOrder ((assignEach ts X.env).map (·.2)) us) (fun _ s'=>∃σ' H',Inv X kb σ' H' s'/\Q σ' H') X.xe s
section
variable {X:Cx}{pos:Pos}
def uM(i:Nat):TG:=fun v σ H Q=>Q (σ.set i (some v)) H
theorem cq{i:Nat}{x:Str}(hN:X.N.Nodup)(hi:X.N[i]? =some x)(hx:Loc X.env.scope x)(hf:X.fn x=true\/X.env.scope.names.lookup x=some .local:=by first | exact .inl rfl | exact .inr rfl | assumption):PG X (.Name x pos) (uM i):=by intro kb s σ H v u Q I r h;exact wpAny_assign_Name (uL I hN hi hx r (fun s' I'=>⟨_,H,I',h⟩) hf)
def Mg:Ja:=fun vs σ H Q=>vs=[]/\Q σ H
def Bq(t:TG)(u:Ja):Ja:=fun vs σ H Q=>∃v r,vs=v::r/\t v σ H fun σ' H'=>u r σ' H' Q
theorem yi:QO X [] Mg:=by intro kb s σ H vs us Q I r h;obtain⟨e,h⟩:=h;subst e;cases r;exact assignInOrder_nil ⟨σ,H,I,h⟩
theorem kj{e:Expr}{es:List Expr}{t:TG}{u:Ja}(h1:PG X e t)(h2:QO X es u)
  (hs:(assignEach (e::es) X.env).map (·.2)=assign e X.env::(assignEach es X.env).map (·.2):=by rfl):QO X (e::es) (Bq t u):=by
 intro kb s σ H vs us Q I r h;obtain⟨v,vr,e1,h⟩:=h;subst e1;cases r with
 | cons r rr=>
  rw[hs];refine assignInOrder_cons (cJ (h1 kb s σ H _ _ _ I r h) fun _ s1 ⟨σ1,H1,I1,q1⟩=>?_);exact h2 kb s1 σ1 H1 _ _ Q I1 rr q1
def Mh(K:gv)(n:Nat)(t:Ja):TG:=fun v σ H Q=>∃a xs,v=.ref a/\bz K H a xs/\xs.length=n/\t xs σ H Q
theorem Br{es:List Expr}{k:Nat}{t:Ja}{n:Nat}(hc:X.calm=true)(h:QO X es t)
  (hn:(assignEach es X.env).length=n:=by rfl) (hst:(assignEach es X.env).findIdx? (·.1)=none:=by rfl):PG X (.Tuple es k pos) (Mh X.K n t):=by
 intro kb s σ H v u Q I r hw;obtain⟨a,xs,e1,hq,hl,hw⟩:=hw;subst e1;cases r;obtain⟨its,rv,ht,hz⟩:=I.tuple hq;refine assign_Tuple_tuple (I.ok.hd hc) ht (by simp[hn,<-hl,rv.length]) hst fun h' hx=>?_;have I1:Inv X kb σ H {s with heap:=h'}:=I.kept (t':=s.toks) fun b o e=>hx b o (js (fm e)) e;exact h kb _ σ H xs _ Q I1 (by simpa using rv) hw
def Jb(te:TE)(g:TG):TS:=fun D σ H=>te σ H fun x H1=>g x σ H1 D.nx
theorem Jc{tg e:Expr}{te:TE}{g:TG}(he:PE X e te)(hg:PG X tg g)(hs:swapsWithSole [tg] e pos.line X.env=pure false:=by rfl)(hw:swappedStores [tg] e X.env=pure none:=by rfl)
  (h1:(assignEach [tg] X.env).map (·.2)=[assign tg X.env]:=by rfl):PS X (.Assign [tg] e pos) (Jb te g):=by
 intro kb s σ H D I h;refine wpAny_Assign_stores (cJ (he kb s σ H _ I h) fun v s1 ⟨x,H1,I1,r1,q1⟩=>?_) hs hw;rw[h1];exact cJ (hg kb s1 σ H1 x v _ I1 r1 q1) fun _ s2 q=>q
theorem aI{i:Nat}{x:Str}{e:Expr}{te:TE}{pos':Pos}(hN:X.N.Nodup)(hi:X.N[i]? =some x)(hx:Loc X.env.scope x)(he:PE X e te)(hs:swapsWith e (some (.Name x pos')) pos.line X.env=pure false:=by rfl)(hf:X.fn x=true\/X.env.scope.names.lookup x=some .local:=by first | exact .inl rfl | exact .inr rfl | assumption):
  PS X (.Assign [.Name x pos'] e pos) (Jb te (uM i)):=by
 intro kb s σ H D I h;refine wpAny_Assign_Name (cJ (he kb s σ H _ I h) fun v s1 ⟨y,H1,I1,r1,q1⟩=>?_) hs;exact uL I1 hN hi hx r1 (fun s2 I2=>⟨_,H1,I2,q1⟩) hf
def Jd(c:TT)(tb:TS):TS:=fun D σ H=>∃W:Nat->St->Hp->Prop,(∃m,W m σ H)/\∀m σ H,W m σ H->
 c σ H fun b H1=>if b=true then ∃N:St->Hp->Prop,(∀σ' H',N σ' H'->∃m',m'<m/\W m' σ' H')/\tb {D with nx:=N,ct:=N,bk:=D.nx} σ H1 else D.nx σ H1
theorem oz{c:Expr}{body:List Stmt}{tc:TT}{tb:TS}(hp:PassesOwn (model X.prog X.w) X.A X.env X.xe)(hc:PT X c tc)(hb:qQ X body tb):PS X (.While c body [] pos) (Jd tc tb):=by
 intro kb s σ H D I h;obtain⟨W,⟨m0,w0⟩,turn⟩:=h;refine wpAny_While (codeAny_whileLoop (fun n s'=>∃σ' H',Inv X kb σ' H' s'/\W n σ' H') ?_ m0 ⟨σ,H,I,w0⟩);rintro n s1 ⟨σ1,H1,I1,w1⟩;refine wpAny_passesOwn hp (cJ (hc kb s1 σ1 H1 _ I1 (turn n σ1 H1 w1)) fun b s2 ⟨H2,I2,q2⟩=>?_);cases b with
 | true=>
  obtain⟨N,hN,q2⟩:=q2;rw[if_pos rfl];refine wpAny_passesOwn hp (cJ (hb kb s2 σ1 H2 _ I2 q2) fun f s3 q3=>?_);cases f with
  | next=>
   obtain⟨σ3,H3,I3,n3⟩:=q3;obtain⟨m',hm,w3⟩:=hN σ3 H3 n3;exact⟨m',hm,σ3,H3,I3,w3⟩
  | cont=>
   obtain⟨σ3,H3,I3,n3⟩:=q3;obtain⟨m',hm,w3⟩:=hN σ3 H3 n3;exact⟨m',hm,σ3,H3,I3,w3⟩
  | brk=>exact q3
  | ret v=>exact q3
 | false=>
  rw[if_neg kt];exact wpAny_execs_nil ⟨σ1,H2,I2,q2⟩
structure It where
 go:Nat->Hp->Prop
 yj:Nat->Hp->V->Hp->Prop
 stop:Nat->Hp->Prop
def kl(X:Cx)(kb:List (Addr×Obj))(H:Hp)(b:Addr):Prop :=
 H b=none/\b≠X.env.locals/\b∉X.fs/\(b∈X.ex\/X.s₀.heap.objs.size<=b)/\(∀x c,X.env.cells.lookup x=some c->c≠b)/\∀p∈X.pn++kb,p.1≠b
theorem Inv.v9{X:Cx}{kb:List (Addr×Obj)}{σ:St}{H H':Hp}{s:Shared}{b:Addr}(I:Inv X kb σ H s)(hb:s.heap.objs.size<=b)(hn:H' b=none):kl X kb H' b:=by
 refine⟨hn,Nat.ne_of_gt (Nat.lt_of_lt_of_le I.lt hb),I.RH hb,.inr (kq I.sz hb),fun x c e z=>?_,fun p hp z=>?_⟩
 ·obtain⟨v,q⟩:=I.cell x c e;exact absurd (Nat.lt_of_lt_of_le q.lt (by rw[z];exact hb)) (Nat.lt_irrefl _)
 ·exact absurd (Nat.lt_of_lt_of_le (fm (I.pin p hp).1) (by rw[z];exact hb)) (Nat.lt_irrefl _)
structure Turn(P:Program)(w:World)(K:gv)(tg:Expr)(J:It)(fp:List Addr)(it:Addr)(tn:Nat->Heap->Prop):Prop where
 mem:it∈fp
 obj:∀i h,tn i h->∀b∈fp,∃o,h.get? b=some o/\∀v,o.data≠.cell v
 keep:∀i h h',tn i h->(∀b∈fp,∀o,h.get? b=some o->h'.get? b=some o)->tn i h'
 item:∀(X:Cx),X.prog=P->X.w=w->X.K=K->X.calm=true->∀(i:Nat) (kb:List (Addr×Obj)) (s:Shared) (σ:St) (H:Hp) (E:Value->Shared->Prop),Inv X kb σ H s->(∀b∈fp,kl X kb H b)->tn i s.heap->J.go i H->
  wpAny (model P w) X.A (pyNext (.ref it)) (fun r s1=>∃u,r=some u/\
   wpAny (model P w) X.A (letOwnedTupleGo tg (.ref it) u) (fun _ s2=>∃x H',Inv X kb σ H' s2/\RelV x u/\J.yj i H x H'/\tn (i+1) s2.heap/\∀b∈fp,H' b=none) E s1) E s
 done:∀(X:Cx),X.prog=P->X.w=w->X.K=K->X.calm=true->∀(i:Nat) (kb:List (Addr×Obj)) (s:Shared) (σ:St) (H:Hp) (E:Value->Shared->Prop),Inv X kb σ H s->(∀b∈fp,kl X kb H b)->tn i s.heap->J.stop i H->
  wpAny (model P w) X.A (pyNext (.ref it)) (fun r s1=>r=none/\Inv X kb σ H s1) E s
 self:∀(A:Around) (i:Nat) (s:Shared) (Q:Value->Shared->Prop) (E:Value->Shared->Prop),tn i s.heap->Q (.ref it) s->wpAny (model P w) A (pyIter (.ref it)) Q E s
abbrev TI:=St->Hp->(It->Hp->Prop)->Prop
def PIE(X:Cx)(kb:List (Addr×Obj))(σ:St)(tg:Expr)(R:It->Hp->Prop)(itv:Value)(s2:Shared):Prop :=
 ∃(it:Addr) (fp:List Addr) (tn:Nat->Heap->Prop) (J:It) (H':Hp),itv=.ref it/\Inv X kb σ H' s2/\Turn X.prog X.w X.K tg J fp it tn/\tn 0 s2.heap/\(∀b∈fp,kl X kb H' b)/\R J H'
def PI(X:Cx)(tg iter:Expr)(wi:TI):Prop :=
 ∀(kb:List (Addr×Obj)) (s:Shared) (σ:St) (H:Hp) (R:It->Hp->Prop),Inv X kb σ H s->wi σ H R->
  wpAny (model X.prog X.w) X.A (eval iter X.env) (fun v s1=>wpAny (model X.prog X.w) X.A (pyIter v) (PIE X kb σ tg R) X.xe s1) X.xe s
theorem uN{M:Model}{A:Around}{E:Value->Shared->Prop}{s:Shared}{tg:Expr}{it:Addr}{u:Value}{o:Obj}{n:String}{vs:Array Value}{Q:Unit->Shared->Prop}(ho:s.heap.get? it=some o)(hc:o.cls=.type n)(hd:o.data=.fields vs)
  (hn:["enumerate","zip","dict_itemiterator","dict_reverseitemiterator","odict_iterator","itertools.zip_longest","itertools.pairwise"].contains n=false) (hQ:Q () s):wpAny M A (letOwnedTupleGo tg (.ref it) u) Q E s:=by
 unfold letOwnedTupleGo;cases tg<;>first
  | exact db hQ
  | (cases u<;>first
    | exact db hQ
    | (refine c8 (wpAny_load ho ?_)
       rw[hc,hd];show wpAny M A (if (["enumerate","zip","dict_itemiterator","dict_reverseitemiterator","odict_iterator","itertools.zip_longest","itertools.pairwise"].contains n&&vs[0]? ==some (rawInt _))=true then _ else _) Q E s;rw[if_neg (by intro h;rw[hn,Bool.false_and]at h;cases h)]
       exact db hQ))
def He(K:gv)(a:Addr):It :=
 ⟨fun i H=>∃xs x,aV K H a xs/\xs[i]? =some x,fun i H x H'=>H'=H/\∀xs,aV K H a xs->xs[i]? =some x,fun i H=>∃xs,aV K H a xs/\xs.length<=i⟩
def Mi(K:gv)(a:Addr):It :=
 ⟨fun i H=>∃xs x,bz K H a xs/\xs[i]? =some x,fun i H x H'=>H'=H/\∀xs,bz K H a xs->xs[i]? =some x,fun i H=>∃xs,bz K H a xs/\xs.length<=i⟩
def DY(lo:Int)(n:Nat):It:=⟨fun i _=>i<n,fun i H x H'=>H'=H/\x=.int (lo+i),fun i _=>n<=i⟩
theorem zX{P:Program}{w:World}{K:gv}{tg:Expr}(a it:Addr):Turn P w K tg (He K a) [it] it (fun i h=>h.IsListIter it a i) where
 mem:=by simp
 obj:=fun i h st b hb=>by
  have e:b=it:=by simpa using hb
  subst e;obtain⟨o,e,c,d⟩:=st;exact⟨o,e,fun v z=>by rw[d]at z;cases z⟩
 keep:=fun i h h' st k=>st.at fun o e=>k it (by simp) o e
 item:=by intro X hP hw hK hc i kb s σ H E I hf st hg;subst hP hw hK;obtain⟨xs,x,hq,hx⟩:=hg;obtain⟨its,rv,p,hz⟩:=I.list hq;obtain⟨u,hu,ru⟩:=rv.get hx;obtain⟨f0,f1,f2,f3,f4,f5⟩:=hf it (by simp);refine wpAny_pyNext_list_item st p.isList (x:=u) (by simpa using hu) fun h' st' sb=>?_;have I1:Inv X kb σ H {s with heap:=h'}:=I.turned (t':=s.toks) (fun b o hb e=>(sb.2 b hb).trans e) f0 f1 f3 f4 f5;obtain⟨o,e,c,d⟩:=id st';exact⟨u,rfl,uN (s:={s with heap:=h'}) e c d (by decide) ⟨x,H,I1,ru,⟨rfl,fun ys hy=>by rw[I.ox hy hq];exact hx⟩,st',fun b hb=>(hf b hb).1⟩⟩
 done:=by intro X hP hw hK hc i kb s σ H E I hf st hg;subst hP hw hK;obtain⟨xs,hq,hx⟩:=hg;obtain⟨its,rv,p,hz⟩:=I.list hq;obtain⟨f0,f1,f2,f3,f4,f5⟩:=hf it (by simp);have hl:=rv.length;exact wpAny_pyNext_list_end (I.ok.hd hc) st p.isList (by simp;omega) fun h' eb=>⟨rfl,I.turned (t':=s.toks) (fun b o hb e=>eb b o hb e) f0 f1 f3 f4 f5⟩
 self:=fun _ _ _ _ _ st h=>wpAny_pyIter_listiter st h
theorem wa{P:Program}{w:World}{K:gv}{tg:Expr}(a it:Addr):Turn P w K tg (Mi K a) [it] it (fun i h=>h.IsTupleIter it a i) where
 mem:=by simp
 obj:=fun i h st b hb=>by
  have e:b=it:=by simpa using hb
  subst e;obtain⟨o,e,c,d⟩:=st;exact⟨o,e,fun v z=>by rw[d]at z;cases z⟩
 keep:=fun i h h' st k=>st.at fun o e=>k it (by simp) o e
 item:=by intro X hP hw hK hc i kb s σ H E I hf st hg;subst hP hw hK;obtain⟨xs,x,hq,hx⟩:=hg;obtain⟨its,rv,p,hz⟩:=I.tuple hq;obtain⟨u,hu,ru⟩:=rv.get hx;obtain⟨f0,f1,f2,f3,f4,f5⟩:=hf it (by simp);refine wpAny_pyNext_tuple_item st (show s.heap.IsTuple a its.toArray from p) (x:=u) (by simpa using hu) fun h' st' sb=>?_;have I1:Inv X kb σ H {s with heap:=h'}:=I.turned (t':=s.toks) (fun b o hb e=>(sb.2 b hb).trans e) f0 f1 f3 f4 f5;obtain⟨o,e,c,d⟩:=id st';exact⟨u,rfl,uN (s:={s with heap:=h'}) e c d (by decide) ⟨x,H,I1,ru,⟨rfl,fun ys hy=>by rw[I.jv hy hq];exact hx⟩,st',fun b hb=>(hf b hb).1⟩⟩
 done:=by intro X hP hw hK hc i kb s σ H E I hf st hg;subst hP hw hK;obtain⟨xs,hq,hx⟩:=hg;obtain⟨its,rv,p,hz⟩:=I.tuple hq;obtain⟨f0,f1,f2,f3,f4,f5⟩:=hf it (by simp);have hl:=rv.length;exact wpAny_pyNext_tuple_end (I.ok.hd hc) st (show s.heap.IsTuple a its.toArray from p) (by simp;omega) fun h' eb=>⟨rfl,I.turned (t':=s.toks) (fun b o hb e=>eb b o hb e) f0 f1 f3 f4 f5⟩
 self:=fun _ _ _ _ _ st h=>wpAny_pyIter_tupleiter st h
theorem wc{P:Program}{w:World}{K:gv}{tg:Expr}(it:Addr)(lo:Int)(n:Nat):Turn P w K tg (DY lo n) [it] it (fun i h=>IsRangeIter h it (lo+(i:Nat)*1) ((n:Int)- (i:Nat)) 1) where
 mem:=by simp
 obj:=fun i h st b hb=>by
  have e:b=it:=by simpa using hb
  subst e
  exact⟨_,st,fun v z=>by
   have z':Data.fields _=Data.cell v:=z
   cases z'⟩
 keep:=fun i h h' st k=>k it (by simp) _ st
 item:=by intro X hP hw hK hc i kb s σ H E I hf st hg;subst hP hw hK;obtain⟨f0,f1,f2,f3,f4,f5⟩:=hf it (by simp);have W:=Walks.range (prog:=X.prog) (w:=X.w) (I.ok.hd hc) it lo 1 n;refine W.item i s _ _ hg st fun v h' tk hv st' kk=>?_;obtain⟨t,rfl⟩:=hv;have I1:Inv X kb σ H {s with heap:=h',toks:=tk}:=I.turned (fun b o hb e=>kk b o (by simpa using hb) e) f0 f1 f3 f4 f5;refine⟨_,rfl,uN (s:={s with heap:=h',toks:=tk}) (n :="range_iterator") st' rfl rfl (by decide) ⟨.int (lo+i),H,I1,⟨t,?_⟩,⟨rfl,rfl⟩,st',fun b hb=>(hf b hb).1⟩⟩;rw[Int.mul_one]
 done:=by intro X hP hw hK hc i kb s σ H E I hf st hg;subst hP hw hK;obtain⟨f0,f1,f2,f3,f4,f5⟩:=hf it (by simp);exact wpAny_pyNext_range_end (I.ok.hd hc) st (by have:n<=i:=hg;omega) fun h' eb=>⟨rfl,I.turned (t':=s.toks) (fun b o hb e=>eb b o hb e) f0 f1 f3 f4 f5⟩
 self:=fun _ _ _ _ _ st h=>wpAny_pyIter_rangeiter st h
variable {tg:Expr}
def Mj(K:gv)(tl:TE):TI:=fun σ H R=>tl σ H fun x H1=>∃a,x=.ref a/\(∃xs,aV K H1 a xs)/\R (He K a) H1
def RN(K:gv)(tl:TE):TI:=fun σ H R=>tl σ H fun x H1=>∃a,x=.ref a/\(∃xs,bz K H1 a xs)/\R (Mi K a) H1
theorem eP{l:Expr}{tl:TE}(hl:PE X l tl):PI X tg l (Mj X.K tl):=by
 intro kb s σ H R I h;refine cJ (hl kb s σ H _ I h) fun v s1 ⟨x,H1,I1,r1,q1⟩=>?_;obtain⟨a,e,⟨xs,hq⟩,q⟩:=q1;subst e;cases r1;obtain⟨its,rv,p,hz⟩:=I1.list hq;refine wpAny_pyIter_list p.isList ?_;refine⟨s1.heap.objs.size,[s1.heap.objs.size],_,_,H1,rfl,I1.kept (t':=s1.toks) fun b o e=>fg _ e,zX a _,⟨_,fk _ rfl,rfl,rfl⟩,fun b hb=>?_,q⟩;have e:b=s1.heap.objs.size:=by simpa using hb
 subst e;exact I1.v9 (jp _) (I1.hok.fresh (jp _))
theorem wd{l:Expr}{tl:TE}(hl:PE X l tl):PI X tg l (RN X.K tl):=by
 intro kb s σ H R I h;refine cJ (hl kb s σ H _ I h) fun v s1 ⟨x,H1,I1,r1,q1⟩=>?_;obtain⟨a,e,⟨xs,hq⟩,q⟩:=q1;subst e;cases r1;obtain⟨its,rv,p,hz⟩:=I1.tuple hq;refine wpAny_pyIter_tuple (show s1.heap.IsTuple a its.toArray from p) ?_;refine⟨s1.heap.objs.size,[s1.heap.objs.size],_,_,H1,rfl,I1.kept (t':=s1.toks) fun b o e=>fg _ e,wa a _,⟨_,fk _ rfl,rfl,rfl⟩,fun b hb=>?_,q⟩;have e:b=s1.heap.objs.size:=by simpa using hb
 subst e;exact I1.v9 (jp _) (I1.hok.fresh (jp _))
theorem uO{kb:List (Addr×Obj)}{σ:St}{H:Hp}{s:Shared}{R:It->Hp->Prop}{E:Value->Shared->Prop}{lo hi:Int}{t u v:Tok}{tk:Nat}(I:Inv X kb σ H s)(h1:-(2^62)<=lo)(h2:lo<2^62)(h3:-(2^62)<=hi)(h4:hi<2^62)
  (q:R (DY lo (hi-lo).toNat) H):wpAny (model X.prog X.w) X.A (pyIter (.ref s.heap.objs.size)) (PIE X kb σ tg R) E {s with heap:=s.heap.push {cls:=.type "range",data:=.fields #[.int lo t,.int hi u,.int 1 v]},toks:=tk}:=by
 refine wpAny_pyIter_range (IsRange.new ..) (small_one h1 h2 h3 h4) ?_;have I1:Inv X kb σ H {s with heap:=s.heap.push {cls:=.type "range",data:=.fields #[.int lo t,.int hi u,.int 1 v]},toks:=tk}:=I.kept fun b o e=>fg _ e
 refine⟨(s.heap.push {cls:=.type "range",data:=.fields #[.int lo t,.int hi u,.int 1 v]}).objs.size,[(s.heap.push {cls:=.type "range",data:=.fields #[.int lo t,.int hi u,.int 1 v]}).objs.size],_,_,H,rfl,
  I1.kept (t':=tk) fun b o e=>fg _ e,wc _ lo (hi-lo).toNat,?_,fun b hb=>?_,q⟩
 ·have e1:lo+((0:Nat):Int)*1=lo:=by simp
  have e2:(((hi-lo).toNat:Nat):Int)- ((0:Nat):Int)=Builtin.Range.rangeSize lo hi 1:=by rw[rangeSize_one];split<;>omega
  show IsRangeIter _ _ (lo+((0:Nat):Int)*1) ((((hi-lo).toNat:Nat):Int)- ((0:Nat):Int)) 1;rw[e1,e2];exact fk _ rfl
 ·have e:b=(s.heap.push {cls:=.type "range",data:=.fields #[.int lo t,.int hi u,.int 1 v]}).objs.size:=by simpa using hb
  subst e;exact I1.v9 (jp _) (I1.hok.fresh (jp _))
def Mk(ta:TA):TI:=fun σ H R=>ta σ H fun vs H1=>∃j:Int,vs=[.int j]/\-(2^62)<=j/\j<2^62/\R (DY 0 j.toNat) H1
def Ml(ta:TA):TI:=fun σ H R=>ta σ H fun vs H1=>∃i j:Int,vs=[.int i,.int j]/\(-(2^62)<=i/\i<2^62/\-(2^62)<=j/\j<2^62)/\R (DY i (j-i).toNat) H1
theorem ip{a:Expr}{ta:TA}{p pos:Pos}(hg:Gl X "range")(hm:X.mg "range"=none)(ha:PA X [a] ta)(hs:starEach [a] X.env=[(false,eval a X.env)]:=by rfl):PI X tg (.Call (.Name "range" p) [a] [] pos) (Mk ta):=by
 intro kb s σ H R I h;refine Call_ (jZ I hg hm boot_range (PyProof.Rows.callWith_type1 (cJ (ha pos kb s σ H _ I h) fun us s1 ⟨vs,H1,I1,r1,q1⟩=>?_) hs rfl));obtain⟨j,e,q1,q2,q⟩:=q1;subst e;cases r1 with
 | cons r rr=>
  cases rr;obtain⟨t,rfl⟩:=r;exact call_range_1 (uO I1 (by omega) (by omega) q1 q2 (by simpa using q))
theorem zY{a b:Expr}{ta:TA}{p pos:Pos}(hg:Gl X "range")(hm:X.mg "range"=none)(ha:PA X [a,b] ta)(hs:starEach [a,b] X.env=[(false,eval a X.env),(false,eval b X.env)]:=by rfl)(hs2:starEach [b] X.env=[(false,eval b X.env)]:=by rfl):
  PI X tg (.Call (.Name "range" p) [a,b] [] pos) (Ml ta):=by
 intro kb s σ H R I h;refine Call_ (jZ I hg hm boot_range (PyProof.Rows.callWith_type1 (cJ (ha pos kb s σ H _ I h) fun us s1 ⟨vs,H1,I1,r1,q1⟩=>?_) (by rw[hs,hs2]) (by rw[hs2];rfl)));obtain⟨i,j,e,⟨q1,q2,q3,q4⟩,q⟩:=q1;subst e;cases r1 with
 | cons r rr=>
  cases rr with
  | cons r' rr=>
   cases rr;obtain⟨t,rfl⟩:=r;obtain⟨t',rfl⟩:=r';exact call_range_2 (uO I1 q1 q2 q3 q4 q)
def Mp(wi:TI)(g:TG)(tb:TS):TS:=fun D σ H=>wi σ H fun J H1=>∃W:Nat->Nat->St->Hp->Prop,(∃m,W 0 m σ H1)/\∀i m σ H,W i m σ H->
 (J.stop i H/\D.nx σ H)\/(J.go i H/\∃N:St->Hp->Prop,(∀σ' H',N σ' H'->∃m',m'<m/\W (i+1) m' σ' H')/\∀x H',J.yj i H x H'->g x σ H' fun σ2 H2=>tb {D with nx:=N,ct:=N,bk:=D.nx} σ2 H2)
def lO(fp:List Addr)(h:Heap):List (Addr×Obj):=fp.filterMap fun b=>(h.get? b).map fun o=>(b,o)
theorem eC{fp:List Addr}{h:Heap}{b:Addr}{o:Obj}(hb:b∈fp)(e:h.get? b=some o):(b,o)∈lO fp h:=List.mem_filterMap.mpr ⟨b,hb,by rw[e];rfl⟩
theorem zZ{fp:List Addr}{h:Heap}{p:Addr×Obj}(hp:p∈lO fp h):p.1∈fp/\h.get? p.1=some p.2:=by
 obtain⟨b,hb,e⟩:=List.mem_filterMap.mp hp;cases q:h.get? b with
 | none=>rw[q]at e;cases e
 | some o=>
  rw[q]at e;have e':(b,o)=p:=Option.some.inj e;subst e';exact⟨hb,q⟩
theorem Inv.pinned{kb:List (Addr×Obj)}{σ:St}{H:Hp}{s:Shared}{fp:List Addr}(I:Inv X kb σ H s)(hf:∀b∈fp,kl X kb H b)(ho:∀b∈fp,∃o,s.heap.get? b=some o/\∀v,o.data≠.cell v):Inv X (kb++lO fp s.heap) σ H s :=
 I.yh fun p hp=>(List.mem_append.mp hp).elim (fun z=>I.pin p (List.mem_append_right _ z)) fun z=>by obtain⟨hb,e⟩:=zZ z;obtain⟨f0,f1,f2,_⟩:=hf p.1 hb;obtain⟨o,e',d⟩:=ho p.1 hb;rw[e]at e';cases e';exact⟨e,f0,f1,f2,d⟩
theorem Inv.i9{kb pl:List (Addr×Obj)}{σ:St}{H:Hp}{s:Shared}(I:Inv X (kb++pl) σ H s):Inv X kb σ H s:=I.yh fun p hp=>I.pin p (List.mem_append_right _ (List.mem_append_left _ hp))
theorem eE{iter:Expr}{body:List Stmt}{wi:TI}{g:TG}{tb:TS}{pos:Pos}(hp:PassesOwn (model X.prog X.w) X.A X.env X.xe)(hc:X.calm=true)(hi:PI X tg iter wi)(hg:PG X tg g)(hb:qQ X body tb)
  (hs:∀x,foldedSetIterable iter X.env x=pure x:=by intro _;rfl):PS X (.For tg iter body [] pos) (Mp wi g tb):=by
 intro kb s σ H D I h;refine wpAny_For (cJ (hi kb s σ H _ I h) fun v s1 h1=>cJ h1 fun itv s2 h2=>?_) hs;obtain⟨it,fp,tn,J,H2,e,I2,T,st2,f2,W,⟨m0,w0⟩,turn⟩:=h2;subst e;have stat:∀{H':Hp},(∀b∈fp,H' b=none)->∀b∈fp,kl X kb H' b:=fun hn b hb=>⟨hn b hb,(f2 b hb).2⟩;refine codeAny_forLoop_any (fun n s'=>∃i σ' H',Inv X kb σ' H' s'/\tn i s'.heap/\(∀b∈fp,H' b=none)/\W i n σ' H') ?_ m0 ⟨0,σ,H2,I2,st2,fun b hb=>(f2 b hb).1,w0⟩;rintro n s3 ⟨i,σ3,H3,I3,st3,Xr,w3⟩;rcases turn i n σ3 H3 w3 with ⟨stop,qn⟩ | ⟨go,N,hN,step⟩
 ·refine wpAny_passesOwn hp (cJ (T.done X rfl rfl rfl hc i kb s3 σ3 H3 X.xe I3 (stat Xr) st3 stop) fun r s4 ⟨hr,I4⟩=>?_);subst hr;exact wpAny_execs_nil ⟨σ3,H3,I4,qn⟩
 ·refine wpAny_passesOwn hp (cJ (T.item X rfl rfl rfl hc i kb s3 σ3 H3 X.xe I3 (stat Xr) st3 go) fun r s4 ⟨u,hr,h4⟩=>?_);subst hr;refine wpAny_passesOwn hp (cJ h4 fun _ s5 ⟨x,H5,I5,r5,y5,Ea,Je⟩=>?_);have ZA:=I5.pinned (stat Je) (T.obj _ _ Ea);refine wpAny_passesOwn hp (cJ (hg _ s5 σ3 H5 x u _ ZA r5 (step x H5 y5)) fun _ s6 ⟨σ6,H6,I6,q6⟩=>?_);refine wpAny_passesOwn hp (cJ (hb _ s6 σ6 H6 _ I6 q6) fun f s7 q7=>?_);have again:∀{σ7:St} {H7:Hp},Inv X (kb++lO fp s5.heap) σ7 H7 s7->N σ7 H7->∃m,m<n/\∃i σ' H',Inv X kb σ' H' s7/\tn i s7.heap/\(∀b∈fp,H' b=none)/\W i m σ' H':=fun {σ7 H7} I7 n7=>by obtain⟨m',hm,w7⟩:=hN σ7 H7 n7;refine⟨m',hm,i+1,σ7,H7,I7.i9,T.keep _ _ _ Ea fun b hb o e=>(I7.pin (b,o) (List.mem_append_right _ (List.mem_append_right _ (eC hb e)))).1,fun b hb=>?_,w7⟩;obtain⟨o,e,d⟩:=T.obj _ _ Ea b hb;exact(I7.pin (b,o) (List.mem_append_right _ (List.mem_append_right _ (eC hb e)))).2.1
  cases f with
  | next=>obtain⟨σ7,H7,I7,n7⟩:=q7;exact again I7 n7
  | cont=>obtain⟨σ7,H7,I7,n7⟩:=q7;exact again I7 n7
  | brk=>obtain⟨σ7,H7,I7,q7⟩:=q7;exact⟨σ7,H7,I7.i9,q7⟩
  | ret v=>obtain⟨x7,σ7,H7,I7,r7,q7⟩:=q7;exact⟨x7,σ7,H7,I7.i9,r7,q7⟩
end
theorem oA{K:gv}{a:Addr}{xs:List V}{g:TG}{tb:TS}{D:Ends}{σ:St}{H:Hp}(Pv:Nat->St->Hp->Prop)(h0:Pv 0 σ H)(hl:∀i σ H,i<=xs.length->Pv i σ H->aV K H a xs)
  (hs:∀i x σ H,xs[i]? =some x->Pv i σ H->g x σ H fun σ2 H2=>tb {D with nx:=Pv (i+1),ct:=Pv (i+1),bk:=D.nx} σ2 H2) (hd:∀σ H,Pv xs.length σ H->D.nx σ H):
  ∃W:Nat->Nat->St->Hp->Prop,(∃m,W 0 m σ H)/\∀i m σ H,W i m σ H->
   ((He K a).stop i H/\D.nx σ H)\/((He K a).go i H/\∃N:St->Hp->Prop,(∀σ' H',N σ' H'->∃m',m'<m/\W (i+1) m' σ' H')/\∀x H',(He K a).yj i H x H'->g x σ H' fun σ2 H2=>tb {D with nx:=N,ct:=N,bk:=D.nx} σ2 H2):=by
 refine⟨fun i m σ H=>m=xs.length-i/\i<=xs.length/\Pv i σ H,⟨xs.length,by simp,Nat.zero_le _,h0⟩,?_⟩;rintro i m σ H ⟨rfl,hi,p⟩;have q:=hl i σ H hi p;by_cases hlt:i<xs.length
 ·refine .inr ⟨⟨xs,xs[i],q,by simp[hlt]⟩,Pv (i+1),fun σ' H' p'=>⟨xs.length- (i+1),by omega,rfl,hlt,p'⟩,fun x H' y=>?_⟩;obtain⟨e,y⟩:=y;subst e;exact hs i x σ _ (y xs q) p
 ·have e:i=xs.length:=by omega
  subst e;exact .inl ⟨⟨xs,q,jp _⟩,hd σ H p⟩
theorem jw{lo:Int}{n:Nat}{g:TG}{tb:TS}{D:Ends}{σ:St}{H:Hp}(Pv:Nat->St->Hp->Prop)(h0:Pv 0 σ H)
  (hs:∀i σ H,i<n->Pv i σ H->g (.int (lo+i)) σ H fun σ2 H2=>tb {D with nx:=Pv (i+1),ct:=Pv (i+1),bk:=D.nx} σ2 H2) (hd:∀σ H,Pv n σ H->D.nx σ H):
  ∃W:Nat->Nat->St->Hp->Prop,(∃m,W 0 m σ H)/\∀i m σ H,W i m σ H->
   ((DY lo n).stop i H/\D.nx σ H)\/((DY lo n).go i H/\∃N:St->Hp->Prop,(∀σ' H',N σ' H'->∃m',m'<m/\W (i+1) m' σ' H')/\∀x H',(DY lo n).yj i H x H'->g x σ H' fun σ2 H2=>tb {D with nx:=N,ct:=N,bk:=D.nx} σ2 H2):=by
 refine⟨fun i m σ H=>m=n-i/\i<=n/\Pv i σ H,⟨n,by simp,Nat.zero_le _,h0⟩,?_⟩;rintro i m σ H ⟨rfl,hi,p⟩;by_cases hlt:i<n
 ·refine .inr ⟨hlt,Pv (i+1),fun σ' H' p'=>⟨n- (i+1),by omega,rfl,hlt,p'⟩,fun x H' y=>?_⟩;obtain⟨e,y⟩:=y;subst e y;exact hs i σ _ hlt p
 ·have e:i=n:=by omega
  subst e;exact .inl ⟨jp _,hd σ H p⟩
abbrev R2:=V->V->Hp->VK->Prop
def jP(X:Cx)(f:Value->Value->Sem Value)(r:R2):Prop :=
 ∀(kb:List (Addr×Obj)) (s:Shared) (σ:St) (H:Hp) (x y:V) (v u:Value) (Q:VK),Inv X kb σ H s->RelV x v->RelV y u->r x y H Q->
  wpAny (model X.prog X.w) X.A (f v u) (EP X kb σ Q) X.xe s
def RO(X:Cx)(f:Value->Sem Value)(r:V->Hp->VK->Prop):Prop :=
 ∀(kb:List (Addr×Obj)) (s:Shared) (σ:St) (H:Hp) (x:V) (v:Value) (Q:VK),Inv X kb σ H s->RelV x v->r x H Q->
  wpAny (model X.prog X.w) X.A (f v) (EP X kb σ Q) X.xe s
def iq(X:Cx)(f:Value)(r:List V->Hp->VK->Prop):Prop :=
 ∀(kb:List (Addr×Obj)) (s:Shared) (σ:St) (H:Hp) (xs:List V) (us:List Value) (Q:VK),Inv X kb σ H s->Vals xs us->r xs H Q->
  wpAny (model X.prog X.w) X.A (call f us) (EP X kb σ Q) X.xe s
def Mq(r:R2)(ta tb:TE):TE:=fun σ H Q=>ta σ H fun x H1=>tb σ H1 fun y H2=>r x y H2 Q
def ZC(r:V->Hp->VK->Prop)(ta:TE):TE:=fun σ H Q=>ta σ H fun x H1=>r x H1 Q
inductive rI(C:Int->Int->Prop)(g:Int->Int->V)(x:V)(y:V)(H:Hp)(Q:VK):Prop
 | mk (i j) (_:x=.int i) (_:y=.int j) (_:C i j) (_:Q (g i j) H)
inductive Hf(g:Int->Int->V)(x:V)(y:V)(H:Hp)(Q:VK):Prop
 | mk (i j) (_:x=.int i) (_:y=.int j) (_:Q (g i j) H)
inductive rU(g:Int->V)(x:V)(H:Hp)(Q:VK):Prop
 | mk (i) (_:x=.int i) (_:Q (g i) H)
section
variable {X:Cx}{a b c:Expr}{ta tb tc:TE}{pos:Pos}
theorem Jf(ha:PE X a ta)(hb:PE X b tb){kb:List (Addr×Obj)}{s:Shared}{σ:St}{H:Hp}{R:V->V->Hp->Prop}(I:Inv X kb σ H s)
  (h:ta σ H fun x H1=>tb σ H1 fun y H2=>R x y H2) {Q:Value->Shared->Prop} {f:Value->Value->Sem Value}
  (hf:∀v u s2 x y H2,Inv X kb σ H2 s2->RelV x v->RelV y u->R x y H2->wpAny (model X.prog X.w) X.A (f v u) Q X.xe s2):
  wpAny (model X.prog X.w) X.A (eval a X.env) (fun v s₁=>wpAny (model X.prog X.w) X.A (eval b X.env) (fun u s₂=>wpAny (model X.prog X.w) X.A (f v u) Q X.xe s₂) X.xe s₁) X.xe s:=by
 refine cJ (ha kb s σ H _ I h) fun v s1 ⟨x,H1,I1,r1,q1⟩=>?_;refine cJ (hb kb s1 σ H1 _ I1 q1) fun u s2 ⟨y,H2,I2,r2,q2⟩=>?_;exact hf v u s2 x y H2 I2 r1 r2 q2
theorem aA{op:Operator}{r:R2}(ho:jP X (binaryOp op) r)(ha:PE X a ta)(hb:PE X b tb):PE X (.BinOp a op b pos) (Mq r ta tb):=by intro kb s σ H Q I h;exact wpAny_BinOp (Jf ha hb I h fun v u s2 x y H2 I2 rx ry q=>ho kb s2 σ H2 x y v u Q I2 rx ry q)
theorem eY{op:UnaryOp}{r:V->Hp->VK->Prop}(ho:RO X (unaryOp op) r)(ha:PE X a ta):PE X (.UnaryOp op a pos) (ZC r ta):=by intro kb s σ H Q I h;exact UnaryOp_ (cJ (ha kb s σ H _ I h) fun v s1 ⟨x,H1,I1,r1,q1⟩=>ho kb s1 σ H1 x v Q I1 r1 q1)
theorem QP{f:Value->Value->Sem Value}{C:Int->Int->Prop}{g:Int->Int->Int}
  (rule:∀(i j:Int) (t u:Tok) (s:Shared) (Q:Value->Shared->Prop) (E:Value->Shared->Prop),C i j->Q (.int (g i j) s.toks) {s with toks:=s.toks+1}->wpAny (model X.prog X.w) X.A (f (.int i t) (.int j u)) Q E s):
  jP X f (rI C fun i j=>.int (g i j)):=by
 intro kb s σ H x y v u Q I rx ry h;obtain⟨i,j,rfl,rfl,hc,q⟩:=h;obtain⟨t,rfl⟩:=rx;obtain⟨t',rfl⟩:=ry;exact rule i j t t' s _ _ hc ⟨.int (g i j),H,I.tok _,⟨_,rfl⟩,q⟩
theorem Mr{f:Value->Value->Sem Value}{g:Int->Int->Int}
  (rule:∀(i j:Int) (t u:Tok) (s:Shared) (Q:Value->Shared->Prop) (E:Value->Shared->Prop),Q (.int (g i j) s.toks) {s with toks:=s.toks+1}->wpAny (model X.prog X.w) X.A (f (.int i t) (.int j u)) Q E s):
  jP X f (Hf fun i j=>.int (g i j)):=by
 intro kb s σ H x y v u Q I rx ry h;obtain⟨i,j,rfl,rfl,q⟩:=h;obtain⟨t,rfl⟩:=rx;obtain⟨t',rfl⟩:=ry;exact rule i j t t' s _ _ ⟨.int (g i j),H,I.tok _,⟨_,rfl⟩,q⟩
theorem Eb{f:Value->Value->Sem Value}{g:Int->Int->Bool}
  (rule:∀(i j:Int) (t u:Tok) (s:Shared) (Q:Value->Shared->Prop) (E:Value->Shared->Prop),Q (.bool (g i j)) s->wpAny (model X.prog X.w) X.A (f (.int i t) (.int j u)) Q E s):
  jP X f (Hf fun i j=>.bl (g i j)):=by
 intro kb s σ H x y v u Q I rx ry h;obtain⟨i,j,rfl,rfl,q⟩:=h;obtain⟨t,rfl⟩:=rx;obtain⟨t',rfl⟩:=ry;exact rule i j t t' s _ _ ⟨.bl (g i j),H,I,rfl,q⟩
def Ms(i j:Int):Prop:=0<=j/\j<=1000000/\i.natAbs<2^64
def Jg(i j:Int):Prop:=(-(2^64)<i/\i<2^64)\/(-(2^64)<j/\j<2^64)
theorem Jg.ok{i j:Int}(h:Jg i j):IntMulOk i j:=by
 rcases h with ⟨h1,h2⟩ | ⟨h1,h2⟩
 ·exact .of_left (intBits_le_64 h1 h2)
 ·exact .of_right (intBits_le_64 h1 h2)
theorem bg:jP X (binaryOp .Add) (Hf fun i j=>.int (i+j)):=Mr fun _ _ _ _ _ _ _ q=>add_int q
theorem dY:jP X (binaryOp .Sub) (Hf fun i j=>.int (i-j)):=Mr fun _ _ _ _ _ _ _ q=>sub_int q
theorem ic:jP X (binaryOp .Mult) (rI Jg fun i j=>.int (i*j)):=QP fun _ _ _ _ _ _ _ hc q=>mul_int q hc.ok
theorem dE:jP X (binaryOp .Mod) (rI (fun _ j=>0<j) fun i j=>.int (i % j)):=QP fun i j _ _ _ _ _ hc q=>by have h1:(0:Int)<j:=hc;exact mod_int' (by omega) (by rw[Int.fmod_eq_emod_of_nonneg i (by omega)];exact q)
theorem sr:jP X (binaryOp .Pow) (rI Ms fun i j=>.int (i^j.toNat)):=QP fun _ _ _ _ _ _ _ hc q=>pow_int_small hc.1 hc.2.1 hc.2.2 q
theorem ZD{f:Value->Sem Value}{g:Int->Int}
  (rule:∀(i:Int) (t:Tok) (s:Shared) (Q:Value->Shared->Prop) (E:Value->Shared->Prop),Q (.int (g i) s.toks) {s with toks:=s.toks+1}->wpAny (model X.prog X.w) X.A (f (.int i t)) Q E s):
  RO X f (rU fun i=>.int (g i)):=by
 intro kb s σ H x v Q I rx h;obtain⟨i,rfl,q⟩:=h;obtain⟨t,rfl⟩:=rx;exact rule i t s _ _ ⟨.int (g i),H,I.tok _,⟨_,rfl⟩,q⟩
theorem dG:RO X (unaryOp .USub) (rU fun i=>.int (-i)):=ZD fun _ _ _ _ _ q=>neg_int q
def Mt:V->V->Bool
 | .non,.non=>true | .non,.int _=>true | .int _,.non=>true | .non,.bl _=>true | .bl _,.non=>true | .non,.str _=>true | .str _,.non=>true
 | .int _,.int _=>true | .bl _,.bl _=>true | .str _,.str _=>true | .Bk _,.Bk _=>true
 | .int _,.str _=>true | .str _,.int _=>true | .bl _,.str _=>true | .str _,.bl _=>true
 | _,_=>false
def ZE:R2:=fun x y H Q=>Mt x y=true/\Q (.bl (decide (x=y))) H
def ZF:R2:=fun x y H Q=>Mt x y=true/\Q (.bl (!decide (x=y))) H
theorem yk{i j:Int}:decide (V.int i=V.int j)=(i==j):=by rw[Bool.eq_iff_iff];simp
theorem Bs{i j:Bool}:decide (V.bl i=V.bl j)=(i==j):=by rw[Bool.eq_iff_iff];simp
theorem yl{i j:Str}:decide (V.str i=V.str j)=(i==j):=by rw[Bool.eq_iff_iff];simp
theorem ym{i j:Array UInt8}:decide (V.Bk i=V.Bk j)=(i.toList==j.toList):=by rw[Bool.eq_iff_iff];cases i;cases j;simp
theorem cn{kb:List (Addr×Obj)}{σ:St}{H:Hp}{s:Shared}{Q:VK}{k k':Bool}(I:Inv X kb σ H s)(q:Q (.bl k) H)(e:k=k'):EP X kb σ Q (.bool k') s:=by subst e;exact⟨.bl k,H,I,rfl,q⟩
theorem cT:jP X (compareOp .Eq) ZE:=by
 intro kb s σ H x y v u Q I rx ry h;obtain⟨hs,q⟩:=h;cases x with
 | non=>
  cases rx;cases y with
  | non=>cases ry;exact PySem.EqNone.eq_none_none (cn I q (by simp))
  | bl j=>cases ry;exact PySem.EqNone.eq_none_bool (cn I q (by simp))
  | int j=>obtain⟨t',rfl⟩:=ry;exact PySem.EqNone.eq_none_int (cn I q (by simp))
  | str j=>obtain⟨t',rfl⟩:=ry;exact PySem.EqNone.eq_none_str (cn I q (by simp))
  | _=>exact absurd (show false=true from hs) kt
 | bl i=>
  cases rx;cases y with
  | non=>cases ry;exact PySem.EqNone.eq_bool_none (cn I q (by simp))
  | bl j=>cases ry;exact eq_bool (cn I q Bs)
  | str j=>obtain⟨t',rfl⟩:=ry;exact PySem.EqMixed.eq_bool_str (cn I q (by simp))
  | _=>exact absurd (show false=true from hs) kt
 | int i=>
  obtain⟨t,rfl⟩:=rx;cases y with
  | non=>cases ry;exact PySem.EqNone.eq_int_none (cn I q (by simp))
  | int j=>obtain⟨t',rfl⟩:=ry;exact eq_int (cn I q yk)
  | str j=>obtain⟨t',rfl⟩:=ry;exact PySem.EqMixed.eq_int_str (cn I q (by simp))
  | _=>exact absurd (show false=true from hs) kt
 | str i=>
  obtain⟨t,rfl⟩:=rx;cases y with
  | non=>cases ry;exact PySem.EqNone.eq_str_none (cn I q (by simp))
  | bl j=>cases ry;exact PySem.EqMixed.eq_str_bool (cn I q (by simp))
  | int j=>obtain⟨t',rfl⟩:=ry;exact PySem.EqMixed.eq_str_int (cn I q (by simp))
  | str j=>obtain⟨t',rfl⟩:=ry;exact eq_str (cn I q yl)
  | _=>exact absurd (show false=true from hs) kt
 | Bk i=>
  obtain⟨t,rfl⟩:=rx;cases y with
  | Bk j=>obtain⟨t',rfl⟩:=ry;exact PySem.W.eq_bytes (cn I q ym)
  | _=>exact absurd (show false=true from hs) kt
 | _=>cases y<;>exact absurd (show false=true from hs) kt
theorem yn:jP X (compareOp .NotEq) ZF:=by
 intro kb s σ H x y v u Q I rx ry h;obtain⟨hs,q⟩:=h;cases x with
 | non=>
  cases rx;cases y with
  | non=>cases ry;exact PySem.EqNone.ne_none_none (cn I q (by simp))
  | bl j=>cases ry;exact PySem.EqNone.ne_none_bool (cn I q (by simp))
  | int j=>obtain⟨t',rfl⟩:=ry;exact PySem.EqNone.ne_none_int (cn I q (by simp))
  | str j=>obtain⟨t',rfl⟩:=ry;exact PySem.EqNone.ne_none_str (cn I q (by simp))
  | _=>exact absurd (show false=true from hs) kt
 | bl i=>
  cases rx;cases y with
  | non=>cases ry;exact PySem.EqNone.ne_bool_none (cn I q (by simp))
  | bl j=>cases ry;exact ne_bool (cn I q (congrArg not Bs))
  | str j=>obtain⟨t',rfl⟩:=ry;exact PySem.EqMixed.ne_bool_str (cn I q (by simp))
  | _=>exact absurd (show false=true from hs) kt
 | int i=>
  obtain⟨t,rfl⟩:=rx;cases y with
  | non=>cases ry;exact PySem.EqNone.ne_int_none (cn I q (by simp))
  | int j=>obtain⟨t',rfl⟩:=ry;exact ne_int (cn I q (congrArg not yk))
  | str j=>obtain⟨t',rfl⟩:=ry;exact PySem.EqMixed.ne_int_str (cn I q (by simp))
  | _=>exact absurd (show false=true from hs) kt
 | str i=>
  obtain⟨t,rfl⟩:=rx;cases y with
  | non=>cases ry;exact PySem.EqNone.ne_str_none (cn I q (by simp))
  | bl j=>cases ry;exact PySem.EqMixed.ne_str_bool (cn I q (by simp))
  | int j=>obtain⟨t',rfl⟩:=ry;exact PySem.EqMixed.ne_str_int (cn I q (by simp))
  | str j=>obtain⟨t',rfl⟩:=ry;exact ne_str (cn I q (congrArg not yl))
  | _=>exact absurd (show false=true from hs) kt
 | Bk i=>
  obtain⟨t,rfl⟩:=rx;cases y with
  | Bk j=>obtain⟨t',rfl⟩:=ry;exact PySem.W.ne_bytes (cn I q (congrArg not ym))
  | _=>exact absurd (show false=true from hs) kt
 | _=>cases y<;>exact absurd (show false=true from hs) kt
theorem mV:jP X (compareOp .Lt) (Hf fun i j=>.bl (decide (i<j))):=Eb fun _ _ _ _ _ _ _ q=>lt_int q
theorem ja:jP X (compareOp .LtE) (Hf fun i j=>.bl (decide (i<=j))):=Eb fun _ _ _ _ _ _ _ q=>le_int q
theorem jQ:jP X (compareOp .Gt) (Hf fun i j=>.bl (decide (j<i))):=Eb fun _ _ _ _ _ _ _ q=>gt_int q
theorem Mu:jP X (compareOp .GtE) (Hf fun i j=>.bl (decide (j<=i))):=Eb fun _ _ _ _ _ _ _ q=>ge_int q
inductive uP(x:V)(y:V)(H:Hp)(Q:VK):Prop
 | mk (i j) (_:x=.str i) (_:y=.str j) (_:Q (.bl (!(Builtin.Str.occurrences j i 0 j.length 1).isEmpty)) H)
theorem z9:jP X (compareOp .In) uP:=by intro kb s σ H x y v u Q I rx ry h;obtain⟨i,j,rfl,rfl,q⟩:=h;obtain⟨t,rfl⟩:=rx;obtain⟨t',rfl⟩:=ry;exact in_str (cn I q rfl)
theorem Jh:jP X (compareOp .Is) (fun x y H Q=>y=.non/\Q (.bl (decide (x=.non))) H):=by
 intro kb s σ H x y v u Q I rx ry h;obtain⟨rfl,q⟩:=h;cases ry;refine is_none_gen (cn I q ?_);cases x<;>first
  | (cases rx;rfl)
  | (obtain⟨t,rfl⟩:=rx;rfl)
theorem yo:jP X (compareOp .IsNot) (fun x y H Q=>y=.non/\Q (.bl (!decide (x=.non))) H):=by
 intro kb s σ H x y v u Q I rx ry h;obtain⟨rfl,q⟩:=h;cases ry;refine isnot_none_gen (cn I q ?_);cases x<;>first
  | (cases rx;rfl)
  | (obtain⟨t,rfl⟩:=rx;rfl)
theorem aQ(b:Expr){op:CmpOp}(h:op≠.In:=by decide)(h2:op≠.NotIn:=by decide):behindInMarks op b=false:=by
 have e1:(op==CmpOp.In)=false:=by cases op<;>first | rfl | exact absurd rfl h
 have e2:(op==CmpOp.NotIn)=false:=by cases op<;>first | rfl | exact absurd rfl h2
 cases b<;>simp[behindInMarks,e1,e2]
theorem cO{op:CmpOp}{r:R2}(ho:jP X (compareOp op) r)(ha:PE X a ta)(hb:PE X b tb)(hm:behindInMarks op b=false):PE X (.Compare a [op] [b] pos) (Mq r ta tb):=by intro kb s σ H Q I h;exact wpAny_Compare1 (Jf ha hb I h fun v u s2 x y H2 I2 rx ry q=>ho kb s2 σ H2 x y v u Q I2 rx ry q) hm
inductive Mv(Q:Bool->Hp->Prop)(x:V)(H:Hp):Prop
 | mk (k) (_:x=.bl k) (_:Q k H)
def Hg(t:TE):TT:=fun σ H Q=>t σ H (Mv Q)
theorem aJ{op:CmpOp}{r:R2}(ho:jP X (compareOp op) r)(ha:PE X a ta)(hb:PE X b tb)(hm:behindInMarks op b=false):PT X (.Compare a [op] [b] pos) (Hg (Mq r ta tb)):=by
 intro kb s σ H Q I h
 refine wpAny_isTrue_Compare1 (cJ (ha kb s σ H _ I h) fun v s1 ⟨x,H1,I1,r1,q1⟩=>cJ (hb kb s1 σ H1 _ I1 q1) fun u s2 ⟨y,H2,I2,r2,q2⟩=>
  cJ (ho kb s2 σ H2 x y v u _ I2 r1 r2 q2) fun c s3 ⟨z,H3,I3,r3,k,e,q3⟩=>?_) hm
 subst e;cases r3;exact wpAny_truthy_bool ⟨H3,I3,q3⟩
def Bt(r r':R2)(ta tb tc:TE):TE:=fun σ H Q=>ta σ H fun x H1=>tb σ H1 fun y H2=>r x y H2 fun z H3=>∃k,z=.bl k/\
 (if k=true then tc σ H3 fun w' H4=>r' y w' H4 Q else Q (.bl false) H3)
theorem oE{op op':CmpOp}{r r':R2}(ho:jP X (compareOp op) r)(ho':jP X (compareOp op') r')(ha:PE X a ta)(hb:PE X b tb)(hc:PE X c tc)
  (hm:lastMarks [op,op'] [b,c]=false:=by with_unfolding_all rfl):PE X (.Compare a [op,op'] [b,c] pos) (Bt r r' ta tb tc):=by
 intro kb s σ H Q I h
 refine Compare_chain (cJ (ha kb s σ H _ I h) fun v s1 ⟨x,H1,I1,r1,q1⟩=>chain_link (cJ (hb kb s1 σ H1 _ I1 q1) fun u s2 ⟨y,H2,I2,r2,q2⟩=>
  cJ (ho kb s2 σ H2 x y v u _ I2 r1 r2 q2) fun d s3 ⟨z,H3,I3,r3,k,e,q3⟩=>?_)) hm
 subst e;cases r3;refine wpAny_truthy_bool ?_;cases k with
 | false=>exact ite_ff ⟨.bl false,H3,I3,rfl,q3⟩
 | true=>exact ite_tt (chain_last (cJ (hc kb s3 σ H3 _ I3 q3) fun w' s4 ⟨z',H4,I4,r4,q4⟩=>ho' kb s4 σ H4 y z' u w' Q I4 r2 r4 q4))
theorem oF{op op':CmpOp}{r r':R2}(ho:jP X (compareOp op) r)(ho':jP X (compareOp op') r')(ha:PE X a ta)(hb:PE X b tb)(hc:PE X c tc)
  (hm:lastMarks [op,op'] [b,c]=false:=by with_unfolding_all rfl):PT X (.Compare a [op,op'] [b,c] pos) (Hg (Bt r r' ta tb tc)):=by
 intro kb s σ H Q I h
 refine isTrue_chain (cJ (ha kb s σ H _ I h) fun v s1 ⟨x,H1,I1,r1,q1⟩=>test_link (cJ (hb kb s1 σ H1 _ I1 q1) fun u s2 ⟨y,H2,I2,r2,q2⟩=>
  cJ (ho kb s2 σ H2 x y v u _ I2 r1 r2 q2) fun d s3 ⟨z,H3,I3,r3,k,e,q3⟩=>?_)) hm
 subst e;cases r3;refine wpAny_truthy_bool ?_;cases k with
 | false=>
  obtain⟨k',e',q'⟩:=q3;cases e';exact ite_ff ⟨H3,I3,q'⟩
 | true=>
  refine ite_tt (test_last (cJ (hc kb s3 σ H3 _ I3 q3) fun w' s4 ⟨z',H4,I4,r4,q4⟩=>cJ (ho' kb s4 σ H4 y z' u w' _ I4 r2 r4 q4) fun d' s5 ⟨z2,H5,I5,r5,k2,e2,q5⟩=>?_));subst e2;cases r5;exact wpAny_truthy_bool ⟨H5,I5,q5⟩
theorem oG:(ee:Nat)<2^63:=by rw[sizeLine_eq];decide
theorem vals1{x:V}{us:List Value}(r:Vals [x] us):∃u,us=[u]/\RelV x u:=by
 cases r with
 | cons r1 r2=>cases r2;exact⟨_,rfl,r1⟩
theorem vals2{x y:V}{us:List Value}(r:Vals [x,y] us):∃u w',us=[u,w']/\RelV x u/\RelV y w':=by
 cases r with
 | cons r1 r2=>
  cases r2 with
  | cons r3 r4=>cases r4;exact⟨_,_,rfl,r1,r3⟩
inductive uQ(xs:List V)(H:Hp)(Q:VK):Prop
 | mk (i j) (_:xs=[.int i,.int j]) (_:Q (.int (if j>i then j else i)) H)
theorem qR(hc:X.calm=true):iq X (.builtin "max") uQ:=by
 intro kb s σ H xs us Q I r h;obtain⟨i,j,rfl,q⟩:=h;obtain⟨u,w',rfl,⟨t,rfl⟩,⟨t',rfl⟩⟩:=vals2 r;refine max_two_ints (I.ok.hd hc) fun h' tk k=>⟨_,H,I.kept k,?_,q⟩;by_cases hj:j>i
 ·rw[if_pos hj,if_pos hj];exact⟨_,rfl⟩
 ·rw[if_neg hj,if_neg hj];exact⟨_,rfl⟩
inductive uR(xs:List V)(H:Hp)(Q:VK):Prop
 | mk (i j) (_:xs=[.int i,.int j]) (_:Q (.int (if j<i then j else i)) H)
theorem qS(hc:X.calm=true):iq X (.builtin "min") uR:=by
 intro kb s σ H xs us Q I r h;obtain⟨i,j,rfl,q⟩:=h;obtain⟨u,w',rfl,⟨t,rfl⟩,⟨t',rfl⟩⟩:=vals2 r;refine min_two_ints (I.ok.hd hc) fun h' tk k=>⟨_,H,I.kept k,?_,q⟩;by_cases hj:j<i
 ·rw[if_pos hj,if_pos hj];exact⟨_,rfl⟩
 ·rw[if_neg hj,if_neg hj];exact⟨_,rfl⟩
theorem qT:iq X (.type "int") (fun xs H Q=>(∃i,xs=[.int i]/\Q (.int i) H)\/∃k,xs=[.bl k]/\Q (.int (if k then 1 else 0)) H):=by
 intro kb s σ H xs us Q I r h;rcases h with ⟨i,rfl,q⟩ | ⟨k,rfl,q⟩
 ·obtain⟨u,rfl,t,rfl⟩:=vals1 r;exact call_int_int ⟨.int i,H,I,⟨_,rfl⟩,q⟩
 ·obtain⟨u,rfl,r1⟩:=vals1 r;cases r1;exact call_int_bool ⟨.int (if k then 1 else 0),H,I.tok _,⟨_,rfl⟩,q⟩
inductive oH(xs:List V)(H:Hp)(Q:VK):Prop
 | mk (i) (_:xs=[.int i]) (_:i.natAbs.log2<1920) (_:Q (.str (toString i)) H)
theorem su:iq X (.type "str") oH:=by intro kb s σ H xs us Q I r h;obtain⟨i,rfl,hz,q⟩:=h;obtain⟨u,rfl,t,rfl⟩:=vals1 r;exact PySem.P.str_of_int hz ⟨.str _,H,I.tok _,⟨_,rfl⟩,q⟩
structure Ji(h:Heap)(x dx C:Addr)(mA:Str->Option Value):Prop where
 obj:h.get? x=some (PySem.W.instObj C dx)
 ns:h.Ns1 dx mA
 ne:dx≠x
theorem Aa{h:Heap}{dx:Addr}{mA:Str->Option Value}(n:h.Ns1 dx mA):∃od,h.get? dx=some od/\∀name,PySem.W.lookIn name od=some (mA name):=by
 obtain⟨o,es,ep,ho,hd,hk,_,hm⟩:=n;refine⟨o,ho,fun name=>?_⟩;have e:=hm name;unfold nsFind findBy at e;rw[<-Array.find?_toList]at e;unfold PySem.W.lookIn;rw[hd];dsimp only;split
 ·rename_i y q;rw[q]at e;exact congrArg some e
 ·rename_i q;rw[q]at e;have a:es.toList.any (·.refKey)=false:=by rw[List.any_eq_false];intro y hy;obtain⟨z,t,hkey⟩:=hk y (Array.mem_toList_iff.mp hy);simp[DictEntry.refKey,hkey]
  have a':¬es.toList.any (·.refKey)=true:=by rw[a];exact kt
  rw[if_neg a'];exact congrArg some e
theorem Ji.look{h:Heap}{x dx C:Addr}{mA:Str->Option Value}(I:Ji h x dx C mA):∃od,PySem.W.InstAt h x (PySem.W.instObj C dx) C (some od)/\∀name,PySem.W.lookIn name od=some (mA name):=
 let ⟨od,ho,hl⟩:=Aa I.ns
 ⟨od,⟨I.obj,rfl,rfl,ho⟩,hl⟩
variable {prog:Program}{w:World}{A:Around}{E:Value->Shared->Prop}{s:Shared}{K:gv}{x dx C f:Addr}{mA:Str->Option Value}{name:Str}{v:Value}
end
theorem jH.some_of{v:V}{o:Option Value}(r:jH (some v) o):∃u,o=some u/\RelV v u:=by
 cases o with
 | none=>exact(show False from r).elim
 | some u=>exact⟨u,rfl,r⟩
section
variable {P:Program}{w:World}{H H':Hp}{h h':Heap}{a C dx:Addr}{fs fs':List (Str×V)}
theorem Ec(hok:i7 P w H h)(e:H a=some (.ins C dx fs)):∃mA,Ji h a dx C mA/\(∀f,jH (fs.lookup f) (mA f))/\PySem.Within mA (fs.map (·.1))/\fs.length<=1000/\H dx=some (.own a):=by obtain⟨d,z,ne,ob,mA,n,r,q⟩:=(show cM P w H h a (.ins C dx fs)from hok a _ e);exact⟨mA,⟨ob,n,ne⟩,r,q,z,d⟩
end
structure Cls(K:gv)(C:Addr):Prop where
 pg:PySem.W.plainGet K C Str.empty=true
 hd:PySem.W.hasDictIn K C=true
 po:PySem.W.plainOver K C=true
 sa:PySem.W.findIn K (.ref C) "__setattr__"=some (some (.builtin "object.__setattr__"))
theorem Cls.get{K:gv}{C:Addr}(c:Cls K C)(f:Str):PySem.W.plainGet K C f=true:=c.pg
section
variable {X:Cx}{kb:List (Addr×Obj)}{σ:St}{H:Hp}{s:Shared}{a C dx:Addr}{fs:List (Str×V)}{f:Str}{v:V}{A:Around}{E:Value->Shared->Prop}
end
section
variable {X:Cx}{o e value:Expr}{f:Str}{pos pos' tpos:Pos}{ta tv:TE}
variable {kb:List (Addr×Obj)}{σ:St}{H:Hp}{s:Shared}{A:Around}{E:Value->Shared->Prop}{Q:Value->Shared->Prop}{c:Value}{b:Bool}
inductive lQ(K:gv)(H:Hp):V->Value->Prop where
 | non:lQ K H .non (.type "NoneType")
 | bl (x:Bool):lQ K H (.bl x) (.type "bool")
 | int (i:Int):lQ K H (.int i) (.type "int")
 | str (x:Str):lQ K H (.str x) (.type "str")
 | flt (x:UInt64):lQ K H (.flt x) (.type "float")
 | lst {a:Addr} {xs:List V} (e:H a=some (.lst xs)):lQ K H (.ref a) (.type "list")
 | jI {a:Addr} {o:Obj} {xs:List V} (e:H a=some (.jI o (.lst xs))):lQ K H (.ref a) (.type "list")
 | tup {a:Addr} {xs:List V} (e:H a=some (.tup xs)):lQ K H (.ref a) (.type "tuple")
 | dK {a:Addr} {kvs:List (Key×V)} (e:H a=some (.dK kvs)):lQ K H (.ref a) (.type "dict")
 | dT {a:Addr} {kvs:List (List Key×V)} (e:H a=some (.dT kvs)):lQ K H (.ref a) (.type "dict")
 | ins {a C dx:Addr} {fs:List (Str×V)} (e:H a=some (.ins C dx fs)) (cl:Cls K C) (ha:PySem.W.findIn K (.ref C) "__class__"=some (some (.builtin "object.__class__")))
   (hn:PySem.W.specialIn K (.builtin "object.__class__") "__get__"=some (some (.builtin "getset_descriptor.__get__"))) (htk:PySem.W.takesIn K (.builtin "object.__class__")=some true)
   (hm:PySem.W.mroIn K C (.type "object")=some true):lQ K H (.ref a) (.ref C)
theorem Ab{x:V}{u t:Value}(I:Inv X kb σ H s)(rx:RelV x u)(ty:lQ X.K H x t)(e:PySem.W.kitOne X.K t c=some b)(h:∀tk,Q (.bool b) {s with toks:=tk}):
  wpAny (model X.prog X.w) A (call (.builtin "isinstance") [u,c]) Q E s:=by
 cases ty with
 | non=>cases (show u=Value.none from rx);exact PySem.W.kia_one PySem.W.kitx_none I.lL True.intro e (fun z=>nomatch z) h
 | bl y=>cases (show u=Value.bool y from rx);exact PySem.W.kia_one PySem.W.kitx_bool I.lL True.intro e (fun z=>nomatch z) h
 | int i=>obtain⟨t,q⟩:=(show ∃t,u=Value.int i t from rx);cases q;exact PySem.W.kia_one PySem.W.kitx_int I.lL True.intro e (fun z=>nomatch z) h
 | str y=>obtain⟨t,q⟩:=(show ∃t,u=Value.str y t from rx);cases q;exact PySem.W.kia_one PySem.W.kitx_str I.lL True.intro e (fun z=>nomatch z) h
 | flt y=>obtain⟨t,q⟩:=(show ∃t,u=Value.float y t from rx);cases q;exact PySem.W.kia_one PySem.W.kitx_float I.lL True.intro e (fun z=>nomatch z) h
 | @lst a xs ea=>
  cases (show u=Value.ref a from rx);obtain⟨_,_,n,_,h1⟩:=(show cM X.prog X.w H s.heap a (.lst xs)from I.hok a _ ea);exact PySem.W.kia_one PySem.W.kitx_list I.lL ⟨_,h1,rfl⟩ e (fun z=>nomatch z) h
 | @jI a ob xs ea=>
  cases (show u=Value.ref a from rx);obtain⟨_,_,_,n,_,h1⟩:=(show cM X.prog X.w H s.heap a (.jI ob (.lst xs))from I.hok a _ ea);exact PySem.W.kia_one PySem.W.kitx_list I.lL ⟨_,h1,rfl⟩ e (fun z=>nomatch z) h
 | @tup a xs ea=>
  cases (show u=Value.ref a from rx);obtain⟨_,_,_,p⟩:=(show cM X.prog X.w H s.heap a (.tup xs)from I.hok a _ ea);obtain⟨o,h1,h2,_⟩:=p;exact PySem.W.kia_one PySem.W.kitx_tuple I.lL ⟨o,h1,h2⟩ e (fun z=>nomatch z) h
 | @dK a kvs ea=>
  cases (show u=Value.ref a from rx);obtain⟨_,_,vs,_,p⟩:=(show cM X.prog X.w H s.heap a (.dK kvs)from I.hok a _ ea);obtain⟨o,es,ep,h1,h2,_⟩:=p;exact PySem.W.kia_one PySem.W.kitx_dict I.lL ⟨o,h1,h2.1⟩ e (fun z=>nomatch z) h
 | @dT a kvs ea=>
  cases (show u=Value.ref a from rx);obtain⟨_,_,xs,_,o,es,ep,h1,h2,_⟩:=(show cM X.prog X.w H s.heap a (.dT kvs)from I.hok a _ ea);exact PySem.W.kia_one PySem.W.kitx_dict I.lL ⟨o,h1,h2.1⟩ e (fun z=>nomatch z) h
 | @ins a C dx fs ea cl ha hn htk hm=>
  cases (show u=Value.ref a from rx);obtain⟨mA,O,_⟩:=Ec I.hok ea;obtain⟨od,J,_⟩:=O.look;exact PySem.W.kia_one (PySem.W.kitx_own (cl.get _) cl.hd ha hn htk hm) I.lL J e (fun z=>nomatch z) h
structure dP(k:Nat)(A:Around):Prop where
 hd:A.handled=none
 dp:A.depth+3*k+5<recursionLimit
 un:A.units+16*k+200<cLine
 gd:A.guards=some []:=by rfl
theorem dP.mono{j k:Nat}{A:Around}(r:dP k A)(h:j<=k):dP j A:=⟨r.hd,by have:=r.dp;omega,by have:=r.un;omega,r.gd⟩
theorem dP.deeper{k:Nat}{A:Around}(r:dP (k+1) A)(env:Env):dP k (A.deeper env):=
 ⟨r.hd,by have:=r.dp;show A.depth+1+3*k+5<_;omega,by have:=r.un;show A.units+3+16*k+200<_;omega,r.gd⟩
theorem wg{A:Around}{C:Addr}{us:List Value}{kw:List (Str×Value)}:(A.under (.builtin "type.__call__" ⟨.ref C::us,kw⟩)).depth=A.depth+1:=by first | rfl | simp[Around.under,Code.weight,Code.isCreation,Code.isGuard,Code.isCaller,Code.frames,Code.isFrame,guardIds]
theorem uS{A:Around}{C:Addr}{us:List Value}{kw:List (Str×Value)}:(A.under (.builtin "type.__call__" ⟨.ref C::us,kw⟩)).guards=A.guards:=by first | (show pushGuards [] A.guards=A.guards;cases A.guards<;>rfl) | simp[Around.under,Code.guards,Code.isGuard,guardIds,pushGuards]
theorem wj{A:Around}{C:Addr}{us:List Value}{kw:List (Str×Value)}:(A.under (.builtin "type.__call__" ⟨.ref C::us,kw⟩)).units=A.units+1:=by first | rfl | simp[Around.under,Code.cUnits,Code.frames,Code.isFrame]
theorem dP.make{k:Nat}{A:Around}(r:dP (k+1) A)(C:Addr)(us:List Value)(kw:List (Str×Value)):dP k (A.under (.builtin "type.__call__" ⟨.ref C::us,kw⟩)):=
 ⟨r.hd,by have:=r.dp;rw[wg];omega,by have:=r.un;rw[wj];omega,uS.trans r.gd⟩
theorem dP.depth{k:Nat}{A:Around}(r:dP k A):A.depth<recursionLimit:=by have:=r.dp;omega
theorem dP.units{k:Nat}{A:Around}(r:dP k A):A.units+64<cLine:=by have:=r.un;omega
def Mw:TA:=fun _ H Q=>Q [] H
def Hh(ta:TE)(tr:TA):TA:=fun σ H Q=>ta σ H fun x H1=>tr σ H1 fun xs H2=>Q (x::xs) H2
variable {es:List Expr}{te:TE}{t:TA}
theorem af:PA X [] Mw:=fun _ _ _ _ H Q I h=>Calls.spliced_nil ⟨[],H,I,.nil,h⟩
theorem ae(ha:PE X e te)(hr:PA X es t)(hs:starEach (e::es) X.env=(false,eval e X.env)::starEach es X.env:=by rfl):PA X (e::es) (Hh te t):=by intro pos kb s σ H Q I h;rw[hs];show wpAny _ _ (spliced ((false,eval e X.env)::backTo pos (starEach es X.env))) _ _ s;refine Calls.spliced_cons (cJ (ha kb s σ H _ I h) fun u s1 ⟨x,H1,I1,r1,q1⟩=>?_);exact cJ (hr pos kb s1 σ H1 _ I1 q1) fun us s2 ⟨xs,H2,I2,r2,q2⟩=>⟨x::xs,H2,I2,.cons r1 r2,q2⟩
def Mx(t:TA):TE:=fun σ H Q=>t σ H fun xs H1=>xs.length<=ee/\∀p,H1 p=none->Q (.ref p) (upd H1 p (.tup xs))
def Mz(t:TA):TE:=fun σ H Q=>t σ H fun xs H1=>xs.length<=ee/\∀p,H1 p=none->Q (.ref p) (upd H1 p (.lst xs))
theorem cG{x1}(h:PA X es t):PE X (.Tuple es x1 pos) (Mx t):=by intro kb s σ H Q I hq;refine wpAny_Tuple_spliced (cJ (h pos kb s σ H _ I hq) fun us s1 ⟨xs,H1,I1,r,z,q⟩=>⟨by rw[<-r.length];exact z,?_⟩);have hf:H1 s1.heap.objs.size=none:=I1.hok.fresh (jp _);refine⟨.ref s1.heap.objs.size,upd H1 s1.heap.objs.size (.tup xs),I1.laid (t':=s1.toks) (fun b u e=>fg _ e) (jp _) ?_,rfl,q _ hf⟩;exact⟨z,us,r,⟨_,fk _ rfl,rfl,_,rfl⟩⟩
theorem cD(h:PA X es t):PE X (.List es pos) (Mz t):=by intro kb s σ H Q I hq;refine wpAny_List_spliced (cJ (h pos kb s σ H _ I hq) fun us s1 ⟨xs,H1,I1,r,z,q⟩=>⟨by rw[<-r.length];exact z,?_⟩);have hf:H1 s1.heap.objs.size=none:=I1.hok.fresh (jp _);refine⟨.ref s1.heap.objs.size,upd H1 s1.heap.objs.size (.lst xs),I1.laid (t':=s1.toks) (fun b u e=>fg _ e) (jp _) ?_,rfl,q _ hf⟩;exact⟨z,us,0,r,fk _ rfl⟩
abbrev Sp:=List V->Hp->VK->XK->Prop
abbrev Ac:=List Env->Hp->Shared->XK->Value->Shared->Prop
structure wk(P:Program)(w:World)(K:gv)(mg:Str->Option Value)(base:Heap)(A:Around)(outer:List Env)(s:Shared)(H:Hp):Prop where
 frames:A.frames=some outer
 mod:Mod K mg base
 bs:∀b o,base.get? b=some o->s.heap.get? b=some o/\H b=none
 D9:base.objs.size<=s.heap.objs.size
 kf:s.heap.FunFrames base outer
 IV:∀b∈frs outer,H b=none
 hok:i7 P w H s.heap
 bare:AllBare s.gens
def CE(outer:List Env)(P:Program)(w:World)(H:Hp)(s:Shared)(Q:VK)(u:Value)(s':Shared):Prop :=
 ∃v H',s'.os=s.os/\AllBare s'.gens/\Un (frs outer) [] H H' s.heap s'.heap/\i7 P w H' s'.heap/\RelV v u/\Q v H'
def CR(CX:Ac)(outer:List Env)(P:Program)(w:World)(H:Hp)(s:Shared)(Q:VK)(E:XK)(r:Result)(s':Shared):Prop :=
 match r with
 | .ok (.ret u)=>CE outer P w H s Q u s'
 | .ok _=>False
 | .error e=>CX outer H s E e s'
structure aD(P:Program)(w:World)(K:gv)(mg:Str->Option Value)(base:Heap)(CX:Ac)(k:Nat)(f:Addr)(fd:ed)(ps:List Str)(sp:Sp):Prop where
 len:∀vs H Q E,sp vs H Q E->vs.length=ps.length
 run:∀(A:Around) (outer:List Env) (s:Shared) (H:Hp) (args:Args) (us:List Value) (vs:List V) (Q:VK) (E:XK),dP k A->wk P w K mg base A outer s H->BindsTo s fd args (ps.zip us)->Vals vs us->sp vs H Q E->
  codeAny (model P w) A (.call (.ref f) args) (CR CX outer P w H s Q E) s
theorem wk.make{P:Program}{w:World}{K:gv}{mg:Str->Option Value}{base:Heap}{A:Around}{outer:List Env}{s:Shared}{H:Hp}(e:wk P w K mg base A outer s H)(C:Addr)(us:List Value)(kw:List (Str×Value)):
  wk P w K mg base (A.under (.builtin "type.__call__" ⟨.ref C::us,kw⟩)) outer s H:=⟨by first | exact e.frames | (simpa[Around.under,Code.envs,Code.isFrame,pushEnvs] using e.frames),e.mod,e.bs,e.D9,e.kf,e.IV,e.hok,e.bare⟩
variable {s':Shared}
theorem Inv.env0(I:Inv X kb σ H s):wk X.prog X.w X.K X.mg X.base X.A X.stack s H :=
 ⟨I.ok.frames,I.ok.mod,I.bs,kq I.ok.D9 I.sz,I.stack,I.kh,I.hok,I.bare⟩
theorem Inv.after{Q:VK}{u:Value}(I:Inv X kb σ H s)(h:CE X.stack X.prog X.w H s Q u s'):EP X kb σ Q u s':=by obtain⟨v,H',os,bare,un,hok,r,q⟩:=h;obtain⟨hh,g,d,t,os'⟩:=s';obtain rfl:os'=s.os:=os;exact⟨v,H',I.call (h':=hh) (g':=g) (d':=d) (t':=t) (ch:=[]) un hok bare (fun b z=>absurd z (by simp)),r,q⟩
end
def MA(sp:Sp)(Bu:List V)(E:XK)(t:TA):TE:=fun σ H Q=>t σ H fun vs H1=>sp (vs++Bu) H1 Q E
def Binds(K:gv)(fd:ed)(ps:List Str)(ds:List Value):Prop :=
 ∀(s:Shared) (us:List Value),K.In s.heap->(us++ds).length=ps.length->BindsTo s fd ⟨us,[]⟩ (ps.zip (us++ds))
theorem Binds.all{K:gv}{fd:ed}{ps:List Str}(h:∀us:List Value,us.length=ps.length->bindArgs fd ⟨us,[]⟩=pure (ps.zip us)):Binds K fd ps []:=fun s us _ hl=>by rw[List.append_nil]at hl ⊢;exact .of_eq (h us hl)
def Passes(CX:Ac)(X:Cx)(E:XK):Prop:=∀(kb:List (Addr×Obj)) (σ:St) (H:Hp) (s:Shared) (e:Value) (s':Shared),Inv X kb σ H s->CX X.stack H s E e s'->X.xe e s'
section
variable {X:Cx}{CX:Ac}{k:Nat}{f C:Addr}{fd:ed}{ps:List Str}{sp:Sp}{Bu:List V}{ds:List Value}{E:XK}{x m:Str}{p pos apos:Pos}{e o:Expr}{es:List Expr}{ta:TE}{t:TA}
theorem Jj{kb:List (Addr×Obj)}{σ:St}{H:Hp}{s:Shared}{Q:VK}{us:List Value}{vs:List V}(F:aD X.prog X.w X.K X.mg X.base CX k f fd ps sp)(hr:dP k X.A)(hb:Binds X.K fd ps ds)(hd:Vals Bu ds)(hx:Passes CX X E)
  (I:Inv X kb σ H s) (r:Vals vs us) (h:sp (vs++Bu) H Q E):wpAny (model X.prog X.w) X.A (call (.ref f) us) (EP X kb σ Q) X.xe s:=by
 have r2:Vals (vs++Bu) (us++ds):=r.append hd;have hl:(us++ds).length=ps.length:=by rw[<-r2.length];exact F.len _ _ _ _ h
 refine wpAny_call (codeAny_mono (F.run X.A X.stack s H ⟨us,[]⟩ (us++ds) (vs++Bu) Q E hr I.env0 (hb s us I.lL hl) r2 h) fun r s' hq=>?_);cases r with
 | error e=>exact hx kb σ H s e s' I hq
 | ok fl=>
  cases fl with
  | ret u=>exact I.after hq
  | next=>exact False.elim hq
  | brk=>exact False.elim hq
  | cont=>exact False.elim hq
theorem ao(F:aD X.prog X.w X.K X.mg X.base CX k f fd ps sp)(hr:dP k X.A)(hg:Gl X x)(hm:X.mg x=some (.ref f))(hk:PySem.W.keepIn X.K (.ref f)=true)(hb:Binds X.K fd ps ds)(hd:Vals Bu ds)(hx:Passes CX X E)
  (ha:PA X (e::es) t) (hdb:(x==("__debug__": Str))=false:=by decide) (he:starEach (e::es) X.env=(false,eval e X.env)::starEach es X.env:=by rfl) (hpl:(backTo pos (starEach es X.env)).any (·.1)=false:=by rfl):
  PE X (.Call (.Name x p) (e::es) [] pos) (MA sp Bu E t):=by
 intro kb s σ H Q I h;refine wpAny_Call_Name_kw (nU I hg hm ?_ hdb);refine PySem.W.callWith_K (h₀:=X.base) I.ok.mod.QJ hk (cJ (ha pos kb s σ H _ I h) fun us s1 ⟨vs,H1,I1,r,q⟩=>⟨I1.lL,?_⟩) he hpl;exact Jj F hr hb hd hx I1 r q
variable {ks:List Str}{kpos:Pos}{kws:List Keyword}{te:TE}{tk:TA}{nm:Option Str}{g:List Value->List Value->List Value}{gV:List V->List V->List V}
end
structure aE(N P:List Str)(sc:Scope):Prop where
 kind:sc.kind=.function
 co:sc.isCoroutine=false
 gen:sc.isGenerator=false
 nd:N.Nodup
 pre:N.take P.length=P
 par:∀x∈P,sc.names.lookup x=some .local\/sc.names.lookup x=some .cell
 Jk:∀y∈sc.names,y.2≠.free
theorem qU{kindOf:Str->Option NameKind}{x:Str}:∀{binds:List (Str×Value)} {m:Str->Option Value},(∀v,(x,v)∉binds)->bindL kindOf binds m x=m x
 | [],_,_=>rfl
 | (n,v)::r,m,h=>by
  unfold bindL;rw[qU fun w hw=>h w (List.mem_cons_of_mem _ hw)];split
  ·have:x≠n:=by rintro rfl;exact h v List.mem_cons_self
   simp[this]
  ·rfl
theorem qV{kindOf:Str->Option NameKind}{x:Str}:∀{binds:List (Str×Value)} {m:Str->Option Value},(∀v,(x,v)∉binds)->bindC kindOf binds m x=m x
 | [],_,_=>rfl
 | (n,v)::r,m,h=>by
  unfold bindC;rw[qV fun w hw=>h w (List.mem_cons_of_mem _ hw)];split
  ·rfl
  ·have:x≠n:=by rintro rfl;exact h v List.mem_cons_self
   simp[this]
theorem qW{kindOf:Str->Option NameKind}{x:Str}{v:Value}:∀{P:List Str} {vs:List Value} {i:Nat} {m:Str->Option Value},P.Nodup->P[i]? =some x->vs[i]? =some v->kindOf x=some .local->
  bindL kindOf (P.zip vs) m x=some v
 | [],_,_,_,_,h,_,_=>by simp at h
 | _::_,[],_,_,_,_,h,_=>by simp at h
 | p::P,w::vs,0,m,nd,h1,h2,hk=>by
  simp at h1 h2;subst h1;subst h2;show bindL kindOf ((p,w)::P.zip vs) m p=_;unfold bindL;rw[qU fun v hv=>(List.nodup_cons.mp nd).1 (List.of_mem_zip hv).1,if_pos hk];simp
 | p::P,w::vs,i+1,m,nd,h1,h2,hk=>by show bindL kindOf ((p,w)::P.zip vs) m x=_;unfold bindL;exact qW (i:=i) (List.nodup_cons.mp nd).2 (by simpa using h1) (by simpa using h2) hk
theorem qX{kindOf:Str->Option NameKind}{x:Str}{v:Value}:∀{P:List Str} {vs:List Value} {i:Nat} {m:Str->Option Value},P.Nodup->P[i]? =some x->vs[i]? =some v->kindOf x≠some .local->
  bindC kindOf (P.zip vs) m x=some v
 | [],_,_,_,_,h,_,_=>by simp at h
 | _::_,[],_,_,_,_,h,_=>by simp at h
 | p::P,w::vs,0,m,nd,h1,h2,hk=>by
  simp at h1 h2;subst h1;subst h2;show bindC kindOf ((p,w)::P.zip vs) m p=_;unfold bindC;rw[qV fun v hv=>(List.nodup_cons.mp nd).1 (List.of_mem_zip hv).1,if_neg hk];simp
 | p::P,w::vs,i+1,m,nd,h1,h2,hk=>by show bindC kindOf ((p,w)::P.zip vs) m x=_;unfold bindC;exact qX (i:=i) (List.nodup_cons.mp nd).2 (by simpa using h1) (by simpa using h2) hk
def start(N:List Str)(vs:List V):St:=vs.map some++List.replicate (N.length-vs.length) none
def gN(CX:Ac)(P:Program)(w:World)(K:gv)(mg:Str->Option Value)(base:Heap)(N:List Str)(qual:Str)(scope:Scope)(f:Addr)(cd:Value)(A:Around)(outer:List Env)(s:Shared)(H:Hp)(E:XK):Cx where
 prog:=P
 w:=w
 K:=K
 mg:=mg
 base:=base
 A:=A.deeper (envOfC qual scope s.heap.objs.size f cd)
 N:=N
 s₀:=s
 H₀:=H
 env:=envOfC qual scope s.heap.objs.size f cd
 outer:=outer
 stack:=envOfC qual scope s.heap.objs.size f cd::outer
 ex:=[]
 calm:=true
 fn:=fun _=>true
 pn:=[]
 xe:=fun e s'=>wpAny (model P w) (A.deeper (envOfC qual scope s.heap.objs.size f cd)) (leaving (envOfC qual scope s.heap.objs.size f cd) e) (fun _ s''=>CX outer H s E e s'') (fun e' s''=>CX outer H s E e' s'') s'
theorem uT{sc:Scope}{n:Nat}{x:Str}(h:sc.names.lookup x=some .cell):∃c,(cellsFrom n sc.names []).lookup x=some c:=by have q:=PySem.W.cellsFrom_some sc.names n [] (.inl h);exact Option.isSome_iff_exists.mp q
theorem Ad{CX:Ac}{P:Program}{w:World}{K:gv}{mg:Str->Option Value}{base:Heap}{N ps:List Str}{qual:Str}{scope:Scope}{f:Addr}{cd:Value}{A:Around}{outer:List Env}{s s1:Shared}{H:Hp}{E:XK}{us:List Value}{vs:List V}
  (S:aE N ps scope) (hd:A.handled=none) (e0:wk P w K mg base A outer s H) (hl:vs.length=ps.length) (r:Vals vs us)
  (x:InCallC s s.heap.objs.size (bindL (envOfC qual scope s.heap.objs.size f cd).kindOf (ps.zip us) fun _=>none) (cellsFrom (s.heap.objs.size+1) scope.names []) (bindC (envOfC qual scope s.heap.objs.size f cd).kindOf (ps.zip us) fun _=>none) s1):
  Inv (gN CX P w K mg base N qual scope f cd A outer s H E) [] (start N vs) H s1:=by
 have hpl:ps.length<=N.length:=by have:=congrArg List.length S.pre;rw[List.length_take]at this;omega
 obtain⟨h1,tk,rfl,hk⟩:=x.done;have MB:∀b:Addr,b∉(gN CX P w K mg base N qual scope f cd A outer s H E).ex:=fun b z=>absurd (show b∈([]:List Addr)from z) (by simp)
 refine⟨⟨e0.mod,S.kind,rfl,rfl,jp _,fun y z c h1 h2=>?_,fun y hy=>?_,fun y c _ h=>?_,fun _=>hd,Around.frames_deeper e0.frames,.inr ⟨rfl,rfl⟩,fun b z=>absurd z (MB b),e0.bs,e0.D9,fun b _ _=>MB b,fun b z=>absurd z (MB b),e0.kf,e0.IV⟩,
  rfl,e0.bare,Un.kept hk,⟨_,x.toInCall.ns,fun i y v h1 h2 h3=>?_⟩,fun y c h=>⟨_,x.cell y c h⟩,e0.hok.fresh (jp _),fun y c h=>?_,fun p hp=>absurd (show p∈([]:List (Addr×Obj))from hp) (by simp),e0.hok.kept hk,?_⟩
 ·exact name_of_addr x.apart (PySem.mem_of_lookup h1) (PySem.mem_of_lookup h2)
 ·have hy:scope.names.lookup y=some .cell\/scope.names.lookup y=some .free:=hy;rcases hy with hy | hy
  ·exact uT hy
  ·exact absurd rfl (S.Jk _ (PySem.mem_of_lookup hy))
 ·exact Nat.le_of_lt (x.above y c (PySem.mem_of_lookup h))
 ·have hi:i<vs.length:=by
   unfold start at h2;by_cases hi:i<vs.length
   ·exact hi
   ·rw[ar (by simpa using hi)]at h2;rw[List.getElem?_replicate]at h2;split at h2<;>cases h2
  have ha:vs[i]? =some v:=by
   unfold start at h2;rw[ap (by simpa using hi),ac]at h2;cases e:vs[i]? with
   | none=>rw[e]at h2;cases h2
   | some a=>rw[e]at h2;cases h2;rfl
  obtain⟨u,hu,rv⟩:=r.get ha;have hp:ps[i]? =some y:=by rw[<-S.pre,List.getElem?_take_of_lt (by omega)];exact h1
  have Xt:ps.Nodup:=by rw[<-S.pre];exact S.nd.sublist (List.take_sublist _ _)
  refine⟨u,rv,?_⟩;rcases S.par y (ag hp)with k | k
  ·exact .inl ⟨k,qW Xt hp hu k⟩
  ·obtain⟨c,e⟩:=uT (n:=s.heap.objs.size+1) k;refine .inr ⟨.inl k,c,e,?_⟩;have q:=x.cell y c e;rw[qX Xt hp hu (by show scope.names.lookup y≠_;rw[k];decide)]at q;exact q
 ·exact e0.hok.fresh (Nat.le_of_lt (x.above y c (PySem.mem_of_lookup h)))
 ·unfold start;show _=N.length;rw[am,List.length_map,List.length_replicate];omega
theorem Hi{CX:Ac}{P:Program}{w:World}{K:gv}{mg:Str->Option Value}{base:Heap}{k:Nat}{f:Addr}{name qual:Str}{params:Arguments}{body:List Stmt}{scope:Scope}{dV kV doc pm cdv ct oc:Value}{an od:Option Addr}
  {osl:Array (Option Value)} {N ps:List Str} {sp:Sp} (lk:K.lookup f=some ⟨oc,od,.func (PySem.W.fnOf name qual params body scope dV kV doc pm an cdv ct),osl⟩) (hcd:PySem.W.codeIn K cdv qual=true) (S:aE N ps scope)
  (len:∀vs H Q E,sp vs H Q E->vs.length=ps.length)
  (hbody:∀(A:Around) (outer:List Env) (s:Shared) (H:Hp) (vs:List V) (Q:VK) (E:XK),dP k (A.deeper (envOfC qual scope s.heap.objs.size f cdv))->sp vs H Q E->
   ∃t,qQ (gN CX P w K mg base N qual scope f cdv A outer s H E) body t/\t {nx:=fun _ H'=>Q .non H',rt:=Q} (start N vs) H):
  aD P w K mg base CX (k+1) f (PySem.W.fnOf name qual params body scope dV kV doc pm an cdv ct) ps sp:=by
 refine⟨len,fun A outer s H args us vs Q E hr e0 hb r hsp=>?_⟩;have hl:=len _ _ _ _ hsp;have KX:K.In s.heap:=e0.mod.QJ.keeps fun b o e=>(e0.bs b o e).1;have lim:s.heap.NoLimit:=e0.mod.nolimit.keeps fun b o e=>(e0.bs b o e).1;have hkind:∀y∈ps.zip us,scope.names.lookup y.1=some .local\/(scope.names.lookup y.1=some .cell/\((cellsFrom (s.heap.objs.size+1) scope.names []).lookup y.1).isSome=true):=fun⟨n,v⟩ hy=>by
  rcases S.par n (List.of_mem_zip hy).1 with q | q
  ·exact .inl q
  ·exact .inr ⟨q,PySem.W.cellsFrom_some _ _ _ (.inl q)⟩
 refine codeAny_call_function hr.depth (KX _ _ lk) rfl S.co S.gen rfl (PySem.W.codeRec_of KX hcd) (hb _ _ _ _ ?_);refine wpAny_newFunctionEnv_cells S.kind hkind fun env he s1 x=>?_;subst he;refine⟨lim.keeps x.toInCall.keep,codeAny_func ?_⟩;obtain⟨t,ht,hq⟩:=hbody A outer s H vs Q E (hr.deeper _) hsp;have I:Inv (gN CX P w K mg base N qual scope f cdv A outer s H E) [] (start N vs) H s1:=Ad S hr.hd e0 hl r x;refine eg (ht [] s1 (start N vs) H _ I hq) (fun fl s' hs=>?_) fun e s' hs=>hs;have fin:∀{σ':St} {H':Hp} {v:V} {u:Value},Inv (gN CX P w K mg base N qual scope f cdv A outer s H E) [] σ' H' s'->RelV v u->Q v H'->CE outer P w H s Q u s' :=
  fun {σ' H' v u} J rv q=>⟨v,H',J.os,J.bare,J.base,J.hok,rv,q⟩
 cases fl with
 | ret u=>
  obtain⟨v,σ',H',J,rv,q⟩:=hs;exact fin J rv q
 | next=>
  obtain⟨σ',H',J,q⟩:=hs;exact fin (v:=V.non) (u:=Value.none) J rfl q
 | brk=>
  obtain⟨_,_,_,q⟩:=hs;exact False.elim q
 | cont=>
  obtain⟨_,_,_,q⟩:=hs;exact False.elim q
section
variable {X:Cx}{x:Str}{p pos:Pos}{e:Expr}{es:List Expr}{t:TA}{id T:String}{r:List V->Hp->VK->Prop}
def Xu(r:List V->Hp->VK->Prop)(t:TA):TE:=fun σ H Q=>t σ H fun vs H1=>r vs H1 Q
theorem aN(hc:iq X (.builtin id) r)(hg:Gl X x)(hm:X.mg x=none)(hv:bootBuiltins x=some (.builtin id))(ha:PA X (e::es) t)(hn:x≠ "__name__":=by decide)(hdb:(x==("__debug__": Str))=false:=by decide)
  (he:starEach (e::es) X.env=(false,eval e X.env)::starEach es X.env:=by rfl) (hpl:(backTo pos (starEach es X.env)).any (·.1)=false:=by rfl):PE X (.Call (.Name x p) (e::es) [] pos) (Xu r t):=by
 intro kb s σ H Q I h;refine wpAny_Call_Name_kw (jZ I hg hm hv ?_ hn hdb);exact PyProof.Rows.callWith_builtin1 (cJ (ha pos kb s σ H _ I h) fun us s1 ⟨vs,H1,I1,r1,q1⟩=>hc kb s1 σ H1 vs us Q I1 r1 q1) he hpl
theorem cw(hc:iq X (.type T) r)(hg:Gl X x)(hm:X.mg x=none)(hv:bootBuiltins x=some (.type T))(ha:PA X (e::es) t)(hn:x≠ "__name__":=by decide)(hdb:(x==("__debug__": Str))=false:=by decide)
  (he:starEach (e::es) X.env=(false,eval e X.env)::starEach es X.env:=by rfl) (hpl:(backTo pos (starEach es X.env)).any (·.1)=false:=by rfl):PE X (.Call (.Name x p) (e::es) [] pos) (Xu r t):=by
 intro kb s σ H Q I h;refine wpAny_Call_Name_kw (jZ I hg hm hv ?_ hn hdb);exact PyProof.Rows.callWith_type1 (cJ (ha pos kb s σ H _ I h) fun us s1 ⟨vs,H1,I1,r1,q1⟩=>hc kb s1 σ H1 vs us Q I1 r1 q1) he hpl
end
end L2
namespace HT
open PySem PyProof.Rows
section
open PySem.SeqAt
open PySem.AutoSeq1 (wpAny_loadPart')
open PySem.MeetsSeq PySem.MeetsSeq2 PySem.MeetsSeq3
end
section
variable {prog:Program}{w:World}{A:Around}{E:Value->Shared->Prop}{s:Shared}
theorem Ed{t b:Addr}{vs ws:List Value}{Q:Value->Shared->Prop}(ht:IsTup s.heap t vs.toArray)(hb:IsTup s.heap b ws.toArray)(hv:vs≠ [])
  (h1:ws=[]->Q (.ref t) s) (h2:ws≠ []->Q (.ref s.heap.objs.size) {s with heap:=s.heap.push {cls:=.type "tuple",data:=.seq (vs++ws).toArray}})
  (hsz:vs.length+ws.length<=ee):wpAny (model prog w) A (binaryOp .Add (.ref t) (.ref b)) Q E s:=by
 obtain⟨⟨cls,dd,data,sl⟩,ho,hc,n,hd⟩:=id ht;obtain⟨⟨cls2,dd2,data2,sl2⟩,ho2,hc2,n2,hd2⟩:=id hb;simp only at hc hd hc2 hd2;subst hc hd hc2 hd2;have e:vs.toArray++ws.toArray=(vs++ws).toArray:=by simp
 by_cases hw:ws=[]
 ·exact concat_meets ⟨_,ho,rfl⟩ ⟨_,ho2,rfl⟩ noFill_tuple_add seq_tuple_add PySem.F.slot_tuple_add PySem.F.entry_tuple_add (PySem.F.args_tuple_add_2 _ _)
   (tuple_addW1 t b vs.toArray ws.toArray n n2 dd dd2 sl sl2 (by simpa using hv) (by simp[hw])) ⟨ho,ho2,h1 hw⟩
 ·refine concat_meets ⟨_,ho,rfl⟩ ⟨_,ho2,rfl⟩ noFill_tuple_add seq_tuple_add PySem.F.slot_tuple_add PySem.F.entry_tuple_add (PySem.F.args_tuple_add_2 _ _)
   (tuple_addW2 t b vs.toArray ws.toArray n n2 dd dd2 sl sl2 (by simpa using hv) (by simpa using hw) (by rw[al,al];exact hsz)) ⟨ho,ho2,?_⟩
  rw[e];exact h2 hw
def du(n d:Nat):Option Int->Nat
 | none=>d
 | some v=>if v<0 then (v+(n:Int)).toNat else min v.toNat n
theorem oI(n d:Nat):du n d none=d:=rfl
theorem eR(n d k:Nat):du n d (some (k:Int))=min k n:=by show(if (k:Int)<0 then ((k:Int)+(n:Int)).toNat else min (k:Int).toNat n)=min k n;rw[if_neg (by omega),le]
theorem Jl(n d:Nat)(hd:d<=n)(o:Option Int):du n d o<=n:=by
 cases o with
 | none=>exact hd
 | some v=>
  show(if v<0 then (v+(n:Int)).toNat else min v.toNat n)<=n;by_cases hv:v<0
  ·rw[if_pos hv];omega
  ·rw[if_neg hv];exact Nat.min_le_right _ _
theorem yp(v:Int)(n d:Nat):(if v<0 then max (v+(n:Int)) 0 else min v (n:Int))=((du n d (some v):Nat):Int):=by
 show(if v<0 then max (v+(n:Int)) 0 else min v (n:Int))=(((if v<0 then (v+(n:Int)).toNat else min v.toNat n):Nat):Int);by_cases hv:v<0
 ·simp only[if_pos hv];omega
 ·simp only[if_neg hv];omega
theorem wm(lo hi:Option Int)(n:Nat):Builtin.Slice.sliceAdjust lo hi 1 (n:Int)=(((du n 0 lo:Nat):Int),((du n n hi:Nat):Int)):=by
 have h1:¬((1:Int)<0):=by omega
 unfold Builtin.Slice.sliceAdjust;simp only[h1,if_false];refine Prod.ext ?_ ?_
 ·cases lo with
  | none=>rfl
  | some v=>exact yp v n 0
 ·cases hi with
  | none=>rfl
  | some v=>exact yp v n n
theorem wo(i j:Nat):Builtin.Slice.slicePlaces (i:Int) (j:Int) 1=j-i:=by
 unfold Builtin.Slice.slicePlaces;have h1:(1:Int)>0:=by omega
 simp only[h1,if_true,Int.ediv_one];split<;>omega
theorem oJ{v:Value}{o:Option Int}{Q:Option Int->Shared->Prop}(p:IsPart v o)(h:Q o s):wpAny (model prog w) A (Builtin.Slice.slicePartIndex v) Q E s:=by
 cases p with
 | none=>exact slicePart_none h
 | int i t=>exact slicePart_int h
theorem lR{sl:Addr}{vl vu:Value}{lo hi:Option Int}{n:Nat}{Q:Int×Int×Nat->Shared->Prop}(hs:s.heap.IsSliceOf sl vl vu .none)(pl:IsPart vl lo)(pu:IsPart vu hi)
  (h:Q (((du n 0 lo:Nat):Int),1,du n n hi-du n 0 lo) s):wpAny (model prog w) A (Builtin.Slice.sliceApplied (.ref sl) (pure (n:Int))) Q E s:=by
 obtain⟨os,hos,hcs,hds⟩:=id hs;unfold Builtin.Slice.sliceApplied Builtin.Slice.sliceFields;refine c8 (c8 (wpAny_field hos hds (x:=vl) rfl (c8 (wpAny_field hos hds (x:=vu) rfl (c8 (wpAny_field hos hds (x:=.none) rfl (db ?_)))))));refine c8 (slicePart_none ?_);show wpAny _ _ (if ((1:Int)==0)=true then _ else _) _ _ s;rw[if_neg (by decide)];refine c8 (oJ pl (c8 (oJ pu (c8 (db ?_)))));show wpAny _ _ (match Builtin.Slice.sliceAdjust lo hi 1 (n:Int)with | (lo,hi)=>pure (lo,(1:Int),Builtin.Slice.slicePlaces lo hi 1)) _ _ s;rw[wm lo hi n];show wpAny _ _ (pure (((du n 0 lo:Nat):Int),(1:Int),Builtin.Slice.slicePlaces ((du n 0 lo:Nat):Int) ((du n n hi:Nat):Int) 1)) _ _ s;rw[wo];exact db h
theorem Bv(xs:Array Value)(i k:Nat):((List.range k).filterMap fun(m:Nat)=>xs[((i:Int)+(m:Int)*1).toNat]?).toArray=((xs.toList.drop i).take k).toArray:=by
 have e:(fun(m:Nat)=>xs[((i:Int)+(m:Int)*1).toNat]?)=fun m=>xs[i+m]? :=by
  funext m;have:((i:Int)+(m:Int)*1).toNat=i+m:=by omega
  rw[this]
 rw[e];have:=pick_run xs i k;rw[List.filterMap_map]at this;have e2:((fun x=>xs[x]?)∘fun x=>i+x)=fun m=>xs[i+m]? :=rfl;rw[e2]at this;rw[this]
theorem km{t sl:Addr}{Jz:Array Value}{vl vu:Value}{lo hi:Option Int}{Q:Value->Shared->Prop}(ht:IsTup s.heap t Jz)(hs:s.heap.IsSliceOf sl vl vu .none)(pl:IsPart vl lo)(pu:IsPart vu hi)
  (hw:¬(du Jz.size 0 lo=0/\du Jz.size Jz.size hi=Jz.size))
  (h:Q (.ref s.heap.objs.size) {s with heap:=s.heap.push {cls:=.type "tuple",data:=.seq ((Jz.toList.drop (du Jz.size 0 lo)).take (du Jz.size Jz.size hi-du Jz.size 0 lo)).toArray}})
  (hsz:Jz.size<=ee):wpAny (model prog w) A (getItem (.ref t) (.ref sl)) Q E s:=by
 have yq:sizeOk (.seq ((Jz.toList.drop (du Jz.size 0 lo)).take (du Jz.size Jz.size hi-du Jz.size 0 lo)).toArray):=by show((Jz.toList.drop (du Jz.size 0 lo)).take (du Jz.size Jz.size hi-du Jz.size 0 lo)).toArray.size<=ee;rw[al,List.length_take,List.length_drop,Array.length_toList];omega
 have hj:du Jz.size Jz.size hi<=Jz.size:=Jl _ _ (jp _) hi;obtain⟨os,hos,hcs,hds⟩:=id hs;have hTs:s.TypeIs (.ref sl) "slice":=⟨os,hos,hcs⟩;unfold getItem
 try with_reducible refine wpAny_holding ?_
 first | refine c8 (db ?_) | skip
 refine c8 (wpAny_sequenceKey ht.typeIs (by decide) ?_)
 refine c8 (wpAny_callSpecial?_slot (name:=Str.ofString "__getitem__") ht.typeIs PyProof.Rows.slot_tuple_getitem
  (wpAny_call_entry PyProof.Rows.slot_tuple_getitem ht.typeIs entry_tuple_getitem ?_ (args_tuple_getitem _ _)))
 show wpAny _ _ (Builtin.Tuple.tupleItemsOf (.ref t)>>=_) _ _ s;refine c8 (tupleItemsOf_ ht ?_);refine c8 (wpAny_typeOf hTs ?_);rw[if_pos (by decide)];refine c8 (lR hs pl pu ?_);have hno:¬((((du Jz.size 0 lo:Nat):Int)==0&&(1:Int)==1&&(du Jz.size Jz.size hi-du Jz.size 0 lo)==Jz.size)=true):=by intro q;rw[Bool.and_eq_true,Bool.and_eq_true]at q;have q1:((du Jz.size 0 lo:Nat):Int)=0:=eq_of_beq q.1.1;have q2:du Jz.size Jz.size hi-du Jz.size 0 lo=Jz.size:=eq_of_beq q.2;exact hw ⟨by omega,by omega⟩
 show wpAny _ _ (if (((du Jz.size 0 lo:Nat):Int)==0&&(1:Int)==1&&(du Jz.size Jz.size hi-du Jz.size 0 lo)==Jz.size)=true then _ else _) _ _ s;rw[if_neg hno,Bv]
 first
  | exact c8 (m:=Builtin.Tuple.tupleExact _) (wpAny_newObj_type (db ⟨_,rfl,db h⟩) yq)
  | exact c8 (m:=Builtin.Tuple.tupleExact _) (wpAny_newObj_type (c8 (db (db ⟨_,rfl,db h⟩))) yq)
  | exact c8 (c8 (m:=Builtin.Tuple.tupleExact _) (wpAny_newObj_type (db (db ⟨_,rfl,db h⟩)) yq))
  | exact c8 (c8 (m:=Builtin.Tuple.tupleExact _) (wpAny_newObj_type (db ⟨_,rfl,db h⟩) yq))
end
end HT
namespace L2
open PySem PySem.Spec PyProof.Rows
abbrev TO:=St->Hp->(Option Int->Hp->Prop)->Prop
def PO(X:Cx)(e:Option Expr)(t:TO):Prop :=
 ∀(kb:List (Addr×Obj)) (s:Shared) (σ:St) (H:Hp) (Q:Option Int->Hp->Prop),Inv X kb σ H s->t σ H Q->
  wpAny (model X.prog X.w) X.A (evalPart e X.env) (fun u s'=>∃o H',Inv X kb σ H' s'/\IsPart u o/\Q o H') X.xe s
def Ee:TO:=fun _ H Q=>Q none H
inductive MC(Q:Option Int->Hp->Prop)(x:V)(H:Hp):Prop
 | mk (i) (_:x=.int i) (_:Q (some i) H)
def MD(t:TE):TO:=fun σ H Q=>t σ H (MC Q)
section
variable {X:Cx}{e:Expr}{te:TE}{lo hi:Option Expr}{tl th:TO}{pos p2:Pos}
theorem dI:PO X none Ee:=by intro kb s σ H Q I h;rw[evalPart_none];exact db ⟨none,H,I,.none,h⟩
theorem cK(h:PE X e te):PO X (some e) (MD te):=by intro kb s σ H Q I hw;rw[evalPart_some];refine cJ (h kb s σ H _ I hw) fun u s1 ⟨x,H1,I1,r1,q1⟩=>?_;obtain⟨i,rfl,q⟩:=q1;obtain⟨t,rfl⟩:=r1;exact⟨some i,H1,I1,.int i t,q⟩
def QR(X:Cx)(r:V->Option Int->Option Int->Hp->VK->Prop):Prop :=
 ∀(kb:List (Addr×Obj)) (s:Shared) (σ:St) (H:Hp) (x:V) (v vl vu:Value) (lo hi:Option Int) (sl:Addr) (Q:VK),Inv X kb σ H s->RelV x v->s.heap.IsSliceOf sl vl vu .none->IsPart vl lo->IsPart vu hi->r x lo hi H Q->
  ∃T id,typeLookup (.type T) "__getitem__"=pure (some (.builtin id))/\s.TypeIs v T/\wpAny (model X.prog X.w) X.A (getItem v (.ref sl)) (EP X kb σ Q) X.xe s
def ZG(r:V->Option Int->Option Int->Hp->VK->Prop)(te:TE)(tl th:TO):TE:=fun σ H Q=>te σ H fun x H1=>tl σ H1 fun l H2=>th σ H2 fun u H3=>r x l u H3 Q
theorem cL{r:V->Option Int->Option Int->Hp->VK->Prop}(hr:QR X r)(he:PE X e te)(hl:PO X lo tl)(hu:PO X hi th):PE X (.Subscript e (.Slice lo hi none p2) pos) (ZG r te tl th):=by intro kb s σ H Q I h;refine Subscript_ (cJ (he kb s σ H _ I h) fun v s1 ⟨x,H1,I1,r1,q1⟩=>?_);refine wpAny_Slice (cJ (hl kb s1 σ H1 _ I1 q1) fun vl s2 ⟨l,H2,I2,pl,q2⟩=>cJ (hu kb s2 σ H2 _ I2 q2) fun vu s3 ⟨u,H3,I3,pu,q3⟩=>?_);rw[evalPart_none];refine db ?_;have I4:Inv X kb σ H3 {s3 with heap:=s3.heap.push {cls:=.type "slice",data:=.fields #[vl,vu,.none]}}:=I3.kept (t':=s3.toks) fun b ob q=>fg _ q;obtain⟨T,id,hT,ht,hg⟩:=hr kb {s3 with heap:=s3.heap.push {cls:=.type "slice",data:=.fields #[vl,vu,.none]}} σ H3 x v vl vu l u s3.heap.objs.size Q I4 r1 (Heap.IsSliceOf.new ..) pl pu q3;show wpAny (model X.prog X.w) X.A (subscriptTail e (.Slice lo hi none p2) v (.ref s3.heap.objs.size)) (EP X kb σ Q) X.xe {s3 with heap:=s3.heap.push {cls:=.type "slice",data:=.fields #[vl,vu,.none]}};exact tail_any (ops:=[.ref s3.heap.objs.size,v]) ht hT hg (by with_unfolding_all rfl)
def dJ(xs:List V)(lo hi:Option Int):List V:=(xs.drop (HT.du xs.length 0 lo)).take (HT.du xs.length xs.length hi-HT.du xs.length 0 lo)
theorem mX(xs:List V)(lo hi:Option Int):(dJ xs lo hi).length<=xs.length:=by unfold dJ;rw[List.length_take,List.length_drop];omega
inductive RP(K:gv)(x:V)(lo:Option Int)(hi:Option Int)(H:Hp)(Q:VK):Prop
 | mk (a xs) (_:x=.ref a) (_:bz K H a xs) (_:¬(HT.du xs.length 0 lo=0/\HT.du xs.length xs.length hi=xs.length)) (_:∀p,H p=none->Q (.ref p) (upd H p (.tup (dJ xs lo hi))))
theorem lS:QR X (RP X.K):=by
 intro kb s σ H x v vl vu lo hi sl Q I rx hs pl pu h;obtain⟨a,xs,rfl,hx,hw,q⟩:=h;cases rx;obtain⟨its,r,ht,hz⟩:=I.tuple hx;have hlen:its.toArray.size=xs.length:=by rw[al];exact r.length.symm
 refine⟨"tuple",_,PyProof.Rows.slot_tuple_getitem.lookup,ht.typeIs,?_⟩;refine HT.km ht hs pl pu (by rw[hlen];exact hw) ?_ (by rw[hlen];exact hz);rw[hlen];refine⟨.ref s.heap.objs.size,_,I.laid (t':=s.toks) (o:=.tup (dJ xs lo hi)) (fun b ob q=>fg _ q) (jp _) ?_,rfl,q _ (I.hok.fresh (jp _))⟩;exact⟨kq (mX xs lo hi) hz,_,(r.drop (HT.du xs.length 0 lo)).take (HT.du xs.length xs.length hi-HT.du xs.length 0 lo),IsTup.new _ _⟩
inductive ME(K:gv)(x:V)(y:V)(H:Hp)(Q:VK):Prop
 | mk (a b xs ys) (_:x=.ref a) (_:y=.ref b) (_:bz K H a xs) (_:bz K H b ys) (_:xs≠ []) (_:xs.length+ys.length<=ee) (_:(ys=[]->Q (.ref a) H)) (_:(ys≠ []->∀p,H p=none->Q (.ref p) (upd H p (.tup (xs++ys)))))
theorem Vals.sv{xs:List V}{us:List Value}(r:Vals xs us):us=[]↔xs=[]:=by
 cases r with
 | nil=>simp
 | cons _ _=>simp
theorem jx:jP X (binaryOp .Add) (ME X.K):=by intro kb s σ H x y v u Q I rx ry h;obtain⟨a,b,xs,ys,rfl,rfl,ha,hb,hx,hz,q1,q2⟩:=h;cases rx;cases ry;obtain⟨its,r1,p1,_⟩:=I.tuple ha;obtain⟨its2,r2,p2,_⟩:=I.tuple hb;refine HT.Ed p1 p2 (fun z=>hx (r1.sv.mp z)) (fun z=>⟨.ref a,H,I,rfl,q1 (r2.sv.mp z)⟩) (fun z=>?_) (by rw[<-r1.length,<-r2.length];exact hz);refine⟨.ref s.heap.objs.size,_,I.laid (t':=s.toks) (o:=.tup (xs++ys)) (fun b ob q=>fg _ q) (jp _) ?_,rfl,q2 (fun w=>z (r2.sv.mpr w)) _ (I.hok.fresh (jp _))⟩;exact⟨by rw[am];exact hz,_,r1.append r2,IsTup.new _ _⟩
end
def DZ(n:Nat)(i:Int):Option Nat:=if 0<=i then (if i<n then some i.toNat else none)else if-(n:Int)<=i then some (i+n).toNat else none
def kc{α:Type}(xs:List α)(i:Int):Option α:=(DZ xs.length i).bind fun j=>xs[j]?
theorem Ef{n:Nat}{i:Int}{j:Nat}(h:DZ n i=some j):seqIndex? i n=some j/\j<n/\-(n:Int)<=i/\i<n:=by
 unfold DZ at h;by_cases h0:0<=i
 ·rw[if_pos h0]at h;by_cases h1:i<n
  ·rw[if_pos h1]at h;have e:i.toNat=j:=Option.some.inj h;exact⟨by rw[seqIndex_of h0 h1,e],by omega,by omega,h1⟩
  ·rw[if_neg h1]at h;cases h
 ·rw[if_neg h0]at h;by_cases h1:-(n:Int)<=i
  ·rw[if_pos h1]at h;have e:(i+n).toNat=j:=Option.some.inj h;exact⟨by rw[seqIndex_neg (by omega) h1,e],by omega,h1,by omega⟩
  ·rw[if_neg h1]at h;cases h
theorem sC{α:Type}{xs:List α}{i:Int}{v:α}(h:kc xs i=some v):∃j,seqIndex? i xs.length=some j/\xs[j]? =some v/\j<xs.length/\-(xs.length:Int)<=i/\i<xs.length:=by
 unfold kc at h;cases e:DZ xs.length i with
 | none=>rw[e]at h;cases h
 | some j=>
  rw[e]at h;obtain⟨h1,h2,h3,h4⟩:=Ef e;exact⟨j,h1,h,h2,h3,h4⟩
theorem ck{α:Type}{xs:List α}{j:Nat}{v:α}(h:xs[j]? =some v):kc xs (j:Int)=some v:=by
 have hj:j<xs.length:=(ad.mp h).1;have e:DZ xs.length (j:Int)=some j:=by unfold DZ;rw[if_pos (by omega),if_pos (by omega)];simp
 unfold kc;rw[e];exact h
def yr(b:Expr):Prop:=∀o i,subscripted b false o i=operate [o,i] (getItem o i)
def MF(X:Cx)(r:R2):Prop :=
 ∀(value slice:Expr) (kb:List (Addr×Obj)) (s:Shared) (σ:St) (H:Hp) (x y:V) (v u:Value) (Q:VK),Inv X kb σ H s->RelV x v->RelV y u->r x y H Q->
  subscripted slice false v u=operate [v,u] (getItem v u)->wpAny (model X.prog X.w) X.A (subscriptTail value slice v u) (EP X kb σ Q) X.xe s
def Hj(X:Cx)(id:String)(r:V->List V->Hp->VK->Prop):Prop :=
 ∀(kb:List (Addr×Obj)) (s:Shared) (σ:St) (H:Hp) (x:V) (xs:List V) (v:Value) (us:List Value) (Q:VK),Inv X kb σ H s->RelV x v->Vals xs us->r x xs H Q->
  wpAny (model X.prog X.w) X.A (call (.builtin id) (v::us)) (EP X kb σ Q) X.xe s
section
variable {X:Cx}{a b:Expr}{ta tb:TE}{pos:Pos}
theorem aF{r:R2}(hr:MF X r)(ha:PE X a ta)(hb:PE X b tb)(hs:yr b):PE X (.Subscript a b pos) (Mq r ta tb):=by intro kb s σ H Q I h;exact Subscript_ (Jf ha hb I h fun v u s2 x y H2 I2 rx ry q=>hr a b kb s2 σ H2 x y v u Q I2 rx ry q (hs _ _))
inductive uU(K:gv)(x:V)(y:V)(H:Hp)(Q:VK):Prop
 | mk (p xs i v) (_:x=.ref p) (_:y=.int i) (_:aV K H p xs) (_:kc xs i=some v) (_:Q v H)
inductive RQ(K:gv)(x:V)(y:V)(H:Hp)(Q:VK):Prop
 | mk (p xs i v) (_:x=.ref p) (_:y=.int i) (_:bz K H p xs) (_:kc xs i=some v) (_:Q v H)
inductive RR(x:V)(y:V)(H:Hp)(Q:VK):Prop
 | mk (z i c) (_:x=.str z) (_:y=.int i) (_:z.length<=ee) (_:kc z.cps.toList i=some c) (_:Q (.str ⟨#[c]⟩) H)
theorem aK:MF X (uU X.K):=by
 intro value slice kb s σ H x y v u Q I rx ry h hs;obtain⟨p,xs,i,z,rfl,rfl,hq,he,q⟩:=h;cases rx;obtain⟨t,rfl⟩:=ry;obtain⟨its,r,pl,hz⟩:=I.list hq;obtain⟨j,h1,h2,h3,h4,h5⟩:=sC he;obtain⟨w,ew,Ae⟩:=r.get h2;have hl:=r.length;have hn:=oG;have fin:EP X kb σ Q w s:=⟨z,H,I,Ae,q⟩;by_cases h0:0<=i
 ·have hj:i.toNat=j:=by rw[seqIndex_of h0 h5]at h1;exact Option.some.inj h1
  exact item_listR pl.isList h0 (by omega) (by rw[hj];simpa using ew) fin hs
 ·have hj:(i+(its.toArray.size:Int)).toNat=j:=by rw[seqIndex_neg (by omega) h4]at h1;rw[al,<-hl];exact Option.some.inj h1
  exact subscriptTail_builtinR (x:=w) pl.isList.typeIs slot_list_getitem.lookup
   (wpAny_getItem_list_neg (Q:=fun r s'=>r=w/\EP X kb σ Q r s') pl.isList (by omega) (by rw[al]<;>omega) (by omega) (by rw[hj];simpa using ew) ⟨rfl,fin⟩) hs
theorem aY:MF X (RQ X.K):=by
 intro value slice kb s σ H x y v u Q I rx ry h hs;obtain⟨p,xs,i,z,rfl,rfl,hq,he,q⟩:=h;cases rx;obtain⟨t,rfl⟩:=ry;obtain⟨its,r,pl,hz⟩:=I.tuple hq;obtain⟨j,h1,h2,h3,h4,h5⟩:=sC he;obtain⟨w,ew,Ae⟩:=r.get h2;have hl:=r.length;have hn:=oG;have fin:EP X kb σ Q w s:=⟨z,H,I,Ae,q⟩;exact subscriptTail_builtinR (x:=w) pl.typeIs slot_tuple_getitem.lookup
  (getItem_tuple (j:=j) (Q:=fun r s'=>r=w/\EP X kb σ Q r s') pl (by omega) (by omega) (by rw[al,<-hl];exact h1) (by simpa using ew) ⟨rfl,fin⟩) hs
theorem Jm:MF X RR:=by
 intro value slice kb s σ H x y v u Q I rx ry h hs;obtain⟨z,i,c,rfl,rfl,hz,he,q⟩:=h;obtain⟨t,rfl⟩:=rx;obtain⟨t',rfl⟩:=ry;obtain⟨j,h1,h2,h3,h4,h5⟩:=sC he;have hl:z.cps.toList.length=z.length:=by simp[Str.length]
 rw[hl]at h1 h4 h5;have hn:=oG
 exact tail_any (typeIs_str s z t) slot_str_getitem.lookup (getItem_str (c:=c) (by
  have e1:decide (i< -(2^63:Int))=false:=decide_eq_false (by omega);have e2:decide (i≥2^63)=false:=decide_eq_false (by omega)
  rw[e1,e2,Bool.or_false]) (by rw[h1];simpa using h2) ⟨.str ⟨#[c]⟩,H,I.tok _,⟨_,rfl⟩,q⟩) hs
theorem sD(lo hi:Option Int)(n:Nat):(sliceBounds lo hi none n).1=((HT.du n 0 lo:Nat):Int)/\(sliceBounds lo hi none n).2.1=((HT.du n n hi:Nat):Int)/\(sliceBounds lo hi none n).2.2=1:=by
 refine⟨?_,?_,rfl⟩
 ·cases lo with
  | none=>simp[sliceBounds,HT.du]
  | some i=>
   simp only[sliceBounds,HT.du,Option.getD_none,show(1:Int)>0 by decide,if_true];by_cases h:i<0
   ·simp only[h,if_true]<;>omega
   ·simp only[h,if_false]<;>omega
 ·cases hi with
  | none=>simp[sliceBounds,HT.du]
  | some i=>
   simp only[sliceBounds,HT.du,Option.getD_none,show(1:Int)>0 by decide,if_true];by_cases h:i<0
   ·simp only[h,if_true]<;>omega
   ·simp only[h,if_false]<;>omega
theorem qr(its:List Value)(lo hi:Option Int):slicePick its.toArray lo hi none=((its.drop (HT.du its.length 0 lo)).take (HT.du its.length its.length hi-HT.du its.length 0 lo)).toArray:=by obtain⟨h1,h2,h3⟩:=sD lo hi its.toArray.size;unfold slicePick;rw[h1,h2,h3];simp only[sliceRange_one,pick_run,al]<;>rfl
inductive RS(K:gv)(x:V)(lo:Option Int)(hi:Option Int)(H:Hp)(Q:VK):Prop
 | mk (a xs) (_:x=.ref a) (_:aV K H a xs) (_:∀p,H p=none->Q (.ref p) (upd H p (.lst (dJ xs lo hi))))
theorem eT:QR X (RS X.K):=by intro kb s σ H x v vl vu lo hi sl Q I rx hs pl pu h;obtain⟨a,xs,rfl,hx,q⟩:=h;cases rx;obtain⟨its,r,ht,hz⟩:=I.list hx;have hlen:=r.length;refine⟨"list",_,slot_list_getitem.lookup,ht.isList.typeIs,?_⟩;refine wpAny_getItem_list_slice ht.isList hs pl pu .none (by simp) ?_ (by rw[al]<;>omega);rw[qr,<-hlen];refine⟨.ref s.heap.objs.size,_,I.laid (t':=s.toks) (o:=.lst (dJ xs lo hi)) (fun b ob q=>fg _ q) (jp _) ?_,rfl,q _ (I.hok.fresh (jp _))⟩;exact⟨kq (mX xs lo hi) hz,_,0,(r.drop (HT.du xs.length 0 lo)).take (HT.du xs.length xs.length hi-HT.du xs.length 0 lo),fk _ rfl⟩
def jR:V->Bool
 | .non=>true
 | .bl _=>true
 | .int _=>true
 | .str _=>true
 | _=>false
def D1:V->V->Bool
 | .non,.non=>true
 | .bl a,.bl b=>a==b
 | .bl a,.int b=>(if a then 1 else 0)==b
 | .int a,.bl b=>a==(if b then 1 else 0)
 | .int a,.int b=>a==b
 | .str a,.str b=>a==b
 | _,_=>false
theorem Jo{A:Around}{s:Shared}{y x:V}{u v:Value}(ry:RelV y u)(rx:RelV x v)(fy:jR y=true)(fx:jR x=true):SeqAt.EqAt A s u v (D1 y x):=by
 cases y with
 | non=>
  cases ry;cases x with
  | non=>cases rx;exact SeqAt.EqAt.same _
  | bl b=>cases rx;exact SeqAt.EqAt.none_bool b
  | int b=>obtain⟨t,rfl⟩:=rx;exact SeqAt.EqAt.none_int b t
  | str b=>obtain⟨t,rfl⟩:=rx;exact SeqAt.EqAt.none_str b t
  | _=>exact absurd (show false=true from fx) kt
 | bl a=>
  cases ry;cases x with
  | non=>cases rx;exact SeqAt.EqAt.bool_none a
  | bl b=>cases rx;exact SeqAt.EqAt.bool_bool a b
  | int b=>obtain⟨t,rfl⟩:=rx;exact SeqAt.EqAt.bool_int a b t
  | str b=>obtain⟨t,rfl⟩:=rx;exact SeqAt.EqAt.bool_str a b t
  | _=>exact absurd (show false=true from fx) kt
 | int a=>
  obtain⟨t',rfl⟩:=ry;cases x with
  | non=>cases rx;exact SeqAt.EqAt.int_none a t'
  | bl b=>cases rx;exact SeqAt.EqAt.int_bool a t' b
  | int b=>obtain⟨t,rfl⟩:=rx;exact SeqAt.EqAt.int_int a t' b t
  | str b=>obtain⟨t,rfl⟩:=rx;exact SeqAt.EqAt.int_str a t' b t
  | _=>exact absurd (show false=true from fx) kt
 | str a=>
  obtain⟨t',rfl⟩:=ry;cases x with
  | non=>cases rx;exact SeqAt.EqAt.str_none a t'
  | bl b=>cases rx;exact SeqAt.EqAt.str_bool a t' b
  | int b=>obtain⟨t,rfl⟩:=rx;exact SeqAt.EqAt.str_int a t' b t
  | str b=>obtain⟨t,rfl⟩:=rx;exact SeqAt.EqAt.str_str a t' b t
  | _=>exact absurd (show false=true from fx) kt
 | _=>exact absurd (show false=true from fy) kt
def uF(x:V)(u:Value):Bool:=match u with
 | .none=>D1 .non x
 | .bool b=>D1 (.bl b) x
 | .int i _=>D1 (.int i) x
 | .str z _=>D1 (.str z) x
 | _=>false
theorem wq{x y:V}{u:Value}(r:RelV y u)(f:jR y=true):uF x u=D1 y x:=by
 cases y with
 | non=>cases r;rfl
 | bl b=>cases r;rfl
 | int i=>obtain⟨t,rfl⟩:=r;rfl
 | str z=>obtain⟨t,rfl⟩:=r;rfl
 | _=>exact absurd (show false=true from f) kt
theorem kn{x:V}:∀{xs:List V} {us:List Value},Vals xs us->xs.all jR=true->us.any (uF x)=xs.any fun y=>D1 y x
 | _,_,.nil,_=>rfl
 | y::xs,u::us,.cons r t,f=>by rw[List.all_cons,Bool.and_eq_true]at f;rw[List.any_cons,List.any_cons,wq r f.1,kn t f.2]
theorem iu{A:Around}{s:Shared}{x:V}{v:Value}(rx:RelV x v)(fx:jR x=true):∀{xs:List V} {us:List Value},Vals xs us->xs.all jR=true->∀u∈us,SeqAt.EqAt A s u v (uF x u)
 | _,_,.nil,_=>fun u hu=>by cases hu
 | y::xs,u::us,.cons r t,f=>fun u' hu=>by
  rw[List.all_cons,Bool.and_eq_true]at f;rcases List.mem_cons.mp hu with rfl | hu
  ·rw[wq r f.1];exact Jo r rx f.1 fx
  ·exact iu rx fx t f.2 u' hu
def inV(x:V)(xs:List V):Bool:=xs.any fun y=>D1 y x
inductive RT(K:gv)(neg:Bool)(x:V)(y:V)(H:Hp)(Q:VK):Prop
 | mk (p xs) (_:y=.ref p) (_:(aV K H p xs\/bz K H p xs)) (_:jR x=true) (_:xs.all jR=true) (_:Q (.bl (if neg then !inV x xs else inV x xs)) H)
theorem cy:jP X (compareOp .In) (RT X.K false):=by
 intro kb s σ H x y v u Q I rx ry h;obtain⟨p,xs,rfl,hq,fx,fs,q⟩:=h;cases ry;rcases hq with hq | hq
 ·obtain⟨its,r,pl,hz⟩:=I.list hq;refine SeqAt.in_listAt (uF x) pl.isList (fun w hw=>iu rx fx r fs w (by simpa using hw)) ⟨.bl _,H,I,rfl,?_⟩;rw[show its.toArray.any (uF x)=its.any (uF x) by simp,kn r fs];exact q
 ·obtain⟨its,r,pl,hz⟩:=I.tuple hq;refine SeqAt.in_tupleAt (uF x) pl (fun w hw=>iu rx fx r fs w (by simpa using hw)) ⟨.bl _,H,I,rfl,?_⟩;rw[show its.toArray.any (uF x)=its.any (uF x) by simp,kn r fs];exact q
theorem ko:jP X (compareOp .NotIn) (RT X.K true):=by
 intro kb s σ H x y v u Q I rx ry h;obtain⟨p,xs,rfl,hq,fx,fs,q⟩:=h;cases ry;rcases hq with hq | hq
 ·obtain⟨its,r,pl,hz⟩:=I.list hq;refine SeqAt.notIn_listAt (uF x) pl.isList (fun w hw=>iu rx fx r fs w (by simpa using hw)) ⟨.bl _,H,I,rfl,?_⟩;rw[show its.toArray.any (uF x)=its.any (uF x) by simp,kn r fs];exact q
 ·obtain⟨its,r,pl,hz⟩:=I.tuple hq;refine SeqAt.notIn_tupleAt (uF x) pl (fun w hw=>iu rx fx r fs w (by simpa using hw)) ⟨.bl _,H,I,rfl,?_⟩;rw[show its.toArray.any (uF x)=its.any (uF x) by simp,kn r fs];exact q
inductive oK(K:gv)(xs:List V)(H:Hp)(Q:VK):Prop
 | mk (p ys) (_:xs=[.ref p]) (_:(aV K H p ys\/bz K H p ys)) (_:Q (.int ys.length) H)
theorem aM:iq X (.builtin "len") (oK X.K):=by
 intro kb s σ H xs us Q I r h;obtain⟨p,ys,rfl,hq,q⟩:=h;obtain⟨u,rfl,rx⟩:=vals1 r;cases rx;have hn:=oG;rcases hq with hq | hq
 ·obtain⟨its,r',pl,hz⟩:=I.list hq;have hlen:=r'.length;exact Calls.call_len_list pl.isList (by simp only[al]<;>omega) ⟨.int ys.length,H,I.tok _,⟨s.toks+1,by rw[al,hlen]⟩,q⟩
 ·obtain⟨its,r',pl,hz⟩:=I.tuple hq;have hlen:=r'.length;exact len_tuple pl (by simp only[al]<;>omega) ⟨.int ys.length,H,I.tok _,⟨s.toks+1,by rw[al,hlen]⟩,q⟩
inductive oM(xs:List V)(H:Hp)(Q:VK):Prop
 | mk (z) (_:xs=[.str z]) (_:z.length<=ee) (_:Q (.int z.length) H)
theorem sE:iq X (.builtin "len") oM:=by intro kb s σ H xs us Q I r h;obtain⟨z,rfl,hz,q⟩:=h;obtain⟨u,rfl,t,rfl⟩:=vals1 r;have hn:=oG;exact len_str (by omega) ⟨.int z.length,H,I.tok _,⟨_,rfl⟩,q⟩
inductive oN(K:gv)(xs:List V)(H:Hp)(Q:VK):Prop
 | mk (p ys) (_:xs=[.ref p]) (_:(aV K H p ys\/bz K H p ys)) (_:∀l,H l=none->Q (.ref l) (upd H l (.lst ys)))
theorem dZ:iq X (.type "list") (oN X.K):=by
 intro kb s σ H xs us Q I r h;obtain⟨p,ys,rfl,hq,q⟩:=h;obtain⟨u,rfl,rx⟩:=vals1 r;cases rx;have fin:∀(its:List Value),Vals ys its->ys.length<=ee->∀(h':Heap) (c':Nat),(∀b o',s.heap.get? b=some o'->h'.get? b=some o')->
   h'.get? s.heap.objs.size=some {cls:=.type "list",dict:=none,data:=.seq its.toArray c',slots:=#[]}->EP X kb σ Q (.ref s.heap.objs.size) {s with heap:=h'}:=fun its r' hz h' c' kp e=>
  ⟨.ref s.heap.objs.size,_,I.laid (t':=s.toks) kp (jp _) (show cM X.prog X.w _ h' _ (.lst ys)from⟨hz,its,c',r',e⟩),rfl,q _ (I.hok.fresh (jp _))⟩
 rcases hq with hq | hq
 ·obtain⟨its,r',pl,hz⟩:=I.list hq;have hlen:=r'.length;obtain⟨o,ho,hc,n,hd⟩:=pl.isList;exact call_list_seq p (.inl rfl) ho hc hd (fun h' c' kp e=>fin its r' hz h' c' kp e) (by simp only[al]<;>omega)
 ·obtain⟨its,r',pl,hz⟩:=I.tuple hq;have hlen:=r'.length;obtain⟨o,ho,hc,n,hd⟩:=pl;exact call_list_seq p (.inr rfl) ho hc hd (fun h' c' kp e=>fin its r' hz h' c' kp e) (by simp only[al]<;>omega)
inductive nF(K:gv)(xs:List V)(H:Hp)(Q:VK):Prop
 | mk (p ys) (_:xs=[.ref p]) (_:((aV K H p ys/\∀l,H l=none->Q (.ref l) (upd H l (.tup ys)))\/(bz K H p ys/\Q (.ref p) H)))
theorem cZ:iq X (.type "tuple") (nF X.K):=by
 intro kb s σ H xs us Q I r h;obtain⟨p,ys,rfl,h⟩:=h;obtain⟨u,rfl,rx⟩:=vals1 r;cases rx;rcases h with ⟨hq,q⟩ | ⟨hq,q⟩
 ·obtain⟨its,r',pl,hz⟩:=I.list hq;have hlen:=r'.length;refine call_tuple_list pl.isList (fun h' kp=>?_) (by simp only[al]<;>omega);have I1:Inv X kb σ H {s with heap:=h'}:=I.kept (t':=s.toks) kp;have I2:Inv X kb σ (upd H h'.objs.size (.tup ys)) {s with heap:=h'.push {cls:=.type "tuple",data:=.seq its.toArray}}:=
   I1.laid (t':=s.toks) (fun b o e=>fg _ e) (jp _) (show cM X.prog X.w _ _ _ (.tup ys)from⟨hz,its,r',IsTup.new _ _⟩)
  exact⟨.ref h'.objs.size,_,I2,rfl,q _ (I1.hok.fresh (jp _))⟩
 ·obtain⟨its,r',pl,hz⟩:=I.tuple hq;exact call_tuple_same pl ⟨.ref p,H,I,rfl,q⟩
def RU(K:gv)(T:String)(x:V)(H:Hp):Prop:=match x with
 | .str _=>T ="str"
 | .int _=>T ="int"
 | .ref p=>(T ="list"/\∃xs,aV K H p xs)\/(T ="tuple"/\∃o,K.lookup p=some o/\o.cls=.type "tuple"/\o.dict=none)\/
   (T ="dict"/\((∃kvs,H p=some (.dK kvs))\/∃kvs,H p=some (.dT kvs)))\/(T ="set"/\∃S n,H p=some (.set S n))
 | _=>False
theorem Bw{kb:List (Addr×Obj)}{σ:St}{H:Hp}{s:Shared}{T:String}{x:V}{v:Value}(I:Inv X kb σ H s)(r:RelV x v)(ty:RU X.K T x H):
  s.TypeIs v T/\∀a,v=.ref a->∃ob,s.heap.get? a=some ob/\ob.dict=none:=by
 cases x with
 | str z=>
  obtain⟨t,rfl⟩:=r;cases (show T ="str"from ty);exact⟨typeIs_str s z t,fun _ e=>nomatch e⟩
 | int i=>
  obtain⟨t,rfl⟩:=r;cases (show T ="int"from ty);exact⟨typeIs_int s i t,fun _ e=>nomatch e⟩
 | ref p=>
  cases r;rcases ty with ⟨rfl,xs,hq⟩ | ⟨rfl,o,hk,hc,hd⟩ | ⟨rfl,hk⟩ | ⟨rfl,S,n,hk⟩
  ·obtain⟨its,_,pl,_⟩:=I.list hq;refine⟨pl.isList.typeIs,fun a e=>?_⟩;cases e;obtain⟨o,n,e,c,hd,_⟩:=pl;exact⟨o,e,hd⟩
  ·refine⟨⟨o,I.lL p o hk,hc⟩,fun a e=>?_⟩;cases e;exact⟨o,I.lL _ o hk,hd⟩
  ·have z:∃o,s.heap.get? p=some o/\o.ExactDict:=by
    rcases hk with ⟨kvs,hk⟩ | ⟨kvs,hk⟩
    ·obtain⟨_,_,_,_,o,_,_,e,ex,_⟩:=I.hok p _ hk;exact⟨o,e,ex⟩
    ·obtain⟨_,_,_,_,o,_,_,e,ex,_⟩:=I.hok p _ hk;exact⟨o,e,ex⟩
   obtain⟨o,e,ex⟩:=z;refine⟨⟨o,e,ex.1⟩,fun a e2=>?_⟩;cases e2;exact⟨o,e,ex.2.1⟩
  ·obtain⟨o,_,_,_,e,ex,_⟩:=I.hok p _ hk;refine⟨⟨o,e,ex.1⟩,fun a e2=>?_⟩;cases e2;exact⟨o,e,ex.2.1⟩
 | _=>exact False.elim ty
def RV(K:gv)(T:String)(r:V->List V->Hp->VK->Prop)(to:TE):TE:=fun σ H Q=>to σ H fun x H1=>RU K T x H1/\r x [] H1 Q
def ZI(K:gv)(T:String)(r:V->List V->Hp->VK->Prop)(to:TE)(t:TA):TE:=fun σ H Q=>to σ H fun x H1=>RU K T x H1/\t σ H1 fun xs H2=>r x xs H2 Q
variable {o e:Expr}{es:List Expr}{to:TE}{t:TA}{name:Str}{apos cpos:Pos}{T id:String}{r:V->List V->Hp->VK->Prop}
theorem Jp(pa:PlainAttrs T)(slot:Slot T name id)(hty:typeOf (.builtin id)=pure (.type "method_descriptor"))(hm:Hj X id r)(ho:PE X o to)
  (hbase:attributeBase o name X.env (eval o X.env)=eval o X.env:=by rfl) (hline:(apos.endLine==cpos.line)=true:=by rfl):PE X (.Call (.Attribute o name apos) [] [] cpos) (RV X.K T r to):=by
 intro kb s σ H Q I h;refine wpAny_Call_method0_late hbase hline (cJ (ho kb s σ H _ I h) fun v s1 ⟨x,H1,I1,r1,ty,q1⟩=>?_);obtain⟨h1,h2⟩:=Bw I1 r1 ty;exact⟨T,id,pa,slot,hty,h1,h2,Calls.callWith_builtin rfl (PySem.evalArgs_none (hm kb s1 σ H1 x [] v [] Q I1 r1 .nil q1))⟩
theorem dg(pa:PlainAttrs T)(slot:Slot T name id)(hty:typeOf (.builtin id)=pure (.type "method_descriptor"))(hm:Hj X id r)(ho:PE X o to)(ha:PA X (e::es) t)
  (hbase:attributeBase o name X.env (eval o X.env)=eval o X.env:=by rfl)
  (hfew:((backTo cpos (starEach (e::es) X.env)).all (fun x=>!x.1)&&(backToKw cpos (keywordEach [] X.env)).all (fun x=>x.1.isSome)
   &&decide ((e::es).length+([]:List Keyword).length+(if ([]:List Keyword).isEmpty then 0 else 1)<30))=true:=by rfl)
  (hline:(apos.endLine==cpos.line)=true:=by rfl) (hs:starEach (e::es) X.env=(false,eval e X.env)::starEach es X.env:=by rfl) (hplain:(backTo cpos (starEach es X.env)).any (·.1)=false:=by rfl):
  PE X (.Call (.Attribute o name apos) (e::es) [] cpos) (ZI X.K T r to t):=by
 intro kb s σ H Q I h;refine wpAny_Call_method_late hbase hfew hline rfl (cJ (ho kb s σ H _ I h) fun v s1 ⟨x,H1,I1,r1,ty,q1⟩=>?_);obtain⟨h1,h2⟩:=Bw I1 r1 ty;refine⟨T,id,pa,slot,hty,h1,h2,?_⟩;have hA:=ha cpos kb s1 σ H1 _ I1 q1;rw[hs]at hA ⊢;refine Calls.callWith_builtin (by show(false||(backTo cpos (starEach es X.env)).any (·.1))=false;rw[hplain]<;>rfl) (Calls.evalArgs_plain ?_);exact cJ hA fun us s2 ⟨vs,H2,I2,r2,q2⟩=>hm kb s2 σ H2 x vs v us Q I2 r1 r2 q2
end
def RW(X:Cx)(id:String)(r:V->List V->Hp->VK->Prop):Prop :=
 ∀(kb:List (Addr×Obj)) (s:Shared) (σ:St) (H:Hp) (x:V) (xs:List V) (v:Value) (us:List Value) (Q:VK),Inv X kb σ H s->RelV x v->Vals xs us->r x xs H Q->
  wpAny (model X.prog X.w) X.A (call (.builtin id) (v::us)) (EP X kb σ Q) X.xe s
theorem Vals.one:∀{x:V} {us:List Value},Vals [x] us->∃u,us=[u]/\RelV x u
 | _,_,.cons r .nil=>⟨_,rfl,r⟩
theorem Vals.zero:∀{us:List Value},Vals [] us->us=[]
 | _,.nil=>rfl
theorem Vals.dropLast{xs:List V}{us:List Value}(h:Vals xs us):Vals xs.dropLast us.dropLast:=by
 induction h with
 | nil=>exact .nil
 | cons r t ih=>
  cases t with
  | nil=>exact .nil
  | cons q t'=>exact .cons r ih
theorem wt{α:Type}(l:List α):l.eraseIdx (l.length-1)=l.dropLast:=by
 induction l with
 | nil=>rfl
 | cons a r ih=>
  cases r with
  | nil=>rfl
  | cons b r=>
   have e:(a::b::r).length-1=((b::r).length-1)+1:=by have h1:(a::b::r).length=r.length+2:=rfl;have h2:(b::r).length=r.length+1:=rfl;omega
   rw[e,List.eraseIdx_cons_succ,ih]
   all_goals rfl
section
variable {X:Cx}{kb:List (Addr×Obj)}{σ:St}{H:Hp}{s:Shared}{l b:Addr}{xs ys zs:List V}
theorem Inv.Jq{its its':List Value}{n:Nat}{f:Array Value->Array Value}{t':Nat}(I:Inv X kb σ H s)(hH:H l=some (.lst xs))
  (e:s.heap.get? l=some {cls:=.type "list",data:=.seq its.toArray n}) (hf:f its.toArray=its'.toArray) (hv:Vals ys its') (hz:ys.length<=ee):
  Inv X kb σ (upd H l (.lst ys)) {s with heap:=s.heap.update l (Obj.mapSeq f),toks:=t'}:=by
 have q:=PySem.IsL.update e f;rw[hf]at q;refine I.write (x:=l) (e:=l) (by rw[hH];exact trivial) (.inl rfl) (fun b' u hb hu=>(Heap.get?_update_other s.heap (Obj.mapSeq f) (Ne.symm hb)).trans hu) ⟨_,q⟩ ?_;exact⟨hz,its',_,hv,q⟩
theorem Inv.Af{its:List Value}{t':Nat}(I:Inv X kb σ H s)(hv:Vals ys its)(hz:ys.length<=ee):
  Inv X kb σ (upd H s.heap.objs.size (.lst ys)) {s with heap:=s.heap.push {cls:=.type "list",data:=.seq its.toArray},toks:=t'}:=
 I.laid (fun _ _ q=>fg _ q) (jp _) ⟨hz,its,0,hv,fk _ rfl⟩
theorem Inv.fresh(I:Inv X kb σ H s):H s.heap.objs.size=none:=I.hok.fresh (jp _)
theorem Inv.Ag(I:Inv X kb σ H s)(hH:H l=some (.lst xs)):xs.length<=ee/\∃(its:List Value) (n:Nat),Vals xs its/\xs.length=its.length/\s.heap.get? l=some {cls:=.type "list",data:=.seq its.toArray n}:=by obtain⟨z,its,n,r,e⟩:=I.hok l _ hH;exact⟨z,its,n,r,r.length,e⟩
theorem Bx{n:Nat}(h:n<=ee):Builtin.List.listTooLong n=false:=by unfold Builtin.List.listTooLong;exact decide_eq_false (by omega)
inductive Eg(x:V)(vs:List V)(H:Hp)(Q:VK):Prop
 | mk (l xs y) (_:x=.ref l) (_:vs=[y]) (_:H l=some (.lst xs)) (_:xs.length<ee) (_:Q .non (upd H l (.lst (xs++ [y]))))
theorem bV:RW X "list.append" Eg:=by intro kb s σ H x vs v us Q I rx rv h;obtain⟨l,xs,y,rfl,rfl,hH,hz,q⟩:=h;cases rx;obtain⟨u,rfl,ru⟩:=rv.one;obtain⟨z,its,n,r,hl,e⟩:=I.Ag hH;refine call_meets fw ⟨_,e,rfl⟩ F.entry_list_append (F.args_list_append_2 _ _) (PySem.list_append l its.toArray n u (by rw[al];omega)) ⟨e,?_⟩;refine⟨.non,_,I.Jq (its':=its++ [u]) hH e (by simp) (r.append (.cons ru .nil)) ?_,rfl,q⟩;rw[am,List.length_singleton];omega
inductive Eh(x:V)(vs:List V)(H:Hp)(Q:VK):Prop
 | mk (l b:Addr)(xs zs:List V) (_:x=.ref l) (_:vs=[.ref b]) (_:H l=some (.lst xs)) (_:H b=some (.lst zs)) (_:xs.length+zs.length<=ee) (_:Q .non (upd H l (.lst (xs++zs))))
theorem Ah:RW X "list.extend" Eh:=by
 intro kb s σ H x vs v us Q I rx rv h;obtain⟨l,b,xs,zs,rfl,rfl,hH,hB,hz,q⟩:=h;cases rx;obtain⟨u,rfl,ru⟩:=rv.one;cases ru;obtain⟨z,its,n,r,hl,e⟩:=I.Ag hH;obtain⟨z2,its2,n2,r2,hl2,e2⟩:=I.Ag hB;have hsz:its.toArray.size+its2.toArray.size<=ee:=by rw[al,al];omega
 have MG:¬(!its.toArray.isEmpty&&Builtin.List.listTooLong (its.toArray.size+its2.toArray.size))=true:=by rw[Bx hsz,Bool.and_false];exact kt
 refine call_meets F.slot_list_extend ⟨_,e,rfl⟩ F.entry_list_extend (F.args_list_extend_2 _ _)
  (AutoSeq1.list_extend_list_list_0 l its.toArray n b its2.toArray n2 MG (by rw[al];omega) (by omega)) ⟨e,e2,?_⟩
 refine⟨.non,_,I.Jq (its':=its++its2) hH e (by simp) (r.append r2) ?_,rfl,q⟩;rw[am];omega
inductive RX(x:V)(vs:List V)(H:Hp)(Q:VK):Prop
 | mk (l xs y) (_:x=.ref l) (_:vs=[]) (_:H l=some (.lst xs)) (_:xs[xs.length-1]? =some y) (_:Q y (upd H l (.lst xs.dropLast)))
theorem Jr:RW X "list.pop" RX:=by
 intro kb s σ H x vs v us Q I rx rv h;obtain⟨l,xs,y,rfl,rfl,hH,hy,q⟩:=h;cases rx;have hus:=rv.zero;subst hus;obtain⟨z,its,n,r,hl,e⟩:=I.Ag hH;obtain⟨u,hu,ru⟩:=r.get hy;have hy':its.toArray[its.toArray.size-1]? =some u:=by show its.toArray[its.length-1]? =some u;rw[<-Array.getElem?_toList,<-hl];exact hu
 refine call_meets F.slot_list_pop ⟨_,e,rfl⟩ F.entry_list_pop (F.args_list_pop_1 _) (MeetsSeq.list_pop_last l its.toArray n u hy' (by rw[al];omega)) ⟨e,?_⟩;refine⟨y,_,I.Jq (its':=its.dropLast) hH e ?_ r.dropLast ?_,ru,q⟩
 ·show its.toArray.eraseIdxIfInBounds (its.toArray.size-1)=its.dropLast.toArray;rw[al,List.eraseIdxIfInBounds_toArray,wt]
 ·rw[List.length_dropLast];omega
inductive RY(x:V)(y:V)(H:Hp)(Q:VK):Prop
 | mk (l b:Addr)(xs zs:List V) (_:x=.ref l) (_:y=.ref b) (_:H l=some (.lst xs)) (_:H b=some (.lst zs)) (_:xs.length+zs.length<=ee) (_:∀p,H p=none->Q (.ref p) (upd H p (.lst (xs++zs))))
theorem iI:jP X (binaryOp .Add) RY:=by
 intro kb s σ H x y v u Q I rx ry h;obtain⟨l,b,xs,zs,rfl,rfl,hH,hB,hz,q⟩:=h;cases rx;cases ry;obtain⟨z,its,n,r,hl,e⟩:=I.Ag hH;obtain⟨z2,its2,n2,r2,hl2,e2⟩:=I.Ag hB;refine PySem.P.add_list e e2 ?_ (by rw[al,al];omega);have ea:its.toArray++its2.toArray=(its++its2).toArray:=by simp
 rw[ea];exact⟨.ref _,_,I.Af (t':=s.toks) (r.append r2) (by rw[am];omega),rfl,q _ I.fresh⟩
variable {prog:Program}{w:World}{A:Around}{E:Value->Shared->Prop}
set_option maxRecDepth 100000 in
end
section
variable {κ:Type}[DecidableEq κ]
def eA(kvs:List (κ×V))(k:κ):Option V:=(kvs.find? fun kv=>decide (kv.1=k)).map (·.2)
def putK(kvs:List (κ×V))(k:κ)(v:V):List (κ×V):=
 if (kvs.any fun kv=>decide (kv.1=k))=true then kvs.map (fun kv=>if kv.1=k then (kv.1,v)else kv)else kvs++ [(k,v)]
theorem dv{p:κ×V}{r:List (κ×V)}{k:κ}(e:p.1=k):eA (p::r) k=some p.2:=by simp[eA,List.find?_cons,e]
theorem dw{p:κ×V}{r:List (κ×V)}{k:κ}(e:¬p.1=k):eA (p::r) k=eA r k:=by simp[eA,List.find?_cons,e]
theorem jb(k:κ):∀kvs:List (κ×V),(kvs.any fun kv=>decide (kv.1=k))=(eA kvs k).isSome
 | []=>rfl
 | p::r=>by
  rw[List.any_cons];by_cases e:p.1=k
  ·simp only[dv e,decide_eq_true e,Bool.true_or,Option.isSome_some]
  ·rw[dw e,decide_eq_false e,Bool.false_or];exact jb k r
theorem uV(k j:κ)(y:V):∀kvs:List (κ×V),eA (kvs.map fun kv=>if kv.1=k then (kv.1,y)else kv) j=(eA kvs j).map fun x=>if j=k then y else x
 | []=>rfl
 | p::r=>by
  have ih:=uV k j y r;rw[ca];by_cases h:p.1=k
  ·rw[if_pos h];by_cases e:p.1=j
   ·rw[dv (p:=(p.1,y)) e,dv e,Option.map_some,if_pos (e.symm.trans h)]
   ·rw[dw (p:=(p.1,y)) e,dw e,ih]
  ·rw[if_neg h];by_cases e:p.1=j
   ·rw[dv (p:=p) e,dv e,Option.map_some,if_neg (fun z=>h (e.trans z))]
   ·rw[dw (p:=p) e,dw e,ih]
theorem qY(k j:κ)(y:V):∀kvs:List (κ×V),eA kvs k=none->eA (kvs++ [(k,y)]) j=if j=k then some y else eA kvs j
 | [],_=>by
  by_cases e:k=j
  ·rw[if_pos e.symm];exact dv (p:=(k,y)) e
  ·rw[if_neg (fun z=>e z.symm)];exact dw (p:=(k,y)) e
 | p::r,hn=>by
  rw[List.cons_append];have hk:¬p.1=k:=fun z=>by rw[dv z]at hn;cases hn
  rw[dw hk]at hn;have ih:=qY k j y r hn;by_cases e:p.1=j
  ·rw[dv e,dv e,if_neg (fun z=>hk (e.trans z))]
  ·rw[dw e,dw e,ih]
theorem By(kvs:List (κ×V))(k j:κ)(y:V):eA (putK kvs k y) j=if j=k then some y else eA kvs j:=by
 unfold putK;by_cases a:(kvs.any fun kv=>decide (kv.1=k))=true
 ·rw[if_pos a,uV];rw[jb]at a;by_cases e:j=k
  ·obtain⟨x,hx⟩:=Option.isSome_iff_exists.mp a;rw[if_pos e,e,hx,Option.map_some,if_pos rfl]
  ·rw[if_neg e];cases eA kvs j with
   | none=>rfl
   | some x=>rw[Option.map_some,if_neg e]
 ·rw[if_neg a];refine qY k j y kvs ?_;rw[jb]at a;cases q:eA kvs k with
  | none=>rfl
  | some x=>rw[q]at a;exact(a rfl).elim
theorem jc(kvs:List (κ×V))(k:κ)(v:V):(putK kvs k v).length<=kvs.length+1:=by
 unfold putK;split
 ·rw[List.length_map];omega
 ·rw[am,bv,List.length_nil];omega
theorem Bz{kvs:List (κ×V)}{k:κ}(v:V)(h:eA kvs k=none):putK kvs k v=kvs++ [(k,v)]:=by unfold putK;rw[jb,h];exact if_neg (by decide)
theorem jH.eF{o:Option V}{u:Option Value}(r:jH o u):o.isSome=u.isSome:=by
 cases o with
 | none=>cases u with
  | none=>rfl
  | some _=>exact(show False from r).elim
 | some _=>cases u with
  | none=>exact(show False from r).elim
  | some _=>rfl
theorem jH.getD{o:Option V}{u:Option Value}{d:V}{d':Value}(r:jH o u)(rd:RelV d d'):RelV (o.getD d) (u.getD d'):=by
 cases o with
 | none=>cases u with
  | none=>exact rd
  | some _=>exact(show False from r).elim
 | some _=>cases u with
  | none=>exact(show False from r).elim
  | some _=>exact r
theorem KV.val{kvs:List (κ×V)}{vs:List (κ×Value)}(r:KV kvs vs)(k:κ):jH (eA kvs k) (valueAt vs k):=by
 unfold KV at r
 induction r with
 | nil=>exact True.intro
 | @cons p q ps qs h t ih=>
  obtain⟨h1,h2⟩:=h;by_cases e:p.1=k
  ·have e':q.1=k:=h1.symm.trans e;have b:valueAt (q::qs) k=some q.2:=by simp[valueAt,List.find?_cons,e']
   rw[dv e,b];exact h2
  ·have e':¬q.1=k:=fun z=>e (h1.trans z);have b:valueAt (q::qs) k=valueAt qs k:=by simp[valueAt,List.find?_cons,e']
   rw[dw e,b];exact ih
theorem KV.any{kvs:List (κ×V)}{vs:List (κ×Value)}(r:KV kvs vs)(k:κ):(kvs.any fun kv=>decide (kv.1=k))=vs.any fun kv=>decide (kv.1=k):=by
 unfold KV at r
 induction r with
 | nil=>rfl
 | cons h t ih=>rw[List.any_cons,List.any_cons,ih,h.1]
theorem KV.repl{kvs:List (κ×V)}{vs:List (κ×Value)}(r:KV kvs vs)(k:κ){y:V}{u:Value}(ry:RelV y u):
  KV (kvs.map fun kv=>if kv.1=k then (kv.1,y)else kv) (vs.map fun kv=>if kv.1=k then (kv.1,u)else kv):=by
 unfold KV at r ⊢
 induction r with
 | nil=>exact .nil
 | @cons p q ps qs h t ih=>
  rw[ca,ca];refine .cons ?_ ih;obtain⟨h1,h2⟩:=h;by_cases e:p.1=k
  ·rw[if_pos e,if_pos (h1.symm.trans e)];exact⟨h1,ry⟩
  ·rw[if_neg e,if_neg (fun z=>e (h1.trans z))];exact⟨h1,h2⟩
theorem KV.put{kvs:List (κ×V)}{vs:List (κ×Value)}(r:KV kvs vs)(k:κ){y:V}{u:Value}(ry:RelV y u):KV (putK kvs k y) (stored vs k u):=by
 unfold putK stored;rw[r.any k];by_cases e:(vs.any fun kv=>decide (kv.1=k))=true
 ·rw[if_pos e,if_pos e];exact r.repl k ry
 ·rw[if_neg e,if_neg e];exact Paired.snoc r ⟨rfl,ry⟩
theorem KV.length{kvs:List (κ×V)}{vs:List (κ×Value)}(r:KV kvs vs):kvs.length=vs.length:=Paired.length r
end
theorem qZ{P:Program}{w:World}{k:Key}{u:Value}(r:RelV (kV k) u):(cW P w).is k u=true:=by
 cases k with
 | inl i=>obtain⟨t,e⟩:=(show ∃t,u=Value.int i t from r);subst e;exact uH P w i t
 | inr x=>obtain⟨t,e⟩:=(show ∃t,u=Value.str x t from r);subst e;exact uI P w x t
theorem q0{P:Program}{w:World}:∀{ks:List Key} {us:List Value},Vals (ks.map kV) us->ItemsAre (cW P w) ks us
 | [],_,r=>by rw[List.map_nil]at r;cases r;exact .nil
 | k::ks,_,r=>by
  rw[ca]at r;cases r with
  | cons h t=>exact .cons (qZ h) (q0 t)
abbrev KT(H:Hp):List (List Key×V)->List (List Key×Addr×Value)->Prop:=Paired fun p q=>p.1=q.1/\H q.2.1=some (.tup (p.1.map kV))/\RelV p.2 q.2.2
theorem KT.val{H:Hp}{kvs:List (List Key×V)}{xs:List (List Key×Addr×Value)}(r:KT H kvs xs)(k:List Key):jH (eA kvs k) ((atKey xs k).map (·.2)):=by
 induction r with
 | nil=>exact True.intro
 | @cons p q ps qs h t ih=>
  obtain⟨h1,_,h2⟩:=h;by_cases e:p.1=k
  ·have e':q.1=k:=h1.symm.trans e;have b:atKey (q::qs) k=some q.2:=by simp[atKey,List.find?_cons,e']
   rw[dv e,b];exact h2
  ·have e':¬q.1=k:=fun z=>e (h1.trans z);have b:atKey (q::qs) k=atKey qs k:=by simp[atKey,List.find?_cons,e']
   rw[dw e,b];exact ih
theorem KT.repl{H:Hp}{kvs:List (List Key×V)}{xs:List (List Key×Addr×Value)}(r:KT H kvs xs)(k:List Key){y:V}{u:Value}(ry:RelV y u):
  KT H (kvs.map fun kv=>if kv.1=k then (kv.1,y)else kv) (xs.map (putAt k u)):=by
 induction r with
 | nil=>exact .nil
 | @cons p q ps qs h t ih=>
  rw[ca,ca];refine .cons ?_ ih;obtain⟨h1,h2,h3⟩:=h;unfold putAt;by_cases e:p.1=k
  ·rw[if_pos e,if_pos (h1.symm.trans e)];exact⟨h1,h2,ry⟩
  ·rw[if_neg e,if_neg (fun z=>e (h1.trans z))];exact⟨h1,h2,h3⟩
theorem KT.put{H:Hp}{kvs:List (List Key×V)}{xs:List (List Key×Addr×Value)}(r:KT H kvs xs)(k:List Key){b:Addr}{y:V}{u:Value}(hb:H b=some (.tup (k.map kV)))(ry:RelV y u):
  KT H (putK kvs k y) (storedH xs k b u):=by
 have e:(kvs.any fun kv=>decide (kv.1=k))=(atKey xs k).isSome:=by rw[jb,(r.val k).eF,Option.isSome_map]
 unfold putK storedH;rw[e];by_cases q:(atKey xs k).isSome=true
 ·rw[if_pos q,if_pos q];exact r.repl k ry
 ·rw[if_neg q,if_neg q];exact Paired.snoc r ⟨rfl,hb,ry⟩
theorem KT.keeps{H H':Hp}{kvs:List (List Key×V)}{xs:List (List Key×Addr×Value)}(r:KT H kvs xs)(ht:∀b ys,H b=some (.tup ys)->H' b=some (.tup ys)):KT H' kvs xs :=
 Paired.IU r fun _ _ z=>⟨z.1,ht _ _ z.2.1,z.2.2⟩
section
variable {P:Program}{w:World}{H:Hp}{h:Heap}{a:Addr}
theorem Hk{u:HO}(ok:i7 P w H h)(e:Rd H a u):cM P w H h a u:=e.ok ok
theorem oO{kvs:List (Key×V)}(ok:i7 P w H h)(e:Rd H a (.dK kvs)):kvs.length<=ee/\(a==sysModules)=false/\∃vs,KV kvs vs/\h.DictOf (cW P w) a vs :=
 show cM P w H h a (.dK kvs)from Hk ok e
theorem MH{kvs:List (Key×V)}(ok:i7 P w H h)(e:H a=some (.dK kvs)):kvs.length<=ee/\(a==sysModules)=false/\∃vs,KV kvs vs/\h.DictOf (cW P w) a vs:=oO ok (.inl e)
theorem lT{ks:List Key}(ok:i7 P w H h)(e:H a=some (.tup (ks.map kV))):(tupleKind (cW P w)).is h ks a:=by obtain⟨_,its,r,o,h1,h2,n,h3⟩:=(show cM P w H h a (.tup (ks.map kV))from ok a _ e);exact⟨o,its.toArray,n,h1,h2,h3,by simpa using q0 r⟩
theorem oQ{kvs:List (List Key×V)}(ok:i7 P w H h)(e:Rd H a (.dT kvs)):kvs.length<=ee/\(a==sysModules)=false/\
  ∃xs,KT H kvs xs/\h.DictOfH (tupleKind (cW P w)) a xs:=by
 obtain⟨z,y,xs,r,o,es,ep,h1,h2,h3,h4,h5⟩:=(show cM P w H h a (.dT kvs)from Hk ok e);refine⟨z,y,xs,r,o,es,ep,h1,h2,h3,h4,fun x hx=>?_,h5⟩;have all:∀{l:List (List Key×V)} {m:List (List Key×Addr×Value)},KT H l m->∀x∈m,(tupleKind (cW P w)).is h x.1 x.2.1:=by
  intro l m q
  induction q with
  | nil=>intro x hx;exact nomatch hx
  | @cons p q ps qs hq t ih=>
   intro x hx;rcases List.mem_cons.mp hx with e | hx
   ·subst e;exact lT ok (by rw[<-hq.1];exact hq.2.1)
   ·exact ih x hx
 exact all r x hx
theorem MI{kvs:List (List Key×V)}(ok:i7 P w H h)(e:H a=some (.dT kvs)):kvs.length<=ee/\(a==sysModules)=false/\
  ∃xs,KT H kvs xs/\h.DictOfH (tupleKind (cW P w)) a xs:=oQ ok (.inl e)
def j0(H:Hp)(a:Addr)(y:V)(r:Option V):Prop :=
 (∃kvs k,Rd H a (.dK kvs)/\y=kV k/\r=eA kvs k)\/∃kvs k b,Rd H a (.dT kvs)/\y=.ref b/\H b=some (.tup (k.map kV))/\r=eA kvs k
def uW(H:Hp)(a:Addr)(y v:V)(H':Hp):Prop :=
 (∃kvs k,H a=some (.dK kvs)/\y=kV k/\kvs.length<ee/\H'=upd H a (.dK (putK kvs k v)))\/
 ∃kvs k b,H a=some (.dT kvs)/\y=.ref b/\H b=some (.tup (k.map kV))/\kvs.length<ee/\H'=upd H a (.dT (putK kvs k v))
theorem j0.k{H:Hp}{a:Addr}{kvs:List (Key×V)}{k:Key}(e:H a=some (.dK kvs)):j0 H a (kV k) (eA kvs k):=.inl ⟨kvs,k,.inl e,rfl,rfl⟩
theorem uW.k{H:Hp}{a:Addr}{kvs:List (Key×V)}{k:Key}{v:V}(e:H a=some (.dK kvs))(hl:kvs.length<ee):uW H a (kV k) v (upd H a (.dK (putK kvs k v))):=.inl ⟨kvs,k,e,rfl,hl,rfl⟩
variable {X:Cx}{kb:List (Addr×Obj)}{σ:St}{s:Shared}{y v:V}{u r:Value}{o:Option V}{A:Around}{E:Value->Shared->Prop}
theorem Inv.big(I:Inv X kb σ H s):sysModules<s.heap.objs.size:=by have h:dL<s.heap.objs.size:=(I.mod.glob.keeps I.bk).lt;exact Nat.lt_trans (by decide) h
theorem Ai{Q:Value->Shared->Prop}(hu:A.units+1<cLine)(I:Inv X kb σ H s)(g:j0 H a y (some v))(ry:RelV y u)(h:∀w' s',Inv X kb σ H s'->RelV v w'->Q w' s'):
  wpAny (model X.prog X.w) A (getItem (.ref a) u) Q E s:=by
 rcases g with ⟨kvs,k,e,ey,l⟩ | ⟨kvs,k,b,e,ey,eb,l⟩
 ·subst ey;obtain⟨z,hd,vs,rel,dd⟩:=oO I.hok e;obtain⟨w',hw,Ae⟩:=jH.some_of (v:=v) (o:=valueAt vs k) (by rw[l];exact rel.val k);exact wpAny_getItem_of (qZ ry) dd.mapOf hw (h w' _ (I.tok _) Ae)
 ·subst ey;cases (show u=Value.ref b from ry);obtain⟨z,hd,xs,rel,dd⟩:=oQ I.hok e;obtain⟨w',hw,Ae⟩:=jH.some_of (v:=v) (o:=(atKey xs k).map (·.2)) (by rw[l];exact rel.val k);obtain⟨p,hp,hp2⟩:=Option.map_eq_some_iff.mp hw;refine wpAny_getItem_heap (tupleKind_room_in1 hu) (lT I.hok eb) dd hp ?_;rw[hp2];exact h w' _ (I.tok _) Ae
theorem RZ{Q:Value->Shared->Prop}(hu:A.units+1<cLine)(I:Inv X kb σ H s)(g:j0 H a y o)(ry:RelV y u)(h:∀s',Inv X kb σ H s'->Q (.bool o.isSome) s'):
  wpAny (model X.prog X.w) A (compareOp .In u (.ref a)) Q E s:=by
 rcases g with ⟨kvs,k,e,ey,l⟩ | ⟨kvs,k,b,e,ey,eb,l⟩
 ·subst ey;obtain⟨z,hd,vs,rel,dd⟩:=oO I.hok e;refine wpAny_in_of (qZ ry) hd dd.mapOf ?_;rw[<-(rel.val k).eF,<-l];exact h _ (I.tok _)
 ·subst ey;cases (show u=Value.ref b from ry);obtain⟨z,hd,xs,rel,dd⟩:=oQ I.hok e;refine wpAny_in_heap (tupleKind_room_in1 hu) (lT I.hok eb) hd dd ?_;have q:=(rel.val k).eF;rw[Option.isSome_map]at q;rw[<-q,<-l];exact h _ (I.tok _)
theorem Ei{Q:Value->Shared->Prop}(hu:A.units+1<cLine)(I:Inv X kb σ H s)(g:j0 H a y o)(ry:RelV y u)(h:∀s',Inv X kb σ H s'->Q (.bool (!o.isSome)) s'):
  wpAny (model X.prog X.w) A (compareOp .NotIn u (.ref a)) Q E s:=by
 rcases g with ⟨kvs,k,e,ey,l⟩ | ⟨kvs,k,b,e,ey,eb,l⟩
 ·subst ey;obtain⟨z,hd,vs,rel,dd⟩:=oO I.hok e;refine wpAny_notIn_of (qZ ry) hd dd.mapOf ?_;rw[<-(rel.val k).eF,<-l];exact h _ (I.tok _)
 ·subst ey;cases (show u=Value.ref b from ry);obtain⟨z,hd,xs,rel,dd⟩:=oQ I.hok e;refine wpAny_notIn_heap (tupleKind_room_in1 hu) (lT I.hok eb) hd dd ?_;have q:=(rel.val k).eF;rw[Option.isSome_map]at q;rw[<-q,<-l];exact h _ (I.tok _)
theorem yt{h':Heap}{t':Nat}{ob:HO}(I:Inv X kb σ H s)(mu:L1 (H a))(hs:Heap.SameBut a s.heap h')(he:∃q,h'.get? a=some q)(new:cM X.prog X.w (upd H a ob) h' a ob):
  Inv X kb σ (upd H a ob) {s with heap:=h',toks:=t'}:=
 I.write (x:=a) (e:=a) mu (.inl rfl) (fun b q hb z=>(hs.2 b hb).trans z) he new
theorem Js{P:Program}{w:World}{H':Hp}{h':Heap}{kvs:List (Key×V)}{vs:List (Key×Value)}(z:kvs.length<=ee)(hd:(a==sysModules)=false)(rel:KV kvs vs)(dd:h'.DictOf (cW P w) a vs):
  cM P w H' h' a (.dK kvs):=⟨z,hd,vs,rel,dd⟩
theorem Aj{H':Hp}{Q:Unit->Shared->Prop}(hu:A.units+1<cLine)(I:Inv X kb σ H s)(g:uW H a y v H')(ry:RelV y u)(rv:RelV v r)(h:∀s',Inv X kb σ H' s'->Q () s'):
  wpAny (model X.prog X.w) A (setItem (.ref a) u r) Q E s:=by
 rcases g with ⟨kvs,k,e,ey,l,eH⟩ | ⟨kvs,k,b,e,ey,eb,l,eH⟩
 ·subst ey eH;obtain⟨z,hd,vs,rel,dd⟩:=MH I.hok e;have hz:vs.length<=ee:=by rw[<-rel.length];exact z
  have hl:(putK kvs k v).length<=ee:=by have:=jc kvs k v;omega
  refine wpAny_setItem_pairs (hsz:=hz) (qZ ry) dd fun h' MJ hs=>h _ ?_;have he:∃q,h'.get? a=some q:=let ⟨q,_,_,hq,_⟩:=MJ;⟨q,hq⟩;exact yt I (by rw[e];exact True.intro) hs he (Js hl hd (rel.put k rv) MJ)
 ·subst ey eH;cases (show u=Value.ref b from ry);obtain⟨z,hd,xs,rel,dd⟩:=MI I.hok e;have hz:xs.length<=ee:=by rw[<-Paired.length rel];exact z
  have hl:(putK kvs k v).length<=ee:=by have:=jc kvs k v;omega
  refine wpAny_setItem_heap (hsz:=hz) (tupleKind_room_in1 hu) (lT I.hok eb) dd fun h' MJ hs=>h _ ?_;obtain⟨q,es,ep,hq,h2,h3,h4,_,h5⟩:=MJ;refine yt I (by rw[e];exact True.intro) hs ⟨q,hq⟩ ⟨hl,hd,_,(rel.put k eb rv).keeps fun c ys ec=>?_,q,es,ep,hq,h2,h3,h4,h5⟩;rw[aG (Ha ec e (fun z=>nomatch z))];exact ec
variable {kvs:List (Key×V)}{k:Key}
end
def Jt(i:Expr):Prop:=∀ov iv,subscripted i false ov iv=operate [ov,iv] (getItem ov iv)
theorem yu{prog:Program}{w:World}{A:Around}{E:Value->Shared->Prop}{s:Shared}{env:Env}{value slice:Expr}{pos:Pos}{T id:String}{Q:Value->Shared->Prop}
  (hl:typeLookup (.type T) "__getitem__"=pure (some (.builtin id))) (hs:Jt slice)
  (h:wpAny (model prog w) A (eval value env) (fun o s₁=>wpAny (model prog w) A (eval slice env) (fun i s₂=>s₂.TypeIs o T/\wpAny (model prog w) A (getItem o i) Q E s₂) E s₁) E s):
  wpAny (model prog w) A (eval (.Subscript value slice pos) env) Q E s:=by
 refine Subscript_ (eg h (fun o s₁ h₁=>eg h₁ (fun i s₂ h₂=>?_) fun _ _ x=>x) fun _ _ x=>x);obtain⟨hT,h₂⟩:=h₂;unfold subscriptTail;refine c8 ?_;rw[getitemInPython_of_ne hT.not_modules];refine c8 (wpAny_specialOf hT hl ?_);have fin:wpAny (model prog w) A (subscripted slice false o i) (fun r s₃=>wpAny (model prog w) A (letTemporaryGo value o r>>=fun _=>pure r) Q E s₃) E s₂:=by rw[hs o i];exact wpAny_operating (eg h₂ (fun r s₃ h₃=>c8 (wpAny_letTemporaryGo (db h₃))) fun _ _ x=>x)
 first
  | exact db (c8 fin)
  | exact c8 (db (c8 fin))
  | exact c8 fin
theorem uX{X:Cx}{kb:List (Addr×Obj)}{σ:St}{H:Hp}{s:Shared}{a:Addr}{y:V}{o:Option V}(I:Inv X kb σ H s)(g:j0 H a y o):s.TypeIs (.ref a) "dict":=by
 rcases g with ⟨kvs,k,e,_,_⟩ | ⟨kvs,k,b,e,_,_,_⟩
 ·obtain⟨_,_,vs,_,dd⟩:=oO I.hok e;exact dd.typeIs
 ·obtain⟨_,_,xs,_,dd⟩:=oQ I.hok e;exact dd.typeIs
inductive MK(x:V)(Q:VK)(y:V)(H:Hp):Prop
 | mk (a v) (_:x=.ref a) (_:j0 H a y (some v)) (_:Q v H)
def ML(td ty:TE):TE:=fun σ H Q=>td σ H fun x H1=>ty σ H1 (MK x Q)
inductive R0(y:V)(Q:VK)(x:V)(H:Hp):Prop
 | mk (a o) (_:x=.ref a) (_:j0 H a y o) (_:Q (.bl o.isSome) H)
def R1(ty td:TE):TE:=fun σ H Q=>ty σ H fun y H1=>td σ H1 (R0 y Q)
inductive Ej(y:V)(Q:VK)(x:V)(H:Hp):Prop
 | mk (a o) (_:x=.ref a) (_:j0 H a y o) (_:Q (.bl (!o.isSome)) H)
def Ek(ty td:TE):TE:=fun σ H Q=>ty σ H fun y H1=>td σ H1 (Ej y Q)
def MN(td ty tv:TE):TS:=fun D σ H=>tv σ H fun v H1=>td σ H1 fun x H2=>ty σ H2 fun y H3=>∃a H4,x=.ref a/\uW H3 a y v H4/\D.nx σ H4
section
variable {X:Cx}{o i e value:Expr}{pos pos' tpos:Pos}{td ty tv:TE}
theorem nV(hu:X.A.units+1<cLine)(ho:PE X o td)(hi:PE X i ty)(hs:Jt i):PE X (.Subscript o i pos) (ML td ty):=by intro kb s σ H Q I h;refine yu PySem.F.slot_dict_getitem.lookup hs (cJ (ho kb s σ H _ I h) fun u s1 ⟨x,H1,I1,rx,q1⟩=>cJ (hi kb s1 σ H1 _ I1 q1) fun iv s2 ⟨y,H2,I2,ry,a,v,ex,g,q2⟩=>?_);subst ex;obtain rfl:u=Value.ref a:=rx;exact⟨uX I2 g,Ai hu I2 g ry fun w' s3 I3 Ae=>⟨v,H2,I3,Ae,q2⟩⟩
theorem BA(hu:X.A.units+1<cLine)(hi:PE X i ty)(ho:PE X o td):PC X .In i o (R1 ty td):=by intro kb s σ H Q I h;refine cJ (hi kb s σ H _ I h) fun iv s1 ⟨y,H1,I1,ry,q1⟩=>cJ (ho kb s1 σ H1 _ I1 q1) fun u s2 ⟨x,H2,I2,rx,a,ov,ex,g,q2⟩=>?_;subst ex;obtain rfl:u=Value.ref a:=rx;exact RZ hu I2 g ry fun s3 I3=>⟨.bl ov.isSome,H2,I3,rfl,q2⟩
theorem Ak(hu:X.A.units+1<cLine)(hi:PE X i ty)(ho:PE X o td):PC X .NotIn i o (Ek ty td):=by intro kb s σ H Q I h;refine cJ (hi kb s σ H _ I h) fun iv s1 ⟨y,H1,I1,ry,q1⟩=>cJ (ho kb s1 σ H1 _ I1 q1) fun u s2 ⟨x,H2,I2,rx,a,ov,ex,g,q2⟩=>?_;subst ex;obtain rfl:u=Value.ref a:=rx;exact Ei hu I2 g ry fun s3 I3=>⟨.bl (!ov.isSome),H2,I3,rfl,q2⟩
theorem kr(hu:X.A.units+1<cLine)(ho:PE X o td)(hi:PE X i ty)(hv:PE X value tv)(hs:swapsWith value (some (.Subscript o i pos')) pos.line X.env=pure false):
  PS X (.Assign [.Subscript o i pos'] value pos) (MN td ty tv):=by
 intro kb s σ H D I h;refine wpAny_Assign_Subscript (cJ (hv kb s σ H _ I h) fun r s1 ⟨v,H1,I1,rv,q1⟩=>cJ (ho kb s1 σ H1 _ I1 q1) fun u s2 ⟨x,H2,I2,rx,q2⟩=>cJ (hi kb s2 σ H2 _ I2 q2) fun iv s3 ⟨y,H3,I3,ry,a,H4,ex,g,q3⟩=>?_) hs;subst ex;obtain rfl:u=Value.ref a:=rx;exact Aj hu I3 g ry rv fun s4 I4=>⟨σ,H4,I4,q3⟩
theorem BD{P:Program}{w:World}{H:Hp}(h:Heap)(hb:sysModules<h.objs.size):cM P w H (h.push {cls:=.type "dict",data:=.dict #[]}) h.objs.size (.dK []):=
 ⟨Nat.zero_le _,beq_eq_false_iff_ne.mpr (Ne.symm (js hb)),[],.nil,Heap.DictOf.new h⟩
def Ju:TE:=fun _ H Q=>∀p,H p=none->Q (.ref p) (upd H p (.dK []))
theorem oR:PE X (.Dict [] [] pos) Ju:=fun kb s σ H Q I h=>
 wpAny_Dict_empty ⟨.ref s.heap.objs.size,_,I.laid (a:=s.heap.objs.size) (o:=.dK []) (t':=s.toks) (fun _ _ q=>fg _ q) (jp _) (BD s.heap I.big),rfl,h _ (I.hok.fresh (jp _))⟩
end
structure M1(X:Cx)(o:Expr)(m:Str)(apos:Pos)(e:Expr)(cpos:Pos):Prop where
 base:attributeBase o m X.env (eval o X.env)=eval o X.env
 few:((backTo cpos (starEach [e] X.env)).all (fun x=>!x.1)&&(backToKw cpos (keywordEach [] X.env)).all (fun x=>x.1.isSome)
  &&decide (([e]:List Expr).length+([]:List Keyword).length+(if ([]:List Keyword).isEmpty then 0 else 1)<30))=true
 line:(apos.endLine==cpos.line)=true
 trees:backTo cpos (starEach [e] X.env)=[(false,eval e X.env)]
def Xv(H:Hp)(a:Addr):Prop:=(∃kvs,Rd H a (.dK kvs))\/∃kvs,Rd H a (.dT kvs)
theorem Jv{X:Cx}{kb:List (Addr×Obj)}{σ:St}{H:Hp}{s:Shared}{a:Addr}(I:Inv X kb σ H s)(d:Xv H a):
  s.TypeIs (.ref a) "dict"/\(∀b,Value.ref a=.ref b->∃ob,s.heap.get? b=some ob/\ob.dict=none)/\(a==sysModules)=false:=by
 rcases d with ⟨kvs,e⟩ | ⟨kvs,e⟩
 ·obtain⟨_,hd,vs,_,dd⟩:=oO I.hok e;refine⟨dd.typeIs,fun b q=>?_,hd⟩;cases q;obtain⟨ob,_,_,h1,h2,_⟩:=dd;exact⟨ob,h1,h2.2.1⟩
 ·obtain⟨_,hd,xs,_,dd⟩:=oQ I.hok e;refine⟨dd.typeIs,fun b q=>?_,hd⟩;cases q;obtain⟨ob,_,_,h1,h2,_⟩:=dd;exact⟨ob,h1,h2.2.1⟩
section
variable {X:Cx}{kb:List (Addr×Obj)}{σ:St}{H:Hp}{s:Shared}{a:Addr}{y d:V}{u r:Value}{o:Option V}{A:Around}{E:Value->Shared->Prop}
theorem Jw{Q:Value->Shared->Prop}(hu:A.units+1<cLine)(I:Inv X kb σ H s)(g:j0 H a y o)(ry:RelV y u)(h:∀w' s',Inv X kb σ H s'->RelV (o.getD .non) w'->Q w' s'):
  wpAny (model X.prog X.w) A (call (.builtin "dict.get") [.ref a,u]) Q E s:=by
 rcases g with ⟨kvs,k,e,ey,l⟩ | ⟨kvs,k,b,e,ey,eb,l⟩
 ·subst ey;obtain⟨z,hd,vs,rel,dd⟩:=oO I.hok e;refine call_meetsIn PySem.F.slot_dict_get dd.typeIs PySem.F.entry_dict_get (PySem.F.args_dict_get_2 _ _) (meets_dict_get (cW X.prog X.w) a (qZ ry) hd) ⟨_,dd.mapOf,h _ _ (I.tok _) ?_⟩;rw[l];exact(rel.val k).getD rfl
 ·subst ey;cases (show u=Value.ref b from ry);obtain⟨z,hd,xs,rel,dd⟩:=oQ I.hok e;refine call_meetsIn PySem.F.slot_dict_get dd.typeIs PySem.F.entry_dict_get (PySem.F.args_dict_get_2 _ _) (meetsH_dict_get (tupleKind (cW X.prog X.w)) a b hd) ⟨tupleKind_room_in1 hu,k,xs,lT I.hok eb,dd,h _ _ (I.tok _) ?_⟩;rw[l];exact(rel.val k).getD rfl
end
def Jy(td ty:TE):TE:=fun σ H Q=>td σ H fun x H1=>∃a,x=.ref a/\Xv H1 a/\ty σ H1 fun y H2=>∃o,j0 H2 a y o/\Q (o.getD .non) H2
section
variable {X:Cx}{o e f:Expr}{apos cpos:Pos}{td ty tx:TE}
theorem BE(hu:X.A.units+1<cLine)(ho:PE X o td)(he:PE X e ty)(m:M1 X o "get" apos e cpos):PE X (.Call (.Attribute o "get" apos) [e] [] cpos) (Jy td ty):=by intro kb s σ H Q I h;refine wpAny_Call_method m.base m.few m.line PySem.F.plainAttrs_dict PySem.F.slot_dict_get PySem.F.type_dict_get (cJ (ho kb s σ H _ I h) fun u s1 ⟨x,H1,I1,rx,a,ex,d,q1⟩=>?_);subst ex;obtain rfl:u=Value.ref a:=rx;obtain⟨t1,t2,_⟩:=Jv I1 d;refine⟨t1,t2,?_⟩;rw[m.trees];refine Calls.callWith_builtin rfl (Calls.evalArgs_plain (Calls.spliced_cons (cJ (he kb s1 σ H1 _ I1 q1) fun iv s2 ⟨y,H2,I2,ry,ov,g,q2⟩=>Calls.spliced_nil ?_)));exact Jw hu I2 g ry fun w' s3 I3 Ae=>⟨_,H2,I3,Ae,q2⟩
variable {kb:List (Addr×Obj)}{σ:St}{H:Hp}{s:Shared}{a:Addr}{kvs:List (Key×V)}{A:Around}{E:Value->Shared->Prop}
variable {y:V}{u:Value}
end
end L2
namespace Xw
open PySem PySem.W PySem.Calls PyProof.Rows
theorem nG{P:Params}{h:Heap}:∀(ns:List Int) (vs:List Value),WellAll P h vs (ns.map WData.int)->IntsAre vs ns:=by
 intro ns
 induction ns with
 | nil=>
  intro vs w;rw[List.map_nil]at w;cases w;exact .nil
 | cons n ns ih=>
  intro vs w;rw[ca]at w;cases w with
  | cons a b=>
   cases a;exact .cons _ _ (ih _ b)
theorem Al{l:OpenLaw}{n:Nat}(hn:l.most=some n){P:Params}{h:Heap}{args:List WData}{vals:List Value}
  (hpre:l.row.toRowW.claim.pre args=true) (hwl:WellAll P h vals args):
  ∃a vs ns,vals=[Value.ref a]/\args=[WData.list (ns.map WData.int)]/\h.get? a=some {cls:=.type "list",data:=.seq vs.toArray}/\IntsAre vs ns/\ns.length<=n:=by
 have hsh:WShape.hasAll [] args [.list .int]=true:=(pre_splitW hpre).1;have hc:l.pre.holds [] {args:=args}=true:=(pre_splitW hpre).2;obtain⟨d,r,rfl,h1,h2⟩:=hasAllW_cons hsh;obtain rfl:=hasAllW_nil h2;obtain⟨xs,rfl,h3⟩:=hasW_list h1;obtain⟨ns,rfl⟩:=items_int h3;have hlen:ns.length<=n:=by
  unfold OpenLaw.pre at hc;have h4:(WTm.not (.lt (.lit (.int (n:Int))) (.len (.arg 0)))).holds [] {args:=[.list (ns.map .int)]}=true:=by have h4:=(holds_andW hc).1;rw[hn]at h4;exact h4
  have h5:=condW_of h4 (w_not (w_lt w_lit (w_len_list (w_arg rfl))));rw[List.length_map]at h5;refine Nat.le_of_not_lt fun q=>?_;have q':(n:Int)< ((ns.length:Nat):Int):=by omega
  first
   | (rw[decide_eq_true q']at h5;exact absurd h5 (by decide))
   | (simp at h5;omega)
 cases hwl with
 | cons w1 w2=>
  cases w2;cases w1 with
  | list ho hall=>exact⟨_,_,ns,rfl,rfl,ho,nG ns _ hall,hlen⟩
theorem Am(l:OpenLaw)(args:List WData):l.row.toRowW.claim.post args (.bool true) args=true :=
 postW_of (r:=l.row.toRowW) (X:=(true==true))
  (show WShape.has [] (.bool true) .bool=true by first | rfl | decide | simp[WShape.has,WShape.arms,WShape.armsAll])
  (show(WTm.eq .res (.lit (.bool true))).value [] {args:=args,res:=some (.bool true),after:=args}=some (.bool (true==true))from w_eq_bool (w_res rfl) w_lit) rfl
theorem uY{l:OpenLaw}{n:Nat}{q:Program}{loose:List Str}{XP:(Str->Option Value)->Heap->Prop}{YP:World->Heap->Prop}{d:DefRec}
  (hn:l.most=some n) (hdf:d.params.defaults=[])
  (call:∀(w:World) (s₀ s₁:Shared) (mg mb:Str->Option Value) (fa:Addr) (o:Obj) (pm cd doc:Value) (a:Addr) (vs:List Value) (ns:List Int),
   Ground q loose [] XP w s₀ mg mb s₁.heap->YP w s₁.heap->
   s₁.heap.get? fa=some o->o.data=.func (docDef d.name d.params d.body d.scope pm cd doc)->s₁.heap.CodeRec cd d.name->mg d.name=some (.ref fa)->
   s₁.heap.get? a=some {cls:=.type "list",data:=.seq vs.toArray}->IntsAre vs ns->ns.length<=n->s₁.gens=#[]->
   codeAny (model l.prog w) callerA (.call (.ref fa) ⟨[.ref a],[]⟩) (fun r s'=>r=.ok (.ret (.bool true))/\OldK s₁.heap s'.heap/\s'.os=s₁.os/\AllBare s'.gens) s₁):
  WalkO q loose XP YP l.row.toRowW d [] (fun f vs=>PySem.call f vs):=by
 intro w s₀ s₁ mg mb G Y fa o pm cd doc dV kV ho hd hcd hD hmg hg args vals as hpre hlay hrd hwl hlo;obtain rfl:dV=.none:=Dflts.none hD hdf;obtain rfl:kV=.none:=Dflts.noKw hD;obtain⟨a,vs,ns,rfl,rfl,hobj,hints,hlen⟩:=Al hn hpre hwl;refine enter_call (codeAny_mono (call w s₀ s₁ mg mb fa o pm cd doc a vs ns G Y ho (fd_plain hd) hcd hmg hobj hints hlen hg) fun r s' hq=>?_);obtain⟨rfl,h2,h3,h4⟩:=hq;exact⟨.inl ⟨.bool true,.bool true,[],rfl,fun _=>rfl,.bool true,Am l _,fun _=>⟨List.Pairwise.nil,fun _ hm=>(nomatch hm)⟩⟩,h2,h3,h4⟩
section
variable {prog:Program}{w:World}{A:Around}{E:Value->Shared->Prop}{s:Shared}{K:Frag}
end
end Xw
namespace L2
open PySem PySem.Spec PyProof.Rows
theorem rc:∀{vs:List Value} {ns:List Int},IntsAre vs ns->Vals (ns.map V.int) vs
 | _,_,.nil=>.nil
 | _,_,.cons n t h=>.cons ⟨t,rfl⟩ (rc h)
def Only(H:Hp):Prop:=∀b,H b=none\/∃o xs,H b=some (.jI o (.lst xs))
theorem BF{P:Program}{w:World}{K:gv}{mg mb:Str->Option Value}{CX:Ac}{k:Nat}{fa a:Addr}{fd:ed}{x:Str}{sp:Sp}{s₁:Shared}{vs:List Value}{ns:List Int}
  (KX:K.In s₁.heap) (hns:s₁.heap.Ns dL mg) (hb:s₁.heap.Ns builtinsNs mb) (hbb:∀x:Str,x≠ "__name__"->mb x=bootBuiltins x) (hlim:s₁.heap.NoLimit) (hg:s₁.gens=#[])
  (ha:s₁.heap.get? a=some {cls:=.type "list",data:=.seq vs.toArray}) (hi:IntsAre vs ns) (hl:ns.length<=ee) (hr:dP k callerA)
  (F:∀base:Heap,K.In base->base.Ns dL mg->aD P w K mg base CX k fa fd [x] sp) (hbind:∀(s:Shared) (u:Value),BindsTo s fd ⟨[u],[]⟩ [(x,u)])
  (hsp:∀H:Hp,Only H->aV K H a (ns.map V.int)->sp [.ref a] H (fun v _=>v=.bl true) fun _ _ _=>False)
  (R3:∀H e s',CX [] H s₁ (fun _ _ _=>False) e s'->False):
  codeAny (model P w) callerA (.call (.ref fa) ⟨[.ref a],[]⟩) (fun r s'=>r=.ok (.ret (.bool true))/\OldK s₁.heap s'.heap/\s'.os=s₁.os/\AllBare s'.gens) s₁:=by
 have rv:=rc hi;have lenV:=hi.length;have core:∀H:Hp,Only H->aV K H a (ns.map V.int)->i7 P w H s₁.heap->(∀b,H b≠none->b=a)->(H a≠none->K.lookup a=none)->
   codeAny (model P w) callerA (.call (.ref fa) ⟨[.ref a],[]⟩) (fun r s'=>r=.ok (.ret (.bool true))/\OldK s₁.heap s'.heap/\s'.os=s₁.os/\AllBare s'.gens) s₁:=by
  intro H hO hS hok hA hK;have yv:∀{b:Addr} {o:Obj},s₁.heap.get? b=some o->H b=none->(sm s₁.heap H).get? b=some o:=fun e n=>Bl e n;have MB:∀{b:Addr} {o:Obj} {es:Array DictEntry} {ep:Nat},s₁.heap.get? b=some o->o.data=.dict es ep->H b=none:=fun {b o es ep} e d=>by
   cases q:H b with
   | none=>rfl
   | some u=>
    have e':b=a:=hA b (by rw[q];simp);subst e';rw[ha]at e;cases e;have d':Data.seq vs.toArray _=Data.dict es ep:=d;cases d'
  have QS:∀{b:Addr} {m:Str->Option Value},s₁.heap.Ns b m->(sm s₁.heap H).Ns b m:=fun {b m} ⟨o,es,ep,e,d,r⟩=>⟨o,es,ep,yv e (MB e d),d,r⟩
  have Xx:K.In (sm s₁.heap H):=fun b o e=>yv (KX b o e) (by
   cases q:H b with
   | none=>rfl
   | some u=>
    have e':b=a:=hA b (by rw[q];simp);subst e'
    rw[hK (by rw[q];simp)]at e;cases e)
  have hM:Mod K mg (sm s₁.heap H):=⟨Xx,QS hns,⟨mb,QS hb,hbb⟩,let ⟨mc,h1,h2⟩:=hlim;⟨mc,QS h1,h2⟩⟩;have e0:wk P w K mg (sm s₁.heap H) callerA [] s₁ H:=⟨rfl,hM,fun b o e=>D8 e,Nat.le_of_eq (zV _ _),trivial,fun b hb=>absurd (show b∈([]:List Addr)from hb) (by simp),hok,.of_eq hg⟩;refine codeAny_mono ((F _ Xx (QS hns)).run callerA [] s₁ H ⟨[.ref a],[]⟩ [.ref a] [.ref a] _ _ hr e0 (hbind s₁ (.ref a)) (.cons rfl .nil) (hsp H hO hS)) fun r s' h=>?_;cases r with
  | error e=>exact(R3 H e s' h).elim
  | ok fl=>
   cases fl with
   | next=>exact False.elim h
   | brk=>exact False.elim h
   | cont=>exact False.elim h
   | ret u=>
    obtain⟨v,H',os,bare,un,hok',r',q⟩:=h;have q':v=.bl true:=q;subst q';obtain rfl:u=Value.bool true:=r';refine⟨rfl,OldK.of_keep fun b o e=>?_,os,bare⟩;cases q:H b with
    | none=>exact un.keep b o e q (by intro z;exact absurd (show b∈([]:List Addr)from z) (by simp)) (by simp)
    | some u=>
     rcases hO b with z | ⟨ob,xs,z⟩
     ·rw[q]at z;cases z
     ·have z2:=un.iZ b ob _ z;obtain⟨e1,_⟩:=hok b _ z;obtain⟨e2,_⟩:=hok' b _ z2;rw[e]at e1;cases e1;exact e2
 cases hk:K.lookup a with
 | some o=>
  have e:=KX a o hk;rw[ha]at e;cases e;refine core (fun _=>none) (fun _=>.inl rfl) (.inr ⟨_,vs.toArray,_,hk,rfl,rfl,rfl,by rw[al,lenV];exact hl,by simpa using rv⟩) (fun b u z=>by have z':(none:Option HO)=some u:=z;cases z') (fun b z=>absurd rfl z) fun z=>absurd rfl z
 | none=>
  refine core (fun b=>if b=a then some (.jI {cls:=.type "list",data:=.seq vs.toArray} (.lst (ns.map V.int)))else none) (fun b=>?_) (.inl (.inr ⟨{cls:=.type "list",data:=.seq vs.toArray},if_pos rfl⟩)) (fun b u z=>?_) (fun b z=>?_) fun _=>hk
  ·by_cases hb:b=a
   ·exact .inr ⟨_,_,if_pos hb⟩
   ·exact .inl (if_neg hb)
  ·by_cases hb:b=a
   ·have z':=(if_pos hb).symm.trans z;cases z';subst hb;exact⟨ha,by rw[List.length_map];exact hl,vs,_,rv,ha⟩
   ·have z':=(if_neg hb).symm.trans z;cases z'
  ·by_cases hb:b=a
   ·exact hb
   ·exact absurd (if_neg hb) z
theorem yw{l:PySem.W.OpenLaw}{n k:Nat}{q:Program}{loose:List Str}{XP:(Str->Option Value)->Heap->Prop}{YP:World->Heap->Prop}{d:DefRec}{K:Params->gv}{CX:World->Ac}{sp:World->Sp}{x:Str}
  (hn:l.most=some n) (hn2:n<=ee) (hdf:d.params.defaults=[]) (hr:dP k callerA)
  (hY:∀(w:World) (h:Heap),YP w h->(K w.params).In h)
  (F:∀(w:World) (mg:Str->Option Value) (fa:Addr) (h:Heap),(K w.params).In h->h.Ns dL mg->mg d.name=some (.ref fa)->
   ∃fd:ed,(∀(s:Shared) (u:Value),BindsTo s fd ⟨[u],[]⟩ [(x,u)])/\
    ∀base:Heap,(K w.params).In base->base.Ns dL mg->aD l.prog w (K w.params) mg base (CX w) k fa fd [x] (sp w))
  (hsp:∀(w:World) (H:Hp) (a:Addr) (ns:List Int),ns.length<=n->Only H->aV (K w.params) H a (ns.map V.int)->sp w [.ref a] H (fun v _=>v=.bl true) fun _ _ _=>False)
  (R3:∀(w:World) (H:Hp) (s:Shared) (e:Value) (s':Shared),CX w [] H s (fun _ _ _=>False) e s'->False):
  PySem.W.WalkO q loose XP YP l.row.toRowW d [] (fun f vs=>PySem.call f vs):=by
 refine Xw.uY hn hdf fun w s₀ s₁ mg mb fa o pm cd doc a vs ns G Y ho hd hcd hmg hobj hints hlen hg=>?_;have KX:=hY w _ Y;obtain⟨fd,hb,hF⟩:=F w mg fa _ KX G.T.g hmg;exact BF KX G.T.g G.T.b G.T.builtins G.T.nolimit hg hobj hints (kq hlen hn2) hr hF hb (fun H hO hS=>hsp w H a ns hlen hO hS) fun H e s'=>R3 w H s₁ e s'
open PySem PySem.Spec PyProof.Rows
def inClass(s:Stmt)(j:Nat):Stmt:=match s with
 | .ClassDef _ _ _ body _ _ _ _ _ _ _=>body.getD j (.Pass ⟨0,0,0,0⟩)
 | _=>.Pass ⟨0,0,0,0⟩
def dM(s:Stmt):Arguments:=match s with
 | .FunctionDef _ a _ _ _ _ _ _ _ _=>a
 | _=>{posonlyargs:=[],args:=[],vararg:=none,kwonlyargs:=[],kw_defaults:=[],kwarg:=none,defaults:=[]}
def dq(s:Stmt):List Stmt:=match s with
 | .FunctionDef _ _ b _ _ _ _ _ _ _=>b
 | _=>[]
def ak(s:Stmt):Scope:=match s with
 | .FunctionDef _ _ _ _ _ _ sc _ _ _=>sc
 | _=>{kind:=.function,names:=[],isGenerator:=false,isCoroutine:=false}
abbrev cm:Ac:=fun _ _ _ _ _ _=>False
abbrev E0:XK:=fun _ _ _=>False
theorem aS{X:Cx}:Passes cm X E0:=fun _ _ _ _ _ _ _ h=>h.elim
structure cr(K:gv)(x qual:Str)(st:Stmt)(f:Addr)(fd:ed):Prop where
 ex:∃(oc:Value) (od:Option Addr) (kV doc pm:Value) (an:Option Addr) (cdv ct:Value) (osl:Array (Option Value)),
  fd=PySem.W.fnOf x qual (dM st) (dq st) (ak st) .none kV doc pm an cdv ct/\K.lookup f=some ⟨oc,od,.func fd,osl⟩/\PySem.W.codeIn K cdv qual=true
 kp:PySem.W.keepIn K (.ref f)=true
section
variable {P:Program}{w:World}{K:gv}{mg:Str->Option Value}{base:Heap}
theorem cr.ok{x qual:Str}{st:Stmt}{f:Addr}{fd:ed}{N ps:List Str}{k:Nat}{sp:Sp}(F:cr K x qual st f fd)(S:aE N ps (ak st))(len:∀vs H Q E,sp vs H Q E->vs.length=ps.length)
  (hbody:∀(cdv:Value) (A:Around) (outer:List Env) (s:Shared) (H:Hp) (vs:List V) (Q:VK) (E:XK),dP k (A.deeper (envOfC qual (ak st) s.heap.objs.size f cdv))->sp vs H Q E->
   ∃t,qQ (gN cm P w K mg base N qual (ak st) f cdv A outer s H E).QN (dq st) t/\t {nx:=fun _ H'=>Q .non H',rt:=Q} (start N vs) H):aD P w K mg base cm (k+1) f fd ps sp:=by
 obtain⟨oc,od,kV,doc,pm,an,cdv,ct,osl,rfl,lk,hcd⟩:=F.ex;refine Hi lk hcd S len fun A outer s H vs Q E hr hsp=>?_;obtain⟨t,h,q⟩:=hbody cdv A outer s H vs Q E hr hsp;exact⟨t,h.QN,q⟩
theorem cr.binds{x qual:Str}{st:Stmt}{f:Addr}{fd:ed}{ps:List Str}(F:cr K x qual st f fd)
  (h:∀(kV doc pm:Value) (an:Option Addr) (cdv ct:Value) (us:List Value),us.length=ps.length->bindArgs (PySem.W.fnOf x qual (dM st) (dq st) (ak st) .none kV doc pm an cdv ct) ⟨us,[]⟩=pure (ps.zip us)):Binds K fd ps []:=by
 obtain⟨oc,od,kV,doc,pm,an,cdv,ct,osl,rfl,lk,hcd⟩:=F.ex;exact .all (h kV doc pm an cdv ct)
theorem aR{x qual:Str}{st:Stmt}{f:Addr}{oc:Value}{od an:Option Addr}{osl:Array (Option Value)}{kV doc pm cdv ct:Value}(l:K.lookup f=some ⟨oc,od,.func (PySem.W.fnOf x qual (dM st) (dq st) (ak st) .none kV doc pm an cdv ct),osl⟩)
  (c:PySem.W.codeIn K cdv qual=true) (k:PySem.W.keepIn K (.ref f)=true):cr K x qual st f (PySem.W.fnOf x qual (dM st) (dq st) (ak st) .none kV doc pm an cdv ct):=⟨⟨oc,od,kV,doc,pm,an,cdv,ct,osl,rfl,l,c⟩,k⟩
theorem Hl{A:Around}{k:Nat}(hr:dP k A):A.units+1<cLine:=Nat.lt_of_le_of_lt (Nat.add_le_add_left (by decide:1<=64) _) hr.units
variable {X:Cx}
theorem pv(i:Nat){x:Str}{pos:Pos}(hN:X.N[i]? =some x:=by rfl)(hv:RF X.env.scope x:=by first | exact Or.inl rfl | exact Or.inr (Or.inl rfl) | exact Or.inr (Or.inr rfl))(hd:(x==("__debug__": Str))=false:=by decide)
  (hcd:(x==("__classdict__": Str))=false:=by decide):PE X (.Name x pos) (L5 i):=IY hN hv hd hcd
theorem dk{c A B:Prop}[Decidable c](h1:c->A)(h2:¬c->B):if c then A else B:=by
 by_cases h:c
 ·rw[if_pos h];exact h1 h
 ·rw[if_neg h];exact h2 h
def Same(H H':Hp):Prop:=∀b o,H b=some o->H' b=some o
theorem Same.refl(H:Hp):Same H H:=fun _ _ h=>h
theorem Same.trans{H H1 H2:Hp}(a:Same H H1)(b:Same H1 H2):Same H H2:=fun c o h=>b c o (a c o h)
theorem Same.free{H H':Hp}(e:Same H H'){l:Addr}(h:H' l=Option.none):H l=Option.none:=by
 cases q:H l with
 | none=>rfl
 | some o=>
  rw[e l o q]at h;cases h
theorem Same.seq{K:gv}{H H':Hp}{a:Addr}{xs:List V}(e:Same H H')(h:aV K H a xs):aV K H' a xs:=by
 rcases h with (h | ⟨o,h⟩) | h
 ·exact .inl (.inl (e _ _ h))
 ·exact .inl (.inr ⟨o,e _ _ h⟩)
 ·exact .inr h
end
section
variable {κ:Type}[DecidableEq κ]
end
end L2
set_option maxHeartbeats 4000000
namespace L2
open PySem PySem.Spec PyProof.Rows
def dU(env:Env)(cs:List (Str×Addr))(nk:Str×NameKind):List (Str×Addr):=
 if nk.2== .free then (nk.1,(env.cells.lookup nk.1).getD 0)::cs else cs
def nI(scope:Scope)(env:Env):List (Str×Addr):=scope.names.foldl (dU env) []
theorem yx{scope:Scope}{env:Env}(h:∀y∈scope.names,y.2=.free->∃c,env.cells.lookup y.1=some c):closureFor scope env=pure (nI scope env):=by
 have all:∀(l:List (Str×NameKind)) (cs:List (Str×Addr)),(∀y∈l,y.2=.free->∃c,env.cells.lookup y.1=some c)->
   (forIn l cs (fun x r=>if (x.2==NameKind.free)=true then do let a <-cellOf env x.1;pure (ForInStep.yield ((x.1,a)::r))else pure (ForInStep.yield r)):Sem (List (Str×Addr)))=pure (l.foldl (dU env) cs):=by
  intro l
  induction l with
  | nil=>intro cs _;rfl
  | cons y r ih=>
   intro cs hy;obtain⟨n,k⟩:=y;rw[List.forIn_cons,List.foldl_cons];by_cases hk:(k==NameKind.free)=true
   ·obtain⟨c,hc⟩:=hy (n,k) List.mem_cons_self (by simpa using hk);have e1:cellOf env n=pure c:=by unfold cellOf;rw[hc]
    have e2:dU env cs (n,k)=(n,c)::cs:=by unfold dU;rw[if_pos hk,hc];rfl
    rw[e2,<-ih _ fun z hz=>hy z (List.mem_cons_of_mem _ hz)];dsimp only;rw[if_pos hk,e1];rfl
   ·have e2:dU env cs (n,k)=cs:=by unfold dU;rw[if_neg hk]
    rw[e2,<-ih _ fun z hz=>hy z (List.mem_cons_of_mem _ hz)];dsimp only;rw[if_neg hk];rfl
 have e:=all scope.names [] h;unfold closureFor nI;rw[<-e];simp only[bind_pure]
theorem uZ{env:Env}:∀{l:List (Str×NameKind)} {cs:List (Str×Addr)} {n:Str} {c:Addr},(∀y∈l,y.2=.free->∃c,env.cells.lookup y.1=some c)->(n,c)∈l.foldl (dU env) cs->(n,c)∈cs\/env.cells.lookup n=some c
 | [],cs,n,c,_,m=>.inl m
 | (y,k)::r,cs,n,c,h,m=>by
  rcases uZ (fun z hz=>h z (List.mem_cons_of_mem _ hz)) (show(n,c)∈r.foldl (dU env) (dU env cs (y,k))from m)with q | q
  ·unfold dU at q;by_cases hk:(k==NameKind.free)=true
   ·rw[if_pos hk]at q;rcases List.mem_cons.mp q with q | q
    ·obtain⟨d,hd⟩:=h (y,k) List.mem_cons_self (by simpa using hk);have hd:env.cells.lookup y=some d:=hd;injection q with q1 q2
     subst q1;rw[hd]at q2;subst q2;exact .inr hd
    ·exact .inl q
   ·rw[if_neg hk]at q;exact .inl q
  ·exact .inr q
theorem oS{env:Env}:∀{l:List (Str×NameKind)} {cs:List (Str×Addr)} {p:Str×Addr},p∈cs->p∈l.foldl (dU env) cs
 | [],_,_,m=>m
 | (y,k)::r,cs,p,m=>by
  refine oS (l:=r) (cs:=dU env cs (y,k)) ?_;unfold dU;split
  ·exact List.mem_cons_of_mem _ m
  ·exact m
theorem u6{env:Env}:∀{l:List (Str×NameKind)} {cs:List (Str×Addr)} {n:Str},(n,NameKind.free)∈l->∃c,(n,c)∈l.foldl (dU env) cs
 | (y,k)::r,cs,n,m=>by
  rcases List.mem_cons.mp m with q | q
  ·cases q;exact⟨(env.cells.lookup y).getD 0,oS (l:=r) (by simp[dU])⟩
  ·exact u6 (l:=r) q
theorem oU{β:Type}:∀{l:List (Str×β)} {n:Str} {c:β},(n,c)∈l->∃d,l.lookup n=some d
 | (k,v)::r,n,c,m=>by
  rw[List.lookup_cons];cases e:n==k with
  | true=>exact⟨v,rfl⟩
  | false=>
   rcases List.mem_cons.mp m with q | q
   ·cases q;simp at e
   ·exact oU q
theorem dN{env:Env}(hf:env.scope.kind=.function):∀{names:List (Str×NameKind)} {x:Str},names.lookup x=some .free->env.kindOf x=some .cell->
  (names.map fun(n,k)=>if (k==NameKind.free&&env.scope.kind== .function&&env.kindOf n==some .cell)then (n,NameKind.cell)else (n,k)).lookup x=some .cell
 | [],_,h,_=>by simp at h
 | (n,k)::r,x,h,hc=>by
  have ih:=@dN env hf r x;show List.lookup x ((if (k==NameKind.free&&env.scope.kind== .function&&env.kindOf n==some .cell)=true then (n,NameKind.cell)else (n,k))::_)=_;cases hx:x==n with
  | true=>
   have e:x=n:=by simpa using hx
   subst e;simp only[List.lookup_cons,hx]at h;cases h;rw[if_pos (by rw[hf,hc];rfl)];simp[List.lookup_cons]
  | false=>
   simp only[List.lookup_cons,hx]at h;by_cases hc':(k==NameKind.free&&env.scope.kind== .function&&env.kindOf n==some .cell)=true
   ·rw[if_pos hc'];simp only[List.lookup_cons,hx];exact ih h hc
   ·rw[if_neg hc'];simp only[List.lookup_cons,hx];exact ih h hc
def nJ(sc scope:Scope)(N:List Str):List Str->List (Option Nat)->Bool
 | [],[]=>true
 | _::r,none::f=>nJ sc scope N r f
 | y::r,some i::f=>(N[i]? ==some y)&&(scope.names.lookup y==some .free)&&(sc.names.lookup y==some .cell)&&nJ sc scope N r f
 | _,_=>false
structure cS(sc scope:Scope)(N N':List Str)(fr:List (Option Nat)):Prop where
 kind:scope.kind=.function
 wu:∀y∈scope.names,y.2≠.cell
 names:∀y∈scope.names,y.2=.local->scope.names.lookup y.1=some .local
 free:∀y∈scope.names,y.2=.free->sc.names.lookup y.1=some .cell
 nd:N'.Nodup
 fr:nJ sc scope N N' fr=true
def wx(fr:List (Option Nat))(σ:St):St:=fr.map fun o=>o.bind fun i=>(σ[i]?).join
theorem oV{sc scope:Scope}{N:List Str}:∀{N':List Str} {fr:List (Option Nat)},nJ sc scope N N' fr=true->fr.length=N'.length
 | [],[],_=>rfl
 | _::r,none::f,h=>by simp only[bv];rw[oV (N':=r) (fr:=f) h]
 | y::r,some i::f,h=>by
  unfold nJ at h;simp only[Bool.and_eq_true]at h;simp only[bv];rw[oV (N':=r) (fr:=f) h.2]
 | [],_::_,h=>by simp[nJ]at h
 | _::_,[],h=>by simp[nJ]at h
theorem sF{sc scope:Scope}{N:List Str}:∀{N':List Str} {fr:List (Option Nat)} {j i:Nat} {y:Str},nJ sc scope N N' fr=true->N'[j]? =some y->fr[j]? =some (some i)->N[i]? =some y/\scope.names.lookup y=some .free/\sc.names.lookup y=some .cell
 | [],[],_,_,_,_,h,_=>by simp at h
 | _::r,none::f,0,i,y,_,_,h=>by simp at h
 | _::r,none::f,j+1,i,y,h,h1,h2=>sF (N':=r) (fr:=f) (j:=j) h (by simpa using h1) (by simpa using h2)
 | z::r,some k::f,0,i,y,h,h1,h2=>by
  unfold nJ at h;simp only[Bool.and_eq_true,beq_iff_eq]at h;have e1:z=y:=by simpa using h1
  have e2:k=i:=by simpa using h2
  subst e1 e2;exact⟨h.1.1.1,h.1.1.2,h.1.2⟩
 | z::r,some k::f,j+1,i,y,h,h1,h2=>by
  unfold nJ at h;simp only[Bool.and_eq_true]at h;exact sF (N':=r) (fr:=f) (j:=j) h.2 (by simpa using h1) (by simpa using h2)
 | [],_::_,_,_,_,h,_,_=>by simp[nJ]at h
 | _::_,[],_,_,_,h,_,_=>by simp[nJ]at h
def cV(X:Cx)(scope:Scope)(C:Addr)(N':List Str)(s₀:Shared)(H₀:Hp)(fp:List Addr):Cx where
 prog:=X.prog
 w:=X.w
 K:=X.K
 mg:=X.mg
 base:=X.base
 A:=X.A
 N:=N'
 s₀:=s₀
 H₀:=H₀
 env:=compEnvC scope (nI scope X.env) C X.env
 outer:=X.stack
 stack:=X.stack
 ex:=fp
 calm:=true
 fn:=fun _=>false
 pn:=[]
 xe:=fun _ _=>False
section
variable {X:Cx}{scope:Scope}{N':List Str}{fr:List (Option Nat)}{kb:List (Addr×Obj)}{σ:St}{H:Hp}{s:Shared}{fp:List Addr}
theorem Inv.block{h1:Heap}{t1:Nat}{m:Str->Option Value}(S:cS X.env.scope scope X.N N' fr)(hc:X.calm=true)(I:Inv X kb σ H s)(hf:∀b∈fp,kl X kb H b)(hlt:∀b∈fp,b<s.heap.objs.size)
  (hns:h1.Ns s.heap.objs.size m) (old:∀b o,s.heap.get? b=some o->h1.get? b=some o):
  Inv (cV X scope s.heap.objs.size N' s H fp) [] (wx fr σ) H {s with heap:=h1,toks:=t1}:=by
 have hfree:∀y∈scope.names,y.2=.free->∃c,X.env.cells.lookup y.1=some c:=fun y hy e=>I.ok.has y.1 (.inl (S.free y hy e));have cl1:∀y c,(nI scope X.env).lookup y=some c->X.env.cells.lookup y=some c:=fun y c e=>by
  rcases uZ (cs:=[]) hfree (PySem.mem_of_lookup e)with q | q
  ·exact absurd q (by simp)
  ·exact q
 have has:∀y,((relabel scope X.env).names.lookup y=some .cell\/(relabel scope X.env).names.lookup y=some .free)->∃c,(nI scope X.env).lookup y=some c:=fun y hy=>by
  have q:(y,NameKind.free)∈scope.names:=by
   have m:∃k,(k=NameKind.cell\/k=NameKind.free)/\(y,k)∈(relabel scope X.env).names:=by
    rcases hy with hy | hy
    ·exact⟨_,.inl rfl,PySem.mem_of_lookup hy⟩
    ·exact⟨_,.inr rfl,PySem.mem_of_lookup hy⟩
   obtain⟨k,hk,m⟩:=m;obtain⟨⟨n,k0⟩,hm,e⟩:=List.mem_map.mp m;dsimp only at e;by_cases hq:(k0==NameKind.free&&X.env.scope.kind== .function&&X.env.kindOf n==some .cell)=true
   ·rw[if_pos hq]at e;simp only[Bool.and_eq_true,beq_iff_eq]at hq;injection e with e1 e2
    rw[<-e1,<-hq.1.1];exact hm
   ·rw[if_neg hq]at e;injection e with e1 e2
    subst e1 e2;rcases hk with hk | hk
    ·exact absurd hk (S.wu _ hm)
    ·rw[<-hk];exact hm
  obtain⟨c,mc⟩:=u6 (env:=X.env) (cs:=[]) q;exact oU mc
 have ltC:∀y c,X.env.cells.lookup y=some c->c<s.heap.objs.size:=fun y c e=>by obtain⟨v,q⟩:=I.cell y c e;exact q.lt
 refine⟨⟨I.ok.mod,S.kind,I.ok.glob,I.ok.blt,jp _,fun x y c e1 e2=>I.ok.inj x y c (cl1 x c e1) (cl1 y c e2),has,fun x c e _=>absurd e (by simp[cV]),fun _=>I.ok.hd hc,I.ok.frames,.inl rfl,
   fun b hb=>⟨js (hlt b hb),fun x c e=>(hf b hb).2.2.2.2.1 x c (cl1 x c e)⟩,I.bs,kq I.ok.D9 I.sz,fun b o e hb=>?_,fun b hb z=>?_,I.stack,I.kh⟩,
  rfl,I.bare,Un.kept old,⟨m,hns,fun i x v e1 e2 e3=>?_⟩,fun x c e=>?_,I.fresh,fun x c e=>I.iR x c (cl1 x c e),fun p hp=>absurd hp (by simp[cV]),I.hok.kept old,?_⟩
 ·rcases(hf b hb).2.2.2.1 with z | z
  ·exact I.ok.Bm b o e z
  ·exact absurd (Nat.lt_of_lt_of_le (fm e) (kq I.ok.D9 z)) (Nat.lt_irrefl _)
 ·rcases List.mem_cons.mp (I.lM b z)with q | q
  ·exact(hf b hb).2.1 q
  ·exact(hf b hb).2.2.1 q
 ·
  have e2:(wx fr σ)[i]? =some (some v):=e2;unfold wx at e2;rw[ac]at e2;cases q:fr[i]? with
  | none=>rw[q]at e2;cases e2
  | some o=>
   rw[q]at e2;cases o with
   | none=>cases e2
   | some j=>
    have e2:(σ[j]?).join=some v:=Option.some.inj e2;have e4:σ[j]? =some (some v):=by
     cases r:σ[j]? with
     | none=>rw[r]at e2;cases e2
     | some w=>rw[r]at e2;exact congrArg some e2
    obtain⟨f1,f2,f3⟩:=sF S.fr e1 q;obtain⟨m0,_,hl⟩:=I.loc;obtain⟨u,r,l⟩:=hl j x v f1 e4 (.inr (.inl f3));refine⟨u,r,.inr ⟨.inl (dN I.ok.kind f2 f3),?_⟩⟩;obtain⟨c,hc⟩:=has x (.inl (dN I.ok.kind f2 f3));rcases l with ⟨k,_⟩ | ⟨_,c',hc',ho⟩
    ·have k:X.env.scope.names.lookup x=some .local:=k;rw[f3]at k;cases k
    ·have e:c=c':=Option.some.inj ((cl1 x c hc).symm.trans hc');subst e;obtain⟨o,ho,hd⟩:=ho;exact⟨c,hc,o,old c o ho,hd⟩
 ·obtain⟨v,o,ho,hd⟩:=I.cell x c (cl1 x c e);exact⟨v,o,old c o ho,hd⟩
 ·show(wx fr σ).length=N'.length;unfold wx;rw[List.length_map];exact oV S.fr
end
def El(X:Cx)(ifs:List Expr)(t:TT):Prop :=
 ∀(kb:List (Addr×Obj)) (s:Shared) (σ:St) (H:Hp) (Q:Bool->Hp->Prop),Inv X kb σ H s->t σ H Q->
  wpAny (model X.prog X.w) X.A (forIn ifs true fun c r=>if r=true then do let ok <-isTrue c X.env (eval c X.env);pure (ForInStep.yield ok)else pure (ForInStep.yield r)) (TP X kb σ Q) X.xe s
def R4:TT:=fun _ H Q=>Q true H
theorem dr{X:Cx}:El X [] R4:=fun _ _ _ H _ I q=>wpAny_tests_nil ⟨H,I,q⟩
theorem yz{X:Cx}{c:Expr}{t:TT}(h:PT X c t):El X [c] t:=fun kb s σ H Q I q=>wpAny_tests_one (h kb s σ H Q I q)
theorem sH{prog:Program}{w:World}{A:Around}{R:Result->Shared->Prop}{s:Shared}{elt target iter:Expr}{ifs:List Expr}{scope:Scope}{pos:Pos}{it acc:Value}{env:Env}(I:Nat->Shared->Prop)
  (turn:∀n s,I n s->wpAny (model prog w) A (pyNext it) (fun r s₁=>match r with
   | none=>R (.ok .next) s₁
   | some v=>wpAny (model prog w) A (letOwnedTupleGo target it v) (fun _ s₀=>wpAny (model prog w) A (assign target env v) (fun _ s₂=>
     wpAny (model prog w) A (forIn ifs true fun c r=>if r=true then do let ok <-isTrue c env (eval c env);pure (ForInStep.yield ok)else pure (ForInStep.yield r)) (fun ok s₃=>
      if ok=true then wpAny (model prog w) A (eval elt env) (fun x s₄=>
       wpAny (model prog w) A (call (.builtin "list.append") [acc,x]) (fun _ s₅=>∃m,m<n/\I m s₅) (fun _ _=>False) s₄) (fun _ _=>False) s₃
      else ∃m,m<n/\I m s₃) (fun _ _=>False) s₂) (fun _ _=>False) s₀) (fun _ _=>False) s₁) (fun _ _=>False) s)
  (n:Nat) (h:I n s):
  codeAny (model prog w) A (.compLoop (.ListComp elt [⟨target,iter,ifs,0⟩] scope pos) 0 it acc env) R s:=by
 refine codeAny_loop rfl I (fun n s hI=>?_) n h;show wpAny _ A ((compTurn (.ListComp elt [⟨target,iter,ifs,0⟩] scope pos) 0 it acc env).onRaise (fun x=>do noteFrame x env;theTreesLotGoes x)) _ _ s;refine wpAny_noted ?_;rw[compTurn_list];refine c8 (wpAny_standAt (c8 (eg (turn n s hI) (fun r s₁ h₁=>?_) fun _ _ h'=>h'.elim)));cases r with
 | none=>exact db h₁
 | some v=>
  refine c8 (eg h₁ (fun _ s₀ h₀=>?_) fun _ _ h'=>h'.elim);refine c8 (eg h₀ (fun _ s₂ h₂=>c8 (eg h₂ (fun ok s₃ h₃=>?_) fun _ _ h'=>h'.elim)) fun _ _ h'=>h'.elim);cases ok with
  | false=>exact db ⟨rfl,h₃⟩
  | true=>
   exact c8 (c8 (eg h₃ (fun x s₄ h₄=>c8 (eg h₄ (fun _ s₅ h₅=>db (db ⟨rfl,h₅⟩)) fun _ _ h'=>h'.elim)) fun _ _ h'=>h'.elim))
def u7(fr:List (Option Nat))(wi:TI)(g:TG)(tt:TT)(te:TE):TE:=fun σ H Q=>wi σ H fun J H1=>∀D,H1 D=none->
 ∃W:Nat->Nat->St->List V->Hp->Prop,(∃m,W 0 m (wx fr σ) [] (upd H1 D (.lst [])))/\∀i m σ ys H,W i m σ ys H->
  (J.stop i H/\Q (.ref D) H)\/(J.go i H/\∃N:St->List V->Hp->Prop,(∀σ' ys' H',N σ' ys' H'->∃m',m'<m/\W (i+1) m' σ' ys' H')/\∀x H',J.yj i H x H'->g x σ H' fun σ2 H2=>tt σ2 H2 fun b H3=>
   if b=true then te σ2 H3 fun v H4=>H4 D=some (.lst ys)/\ys.length<ee/\N σ2 (ys++ [v]) (upd H4 D (.lst (ys++ [v])))
   else N σ2 ys H3)
theorem u9{X:Cx}{elt tg iter:Expr}{ifs:List Expr}{scope:Scope}{pos cpos:Pos}{wi:TI}{g:TG}{tt:TT}{te:TE}{N':List Str}{fr:List (Option Nat)}(S:cS X.env.scope scope X.N N' fr)(hc:X.calm=true)(hi:PI X tg iter wi)
  (hg:∀C s0 H0 fp,PG (cV X scope C N' s0 H0 fp) tg g) (ht:∀C s0 H0 fp,El (cV X scope C N' s0 H0 fp) ifs tt) (he:∀C s0 H0 fp,PE (cV X scope C N' s0 H0 fp) elt te)
  (hs:∀x,foldedSetIterable iter X.env x=pure x) {kb:List (Addr×Obj)} {s:Shared} {σ:St} {H:Hp} {Q:VK} (I:Inv X kb σ H s) (h:u7 fr wi g tt te σ H Q) (use:Option (Value->Sem Unit)) (QQ:Value->Shared->Prop)
  (fin:∀(D C:Addr) (H5:Hp) (s6:Shared),Inv X kb σ H5 s6->Q (.ref D) H5->H5 C=none->C≠X.env.locals->X.s₀.heap.objs.size<=C->(∀x c,X.env.cells.lookup x=some c->c≠C)->(∀p∈X.pn++kb,p.1≠C)->(∃m,s6.heap.Ns C m)->
   compPost (model X.prog X.w) X.A X.xe use QQ (.ref D) C (.ok .next) s6):
  wpAny (model X.prog X.w) X.A (comprehension (.ListComp elt [⟨tg,iter,ifs,0⟩] scope pos) scope X.env cpos (newList []) false (eval iter X.env) use) QQ X.xe s:=by
 have hfree:∀y∈scope.names,y.2=.free->∃c,X.env.cells.lookup y.1=some c:=fun y hy e=>I.ok.has y.1 (.inl (S.free y hy e));refine wpAny_comprehension_free (use:=use) rfl hs (yx hfree) S.kind S.names (cJ (hi kb s σ H _ I h) fun v s1 h1=>cJ h1 fun itv s2 h2=>?_);obtain⟨it,fp,tn,J,H2,e,I2,T,st2,f2,hD⟩:=h2;subst e;obtain⟨W,⟨m0,w0⟩,turn⟩:=hD s2.heap.objs.size I2.fresh;refine wpAny_newObj_type ?_;have I3:Inv X kb σ (upd H2 s2.heap.objs.size (.lst [])) {s2 with heap:=s2.heap.push {cls:=.type "list",data:=.seq ([]:List Value).toArray},toks:=s2.toks}:=I2.Af (ys:=[]) .nil (Nat.zero_le _)
 revert I3
 generalize eD:s2.heap.objs.size=D at*;generalize e3:({s2 with heap:=s2.heap.push {cls:=.type "list",data:=.seq ([]:List Value).toArray},toks:=s2.toks}:Shared)=s3;intro I3;have k3:∀b o,s2.heap.get? b=some o->s3.heap.get? b=some o:=fun b o e=>by rw[<-e3];exact fg _ e
 refine wpAny_newFunctionEnv S.wu (by intro y hy;simp at hy) (fun h4 hns hsb=>?_) S.kind;have old:∀b o,s3.heap.get? b=some o->h4.get? b=some o:=fun b o e=>hsb.extBut b o (js (fm e)) (fg _ e);have fD:∀b∈fp,b≠D:=fun b hb z=>by obtain⟨o,ho,_⟩:=T.obj _ _ st2 b hb;exact absurd (fm ho) (by rw[z,eD];exact Nat.lt_irrefl _)
 have f3:∀b∈fp,kl X kb (upd H2 D (.lst [])) b:=fun b hb=>⟨by rw[aG (fD b hb)];exact(f2 b hb).1,(f2 b hb).2⟩;have l3:∀b∈fp,b<s3.heap.objs.size:=fun b hb=>by obtain⟨o,ho,_⟩:=T.obj _ _ st2 b hb;exact fm (k3 b o ho)
 have I4:=Inv.block (t1:=s3.toks+([]:List (Str×Value)).length) (scope:=scope) S hc I3 f3 l3 hns old;generalize eX:cV X scope s3.heap.objs.size N' s3 (upd H2 D (.lst [])) fp=X' at I4;have JA:tn 0 h4:=T.keep _ _ _ st2 fun b hb o e=>old b o (k3 b o e);have stat:∀{H':Hp},(∀b∈fp,H' b=none)->∀b∈fp,kl X' [] H' b:=fun {H'} hn b hb=>by
  subst eX;refine⟨hn b hb,js (l3 b hb),?_,.inl hb,?_,fun p hp=>absurd hp (by simp[cV])⟩
  ·exact I4.ok.zW b hb
  ·exact(I4.ok.QK b hb).2
 show codeAny _ _ (.compStart _ 0 (.ref it) (.ref D) (compEnvC scope (nI scope X.env) s3.heap.objs.size X.env)) (compPost _ _ _ use _ (.ref D) s3.heap.objs.size) _;have hX:X'.prog=X.prog/\X'.w=X.w/\X'.K=X.K/\X'.A=X.A/\X'.calm=true/\X'.env=compEnvC scope (nI scope X.env) s3.heap.objs.size X.env/\X'.xe=(fun _ _=>False)/\X'.s₀=s3/\X'.H₀=upd H2 D (.lst [])/\X'.fs=frs X.stack/\X'.ex=fp:=by subst eX;exact⟨rfl,rfl,rfl,rfl,rfl,rfl,rfl,rfl,rfl,rfl,rfl⟩
 have hg':PG X' tg g:=by subst eX;exact hg _ _ _ _
 have ht':El X' ifs tt:=by subst eX;exact ht _ _ _ _
 have he':PE X' elt te:=by subst eX;exact he _ _ _ _
 clear eX;obtain⟨x1,x2,x3,x4,x5,x6,x7,x8,x9,x10,x11⟩:=hX;have loop:codeAny (model X.prog X.w) X.A (.compLoop (.ListComp elt [⟨tg,iter,ifs,0⟩] scope pos) 0 (.ref it) (.ref D) (compEnvC scope (nI scope X.env) s3.heap.objs.size X.env))
   (compPost (model X.prog X.w) X.A X.xe use QQ (.ref D) s3.heap.objs.size) {s3 with heap:=h4,toks:=s3.toks+([]:List (Str×Value)).length}:=by
  refine sH (fun n s'=>∃i σ' ys H',Inv X' [] σ' H' s'/\tn i s'.heap/\(∀b∈fp,H' b=none)/\W i n σ' ys H') ?_ m0 ⟨0,_,[],_,I4,JA,fun b hb=>(f3 b hb).1,w0⟩;rintro n s5 ⟨i,σ5,ys,H5,I5,Ea,Je,w5⟩;rcases turn i n σ5 ys H5 w5 with ⟨stop,qn⟩ | ⟨go,N,hN,step⟩
  ·have z:=T.done X' x1 x2 x3 x5 i [] s5 σ5 H5 (fun _ _=>False) I5 (stat Je) Ea stop;rw[x4]at z;refine cJ z fun r s6 ⟨hr,I6⟩=>?_;subst hr;obtain⟨mm,MO,_⟩:=I6.loc;have hL:X'.env.locals=s3.heap.objs.size:=by rw[x6];rfl
   rw[hL]at MO;have nC:H5 s3.heap.objs.size=none:=by have:=I6.free;rw[hL]at this;exact this
   have base:=I6.base;rw[x8,x9,x10,x11]at base;have hok:i7 X.prog X.w H5 s6.heap:=by have q:=I6.hok;rw[x1,x2]at q;exact q
   have os:s6.os=s3.os:=by have:=I6.os;rw[x8]at this;exact this
   have IX:Inv X kb σ H5 s6:=I3.call' os base hok I6.bare fun b hb=>⟨(f3 b hb).2.2.2.1,(f3 b hb).2.1,(f3 b hb).2.2.2.2.1,(f3 b hb).2.2.2.2.2⟩;refine fin D s3.heap.objs.size H5 s6 IX qn nC (Nat.ne_of_gt I3.lt) I3.sz (fun x c e=>?_) (fun p hp=>?_) ⟨mm,MO⟩
   ·obtain⟨v,q⟩:=I3.cell x c e;exact js q.lt
   ·exact js (fm (I3.pin p hp).1)
  ·have z:=T.item X' x1 x2 x3 x5 i [] s5 σ5 H5 (fun _ _=>False) I5 (stat Je) Ea go;rw[x4]at z;refine cJ z fun r s6 ⟨u,hr,h6⟩=>?_;subst hr;refine cJ h6 fun _ s7 ⟨x,H7,I7,r7,y7,JB,R5⟩=>?_;have R6:=I7.pinned (stat R5) (T.obj _ _ JB);have again:∀{σ':St} {H':Hp} {s':Shared},Inv X' ([]++lO fp s7.heap) σ' H' s'->Inv X' [] σ' H' s'/\tn (i+1) s'.heap/\∀b∈fp,H' b=none:=fun {σ' H' s'} J=>by refine⟨J.i9,T.keep _ _ _ JB fun b hb o e=>(J.pin (b,o) (List.mem_append_right _ (List.mem_append_right _ (eC hb e)))).1,fun b hb=>?_⟩;obtain⟨o,e,d⟩:=T.obj _ _ JB b hb;exact(J.pin (b,o) (List.mem_append_right _ (List.mem_append_right _ (eC hb e)))).2.1
   have z:=hg' _ s7 σ5 H7 x u _ R6 r7 (step x H7 y7);rw[x1,x2,x4,x6,x7]at z;refine cJ z fun _ s8 ⟨σ8,H8,I8,q8⟩=>?_;have z:=ht' _ s8 σ8 H8 _ I8 q8;rw[x1,x2,x4,x6,x7]at z;refine cJ z fun b s9 ⟨H9,I9,q9⟩=>?_;cases b with
   | false=>
    rw[if_neg kt]at q9 ⊢;obtain⟨m',hm,w9⟩:=hN _ _ _ q9;obtain⟨a1,a2,a3⟩:=again I9;exact⟨m',hm,i+1,σ8,ys,H9,a1,a2,a3,w9⟩
   | true=>
    rw[if_pos rfl]at q9 ⊢;have z:=he' _ s9 σ8 H9 _ I9 q9;rw[x1,x2,x4,x6,x7]at z;refine cJ z fun v' JC ⟨y,R7,R8,r10,JD,hz,w10⟩=>?_;have z:=bV (X:=X') _ JC σ8 R7 (.ref D) [y] (.ref D) [v'] (fun _ H'=>N σ8 (ys++ [y]) H') R8 rfl (.cons r10 .nil) ⟨D,ys,y,rfl,rfl,JD,hz,w10⟩;rw[x1,x2,x4,x7]at z;refine cJ z fun _ Bf ⟨_,QT,R9,_,w11⟩=>?_;obtain⟨m',hm,w11⟩:=hN _ _ _ w11;obtain⟨a1,a2,a3⟩:=again R9;exact⟨m',hm,i+1,σ8,_,QT,a1,a2,a3,w11⟩
 exact codeAny_compStart_list loop (T.self _ 0 _ _ _ JA loop)
theorem dQ{X:Cx}{elt tg iter:Expr}{ifs:List Expr}{scope:Scope}{pos:Pos}{wi:TI}{g:TG}{tt:TT}{te:TE}{N':List Str}{fr:List (Option Nat)}(S:cS X.env.scope scope X.N N' fr)(hc:X.calm=true)(hi:PI X tg iter wi)
  (hg:∀C s0 H0 fp,PG (cV X scope C N' s0 H0 fp) tg g) (ht:∀C s0 H0 fp,El (cV X scope C N' s0 H0 fp) ifs tt) (he:∀C s0 H0 fp,PE (cV X scope C N' s0 H0 fp) elt te)
  (hs:∀x,foldedSetIterable iter X.env x=pure x:=by intro _;rfl):PE X (.ListComp elt [⟨tg,iter,ifs,0⟩] scope pos) (u7 fr wi g tt te):=by
 intro kb s σ H Q I h;rw[eval_ListComp];refine u9 S hc hi hg ht he hs I h none _ fun D C H5 s6 IX q nC c1 c2 c3 c4 hm=>?_;obtain⟨m,hm⟩:=hm;refine⟨m,hm,fun h' hs'=>⟨.ref D,H5,IX.turned (t':=s6.toks) (it:=C) (fun b o hb e=>hs'.extBut b o hb e) nC c1 (.inr c2) c3 c4,rfl,q⟩⟩
theorem sI{X:Cx}{elt tg iter:Expr}{ifs:List Expr}{scope:Scope}{pos spos py:Pos}{y:Str}{i:Nat}{wi:TI}{g:TG}{tt:TT}{te:TE}{N':List Str}{fr:List (Option Nat)}(hN:X.N.Nodup)(hy:X.N[i]? =some y)(hl:X.env.scope.names.lookup y=some .local)
  (S:cS X.env.scope scope X.N N' fr) (hc:X.calm=true) (hi:PI X tg iter wi)
  (hg:∀C s0 H0 fp,PG (cV X scope C N' s0 H0 fp) tg g) (ht:∀C s0 H0 fp,El (cV X scope C N' s0 H0 fp) ifs tt) (he:∀C s0 H0 fp,PE (cV X scope C N' s0 H0 fp) elt te)
  (hs:∀x,foldedSetIterable iter X.env x=pure x:=by intro _;rfl) (hsw:swapsWith (.ListComp elt [⟨tg,iter,ifs,0⟩] scope pos) (some (.Name y py)) spos.line X.env=pure true:=by rfl):
  PS X (.Assign [.Name y py] (.ListComp elt [⟨tg,iter,ifs,0⟩] scope pos) spos) (Jb (u7 fr wi g tt te) (uM i)):=by
 intro kb s σ H D I h;rw[exec_Assign_Name_used _ _ _ _ hsw];refine c8 (wpAny_standAt (c8 ?_));show wpAny _ X.A (do let _ <-comprehension (.ListComp elt [⟨tg,iter,ifs,0⟩] scope pos) scope X.env _ (newList []) false (eval iter X.env) (some (assign (.Name y py) X.env))) _ _ s;refine c8 (cJ (u9 S hc hi hg ht he hs I h (some (assign (.Name y py) X.env)) (fun _ s'=>SP X kb D .next s') fun L C H5 s6 IX q nC c1 c2 c3 c4 hm=>?_) fun _ s' hq=>db (db hq));obtain⟨m,hm⟩:=hm;show wpAny _ X.A (assign (.Name y py) X.env (.ref L)) _ _ _;refine wpAny_assign_Name (qP IX hN hy (.inl hl) (show RelV (.ref L) (Value.ref L)from rfl) (fun s7 I7 hch=>?_) (.inr hl));obtain⟨a,hsb,ha⟩:=hch;have ZJ:C≠a:=by
  rcases ha with ha | ha
  ·rw[ha];exact c1
  ·exact(c3 _ _ ha).symm
 refine⟨m,hm.at' (fun o e=>(hsb.2 C ZJ).trans e),fun h' hs'=>⟨_,H5,I7.turned (t':=s7.toks) (it:=C) (fun b o hb e=>hs'.extBut b o hb e) nC c1 (.inr c2) c3 c4,q⟩⟩
theorem oW{lo:Int}{n:Nat}{g:TG}{tt:TT}{te:TE}{R:Hp->Prop}{D:Addr}{σ0:St}{H0:Hp}(Pv:Nat->St->List V->Hp->Prop)(h0:Pv 0 σ0 [] H0)
  (hs:∀i σ ys H,i<n->Pv i σ ys H->g (.int (lo+i)) σ H fun σ2 H2=>tt σ2 H2 fun b H3=>
   if b=true then te σ2 H3 fun v H4=>H4 D=some (.lst ys)/\ys.length<ee/\Pv (i+1) σ2 (ys++ [v]) (upd H4 D (.lst (ys++ [v])))else Pv (i+1) σ2 ys H3)
  (hd:∀σ ys H,Pv n σ ys H->R H):
  ∃W:Nat->Nat->St->List V->Hp->Prop,(∃m,W 0 m σ0 [] H0)/\∀i m σ ys H,W i m σ ys H->
   ((DY lo n).stop i H/\R H)\/((DY lo n).go i H/\∃N:St->List V->Hp->Prop,(∀σ' ys' H',N σ' ys' H'->∃m',m'<m/\W (i+1) m' σ' ys' H')/\∀x H',(DY lo n).yj i H x H'->g x σ H' fun σ2 H2=>tt σ2 H2 fun b H3=>
    if b=true then te σ2 H3 fun v H4=>H4 D=some (.lst ys)/\ys.length<ee/\N σ2 (ys++ [v]) (upd H4 D (.lst (ys++ [v])))else N σ2 ys H3):=by
 refine⟨fun i m σ ys H=>m=n-i/\i<=n/\Pv i σ ys H,⟨n,by simp,Nat.zero_le _,h0⟩,?_⟩;rintro i m σ ys H ⟨rfl,hi,p⟩;by_cases hlt:i<n
 ·refine .inr ⟨hlt,Pv (i+1),fun σ' ys' H' p'=>⟨n- (i+1),by omega,rfl,hlt,p'⟩,fun x H' y=>?_⟩;obtain⟨e,y⟩:=y;subst e y;exact hs i σ ys _ hlt p
 ·have e:i=n:=by omega
  subst e;exact .inl ⟨jp _,hd σ ys H p⟩
theorem eG{K:gv}{a:Addr}{xs:List V}{g:TG}{tt:TT}{te:TE}{R:Hp->Prop}{D:Addr}{σ0:St}{H0:Hp}(Pv:Nat->St->List V->Hp->Prop)(h0:Pv 0 σ0 [] H0)(hl:∀i σ ys H,i<=xs.length->Pv i σ ys H->aV K H a xs)
  (hs:∀i x σ ys H,xs[i]? =some x->Pv i σ ys H->g x σ H fun σ2 H2=>tt σ2 H2 fun b H3=>
   if b=true then te σ2 H3 fun v H4=>H4 D=some (.lst ys)/\ys.length<ee/\Pv (i+1) σ2 (ys++ [v]) (upd H4 D (.lst (ys++ [v])))else Pv (i+1) σ2 ys H3)
  (hd:∀σ ys H,Pv xs.length σ ys H->R H):
  ∃W:Nat->Nat->St->List V->Hp->Prop,(∃m,W 0 m σ0 [] H0)/\∀i m σ ys H,W i m σ ys H->
   ((He K a).stop i H/\R H)\/((He K a).go i H/\∃N:St->List V->Hp->Prop,(∀σ' ys' H',N σ' ys' H'->∃m',m'<m/\W (i+1) m' σ' ys' H')/\∀x H',(He K a).yj i H x H'->g x σ H' fun σ2 H2=>tt σ2 H2 fun b H3=>
    if b=true then te σ2 H3 fun v H4=>H4 D=some (.lst ys)/\ys.length<ee/\N σ2 (ys++ [v]) (upd H4 D (.lst (ys++ [v])))else N σ2 ys H3):=by
 refine⟨fun i m σ ys H=>m=xs.length-i/\i<=xs.length/\Pv i σ ys H,⟨xs.length,by simp,Nat.zero_le _,h0⟩,?_⟩;rintro i m σ ys H ⟨rfl,hi,p⟩;have q:=hl i σ ys H hi p;by_cases hlt:i<xs.length
 ·refine .inr ⟨⟨xs,xs[i],q,by simp[hlt]⟩,Pv (i+1),fun σ' ys' H' p'=>⟨xs.length- (i+1),by omega,rfl,hlt,p'⟩,fun x H' y=>?_⟩;obtain⟨e,y⟩:=y;subst e;exact hs i x σ ys _ (y xs q) p
 ·have e:i=xs.length:=by omega
  subst e;exact .inl ⟨⟨xs,q,jp _⟩,hd σ ys H p⟩
end L2
namespace SF
open PySem
end SF
namespace SF
open PySem PySem.Calls PyProof.Rows
section
variable {prog:Program}{w:World}{A:Around}{E:Value->Shared->Prop}{s:Shared}
set_option maxHeartbeats 8000000 in
end
end SF
namespace L2
open PySem PySem.Spec PyProof.Rows
section
variable {X:Cx}
inductive qt(K:gv)(xs:List V)(H:Hp)(Q:VK):Prop
 | mk (x:V) (n:String) (t:Value) (b:Bool) (_:xs=[x,.ty n]) (_:lQ K H x t) (_:PySem.W.kitOne K t (.type n)=some b) (_:Q (.bl b) H)
theorem dm:iq X (.builtin "isinstance") (qt X.K):=by intro kb s σ H xs us Q I r h;obtain⟨x,n,t,b,rfl,ht,hk,q⟩:=h;obtain⟨u,v,rfl,ru,rv⟩:=vals2 r;cases rv;exact Ab I ru ht hk fun tk=>⟨.bl b,H,I.tok tk,rfl,q⟩
end
open PySem PySem.W PySem.Spec PySem.Calls PyProof.Rows
section
variable {X:Cx}{pos pos':Pos}{o i value:Expr}{td ty tv:TE}
end
open PySem PySem.Spec PyProof.Rows
section
variable {X:Cx}{kb:List (Addr×Obj)}{σ:St}{H:Hp}{s:Shared}{h':Heap}
theorem Inv.rg{t':Nat}{its:List Addr}{a:Addr}{o:HO}(I:Inv X kb σ H s)(k:∀b u,b∉its->s.heap.get? b=some u->h'.get? b=some u)(hf:∀b∈its,kl X kb H b)
  (hp:s.heap.objs.size<=a) (new:cM X.prog X.w (upd H a o) h' a o):Inv X kb σ (upd H a o) {s with heap:=h',toks:=t'}:=by
 have hn:H a=none:=I.hok.fresh hp;have Hb:∀b u,H b=some u->b∉its:=fun b u e z=>by rw[(hf b z).1]at e;cases e
 have ZK:∀b u,s.heap.get? b=some u->b≠a:=fun b u e=>js (Nat.lt_of_lt_of_le (fm e) hp);refine I.step (g':=s.gens) (d':=s.drawn) (ch:=its) (fun b hb=>?_) (fun b o _ _ hc e _=>k b o hc e) (fun b o _ _ hc e _=>⟨o.slots,k b o hc e⟩) (fun b u _ e n=>?_)
  (fun b o hc e=>⟨o,k b o hc e⟩) (fun b xs e=>?_) (fun b u v e=>?_) (fun b ps e=>⟨#[],?_⟩) (fun m hm=>?_) (fun b u e=>?_) I.bare
 ·obtain⟨_,f1,f2,f3,f4,f5⟩:=hf b hb;exact⟨f3,f1,f4,f5⟩
 ·rw[aG (ZK b u e)];exact n
 ·rw[aG (cI e hn)];exact e
 ·rw[aG (cI e hn)];exact e
 ·rw[aG (cI e hn),e];simp
 ·obtain⟨o,es,ep,ho,r⟩:=hm;exact⟨o,es,ep,k _ o (fun z=>(hf _ z).2.1 rfl) ho,r⟩
 ·by_cases hb:b=a
  ·subst hb;rw[ai]at e;cases e;exact new
  ·rw[aG hb]at e;refine(I.hok b u e).stay (fun c v hc q=>k c v ?_ q) (fun c q=>by rw[aG (cI q hn)];exact q) fun c xs q=>by rw[aG (cI q hn)];exact q
   rcases hc with z | z
   ·rw[z];exact Hb b u e
   ·exact Hb c _ z
theorem Inv.Em{t':Nat}{its:List Addr}(I:Inv X kb σ H s)(k:∀b u,b∉its->s.heap.get? b=some u->h'.get? b=some u)(hf:∀b∈its,kl X kb H b):Inv X kb σ H {s with heap:=h',toks:=t'}:=by
 have Hb:∀b u,H b=some u->b∉its:=fun b u e z=>by rw[(hf b z).1]at e;cases e
 refine I.step (g':=s.gens) (d':=s.drawn) (ch:=its) (fun b hb=>?_) (fun b o _ _ hc e _=>k b o hc e) (fun b o _ _ hc e _=>⟨o.slots,k b o hc e⟩) (fun b u _ e n=>n)
  (fun b o hc e=>⟨o,k b o hc e⟩) (fun b xs e=>e) (fun b u v e=>e) (fun b ps e=>⟨#[],by rw[e];simp⟩) (fun m hm=>?_) (fun b u e=>?_) I.bare
 ·obtain⟨_,f1,f2,f3,f4,f5⟩:=hf b hb;exact⟨f3,f1,f4,f5⟩
 ·obtain⟨o,es,ep,ho,r⟩:=hm;exact⟨o,es,ep,k _ o (fun z=>(hf _ z).2.1 rfl) ho,r⟩
 ·refine(I.hok b u e).stay (fun c v hc q=>k c v ?_ q) (fun _ q=>q) fun _ _ q=>q;rcases hc with z | z
  ·rw[z];exact Hb b u e
  ·exact Hb c _ z
def Ite(K:gv)(a:Addr):It :=
 ⟨fun i H=>∃xs x,aV K H a xs/\xs[i]? =some x,
   fun i H x H'=>∃t y,H t=none/\x=.ref t/\H'=upd H t (.tup [.int i,y])/\∀xs,aV K H a xs->xs[i]? =some y,
   fun i H=>∃xs,aV K H a xs/\xs.length<=i⟩
theorem Ao{P:Program}{w:World}{K:gv}{elts:List Expr}{x1}{pos:Pos}(a e it:Addr)(hne:e≠it):
  Turn P w K (.Tuple elts x1 pos) (Ite K a) [e,it] e (fun i h=>(∃old,IsEnum h e it i old)/\h.IsListIter it a i) where
 mem:=by simp
 obj:=fun i h st b hb=>by
  obtain⟨⟨old,he⟩,o,eo,c,d⟩:=st;rcases List.mem_cons.mp hb with rfl | hb
  ·exact⟨_,he,fun v z=>by
    have z':Data.fields _=Data.cell v:=z
    cases z'⟩
  ·rw[av.mp hb];exact⟨o,eo,fun v z=>by rw[d]at z;cases z⟩
 keep:=fun i h h' st k=>⟨st.1.elim fun old he=>⟨old,k e (by simp) _ he⟩,st.2.at fun o eo=>k it (by simp) o eo⟩
 item:=by
  intro X hP hw hK hc i kb s σ H E I hf st hg;subst hP hw hK;obtain⟨xs,x,hq,hx⟩:=hg;obtain⟨⟨old,he⟩,hit⟩:=st;obtain⟨its,rv,p,hz⟩:=I.list hq;obtain⟨u,hu,ru⟩:=rv.get hx;refine wpAny_pyNext_enum_item he hit p.isList (x:=u) (by simpa using hu) hne fun h1 QU hit1 ht1 hz1 k1=>?_;refine⟨_,rfl,wpAny_letOwnedTupleGo_enum QU fun h2 he2 hs2=>?_⟩;have MP:s.heap.objs.size≠e:=Nat.ne_of_gt (fm he);have MQ:=(hs2.2 s.heap.objs.size MP).trans ht1;have hk:∀b o,b∉ [e,it]->s.heap.get? b=some o->h2.get? b=some o:=fun b o hb e'=>by
   have hb':b≠e/\b≠it:=by simpa using hb
   exact(hs2.2 b hb'.1).trans (k1 b o hb'.1 hb'.2 e')
  have hfr:H s.heap.objs.size=none:=I.hok.fresh (jp _);refine⟨.ref s.heap.objs.size,upd H s.heap.objs.size (.tup [.int i,x]),I.rg (t':=s.toks+1) hk hf (jp _) ?_,rfl,⟨_,x,hfr,rfl,rfl,fun ys hy=>by rw[I.ox hy hq];exact hx⟩,⟨⟨u,?_⟩,?_⟩,fun b hb=>?_⟩
  ·exact⟨by show 2<=ee;decide,[.int i s.toks,u],.cons ⟨_,rfl⟩ (.cons ru .nil),⟨_,MQ,rfl,_,rfl⟩⟩
  ·exact he2
  ·obtain⟨o,e1,e2⟩:=hit1;exact⟨o,(hs2.2 it (Ne.symm hne)).trans e1,e2⟩
  ·have:b≠s.heap.objs.size:=by
    rcases List.mem_cons.mp hb with rfl | hb
    ·exact Ne.symm MP
    ·rw[av.mp hb];obtain⟨o,e1,_⟩:=hit;exact js (fm e1)
   rw[aG this];exact(hf b hb).1
 done:=by intro X hP hw hK hc i kb s σ H E I hf st hg;subst hP hw hK;obtain⟨xs,hq,hx⟩:=hg;obtain⟨⟨old,he⟩,hit⟩:=st;obtain⟨its,rv,p,hz⟩:=I.list hq;obtain⟨f0,f1,f2,f3,f4,f5⟩:=hf it (by simp);have hl:=rv.length;exact wpAny_pyNext_enum_end (I.ok.hd hc) he hit p.isList (by simp;omega) fun h' eb=>⟨rfl,I.turned (t':=s.toks) (fun b o hb e=>eb b o hb e) f0 f1 f3 f4 f5⟩
 self:=fun _ _ _ _ _ st h=>st.1.elim fun _ he=>wpAny_pyIter_enum he h
def MR(K:gv)(ta:TA):TI:=fun σ H R=>ta σ H fun vs H1=>∃a,vs=[.ref a]/\(∃xs,aV K H1 a xs)/\R (Ite K a) H1
theorem En:bootBuiltins "enumerate"=some (.type "enumerate"):=by decide+kernel
theorem fX{a:Expr}{ta:TA}{p pos:Pos}{elts:List Expr}{x1}{tpos:Pos}(hg:Gl X "enumerate")(hm:X.mg "enumerate"=none)(ha:PA X [a] ta)(hs:starEach [a] X.env=[(false,eval a X.env)]:=by rfl):
  PI X (.Tuple elts x1 tpos) (.Call (.Name "enumerate" p) [a] [] pos) (MR X.K ta):=by
 intro kb s σ H R I h;refine Call_ (jZ I hg hm En (PyProof.Rows.callWith_type1 (cJ (ha pos kb s σ H _ I h) fun us s1 ⟨vs,H1,I1,r1,q1⟩=>?_) hs rfl));obtain⟨a,e,⟨xs,hq⟩,q⟩:=q1;subst e;obtain⟨u,rfl,ru⟩:=vals1 r1;cases ru;obtain⟨its,rv,p,hz⟩:=I1.list hq;refine call_enumerate_list p.isList fun h' he hit hsz hk=>?_;refine wpAny_pyIter_enum he ?_;refine⟨s1.heap.objs.size+1,[s1.heap.objs.size+1,s1.heap.objs.size],_,_,H1,rfl,I1.kept (t':=s1.toks) hk,Ao a _ _ (Nat.succ_ne_self _),⟨⟨_,he⟩,hit⟩,fun b hb=>?_,q⟩;have hb':s1.heap.objs.size<=b:=by
  rcases List.mem_cons.mp hb with rfl | hb
  ·exact Nat.le_succ _
  ·rw[av.mp hb];exact jp _
 exact I1.v9 hb' (I1.hok.fresh hb')
theorem eZ{K:gv}{a:Addr}{xs:List V}{g:TG}{tb:TS}{D:Ends}{σ:St}{H:Hp}(Pv:Nat->St->Hp->Prop)(h0:Pv 0 σ H)(hl:∀i σ H,i<=xs.length->Pv i σ H->aV K H a xs)
  (hs:∀i x σ H t,xs[i]? =some x->H t=none->Pv i σ H->g (.ref t) σ (upd H t (.tup [.int i,x])) fun σ2 H2=>tb {D with nx:=Pv (i+1),ct:=Pv (i+1),bk:=D.nx} σ2 H2) (hd:∀σ H,Pv xs.length σ H->D.nx σ H):
  ∃W:Nat->Nat->St->Hp->Prop,(∃m,W 0 m σ H)/\∀i m σ H,W i m σ H->
   ((Ite K a).stop i H/\D.nx σ H)\/((Ite K a).go i H/\∃N:St->Hp->Prop,(∀σ' H',N σ' H'->∃m',m'<m/\W (i+1) m' σ' H')/\∀x H',(Ite K a).yj i H x H'->g x σ H' fun σ2 H2=>tb {D with nx:=N,ct:=N,bk:=D.nx} σ2 H2):=by
 refine⟨fun i m σ H=>m=xs.length-i/\i<=xs.length/\Pv i σ H,⟨xs.length,by simp,Nat.zero_le _,h0⟩,?_⟩;rintro i m σ H ⟨rfl,hi,p⟩;have q:=hl i σ H hi p;by_cases hlt:i<xs.length
 ·refine .inr ⟨⟨xs,xs[i],q,by simp[hlt]⟩,Pv (i+1),fun σ' H' p'=>⟨xs.length- (i+1),by omega,rfl,hlt,p'⟩,fun x H' y=>?_⟩;obtain⟨t,y,hn,e1,e2,hy⟩:=y;subst e1 e2;exact hs i y σ _ t (hy xs q) hn p
 ·have e:i=xs.length:=by omega
  subst e;exact .inl ⟨⟨xs,q,jp _⟩,hd σ H p⟩
end
open PySem PySem.W PySem.Spec PySem.Calls PyProof.Rows
def NF(X:Cx)(a:Addr):Prop:=∀o u,X.H₀ a≠some (.jI o u)
section
variable {X:Cx}{kb:List (Addr×Obj)}{σ:St}{H:Hp}{s:Shared}{a:Addr}{kvs:List (Key×V)}
theorem Inv.freeze(I:Inv X kb σ H s)(e:H a=some (.dK kvs)):NF X a/\∃o,s.heap.get? a=some o/\Inv X kb σ (upd H a (.jI o (.dK kvs))) s:=by
 have x:=I.hok a _ e;obtain⟨z,y,vs,r,ob,es,ep,g,c⟩:=id x;refine⟨fun o u h=>?_,ob,g,?_⟩
 ·have:=I.base.iZ a o u h;rw[e]at this;cases this
 ·exact I.write (x:=a) (e:=a) (h':=s.heap) (t':=s.toks) (by rw[e];exact True.intro) (.inl rfl) (fun b u _ q=>q) ⟨ob,g⟩ ⟨g,z,y,vs,r,ob,es,ep,g,c⟩
theorem Inv.Sb{o:Obj}(I:Inv X kb σ H s)(e:H a=some (.jI o (.dK kvs)))(n:NF X a):Inv X kb σ (upd H a (.dK kvs)) s:=by
 have x:cM X.prog X.w H s.heap a (.jI o (.dK kvs)):=I.hok a _ e;have ne:∀b u,H b=some u->(∀o' u',u≠.jI o' u')->b≠a:=fun b u h hn=>Ha h e (hn _ _);refine⟨I.ok,I.os,I.bare,⟨I.base.keep,I.base.slot,fun b ob q nb hx=>?_,I.base.there,fun b xs q=>?_,fun b ob u q=>?_,fun b ps q=>?_⟩,I.loc,I.cell,?_,fun y c hc=>?_,fun p hp=>?_,fun b u q=>?_,I.len⟩
 ·have h:=I.base.free b ob q nb hx;rw[aG (fun z=>by rw[z,e]at h;cases h)];exact h
 ·have h:=I.base.tups b xs q;rw[aG (ne b _ h (by intro _ _ z;cases z))];exact h
 ·have h:=I.base.iZ b ob u q;have hb:b≠a:=fun z=>n ob u (by rw[<-z];exact q);rw[aG hb];exact h
 ·obtain⟨more,h⟩:=I.base.jJ b ps q;refine⟨more,?_⟩;rw[aG (ne b _ h (by intro _ _ z;cases z))];exact h
 ·rw[aG (fun z=>by have:=I.free;rw[z,e]at this;cases this)];exact I.free
 ·rw[aG (fun z=>by have:=I.iR y c hc;rw[z,e]at this;cases this)];exact I.iR y c hc
 ·obtain⟨p1,p2,p3⟩:=I.pin p hp;refine⟨p1,?_,p3⟩;rw[aG (fun z=>by rw[z,e]at p2;cases p2)];exact p2
 ·by_cases hb:b=a
  ·subst hb;rw[ai]at q;cases q;exact x.2.stay (fun c v _ q=>q) (fun c q=>by rw[aG (ne c _ q (by intro _ _ z;cases z))];exact q) fun c xs q=>by rw[aG (ne c _ q (by intro _ _ z;cases z))];exact q
  ·rw[aG hb]at q;exact(I.hok b u q).stay (fun c v _ q=>q) (fun c q=>by rw[aG (ne c _ q (by intro _ _ z;cases z))];exact q) fun c xs q=>by rw[aG (ne c _ q (by intro _ _ z;cases z))];exact q
def MS(X:Cx)(t:TS):TS:=fun D σ H=>t {D with nx:=fun σ' H'=>∃a o kvs,H' a=some (.jI o (.dK kvs))/\NF X a/\D.nx σ' (upd H' a (.dK kvs))} σ H
theorem Eo{X:Cx}{st:Stmt}{t:TS}(h:PS X st t):PS X st (MS X t):=fun kb s σ H D I hw=>
 eg (h kb s σ H _ I hw) (fun f s' q=>by
  cases f with
  | next=>
   obtain⟨σ',H',I',a,o,kvs,ea,n,q⟩:=q;exact⟨σ',_,I'.Sb ea n,q⟩
  | brk=>exact q
  | cont=>exact q
  | ret u=>exact q) fun _ _ z=>z
theorem wy{α β:Type}{R:α->β->Prop}{xs:List α}{ys:List β}(r:Paired R xs ys):∀{i:Nat} {x:α},xs[i]? =some x->∃y,ys[i]? =some y/\R x y:=by
 induction r with
 | nil=>intro i x h;simp at h
 | cons h t ih=>
  intro i x e;cases i with
  | zero=>
   have e':=Option.some.inj e;subst e';exact⟨_,rfl,h⟩
  | succ i=>exact ih (by simpa using e)
theorem JE{P:Program}{w:World}{k:Key}{u:Value}(h:(cW P w).is k u=true):RelV (kV k) u:=by
 rcases cP h with ⟨i,t,rfl,rfl⟩ | ⟨x,t,rfl,rfl⟩
 ·exact⟨t,rfl⟩
 ·exact⟨t,rfl⟩
theorem wz{X:Cx}{kb:List (Addr×Obj)}{σ:St}{H:Hp}{s:Shared}{a:Addr}{o:Obj}{kvs:List (Key×V)}(I:Inv X kb σ H s)(e:H a=some (.jI o (.dK kvs))):
  (a==sysModules)=false/\kvs.length<=ee/\∃vs es ep,o.data=.dict es ep/\KV kvs vs/\s.heap.DictAt (cW X.prog X.w) a vs ep:=by
 obtain⟨g,z,y,vs,r,ob,es,ep,g',c1,c2,c3⟩:=(show cM X.prog X.w H s.heap a (.jI o (.dK kvs))from I.hok a _ e);rw[g]at g';cases g';exact⟨y,z,vs,es,ep,c2,r,o,es,g,c1,c2,c3⟩
def Hm(a:Addr)(o:Obj)(kvs:List (Key×V)):It :=
 ⟨fun i H=>H a=some (.jI o (.dK kvs))/\i<kvs.length,
   fun i H x H'=>H'=H/\∃k y,kvs[i]? =some (k,y)/\x=kV k,
   fun i H=>H a=some (.jI o (.dK kvs))/\kvs.length<=i⟩
theorem Ap{P:Program}{w:World}{K:gv}{tg:Expr}(a it:Addr)(o:Obj)(kvs:List (Key×V)){es:Array DictEntry}{ep:Nat}(ho:o.data=.dict es ep):
  Turn P w K tg (Hm a o kvs) [it] it (fun i h=>h.IsKeyIter it a i kvs.length ep) where
 mem:=by simp
 obj:=fun i h st b hb=>by obtain⟨ob,eo,c,d⟩:=st;rw[av.mp hb];exact⟨ob,eo,fun v z=>by rw[d]at z;cases z⟩
 keep:=fun i h h' st k=>st.at fun ob eo=>k it (by simp) ob eo
 item:=by intro X hP hw hK hc i kb s σ H E I hf st hg;subst hP hw hK;obtain⟨ha,hi⟩:=hg;obtain⟨y,z,vs,es',ep',ho',r,dA⟩:=wz I ha;rw[ho]at ho';cases ho';have hl:=r.length;have hk1:kvs[i]? =some kvs[i]:=aa hi;obtain⟨kv,hkv,rk,ru⟩:=wy r hk1;obtain⟨ob,eo,c,d⟩:=id st;rw[hl]at st;refine wpAny_pyNext_dict_item st dA (k:=kv.1) (v:=kv.2) hkv fun key h' hkey hit' hs'=>?_;refine⟨key,rfl,?_⟩;obtain⟨ob',ZL,c',d'⟩:=id hit';obtain⟨f0,f1,f2,f3,f4,f5⟩:=hf it (by simp);refine uN (n :="dict_keyiterator") ZL c' d' (by decide) ?_;refine⟨kV kv.1,H,I.turned (t':=s.toks) (fun b o hb e=>(hs'.2 b hb).trans e) f0 f1 f3 f4 f5,JE hkey,⟨rfl,kvs[i].1,kvs[i].2,hk1,by rw[rk]⟩,by rw[hl];exact hit',fun b hb=>(hf b hb).1⟩
 done:=by intro X hP hw hK hc i kb s σ H E I hf st hg;subst hP hw hK;obtain⟨ha,hi⟩:=hg;obtain⟨y,z,vs,es',ep',ho',r,dA⟩:=wz I ha;rw[ho]at ho';cases ho';have hl:=r.length;rw[hl]at st;obtain⟨f0,f1,f2,f3,f4,f5⟩:=hf it (by simp);exact wpAny_pyNext_dict_end (I.ok.hd hc) st dA (List.getElem?_eq_none (by omega)) fun h' eb=>⟨rfl,I.turned (t':=s.toks) (fun b o hb e=>eb b o hb e) f0 f1 f3 f4 f5⟩
 self:=fun _ _ _ _ _ st h=>wpAny_pyIter_keyiter st h
def MT(X:Cx)(td:TE):TI:=fun σ H R=>td σ H fun x H1=>∃a kvs,x=.ref a/\H1 a=some (.dK kvs)/\∀o,NF X a->R (Hm a o kvs) (upd H1 a (.jI o (.dK kvs)))
theorem yA{tg e:Expr}{td:TE}(hd:PE X e td):PI X tg e (MT X td):=by
 intro kb s σ H R I h;refine cJ (hd kb s σ H _ I h) fun u s1 ⟨x,H1,I1,rx,a,kvs,ex,ea,q⟩=>?_;subst ex;obtain rfl:u=Value.ref a:=rx;obtain⟨nf,o,ho,I2⟩:=I1.freeze ea;obtain⟨y,z,vs,es,ep,hod,r,dA⟩:=wz I2 (ai (H:=H1) (a:=a));have hl:=r.length;refine wpAny_pyIter_dict y dA ?_;have hn:=I2.hok.fresh (jp s1.heap.objs.size);refine⟨s1.heap.objs.size,[s1.heap.objs.size],_,_,_,rfl,I2.kept (t':=s1.toks) (fun b o e=>fg _ e),Ap a _ o kvs hod,?_,fun b hb=>?_,q o nf⟩
 ·exact⟨_,fk _ rfl,rfl,by rw[hl];rfl⟩
 ·rw[av.mp hb];exact I2.v9 (jp _) hn
theorem BG{a:Addr}{o:Obj}{kvs:List (Key×V)}{g:TG}{tb:TS}{D:Ends}{σ:St}{H:Hp}(Pv:Nat->St->Hp->Prop)(h0:Pv 0 σ H)(hl:∀i σ H,i<=kvs.length->Pv i σ H->H a=some (.jI o (.dK kvs)))
  (hs:∀i k y σ H,kvs[i]? =some (k,y)->Pv i σ H->g (kV k) σ H fun σ2 H2=>tb {D with nx:=Pv (i+1),ct:=Pv (i+1),bk:=D.nx} σ2 H2) (hd:∀σ H,Pv kvs.length σ H->D.nx σ H):
  ∃W:Nat->Nat->St->Hp->Prop,(∃m,W 0 m σ H)/\∀i m σ H,W i m σ H->
   ((Hm a o kvs).stop i H/\D.nx σ H)\/((Hm a o kvs).go i H/\∃N:St->Hp->Prop,(∀σ' H',N σ' H'->∃m',m'<m/\W (i+1) m' σ' H')/\∀x H',(Hm a o kvs).yj i H x H'->g x σ H' fun σ2 H2=>tb {D with nx:=N,ct:=N,bk:=D.nx} σ2 H2):=by
 refine⟨fun i m σ H=>m=kvs.length-i/\i<=kvs.length/\Pv i σ H,⟨kvs.length,by simp,Nat.zero_le _,h0⟩,?_⟩;rintro i m σ H ⟨rfl,hi,p⟩;have q:=hl i σ H hi p;by_cases hlt:i<kvs.length
 ·refine .inr ⟨⟨q,hlt⟩,Pv (i+1),fun σ' H' p'=>⟨kvs.length- (i+1),by omega,rfl,hlt,p'⟩,fun x H' y=>?_⟩;obtain⟨rfl,k,v,e,rfl⟩:=y;exact hs i k v σ _ e p
 ·have e:i=kvs.length:=by omega
  subst e;exact .inl ⟨⟨q,jp _⟩,hd σ H p⟩
variable {A:Around}
end
section
variable {prog:Program}{w:World}{K:Type}[DecidableEq K]{knd:KeyKind prog w K}{A:Around}{R:Result->Shared->Prop}
end
open PySem PySem.Spec PyProof.Rows
section
variable {X:Cx}{k:Nat}{e a:Expr}{es:List Expr}{pos:Pos}{te:TE}{t:TA}
end
def Aq(K:gv)(P:Params)(a:Addr)(x:Str)(r:Option V):Prop :=
 ∃(es:Array DictEntry) (n:Nat),K.lookup a=some ⟨.type "dict",none,.dict es n,#[]⟩/\PySem.W.KeysLit P es.toList/\(a==sysModules)=false/\∃q,PySem.W.nsIn K a x=some q/\jH r q
def MU(K:gv)(P:Params)(td ty:TE):TE:=fun σ H Q=>td σ H fun x H1=>ty σ H1 fun y H2=>∃a k v,x=.ref a/\y=.str k/\Aq K P a k (some v)/\Q v H2
def Sd(K:gv)(P:Params)(ty td:TE):TE:=fun σ H Q=>ty σ H fun y H1=>td σ H1 fun x H2=>∃a k r,x=.ref a/\y=.str k/\Aq K P a k r/\Q (.bl r.isSome) H2
section
variable {X:Cx}{o i:Expr}{pos:Pos}{td ty:TE}
theorem gS(ho:PE X o td)(hi:PE X i ty)(hs:Jt i):PE X (.Subscript o i pos) (MU X.K X.w.params td ty):=by intro kb s σ H Q I h;refine yu PySem.F.slot_dict_getitem.lookup hs (cJ (ho kb s σ H _ I h) fun u s1 ⟨x,H1,I1,rx,q1⟩=>cJ (hi kb s1 σ H1 _ I1 q1) fun iv s2 ⟨y,H2,I2,ry,a,k,v,ex,ey,g,q2⟩=>?_);subst ex ey;obtain rfl:u=Value.ref a:=rx;obtain⟨t,rfl⟩:=ry;obtain⟨es,n,hl,hk,hm,q,hq,rq⟩:=g;obtain⟨w',hw,Ae⟩:=jH.some_of (v:=v) (o:=q) rq;subst hw;have mo:=PySem.W.mapOf_K (prog:=X.prog) (w:=X.w) I2.lL hl hk;exact⟨mo.typeIs,wpAny_getItem_of (strKind_is X.prog X.w k t) mo (PySem.W.find_K hl hq) ⟨v,H2,I2.tok _,Ae,q2⟩⟩
theorem JF(hi:PE X i ty)(ho:PE X o td):PC X .In i o (Sd X.K X.w.params ty td):=by intro kb s σ H Q I h;refine cJ (hi kb s σ H _ I h) fun iv s1 ⟨y,H1,I1,ry,q1⟩=>cJ (ho kb s1 σ H1 _ I1 q1) fun u s2 ⟨x,H2,I2,rx,a,k,r,ex,ey,g,q2⟩=>?_;subst ex ey;obtain rfl:u=Value.ref a:=rx;obtain⟨t,rfl⟩:=ry;obtain⟨es,n,hl,hk,hm,q,hq,rq⟩:=g;have mo:=PySem.W.mapOf_K (prog:=X.prog) (w:=X.w) I2.lL hl hk;refine wpAny_in_of (strKind_is X.prog X.w k t) hm mo ?_;rw[PySem.W.find_K hl hq,<-rq.eF];exact⟨.bl r.isSome,H2,I2.tok _,rfl,q2⟩
variable {e f:Expr}{apos cpos:Pos}{tx:TE}
theorem Ar{K:gv}{a:Addr}{xs:List V}{g:TG}{tt:TT}{te:TE}{R:Hp->Prop}{D:Addr}{σ0:St}{H0:Hp}(Pv:Nat->St->List V->Hp->Prop)(h0:Pv 0 σ0 [] H0)(hl:∀i σ ys H,i<=xs.length->Pv i σ ys H->aV K H a xs)
  (hs:∀i x σ ys H t,xs[i]? =some x->H t=none->Pv i σ ys H->g (.ref t) σ (upd H t (.tup [.int i,x])) fun σ2 H2=>tt σ2 H2 fun b H3=>
   if b=true then te σ2 H3 fun v H4=>H4 D=some (.lst ys)/\ys.length<ee/\Pv (i+1) σ2 (ys++ [v]) (upd H4 D (.lst (ys++ [v])))else Pv (i+1) σ2 ys H3)
  (hd:∀σ ys H,Pv xs.length σ ys H->R H):
  ∃W:Nat->Nat->St->List V->Hp->Prop,(∃m,W 0 m σ0 [] H0)/\∀i m σ ys H,W i m σ ys H->
   ((Ite K a).stop i H/\R H)\/((Ite K a).go i H/\∃N:St->List V->Hp->Prop,(∀σ' ys' H',N σ' ys' H'->∃m',m'<m/\W (i+1) m' σ' ys' H')/\∀x H',(Ite K a).yj i H x H'->g x σ H' fun σ2 H2=>tt σ2 H2 fun b H3=>
    if b=true then te σ2 H3 fun v H4=>H4 D=some (.lst ys)/\ys.length<ee/\N σ2 (ys++ [v]) (upd H4 D (.lst (ys++ [v])))else N σ2 ys H3):=by
 refine⟨fun i m σ ys H=>m=xs.length-i/\i<=xs.length/\Pv i σ ys H,⟨xs.length,by simp,Nat.zero_le _,h0⟩,?_⟩;rintro i m σ ys H ⟨rfl,hi,p⟩;have q:=hl i σ ys H hi p;by_cases hlt:i<xs.length
 ·refine .inr ⟨⟨xs,xs[i],q,by simp[hlt]⟩,Pv (i+1),fun σ' ys' H' p'=>⟨xs.length- (i+1),by omega,rfl,hlt,p'⟩,fun x H' y=>?_⟩;obtain⟨t,y,hn,e1,e2,hy⟩:=y;subst e1 e2;exact hs i y σ ys _ t (hy xs q) hn p
 ·have e:i=xs.length:=by omega
  subst e;exact .inl ⟨⟨xs,q,jp _⟩,hd σ ys H p⟩
def MV(t u:TS):TS:=fun D σ H=>∃J:St->Hp->Prop,t {D with nx:=J} σ H/\∀σ' H',J σ' H'->u D σ' H'
theorem Ep{X:Cx}{st:Stmt}{rest:List Stmt}{t u:TS}(h1:PS X st t)(h2:qQ X rest u):qQ X (st::rest) (MV t u):=by
 intro kb s σ H D I h;obtain⟨J,h,hJ⟩:=h;refine wpAny_execs_cons (cJ (h1 kb s σ H {D with nx:=J} I h) fun f s1 q=>?_);cases f with
 | next=>
  obtain⟨σ',H',I',q⟩:=q;exact h2 kb s1 σ' H' D I' (hJ _ _ q)
 | ret v=>exact q
 | brk=>exact q
 | cont=>exact q
inductive Se(t:TE)(σ:St)(H:Hp)(Q:VK):Prop
 | mk (J:VK) (_:t σ H J) (_:∀v H',J v H'->Q v H')
theorem oX{X:Cx}{e:Expr}{t:TE}(h:PE X e t):PE X e (Se t):=by intro kb s σ H Q I q;obtain⟨J,q,hJ⟩:=q;exact cJ (h kb s σ H J I q) fun v s1 ⟨x,H1,I1,r,q1⟩=>⟨x,H1,I1,r,hJ _ _ q1⟩
inductive MW(K:gv)(x:V)(y:V)(H:Hp)(Q:VK):Prop
 | mk (a b xs ys) (_:x=.ref a) (_:y=.ref b) (_:H a=some (.tup xs)) (_:bz K H b ys) (_:xs≠ []) (_:xs.length+ys.length<=ee) (_:∀p H',Same H H'->H' p=some (.tup (xs++ys))->Q (.ref p) H')
theorem ku{X:Cx}:jP X (binaryOp .Add) (MW X.K):=by intro kb s σ H x y v u Q I rx ry h;obtain⟨a,b,xs,ys,e1,e2,ha,hb,hx,hz,q⟩:=h;refine jx kb s σ H x y v u Q I rx ry ⟨a,b,xs,ys,e1,e2,bz.of ha,hb,hx,hz,fun e=>q _ _ (fun b o h=>h) (by rw[ha,e,List.append_nil]),fun _ p n=>q _ _ (fun b o h=>?_) ai⟩;rw[aG (cI h n)];exact h
variable {σ:St}
structure JG(X:Cx)(st:Stmt)(t:TS):Prop where
 ps:PS X st t
structure qu(X:Cx)(b:List Stmt)(t:TS):Prop where
 ps:qQ X b t
theorem ay{st:Stmt}{t:TS}(h:PS X st t):JG X st t:=⟨h⟩
theorem cv{c:Expr}{a b:List Stmt}{tc:TT}{t u:TS}{pos:Pos}(hc:PT X c tc)(ha:qu X a t)(hb:qu X b u):JG X (.If c a b pos) (Mf tc t u):=⟨cN hc ha.ps hb.ps⟩
theorem cu{t:TS}(h:qQ X [] t):qu X [] t:=⟨h⟩
theorem au{st:Stmt}{b:List Stmt}{t u:TS}(h:JG X st t)(k:qu X b u):qu X (st::b) (Ma t u):=⟨aq h.ps k.ps⟩
theorem jd{st:Stmt}{b:List Stmt}{t u:TS}(h:JG X st t)(k:qu X b u):qu X (st::b) (MV t u):=⟨Ep h.ps k.ps⟩
theorem aw{st:Stmt}{t:TS}(h:JG X st t):qu X [st] t:=⟨az h.ps⟩
theorem cU{b:List Stmt}{t:TS}{R:TS->Prop}(h:qu X b t)(hr:R t):∃t,qQ X b t/\R t:=⟨t,h.ps,hr⟩
end
inductive Da where
 | non | bl (b:Bool) | int (i:Int) | str (s:Str) | tup (l:List Da) | lst (l:List Da)
mutual
def Da.beq:Da->Da->Bool
 | .non,.non=>true
 | .bl a,.bl b=>a==b
 | .int a,.int b=>decide (a=b)
 | .str a,.str b=>decide (a=b)
 | .tup a,.tup b=>Da.wA a b
 | .lst a,.lst b=>Da.wA a b
 | _,_=>false
def Da.wA:List Da->List Da->Bool
 | [],[]=>true
 | a::r,b::t=>Da.beq a b&&Da.wA r t
 | _,_=>false
end
mutual
theorem Da.beq_iff:∀a b:Da,Da.beq a b=true↔a=b
 | .non,b=>by cases b<;>simp[Da.beq]
 | .bl x,b=>by cases b<;>simp[Da.beq]
 | .int x,b=>by cases b<;>simp[Da.beq]
 | .str x,b=>by cases b<;>simp[Da.beq]
 | .tup x,b=>by
  cases b<;>simp[Da.beq];exact Da.oY _ _
 | .lst x,b=>by
  cases b<;>simp[Da.beq];exact Da.oY _ _
theorem Da.oY:∀a b:List Da,Da.wA a b=true↔a=b
 | [],b=>by cases b<;>simp[Da.wA]
 | x::r,[]=>by simp[Da.wA]
 | x::r,y::t=>by simp[Da.wA];rw[Da.beq_iff x y,Da.oY r t]
end
instance:DecidableEq Da:=fun a b=>decidable_of_iff _ (Da.beq_iff a b)
inductive fY(K:gv)(H:Hp):V->Da->Prop
 | non:fY K H .non .non
 | bl (b:Bool):fY K H (.bl b) (.bl b)
 | int (i:Int):fY K H (.int i) (.int i)
 | str (x:Str):fY K H (.str x) (.str x)
 | tup {p:Addr} {xs:List V} {ds:List Da}:bz K H p xs->xs.length=ds.length->(∀(i:Nat) x d,xs[i]? =some x->ds[i]? =some d->fY K H x d)->fY K H (.ref p) (.tup ds)
 | lst {p:Addr} {xs:List V} {ds:List Da}:aV K H p xs->xs.length=ds.length->(∀(i:Nat) x d,xs[i]? =some x->ds[i]? =some d->fY K H x d)->fY K H (.ref p) (.lst ds)
inductive Da.Nb:Nat->Da->Prop
 | non {n}:Da.Nb n .non
 | int {n i}:Da.Nb n (.int i)
 | str {n i}:Da.Nb n (.str i)
 | tup {n l}:(∀d∈l,Da.Nb n d)->Da.Nb (n+1) (.tup l)
 | lst {n l}:(∀d∈l,Da.Nb n d)->Da.Nb (n+1) (.lst l)
theorem oZ:∀(a b:List Da),a.length=b.length->((List.range a.length).all fun i=>decide (a[i]? =b[i]?))=decide (a=b):=fun a b h=>by
 by_cases e:a=b
 ·subst e;simp
 ·rw[decide_eq_false e];rw[Bool.eq_false_iff];intro z;apply e;apply List.ext_getElem?;intro i;by_cases hi:i<a.length
  ·have:=(List.all_eq_true.mp z) i (List.mem_range.mpr hi);exact of_decide_eq_true this
  ·rw[List.getElem?_eq_none (by omega),List.getElem?_eq_none (by omega)]
section
variable {X:Cx}{kb:List (Addr×Obj)}{σ:St}{H:Hp}{s:Shared}
theorem wB{its:List Value}{xs:List V}(r:Vals xs its){j:Nat}(h:j<its.toArray.size):∃x,xs[j]? =some x/\RelV x its.toArray[j]:=by
 have l:=r.length;have j1:j<xs.length:=by simp at h;omega
 have z1:xs[j]? =some xs[j]:=aa j1;obtain⟨u1,w1,q1⟩:=r.get z1;have e1:its.toArray[j]=u1:=by have:its[j]? =some its[j]:=aa (by omega);rw[this]at w1;simpa using w1
 exact⟨_,z1,by rw[e1];exact q1⟩
theorem kz{p:Addr}{i1 i2:Array Value}(t1:s.heap.IsTuple p i1)(t2:s.heap.IsList p i2):False:=by obtain⟨o,e,c1,n,d⟩:=t1;obtain⟨o',e',c2,n',d'⟩:=t2;rw[e]at e';cases e';rw[c1]at c2;exact absurd c2 (by decide)
theorem BH(I:Inv X kb σ H s){x:V}{a b:Da}(ha:fY X.K H x a)(hb:fY X.K H x b):a=b:=by
 induction ha generalizing b with
 | non=>cases hb;rfl
 | bl _=>cases hb;rfl
 | int _=>cases hb;rfl
 | str _=>cases hb;rfl
 | @tup p xs ds hp hl hd ih=>
  cases hb with
  | @tup q ys es hq hl2 hd2=>
   have Sf:xs=ys:=I.jv hp hq;subst Sf;refine congrArg Da.tup ?_;apply List.ext_getElem (by omega);intro j h1 h2;have g0:xs[j]? =some xs[j]:=aa (by omega);have g1:ds[j]? =some ds[j]:=aa h1;have g2:es[j]? =some es[j]:=aa h2;exact ih j _ _ g0 g1 (hd2 j _ _ g0 g2)
  | @lst q ys es hq hl2 hd2=>
   obtain⟨i1,r1,t1,_⟩:=I.tuple hp;obtain⟨i2,r2,t2,_⟩:=I.list hq;exact(kz t1 t2.isList).elim
 | @lst p xs ds hp hl hd ih=>
  cases hb with
  | @lst q ys es hq hl2 hd2=>
   have Sf:xs=ys:=I.ox hp hq;subst Sf;refine congrArg Da.lst ?_;apply List.ext_getElem (by omega);intro j h1 h2;have g0:xs[j]? =some xs[j]:=aa (by omega);have g1:ds[j]? =some ds[j]:=aa h1;have g2:es[j]? =some es[j]:=aa h2;exact ih j _ _ g0 g1 (hd2 j _ _ g0 g2)
  | @tup q ys es hq hl2 hd2=>
   obtain⟨i1,r1,t1,_⟩:=I.tuple hq;obtain⟨i2,r2,t2,_⟩:=I.list hp;exact(kz t1 t2.isList).elim
theorem jy{A:Around}{m:Nat}{xs ys:List V}{ds es:List Da}{i1 i2:List Value}(r1:Vals xs i1)(r2:Vals ys i2)(hl:xs.length=ds.length)(hl2:ys.length=es.length)
  (ih:∀(j:Nat) x d y e u v,xs[j]? =some x->ds[j]? =some d->ys[j]? =some y->es[j]? =some e->RelV x u->RelV y v->SeqAt.EqAt A s u v (decide (d=e)))
  (j:Nat) (h1:j<i1.toArray.size) (h2:j<i2.toArray.size):SeqAt.EqAt A s i1.toArray[j] i2.toArray[j] (decide (ds[j]? =es[j]?)):=by
 obtain⟨x1,z1,q1⟩:=wB r1 h1;obtain⟨x2,z2,q2⟩:=wB r2 h2;have k1:=(ad.mp z1).1;have k2:=(ad.mp z2).1;have g1:ds[j]? =some (ds[j]'(by omega)):=aa (by omega);have g2:es[j]? =some (es[j]'(by omega)):=aa (by omega);have r:=ih j x1 _ x2 _ _ _ z1 g1 z2 g2 q1 q2;have e:decide (ds[j]? =es[j]?)=decide (ds[j]'(by omega)=es[j]'(by omega)):=by rw[g1,g2];simp
 rw[e];exact r
theorem BI{xs ys:List V}{ds es:List Da}{i1 i2:List Value}(r1:Vals xs i1)(r2:Vals ys i2)(hl:xs.length=ds.length)(hl2:ys.length=es.length):
  ((List.range (min i1.toArray.size i2.toArray.size)).all (fun j=>decide (ds[j]? =es[j]?))&&i1.toArray.size==i2.toArray.size)=decide (ds=es):=by
 have l1:=r1.length;have l2:=r2.length;by_cases z:ds.length=es.length
 ·have y:=oZ ds es z;have s1:i1.toArray.size=ds.length:=by simp;omega
  have s2:i2.toArray.size=ds.length:=by simp;omega
  rw[s1,s2,Nat.min_self,y];simp
 ·rw[decide_eq_false (fun y=>z (by rw[y]))];have:(i1.toArray.size==i2.toArray.size)=false:=by simp;omega
  rw[this,Bool.and_false]
theorem BJ{xs ys:List V}{ds es:List Da}{i1 i2:List Value}(r1:Vals xs i1)(r2:Vals ys i2)(hl:xs.length=ds.length)(hl2:ys.length=es.length)(z:ds.length=es.length):
  ((List.range i1.toArray.size).all (fun j=>decide (ds[j]? =es[j]?)))=decide (ds=es):=by
 have l1:=r1.length;have s1:i1.toArray.size=ds.length:=by simp;omega
 rw[s1,oZ ds es z]
theorem sJ(ds es:List Da):decide (Da.tup ds=Da.tup es)=decide (ds=es):=decide_eq_decide.mpr ⟨Da.tup.inj,congrArg _⟩
theorem sL(ds es:List Da):decide (Da.lst ds=Da.lst es)=decide (ds=es):=decide_eq_decide.mpr ⟨Da.lst.inj,congrArg _⟩
theorem va{A:Around}{n:Nat}(hu:A.units+n<cLine)(I:Inv X kb σ H s){x y:V}{a b:Da}(ha:fY X.K H x a)(hb:fY X.K H y b)(na:a.Nb n)(nb:b.Nb n){u v:Value}(ru:RelV x u)(rv:RelV y v):SeqAt.EqAt A s u v (decide (a=b)):=by
 induction ha generalizing A n y b u v with
 | non=>
  obtain rfl:u=Value.none:=ru;cases hb with
  | non=>obtain rfl:v=Value.none:=rv;exact SeqAt.EqAt.same _
  | bl _=>cases nb
  | int j=>obtain⟨t,rfl⟩:=rv;exact SeqAt.EqAt.none_int _ _
  | str j=>obtain⟨t,rfl⟩:=rv;exact SeqAt.EqAt.none_str _ _
  | tup hq=>cases rv;obtain⟨its,r1,p1,_⟩:=I.tuple hq;exact SeqAt.EqAt.none_tuple p1 (by omega)
  | lst hq=>cases rv;obtain⟨its,r1,p1,_⟩:=I.list hq;exact SeqAt.EqAt.none_list p1.isList (by omega)
 | bl _=>cases na
 | int i=>
  obtain⟨t0,rfl⟩:=ru;cases hb with
  | non=>obtain rfl:v=Value.none:=rv;exact SeqAt.EqAt.int_none _ _
  | bl _=>cases nb
  | int j=>
   obtain⟨t,rfl⟩:=rv;have:=SeqAt.EqAt.int_int (A:=A) (s:=s) i t0 j t;have e:(i==j)=decide (Da.int i=Da.int j):=by
    by_cases z:i=j
    ·subst z;simp
    ·rw[decide_eq_false (fun y=>z (Da.int.inj y))];simp[z]
   rwa [e]at this
  | str j=>obtain⟨t,rfl⟩:=rv;exact SeqAt.EqAt.int_str _ _ _ _
  | tup hq=>cases rv;obtain⟨its,r1,p1,_⟩:=I.tuple hq;exact SeqAt.EqAt.int_tuple _ _ p1 (by omega)
  | lst hq=>cases rv;obtain⟨its,r1,p1,_⟩:=I.list hq;exact SeqAt.EqAt.int_list _ _ p1.isList (by omega)
 | str i=>
  obtain⟨t0,rfl⟩:=ru;cases hb with
  | non=>obtain rfl:v=Value.none:=rv;exact SeqAt.EqAt.str_none _ _
  | bl _=>cases nb
  | int j=>obtain⟨t,rfl⟩:=rv;exact SeqAt.EqAt.str_int _ _ _ _
  | str j=>
   obtain⟨t,rfl⟩:=rv;have:=SeqAt.EqAt.str_str (A:=A) (s:=s) i t0 j t;have e:(i==j)=decide (Da.str i=Da.str j):=by
    by_cases z:i=j
    ·subst z;simp
    ·rw[decide_eq_false (fun y=>z (Da.str.inj y))];simp[z]
   rwa [e]at this
  | tup hq=>cases rv;obtain⟨its,r1,p1,_⟩:=I.tuple hq;exact SeqAt.EqAt.str_tuple _ _ p1 (by omega)
  | lst hq=>cases rv;obtain⟨its,r1,p1,_⟩:=I.list hq;exact SeqAt.EqAt.str_list _ _ p1.isList (by omega)
 | @tup p xs ds hp hl hd ih=>
  cases ru;obtain⟨i1,r1,t1,_⟩:=I.tuple hp;cases hb with
  | non=>obtain rfl:v=Value.none:=rv;exact SeqAt.EqAt.tuple_none t1 (by omega)
  | bl _=>cases nb
  | int j=>obtain⟨t,rfl⟩:=rv;exact SeqAt.EqAt.tuple_int _ _ t1 (by omega)
  | str j=>obtain⟨t,rfl⟩:=rv;exact SeqAt.EqAt.tuple_str _ _ t1 (by omega)
  | @tup q ys es hq hl2 hd2=>
   cases rv;by_cases c:p=q
   ·subst c;have:=BH I (fY.tup hp hl hd) (fY.tup hq hl2 hd2);rw[decide_eq_true this];exact SeqAt.EqAt.same _
   cases na with
   | @tup m l na=>
   cases nb with
   | @tup m l nb=>
   obtain⟨i2,r2,t2,_⟩:=I.tuple hq
   have key:=SeqAt.RcAt.tuples (A:=A) (s:=s) (e:=fun j=>decide (ds[j]? =es[j]?)) t1 t2 (by omega) (jy (m:=m) r1 r2 hl hl2 fun j x d y e u v h1 h2 h3 h4 ru rv=>
    ih j x d h1 h2 (A:=A.in1) (n:=m) (by show A.units+1+m<cLine;omega) (hd2 j y e h3 h4) (na _ (ag h2)) (nb _ (ag h4)) ru rv)
   rw[BI r1 r2 hl hl2]at key;rw[sJ];exact SeqAt.EqAt.of_refs c key
  | @lst q ys es hq hl2 hd2=>
   cases rv;obtain⟨i2,r2,t2,_⟩:=I.list hq;by_cases c:p=q
   ·subst c;exact(kz t1 t2.isList).elim
   ·exact SeqAt.EqAt.of_refs c (SeqAt.RcAt.tuple_list t1 t2.isList (by omega))
 | @lst p xs ds hp hl hd ih=>
  cases ru;obtain⟨i1,r1,t1,_⟩:=I.list hp;cases hb with
  | non=>obtain rfl:v=Value.none:=rv;exact SeqAt.EqAt.list_none t1.isList (by omega)
  | bl _=>cases nb
  | int j=>obtain⟨t,rfl⟩:=rv;exact SeqAt.EqAt.list_int _ _ t1.isList (by omega)
  | str j=>obtain⟨t,rfl⟩:=rv;exact SeqAt.EqAt.list_str _ _ t1.isList (by omega)
  | @lst q ys es hq hl2 hd2=>
   cases rv;by_cases c:p=q
   ·subst c;have:=BH I (fY.lst hp hl hd) (fY.lst hq hl2 hd2);rw[decide_eq_true this];exact SeqAt.EqAt.same _
   cases na with
   | @lst m l na=>
   cases nb with
   | @lst m l nb=>
   obtain⟨i2,r2,t2,_⟩:=I.list hq;have l1:=r1.length;have l2:=r2.length;rw[sL];by_cases z:ds.length=es.length
   ·have key:=SeqAt.RcAt.lists (A:=A) (s:=s) (e:=fun j=>decide (ds[j]? =es[j]?)) t1.isList t2.isList (by simp;omega) (by omega) (jy (m:=m) r1 r2 hl hl2 fun j x d y e u v h1 h2 h3 h4 ru rv=>
     ih j x d h1 h2 (A:=A.in1) (n:=m) (by show A.units+1+m<cLine;omega) (hd2 j y e h3 h4) (na _ (ag h2)) (nb _ (ag h4)) ru rv)
    rw[BJ r1 r2 hl hl2 z]at key;exact SeqAt.EqAt.of_refs c key
   ·rw[decide_eq_false (fun y=>z (by rw[y]))];exact SeqAt.EqAt.of_refs c (SeqAt.RcAt.lists_lengths t1.isList t2.isList (by simp;omega) (by omega))
  | @tup q ys es hq hl2 hd2=>
   cases rv;obtain⟨i2,r2,t2,_⟩:=I.tuple hq;by_cases c:p=q
   ·subst c;exact(kz t2 t1.isList).elim
   ·exact SeqAt.EqAt.of_refs c (SeqAt.RcAt.list_tuple t1.isList t2 (by omega))
inductive BK(K:gv)(ne:Bool)(x:V)(y:V)(H:Hp)(Q:VK):Prop
 | mk (n:Nat) (p q:Addr) (a b:Da) (_:x=.ref p) (_:y=.ref q) (_:fY K H x a) (_:fY K H y b) (_:a.Nb n) (_:b.Nb n) (_:n<=6) (_:Q (.bl (ne^^decide (a=b))) H)
theorem sM(hu:X.A.units+6<cLine):jP X (compareOp .Eq) (BK X.K false):=by
 intro kb s σ H x y v u Q I rx ry h;obtain⟨n,p,q,a,b,rfl,rfl,ha,hb,na,nb,hn,k⟩:=h;cases rx;cases ry;rw[Bool.false_xor]at k;cases ha with
 | @tup p xs ds hp hl hd=>
  obtain⟨i1,r1,t1,_⟩:=I.tuple hp;cases hb with
  | @tup q ys es hq hl2 hd2=>
   cases na with
   | @tup m l na=>
   cases nb with
   | @tup m l nb=>
   obtain⟨i2,r2,t2,_⟩:=I.tuple hq
   have key:=SeqAt.RcAt.tuples (A:=X.A) (s:=s) (e:=fun j=>decide (ds[j]? =es[j]?)) t1 t2 (by omega) (jy (m:=m) r1 r2 hl hl2 fun j x d y e u v h1 h2 h3 h4 ru rv=>
    va (A:=X.A.in1) (n:=m) (by show X.A.units+1+m<cLine;omega) I (hd j x d h1 h2) (hd2 j y e h3 h4) (na _ (ag h2)) (nb _ (ag h4)) ru rv)
   rw[BI r1 r2 hl hl2]at key;rw[sJ]at k;exact key _ _ _ _ ⟨.bl _,H,I,rfl,k⟩
  | @lst q ys es hq hl2 hd2=>
   obtain⟨i2,r2,t2,_⟩:=I.list hq;exact(SeqAt.RcAt.tuple_list (A:=X.A) t1 t2.isList (by omega)) _ _ _ _ ⟨.bl _,H,I,rfl,k⟩
 | @lst p xs ds hp hl hd=>
  obtain⟨i1,r1,t1,_⟩:=I.list hp;cases hb with
  | @lst q ys es hq hl2 hd2=>
   cases na with
   | @lst m l na=>
   cases nb with
   | @lst m l nb=>
   obtain⟨i2,r2,t2,_⟩:=I.list hq;have l1:=r1.length;have l2:=r2.length;rw[sL]at k;by_cases z:ds.length=es.length
   ·have key:=SeqAt.RcAt.lists (A:=X.A) (s:=s) (e:=fun j=>decide (ds[j]? =es[j]?)) t1.isList t2.isList (by simp;omega) (by omega) (jy (m:=m) r1 r2 hl hl2 fun j x d y e u v h1 h2 h3 h4 ru rv=>
     va (A:=X.A.in1) (n:=m) (by show X.A.units+1+m<cLine;omega) I (hd j x d h1 h2) (hd2 j y e h3 h4) (na _ (ag h2)) (nb _ (ag h4)) ru rv)
    rw[BJ r1 r2 hl hl2 z]at key;exact key _ _ _ _ ⟨.bl _,H,I,rfl,k⟩
   ·rw[decide_eq_false (fun y=>z (by rw[y]))]at k;exact(SeqAt.RcAt.lists_lengths (A:=X.A) t1.isList t2.isList (by simp;omega) (by omega)) _ _ _ _ ⟨.bl _,H,I,rfl,k⟩
  | @tup q ys es hq hl2 hd2=>
   obtain⟨i2,r2,t2,_⟩:=I.tuple hq;exact(SeqAt.RcAt.list_tuple (A:=X.A) t1.isList t2 (by omega)) _ _ _ _ ⟨.bl _,H,I,rfl,k⟩
theorem BL(hu:X.A.units+6<cLine):jP X (compareOp .NotEq) (BK X.K true):=by
 intro kb s σ H x y v u Q I rx ry h;obtain⟨n,p,q,a,b,rfl,rfl,ha,hb,na,nb,hn,k⟩:=h;cases rx;cases ry;rw[Bool.true_xor]at k;cases ha with
 | @tup p xs ds hp hl hd=>
  obtain⟨i1,r1,t1,_⟩:=I.tuple hp;cases hb with
  | @tup q ys es hq hl2 hd2=>
   cases na with
   | @tup m l na=>
   cases nb with
   | @tup m l nb=>
   obtain⟨i2,r2,t2,_⟩:=I.tuple hq
   have key:=SeqAt.RcNeAt.tuples (A:=X.A) (s:=s) (e:=fun j=>decide (ds[j]? =es[j]?)) t1 t2 (by omega) (jy (m:=m) r1 r2 hl hl2 fun j x d y e u v h1 h2 h3 h4 ru rv=>
    va (A:=X.A.in1) (n:=m) (by show X.A.units+1+m<cLine;omega) I (hd j x d h1 h2) (hd2 j y e h3 h4) (na _ (ag h2)) (nb _ (ag h4)) ru rv)
   rw[BI r1 r2 hl hl2]at key;rw[sJ]at k;exact key _ _ _ _ ⟨.bl _,H,I,rfl,k⟩
  | @lst q ys es hq hl2 hd2=>
   obtain⟨i2,r2,t2,_⟩:=I.list hq;exact(SeqAt.RcNeAt.tuple_list (A:=X.A) t1 t2.isList (by omega)) _ _ _ _ ⟨.bl _,H,I,rfl,k⟩
 | @lst p xs ds hp hl hd=>
  obtain⟨i1,r1,t1,_⟩:=I.list hp;cases hb with
  | @lst q ys es hq hl2 hd2=>
   cases na with
   | @lst m l na=>
   cases nb with
   | @lst m l nb=>
   obtain⟨i2,r2,t2,_⟩:=I.list hq;have l1:=r1.length;have l2:=r2.length;rw[sL]at k;by_cases z:ds.length=es.length
   ·have key:=SeqAt.RcNeAt.lists (A:=X.A) (s:=s) (e:=fun j=>decide (ds[j]? =es[j]?)) t1.isList t2.isList (by simp;omega) (by omega) (jy (m:=m) r1 r2 hl hl2 fun j x d y e u v h1 h2 h3 h4 ru rv=>
     va (A:=X.A.in1) (n:=m) (by show X.A.units+1+m<cLine;omega) I (hd j x d h1 h2) (hd2 j y e h3 h4) (na _ (ag h2)) (nb _ (ag h4)) ru rv)
    rw[BJ r1 r2 hl hl2 z]at key;exact key _ _ _ _ ⟨.bl _,H,I,rfl,k⟩
   ·rw[decide_eq_false (fun y=>z (by rw[y]))]at k;exact(SeqAt.RcNeAt.lists_lengths (A:=X.A) t1.isList t2.isList (by simp;omega) (by omega)) _ _ _ _ ⟨.bl _,H,I,rfl,k⟩
  | @tup q ys es hq hl2 hd2=>
   obtain⟨i2,r2,t2,_⟩:=I.tuple hq;exact(SeqAt.RcNeAt.list_tuple (A:=X.A) t1.isList t2 (by omega)) _ _ _ _ ⟨.bl _,H,I,rfl,k⟩
end
open PySem PySem.W PySem.Spec PySem.Calls PyProof.Rows
def sN(S:List Addr)(i:Nat)(o:Obj):Obj:=if i∈S then {o with data:=.freed}else o
def less(h:Heap)(S:List Addr):Heap:={h with objs:=h.objs.mapIdx (sN S)}
theorem iJ{h:Heap}{S:List Addr}{b:Addr}(hb:b∈S):(less h S).get? b=none:=by
 unfold Heap.get? less;simp only[Array.getElem?_mapIdx];cases e:h.objs[b]? with
 | none=>rfl
 | some o=>
  simp only[Option.map_some,sN,if_pos hb]
theorem dH{h:Heap}{S:List Addr}{b:Addr}(hb:b∉S):(less h S).get? b=h.get? b:=by
 unfold Heap.get? less;simp only[Array.getElem?_mapIdx];cases e:h.objs[b]? with
 | none=>rfl
 | some o=>
  simp only[Option.map_some,sN,if_neg hb]
theorem j2{h:Heap}{S:List Addr}:(less h S).StaysIn h:=fun b o e=>by
 by_cases hb:b∈S
 ·rw[iJ hb]at e;cases e
 ·rwa [dH hb]at e
theorem jz{h base:Heap}{S:List Addr}:∀{l:List Env},h.FunFrames base l->(∀b∈frs l,b∈S)->h.FunFrames (less h S) l
 | [],_,_=>trivial
 | env::r,⟨hk,⟨L,o,hf,hn,ho,hd⟩,hr⟩,hs=>by
  have e:frs (env::r)=L::frs r:=by unfold frs;rw[List.filterMap_cons,hf]
  rw[e]at hs;exact⟨hk,⟨L,o,hf,iJ (hs L (by simp)),ho,hd⟩,jz hr fun b hb=>hs b (by simp[hb])⟩
theorem cM.some_{P:Program}{w:World}{H:Hp}{h:Heap}{a:Addr}{o:HO}(x:cM P w H h a o):∃u,h.get? a=some u:=by
 cases o with
 | lst xs=>obtain⟨_,_,_,_,e⟩:=x;exact⟨_,e⟩
 | tup xs=>obtain⟨_,_,_,ob,e,_⟩:=x;exact⟨_,e⟩
 | dK kvs=>obtain⟨_,_,_,_,o,_,_,e,_⟩:=x;exact⟨_,e⟩
 | dT kvs=>obtain⟨_,_,_,_,o,_,_,e,_⟩:=x;exact⟨_,e⟩
 | set S n=>obtain⟨o,_,_,_,e,_⟩:=x;exact⟨_,e⟩
 | ins C dx fs=>obtain⟨_,_,_,e,_⟩:=x;exact⟨_,e⟩
 | own y=>exact x
 | xd fs=>obtain⟨_,⟨_,_,_,e,_⟩,_⟩:=x;exact⟨_,e⟩
 | rng lo hi=>obtain⟨_,_,_,e⟩:=x;exact⟨_,e⟩
 | jI ob u=>obtain⟨e,_⟩:=x;exact⟨_,e⟩
 | GZ ps=>exact⟨_,(show h.get? a=some _ from x)⟩
 | met f y=>exact⟨_,(show h.get? a=some _ from x)⟩
 | ext φ=>exact x.2.1
structure JH(K:gv)(C:Addr)(bmB:List Value)(newId:String):Prop where
 isIn:excIn K C bmB newId=true
theorem JH.obj{K:gv}{C:Addr}{bmB:List Value}{newId:String}{h₀:Heap}(c:JH K C bmB newId)(X:K.In h₀):∃bm N nm q bs hdct sn sub ab col dd k0 k1 k2 k3 k5 mN,
   h₀.get? C=some (excClassObj nm q C N bs bm hdct sn sub ab col dd k0 k1 k2 k3 k5 newId)/\h₀.Ns N mN/\mN (Str.ofString "__init__")=none/\OwnTail h₀ bmB bm:=by
 have q:=c.isIn;unfold excIn at q;split at q
 ·rename_i dd cd sl ho;split at q
  ·rename_i C' bm k0 k1 k2 k3 n k5 hm hs;simp only[Bool.and_eq_true,beq_iff_eq,Bool.not_eq_true']at q;obtain⟨⟨⟨⟨⟨rfl,rfl⟩,hdel⟩,ht⟩,hok⟩,hni⟩:=q;obtain⟨nm,bs,mro,ns,qn,hd,sn,sub,ab,col,del⟩:=cd;dsimp only at hm hdel hok hni;subst hm hdel;have hsl:sl=#[k0,k1,k2,k3,some (.builtin n),k5]:=by obtain⟨l⟩:=sl;simp only at hs;rw[hs]
   subst hsl;exact⟨bm,ns,nm,qn,bs,hd,sn,sub,ab,col,dd,k0,k1,k2,k3,k5,_,X _ _ ho,.of_isNs (isNs_of_in X hok),nsMap_none_of_in X hok hni,tail_of_in X ht⟩
  ·cases q
 ·cases q
section
variable {P:Program}{w:World}{K:gv}{mg:Str->Option Value}{base:Heap}{N:List Str}{qual:Str}{scope:Scope}{f:Addr}{cd:Value}{A:Around}{outer:List Env}{s₀:Shared}{H₀:Hp}{E:XK}
theorem cr.D2{P:Program}{w:World}{K:gv}{mg:Str->Option Value}{base:Heap}{CX:Ac}{x qual:Str}{st:Stmt}{f:Addr}{fd:ed}{N ps:List Str}{k:Nat}{sp:Sp}(F:cr K x qual st f fd)(S:aE N ps (ak st))(len:∀vs H Q E,sp vs H Q E->vs.length=ps.length)
  (hbody:∀(cdv:Value) (A:Around) (outer:List Env) (s:Shared) (H:Hp) (vs:List V) (Q:VK) (E:XK),dP k (A.deeper (envOfC qual (ak st) s.heap.objs.size f cdv))->sp vs H Q E->
   ∃t,qQ (gN CX P w K mg base N qual (ak st) f cdv A outer s H E) (dq st) t/\t {nx:=fun _ H'=>Q .non H',rt:=Q} (start N vs) H):aD P w K mg base CX (k+1) f fd ps sp:=by
 obtain⟨oc,od,kV,doc,pm,an,cdv,ct,osl,rfl,lk,hcd⟩:=F.ex;exact Hi lk hcd S len fun A outer s H vs Q E hr hsp=>hbody cdv A outer s H vs Q E hr hsp
variable {X:Cx}{kb:List (Addr×Obj)}{σ:St}
theorem vb{B h:Heap}{l:List Env}{ea:Addr}{cls a0:Value}(fly:B.FlyingW l ea cls a0 h):∃T,B.get? ea=none/\B.get? T=none/\(less h (frs l++ [ea,T])).FlyingW l ea cls a0 h:=by obtain⟨f1,f2,f3,oe,vs,T,oT,ts,g1,g2,g3,g4,g5,g6,g7,g8,g9⟩:=fly;exact⟨T,f2,g5,j2,iJ (by simp),jz f3 (fun b hb=>by simp[hb]),oe,vs,T,oT,ts,g1,g2,g3,g4,iJ (by simp),g6,g7,g8,g9⟩
variable {H:Hp}{s:Shared}
variable {k:Nat}{C cR:Addr}{fd:ed}{ps:List Str}{sp:Sp}{Bu:List V}{ds:List Value}{x m n:Str}{np pos apos p2 p3 p4:Pos}{o:Expr}{ta:TE}{ts:TS}{i:Nat}{b₀:Stmt}{suite:List Stmt}{L:Addr}
end
open PySem PySem.W PySem.Spec PySem.Calls PyProof.Rows PySem.Builtin PySem.Builtin.ObjectAttr PySem.Builtin.Getset_descriptor
section
variable {prog:Program}{w:World}{A:Around}{E:Value->Shared->Prop}{s:Shared}{K:gv}{x C:Addr}
structure MX(K:gv)(C:Addr):Prop where
 ga:findIn K (.ref C) "__getattribute__"=some (some (.builtin "BaseException.__getattribute__"))
 gh:findIn K (.ref C) "__getattr__"=some none
 cl:findIn K (.ref C) "__class__"=some (some (.builtin "object.__class__"))
 gt:specialIn K (.builtin "object.__class__") "__get__"=some (some (.builtin "getset_descriptor.__get__"))
 tk:takesIn K (.builtin "object.__class__")=some true
 ob:mroIn K C (.type "object")=some true
 bx:mroIn K C (.type "BaseException")=some true
 ci:(clsIn K C).isSome=true
end
open PySem PySem.W PySem.Spec PySem.Calls PyProof.Rows
section
variable {X:Cx}{C:Addr}{Bn:String}
def vd(h:Heap)(e:Addr)(od:Option Addr):Prop:=∃o,h.get? e=some o/\o.dict=od
theorem o6(o:Obj)(f:Array Value->Array Value):(Obj.mapFields f o).dict=o.dict:=by unfold Obj.mapFields;split<;>rfl
variable {M:Model}{A:Around}{XE:Value->Shared->Prop}{s:Shared}{B:Heap}{env:Env}{outer l:List Env}{L e:Addr}{cls a0 fl:Value}{od:Option Addr}{Q:Unit->Shared->Prop}
theorem jS{h:Heap}{e b:Addr}{oe o:Obj}{vs:Array Value}(he:h.get? e=some oe)(hd:oe.data=.fields vs)(hb:h.get? b=some o)(n:∀vs,o.data≠.fields vs):b≠e:=fun z=>by subst z;cases he.symm.trans hb;exact n vs hd
theorem wC{oe:Obj}{vs:Array Value}{head:Value}{hn:Bool}(fr:A.frames=some (env::outer))(fu:s.heap.FunFrames B (env::outer))(hf:env.frame=some L)(he:s.heap.get? e=some oe)(st:B.StaysIn s.heap)(ne:B.get? e=none)
  (hd:oe.data=.fields vs) (sz:1<vs.size) (h0:vs[0]? =some a0) (k:∀h',Heap.NotedW B (env::outer) e oe.cls a0 (rawInt L) s.heap h'->vd h' e oe.dict->Q () {s with heap:=h'}):
  wpAny M A (do
   let a <-frameOf env
   let pl <-entryPlaceOf L hn
   let b <-EntryCells.newEntry head a .none (rawInt L) .none pl
   setField (.ref e) 1 b) Q XE s:=by
 have nf:e∉frs (env::outer):=fun z=>by obtain⟨_,o,ho,n⟩:=fu.mem z;cases he.symm.trans ho;exact n vs hd
 refine c8 (wpAny_frameOf_fun fr fu hf fun g kg=>?_);have e1:g.get? e=some oe:=(kg.2.1 e nf).trans he;have key:∀(tb:Obj) (ts:Array Value),tb.data=.fields ts->ts[3]? =some (rawInt L)->wpAny M A (setField (.ref e) 1 (.ref g.objs.size)) Q XE {s with heap:=g.push tb}:=fun tb ts td t3=>by
  have e2:=fg tb e1;have nT:g.objs.size≠e:=Nat.ne_of_gt (fm e1);have d3:=Obj.data_mapFields hd (·.setIfInBounds 1 (Value.ref g.objs.size));have e3:=Heap.get?_update_self (Obj.mapFields (·.setIfInBounds 1 (Value.ref g.objs.size))) e2 (Obj.isFreed_of_fields d3);have hT:(g.push tb).get? g.objs.size=some tb:=fk g (Obj.isFreed_of_fields td);have ZM:=(Heap.get?_update_other (g.push tb) (Obj.mapFields (·.setIfInBounds 1 (Value.ref g.objs.size))) nT.symm).trans hT;have keep:∀b o,b≠e->g.get? b=some o->((g.push tb).update e (Obj.mapFields (·.setIfInBounds 1 (Value.ref g.objs.size)))).get? b=some o:=fun b o n hb=>(Heap.get?_update_other _ _ n.symm).trans (fg _ hb)
  have Xy:B.StaysIn g:=fun b o hb=>(kg.2.1 b fun z=>by
   have:=(fu.mem z).1;rw[hb]at this
   cases this).trans (st b o hb)
  refine wpAny_setField e2 hd sz (k _ ⟨fun b o hb=>keep b o (fun z=>by rw[z,ne]at hb;cases hb) (Xy b o hb),fu.of_keeps fun b o hb n=>?_,?_,fun b o hb n=>?_⟩ ⟨_,e3,o6 _ _⟩)
  ·obtain⟨sl,hs⟩:=kg.2.2 b o hb;exact⟨_,keep b _ (jS he hd hb n) hs,rfl⟩
  ·exact⟨_,_,g.objs.size,_,_,e3,⟨Obj.cls_mapFields _ _,by rw[Array.getElem?_setIfInBounds_ne (by decide)];exact h0⟩,d3,by simp[sz],Xy.fresh,nT,ZM,td,t3⟩
  ·obtain⟨sl,hs⟩:=kg.2.2 b o hb;exact⟨sl,keep b _ (jS he hd hb n) hs⟩
 refine c8 (wpAny_entryPlaceOf fun pl hp=>?_);unfold EntryCells.newEntry newFields;refine c8 (wpAny_newObj_type ?_ (hp.sizeOk5 _ _ _ _ _));exact key _ _ rfl (by first | (simp;done) | (rcases hp with rfl | ⟨_,_,_,_,_,_,_,rfl⟩<;>simp))
theorem wD{oe:Obj}{vs:Array Value}(fr:A.frames=some (env::outer))(fu:s.heap.FunFrames B (env::outer))(hf:env.frame=some L)(he:s.heap.get? e=some oe)(st:B.StaysIn s.heap)(ne:B.get? e=none)
  (hd:oe.data=.fields vs) (h1:vs[1]? =some .none) (h0:vs[0]? =some a0) (k:∀h',Heap.NotedW B (env::outer) e oe.cls a0 (rawInt L) s.heap h'->vd h' e oe.dict->Q () {s with heap:=h'}):
  wpAny M A (noteFrame (.ref e) env) Q XE s:=by
 unfold noteFrame;simp only[hf];refine c8 (wpAny_field he hd h1 ?_);rw[if_neg (by decide)];exact wC fr fu hf he st ne hd (Array.getElem?_eq_some_iff.mp h1).1 h0 k
theorem rh(fr:A.frames=some (env::outer))(hf:env.frame=some L)(fly:B.FlyingW (env::outer) e cls a0 s.heap)(dc:vd s.heap e od)
  (k:∀h',Heap.NotedW B (env::outer) e cls a0 (rawInt L) s.heap h'->vd h' e od->Q () {s with heap:=h'}):wpAny M A (noteFrame (.ref e) env) Q XE s:=by
 obtain⟨st,ne,fu,oe,vs,T,oT,ts,he,⟨hc,h0⟩,hd,h1,nT,Te,hT,dT,h3⟩:=fly;subst hc;obtain⟨oe',he',hod⟩:=dc;cases he.symm.trans he';subst hod;unfold noteFrame;simp only[hf];refine c8 (wpAny_field he hd h1 ?_);rw[if_pos (by simp)];refine c8 (wpAny_field hT dT h3 ?_);rw[if_neg (by simp[rawInt])];refine c8 (wpAny_setField hT dT (Array.getElem?_eq_some_iff.mp h3).1 ?_);have oth:∀b,b≠T->(s.heap.update T (Obj.mapFields (·.setIfInBounds 3 Value.none))).get? b=s.heap.get? b:=fun b n=>Heap.get?_update_other _ _ n.symm
 refine wC fr (fu.of_keeps fun b o hb n=>⟨o,(oth b (jS hT dT hb n)).trans hb,rfl⟩) hf ((oth e Te.symm).trans he) (fun b o hb=>(oth b fun z=>by
  rw[z,nT]at hb
  cases hb).trans (st b o hb)) ne hd (Array.getElem?_eq_some_iff.mp h1).1 h0 fun h' q q2=>k h' ⟨q.1,q.2.1,q.2.2.1,fun b o hb n=>q.2.2.2 b o ((oth b (jS hT dT hb n)).trans hb) n⟩ q2
theorem nW(st:B.StaysIn s.heap)(fu:s.heap.FunFrames B l)(tr:s.heap.TracedAtW B e cls a0 fl)(dc:vd s.heap e od)
  (k:∀h',B.StaysIn h'->h'.FunFrames B l->h'.TracedW B e cls a0->(∀b o,s.heap.get? b=some o->(∀vs,o.data≠.fields vs)->h'.get? b=some o)->vd h' e od->Q () {s with heap:=h'}):wpAny M A (setFlight (.ref e) none) Q XE s:=by
 obtain⟨oe,vs,T,oT,ts,he,hc,hd,h1,nT,Te,hT,dT,h3⟩:=tr;obtain⟨oe',he',hod⟩:=dc;cases he.symm.trans he';have sz:3<ts.size:=(Array.getElem?_eq_some_iff.mp h3).1;have oth:∀b,b≠T->(s.heap.update T (Obj.mapFields (·.setIfInBounds 3 ((none:Option Addr).elim Value.none fun f=>rawInt f)))).get? b=s.heap.get? b:=fun b n=>Heap.get?_update_other _ _ n.symm;unfold setFlight;refine c8 (wpAny_field he hd h1 ?_);rw[if_pos (by simp)]
 refine wpAny_setField hT dT sz (k _ (fun b o hb=>(oth b fun z=>by
  rw[z,nT]at hb
  cases hb).trans (st b o hb)) (fu.of_keeps fun b o hb n=>⟨o,(oth b (jS hT dT hb n)).trans hb,rfl⟩) ?_ (fun b o hb n=>(oth b (jS hT dT hb n)).trans hb) ⟨oe,(oth e Te.symm).trans he,hod⟩)
 exact⟨oe,vs,T,_,_,(oth e Te.symm).trans he,hc,hd,h1,nT,Te,Heap.get?_update_self _ hT (Obj.isFreed_of_fields (Obj.data_mapFields dT _)),Obj.data_mapFields dT _,by simp[sz]⟩
theorem Er{oe:Obj}{vs:Array Value}(fr:A.frames=some (env::outer))(fu:s.heap.FunFrames B (env::outer))(hf:env.frame=some L)(he:s.heap.get? e=some oe)(st:B.StaysIn s.heap)(ne:B.get? e=none)
  (hd:oe.data=.fields vs) (h1:vs[1]? =some .none) (h0:vs[0]? =some a0) (k:∀h',B.FlyingW outer e oe.cls a0 h'->s.heap.UpToSlots h'->vd h' e oe.dict->Q () {s with heap:=h'}):wpAny M A (leaving env (.ref e)) Q XE s:=by
 unfold leaving;refine c8 (wD fr fu hf he st ne hd h1 h0 fun h1 q dc=>?_);exact nW (s:={s with heap:=h1}) q.1 q.2.1 q.2.2.1 dc fun h2 a b c d JI=>k h2 ⟨a,ne,b.2.2,c⟩ (Heap.UpToSlots.trans q.2.2.2 fun b o hb n=>⟨o.slots,d b o hb n⟩) JI
theorem Au(fr:A.frames=some (env::outer))(hf:env.frame=some L)(fly:B.FlyingW (env::outer) e cls a0 s.heap)(dc:vd s.heap e od)
  (k:∀h',B.FlyingW outer e cls a0 h'->s.heap.UpToSlots h'->vd h' e od->Q () {s with heap:=h'}):wpAny M A (leaving env (.ref e)) Q XE s:=by
 unfold leaving;refine c8 (rh fr hf fly dc fun h1 q dc=>?_);exact nW (s:={s with heap:=h1}) q.1 q.2.1 q.2.2.1 dc fun h2 a b c d JI=>k h2 ⟨a,fly.2.1,b.2.2,c⟩ (Heap.UpToSlots.trans q.2.2.2 fun b o hb n=>⟨o.slots,d b o hb n⟩) JI
theorem JJ(fr:A.frames=some (env::outer))(hf:env.frame=some L)(fly:B.FlyingW (env::outer) e cls a0 s.heap)(dc:vd s.heap e od)
  (k:∀h',B.HeldW (env::outer) e cls a0 L h'->s.heap.UpToSlots h'->vd h' e od->Q () {s with heap:=h'}):wpAny M A (noteFrame (.ref e) env) Q XE s :=
 rh fr hf fly dc fun h1 q dc=>k h1 ⟨q.1,fly.2.1,q.2.1,q.2.2.1⟩ q.2.2.2 dc
end
abbrev lU:List Value:=[.type "ValueError",.type "Exception",.type "BaseException",.type "object"]
abbrev eO(C t:Addr)(od:Option Addr):Obj:={cls:=.ref C,dict:=od,data:=.fields #[.ref t,.none,.none,.none,.bool false,.none]}
structure gu(K:gv)(C R fI:Addr):Prop where
 lk:∃dd nm bs ns qn sn sub ab col k0 k1 k2 k3 k5,K.lookup C=some ⟨.type "type",dd,.cls ⟨nm,bs,.ref C:: .ref R::lU,ns,qn,true,sn,sub,ab,col,false⟩,#[k0,k1,k2,k3,some (.builtin "ValueError.__new__"),k5]⟩
 ini:findIn K (.ref C) "__init__"=some (some (.ref fI))
 fn:typeIn K (.ref fI)=some (.type "function")
 row:JH K R lU "ValueError.__new__"
 rtl:mroIn K R (.type "object")=some true
 sa:findIn K (.ref C) "__setattr__"=some (some (.builtin "object.__setattr__"))
 na:takerIn K C "at"=some none
 nat:findIn K (.ref C) "at"=some none
 hd:hasDictIn K C=true
 rd:MX K C
 sg:specialIn K (.ref R) "__getattribute__"=some (some (.builtin "type.__getattribute__"))
 rr:readsIn K R (.type "type")=true
 fi:findCls K (.ref R) (.type "type") "__init__"=some (.val (.builtin "ValueError.__init__"))
section
variable {K:gv}{C R fI:Addr}{h:Heap}
theorem gu.obj(c:gu K C R fI)(X:K.In h):∃N nm q bs sn sub ab col dd k0 k1 k2 k3 k5,h.get? C=some (excClassObj nm q C N bs (.ref R::lU) true sn sub ab col dd k0 k1 k2 k3 k5 "ValueError.__new__"):=by obtain⟨dd,nm,bs,ns,qn,sn,sub,ab,col,k0,k1,k2,k3,k5,e⟩:=c.lk;exact⟨ns,nm,qn,bs,sn,sub,ab,col,dd,k0,k1,k2,k3,k5,X _ _ e⟩
theorem gu.tail(c:gu K C R fI)(X:K.In h):OwnTail h lU (.ref R::lU):=by obtain⟨bm,N,nm,q,bs,hdct,sn,sub,ab,col,dd,k0,k1,k2,k3,k5,mN,hR,hN,hni,_⟩:=c.row.obj X;exact .own hR hN hni .base
variable {prog:Program}{w:World}{A:Around}{XE:Value->Shared->Prop}{s:Shared}
theorem qv(c:gu K C R fI)(X:K.In s.heap){rest:List Value}{Q:Fin->Shared->Prop}(hz:rest.length<=ee)
  (k:wpAny (model prog w) A (call (.ref fI) (.ref (s.heap.objs.size+1)::rest)) (fun r s'=>r=.none/\Q (.done (.ret (.ref (s.heap.objs.size+1)))) s') XE {s with heap:=(s.heap.push {cls:=.type "tuple",data:=.seq rest.toArray}).push (eO C s.heap.objs.size none)}):
  wpAny (model prog w) A (Builtin.«type.__call__» ⟨.ref C::rest,[]⟩) Q XE s:=by
 obtain⟨N,nm,q,bs,sn,sub,ab,col,dd,k0,k1,k2,k3,k5,hC⟩:=c.obj X;have T:=c.tail X;have F:=PySem.F.excBase_ValueError;obtain⟨h,g,d,t,os⟩:=s;dsimp only at hC T X k ⊢
 repeat (first | with_reducible refine wpAny_loadPart_at hC ?_ | with_reducible refine wpAny_madeBy_exc hC ?_ | wp_step)
 refine codeAny_call_builtin_code (Code.quiet_builtin _ F.quiet) (wpAny_check_new_subT F T hC ?_);refine codeAny_exc_new_subT F T hC ?_ hz;show wpAny _ _ _ _ _ _;have kp:∀b o,h.get? b=some o->((h.push {cls:=.type "tuple",data:=.seq rest.toArray}).push (eO C h.objs.size none)).get? b=some o:=fun b o e=>fg _ (fg _ e);have X1:=X.keeps kp;have ZO:=kp _ _ hC;have he:((h.push {cls:=.type "tuple",data:=.seq rest.toArray}).push (eO C h.objs.size none)).get? (h.objs.size+1)=some (eO C h.objs.size none):=by heap_get
 have hcC:(Value.ref C:: .ref R::lU).contains (.ref C)=true:=by simp
 unfold isInstance
 repeat (first | with_reducible refine wpAny_loadPart_at he ?_ | (with_reducible refine wpAny_isSubtype_exc ZO ?_;rw[hcC]) | wp_step)
 show wpAny _ _ (typeLookup (.ref C) _) _ _ _;refine(looks_findIn X1 c.ini).here ?_;refine wpAny_holding (c8 ?_);unfold bindSpecial;refine c8 ((looks_typeIn X1 c.fn).here ?_);rw[if_pos (by decide)];refine db (c8 (eg k (fun r s' hr=>?_) fun _ _ x=>x));obtain⟨rfl,hQ⟩:=hr
 wp_walk
 exact hQ
theorem BM(c:gu K C R fI)(X:K.In s.heap){rest:List Value}{Q:Value->Shared->Prop}(hz:rest.length<=ee)
  (k:wpAny (model prog w) (A.under (.builtin "type.__call__" ⟨.ref C::rest,[]⟩)) (call (.ref fI) (.ref (s.heap.objs.size+1)::rest)) (fun r s'=>r=.none/\Q (.ref (s.heap.objs.size+1)) s') XE {s with heap:=(s.heap.push {cls:=.type "tuple",data:=.seq rest.toArray}).push (eO C s.heap.objs.size none)}):
  wpAny (model prog w) A (call (.ref C) rest) Q XE s:=by
 obtain⟨N,nm,q,bs,sn,sub,ab,col,dd,k0,k1,k2,k3,k5,hC⟩:=c.obj X;have f1:=tc_lookup;have f2:=tc_bind (.ref C);have hT:s.TypeIs (.ref C) "type":=⟨_,hC,rfl⟩;refine wpAny_call (codeAny_of_tree ?_);show wpAny _ _ (callAny (.ref C) _) _ _ _;have k2:=fun Q' k'=>qv (prog:=prog) (w:=w) (A:=A.under (.builtin "type.__call__" ⟨.ref C::rest,[]⟩)) (XE:=XE) c X (rest:=rest) (Q:=Q') hz k';obtain⟨h,g,d,t,os⟩:=s;dsimp only at hC hT X k k2 ⊢
 repeat (any_goals (first | assumption | with_reducible refine wpAny_loadPart_at hC ?_ | wp_step))
 refine⟨rfl,?_⟩;exact codeAny_call_builtin_at (Code.quiet_builtin _ (by decide+kernel)) entry_typeCall (wpAny_check_type_call_sub hC (k2 _ k))
theorem BO(c:gu K C R fI)(X:K.In s.heap){e t:Addr}{m:Value}{Q:Value->Shared->Prop}(he:s.heap.get? e=some (eO C t none))
  (k:∀h',(∀b o,b≠e->s.heap.get? b=some o->h'.get? b=some o)->h'.get? e=some (eO C s.heap.objs.size none)->Q .none {s with heap:=h'}):
  wpAny (model prog w) A (call (.builtin "ValueError.__init__") [.ref e,m]) Q XE s:=by
 obtain⟨N,nm,q,bs,sn,sub,ab,col,dd,k0,k1,k2,k3,k5,hC⟩:=c.obj X;have T:=c.tail X;have F:=PySem.F.excBase_ValueError;obtain⟨h,g,d,tk,os⟩:=s;dsimp only at hC T X k he ⊢;refine wpAny_call (codeAny_call_builtin F.init.plain F.initEntry (wpAny_check_init_subT F T hC he rfl ?_));have he2:=fg {cls:=.type "tuple",data:=.seq #[m]} he
 repeat (first | with_reducible refine wpAny_setField he2 rfl (by decide) ?_ | wp_step)
 refine k _ (fun b o n hb=>?_) ?_
 ·rw[Heap.get?_update_other _ _ (Ne.symm n)];exact fg _ hb
 ·rw[Heap.get?_update_self _ he2 rfl];rfl
theorem JK(c:gu K C R fI)(X:K.In s.heap){e t:Addr}{v:Value}{Q:Unit->Shared->Prop}(he:s.heap.get? e=some (eO C t none))
  (k:∀h' tk',(∀b o,b≠e->s.heap.get? b=some o->h'.get? b=some o)->h'.get? e=some (eO C t (some s.heap.objs.size))->h'.Ns1 s.heap.objs.size (fun y=>if y ="at"then some v else none)->Q () {s with heap:=h',toks:=tk'}):
  wpAny (model prog w) A (setAttr (.ref e) "at" v) Q XE s:=by
 obtain⟨N,nm,q,bs,sn,sub,ab,col,dd,k0,k1,k2,k3,k5,hC⟩:=c.obj X;have SF:=PySem.F.store_ValueError;have J:InstAt s.heap e (eO C t none) C none:=⟨he,rfl,rfl,True.intro⟩;refine set_plain X J c.sa ?_;have hm:Looks (model prog w) s.heap (mroOf (.ref C)) (.ref C:: .ref R::lU):=(Looks.ld hC).andThen .now;have sub':Looks (model prog w) s.heap (isInstance (.ref e) (.type "object")) true:=J.type.andThen (looks_mroIn X c.rd.ob);refine codeAny_call_builtin SF.slot.plain SF.entry (@check_slot (model prog w) _ _ {s with toks:=s.toks+1} "object.__setattr__" "object" "__setattr__" (.ref e) [.str "at" s.toks,v] [] _ SF.kind SF.split sub' (SF.args (.ref e) (.str "at" s.toks) v) ?_);rw[osa_eq,refuse_eq];refine c8 (c8 (Looks.here (s:={s with toks:=s.toks+1}) J.type (c8 (Looks.here (s:={s with toks:=s.toks+1}) hm ?_))));rw[refuseLoop_ref,refuseLoop_ref,SF.passes];refine db (c8 (Looks.here (s:={s with toks:=s.toks+1}) J.type (c8 (Looks.here (s:={s with toks:=s.toks+1}) (looks_findIn X c.nat) ?_))));refine c8 (db ?_);have hc:clsIn K C=some ⟨nm,bs,.ref C:: .ref R::lU,N,q,true,sn,sub,ab,col,false⟩:=by obtain⟨MJ,nm',bs',ns',qn',sn',sub',ab',col',k0',k1',k2',k3',k5',e'⟩:=c.lk;have:=X _ _ e';rw[hC]at this;cases this;unfold clsIn;rw[e']
 refine c8 (db (c8 (c8 (wpAny_loadPart he (c8 (Looks.here (s:={s with toks:=s.toks+1}) (looks_clsIn X hc) ?_))))));rw[if_neg (by simp)];show wpAny _ _ (if (!true|| !typeHasDict (Value.ref C))=true then pure none else _) _ _ _;rw[if_neg (by simp[typeHasDict])];have hs0:e≠s.heap.objs.size:=js (fm he);have QU:=fg {cls:=.type "dict",data:=.dict #[]} he;refine c8 (wpAny_alloc' ?_);refine c8 (wpAny_update' QU ?_);refine db ?_;have he2:((s.heap.push {cls:=.type "dict",data:=.dict #[]}).update e fun o=>{cls:=o.cls,dict:=some s.heap.objs.size,data:=o.data,slots:=o.slots}).get? e=some (eO C t (some s.heap.objs.size)):=Heap.get?_update_self _ QU rfl;have hd2:((s.heap.push {cls:=.type "dict",data:=.dict #[]}).update e fun o=>{cls:=o.cls,dict:=some s.heap.objs.size,data:=o.data,slots:=o.slots}).get? s.heap.objs.size=some {cls:=.type "dict",data:=.dict #[]}:=
  (Heap.get?_update_ne _ _ _ _ hs0.symm).trans (Heap.get?_push_at rfl rfl)
 have kp:∀b o,b≠e->s.heap.get? b=some o->((s.heap.push {cls:=.type "dict",data:=.dict #[]}).update e fun o=>{cls:=o.cls,dict:=some s.heap.objs.size,data:=o.data,slots:=o.slots}).get? b=some o:=fun b o n hb=>
  (Heap.get?_update_ne _ _ _ _ n).trans (fg _ hb)
 generalize ((s.heap.push {cls:=.type "dict",data:=.dict #[]}).update e fun o=>{cls:=o.cls,dict:=some s.heap.objs.size,data:=o.data,slots:=o.slots})=h2 at he2 hd2 kp ⊢;have nd:h2.Ns s.heap.objs.size (fun _=>none):=⟨_,#[],_,hd2,rfl,fun e he=>absurd he (by simp),fun _=>rfl⟩;show wpAny _ _ (Builtin.ObjectAttr.storeInDict s.heap.objs.size (.str "at" s.toks) "at" v) _ _ _;unfold Builtin.ObjectAttr.storeInDict Builtin.ObjectAttr.newKeyGuard;refine c8 (db (c8 (wpAny_nsSet1 (Heap.Ns1.of_empty nd) fun h3 Xz hs3=>?_)));obtain⟨oD,esD,epD,hoD,hdD,hcD⟩:=Xz.count (Within.cons "at" v Within.nil);refine c8 (wpAny_lookBehind hoD (by rw[hdD];exact pastItsLine_dict (kq hcD (by rw[bv,List.length_nil,sizeLine_eq];omega))) ?_);refine db ?_;exact k h3 _ (fun b o n hb=>(hs3.2 b (js (fm hb))).trans (kp b o n hb)) ((hs3.2 e hs0).trans he2) Xz
end
def wF(e C:Addr):HO:=.ext fun h=>∃t,h.get? e=some (eO C t none)
def wG(e C d:Addr):HO:=.ext fun h=>∃t,h.get? e=some (eO C t (some d))
theorem yB{P:Program}{w:World}{H:Hp}{h:Heap}{e C t:Addr}(x:h.get? e=some (eO C t none)):cM P w H h e (wF e C):=
 ⟨⟨t,x⟩,⟨_,x⟩,fun h1 h2 ⟨t',a⟩ k=>⟨t',k _ a⟩⟩
theorem Es{P:Program}{w:World}{H:Hp}{h:Heap}{e C t d:Addr}(x:h.get? e=some (eO C t (some d))):cM P w H h e (wG e C d):=
 ⟨⟨t,x⟩,⟨_,x⟩,fun h1 h2 ⟨t',a⟩ k=>⟨t',k _ a⟩⟩
section
variable {X:Cx}{C R fI:Addr}{x:Str}{e v2:Expr}{es:List Expr}{t:TA}{te:TE}{np apos pos p1 p2 p3:Pos}{cc:Str}{j:Nat}
def MY(te:TE):TE:=fun σ H Q=>te σ H fun v H1=>∃i:Int,v=.int i/\i.natAbs<10^12/\∀u:Str,Q (.str u) H1
theorem yC(he:PE X e te)(hc:cc.length<=1000):PE X (.JoinedStr [.Constant (.str cc) j p1,.FormattedValue e (-1) none p2] p3) (MY te):=by
 intro kb s σ H Q I h;refine JoinedStr_many (joinParts_cons (Constant_str ⟨?_,joinParts_cons (FormattedValue_plain (cJ (he kb _ σ H _ (I.tok _) h) fun u s1 ⟨v,H1,I1,r1,i,ev,hi,q⟩=>?_))⟩))
 ·rw[strLen_append];have:(Str.empty).length=0:=rfl;rw[sizeLine_eq];omega
 ·subst ev;obtain⟨tk,rfl⟩:=(show ∃tk,u=Value.int i tk from r1);have hl:i.natAbs.log2<1920:=by
   by_cases z:i.natAbs=0
   ·rw[z];decide
   ·refine(Nat.log2_lt z).mpr (Nat.lt_of_lt_of_le hi ?_);exact kq (show 10^12<=2^40 by decide) (Nat.pow_le_pow_right (by decide) (by decide))
  refine formatField_int_small hl ⟨?_,joinParts_nil ⟨.str _,H1,I1.tok _,⟨_,rfl⟩,q _⟩ ?_⟩
  all_goals
   have h10:=int_text_length_le10 (a:=i) (k:=12) (by decide) hi;have h11:(Str.ofString (toString i)).length=(toString i).length:=PySem.ofString_length _;have h12:(Str.empty).length=0:=rfl;rw[strLen_append,strLen_append,sizeLine_eq,h11];omega
def MZ(C:Addr)(t:TA):TE:=fun σ H Q=>t σ H fun vs H1=>∃e y,vs=[.ref e,y]/\H1 e=some (wF e C)/\Q .non (upd H1 e (wF e C))
theorem yD{pl:Sem Bool}(c:gu X.K C R fI)(hg:Gl X x)(hm:X.mg x=some (.ref R))(ha:PA X (e::es) t)
  (ht:eval (.Call (.Attribute (.Name x np) "__init__" apos) (e::es) [] pos) X.env=(do
   let ov <-eval (.Name x np) X.env
   standAt apos.atName
   let (f,first) <-holding [ov] (getMethod ov "__init__" pl)
   callWith pos f first (backTo pos (starEach (e::es) X.env)) (backToKw pos (keywordEach [] X.env))):=by rfl)
  (he:starEach (e::es) X.env=(false,eval e X.env)::starEach es X.env:=by rfl) (hpl:(backTo pos (starEach es X.env)).any (·.1)=false:=by rfl) (hdb:(x==("__debug__": Str))=false:=by decide):
  PE X (.Call (.Attribute (.Name x np) "__init__" apos) (e::es) [] pos) (MZ C t):=by
 intro kb s σ H Q I h;refine methodCall_KW (pl:=pl) (nU I hg hm ?_ hdb) ht;refine method_cls I.lL c.sg (cls_value I.lL c.rr c.fi rfl ?_);refine callWith_builtin1 (cJ (ha pos kb _ σ H _ (I.tok _) h) fun us s1 ⟨vs,H1,I1,r1,e0,y,ev,hx,q⟩=>?_) he hpl;subst ev;cases r1 with
 | cons r1 r2=>
  cases r2 with
  | cons r2 r3=>
   cases r3;obtain rfl:_=Value.ref e0:=r1;obtain⟨t0,ht0⟩:=(I1.hok e0 _ hx).1;exact BO c I1.lL ht0 fun h' kp e2=>⟨.non,_,I1.write (x:=e0) (e:=e0) (t':=s1.toks) (by rw[hx];exact True.intro) (.inl rfl) kp ⟨_,e2⟩ (yB e2),rfl,q⟩
def Sg(C:Addr)(ta tv:TE):TS:=fun D σ H=>tv σ H fun y H1=>ta σ H1 fun z H2=>∃e0,z=.ref e0/\H2 e0=some (wF e0 C)/\∀d,H2 d=none->d≠e0->D.nx σ (upd (upd H2 d (.xd [("at",y)])) e0 (wG e0 C d))
theorem Et{y:V}{u:Value}(r:RelV y u)(f:Str):jH (([("at",y)]:List (Str×V)).lookup f) (if f ="at"then some u else none):=by
 by_cases h:f ="at"
 ·subst h;rw[if_pos rfl,List.lookup_cons_self];exact r
 ·rw[if_neg h,List.lookup_cons,show(f==("at": Str))=false from beq_eq_false_iff_ne.mpr h];exact True.intro
theorem BP{o value:Expr}{ta tv:TE}{pos':Pos}(c:gu X.K C R fI)(ha:PE X o ta)(hv:PE X value tv)(hs:swapsWith value (some (.Attribute o "at" pos')) pos.line X.env=pure false):PS X (.Assign [.Attribute o "at" pos'] value pos) (Sg C ta tv):=by
 intro kb s σ H D I h;refine plainObj_wpAny_Assign_Attribute (cJ (hv kb s σ H _ I h) fun u s1 ⟨y,H1,I1,ry,q⟩=>cJ (ha kb s1 σ H1 _ I1 q) fun ov s2 ⟨z,H2,I2,rz,e0,ez,hx,q2⟩=>?_) hs;subst ez;obtain rfl:ov=Value.ref e0:=rz;obtain⟨t0,ht0⟩:=(I2.hok e0 _ hx).1;refine JK c I2.lL ht0 fun h' tk kp e2 ns=>?_;have n0:s2.heap.objs.size≠e0:=Nat.ne_of_gt (fm ht0);obtain⟨oD,esD,epD,hoD,rD⟩:=id ns;have fr:oD.isFreed=false:=(Heap.get?_some_iff.mp hoD).2;have g1:(s2.heap.push oD).get? s2.heap.objs.size=some oD:=fk s2.heap fr;have I3:=I2.laid (a:=s2.heap.objs.size) (o:=.xd [("at",y)]) (h':=s2.heap.push oD) (t':=tk) (fun b u e=>fg _ e) (jp _) ⟨_,⟨oD,esD,epD,g1,rD⟩,Et ry⟩;have I4:=I3.write (x:=e0) (e:=e0) (o:=wG e0 C s2.heap.objs.size) (h':=h') (t':=tk) (by rw[aG n0.symm,hx];exact True.intro) (.inl rfl) (fun b u n e=>?_) ⟨_,e2⟩ (Es e2)
 ·exact⟨σ,_,I4,q2 _ I2.fresh n0⟩
 ·by_cases hb:b=s2.heap.objs.size
  ·subst hb;rw[g1]at e;cases e;exact hoD
  ·refine kp b u n ?_;rw[<-e];exact(Heap.get?_push_ne _ _ _ hb).symm
def o7(C:Addr):Sp:=fun vs H Q _=>∃(e:Addr) (i:Int),vs=[.ref e,.int i]/\H e=some (wF e C)/\i.natAbs<10^12/\∀d,H d=none->d≠e->Q .non (upd (upd H d (.xd [("at",.int i)])) e (wG e C d))
theorem JL{H:Hp}{e d:Addr}{a b c:HO}(n:d≠e):upd (upd (upd H e a) d b) e c=upd (upd H d b) e c:=by
 funext x;unfold upd;by_cases h:x=e
 ·simp[h]
 ·by_cases h2:x=d
  ·simp[h,h2]
  ·simp[h,h2]
def rm(H:Hp)(e:Addr):Hp:=fun c=>if c=e then none else H c
theorem yE{H:Hp}{e c:Addr}(h:c≠e):rm H e c=H c:=by unfold rm;rw[if_neg h]
theorem yF{H:Hp}{e:Addr}:rm H e e=none:=by unfold rm;rw[if_pos rfl]
theorem Eu{H:Hp}{e d:Addr}{a b:HO}(n:d≠e)(he:H e=none):rm (upd (upd H d a) e b) e=upd H d a:=by
 funext x;by_cases h:x=e
 ·subst h;rw[yF,aG n.symm,he]
 ·rw[yE h,aG h]
def eU(P:Program)(w:World):Ac:=fun outer H s E e s'=>∃(ea:Addr) (cls a0:Value) (od:Option Addr) (H':Hp) (B:Heap),e=.ref ea/\B.FlyingW outer ea cls a0 s'.heap/\vd s'.heap ea od/\
 (∀b o,s.heap.get? b=some o->b∉frs outer->∃o',B.get? b=some o')/\(∀b o,H' b=some o->∃o',B.get? b=some o')/\
 s'.os=s.os/\AllBare s'.gens/\Un (frs outer) [] H H' s.heap s'.heap/\i7 P w H' s'.heap/\E cls od H'
variable {f:Addr}{fd:ed}{k:Nat}
theorem Ew{kb:List (Addr×Obj)}{σ:St}{H:Hp}{s:Shared}{i:Int}{us:List Value}{Q:VK}{XE:Value->Shared->Prop}(c:gu X.K C R f)(F:aD X.prog X.w X.K X.mg X.base cm k f fd ["self","at"] (o7 C))(hr:dP (k+1) X.A)(hb:Binds X.K fd ["self","at"] [])(I:Inv X kb σ H s)(r:Vals [.int i] us)(hi:i.natAbs<10^12)
  (h:∀e d,s.heap.objs.size<=e->H e=none->H d=none->d≠e->Q (.ref e) (upd (upd H d (.xd [("at",.int i)])) e (wG e C d))):wpAny (model X.prog X.w) X.A (call (.ref C) us) (EP X kb σ Q) XE s:=by
 have hz:us.length<=ee:=by rw[<-r.length,sizeLine_eq];show 1<=16777216;decide
 have I1:=I.kept (t':=s.toks) (h':=s.heap.push {cls:=.type "tuple",data:=.seq us.toArray}) (fun b u e=>fg _ e);have he:((s.heap.push {cls:=.type "tuple",data:=.seq us.toArray}).push (eO C s.heap.objs.size none)).get? (s.heap.objs.size+1)=some (eO C s.heap.objs.size none):=by heap_get
 have I2:=I1.laid (a:=s.heap.objs.size+1) (o:=wF (s.heap.objs.size+1) C) (t':=s.toks) (h':=(s.heap.push {cls:=.type "tuple",data:=.seq us.toArray}).push (eO C s.heap.objs.size none)) (fun b u e=>fg _ e) (Nat.le_of_eq (Heap.size_push _ _)) (yB he);have hn:H (s.heap.objs.size+1)=none:=I.hok.fresh (Nat.le_succ _);have r2:Vals (V.ref (s.heap.objs.size+1):: [V.int i]) (Value.ref (s.heap.objs.size+1)::us):=.cons rfl r;have hl:(Value.ref (s.heap.objs.size+1)::us++ []).length=["self","at"].length:=by have e:=r2.length;rw[List.append_nil];exact e.symm
 have hq:o7 C [V.ref (s.heap.objs.size+1),V.int i] (upd H (s.heap.objs.size+1) (wF (s.heap.objs.size+1) C)) (fun v H2=>v=.non/\Q (.ref (s.heap.objs.size+1)) H2) E0:=by refine⟨_,i,rfl,ai,hi,fun d hd ne=>⟨rfl,?_⟩⟩;rw[JL ne];rw[aG ne]at hd;exact h _ d (Nat.le_succ _) hn hd ne
 refine BM c I.lL hz (wpAny_call (codeAny_mono (F.run _ X.stack _ _ ⟨Value.ref (s.heap.objs.size+1)::us,[]⟩ (Value.ref (s.heap.objs.size+1)::us) _ _ E0 (hr.make C us []) (I2.env0.make C us []) (by have:=hb _ (Value.ref (s.heap.objs.size+1)::us) I2.lL hl;rw[List.append_nil]at this;exact this) r2 hq) fun r s' hq'=>?_));cases r with
 | error e=>exact False.elim hq'
 | ok fl=>
  cases fl with
  | ret u=>
   obtain⟨v,H',I3,rv,ev,q3⟩:=I2.after hq';subst ev;exact⟨rv,⟨V.ref (s.heap.objs.size+1),H',I3,rfl,q3⟩⟩
  | next=>exact False.elim hq'
  | brk=>exact False.elim hq'
  | cont=>exact False.elim hq'
theorem wH{M:Model}{A:Around}{XE:Value->Shared->Prop}{K:gv}{s:Shared}{env:Env}{z:Sem Value}{Q:Flow->Shared->Prop}(c:gu K C R f)(hh:A.handled=none)
  (h:wpAny M A z (fun v s1=>∃e t od,v=.ref e/\K.In s1.heap/\s1.heap.get? e=some (eO C t od)/\XE (.ref e) s1) XE s):wpAny M A (raiseStmt env (some z) none) Q XE s:=by
 have hcB:(Value.ref C:: .ref R::lU).contains (.type "BaseException")=true:=by simp
 unfold raiseStmt;refine c8 (eg h (fun v s1 h1=>?_) fun _ _ x=>x);obtain⟨e,t,od,rfl,X,he,hE⟩:=h1;obtain⟨N,nm,q,bs,sn,sub,ab,col,dd,k0,k1,k2,k3,k5,hC⟩:=c.obj X;obtain⟨hp,g,d,tk,os⟩:=s1;dsimp only at hC he X
 repeat (first | with_reducible refine wpAny_loadPart_at he ?_ | with_reducible refine wpAny_loadPart_at hC ?_ | (with_reducible refine wpAny_isSubtype_exc hC ?_;rw[hcB]) | wp_step)
 exact wpAny_raiseNew_none hh hE
end
def Ex(C:Addr)(t:TA)(E:XK):TS:=fun _ σ H=>t σ H fun vs H1=>∃i:Int,vs=[.int i]/\i.natAbs<10^12/\∀d,H1 d=none->E (.ref C) (some d) (upd H1 d (.xd [("at",.int i)]))
section
variable {P:Program}{w:World}{K:gv}{mg:Str->Option Value}{base:Heap}{N:List Str}{qual:Str}{scope:Scope}{f:Addr}{cd:Value}{A:Around}{outer:List Env}{s₀:Shared}{H₀:Hp}{E:XK}
theorem dX{C R fI:Addr}{fd:ed}{k:Nat}{x:Str}{np cpos pos:Pos}{a:Expr}{as:List Expr}{t:TA}(c:gu K C R fI)(kp:keepIn K (.ref C)=true)(F:aD P w K mg base cm k fI fd ["self","at"] (o7 C))(hb:Binds K fd ["self","at"] [])(hr:dP (k+1) (A.deeper (envOfC qual scope s₀.heap.objs.size f cd)))(hm:mg x=some (.ref C))
  (hg:Gl (gN (eU P w) P w K mg base N qual scope f cd A outer s₀ H₀ E) x) (ha:PA (gN (eU P w) P w K mg base N qual scope f cd A outer s₀ H₀ E) (a::as) t) (hd:(x==("__debug__": Str))=false:=by decide)
  (he:starEach (a::as) (gN (eU P w) P w K mg base N qual scope f cd A outer s₀ H₀ E).env=(false,eval a (gN (eU P w) P w K mg base N qual scope f cd A outer s₀ H₀ E).env)::starEach as (gN (eU P w) P w K mg base N qual scope f cd A outer s₀ H₀ E).env:=by rfl)
  (hpl:(backTo cpos (starEach as (gN (eU P w) P w K mg base N qual scope f cd A outer s₀ H₀ E).env)).any (·.1)=false:=by rfl):
  PS (gN (eU P w) P w K mg base N qual scope f cd A outer s₀ H₀ E) (.Raise (some (.Call (.Name x np) (a::as) [] cpos)) none pos) (Ex C t E):=by
 intro kb s σ H D I h;have hr':dP (k+1) (gN (eU P w) P w K mg base N qual scope f cd A outer s₀ H₀ E).A:=hr;rw[arm_exec_Raise];refine c8 (wpAny_standAt (wH c (I.ok.hd rfl) (c8 (eg (wpAny_Call_Name_kw (nU I hg hm (callWith_K (h₀:=base) I.ok.mod.QJ kp (cJ (ha cpos kb s σ H _ I h) fun us s1 ⟨vs,H1,I1,r,i,ev,hi,q⟩=>⟨I1.lL,?_⟩) he hpl) hd)) (fun v s3 h3=>c8 (wpAny_standAt (db h3))) fun _ _ z=>z))));subst ev;refine cJ (Ew (Q:=fun v H2=>∃e d,v=.ref e/\s1.heap.objs.size<=e/\H1 e=none/\H1 d=none/\d≠e/\H2=upd (upd H1 d (.xd [("at",.int i)])) e (wG e C d)) c F hr' hb I1 r hi fun e d h0 h1 h2 h3=>⟨e,d,rfl,h0,h1,h2,h3,rfl⟩) fun v s4 hv=>?_;obtain⟨vv,H4,I4,rv,e,d,rfl,ge,ne,nd,de,XA⟩:=hv;obtain rfl:v=Value.ref e:=rv;have Sh:H4 e=some (wG e C d):=by rw[XA,ai]
 have hrm:rm H4 e=upd H1 d (.xd [("at",.int i)]):=by rw[XA];exact Eu de ne
 obtain⟨t0,ht0⟩:=(I4.hok e _ Sh).1;refine⟨e,t0,some d,rfl,I4.lL,ht0,?_⟩;have bk:=I4.bk;have stk:∀{b o},s₀.heap.get? b=some o->b∉frs outer->b∉frs ((envOfC qual scope s₀.heap.objs.size f cd)::outer):=fun {b o} hb nf hx=>by
  rcases List.mem_cons.mp (I4.lM b hx)with e | e
  ·have h1:=fm hb;have h2:s₀.heap.objs.size<=(envOfC qual scope s₀.heap.objs.size f cd).locals:=I4.ok.above;have e:b=(envOfC qual scope s₀.heap.objs.size f cd).locals:=e;rw[e]at h1;exact absurd h1 (Nat.not_lt.mpr h2)
  ·exact nf e
 have ub:Un (frs outer) [] H₀ H4 s₀.heap s4.heap:=I4.base;have old:∀{b o},s₀.heap.get? b=some o->b≠e:=fun {b o} hb z=>by have h1:=fm hb;have h2:s₀.heap.objs.size<=s1.heap.objs.size:=I1.sz;exact absurd h1 (Nat.not_lt.mpr (kq h2 (z▸ge)))
 have hk:∀{b o},H4 b=some o->b∉frs ((envOfC qual scope s₀.heap.objs.size f cd)::outer):=fun {b o} hb hx=>by have:=I4.kh b hx;rw[hb]at this;cases this
 have nin:∀{b},b∉frs ((envOfC qual scope s₀.heap.objs.size f cd)::outer)->b≠e->b∉frs ((envOfC qual scope s₀.heap.objs.size f cd)::outer)++ [e]:=fun {b} h1 h2 h3=>by
  rcases List.mem_append.mp h3 with h | h
  ·exact h1 h
  ·exact h2 (by simpa using h)
 refine Er (B:=less s4.heap (frs ((envOfC qual scope s₀.heap.objs.size f cd)::outer)++ [e])) (L:=(envOfC qual scope s₀.heap.objs.size f cd).locals) I4.ok.frames (jz I4.stack fun b h=>List.mem_append_left _ h) rfl ht0 j2 (iJ (by simp)) rfl rfl rfl fun h'' fly up dc=>?_;have stay:∀{b u},b∉frs ((envOfC qual scope s₀.heap.objs.size f cd)::outer)->b≠e->s4.heap.get? b=some u->h''.get? b=some u:=fun {b u} hb hn hu=>fly.1 b u (by rw[dH (nin hb hn)];exact hu);have M0:∀{b o},rm H4 e b=some o->b≠e/\H4 b=some o:=fun {b o} hb=>by
  by_cases z:b=e
  ·rw[z,yF]at hb;cases hb
  ·exact⟨z,by rw[yE z]at hb;exact hb⟩
 have vf:∀{b o},H4 b=some o->(∀φ,o≠.ext φ)->rm H4 e b=some o:=fun {b o} hb n=>by
  have z:b≠e:=fun z=>by rw[z,Sh]at hb;cases hb;exact n _ rfl
  rw[yE z];exact hb
 have slots:∀b o,s₀.heap.get? b=some o->H₀ b=none->b∈frs outer->∃sl,h''.get? b=some {o with slots:=sl}:=fun b o e n hb=>by obtain⟨sl,e1⟩:=ub.slot b o e n hb (by simp);obtain⟨_,o2,e2,nf⟩:=I4.kf.mem hb;rw[e1]at e2;cases e2;obtain⟨sl',e3⟩:=up b _ e1 nf;exact⟨sl',e3⟩
 refine⟨e,.ref C,.ref t0,some d,rm H4 e,_,rfl,fly,dc,fun b o hb nf=>?_,fun b o hb=>?_,I4.os,I4.bare,⟨fun b o e n nf nx=>stay (stk e nf) (old e) (ub.keep b o e n nf nx),fun b o e n hb _=>slots b o e n hb,fun b o e n hx=>?_,fun b o e nx=>?_,fun b xs e=>vf (ub.tups b xs e) (by intro _ z;cases z),fun b o u e=>vf (ub.iZ b o u e) (by intro _ z;cases z),fun b ps e=>?_⟩,fun a o ha=>?_,by rw[hrm];exact q d nd⟩
 ·obtain⟨o',e'⟩:=ub.there b o hb (by simp);exact⟨o',by rw[dH (nin (stk hb nf) (old hb))];exact e'⟩
 ·obtain⟨z,hb⟩:=M0 hb;obtain⟨o',e'⟩:=(I4.hok b o hb).some_;exact⟨o',by rw[dH (nin (hk hb) z)];exact e'⟩
 ·rw[yE (old e)];exact ub.free b o e n hx
 ·by_cases hb:b∈frs outer
  ·obtain⟨_,o2,e2,nf⟩:=I4.kf.mem hb;obtain⟨sl',e3⟩:=up b _ e2 nf;exact⟨_,e3⟩
  ·obtain⟨o',e'⟩:=ub.there b o e nx;exact⟨o',stay (stk e hb) (old e) e'⟩
 ·obtain⟨more,z⟩:=ub.jJ b ps e;exact⟨more,vf z (by intro _ z;cases z)⟩
 ·obtain⟨z,ha⟩:=M0 ha;refine(I4.hok a o ha).stay (fun b u hc q=>?_) (fun c q=>vf q (by intro _ z;cases z)) (fun c xs q=>vf q (by intro _ z;cases z));rcases hc with rfl | hc
  ·exact stay (hk ha) z q
  ·refine stay (hk hc) (fun z=>?_) q;rw[z,Sh]at hc;cases hc
variable {X:Cx}{kb:List (Addr×Obj)}{σ:St}{H:Hp}{s:Shared}
variable {k:Nat}{cR:Addr}{fd:ed}{ps:List Str}{sp:Sp}{Bu:List V}{ds:List Value}{x g n:Str}{np gp pos p2 p3 p4:Pos}{a:Expr}{as:List Expr}{t:TA}{ts:TS}{i:Nat}{b₀:Stmt}{suite:List Stmt}{L:Addr}
end
section
variable {X:Cx}{C R fI:Addr}{Bn:String}
variable {k:Nat}{f cR:Addr}{fd:ed}{ps:List Str}{sp:Sp}{Bu:List V}{ds:List Value}{x n:Str}{np p3 p4:Pos}{t:TA}{ts:TS}{i:Nat}{st b₀:Stmt}{suite:List Stmt}{L:Addr}{r:V->TS}
end
open PySem PySem.Spec PyProof.Rows
section
variable {X:Cx}
variable {scope:Scope}{N':List Str}{fr:List (Option Nat)}{kb:List (Addr×Obj)}{σ:St}{H:Hp}{s:Shared}{fp:List Addr}{y0:Str}
theorem Ey{f:Nat->Bool}:∀(bs:List Bool),(∀i b,bs[i]? =some b->f i=b)->(List.range bs.length).all f=bs.all id:=by
 intro bs h;rw[Bool.eq_iff_iff,List.all_eq_true,List.all_eq_true];constructor
 ·intro k b hb;obtain⟨i,hi,e⟩:=List.getElem_of_mem hb;have:=k i (List.mem_range.mpr hi);rw[h i b (by rw[aa hi,e])]at this;exact this
 ·intro k i hi;have hi:=List.mem_range.mp hi;rw[h i bs[i] (aa hi)];exact k _ (ba hi)
theorem M3{bs:List Bool}{its:List Value}(rv:Vals (bs.map V.bl) its){i:Nat}{v:Value}(h:its.toArray[i]? =some v):∃b,bs[i]? =some b/\v=.bool b:=by
 have h:its[i]? =some v:=by simpa using h
 have hl:=rv.length;rw[List.length_map]at hl;have hi:i<bs.length:=by rw[hl];exact(ad.mp h).1
 obtain⟨u,hu,ru⟩:=rv.get (i:=i) (x:=V.bl bs[i]) (by rw[ac,aa hi];rfl);rw[h]at hu;cases hu;exact⟨bs[i],aa hi,ru⟩
inductive vg(K:gv)(xs:List V)(H:Hp)(Q:VK):Prop
 | mk (a:Addr) (bs:List Bool) (_:xs=[.ref a]) (_:aV K H a (bs.map V.bl)) (_:Q (.bl (bs.all id)) H)
theorem jA(hc:X.calm=true):iq X (.builtin "all") (vg X.K):=by
 intro kb s σ H xs us Q I r h;obtain⟨a,bs,rfl,hq,q⟩:=h;obtain⟨u,rfl,ru⟩:=vals1 r;cases ru;obtain⟨its,rv,p,hz⟩:=I.list hq;have hl:=p.isList;have hlt:a<s.heap.objs.size:=by obtain⟨_,e,_⟩:=hl;exact fm e
 have hlen:=rv.length;rw[List.length_map]at hlen;refine call_all_walk (wpAny_pyIter_list hl ?_)
 refine⟨s.heap.objs.size,[s.heap.objs.size,a],[s.heap.objs.size],its.toArray.size,_,_,fun i=>(bs[i]?).getD true,rfl,Walks.list (A:=X.A.in1) (I.ok.hd hc) _ a (js hlt) its.toArray,
  ⟨⟨_,fk _ rfl,rfl,rfl⟩,hl.push _⟩,fun i v s' Q' E' hP hQ=>?_,fun h' tk hk=>?_⟩
 ·obtain⟨b,e,rfl⟩:=M3 rv hP;simp only[e,Option.getD_some]at hQ;exact wpAny_truthy_bool hQ
 ·rw[al,<-hlen,Ey bs (fun i b e=>by rw[e];rfl)];exact⟨.bl _,H,I.kept (t':=tk) (fun b x e=>hk b x (fun hm=>by rw[av.mp hm]at e;exact Nat.lt_irrefl _ (fm e)) (fg _ e)),rfl,q⟩
variable {prog:Program}{w:World}{A:Around}{E:Value->Shared->Prop}
theorem vh{it t:Addr}{i:Nat}{els:Array Value}{x:Value}{Q:Value->Shared->Prop}(ti:s.heap.IsTupleIter it t i)(tt:s.heap.IsTuple t els)(gx:els[i]? =some x)
  (k:∀h',h'.IsTupleIter it t (i+1)->Heap.SameBut it s.heap h'->Q x {s with heap:=h'}):wpAny (model prog w) A (Builtin.SmallTypes.nextOf (.ref it)) Q E s:=by
 obtain⟨o,go,gc,gd⟩:=id ti;obtain⟨ol,Si,_,nl,Sl⟩:=tt;unfold Builtin.SmallTypes.nextOf;refine c8 (wpAny_callSpecial?_slot (name:=Str.ofString "__next__") ti.typeIs F.slot_tuple_iterator_next (wpAny_call_entry F.slot_tuple_iterator_next ti.typeIs F.entry_tuple_iterator_next ?_ (F.args_tuple_iterator_next_1 _)));show wpAny _ _ (field (.ref it) 0>>=_) _ _ s;refine c8 (wpAny_field go gd (x:=.ref t) rfl ?_);show wpAny _ _ (if (Value.ref t==Value.none)=true then _ else _) _ _ s;rw[if_neg (show ¬((Value.ref t==Value.none)=true)from kt)];show wpAny _ _ (field (.ref it) 1>>=_) _ _ s;refine c8 (wpAny_field go gd (x:=.int i 0) rfl ?_);show wpAny _ _ (seqItems? (.ref t)>>=_) _ _ s;refine c8 (wpAny_seqItems Si Sl ?_);simp only[le,gx];refine c8 (wpAny_setField go gd (by simp) (db ⟨x,rfl,db (k _ ?_ (Heap.SameBut.update ..))⟩));exact⟨_,Heap.get?_update_self _ go (Obj.isFreed_of_fields (Obj.data_mapFields gd _)),(Obj.cls_mapFields ..).trans gc,by rw[Obj.data_mapFields gd];simp[rawInt]⟩
theorem Ez{it t:Addr}{i:Nat}{els:Array Value}{Q:Value->Shared->Prop}(hh:A.handled=none)(ti:s.heap.IsTupleIter it t i)(tt:s.heap.IsTuple t els)(gx:els[i]? =none)
  (k:∀h' e,Heap.ExtBut it s.heap h'->(∃o,h'.get? e=some o/\o.cls=.type "StopIteration")->E (.ref e) {s with heap:=h'}):wpAny (model prog w) A (Builtin.SmallTypes.nextOf (.ref it)) Q E s:=by
 obtain⟨o,go,gc,gd⟩:=id ti;obtain⟨ol,Si,_,nl,Sl⟩:=tt;unfold Builtin.SmallTypes.nextOf;refine c8 (wpAny_callSpecial?_slot (name:=Str.ofString "__next__") ti.typeIs F.slot_tuple_iterator_next (wpAny_call_entry F.slot_tuple_iterator_next ti.typeIs F.entry_tuple_iterator_next ?_ (F.args_tuple_iterator_next_1 _)));show wpAny _ _ (field (.ref it) 0>>=_) _ _ s;refine c8 (wpAny_field go gd (x:=.ref t) rfl ?_);show wpAny _ _ (if (Value.ref t==Value.none)=true then _ else _) _ _ s;rw[if_neg (show ¬((Value.ref t==Value.none)=true)from kt)];show wpAny _ _ (field (.ref it) 1>>=_) _ _ s;refine c8 (wpAny_field go gd (x:=.int i 0) rfl ?_);show wpAny _ _ (seqItems? (.ref t)>>=_) _ _ s;refine c8 (wpAny_seqItems Si Sl ?_);simp only[le,gx];refine c8 (wpAny_rule (c8 (wpAny_setField go gd (by simp) ?_)));show wpAny _ _ (newExc (.type "StopIteration") [] >>=_) _ _ _;refine c8 ?_;simp only[newExc,newTuple];refine c8 (wpAny_newObj_type ?_ (by size_fits));refine c8 (m:=firstArgMember _ _) (wpAny_of_eq (a:=Value.none) (by first | rfl | (simp only[firstArgMember];rfl)) ?_);refine wpAny_newObj_type ?_ (by size_fits);simp only[raiseNew];refine c8 (wpAny_handled ?_);(first | rw[show A.in1.handled=none from hh] | rw[hh]);refine c8 (db (wpAny_throw ?_));exact k _ _ (((Heap.SameBut.update ..).extBut.push _).push _) ⟨_,fk _ rfl,rfl⟩
theorem Av{z TI TO i1 i2 l1 l2:Addr}{k:Nat}{xs ys:Array Value}{x y a b:Value}{Q:Option Value->Shared->Prop}(D:ZipApart z TI TO i1 i2 l1 l2)
  (gz:IsZip s.heap z TI TO .none) (gI:IsPair s.heap TI (.ref i1) (.ref i2)) (gO:IsPair s.heap TO a b)
  (t1:s.heap.IsTupleIter i1 l1 k) (t2:s.heap.IsTupleIter i2 l2 k) (m1:s.heap.IsTuple l1 xs) (m2:s.heap.IsTuple l2 ys) (gx:xs[k]? =some x) (gy:ys[k]? =some y)
  (q:∀h',IsZip h' z TI TO (rawInt s.heap.objs.size)->IsPair h' TO x y->h'.IsTupleIter i1 l1 (k+1)->h'.IsTupleIter i2 l2 (k+1)->IsPair h' s.heap.objs.size x y->h'.objs.size=s.heap.objs.size+1->
   (∀c o,c≠z->c≠TO->c≠i1->c≠i2->s.heap.get? c=some o->h'.get? c=some o)->Q (some (.ref s.heap.objs.size)) {s with heap:=h'}):wpAny (model prog w) A (pyNext (.ref z)) Q E s:=by
 have hT:s.TypeIs (.ref z) "zip":=⟨_,gz,rfl⟩;unfold pyNext;refine c8 (wpAny_attempt (wpAny_callSpecial?_slot (name:=Str.ofString "__next__") hT F.slot_zip_next (wpAny_call_entry F.slot_zip_next hT F.entry_zip_next ?_ (F.args_zip_next_1 _))));show wpAny _ _ (field (.ref z) 2>>=_) _ _ _;refine c8 (wpAny_field gz rfl (x:=.bool false) rfl ?_);show wpAny _ _ (field (.ref z) 3>>=_) _ _ _;refine c8 (wpAny_field gz rfl (x:=.ref TI) rfl ?_);refine c8 (wpAny_seqItems gI rfl ?_);show wpAny _ _ (Builtin.SmallTypes.ownedTupleIsFree (.ref z)>>=_) _ _ _;refine c8 ?_;unfold Builtin.SmallTypes.ownedTupleIsFree;refine c8 (wpAny_field gz rfl (x:=.none) rfl (db ?_));simp only[if_true];refine c8 (wpAny_rule ?_);refine c8 (wpAny_field gz rfl (x:=.ref TO) rfl ?_);refine c8 (wpAny_setField_rec gz (by simp) fun g1 z1 e1=>?_);replace z1:IsZip g1 z TI TO .ellipsis:=z1;refine c8 ?_;simp only[List.zipIdx_cons,List.zipIdx_nil,List.forIn_cons,List.forIn_nil];refine c8 (c8 (wpAny_onRaise ?_));show wpAny _ _ (Builtin.SmallTypes.nextOf (.ref i1)>>=_) _ _ _;refine c8 (vh (t1.extBut e1.extBut D.i1z) (m1.extBut e1.extBut D.l1z) gx fun g2 ZP e2=>db ?_);have o2:IsPair g2 TO a b:=e2.extBut _ _ D.TOi1 (e1.extBut _ _ D.TOz gO);refine c8 (wpAny_seqItems o2 rfl ?_);refine c8 (wpAny_updateSeq_pair o2 fun g3 o3 e3=>?_);replace o3:IsPair g3 TO x b:=o3;refine c8 (wpAny_letGo (db ?_));refine c8 (c8 (wpAny_onRaise ?_));show wpAny _ _ (Builtin.SmallTypes.nextOf (.ref i2)>>=_) _ _ _;refine c8 (vh (((t2.extBut e1.extBut D.i2z).extBut e2.extBut D.i12.symm).extBut e3.extBut D.TOi2.symm) (((m2.extBut e1.extBut D.l2z).extBut e2.extBut D.l2i1).extBut e3.extBut D.l2TO) gy fun g4 Sn e4=>db ?_);have o4:IsPair g4 TO x b:=e4.extBut _ _ D.TOi2 o3;refine c8 (wpAny_seqItems o4 rfl ?_);refine c8 (wpAny_updateSeq_pair o4 fun g5 o5 e5=>?_);replace o5:IsPair g5 TO x y:=o5;refine c8 (wpAny_letGo (db (db ?_)));refine c8 (wpAny_seqItems o5 rfl ?_);refine c8 (wpAny_newTuple ?_);have sz:g5.objs.size=s.heap.objs.size:=by rw[e5.1,e4.1,e3.1,e2.1,e1.1]
 have z5:IsZip g5 z TI TO .ellipsis:=e5.extBut _ _ D.TOz.symm (e4.extBut _ _ D.i2z.symm (e3.extBut _ _ D.TOz.symm (e2.extBut _ _ D.i1z.symm z1)));have kp:∀c o,c≠z->c≠TO->c≠i1->c≠i2->s.heap.get? c=some o->g5.get? c=some o:=fun c o c1 c2 c3 c4 e=>e5.extBut _ _ c2 (e4.extBut _ _ c4 (e3.extBut _ _ c2 (e2.extBut _ _ c3 (e1.extBut _ _ c1 e))));have u1:g5.IsTupleIter i1 l1 (k+1):=((ZP.extBut e3.extBut D.TOi1.symm).extBut e4.extBut D.i12).extBut e5.extBut D.TOi1.symm;have u2:g5.IsTupleIter i2 l2 (k+1):=Sn.extBut e5.extBut D.TOi2.symm;have zl:z<g5.objs.size:=fm z5;show wpAny _ _ (Builtin.SmallTypes.ownedTupleHandOut (.ref z) (.ref g5.objs.size)>>=_) _ _ _;refine c8 ?_;unfold Builtin.SmallTypes.ownedTupleHandOut;have z6:IsZip (g5.push {cls:=.type "tuple",data:=.seq #[x,y]}) z TI TO .ellipsis:=fg _ z5;refine c8 (wpAny_setField_rec z6 (by simp) fun g7 z7 e7=>?_);replace z7:IsZip g7 z TI TO (rawInt g5.objs.size):=z7;refine wpAny_setField_rec z7 (by simp) fun g8 z8 e8=>?_;replace z8:IsZip g8 z TI TO (rawInt g5.objs.size):=z8;have up:∀c o,c≠z->g5.get? c=some o->g8.get? c=some o:=fun c o c1 e=>e8.extBut _ _ c1 (e7.extBut _ _ c1 (fg _ e));have n8:IsPair g8 g5.objs.size x y:=e8.extBut _ _ (Nat.ne_of_gt zl) (e7.extBut _ _ (Nat.ne_of_gt zl) (fk _ rfl));have s8:g8.objs.size=g5.objs.size+1:=by rw[e8.1,e7.1,Heap.size_push]
 rw[sz]at z8 n8 s8;refine db ⟨.ref g5.objs.size,rfl,db ?_⟩;rw[sz];exact q g8 z8 (up _ _ D.TOz o5) (u1.at fun o e=>up _ o D.i1z e) (u2.at fun o e=>up _ o D.i2z e) n8 s8 fun c o c1 c2 c3 c4 e=>up c o c1 (kp c o c1 c2 c3 c4 e)
theorem BQ{z TI TO i1 i2 l1 l2:Addr}{k:Nat}{xs:Array Value}{Q:Option Value->Shared->Prop}(hh:A.handled=none)(D:ZipApart z TI TO i1 i2 l1 l2)
  (gz:IsZip s.heap z TI TO .none) (gI:IsPair s.heap TI (.ref i1) (.ref i2)) (t1:s.heap.IsTupleIter i1 l1 k) (m1:s.heap.IsTuple l1 xs) (gx:xs[k]? =none)
  (q:∀h',(∀c o,c≠z->c≠TO->c≠i1->c≠i2->s.heap.get? c=some o->h'.get? c=some o)->Q none {s with heap:=h'}):wpAny (model prog w) A (pyNext (.ref z)) Q E s:=by
 have hT:s.TypeIs (.ref z) "zip":=⟨_,gz,rfl⟩;unfold pyNext;refine c8 (wpAny_attempt (wpAny_callSpecial?_slot (name:=Str.ofString "__next__") hT F.slot_zip_next (wpAny_call_entry F.slot_zip_next hT F.entry_zip_next ?_ (F.args_zip_next_1 _))));show wpAny _ _ (field (.ref z) 2>>=_) _ _ _;refine c8 (wpAny_field gz rfl (x:=.bool false) rfl ?_);show wpAny _ _ (field (.ref z) 3>>=_) _ _ _;refine c8 (wpAny_field gz rfl (x:=.ref TI) rfl ?_);refine c8 (wpAny_seqItems gI rfl ?_);show wpAny _ _ (Builtin.SmallTypes.ownedTupleIsFree (.ref z)>>=_) _ _ _;refine c8 ?_;unfold Builtin.SmallTypes.ownedTupleIsFree;refine c8 (wpAny_field gz rfl (x:=.none) rfl (db ?_));simp only[if_true];refine c8 (wpAny_rule ?_);refine c8 (wpAny_field gz rfl (x:=.ref TO) rfl ?_);refine c8 (wpAny_setField_rec gz (by simp) fun g1 z1 e1=>?_);replace z1:IsZip g1 z TI TO .ellipsis:=z1;refine c8 ?_;simp only[List.zipIdx_cons,List.zipIdx_nil,List.forIn_cons,List.forIn_nil];refine c8 (c8 (wpAny_onRaise ?_));show wpAny _ _ (Builtin.SmallTypes.nextOf (.ref i1)>>=_) _ _ _;refine c8 (Ez hh (t1.extBut e1.extBut D.i1z) (m1.extBut e1.extBut D.l1z) gx fun g2 e e2 he=>?_);obtain⟨oe,hoe,hce⟩:=he;have z2:IsZip g2 z TI TO .ellipsis:=e2 _ _ D.i1z.symm z1;have ne:e≠z:=fun x=>by subst x;rw[z2]at hoe;cases hoe;simp at hce
 refine wpAny_setField_rec z2 (by simp) fun g3 _ e3=>?_;refine c8 (wpAny_isInstance (T :="StopIteration") (b:=true) ⟨oe,e3.extBut _ _ ne hoe,hce⟩ isSubtype_stop ?_);exact db (q g3 fun c o c1 _ c3 _ x=>e3.extBut _ _ c1 (e2 _ _ c3 (e1.extBut _ _ c1 x)))
abbrev QV(h:Heap)(a:Addr):Heap:=h.push {cls:=.type "tuple_iterator",data:=.fields #[.ref a,.int 0 0]}
abbrev QW(h:Heap)(a b:Addr):Heap:=(QV h a).push {cls:=.type "tuple_iterator",data:=.fields #[.ref b,.int 0 0]}
abbrev QX(h:Heap)(a b:Addr):Heap:=(QW h a b).push {cls:=.type "tuple",data:=.seq #[.ref h.objs.size,.ref (QV h a).objs.size]}
abbrev QY(h:Heap)(a b:Addr):Heap:=(QX h a b).push {cls:=.type "tuple",data:=.seq #[.none,.none]}
abbrev LH(h:Heap)(a b:Addr):Heap:=(QY h a b).push {cls:=.type "zip",data:=.fields #[.none,.bool false,.bool false,.ref (QW h a b).objs.size,.ref (QX h a b).objs.size]}
theorem ZQ(a b:Addr)(xs ys:Array Value):Meets (Builtin.«zip.__new__» ⟨[.type "zip",.ref a,.ref b],[]⟩) (fun _ R s=>s.heap.IsTuple a xs/\s.heap.IsTuple b ys/\R (.ok (.ret (.ref (QY s.heap a b).objs.size))) {s with heap:=LH s.heap a b}):=
 .of_wp fun prog w A R s h=>by
  obtain⟨hp,g,d,tk,os⟩:=s;obtain⟨m1,m2,h⟩:=h;have hsub:=sub_zip;have n1:Heap.IsTuple (Shared.heap ⟨hp,g,d,tk,os⟩) a xs:=m1;have n2:Heap.IsTuple (Shared.heap ⟨hp.push {cls:=.type "tuple_iterator",data:=.fields #[.ref a,.int 0 0]},g,d,tk,os⟩) b ys:=Heap.IsTuple.push m2 _
  wp_walk using wpAny_pyIter_tuple n1,wpAny_pyIter_tuple n2
  exact⟨_,rfl,h⟩
theorem Aw{a b:Addr}{xs ys:Array Value}{Q:Value->Shared->Prop}(m1:s.heap.IsTuple a xs)(m2:s.heap.IsTuple b ys)
  (h:∀h',IsZip h' (s.heap.objs.size+4) (s.heap.objs.size+2) (s.heap.objs.size+3) .none->IsPair h' (s.heap.objs.size+2) (.ref s.heap.objs.size) (.ref (s.heap.objs.size+1))->
   IsPair h' (s.heap.objs.size+3) .none .none->h'.IsTupleIter s.heap.objs.size a 0->h'.IsTupleIter (s.heap.objs.size+1) b 0->(∀c o,s.heap.get? c=some o->h'.get? c=some o)->Q (.ref (s.heap.objs.size+4)) {s with heap:=h'}):
  wpAny (model prog w) A (call (.type "zip") [.ref a,.ref b]) Q E s:=by
 refine callType_new F.called_zip (by decide) (F.typeCall_zip_2 _ _) (F.newCall_zip_2 _ _) (fun obj=>F.args_object_init_3 obj _ _) F.entry_zip_new (ZQ a b xs ys) ⟨m1,m2,?_⟩;have z1:(QV s.heap a).objs.size=s.heap.objs.size+1:=Heap.size_push ..;have z2:(QW s.heap a b).objs.size=s.heap.objs.size+2:=by rw[Heap.size_push,z1]
 have z3:(QX s.heap a b).objs.size=s.heap.objs.size+3:=by rw[Heap.size_push,z2]
 have z4:(QY s.heap a b).objs.size=s.heap.objs.size+4:=by rw[Heap.size_push,z3]
 have g5:(LH s.heap a b).get? (QY s.heap a b).objs.size=some _:=fk _ rfl;have g4:(LH s.heap a b).get? (QX s.heap a b).objs.size=some _:=fg _ (fk _ rfl);have g3:(LH s.heap a b).get? (QW s.heap a b).objs.size=some _:=fg _ (fg _ (fk _ rfl));have g2:(LH s.heap a b).get? (QV s.heap a).objs.size=some _:=fg _ (fg _ (fg _ (fk _ rfl)));have g1:(LH s.heap a b).get? s.heap.objs.size=some _:=fg _ (fg _ (fg _ (fg _ (fk _ rfl))));show _/\_;rw[z2,z3,z4]at g5;rw[z1,z2]at g3;rw[z3]at g4;rw[z1]at g2;rw[z4];refine⟨⟨_,g5,rfl⟩,h _ g5 g3 g4 ⟨_,g1,rfl,rfl⟩ ⟨_,g2,rfl,rfl⟩ fun c o x=>?_⟩;exact fg _ (fg _ (fg _ (fg _ (fg _ x))))
def M4(K:gv)(a b:Addr):It :=
 ⟨fun i H=>∃xs x ys y,bz K H a xs/\xs[i]? =some x/\bz K H b ys/\ys[i]? =some y,
   fun i H v H'=>∃t x y,H t=none/\v=.ref t/\H'=upd H t (.tup [x,y])/\(∀xs,bz K H a xs->xs[i]? =some x)/\∀ys,bz K H b ys->ys[i]? =some y,
   fun i H=>∃xs,bz K H a xs/\xs.length<=i⟩
theorem BR{P:Program}{w:World}{K:gv}{elts:List Expr}{x1}{pos:Pos}(a b z TI TO i1 i2:Addr)(D:ZipApart z TI TO i1 i2 a b):
  Turn P w K (.Tuple elts x1 pos) (M4 K a b) [z,TI,TO,i1,i2] z (fun i h=>IsZip h z TI TO .none/\IsPair h TI (.ref i1) (.ref i2)/\(∃u v,IsPair h TO u v)/\h.IsTupleIter i1 a i/\h.IsTupleIter i2 b i) where
 mem:=by simp
 obj:=fun i h st c hc=>by
  obtain⟨s1,s2,⟨u,v,s3⟩,⟨o4,s4,_,d4⟩,⟨o5,s5,_,d5⟩⟩:=st;have hc':c=z\/c=TI\/c=TO\/c=i1\/c=i2:=by simpa using hc
  rcases hc' with rfl | rfl | rfl | rfl | rfl
  ·exact⟨_,s1,fun v q=>by have q':Data.fields _=Data.cell v:=q;cases q'⟩
  ·exact⟨_,s2,fun v q=>by have q':Data.seq _ _=Data.cell v:=q;cases q'⟩
  ·exact⟨_,s3,fun v q=>by have q':Data.seq _ _=Data.cell v:=q;cases q'⟩
  ·exact⟨o4,s4,fun v q=>by rw[d4]at q;cases q⟩
  ·exact⟨o5,s5,fun v q=>by rw[d5]at q;cases q⟩
 keep:=fun i h h' st k=>⟨k z (by simp) _ st.1,k TI (by simp) _ st.2.1,st.2.2.1.elim fun u q=>q.elim fun v q=>⟨u,v,k TO (by simp) _ q⟩,st.2.2.2.1.at fun o e=>k i1 (by simp) o e,st.2.2.2.2.at fun o e=>k i2 (by simp) o e⟩
 item:=by
  intro X hP hw hK hc i kb s σ H E I hf st hg;subst hP hw hK;obtain⟨xs,x,ys,y,hq,hx,hq2,hy⟩:=hg;obtain⟨s1,s2,⟨u,v,s3⟩,s4,s5⟩:=st;obtain⟨its,rv,p,hz⟩:=I.tuple hq;obtain⟨its2,XB,p2,hz2⟩:=I.tuple hq2;obtain⟨ux,hux,ZR⟩:=rv.get hx;obtain⟨uy,ZS,ZU⟩:=XB.get hy;refine Av D s1 s2 s3 s4 s5 (show s.heap.IsTuple a its.toArray from p) (show s.heap.IsTuple b its2.toArray from p2) (x:=ux) (y:=uy) (by simpa using hux) (by simpa using ZS) fun h1 a1 a2 a3 a4 a5 a6 k1=>?_;refine⟨_,rfl,wpAny_letOwnedTupleGo_zip a1 fun h2 b1 b2=>?_⟩;have nz:s.heap.objs.size≠z:=Nat.ne_of_gt (fm s1);have MQ:=(b2.2 s.heap.objs.size nz).trans a5;have hk:∀c o,c∉ [z,TO,i1,i2]->s.heap.get? c=some o->h2.get? c=some o:=fun c o hb e'=>by
   have hb':c≠z/\c≠TO/\c≠i1/\c≠i2:=by simpa using hb
   exact(b2.2 c hb'.1).trans (k1 c o hb'.1 hb'.2.1 hb'.2.2.1 hb'.2.2.2 e')
  have hfr:H s.heap.objs.size=none:=I.hok.fresh (jp _)
  refine⟨.ref s.heap.objs.size,upd H s.heap.objs.size (.tup [x,y]),I.rg (t':=s.toks) hk (fun c hc=>hf c (by simp at hc ⊢;rcases hc with q | q | q | q<;>simp[q])) (jp _) ?_,rfl,
   ⟨_,x,y,hfr,rfl,rfl,fun zs hy'=>by rw[I.jv hy' hq];exact hx,fun zs hy'=>by rw[I.jv hy' hq2];exact hy⟩,⟨b1,?_,⟨ux,uy,?_⟩,a3.at fun o e=>(b2.2 i1 D.i1z).trans e,a4.at fun o e=>(b2.2 i2 D.i2z).trans e⟩,fun c hc=>?_⟩
  ·exact⟨by show 2<=ee;decide,[ux,uy],.cons ZR (.cons ZU .nil),⟨_,MQ,rfl,_,rfl⟩⟩
  ·exact hk TI _ (by simp[D.TIz,D.TITO,D.TIi1,D.TIi2]) s2
  ·exact(b2.2 TO D.TOz).trans a2
  ·have:c≠s.heap.objs.size:=by
    have hc':c=z\/c=TI\/c=TO\/c=i1\/c=i2:=by simpa using hc
    rcases hc' with rfl | rfl | rfl | rfl | rfl
    ·exact Ne.symm nz
    ·exact js (fm s2)
    ·exact js (fm s3)
    ·obtain⟨o,e1,_⟩:=s4;exact js (fm e1)
    ·obtain⟨o,e1,_⟩:=s5;exact js (fm e1)
   rw[aG this];exact(hf c hc).1
 done:=by
  intro X hP hw hK hc i kb s σ H E I hf st hg;subst hP hw hK;obtain⟨xs,hq,hx⟩:=hg;obtain⟨s1,s2,s3,s4,s5⟩:=st;obtain⟨its,rv,p,hz⟩:=I.tuple hq;have hl:=rv.length
  exact BQ (I.ok.hd hc) D s1 s2 s4 (show s.heap.IsTuple a its.toArray from p) (by simp;omega) fun h' eb=>⟨rfl,I.Em (t':=s.toks) (its:=[z,TO,i1,i2]) (fun c o hb e=>by
   have hb':c≠z/\c≠TO/\c≠i1/\c≠i2:=by simpa using hb
   exact eb c o hb'.1 hb'.2.1 hb'.2.2.1 hb'.2.2.2 e) (fun c hc=>hf c (by simp at hc ⊢;rcases hc with q | q | q | q<;>simp[q]))⟩
 self:=fun _ _ _ _ _ st h=>wpAny_pyIter_zip st.1 h
def Sq(K:gv)(ta:TA):TI:=fun σ H R=>ta σ H fun vs H1=>∃a b,vs=[.ref a,.ref b]/\(∃xs,bz K H1 a xs)/\(∃ys,bz K H1 b ys)/\R (M4 K a b) H1
theorem JM:bootBuiltins "zip"=some (.type "zip"):=by decide+kernel
theorem BU{a b:Expr}{ta:TA}{p pos:Pos}{elts:List Expr}{x1}{tpos:Pos}(hg:Gl X "zip")(hm:X.mg "zip"=none)(ha:PA X [a,b] ta)
  (hs:starEach [a,b] X.env=[(false,eval a X.env),(false,eval b X.env)]:=by rfl) (hs2:starEach [b] X.env=[(false,eval b X.env)]:=by rfl):PI X (.Tuple elts x1 tpos) (.Call (.Name "zip" p) [a,b] [] pos) (Sq X.K ta):=by
 intro kb s σ H R I h;refine Call_ (jZ I hg hm JM (PyProof.Rows.callWith_type1 (cJ (ha pos kb s σ H _ I h) fun us s1 ⟨vs,H1,I1,r1,q1⟩=>?_) (by rw[hs,hs2]) (by rw[hs2];rfl)));obtain⟨a,b,e,⟨xs,hq⟩,⟨ys,hq2⟩,q⟩:=q1;subst e;obtain⟨u,v,rfl,ru,rv⟩:=vals2 r1;cases ru;cases rv;obtain⟨its,rv,p,hz⟩:=I1.tuple hq;obtain⟨its2,XB,p2,hz2⟩:=I1.tuple hq2;have la:a<s1.heap.objs.size:=by obtain⟨o,e,_⟩:=p;exact fm e
 have lb:b<s1.heap.objs.size:=by obtain⟨o,e,_⟩:=p2;exact fm e
 refine Aw (show s1.heap.IsTuple a its.toArray from p) (show s1.heap.IsTuple b its2.toArray from p2) fun h' g1 g2 g3 g4 g5 hk=>?_;refine wpAny_pyIter_zip g1 ?_;have D:ZipApart (s1.heap.objs.size+4) (s1.heap.objs.size+2) (s1.heap.objs.size+3) s1.heap.objs.size (s1.heap.objs.size+1) a b:=PySem.W.ktu_apart _ _ _ la lb;refine⟨s1.heap.objs.size+4,[s1.heap.objs.size+4,s1.heap.objs.size+2,s1.heap.objs.size+3,s1.heap.objs.size,s1.heap.objs.size+1],_,_,H1,rfl,I1.kept (t':=s1.toks) hk,BR a b _ _ _ _ _ D,⟨g1,g2,⟨_,_,g3⟩,g4,g5⟩,fun c hc=>?_,q⟩;have hc':s1.heap.objs.size<=c:=by
  have hc':c=s1.heap.objs.size+4\/c=s1.heap.objs.size+2\/c=s1.heap.objs.size+3\/c=s1.heap.objs.size\/c=s1.heap.objs.size+1:=by simpa using hc
  rcases hc' with q | q | q | q | q<;>rw[q]
  ·exact Nat.le_add_right _ _
  ·exact Nat.le_add_right _ _
  ·exact Nat.le_add_right _ _
  ·exact jp _
  ·exact Nat.le_add_right _ _
 exact I1.v9 hc' (I1.hok.fresh hc')
end
theorem o8{K:gv}{a:Addr}{xs:List V}{g:TG}{tt:TT}{te:TE}{R:Hp->Prop}{D:Addr}{σ0:St}{H0:Hp}(Pv:Nat->St->List V->Hp->Prop)(h0:Pv 0 σ0 [] H0)(hl:∀i σ ys H,i<=xs.length->Pv i σ ys H->bz K H a xs)
  (hs:∀i x σ ys H,xs[i]? =some x->Pv i σ ys H->g x σ H fun σ2 H2=>tt σ2 H2 fun b H3=>
   if b=true then te σ2 H3 fun v H4=>H4 D=some (.lst ys)/\ys.length<ee/\Pv (i+1) σ2 (ys++ [v]) (upd H4 D (.lst (ys++ [v])))else Pv (i+1) σ2 ys H3)
  (hd:∀σ ys H,Pv xs.length σ ys H->R H):
  ∃W:Nat->Nat->St->List V->Hp->Prop,(∃m,W 0 m σ0 [] H0)/\∀i m σ ys H,W i m σ ys H->
   ((Mi K a).stop i H/\R H)\/((Mi K a).go i H/\∃N:St->List V->Hp->Prop,(∀σ' ys' H',N σ' ys' H'->∃m',m'<m/\W (i+1) m' σ' ys' H')/\∀x H',(Mi K a).yj i H x H'->g x σ H' fun σ2 H2=>tt σ2 H2 fun b H3=>
    if b=true then te σ2 H3 fun v H4=>H4 D=some (.lst ys)/\ys.length<ee/\N σ2 (ys++ [v]) (upd H4 D (.lst (ys++ [v])))else N σ2 ys H3):=by
 refine⟨fun i m σ ys H=>m=xs.length-i/\i<=xs.length/\Pv i σ ys H,⟨xs.length,by simp,Nat.zero_le _,h0⟩,?_⟩;rintro i m σ ys H ⟨rfl,hi,p⟩;have q:=hl i σ ys H hi p;by_cases hlt:i<xs.length
 ·refine .inr ⟨⟨xs,xs[i],q,by simp[hlt]⟩,Pv (i+1),fun σ' ys' H' p'=>⟨xs.length- (i+1),by omega,rfl,hlt,p'⟩,fun x H' y=>?_⟩;obtain⟨e,y⟩:=y;subst e;exact hs i x σ ys _ (y xs q) p
 ·have e:i=xs.length:=by omega
  subst e;exact .inl ⟨⟨xs,q,jp _⟩,hd σ ys H p⟩
theorem vi{K:gv}{a b:Addr}{xs zs:List V}{g:TG}{tt:TT}{te:TE}{R:Hp->Prop}{D:Addr}{σ0:St}{H0:Hp}(hlen:xs.length=zs.length)(Pv:Nat->St->List V->Hp->Prop)(h0:Pv 0 σ0 [] H0)
  (hl:∀i σ ys H,i<=xs.length->Pv i σ ys H->bz K H a xs/\bz K H b zs)
  (hs:∀i x z σ ys H t,xs[i]? =some x->zs[i]? =some z->H t=none->Pv i σ ys H->g (.ref t) σ (upd H t (.tup [x,z])) fun σ2 H2=>tt σ2 H2 fun c H3=>
   if c=true then te σ2 H3 fun v H4=>H4 D=some (.lst ys)/\ys.length<ee/\Pv (i+1) σ2 (ys++ [v]) (upd H4 D (.lst (ys++ [v])))else Pv (i+1) σ2 ys H3)
  (hd:∀σ ys H,Pv xs.length σ ys H->R H):
  ∃W:Nat->Nat->St->List V->Hp->Prop,(∃m,W 0 m σ0 [] H0)/\∀i m σ ys H,W i m σ ys H->
   ((M4 K a b).stop i H/\R H)\/((M4 K a b).go i H/\∃N:St->List V->Hp->Prop,(∀σ' ys' H',N σ' ys' H'->∃m',m'<m/\W (i+1) m' σ' ys' H')/\∀x H',(M4 K a b).yj i H x H'->g x σ H' fun σ2 H2=>tt σ2 H2 fun c H3=>
    if c=true then te σ2 H3 fun v H4=>H4 D=some (.lst ys)/\ys.length<ee/\N σ2 (ys++ [v]) (upd H4 D (.lst (ys++ [v])))else N σ2 ys H3):=by
 refine⟨fun i m σ ys H=>m=xs.length-i/\i<=xs.length/\Pv i σ ys H,⟨xs.length,by simp,Nat.zero_le _,h0⟩,?_⟩;rintro i m σ ys H ⟨rfl,hi,p⟩;obtain⟨q,q2⟩:=hl i σ ys H hi p;by_cases hlt:i<xs.length
 ·refine .inr ⟨⟨xs,xs[i],zs,zs[i]'(by omega),q,aa hlt,q2,aa _⟩,Pv (i+1),fun σ' ys' H' p'=>⟨xs.length- (i+1),by omega,rfl,hlt,p'⟩,fun v H' y=>?_⟩;obtain⟨t,x,z,hn,e1,e2,y1,y2⟩:=y;subst e1 e2;exact hs i x z σ ys _ t (y1 xs q) (y2 zs q2) hn p
 ·have e:i=xs.length:=by omega
  subst e;exact .inl ⟨⟨xs,q,jp _⟩,hd σ ys H p⟩
open PySem PySem.W PySem.Spec PySem.Calls PyProof.Rows
theorem ie{P:Program}{w:World}{K:gv}{mg:Str->Option Value}{base:Heap}{N:List Str}{qual:Str}{scope:Scope}{f:Addr}{cd:Value}{A:Around}{outer:List Env}{s₀:Shared}{H₀:Hp}{E:XK}:
  Passes (eU P w) (gN (eU P w) P w K mg base N qual scope f cd A outer s₀ H₀ E) E:=by
 intro kb σ H s e s' I cx;obtain⟨ea,cls,a0,od,H',B,rfl,fly,dc,hB,hH,os,bare,un,hok,hE⟩:=cx;obtain⟨T,be,bT,JN⟩:=vb fly;have apart:∀{b o},B.get? b=some o->b∉frs ((envOfC qual scope s₀.heap.objs.size f cd)::outer)->b∉frs ((envOfC qual scope s₀.heap.objs.size f cd)::outer)++ [ea,T]:=fun {b o} hb nf hx=>by
  rcases List.mem_append.mp hx with h | h
  ·exact nf h
  ·rcases(show b=ea\/b=T by simpa using h)with rfl | rfl
   ·rw[be]at hb;cases hb
   ·rw[bT]at hb;cases hb
 have fr':∀b∈frs ((envOfC qual scope s₀.heap.objs.size f cd)::outer),H' b=none:=fun b hb=>by obtain⟨_,o,ho,_⟩:=I.stack.mem hb;exact un.free b o ho (I.kh b hb) (by simp)
 have kH:∀{b o},H' b=some o->b∉frs ((envOfC qual scope s₀.heap.objs.size f cd)::outer)++ [ea,T]:=fun {b o} hb=>by obtain⟨o',h1⟩:=hH b o hb;exact apart h1 fun z=>by rw[fr' b z]at hb;cases hb
 have stk:∀{b o},s₀.heap.get? b=some o->b∉frs outer->b∉frs ((envOfC qual scope s₀.heap.objs.size f cd)::outer):=fun {b o} hb nf hx=>by
  rcases List.mem_cons.mp (I.lM b hx)with e | e
  ·have h1:=fm hb;have h2:s₀.heap.objs.size<=(envOfC qual scope s₀.heap.objs.size f cd).locals:=I.ok.above;have e:b=(envOfC qual scope s₀.heap.objs.size f cd).locals:=e;rw[e]at h1;exact absurd h1 (Nat.not_lt.mpr h2)
  ·exact nf e
 refine Au (B:=less s'.heap (frs ((envOfC qual scope s₀.heap.objs.size f cd)::outer)++ [ea,T])) (L:=(envOfC qual scope s₀.heap.objs.size f cd).locals) I.ok.frames rfl JN dc fun h5 M5 up ZV=>?_;have stay:∀{b u},b∉frs ((envOfC qual scope s₀.heap.objs.size f cd)::outer)++ [ea,T]->s'.heap.get? b=some u->h5.get? b=some u:=fun {b u} hb hu=>M5.1 b u (by rw[dH hb];exact hu);have up1:∀b o,s'.heap.get? b=some o->b∈frs ((envOfC qual scope s₀.heap.objs.size f cd)::outer)->∃sl,h5.get? b=some {o with slots:=sl}:=fun b o ho hb=>by obtain⟨_,o2,e2,nf⟩:=fly.2.2.1.mem hb;rw[ho]at e2;cases e2;exact up b o ho nf
 have ZW:Un (frs ((envOfC qual scope s₀.heap.objs.size f cd)::outer)) [] H H' s.heap h5:=by
  refine⟨fun b o e n nf nx=>?_,fun b o e n hb nx=>?_,un.free,fun b o e nx=>?_,un.tups,un.iZ,un.jJ⟩
  ·obtain⟨o',hb⟩:=hB b o e nf;exact stay (apart hb nf) (un.keep b o e n nf nx)
  ·obtain⟨sl,e1⟩:=un.slot b o e n hb nx;obtain⟨sl',e2⟩:=up1 b _ e1 hb;exact⟨sl',e2⟩
  ·obtain⟨o',e1⟩:=un.there b o e nx;by_cases hb:b∈frs ((envOfC qual scope s₀.heap.objs.size f cd)::outer)
   ·obtain⟨sl',e2⟩:=up1 b _ e1 hb;exact⟨_,e2⟩
   ·obtain⟨o2,h2⟩:=hB b o e hb;exact⟨o',stay (apart h2 hb) e1⟩
 have M6:i7 P w H' h5:=fun a o e=>(hok a o e).stay (fun b u hc q=>by
  rcases hc with rfl | hc
  ·exact stay (kH e) q
  ·exact stay (kH hc) q) (fun _ q=>q) fun _ _ q=>q
 have I5:=I.call' (s':={s' with heap:=h5}) (ch:=[]) os ZW M6 bare (fun b z=>absurd z (by simp));refine⟨ea,cls,a0,od,H',_,rfl,M5,ZV,fun b o hb nf=>?_,fun b o hb=>?_,I5.os,I5.bare,I5.base,M6,hE⟩
 ·have ns:=stk hb nf;obtain⟨o1,e1⟩:=I.base.there b o hb (by show b∉ [];simp);obtain⟨o2,e2⟩:=hB b o1 e1 ns;obtain⟨o3,e3⟩:=un.there b o1 e1 (by simp);exact⟨o3,by rw[dH (apart e2 ns)];exact e3⟩
 ·obtain⟨u,hu⟩:=(hok b o hb).some_;exact⟨u,by rw[dH (kH hb)];exact hu⟩
def fZ(X:Cx)(E:XK)(scope:Scope)(C:Addr)(N':List Str)(s₀:Shared)(H₀:Hp)(fp:List Addr):Cx :=
 (cV X scope C N' s₀ H₀ fp).wish (fun e s'=>∃(kb:List (Addr×Obj)) (σ:St) (H:Hp) (s:Shared),Inv (cV X scope C N' s₀ H₀ fp) kb σ H s/\eU X.prog X.w X.stack H s E e s')
theorem Hn{X:Cx}{E:XK}{scope:Scope}{C:Addr}{N':List Str}{s₀:Shared}{H₀:Hp}{fp:List Addr}:Passes (eU X.prog X.w) (fZ X E scope C N' s₀ H₀ fp) E :=
 fun kb σ H s _ _ I cx=>⟨kb,σ,H,s,I.iH,cx⟩
theorem yG{h h' base:Heap}{C:Addr}(sb:Heap.SameBut C h h'):∀{l:List Env},h.FunFrames base l->(∀b∈frs l,b≠C)->h'.FunFrames base l
 | [],_,_=>trivial
 | env::r,⟨hk,⟨L,o,hf,hn,ho,hd⟩,hr⟩,hs=>by
  have e:frs (env::r)=L::frs r:=by unfold frs;rw[List.filterMap_cons,hf]
  rw[e]at hs;exact⟨hk,⟨L,o,hf,hn,by rw[sb.2 L (hs L (by simp))];exact ho,hd⟩,yG sb hr fun b hb=>hs b (by simp[hb])⟩
section
variable {M:Model}{A:Around}{env:Env}{outer:List Env}{L e:Addr}{B:Heap}{cls a0 fl:Value}{od:Option Addr}{s:Shared}{Q:Unit->Shared->Prop}{XE:Value->Shared->Prop}{l:List Env}
theorem EA{fo:Option Addr}(st:B.StaysIn s.heap)(fu:s.heap.FunFrames B l)(tr:s.heap.TracedAtW B e cls a0 fl)(dc:vd s.heap e od)
  (k:∀h' XC,B.StaysIn h'->h'.FunFrames B l->h'.TracedAtW B e cls a0 XC->(∀b o,s.heap.get? b=some o->(∀vs,o.data≠.fields vs)->h'.get? b=some o)->vd h' e od->Q () {s with heap:=h'}):wpAny M A (setFlight (.ref e) fo) Q XE s:=by
 obtain⟨oe,vs,T,oT,ts,he,hc,hd,h1,nT,Te,hT,dT,h3⟩:=tr;obtain⟨oe',he',hod⟩:=dc;cases he.symm.trans he';have sz:3<ts.size:=(Array.getElem?_eq_some_iff.mp h3).1;have oth:∀b,b≠T->(s.heap.update T (Obj.mapFields (·.setIfInBounds 3 (fo.elim Value.none fun f=>rawInt f)))).get? b=s.heap.get? b:=fun b n=>Heap.get?_update_other _ _ n.symm;unfold setFlight;refine c8 (wpAny_field he hd h1 ?_);rw[if_pos (by simp)]
 refine wpAny_setField hT dT sz (k _ (fo.elim Value.none fun f=>rawInt f) (fun b o hb=>(oth b fun z=>by
  rw[z,nT]at hb
  cases hb).trans (st b o hb)) (fu.of_keeps fun b o hb n=>⟨o,(oth b (jS hT dT hb n)).trans hb,rfl⟩) ?_ (fun b o hb n=>(oth b (jS hT dT hb n)).trans hb) ⟨oe,(oth e Te.symm).trans he,hod⟩)
 exact⟨oe,vs,T,_,_,(oth e Te.symm).trans he,hc,hd,h1,nT,Te,Heap.get?_update_self _ hT (Obj.isFreed_of_fields (Obj.data_mapFields dT _)),Obj.data_mapFields dT _,by simp[sz]⟩
theorem wI(fr:A.frames=some (env::outer))(hf:env.frame=some L)(st:B.StaysIn s.heap)(ne:B.get? e=none)(fu:s.heap.FunFrames B (env::outer))(tr:s.heap.TracedAtW B e cls a0 fl)(dc:vd s.heap e od)
  (k:∀h',B.FlyingW outer e cls a0 h'->s.heap.UpToSlots h'->vd h' e od->Q () {s with heap:=h'}):wpAny M A (leaving env (.ref e)) Q XE s:=by
 unfold leaving;obtain⟨oe,vs,T,oT,ts,he,⟨hc,h0⟩,hd,h1,nT,Te,hT,dT,h3⟩:=tr;obtain⟨oe',he',hod⟩:=dc;cases he.symm.trans he';subst hc;subst hod;refine c8 ?_;unfold noteFrame;simp only[hf];refine c8 (wpAny_field he hd h1 ?_);rw[if_pos (by simp)];refine c8 (wpAny_field hT dT h3 ?_);by_cases c:(fl==rawInt L)=true
 ·rw[if_pos c];refine db ?_;exact nW st fu ⟨oe,vs,T,oT,ts,he,⟨rfl,h0⟩,hd,h1,nT,Te,hT,dT,h3⟩ ⟨oe,he,rfl⟩ fun h2 a b c d JI=>k h2 ⟨a,ne,b.2.2,c⟩ (fun b o hb n=>⟨o.slots,d b o hb n⟩) JI
 ·rw[if_neg c];refine c8 (wpAny_setField hT dT (Array.getElem?_eq_some_iff.mp h3).1 ?_);have oth:∀b,b≠T->(s.heap.update T (Obj.mapFields (·.setIfInBounds 3 Value.none))).get? b=s.heap.get? b:=fun b n=>Heap.get?_update_other _ _ n.symm
  refine wC fr (fu.of_keeps fun b o hb n=>⟨o,(oth b (jS hT dT hb n)).trans hb,rfl⟩) hf ((oth e Te.symm).trans he) (fun b o hb=>(oth b fun z=>by
   rw[z,nT]at hb
   cases hb).trans (st b o hb)) ne hd (Array.getElem?_eq_some_iff.mp h1).1 h0 fun h' q q2=>?_
  exact nW (s:={s with heap:=h'}) q.1 q.2.1 q.2.2.1 q2 fun h2 a b c d JI=>k h2 ⟨a,ne,b.2.2,c⟩ (Heap.UpToSlots.trans (fun b o hb n=>q.2.2.2 b o ((oth b (jS hT dT hb n)).trans hb) n) fun b o hb n=>⟨o.slots,d b o hb n⟩) JI
variable {X:Cx}{E:XK}{scope:Scope}{N':List Str}{fr:List (Option Nat)}{kb:List (Addr×Obj)}{σ:St}{H3:Hp}{s3:Shared}{fp:List Addr}
theorem BV{L D:Addr}(hex:X.ex=[])(hst:X.stack=X.env::X.outer)(hL:X.env.frame=some L)(hsub:∀b o,X.s₀.heap.get? b=some o->b∉frs X.outer->b∉frs X.stack)
  (Sr:∀e s',wpAny (model X.prog X.w) X.A (leaving X.env e) (fun _ s''=>eU X.prog X.w X.outer X.H₀ X.s₀ E e s'') (fun e' s''=>eU X.prog X.w X.outer X.H₀ X.s₀ E e' s'') s'->X.xe e s')
  (I3:Inv X kb σ H3 s3) (f3:∀b∈fp,kl X kb H3 b) {use:Option (Value->Sem Unit)} {QQ:Value->Shared->Prop} {e:Value} {s':Shared}
  (J:∃(uJ:List (Addr×Obj)) (σ':St) (H:Hp) (s:Shared),Inv (cV X scope s3.heap.objs.size N' s3 H3 fp) uJ σ' H s/\eU X.prog X.w X.stack H s E e s'):
  notedBy (model X.prog X.w) X.A (compEnvC scope (nI scope X.env) s3.heap.objs.size X.env) (fun x s''=>compPost (model X.prog X.w) X.A X.xe use QQ (.ref D) s3.heap.objs.size (.error x) s'') e s':=by
 obtain⟨uJ,σ',Hc,sc,Ic,cx⟩:=J;obtain⟨ea,cls,a0,od,H',B,rfl,fly,dc,hB,hH,os,bare,un,hok,hE⟩:=cx;obtain⟨T,be,bT,JN⟩:=vb fly;have apart:∀{b o},B.get? b=some o->b∉frs X.stack->b∉frs X.stack++ [ea,T]:=fun {b o} hb nf hx=>by
  rcases List.mem_append.mp hx with h | h
  ·exact nf h
  ·rcases(show b=ea\/b=T by simpa using h)with rfl | rfl
   ·rw[be]at hb;cases hb
   ·rw[bT]at hb;cases hb
 generalize hC:s3.heap.objs.size=C at*;obtain⟨mC,M7,_⟩:=Ic.loc;have M7:sc.heap.Ns C mC:=M7;obtain⟨oC,ZX,ZY,gC,dC,Z0,fC⟩:=id M7;have hcf:Hc C=none:=Ic.free;have M8:C∉frs X.stack:=fun hb=>by obtain⟨_,o,ho,_⟩:=I3.stack.mem hb;exact absurd (fm ho) (by rw[hC];exact Nat.lt_irrefl _)
 have CA:C∉frs X.stack++ [ea,T]:=by obtain⟨o',h⟩:=hB C oC gC M8;exact apart h M8
 have XD:s'.heap.get? C=some oC:=un.keep C oC gC hcf M8 (by simp);have HC:H' C=none:=un.free C oC gC hcf (by simp);have fr':∀b∈frs X.stack,H' b=none:=fun b hb=>by obtain⟨_,o,ho,_⟩:=Ic.stack.mem hb;exact un.free b o ho (Ic.kh b hb) (by simp)
 have kH:∀{b o},H' b=some o->b∉frs X.stack++ [ea,T]:=fun {b o} hb=>by obtain⟨o',h1⟩:=hH b o hb;exact apart h1 fun z=>by rw[fr' b z]at hb;cases hb
 have Ho:=JN;rw[hst]at Ho;show wpAny _ _ (noteFrame (.ref ea) X.env) _ _ _;refine JJ (B:=less s'.heap (frs (X.env::X.outer)++ [ea,T])) (env:=X.env) (outer:=X.outer) (by rw[I3.ok.frames,hst]) hL Ho dc fun h4 BW Z1 Z2=>?_;rw[<-hst]at BW;have g4:h4.get? C=some oC:=BW.1 C oC (by rw[dH CA];exact XD);show ∃m,h4.Ns C m/\∀h',Heap.SameBut C h4 h'->∀cenv:Env,cenv.locals=C->wpAny _ _ (PySem.passOn "comprehension.variables-let-go" (.ref ea) cenv:Sem Value) (fun _ _=>False) X.xe {s' with heap:=h'};refine⟨mC,⟨oC,ZX,ZY,g4,dC,Z0,fC⟩,fun h' sb cenv hcl=>?_⟩;obtain⟨JA,ne4,Z3,oe,vs,T',oT,ts,he,hcls,hd,h1,XF,Te,hT',dT,h3'⟩:=BW;have hbT:∀{b o},b∉frs X.stack++ [ea,T]->s'.heap.get? b=some o->b≠T':=fun {b o} hb hg z=>by rw[z]at hb hg;rw[dH hb,hg]at XF;cases XF
 have Z4:C≠T':=hbT CA XD;have Ce:C≠ea:=fun z=>CA (by rw[z];simp);have he':h'.get? ea=some oe:=by rw[sb.2 ea Ce.symm];exact he
 have Z5:(less h' (frs X.stack++ [ea,T',C])).StaysIn h':=j2;have Z6:h'.FunFrames (less h' (frs X.stack++ [ea,T',C])) X.stack:=jz (yG sb Z3 (fun b hb z=>M8 (z▸hb))) (fun b hb=>List.mem_append_left _ hb);have Z7:h'.TracedAtW (less h' (frs X.stack++ [ea,T',C])) ea cls a0 (rawInt L):=⟨oe,vs,T',oT,ts,he',hcls,hd,h1,iJ (by simp),Te,by rw[sb.2 T' Z4.symm];exact hT',dT,h3'⟩;have Z8:vd h' ea od:=by obtain⟨o,e1,e2⟩:=Z2;exact⟨o,by rw[sb.2 ea Ce.symm];exact e1,e2⟩
 unfold PySem.passOn;refine c8 (wpAny_field he' hd h1 ?_);rw[if_neg (by simp)];refine c8 (EA (s:={s' with heap:=h'}) (fo:=cenv.frame) Z5 Z6 Z7 Z8 fun h6 XC Z9 fu6 tr6 kp6 dc6=>?_);refine wpAny_throw (Sr _ _ ?_);have Ss:∀l,l=X.stack->h6.FunFrames (less h' (frs X.stack++ [ea,T',C])) l:=by intro l hl;subst hl;exact fu6
 refine wI (s:={s' with heap:=h6}) (env:=X.env) (outer:=X.outer) (by rw[I3.ok.frames,hst]) hL Z9 (iJ (by simp)) (Ss _ hst.symm) tr6 dc6 fun h9 M9 up9 Sv=>?_;have ri:∀{b u},b∉frs X.stack++ [ea,T]->b≠C->s'.heap.get? b=some u->h'.get? b=some u/\(less h' (frs X.stack++ [ea,T',C])).get? b=some u/\h9.get? b=some u:=fun {b u} hb hbC hu=>by
  have e4:h4.get? b=some u:=JA b u (by rw[hst]at hb;rw[hst,dH hb];exact hu);have e5:h'.get? b=some u:=by rw[sb.2 b hbC];exact e4
  have e6:(less h' (frs X.stack++ [ea,T',C])).get? b=some u:=by
   rw[dH fun hx=>?_]
   ·exact e5
   ·rcases List.mem_append.mp hx with h | h
    ·exact hb (List.mem_append_left _ h)
    ·rcases(show b=ea\/b=T'\/b=C by simpa using h)with z | z | z
     ·exact hb (by rw[z];simp)
     ·exact hbT hb hu z
     ·exact hbC z
  exact⟨e5,e6,M9.1 b u e6⟩
 have BX:∀b∈frs X.stack,∀o,s'.heap.get? b=some o->∃sl,h9.get? b=some {o with slots:=sl}:=fun b hb o ho=>by
  obtain⟨_,o2,e2,nf⟩:=fly.2.2.1.mem hb;rw[ho]at e2;cases e2;obtain⟨XG,e1⟩:=Z1 b o ho nf;have e5:h'.get? b=some {o with slots:=XG}:=by rw[sb.2 b (fun z=>M8 (z▸hb))];exact e1
  have e6:h6.get? b=some {o with slots:=XG}:=kp6 b _ e5 nf;obtain⟨sl2,e7⟩:=up9 b _ e6 nf;exact⟨sl2,e7⟩
 have U:Un (frs X.stack) fp H3 H' s3.heap s'.heap:=Un.trans (show Un (frs X.stack) fp H3 Hc s3.heap sc.heap from Ic.base) (un.mono (fun b h=>h) (fun b h=>absurd h (by simp)));have Sw:∀{b o},s3.heap.get? b=some o->b∉fp->b∉frs X.stack->b∉frs X.stack++ [ea,T]/\b≠C:=fun {b o} hb nx nf=>by obtain⟨o1,e1⟩:=(show Un (frs X.stack) fp H3 Hc s3.heap sc.heap from Ic.base).there b o hb nx;obtain⟨o2,e2⟩:=hB b o1 e1 nf;exact⟨apart e2 nf,fun z=>absurd (fm hb) (by rw[z,hC];exact Nat.lt_irrefl _)⟩
 have Un9:Un (frs X.stack) fp H3 H' s3.heap h9:=by
  refine⟨fun b o e n nf nx=>?_,fun b o e n hb nx=>?_,U.free,fun b o e nx=>?_,U.tups,U.iZ,U.jJ⟩
  ·obtain⟨a1,a2⟩:=Sw e nx nf;exact(ri a1 a2 (U.keep b o e n nf nx)).2.2
  ·obtain⟨sl,e1⟩:=U.slot b o e n hb nx;obtain⟨sl',e2⟩:=BX b hb _ e1;exact⟨sl',e2⟩
  ·obtain⟨o',e1⟩:=U.there b o e nx;by_cases hb:b∈frs X.stack
   ·obtain⟨sl',e2⟩:=BX b hb _ e1;exact⟨_,e2⟩
   ·obtain⟨a1,a2⟩:=Sw e nx hb;exact⟨o',(ri a1 a2 e1).2.2⟩
 have nC:∀{b o},H' b=some o->b≠C:=fun {b o} hb z=>by rw[z,HC]at hb;cases hb
 have Nc:i7 X.prog X.w H' h9:=fun a o e=>(hok a o e).stay (fun b u hc q=>by
  rcases hc with rfl | hc
  ·exact(ri (kH e) (nC e) q).2.2
  ·exact(ri (kH hc) (nC hc) q).2.2) (fun _ q=>q) fun _ _ q=>q
 have I9:=I3.call' (s':={s' with heap:=h9}) (ch:=fp) (os.trans Ic.os) Un9 Nc bare (fun b hb=>⟨(f3 b hb).2.2.2.1,(f3 b hb).2.1,(f3 b hb).2.2.2.2.1,(f3 b hb).2.2.2.2.2⟩);have Hq:=I9.base;rw[hex]at Hq;refine⟨ea,cls,a0,od,H',_,rfl,M9,Sv,fun b o hb nf=>?_,fun b o hb=>?_,I9.os,I9.bare,Hq,Nc,hE⟩
 ·have ns:=hsub b o hb nf;obtain⟨o1,e1⟩:=I3.base.there b o hb (by rw[hex];simp);have nx:b∉fp:=fun hx=>by
   rcases(f3 b hx).2.2.2.1 with z | z
   ·rw[hex]at z;simp at z
   ·exact absurd (fm hb) (Nat.not_lt.mpr z)
  obtain⟨a1,a2⟩:=Sw e1 nx ns;obtain⟨o3,e3⟩:=U.there b o1 e1 nx;exact⟨o3,(ri a1 a2 e3).2.1⟩
 ·obtain⟨u,hu⟩:=(hok b o hb).some_;exact⟨u,(ri (kH hb) (nC hb) hu).2.1⟩
end
theorem qw{prog:Program}{w:World}{A:Around}{R:Result->Shared->Prop}{s:Shared}{elt target iter:Expr}{ifs:List Expr}{scope:Scope}{pos:Pos}{it acc:Value}{env:Env}(I:Nat->Shared->Prop)(LI:Value->Shared->Prop)(hE:∀x s',LI x s'->notedBy (model prog w) A env (fun x s''=>R (.error x) s'') x s')
  (turn:∀n s,I n s->wpAny (model prog w) A (pyNext it) (fun r s₁=>match r with
   | none=>R (.ok .next) s₁
   | some v=>wpAny (model prog w) A (letOwnedTupleGo target it v) (fun _ s₀=>wpAny (model prog w) A (assign target env v) (fun _ s₂=>
     wpAny (model prog w) A (forIn ifs true fun c r=>if r=true then do let ok <-isTrue c env (eval c env);pure (ForInStep.yield ok)else pure (ForInStep.yield r)) (fun ok s₃=>
      if ok=true then wpAny (model prog w) A (eval elt env) (fun x s₄=>
       wpAny (model prog w) A (call (.builtin "list.append") [acc,x]) (fun _ s₅=>∃m,m<n/\I m s₅) LI s₄) LI s₃
      else ∃m,m<n/\I m s₃) LI s₂) LI s₀) (fun _ _=>False) s₁) (fun _ _=>False) s)
  (n:Nat) (h:I n s):
  codeAny (model prog w) A (.compLoop (.ListComp elt [⟨target,iter,ifs,0⟩] scope pos) 0 it acc env) R s:=by
 refine codeAny_loop rfl I (fun n s hI=>?_) n h;show wpAny _ A ((compTurn (.ListComp elt [⟨target,iter,ifs,0⟩] scope pos) 0 it acc env).onRaise (fun x=>do noteFrame x env;theTreesLotGoes x)) _ _ s;refine wpAny_noted ?_;rw[compTurn_list];refine c8 (wpAny_standAt (c8 (eg (turn n s hI) (fun r s₁ h₁=>?_) fun _ _ h'=>h'.elim)));cases r with
 | none=>exact db h₁
 | some v=>
  refine c8 (eg h₁ (fun _ s₀ h₀=>?_) fun _ _ h'=>h'.elim);refine c8 (eg h₀ (fun _ s₂ h₂=>c8 (eg h₂ (fun ok s₃ h₃=>?_) hE)) hE);cases ok with
  | false=>exact db ⟨rfl,h₃⟩
  | true=>
   exact c8 (c8 (eg h₃ (fun x s₄ h₄=>c8 (eg h₄ (fun _ s₅ h₅=>db (db ⟨rfl,h₅⟩)) hE)) hE))
theorem Ax{X:Cx}{E:XK}{L:Addr}{elt tg iter:Expr}{ifs:List Expr}{scope:Scope}{pos cpos:Pos}{wi:TI}{g:TG}{tt:TT}{te:TE}{N':List Str}{fr:List (Option Nat)}(hex:X.ex=[])(hst:X.stack=X.env::X.outer)(hL:X.env.frame=some L)
  (Sr:∀e s',wpAny (model X.prog X.w) X.A (leaving X.env e) (fun _ s''=>eU X.prog X.w X.outer X.H₀ X.s₀ E e s'') (fun e' s''=>eU X.prog X.w X.outer X.H₀ X.s₀ E e' s'') s'->X.xe e s') (S:cS X.env.scope scope X.N N' fr) (hc:X.calm=true) (hi:PI X tg iter wi)
  (hg:∀C s0 H0 fp,PG (fZ X E scope C N' s0 H0 fp) tg g) (ht:∀C s0 H0 fp,El (fZ X E scope C N' s0 H0 fp) ifs tt) (he:∀C s0 H0 fp,PE (fZ X E scope C N' s0 H0 fp) elt te)
  (hs:∀x,foldedSetIterable iter X.env x=pure x) {kb:List (Addr×Obj)} {s:Shared} {σ:St} {H:Hp} {Q:VK} (I:Inv X kb σ H s) (h:u7 fr wi g tt te σ H Q) (use:Option (Value->Sem Unit)) (QQ:Value->Shared->Prop)
  (fin:∀(D C:Addr) (H5:Hp) (s6:Shared),Inv X kb σ H5 s6->Q (.ref D) H5->H5 C=none->C≠X.env.locals->X.s₀.heap.objs.size<=C->(∀x c,X.env.cells.lookup x=some c->c≠C)->(∀p∈X.pn++kb,p.1≠C)->(∃m,s6.heap.Ns C m)->
   compPost (model X.prog X.w) X.A X.xe use QQ (.ref D) C (.ok .next) s6):
  wpAny (model X.prog X.w) X.A (comprehension (.ListComp elt [⟨tg,iter,ifs,0⟩] scope pos) scope X.env cpos (newList []) false (eval iter X.env) use) QQ X.xe s:=by
 have hfree:∀y∈scope.names,y.2=.free->∃c,X.env.cells.lookup y.1=some c:=fun y hy e=>I.ok.has y.1 (.inl (S.free y hy e));refine wpAny_comprehension_free (use:=use) rfl hs (yx hfree) S.kind S.names (cJ (hi kb s σ H _ I h) fun v s1 h1=>cJ h1 fun itv s2 h2=>?_);obtain⟨it,fp,tn,J,H2,e,I2,T,st2,f2,hD⟩:=h2;subst e;obtain⟨W,⟨m0,w0⟩,turn⟩:=hD s2.heap.objs.size I2.fresh;refine wpAny_newObj_type ?_;have I3:Inv X kb σ (upd H2 s2.heap.objs.size (.lst [])) {s2 with heap:=s2.heap.push {cls:=.type "list",data:=.seq ([]:List Value).toArray},toks:=s2.toks}:=I2.Af (ys:=[]) .nil (Nat.zero_le _)
 revert I3
 generalize eD:s2.heap.objs.size=D at*;generalize e3:({s2 with heap:=s2.heap.push {cls:=.type "list",data:=.seq ([]:List Value).toArray},toks:=s2.toks}:Shared)=s3;intro I3;have k3:∀b o,s2.heap.get? b=some o->s3.heap.get? b=some o:=fun b o e=>by rw[<-e3];exact fg _ e
 refine wpAny_newFunctionEnv S.wu (by intro y hy;simp at hy) (fun h4 hns hsb=>?_) S.kind;have old:∀b o,s3.heap.get? b=some o->h4.get? b=some o:=fun b o e=>hsb.extBut b o (js (fm e)) (fg _ e);have fD:∀b∈fp,b≠D:=fun b hb z=>by obtain⟨o,ho,_⟩:=T.obj _ _ st2 b hb;exact absurd (fm ho) (by rw[z,eD];exact Nat.lt_irrefl _)
 have f3:∀b∈fp,kl X kb (upd H2 D (.lst [])) b:=fun b hb=>⟨by rw[aG (fD b hb)];exact(f2 b hb).1,(f2 b hb).2⟩;have l3:∀b∈fp,b<s3.heap.objs.size:=fun b hb=>by obtain⟨o,ho,_⟩:=T.obj _ _ st2 b hb;exact fm (k3 b o ho)
 have I4:=(Inv.block (t1:=s3.toks+([]:List (Str×Value)).length) (scope:=scope) S hc I3 f3 l3 hns old).wish (fun e s'=>∃(kb:List (Addr×Obj)) (σ:St) (H:Hp) (s:Shared),Inv (cV X scope s3.heap.objs.size N' s3 (upd H2 D (.lst [])) fp) kb σ H s/\eU X.prog X.w X.stack H s E e s');have hsub:∀b o,X.s₀.heap.get? b=some o->b∉frs X.outer->b∉frs X.stack:=fun b o hb nf hx=>by
  rcases List.mem_cons.mp (I.lM b hx)with e | e
  ·have h1:=fm hb;have h2:=I.ok.above;rw[e]at h1;exact absurd h1 (Nat.not_lt.mpr h2)
  ·exact nf e
 have Sx:=fun(x:Value) (s':Shared) (Jx:∃(kb:List (Addr×Obj)) (σ:St) (H:Hp) (s:Shared),Inv (cV X scope s3.heap.objs.size N' s3 (upd H2 D (.lst [])) fp) kb σ H s/\eU X.prog X.w X.stack H s E x s')=>BV (D:=D) (use:=use) (QQ:=QQ) hex hst hL hsub Sr I3 f3 Jx;generalize eX:fZ X E scope s3.heap.objs.size N' s3 (upd H2 D (.lst [])) fp=X'
 replace I4:Inv X' [] (wx fr σ) (upd H2 D (.lst [])) {s3 with heap:=h4,toks:=s3.toks+([]:List (Str×Value)).length}:=by rw[<-eX];exact I4
 have JA:tn 0 h4:=T.keep _ _ _ st2 fun b hb o e=>old b o (k3 b o e);have stat:∀{H':Hp},(∀b∈fp,H' b=none)->∀b∈fp,kl X' [] H' b:=fun {H'} hn b hb=>by
  subst eX;refine⟨hn b hb,js (l3 b hb),?_,.inl hb,?_,fun p hp=>absurd hp (by simp[fZ,cV,Cx.wish])⟩
  ·exact I4.ok.zW b hb
  ·exact(I4.ok.QK b hb).2
 show codeAny _ _ (.compStart _ 0 (.ref it) (.ref D) (compEnvC scope (nI scope X.env) s3.heap.objs.size X.env)) (compPost _ _ _ use _ (.ref D) s3.heap.objs.size) _;have hX:X'.prog=X.prog/\X'.w=X.w/\X'.K=X.K/\X'.A=X.A/\X'.calm=true/\X'.env=compEnvC scope (nI scope X.env) s3.heap.objs.size X.env/\X'.xe=(fun e s'=>∃(kb:List (Addr×Obj)) (σ:St) (H:Hp) (s:Shared),Inv (cV X scope s3.heap.objs.size N' s3 (upd H2 D (.lst [])) fp) kb σ H s/\eU X.prog X.w X.stack H s E e s')/\X'.s₀=s3/\X'.H₀=upd H2 D (.lst [])/\X'.fs=frs X.stack/\X'.ex=fp:=by subst eX;exact⟨rfl,rfl,rfl,rfl,rfl,rfl,rfl,rfl,rfl,rfl,rfl⟩
 have hg':PG X' tg g:=by subst eX;exact hg _ _ _ _
 have ht':El X' ifs tt:=by subst eX;exact ht _ _ _ _
 have he':PE X' elt te:=by subst eX;exact he _ _ _ _
 clear eX;obtain⟨x1,x2,x3,x4,x5,x6,x7,x8,x9,x10,x11⟩:=hX;have loop:codeAny (model X.prog X.w) X.A (.compLoop (.ListComp elt [⟨tg,iter,ifs,0⟩] scope pos) 0 (.ref it) (.ref D) (compEnvC scope (nI scope X.env) s3.heap.objs.size X.env))
   (compPost (model X.prog X.w) X.A X.xe use QQ (.ref D) s3.heap.objs.size) {s3 with heap:=h4,toks:=s3.toks+([]:List (Str×Value)).length}:=by
  refine qw (LI:=fun e s'=>∃(kb:List (Addr×Obj)) (σ:St) (H:Hp) (s:Shared),Inv (cV X scope s3.heap.objs.size N' s3 (upd H2 D (.lst [])) fp) kb σ H s/\eU X.prog X.w X.stack H s E e s') (hE:=Sx) (I:=fun n s'=>∃i σ' ys H',Inv X' [] σ' H' s'/\tn i s'.heap/\(∀b∈fp,H' b=none)/\W i n σ' ys H') ?_ m0 ⟨0,_,[],_,I4,JA,fun b hb=>(f3 b hb).1,w0⟩;rintro n s5 ⟨i,σ5,ys,H5,I5,Ea,Je,w5⟩;rcases turn i n σ5 ys H5 w5 with ⟨stop,qn⟩ | ⟨go,N,hN,step⟩
  ·have z:=T.done X' x1 x2 x3 x5 i [] s5 σ5 H5 (fun _ _=>False) I5 (stat Je) Ea stop;rw[x4]at z;refine cJ z fun r s6 ⟨hr,I6⟩=>?_;subst hr;obtain⟨mm,MO,_⟩:=I6.loc;have hL:X'.env.locals=s3.heap.objs.size:=by rw[x6];rfl
   rw[hL]at MO;have nC:H5 s3.heap.objs.size=none:=by have:=I6.free;rw[hL]at this;exact this
   have base:=I6.base;rw[x8,x9,x10,x11]at base;have hok:i7 X.prog X.w H5 s6.heap:=by have q:=I6.hok;rw[x1,x2]at q;exact q
   have os:s6.os=s3.os:=by have:=I6.os;rw[x8]at this;exact this
   have IX:Inv X kb σ H5 s6:=I3.call' os base hok I6.bare fun b hb=>⟨(f3 b hb).2.2.2.1,(f3 b hb).2.1,(f3 b hb).2.2.2.2.1,(f3 b hb).2.2.2.2.2⟩;refine fin D s3.heap.objs.size H5 s6 IX qn nC (Nat.ne_of_gt I3.lt) I3.sz (fun x c e=>?_) (fun p hp=>?_) ⟨mm,MO⟩
   ·obtain⟨v,q⟩:=I3.cell x c e;exact js q.lt
   ·exact js (fm (I3.pin p hp).1)
  ·have z:=T.item X' x1 x2 x3 x5 i [] s5 σ5 H5 (fun _ _=>False) I5 (stat Je) Ea go;rw[x4]at z;refine cJ z fun r s6 ⟨u,hr,h6⟩=>?_;subst hr;refine cJ h6 fun _ s7 ⟨x,H7,I7,r7,y7,JB,R5⟩=>?_;have R6:=I7.pinned (stat R5) (T.obj _ _ JB);have again:∀{σ':St} {H':Hp} {s':Shared},Inv X' ([]++lO fp s7.heap) σ' H' s'->Inv X' [] σ' H' s'/\tn (i+1) s'.heap/\∀b∈fp,H' b=none:=fun {σ' H' s'} J=>by refine⟨J.i9,T.keep _ _ _ JB fun b hb o e=>(J.pin (b,o) (List.mem_append_right _ (List.mem_append_right _ (eC hb e)))).1,fun b hb=>?_⟩;obtain⟨o,e,d⟩:=T.obj _ _ JB b hb;exact(J.pin (b,o) (List.mem_append_right _ (List.mem_append_right _ (eC hb e)))).2.1
   have z:=hg' _ s7 σ5 H7 x u _ R6 r7 (step x H7 y7);rw[x1,x2,x4,x6,x7]at z;refine cJ z fun _ s8 ⟨σ8,H8,I8,q8⟩=>?_;have z:=ht' _ s8 σ8 H8 _ I8 q8;rw[x1,x2,x4,x6,x7]at z;refine cJ z fun b s9 ⟨H9,I9,q9⟩=>?_;cases b with
   | false=>
    rw[if_neg kt]at q9 ⊢;obtain⟨m',hm,w9⟩:=hN _ _ _ q9;obtain⟨a1,a2,a3⟩:=again I9;exact⟨m',hm,i+1,σ8,ys,H9,a1,a2,a3,w9⟩
   | true=>
    rw[if_pos rfl]at q9 ⊢;have z:=he' _ s9 σ8 H9 _ I9 q9;rw[x1,x2,x4,x6,x7]at z;refine cJ z fun v' JC ⟨y,R7,R8,r10,JD,hz,w10⟩=>?_;have z:=bV (X:=X') _ JC σ8 R7 (.ref D) [y] (.ref D) [v'] (fun _ H'=>N σ8 (ys++ [y]) H') R8 rfl (.cons r10 .nil) ⟨D,ys,y,rfl,rfl,JD,hz,w10⟩;rw[x1,x2,x4,x7]at z;refine cJ z fun _ Bf ⟨_,QT,R9,_,w11⟩=>?_;obtain⟨m',hm,w11⟩:=hN _ _ _ w11;obtain⟨a1,a2,a3⟩:=again R9;exact⟨m',hm,i+1,σ8,_,QT,a1,a2,a3,w11⟩
 exact codeAny_compStart_list loop (T.self _ 0 _ _ _ JA loop)
theorem vj{P:Program}{w:World}{K:gv}{mg:Str->Option Value}{base:Heap}{N:List Str}{qual:Str}{sc:Scope}{f:Addr}{cd:Value}{A:Around}{outer:List Env}{s₀:Shared}{H₀:Hp}{E:XK}
  {elt tg iter:Expr} {ifs:List Expr} {scope:Scope} {pos:Pos} {wi:TI} {g:TG} {tt:TT} {te:TE} {N':List Str} {fr:List (Option Nat)} (S:cS sc scope N N' fr) (hi:PI (gN (eU P w) P w K mg base N qual sc f cd A outer s₀ H₀ E) tg iter wi)
  (hg:∀C s0 H0 fp,PG (fZ (gN (eU P w) P w K mg base N qual sc f cd A outer s₀ H₀ E) E scope C N' s0 H0 fp) tg g) (ht:∀C s0 H0 fp,El (fZ (gN (eU P w) P w K mg base N qual sc f cd A outer s₀ H₀ E) E scope C N' s0 H0 fp) ifs tt) (he:∀C s0 H0 fp,PE (fZ (gN (eU P w) P w K mg base N qual sc f cd A outer s₀ H₀ E) E scope C N' s0 H0 fp) elt te)
  (hs:∀x,foldedSetIterable iter (gN (eU P w) P w K mg base N qual sc f cd A outer s₀ H₀ E).env x=pure x:=by intro _;rfl):PE (gN (eU P w) P w K mg base N qual sc f cd A outer s₀ H₀ E) (.ListComp elt [⟨tg,iter,ifs,0⟩] scope pos) (u7 fr wi g tt te):=by
 intro kb s σ H Q I h;rw[eval_ListComp];refine Ax (L:=(envOfC qual sc s₀.heap.objs.size f cd).locals) rfl rfl rfl (fun _ _ h=>h) S rfl hi hg ht he hs I h none _ fun D C H5 s6 IX q nC c1 c2 c3 c4 hm=>?_;obtain⟨m,hm⟩:=hm;refine⟨m,hm,fun h' hs'=>⟨.ref D,H5,IX.turned (t':=s6.toks) (it:=C) (fun b o hb e=>hs'.extBut b o hb e) nC c1 (.inr c2) c3 c4,rfl,q⟩⟩
open PySem PySem.Spec PyProof.Rows
section
variable {X:Cx}
inductive EB(K:gv)(x:V)(vs:List V)(H:Hp)(Q:VK):Prop
 | mk (p:Addr) (ns:List Str) (k:Str) (_:x=.ref p) (_:vs=[.str k]) (_:bz K H p (ns.map V.str)) (_:Q (.int (ns.count k:Nat)) H)
theorem rj{k:Str}:∀{ns:List Str} {its:List Value},Vals (ns.map V.str) its->its.countP (uF (.str k))=ns.count k
 | [],[],_=>rfl
 | n::ns,u::its,.cons h r=>by
  have e:uF (.str k) u=(n==k):=by rw[wq (y:=.str n) h rfl];rfl
  rw[List.countP_cons,List.count_cons,rj r,e]
theorem Ay:Hj X "tuple.count" (EB X.K):=by
 intro kb s σ H x vs v us Q I rx rv h;obtain⟨p,ns,k,rfl,rfl,hp,q⟩:=h;cases rx;obtain⟨u,rfl,ru⟩:=rv.one;obtain⟨t,rfl⟩:=ru;obtain⟨its,r,pl,hz⟩:=I.tuple hp;obtain⟨o,ho,hc,m,hdat⟩:=pl;obtain⟨oc,od,odt,osl⟩:=o;have hc:oc=_:=hc;have hdat:odt=_:=hdat;subst hc hdat;have fl:(ns.map V.str).all jR=true:=by rw[List.all_eq_true];intro y hy;obtain⟨i,_,rfl⟩:=List.mem_map.mp hy;rfl
 refine call_meets F.slot_tuple_count ⟨_,ho,rfl⟩ F.entry_tuple_count (F.args_tuple_count_2 _ _)
  (SeqAt.tuple_countAt p its.toArray m od osl (.str k t) (uF (.str k))) ⟨ho,fun y hy=>iu (x:=.str k) ⟨t,rfl⟩ rfl r fl y (by simpa using hy),⟨.int (ns.count k:Nat),H,I.tok _,⟨s.toks,by rw[List.toList_toArray,rj r]⟩,q⟩⟩
end
end L2
namespace PySem.SeqAt
open AutoSeq1 (wpAny_loadPart')
open MeetsSeq MeetsSeq2 MeetsSeq3 SeqRoads2
theorem nK{M:Model}{A:Around}{E:Value->Shared->Prop}{s:Shared}{β:Type}(f:Nat->β->Sem (ForInStep β))(I:List Nat->β->Shared->Prop)(Q:β->Shared->Prop)
  (turn:∀x rest b s,I (x::rest) b s->wpAny M A (f x b) (fun r s'=>match r with | .yield b'=>I rest b' s' | .done b'=>Q b' s') E s)
  (fin:∀b s,I [] b s->Q b s) (k:Nat) (b:β) (h:I (List.range' 0 k) b s):wpAny M A (forIn [:k] b f) Q E s:=by
 rw[Std.Legacy.Range.forIn_eq_forIn_range'];refine wpAny_forIn_list f I Q turn fin _ b ?_;have:([:k]:Std.Legacy.Range).size=k:=by simp[Std.Legacy.Range.size]
 rw[this];exact h
theorem qx(l:Addr)(Jz:Array Value)(n:Nat)(dd:Option Addr)(sl:Array (Option Value))(x:Value)(e:Nat->Bool)(j:Nat)(hj:j<Jz.size)(hit:e j=true)(hno:∀m,m<j->e m=false):
  Meets (Builtin.«tuple.index» ⟨[.ref l,x],[]⟩)
   (fun A R s=>s.heap.get? l=some {cls:=.type "tuple",dict:=dd,data:=.seq Jz n,slots:=sl}/\(∀i (hi:i<Jz.size),EqAt A.in1 s Jz[i] x (e i))/\R (.ok (.ret (.int j s.toks))) {s with toks:=s.toks+1}):=
 .of_wp fun prog w A R s h=>by
  obtain⟨hp,g,d,tk,os⟩:=s;obtain⟨hl,he,h⟩:=h
  wp_walk using wpAny_loadPart' hl,nK _ (fun rest b s'=>b.1=none/\s'=⟨hp,g,d,tk,os⟩/\∃i,i<=j/\rest=List.range' i (Jz.size-i)) _
  case turn=>
   rintro y rest b s' ⟨hb,rfl,i,hij,hrest⟩;have hi:Jz.size-i=(Jz.size- (i+1))+1:=by omega
   rw[hi,List.range'_succ]at hrest;obtain⟨rfl,rfl⟩:=List.cons.inj hrest;have hy:y<Jz.size:=by omega
   have hg:Jz[y]? =some Jz[y]:=by simp[hy]
   rw[hg];refine c8 (he y hy prog w _ _ ?_);by_cases z:y=j
   ·subst z;rw[hit]
    wp_walk
    exact⟨_,rfl,h⟩
   ·rw[hno y (by omega)]
    wp_walk
    exact⟨rfl,rfl,y+1,by omega,rfl⟩
  case fin=>
   rintro⟨b1,b2⟩ s' ⟨hb,rfl,i,hij,hrest⟩;have:(List.range' i (Jz.size-i)).length=0:=by rw[<-hrest];rfl
   rw[List.length_range']at this;omega
  case h=>
   exact⟨rfl,rfl,0,Nat.zero_le _,by simp⟩
end PySem.SeqAt
namespace L2
open PySem PySem.Spec PyProof.Rows
inductive Nf(K:gv)(x:V)(vs:List V)(H:Hp)(Q:VK):Prop
 | mk (p:Addr) (xs:List V) (ds:List Da) (y:V) (b:Da) (n j:Nat) (_:x=.ref p) (_:vs=[y]) (_:bz K H p xs) (_:xs.length=ds.length) (_:(∀(i:Nat) x d,xs[i]? =some x->ds[i]? =some d->fY K H x d)) (_:fY K H y b) (_:(∀d∈ds,d.Nb n)) (_:b.Nb n) (_:n<=5) (_:ds[j]? =some b) (_:(∀m,m<j->ds[m]? ≠some b)) (_:Q (.int (j:Nat)) H)
section
variable {X:Cx}
theorem EC(hu:X.A.units+8<cLine):Hj X "tuple.index" (Nf X.K):=by
 intro kb s σ H x vs v us Q I rx rv h;obtain⟨p,xs,ds,y,b,n,j,rfl,rfl,hp,hl,hd,hy,hnd,hnb,hn,hj,hno,q⟩:=h;cases rx;obtain⟨u,rfl,ru⟩:=rv.one;obtain⟨its,r,pl,hz⟩:=I.tuple hp;obtain⟨o,ho,hc,m,hdat⟩:=pl;obtain⟨oc,od,odt,osl⟩:=o;have hc:oc=_:=hc;have hdat:odt=_:=hdat;subst hc hdat;have hlen:=r.length;have hjl:=(ad.mp hj).1;have hji:j<its.toArray.size:=by simp;omega
 refine call_meets F.slot_tuple_index ⟨_,ho,rfl⟩ F.entry_tuple_index (F.args_tuple_index_2 _ _)
  (SeqAt.qx p its.toArray m od osl u (fun i=>decide (ds[i]? =some b)) j hji (decide_eq_true hj) fun k hk=>decide_eq_false (hno k hk)) ⟨ho,fun i hi=>?_,⟨.int (j:Nat),H,I.tok _,⟨_,rfl⟩,q⟩⟩
 obtain⟨x,z1,q1⟩:=wB r hi;have k1:=(ad.mp z1).1;have g1:ds[i]? =some (ds[i]'(by omega)):=aa (by omega);have e:decide (ds[i]? =some b)=decide (ds[i]'(by omega)=b):=by rw[g1];simp
 rw[e];exact va (n:=n) (by show X.A.units+1+n<cLine;omega) I (hd i x _ z1 g1) hy (hnd _ (ag g1)) hnb q1 ru
end
open PySem PySem.W PySem.Spec PySem.Calls PyProof.Rows
section
variable {X:Cx}{o i:Expr}{pos:Pos}{td ty:TE}
def ED(K:gv)(P:Params)(ty td:TE):TE:=fun σ H Q=>ty σ H fun y H1=>td σ H1 fun x H2=>∃a k r,x=.ref a/\y=.str k/\Aq K P a k r/\Q (.bl (!r.isSome)) H2
theorem Az{X:Cx}{o i:Expr}{td ty:TE}(hi:PE X i ty)(ho:PE X o td):PC X .NotIn i o (ED X.K X.w.params ty td):=by intro kb s σ H Q I h;refine cJ (hi kb s σ H _ I h) fun iv s1 ⟨y,H1,I1,ry,q1⟩=>cJ (ho kb s1 σ H1 _ I1 q1) fun u s2 ⟨x,H2,I2,rx,a,k,r,ex,ey,g,q2⟩=>?_;subst ex ey;obtain rfl:u=Value.ref a:=rx;obtain⟨t,rfl⟩:=ry;obtain⟨es,n,hl,hk,hm,q,hq,rq⟩:=g;have mo:=PySem.W.mapOf_K (prog:=X.prog) (w:=X.w) I2.lL hl hk;refine wpAny_notIn_of (strKind_is X.prog X.w k t) hm mo ?_;rw[PySem.W.find_K hl hq,<-rq.eF];exact⟨.bl (!r.isSome),H2,I2.tok _,rfl,q2⟩
end
open PySem PySem.Spec PyProof.Rows
open Builtin Builtin.Str
section
variable {X:Cx}
inductive vk(x:V)(xs:List V)(H:Hp)(Q:VK):Prop
 | mk (a b) (_:x=.str a) (_:xs=[.str b]) (_:Q (.bl (Txt.startswith a b)) H)
theorem AA:Hj X "str.startswith" vk:=by intro kb s σ H x xs v us Q I rx rv h;obtain⟨a,b,rfl,rfl,q⟩:=h;obtain⟨t,rfl⟩:=rx;obtain⟨u,rfl,ru⟩:=rv.one;obtain⟨t2,rfl⟩:=ru;exact SC.startswith ⟨.bl _,H,I,rfl,q⟩
theorem rn:∀(tk:Nat) (xs:List Str),Vals (xs.map V.str) (strsFrom tk xs)
 | _,[]=>.nil
 | tk,x::r=>.cons ⟨_,rfl⟩ (rn (tk+1) r)
inductive wJ(x:V)(xs:List V)(H:Hp)(Q:VK):Prop
 | mk (a b) (_:x=.str a) (_:xs=[.str b]) (_:(b.length==0)=false) (_:a.length<ee) (_:∀l,H l=none->Q (.ref l) (upd H l (.lst ((Txt.split a b).map V.str))))
theorem vm:Hj X "str.split" wJ:=by
 intro kb s σ H x xs v us Q I rx rv h;obtain⟨a,b,rfl,rfl,hb,ha,q⟩:=h;obtain⟨t,rfl⟩:=rx;obtain⟨u,rfl,ru⟩:=rv.one;obtain⟨t2,rfl⟩:=ru;have hb1:1<=b.length:=by
  rcases Nat.eq_zero_or_pos b.length with e | e
  ·rw[e]at hb;cases hb
  ·exact e
 have hw:=split_weight a b hb1;cases h1:(decide (a.length<b.length)||decide (strKind a<strKind b))
 ·cases hf:(occurrences a b 0 a.length (a.length+1)).isEmpty
  ·have e:Txt.split a b=partsBetween a (occurrences a b 0 a.length (a.length+1)) b.length:=(if_neg (ne_true_of_eq_false h1)).trans (if_neg (ne_true_of_eq_false hf));rw[e]at hw q;refine call_meets F.slot_str_split (typeIs_str _ _ _) F.entry_str_split (F.args_str_split_2 _ _) (meets_str_split_sep a b t t2 h1 hb hf (by omega) (by omega)) ?_;exact⟨.ref _,_,I.Af (rn _ _) (by rw[List.length_map];omega),rfl,q _ I.fresh⟩
  ·have e:Txt.split a b=[a]:=(if_neg (ne_true_of_eq_false h1)).trans (if_pos hf);rw[e]at q;exact call_meets F.slot_str_split (typeIs_str _ _ _) F.entry_str_split (F.args_str_split_2 _ _) (meets_str_split_not_found a b t t2 h1 hb hf)
    ⟨.ref _,_,I.Af (t':=s.toks) (ys:=[V.str a]) (its:=[Value.str a t]) (.cons ⟨_,rfl⟩ .nil) (by show 1<=_;decide),rfl,q _ I.fresh⟩
 ·have e:Txt.split a b=[a]:=if_pos h1;rw[e]at q;exact call_meets F.slot_str_split (typeIs_str _ _ _) F.entry_str_split (F.args_str_split_2 _ _) (meets_str_split_cannot_occur a b t t2 h1)
   ⟨.ref _,_,I.Af (t':=s.toks) (ys:=[V.str a]) (its:=[Value.str a t]) (.cons ⟨_,rfl⟩ .nil) (by show 1<=_;decide),rfl,q _ I.fresh⟩
theorem ro:∀{ts:List Str} {its:List Value},Vals (ts.map V.str) its->∃l:List (Str×Tok),its=strValues l/\l.map (·.1)=ts
 | [],its,h=>by cases h;exact⟨[],rfl,rfl⟩
 | t::ts,its,h=>by
  cases h with
  | cons a r=>
   obtain⟨k,rfl⟩:=a;obtain⟨l,rfl,e⟩:=ro r;exact⟨(t,k)::l,rfl,by rw[ca,e]⟩
inductive AB(K:gv)(x:V)(xs:List V)(H:Hp)(Q:VK):Prop
 | mk (a p ts) (_:x=.str a) (_:xs=[.ref p]) (_:aV K H p (ts.map V.str)) (_:JoinOk a ts=true) (_:Q (.str (Txt.join a ts)) H)
theorem yH:Hj X "str.join" (AB X.K):=by intro kb s σ H x xs v us Q I rx rv h;obtain⟨a,p,ts,rfl,rfl,hp,hj,q⟩:=h;obtain⟨t,rfl⟩:=rx;obtain⟨u,rfl,ru⟩:=rv.one;cases ru;obtain⟨its,hv,pl,_⟩:=I.list hp;obtain⟨l,rfl,e⟩:=ro hv;exact SC.join pl.isList e hj fun t' k=>⟨.str _,H,I.tok k,⟨_,rfl⟩,q⟩
inductive o9(xs:List V)(H:Hp)(Q:VK):Prop
 | mk (x:Str) (n:Int) (_:xs=[.str x]) (_:x.length<=640) (_:PySem.intText? x=some n) (_:Q (.int n) H)
theorem kE:iq X (.type "int") o9:=by intro kb s σ H xs us Q I r h;obtain⟨x,n,rfl,hl,hn,q⟩:=h;obtain⟨u,rfl,t,rfl⟩:=vals1 r;exact PySem.W.KIN.call_text hn hl ⟨.int _,H,I.tok _,⟨_,rfl⟩,q⟩
end
theorem yI{c:Nat}:∀{p q A B:List Nat},c∉p->c∉q->p++c::A=q++c::B->p=q/\A=B
 | [],[],A,B,_,_,h=>⟨rfl,(List.cons.inj h).2⟩
 | [],y::q,A,B,_,hq,h=>absurd (List.mem_cons.mpr (.inl (List.cons.inj h).1)) hq
 | x::p,[],A,B,hp,_,h=>absurd (List.mem_cons.mpr (.inl (List.cons.inj h).1.symm)) hp
 | x::p,y::q,A,B,hp,hq,h=>by have h:=List.cons.inj h;obtain⟨e1,e2⟩:=yI (fun z=>hp (List.mem_cons_of_mem _ z)) (fun z=>hq (List.mem_cons_of_mem _ z)) h.2;exact⟨by rw[h.1,e1],e2⟩
theorem join_list{c:Nat}(x y:Str)(r:List Str):(Str.join ⟨#[c]⟩ (x::y::r)).cps.toList=x.cps.toList++c::(Str.join ⟨#[c]⟩ (y::r)).cps.toList:=by show(x++⟨#[c]⟩++Str.join ⟨#[c]⟩ (y::r)).cps.toList=_;show((x.cps++ #[c])++(Str.join ⟨#[c]⟩ (y::r)).cps).toList=_;simp
theorem kQ{x y:Str}(h:x.cps.toList=y.cps.toList):x=y:=by apply Str.ext';exact Array.toList_inj.mp h
theorem vn{c:Nat}:∀{ps qs:List Str},ps≠ []->qs≠ []->(∀p∈ps,c∉p.cps.toList)->(∀p∈qs,c∉p.cps.toList)->Str.join ⟨#[c]⟩ ps=Str.join ⟨#[c]⟩ qs->ps=qs
 | [],_,h,_,_,_,_=>absurd rfl h
 | _::_,[],_,h,_,_,_=>absurd rfl h
 | [p],[q],_,_,_,_,e=>by
  have e:p=q:=e;rw[e]
 | [p],q::q2::r,_,_,hp,_,e=>by
  have e1:p.cps.toList=_:=(congrArg (fun x:Str=>x.cps.toList) e).trans (join_list q q2 r);exact absurd (by rw[e1];simp) (hp p (by simp))
 | p::p2::r,[q],_,_,_,hq,e=>by
  have e1:q.cps.toList=_:=(congrArg (fun x:Str=>x.cps.toList) e.symm).trans (join_list p p2 r);exact absurd (by rw[e1];simp) (hq q (by simp))
 | p::p2::r,q::q2::r',_,_,hp,hq,e=>by have e1:=congrArg (fun x:Str=>x.cps.toList) e;rw[join_list,join_list]at e1;obtain⟨a,b⟩:=yI (hp p (by simp)) (hq q (by simp)) e1;rw[kQ a,vn (by simp) (by simp) (fun z hz=>hp z (List.mem_cons_of_mem _ hz)) (fun z hz=>hq z (List.mem_cons_of_mem _ hz)) (kQ b)]
theorem BZ(x y:Str):Txt.split x y≠ []:=by
 intro h;have e:=StrLaws.join_split x y;unfold Txt.split at h;split at h
 ·cases h
 ·split at h
  ·cases h
  ·rw[StrLaws.partsBetween_eq]at h;obtain⟨p,q,e⟩:=StrLaws.partsFrom_ne x y.length 0 (occurrences x y 0 x.length (x.length+1));rw[e]at h;cases h
theorem pe{c:Nat}{ts:List Str}(h:ts≠ [])(hf:∀p∈ts,c∉p.cps.toList):Txt.split (Txt.join ⟨#[c]⟩ ts) ⟨#[c]⟩=ts:=by have e:Txt.join ⟨#[c]⟩ ts=Str.join ⟨#[c]⟩ ts:=StrLaws.glued_eq_join _ _;rw[e];exact vn (BZ _ _) h (StrLaws.split_free _ c) hf (StrLaws.join_split _ _)
open PySem PySem.Spec PyProof.Rows
def QZ(x:Str)(i:Nat):Option V:=(x.cps[i]?).map fun c=>V.str ⟨#[c]⟩
def Its(x:Str):It:=⟨fun i _=>i<x.cps.size,fun i H v H'=>H'=H/\QZ x i=some v,fun i _=>x.cps.size<=i⟩
theorem wK{P:Program}{w:World}{K:gv}{tg:Expr}(x:Str)(t:Tok)(it:Addr):Turn P w K tg (Its x) [it] it (fun i h=>h.IsStrIter it "str_ascii_iterator" x t i) where
 mem:=by simp
 obj:=fun i h st b hb=>by
  have e:b=it:=by simpa using hb
  subst e;obtain⟨o,e,c,d⟩:=st;exact⟨o,e,fun v z=>by rw[d]at z;cases z⟩
 keep:=fun i h h' st k=>by obtain⟨o,e,r⟩:=st;exact⟨o,k it (by simp) o e,r⟩
 item:=by intro X hP hw hK hc i kb s σ H E I hf st hg;subst hP hw hK;have hx:x.cps[i]? =some x.cps[i]:=Array.getElem?_eq_getElem hg;obtain⟨f0,f1,f2,f3,f4,f5⟩:=hf it (by simp);refine wpAny_pyNext_ascii_item st hx fun h' st' sb=>?_;have I1:Inv X kb σ H {s with heap:=h',toks:=s.toks+1}:=I.turned (t':=s.toks+1) (fun b o hb e=>(sb.2 b hb).trans e) f0 f1 f3 f4 f5;obtain⟨o,e,c,d⟩:=id st';exact⟨_,rfl,uN (s:={s with heap:=h',toks:=s.toks+1}) e c d (by decide) ⟨.str ⟨#[x.cps[i]]⟩,H,I1,⟨_,rfl⟩,⟨rfl,by unfold QZ;rw[hx];rfl⟩,st',fun b hb=>(hf b hb).1⟩⟩
 done:=by intro X hP hw hK hc i kb s σ H E I hf st hg;subst hP hw hK;obtain⟨f0,f1,f2,f3,f4,f5⟩:=hf it (by simp);exact wpAny_pyNext_ascii_end (I.ok.hd hc) st (Array.getElem?_eq_none hg) fun h' eb=>⟨rfl,I.turned (t':=s.toks) (fun b o hb e=>eb b o hb e) f0 f1 f3 f4 f5⟩
 self:=fun _ _ _ _ _ st h=>wpAny_pyIter_striter_ascii st h
section
variable {X:Cx}{tg:Expr}
def Sy(tl:TE):TI:=fun σ H R=>tl σ H fun x H1=>∃z,x=.str z/\z.cps.all (· <128)=true/\R (Its z) H1
theorem JO{l:Expr}{tl:TE}(hl:PE X l tl):PI X tg l (Sy tl):=by
 intro kb s σ H R I h;refine cJ (hl kb s σ H _ I h) fun v s1 ⟨x,H1,I1,r1,q1⟩=>?_;obtain⟨z,e,ha,q⟩:=q1;subst e;obtain⟨t,rfl⟩:=r1;refine wpAny_pyIter_ascii ha ?_;refine⟨s1.heap.objs.size,[s1.heap.objs.size],_,_,H1,rfl,I1.kept (t':=s1.toks) fun b o e=>fg _ e,wK z t _,⟨_,fk _ rfl,rfl,rfl⟩,fun b hb=>?_,q⟩;have e:b=s1.heap.objs.size:=by simpa using hb
 subst e;exact I1.v9 (jp _) (I1.hok.fresh (jp _))
end
theorem B1{x:Str}{g:TG}{tt:TT}{te:TE}{R:Hp->Prop}{D:Addr}{σ0:St}{H0:Hp}(Pv:Nat->St->List V->Hp->Prop)(h0:Pv 0 σ0 [] H0)
  (hs:∀i v σ ys H,QZ x i=some v->Pv i σ ys H->g v σ H fun σ2 H2=>tt σ2 H2 fun b H3=>
   if b=true then te σ2 H3 fun v H4=>H4 D=some (.lst ys)/\ys.length<ee/\Pv (i+1) σ2 (ys++ [v]) (upd H4 D (.lst (ys++ [v])))else Pv (i+1) σ2 ys H3)
  (hd:∀σ ys H,Pv x.cps.size σ ys H->R H):
  ∃W:Nat->Nat->St->List V->Hp->Prop,(∃m,W 0 m σ0 [] H0)/\∀i m σ ys H,W i m σ ys H->
   ((Its x).stop i H/\R H)\/((Its x).go i H/\∃N:St->List V->Hp->Prop,(∀σ' ys' H',N σ' ys' H'->∃m',m'<m/\W (i+1) m' σ' ys' H')/\∀v H',(Its x).yj i H v H'->g v σ H' fun σ2 H2=>tt σ2 H2 fun b H3=>
    if b=true then te σ2 H3 fun v H4=>H4 D=some (.lst ys)/\ys.length<ee/\N σ2 (ys++ [v]) (upd H4 D (.lst (ys++ [v])))else N σ2 ys H3):=by
 refine⟨fun i m σ ys H=>m=x.cps.size-i/\i<=x.cps.size/\Pv i σ ys H,⟨x.cps.size,by simp,Nat.zero_le _,h0⟩,?_⟩;rintro i m σ ys H ⟨rfl,hi,p⟩;by_cases hlt:i<x.cps.size
 ·refine .inr ⟨hlt,Pv (i+1),fun σ' ys' H' p'=>⟨x.cps.size- (i+1),by omega,rfl,hlt,p'⟩,fun v H' y=>?_⟩;obtain⟨e,y⟩:=y;subst e;exact hs i v σ ys _ y p
 ·have e:i=x.cps.size:=by omega
  subst e;exact .inl ⟨jp _,hd σ ys H p⟩
open PySem PySem.Spec PyProof.Rows
open Builtin Builtin.Str
section
variable {X:Cx}
inductive B2(x:V)(lo:Option Int)(hi:Option Int)(H:Hp)(Q:VK):Prop
 | mk (z:Str) (_:x=.str z) (_:z.length<=ee) (_:Q (.str (Txt.slice z lo hi)) H)
theorem JP:QR X B2:=by
 intro kb s σ H x v vl vu lo hi sl Q I rx hs pl pu h;obtain⟨z,rfl,hz,q⟩:=h;obtain⟨t,rfl⟩:=rx;have fin:∀(l u:Option (Int×Tok)),Txt.slice z (l.map (·.1)) (u.map (·.1))=Txt.slice z lo hi->s.heap.IsSlice sl l u none->wpAny (model X.prog X.w) X.A (getItem (.str z t) (.ref sl)) (EP X kb σ Q) X.xe s:=fun l u e hS=>by refine wpAny_getItem_str_slice hS rfl ?_;refine post_val_or_str ⟨kq (Txt.slice_le z _ _) hz,fun t' k=>?_⟩;exact⟨.str _,H,I.tok k,⟨_,rfl⟩,by rw[<-e]at q;exact q⟩
 cases pl with
 | none=>
  cases pu with
  | none=>exact⟨"str",_,F.slot_str_getitem.lookup,typeIs_str _ _ _,fin none none rfl hs⟩
  | int j tj=>exact⟨"str",_,F.slot_str_getitem.lookup,typeIs_str _ _ _,fin none (some (j,tj)) rfl hs⟩
 | int i ti=>
  cases pu with
  | none=>exact⟨"str",_,F.slot_str_getitem.lookup,typeIs_str _ _ _,fin (some (i,ti)) none rfl hs⟩
  | int j tj=>exact⟨"str",_,F.slot_str_getitem.lookup,typeIs_str _ _ _,fin (some (i,ti)) (some (j,tj)) rfl hs⟩
end
open PySem PySem.Spec PyProof.Rows
theorem AF{a:Addr}{o:Obj}{kvs:List (Key×V)}{g:TG}{tt:TT}{te:TE}{R:Hp->Prop}{D:Addr}{σ0:St}{H0:Hp}(Pv:Nat->St->List V->Hp->Prop)(h0:Pv 0 σ0 [] H0)(hl:∀i σ ys H,i<=kvs.length->Pv i σ ys H->H a=some (.jI o (.dK kvs)))
  (hs:∀i k y σ ys H,kvs[i]? =some (k,y)->Pv i σ ys H->g (kV k) σ H fun σ2 H2=>tt σ2 H2 fun b H3=>
   if b=true then te σ2 H3 fun v H4=>H4 D=some (.lst ys)/\ys.length<ee/\Pv (i+1) σ2 (ys++ [v]) (upd H4 D (.lst (ys++ [v])))else Pv (i+1) σ2 ys H3)
  (hd:∀σ ys H,Pv kvs.length σ ys H->R H):
  ∃W:Nat->Nat->St->List V->Hp->Prop,(∃m,W 0 m σ0 [] H0)/\∀i m σ ys H,W i m σ ys H->
   ((Hm a o kvs).stop i H/\R H)\/((Hm a o kvs).go i H/\∃N:St->List V->Hp->Prop,(∀σ' ys' H',N σ' ys' H'->∃m',m'<m/\W (i+1) m' σ' ys' H')/\∀x H',(Hm a o kvs).yj i H x H'->g x σ H' fun σ2 H2=>tt σ2 H2 fun b H3=>
    if b=true then te σ2 H3 fun v H4=>H4 D=some (.lst ys)/\ys.length<ee/\N σ2 (ys++ [v]) (upd H4 D (.lst (ys++ [v])))else N σ2 ys H3):=by
 refine⟨fun i m σ ys H=>m=kvs.length-i/\i<=kvs.length/\Pv i σ ys H,⟨kvs.length,by simp,Nat.zero_le _,h0⟩,?_⟩;rintro i m σ ys H ⟨rfl,hi,p⟩;have q:=hl i σ ys H hi p;by_cases hlt:i<kvs.length
 ·refine .inr ⟨⟨q,hlt⟩,Pv (i+1),fun σ' ys' H' p'=>⟨kvs.length- (i+1),by omega,rfl,hlt,p'⟩,fun x H' y=>?_⟩;obtain⟨rfl,k,v,e,rfl⟩:=y;exact hs i k v σ ys _ e p
 ·have e:i=kvs.length:=by omega
  subst e;exact .inl ⟨⟨q,jp _⟩,hd σ ys H p⟩
inductive HD(H:Hp):V->Da->Prop
 | non:HD H .non .non
 | bl (b:Bool):HD H (.bl b) (.bl b)
 | int (i:Int):HD H (.int i) (.int i)
 | str (s:Str):HD H (.str s) (.str s)
 | tup {p:Addr} {xs:List V} {ds:List Da} (h:H p=some (.tup xs)) (l:xs.length=ds.length) (e:∀(i:Nat) x d,xs[i]? =some x->ds[i]? =some d->HD H x d):HD H (.ref p) (.tup ds)
 | lst {p:Addr} {xs:List V} {ds:List Da} (h:H p=some (.lst xs)) (l:xs.length=ds.length) (e:∀(i:Nat) x d,xs[i]? =some x->ds[i]? =some d->HD H x d):HD H (.ref p) (.lst ds)
theorem HD.da{H:Hp}{v:V}{d:Da}(K:gv)(h:HD H v d):fY K H v d:=by
 induction h with
 | non=>exact .non
 | bl b=>exact .bl b
 | int i=>exact .int i
 | str x=>exact .str x
 | tup h l e ih=>exact .tup (bz.of h) l ih
 | lst h l e ih=>exact .lst (aV.of h) l ih
inductive AG(H:Hp):List V->List Da->Prop
 | nil:AG H [] []
 | cons {x:V} {d:Da} {xs:List V} {ds:List Da} (h:HD H x d) (r:AG H xs ds):AG H (x::xs) (d::ds)
theorem AG.len{H:Hp}{xs:List V}{ds:List Da}(h:AG H xs ds):xs.length=ds.length:=by
 induction h with
 | nil=>rfl
 | cons h r ih=>rw[bv,bv,ih]
theorem AG.get{H:Hp}{xs:List V}{ds:List Da}(h:AG H xs ds):∀(i:Nat) x d,xs[i]? =some x->ds[i]? =some d->HD H x d:=by
 induction h with
 | nil=>intro i x d h;simp at h
 | cons h r ih=>
  intro i x d h1 h2;cases i with
  | zero=>cases h1;cases h2;exact h
  | succ i=>exact ih i x d (by simpa using h1) (by simpa using h2)
theorem AG.of{H:Hp}:∀{xs:List V} {ds:List Da},xs.length=ds.length->(∀(i:Nat) x d,xs[i]? =some x->ds[i]? =some d->HD H x d)->AG H xs ds
 | [],[],_,_=>.nil
 | x::xs,d::ds,h,e=>.cons (e 0 x d rfl rfl) (AG.of (by simpa using h) fun i y z a b=>e (i+1) y z (by simpa using a) (by simpa using b))
 | [],_::_,h,_=>by simp at h
 | _::_,[],h,_=>by simp at h
theorem HD.tupS{H:Hp}{p:Addr}{xs:List V}{ds:List Da}(h:H p=some (.tup xs))(r:AG H xs ds):HD H (.ref p) (.tup ds):=.tup h r.len r.get
theorem HD.B3{H:Hp}{p:Addr}{xs:List V}{ds:List Da}(h:H p=some (.lst xs))(r:AG H xs ds):HD H (.ref p) (.lst ds):=.lst h r.len r.get
section
variable {σ:St}{H:Hp}
end
end L2
namespace PySem.W.Fast
def tw9454252626450124848:Nat:=0
def tw16227889376591834574:Nat:=0
def tw8315914586881230394:Nat:=0
def tw11623603647517849440:Nat:=0
def tw18176049423722645034:Nat:=0
def tw379798631639072179:Nat:=0
def tw3272937585163413884:Nat:=0
def tw18081087148049902572:Nat:=0
def tw5447735048559267185:Nat:=0
def tw16421706547599562268:Nat:=0
def tw17060622511792782557:Nat:=0
def tw1888890026790472564:Nat:=0
def tw12324841038107179945:Nat:=0
def tw8896243670819312291:Nat:=0
def tw13301433629082579659:Nat:=0
def tw14447822742868934116:Nat:=0
def tw15818659379333121674:Nat:=0
def tw5523322883269151823:Nat:=0
def tw4766561133051869616:Nat:=0
def tw13761807092347549367:Nat:=0
def tw18230589312390452102:Nat:=0
def tw9375623305102209827:Nat:=0
def tw17759857860419979587:Nat:=0
def tw11190393447271672005:Nat:=0
def tw18385096094240215973:Nat:=0
def tw3508240341045615630:Nat:=0
def tw2163327408239203550:Nat:=0
def tw1321123059417624107:Nat:=0
def tw14747567793224971065:Nat:=0
def tw6824098329915698322:Nat:=0
def tw13976944238200453553:Nat:=0
def tw13452911486458671969:Nat:=0
def tw9160384376458124970:Nat:=0
def tw11978090261195753271:Nat:=0
def tw16410831508171491232:Nat:=0
def tw5189277356745703037:Nat:=0
def tw1608759947076466186:Nat:=0
def tw11073054883948864563:Nat:=0
def tw12453181021180701482:Nat:=0
def tw11290362996062155924:Nat:=0
def tw3439010747494048343:Nat:=0
def tw7591897410237648285:Nat:=0
def tw14600810549579992610:Nat:=0
def tw9950909250070094276:Nat:=0
def tw744704383188552476:Nat:=0
def tw18041496632480623439:Nat:=0
def tw6117127384219486126:Nat:=0
def tw1882501970927238374:Nat:=0
def tw7858456376669223311:Nat:=0
def tw4053463689714041440:Nat:=0
def tw11117051977069858515:Nat:=0
def tw1056827848790590497:Nat:=0
def tw12104217613925550505:Nat:=0
def tw11522840150109556775:Nat:=0
def tw8098618710926278203:Nat:=0
def tw9081909961011682755:Nat:=0
def tw11676147434849621739:Nat:=0
def tw11919448211025051066:Nat:=0
def tw12310229701251224349:Nat:=0
def tw15726399404996336567:Nat:=0
def tw8419795525645851542:Nat:=0
def tw3338770502315998066:Nat:=0
def tw1759079109500934150:Nat:=0
def tw12379740430204310845:Nat:=0
def tw15058296894537641970:Nat:=0
def tw11422205793803705279:Nat:=0
def tw8441557644688094366:Nat:=0
def tw10998974473817223137:Nat:=0
def tw5632070343078449895:Nat:=0
def tw2325576371885370469:Nat:=0
def tw10424935767517116227:Nat:=0
def tw15258776294517223316:Nat:=0
def tw2920509032432177473:Nat:=0
def tw14529536251461552280:Nat:=0
def tw184549844485092286:Nat:=0
def tw2560359365792770814:Nat:=0
def tw8688188050881962064:Nat:=0
def tw16853260013047955004:Nat:=0
def tw1710948541435755496:Nat:=0
def tw9274544161644159913:Nat:=0
def tw16778285621669467091:Nat:=0
def tw7768326410868080643:Nat:=0
def tw1238347259983767667:Nat:=0
def tw10558954930987734088:Nat:=0
def tw2290051884186302216:Nat:=0
def tw627707971993720045:Nat:=0
def tw9224697605611858198:Nat:=0
def tw15875082657102908035:Nat:=0
def tw1738486476245985143:Nat:=0
def tw16374961470196277683:Nat:=0
def tw6539652557469395668:Nat:=0
def tw7879598091495422723:Nat:=0
def tw2932019056993473099:Nat:=0
def tw8395750702795673922:Nat:=0
def tw13277484225027263857:Nat:=0
def tw3574224117212064426:Nat:=0
def tw11401380719249959357:Nat:=0
def tw17321289571632439820:Nat:=0
def tw15342532842427982197:Nat:=0
def tw8052225694502103791:Nat:=0
def tw13486047701362444391:Nat:=0
def tw13780897820544797721:Nat:=0
def tw2782280986783271379:Nat:=0
def tw2724896536305635642:Nat:=0
def tw12534184710889047326:Nat:=0
def tw12918852783199319631:Nat:=0
def tw11304654652172381122:Nat:=0
def tw18032358349212487163:Nat:=0
def tw11218351141875772113:Nat:=0
def tw2650493129419400183:Nat:=0
def tw12755189743933872315:Nat:=0
def tw2978730404430268245:Nat:=0
def tw4464957342145057452:Nat:=0
def tw2513602226741853469:Nat:=0
def tw4070041976029370688:Nat:=0
def tw1874374297148953194:Nat:=0
def tw8372501943649686123:Nat:=0
def tw5052476576432725930:Nat:=0
def tw17557204347063432185:Nat:=0
def tw1937671430296838361:Nat:=0
def tw229368784116205268:Nat:=0
def tw13956426120209422962:Nat:=0
def tw432727611615144604:Nat:=0
def tw8400939907083216585:Nat:=0
def tw18218077997384037987:Nat:=0
def tw5195735079167998640:Nat:=0
def tw12434522066406709603:Nat:=0
def tw17964780289433952127:Nat:=0
def tw17733671146336129379:Nat:=0
def tw5870579095502078544:Nat:=0
def tw16800783240142173570:Nat:=0
def tw8217368644113599515:Nat:=0
def tw4983630273952239894:Nat:=0
def tw11250286966716604347:Nat:=0
def tw5788753853814120251:Nat:=0
def tw6119812522179708130:Nat:=0
def tw17126952268792108560:Nat:=0
def tw11913508234121227915:Nat:=0
def tw14238526268642003085:Nat:=0
def tw14457810469741127642:Nat:=0
def tw2438627749755712456:Nat:=0
def tw6802412661583979992:Nat:=0
def tw14987325450002564574:Nat:=0
def tw10453647066159035274:Nat:=0
def tw18439316196709601391:Nat:=0
def tw13988943850457161294:Nat:=0
def tw12646468724087506795:Nat:=0
def tw13724835405836611964:Nat:=0
def tw3500459455717993196:Nat:=0
def tw14078331908402167745:Nat:=0
def tw9306052077351292366:Nat:=0
def tw10847505014857240083:Nat:=0
def tw9448754766705562920:Nat:=0
def tw10860765306969288561:Nat:=0
def tw157979060206774522:Nat:=0
def tw12887129733331781069:Nat:=0
def tw4334834002473885233:Nat:=0
def tw12376223826486798678:Nat:=0
def tw6935558614646510568:Nat:=0
def tw13879570854613226632:Nat:=0
def tw14859940411983830097:Nat:=0
def tw879453011242823068:Nat:=0
def tw6394695073353524245:Nat:=0
def tw10123564597089249355:Nat:=0
def tw12889473862084731422:Nat:=0
def tw11143498911585381135:Nat:=0
def tw13884479035588517547:Nat:=0
def tw15661852610261375486:Nat:=0
def tw4313537911545655778:Nat:=0
def tw12926373612063465850:Nat:=0
def tw2140942744497086453:Nat:=0
def tw3870657440158349515:Nat:=0
def tw17203989514017705568:Nat:=0
def tw11848142821366483942:Nat:=0
def tw9594833719221463452:Nat:=0
def tw6170116057790046096:Nat:=0
def tw8943249814966595794:Nat:=0
def tw10821001705409582482:Nat:=0
def tw5163678389167982549:Nat:=0
def tw17406602417186036061:Nat:=0
def tw2945542793395509637:Nat:=0
def tw10358179289688161749:Nat:=0
def tw16512454138053137436:Nat:=0
def tw7996796510057701923:Nat:=0
def tw7821829076089136790:Nat:=0
def tw3857333105310058234:Nat:=0
def tw138539134439410715:Nat:=0
def tw1480252533954605271:Nat:=0
def tw6446821109310590371:Nat:=0
def tw3323679268762074494:Nat:=0
def tw7151005789481243034:Nat:=0
def tw18270049699010185404:Nat:=0
def tw13120760221063560466:Nat:=0
def tw11941351832124305445:Nat:=0
def tw8525747277530161167:Nat:=0
def tw9248083407387710433:Nat:=0
def tw14452951524240031644:Nat:=0
def tw13637464278361900945:Nat:=0
def tw3980264158411411639:Nat:=0
def tw1836146395139479650:Nat:=0
def tw419290280034270694:Nat:=0
def tw5853432135781421391:Nat:=0
def tw10623630699929592731:Nat:=0
def tw4692873283313762933:Nat:=0
def tw7291454584367608108:Nat:=0
def tw3405822692039052810:Nat:=0
def tw18159541002674435889:Nat:=0
def tw13891375902290648486:Nat:=0
def tw12189431650359719786:Nat:=0
def tw825553578056917094:Nat:=0
def tw17059530877390067669:Nat:=0
def tw3803109699572689156:Nat:=0
def tw7333032143153530635:Nat:=0
def tw17127750861537581849:Nat:=0
def tw9543452222398499896:Nat:=0
end PySem.W.Fast
namespace My
theorem _root_.zle{a b:Nat}(h:Nat.ble a b=true:=by rfl):a<=b:=Nat.le_of_ble_eq_true h
open PySem L2
abbrev zL0:List Str:=["set","more","see","put","take"]
abbrev zL1:List Str:=["stop","back"]
abbrev zL2:List Str:=["box"]
abbrev zL3:List Str:=["target","far","targets"]
abbrev zL4:List Str:=["jump","zero","below","call","mark"]
abbrev zL5:List Str:=["far"]
abbrev zL6:List Str:=["box","box"]
theorem _root_.L2.dP.u{n:Nat}{A:Around}(hr:dP n A)(k:Nat)(h:k<=64:=by decide):A.units+k<cLine:=Nat.lt_of_le_of_lt (Nat.add_le_add_left h _) hr.units
abbrev KI(K:gv)(f:Addr):Prop:=PySem.W.keepIn K (.ref f)=true
theorem B4:0<=ee:=by decide
theorem i0:1<=ee:=by decide
theorem bq:2<=ee:=by decide
theorem kX:3<=ee:=by decide
theorem B5:4<=ee:=by decide
theorem Sz:6<=ee:=by decide
theorem Hr:25<=ee:=by decide
theorem SA:(0:Int)<2:=by decide
theorem SD:(0:Int)<4:=by decide
theorem JQ:(0:Int)<5:=by decide
theorem Ng:(0:Int)<8:=by decide
theorem Nh:(0:Int)<25:=by decide
theorem B6:(0:Int)<128:=by decide
theorem EF:(0:Int)<1024:=by decide
theorem qy:(0:Int)<2147483629:=by decide
theorem jT:(0:Int)<2147483647:=by decide
open List (all_eq_true all_map any_cons append_assoc append_nil cons_ne_nil drop_zero filterMap_append filter_append filter_cons find?_eq_none length length_append length_cons length_drop length_eq_one_iff length_map length_range length_singleton length_take map_append map_congr_left map_cons map_drop map_map map_take mem_append mem_cons mem_cons_of_mem mem_cons_self mem_filter mem_filterMap mem_map mem_range mem_singleton nodup_append nodup_cons not_mem_nil range_succ replicate take_add_one take_length take_of_length_le)
open PySem.W (Frag KeysLit OpenLaw WalkO clsIn codeIn excIn exmOne findCls findIn fnOf hasDictIn kIn_of keepIn kitMeta kitOne mg_none_of mg_of mroIn nsIn readsIn specialIn takerIn takesIn typeIn)
open Option (map_eq_none_iff map_eq_some_iff)
open Nat (le_of_ble_eq_true le_refl le_total le_trans lt_of_le_of_lt lt_succ_self min_eq_left not_lt_zero sub_self toDigits zero_le)
def top(i:Nat):Stmt:=PySem.Challenge.pw_widenrows_k18_whole_units_read_are_told.main.body.getD i (.Pass ⟨0,0,0,0⟩)
abbrev sO:Stmt:=top 8
abbrev pj:Stmt:=top 9
abbrev wL:Stmt:=top 10
abbrev sP:Stmt:=top 16
abbrev wM:Stmt:=top 17
abbrev sQ:Stmt:=top 23
abbrev wN:Stmt:=top 24
abbrev pq:Stmt:=top 25
abbrev kY:Stmt:=top 26
abbrev B7:Stmt:=top 34
abbrev sR:Stmt:=top 35
abbrev sS:Stmt:=top 36
abbrev sT:Stmt:=top 37
abbrev wO:Stmt:=top 38
abbrev sU:Stmt:=top 39
abbrev sV:Stmt:=top 40
abbrev wQ:Stmt:=top 41
abbrev pw:Stmt:=top 42
abbrev sW:Stmt:=top 43
abbrev sX:Stmt:=top 44
abbrev sY:Stmt:=top 52
abbrev wR:Stmt:=top 53
abbrev nX:Stmt:=top 54
abbrev nY:Stmt:=top 55
abbrev pz:Stmt:=top 56
abbrev pA:Stmt:=top 57
abbrev B8:Stmt:=top 58
abbrev kZ:Stmt:=top 59
abbrev wU:Stmt:=top 60
abbrev sZ:Stmt:=top 61
abbrev tq:Stmt:=top 62
abbrev pC:Stmt:=top 63
abbrev tu:Stmt:=top 64
abbrev nZ:Stmt:=top 65
abbrev B9:Stmt:=top 77
abbrev tD:Stmt:=top 78
abbrev gb:Stmt:=top 18
abbrev lV:Stmt:=top 19
abbrev gT:Stmt:=top 20
abbrev lW:Stmt:=top 21
abbrev pD:Stmt:=top 22
abbrev d6:Stmt:=top 27
abbrev iK:Stmt:=top 28
abbrev gU:Stmt:=top 69
abbrev gg:Stmt:=top 70
abbrev gj:Stmt:=top 71
abbrev ig:Stmt:=top 72
abbrev eI:Stmt:=top 73
abbrev iL:Stmt:=top 74
abbrev je:Stmt:=top 75
abbrev j3:Stmt:=top 79
abbrev j4:Stmt:=top 80
abbrev j5:Stmt:=top 81
abbrev lX:Stmt:=top 82
abbrev dy:Stmt:=top 83
abbrev dR:Stmt:=top 84
abbrev jf:Stmt:=top 85
abbrev jg:Stmt:=top 86
abbrev k4:Stmt:=top 87
theorem iM:bootBuiltins "list"=some (.type "list"):=by decide+kernel
theorem d7:bootBuiltins "tuple"=some (.type "tuple"):=by decide+kernel
theorem EG:bootBuiltins "bool"=some (.type "bool"):=by decide+kernel
theorem cE:bootBuiltins "len"=some (.builtin "len"):=by decide+kernel
theorem jh:bootBuiltins "isinstance"=some (.builtin "isinstance"):=by decide+kernel
theorem at0{α:Type}(a:α)(r:List α):kc (a::r) 0=some a:=ck (j:=0) rfl
theorem at1{α:Type}(a b:α)(r:List α):kc (a::b::r) 1=some b:=ck (j:=1) rfl
theorem at2{α:Type}(a b c:α)(r:List α):kc (a::b::c::r) 2=some c:=ck (j:=2) rfl
theorem strEq{a b:Str}(h:decide (V.str a=V.str b)=true):a=b:=V.str.inj (of_decide_eq_true h)
theorem rA{a b:Str}(h:¬decide (V.str a=V.str b)=true):¬a=b:=fun e=>h (by rw[e];exact decide_eq_true rfl)
theorem dS(w:Str):∀ss:List Str,inV (.str w) (ss.map V.str)=decide (w∈ss)
 | []=>rfl
 | x::r=>by
  have ih:=dS w r;unfold inV at ih ⊢;rw[map_cons,any_cons,ih];show((x==w)||_)=_;by_cases h:x=w
  ·subst h;simp
  ·have h':¬w=x:=fun e=>h e.symm;simp[h,h']
theorem aj{H:Hp}{l:Addr}{o:HO}(h:H l=none):Same H (upd H l o):=fun b u e=>by rw[aG (cI e h)];exact e
theorem pE:bootBuiltins "int"=some (.type "int"):=by decide+kernel
theorem wV:bootBuiltins "str"=some (.type "str"):=by decide+kernel
theorem tE:bootBuiltins "all"=some (.builtin "all"):=by decide+kernel
theorem Ca:bootBuiltins "max"=some (.builtin "max"):=by decide+kernel
theorem Cd:bootBuiltins "min"=some (.builtin "min"):=by decide+kernel
theorem aL{H H1:Hp}{l:Addr}{o:HO}(e:Same H H1)(h:H l=none):Same H (upd H1 l o):=fun b u z=>by rw[aG (cI z h)];exact e b u z
def bj:List Str:=["stop","back","halt","set","more","copy","add","less","load","keep","tell","see","put","take","jump","zero","below","call","mark","table"]
def w2:List Str:=["copy","add","less","load","keep"]
def w1:List Str:=["set","more","tell","see","put","take","zero","below","table"]
def n9(u:Str)(Jz:List V):Prop:=(u∈w2->∃b c:Int,Jz=[.int b,.int c])/\(u∈w1->∃(b:Int) (r:List V),Jz=.int b::r)
theorem n9.one{u:Str}{b:Int}{r:List V}(h:¬u∈w2):n9 u (.int b::r):=⟨fun z=>absurd z h,fun _=>⟨b,r,rfl⟩⟩
theorem JR{K:Frag}{a b:String}{r:Bool}(h1:(Value.type a==Value.type b)=false)(h2:kitMeta b=true)(h3:(fastBuiltinMro a).map (·.contains (Value.type b))=some r):kitOne K (.type a) (.type b)=some r:=by unfold kitOne;rw[if_neg (by rw[h1];decide)];show(if kitMeta b=true then (fastBuiltinMro a).map (·.contains (Value.type b))else none)=some r;rw[if_pos h2];exact h3
theorem pF{K:Frag}{a:String}(h:(Value.type a==Value.type a)=true):kitOne K (.type a) (.type a)=some true:=by unfold kitOne;rw[if_pos h]
theorem wW{K:Frag}:kitOne K (.type "int") (.type "bool")=some false:=JR (by decide) (by decide+kernel) (by decide+kernel)
theorem AH{K:Frag}:kitOne K (.type "int") (.type "int")=some true:=pF (by decide)
theorem jU{K:Frag}:kitOne K (.type "tuple") (.type "tuple")=some true:=pF (by decide)
theorem mY{K:Frag}:kitOne K (.type "list") (.type "list")=some true:=pF (by decide)
def iT:List Str:=["stop","back","halt","jump"]
def gk:List Str:=["jump","call","mark"]
def zb:List Str:=["zero","below"]
def Parts(H:Hp)(w:Str)(Jz:List V)(ts:List Int):Prop :=
 if w ="table"then ∃(b:V) (q:Addr),Jz=[b,.ref q]/\H q=some (.tup (ts.map V.int))
 else if w∈gk then ∃(t:Int) (f:V),Jz=[.int t,f]/\ts=[t]
 else if w∈zb then ∃(b:V) (t:Int) (f:V),Jz=[b,.int t,f]/\ts=[t]else ts=[]
def Cg(H:Hp)(r:Addr)(w:Str)(ts:List Int):Prop:=∃Jz,H r=some (.tup (.str w::Jz))/\Parts H w Jz ts
def kinds:List (Str×List Str):=[("stop",[]),("back",[]),("halt",["number"]),("set",["box","value"]),("more",["box","value"]),("copy",["box","box"]),("add",["box","box"]),("less",["box","box"]),("load",["box","box"]),("keep",["box","box"]),
 ("tell",["box"]),("see",["box","number"]),("put",["box","aside"]),("take",["box","aside"]),("jump",["target","far"]),("zero",["box","target","far"]),("below",["box","target","far"]),("call",["target","far"]),("mark",["target","far"]),("table",["box","targets"])]
def five:List Str:=["jump","call","mark","zero","below"]
def six:List Str:=["set","more","put","take","see","halt"]
def pG:List Str:=["number","value","aside"]
def heads:List (Str×Int):=[("stop",0),("back",0),("halt",0),("set",0),("more",0),("copy",0),("add",0),("less",0),("load",0),("keep",0),("tell",0),("see",0),("put",0),("take",0),("jump",0),("zero",0),("below",0),("call",0),("mark",0),("table",0),("jump",1),("zero",1),("below",1),("call",1),("mark",1)]
def bounds:List (Str×Int×Int):=[("box",0,7),("aside",0,1000000),("target",0,1000000000),("number",0,1000000),("value",-1000000000,1000000000),("far",0,1)]
structure Txt(K:Frag)(pr:Params)(mg:Str->Option Value):Prop where
 LJ:∃p,mg "PARTS"=some (.ref p)/\∀x∈kinds,∃q,Aq K pr p x.1 (some (.ref q))/\∀H,bz K H q (x.2.map V.str)
 two:∃p,mg "TWO_UNITS"=some (.ref p)/\∀H,bz K H p (six.map V.str)
 ls:∃t,mg "LEAST_SHORT"=some (.int (-64) t)
 gs:∃t,mg "GREATEST_SHORT"=some (.int 63 t)
 cst:∃t,mg "CODE_STEP"=some (.int 1024 t)
 XH:∃t,mg "BOX_STEP"=some (.int 128 t)
 XI:∃t,mg "SHORT_ADDED"=some (.int 64 t)
 nks:∃p,mg "NUMBER_KINDS"=some (.ref p)/\∀H,bz K H p (pG.map V.str)
 hds:∃p,mg "HEADS"=some (.ref p)/\(∃o,K.lookup p=some o/\o.cls=.type "tuple"/\o.dict=none)/\∀H,∃qs:List Addr,bz K H p (qs.map V.ref)/\qs.length=heads.length/\∀(i:Nat) q h,qs[i]? =some q->heads[i]? =some h->bz K H q [.str h.1,.int h.2]
 mro:∃t,mg "MOST_ROWS_OVER"=some (.int 64 t)
 hdq:∃(p:Addr) (qs:List Addr),mg "HEADS"=some (.ref p)/\(∀H,bz K H p (qs.map V.ref))/\qs.length=heads.length/\∀(i:Nat) q h,qs[i]? =some q->heads[i]? =some h->∀H,bz K H q [.str h.1,.int h.2]
 prk:∃p,mg "PARTS"=some (.ref p)/\∀x∈kinds,∃q,Aq K pr p x.1 (some (.ref q))/\(∃o,K.lookup q=some o/\o.cls=.type "tuple"/\o.dict=none)/\∀H,bz K H q (x.2.map V.str)
 bnd:∃p,mg "BOUNDS"=some (.ref p)/\∀x∈bounds,∃q,Aq K pr p x.1 (some (.ref q))/\∀H,bz K H q [.int x.2.1,.int x.2.2]
 XJ:∃t,mg "MOST_TARGETS"=some (.int 16 t)
 bxs:∃t,mg "BOXES"=some (.int 8 t)
 non:∃p,mg "NOT_GOING_ON"=some (.ref p)/\∀H,bz K H p (iT.map V.str)
 mrw:∃t,mg "MOST_ROWS"=some (.int 4000 t)
 mfg:∃t,mg "MOST_FIGURES"=some (.int 10 t)
 fgs:∃t,mg "FIGURES"=some (.str "0123456789" t)
 len:mg "len"=none
 str:mg "str"=none
 list:mg "list"=none
 tuple:mg "tuple"=none
 int:mg "int"=none
 bool:mg "bool"=none
 Hs:mg "isinstance"=none
 enum:mg "enumerate"=none
 range:mg "range"=none
 min:mg "min"=none
 max:mg "max"=none
 all:mg "all"=none
 zip:mg "zip"=none
def aZ(u:Str):List Str:=((kinds.find? fun x=>x.1==u).map (·.2)).getD []
def yJ(u:Str):Nat:=(aZ u).length
theorem gW(w:Int):∀ss:List Int,inV (.int w) (ss.map V.int)=decide (w∈ss)
 | []=>rfl
 | x::r=>by
  have ih:=gW w r;unfold inV at ih ⊢;rw[map_cons,any_cons,ih];show((x==w)||_)=_;by_cases h:x=w
  ·subst h;simp
  ·have h':¬w=x:=fun e=>h e.symm;simp[h,h']
theorem bX{n:Nat}(h:n<=1000000):n<=ee:=le_trans h (by decide)
theorem aT{n:Nat}(h:n<=1000000):n<ee:=lt_of_le_of_lt h (by decide)
structure FR where
 u:Str
 is:List Int
 ts:List Int
def FR.Ok(d:FR):Prop:=d.u∈bj/\(d.u ="table"->∃b,d.is=[b])/\(d.u∈gk->∃t f,d.is=[t,f]/\d.ts=[t])/\(d.u∈zb->∃b t f,d.is=[b,t,f]/\d.ts=[t])/\
 (¬d.u ="table"->¬d.u∈gk->¬d.u∈zb->d.ts=[]/\d.is.length=yJ d.u)/\(d.u∈w2->∃b c,d.is=[b,c])/\(d.u∈w1->∃b r,d.is=b::r)
def SE(H:Hp)(q:Addr)(d:FR):Prop:=(d.u ="table"/\∃b p,d.is=[b]/\H q=some (.tup [.str d.u,.int b,.ref p])/\H p=some (.tup (d.ts.map V.int)))\/(¬d.u ="table"/\H q=some (.tup (.str d.u::d.is.map V.int)))
def bZ(H:Hp)(q:Addr)(d:FR):Prop:=d.Ok/\SE H q d
theorem bZ.same{H H':Hp}{q:Addr}{d:FR}(s:Same H H')(h:bZ H q d):bZ H' q d:=by
 obtain⟨o,h⟩:=h;refine⟨o,?_⟩;rcases h with ⟨a,b,p,e,h1,h2⟩ | ⟨a,h1⟩
 ·exact .inl ⟨a,b,p,e,s _ _ h1,s _ _ h2⟩
 ·exact .inr ⟨a,s _ _ h1⟩
theorem bZ.parts{H:Hp}{q:Addr}{d:FR}(h:bZ H q d):∃Jz,H q=some (.tup (.str d.u::Jz))/\n9 d.u Jz/\Parts H d.u Jz d.ts/\∀(i:Nat) (b:Int),(d.u∈w1\/d.u∈w2)->i<2->(d.u∈w1->i=0)->(Jz[i]? =some (.int b)↔d.is[i]? =some b):=by
 obtain⟨⟨hu,h1,h2,h3,h4,h5,h6⟩,h⟩:=h;rcases h with ⟨a,b,p,e,g1,g2⟩ | ⟨a,g1⟩
 ·refine⟨_,g1,n9.one (by rw[a];decide),?_,fun i b' _ hi hw=>?_⟩
  ·unfold Parts;rw[if_pos a];exact⟨_,p,rfl,g2⟩
  ·have:i=0:=hw (by rw[a];decide);subst this;rw[e];simp
 ·refine⟨_,g1,⟨fun z=>?_,fun z=>?_⟩,?_,fun i b' _ hi hw=>?_⟩
  ·obtain⟨b,c,e⟩:=h5 z;exact⟨b,c,by rw[e];rfl⟩
  ·obtain⟨b,r,e⟩:=h6 z;exact⟨b,r.map V.int,by rw[e];rfl⟩
  ·unfold Parts;rw[if_neg a];split
   ·rename_i z;obtain⟨t,f,e1,e2⟩:=h2 z;exact⟨t,.int f,by rw[e1];rfl,e2⟩
   ·rename_i z1;split
    ·rename_i z;obtain⟨b,t,f,e1,e2⟩:=h3 z;exact⟨.int b,t,.int f,by rw[e1];rfl,e2⟩
    ·rename_i z2;exact(h4 a z1 z2).1
  ·rw[ac,map_eq_some_iff];exact⟨fun⟨y,e1,e2⟩=>by cases e2;exact e1,fun e=>⟨b',e,rfl⟩⟩
def dz(H:Hp)(lr:Addr)(ds:List FR):Prop:=∃qs:List Addr,H lr=some (.lst (qs.map V.ref))/\qs.length=ds.length/\∀(i:Nat) q d,qs[i]? =some q->ds[i]? =some d->bZ H q d
theorem dz.same{H H':Hp}{lr:Addr}{ds:List FR}(s:Same H H')(h:dz H lr ds):dz H' lr ds:=by obtain⟨qs,a,b,c⟩:=h;exact⟨qs,s _ _ a,b,fun i q d h1 h2=>(c i q d h1 h2).same s⟩
theorem dz.get{H:Hp}{lr:Addr}{ds:List FR}{r:Nat}{d:FR}(h:dz H lr ds)(hd:ds[r]? =some d):∃(qs:List Addr) (q:Addr),H lr=some (.lst (qs.map V.ref))/\kc (qs.map V.ref) (r:Int)=some (.ref q)/\(qs.map V.ref)[r]? =some (.ref q)/\bZ H q d:=by
 obtain⟨qs,a,b,c⟩:=h;have hr:=(ad.mp hd).1;have hq:qs[r]? =some (qs[r]'(by omega)):=aa _;have hq':(qs.map V.ref)[r]? =some (.ref (qs[r]'(by omega))):=by rw[ac,hq];rfl
 exact⟨qs,_,a,ck hq',hq',c r _ d hq hd⟩
def isStar:Expr->Bool
 | .Starred _ _=>true
 | _=>false
theorem EH{e:Expr}{es:List Expr}{env:Env}(h:isStar e=false):starEach (e::es) env=(false,eval e env)::starEach es env:=starEach.eq_3 _ _ _ (fun e1 p h1=>by rw[h1]at h;cases h)
inductive JT(X:Cx):List Expr->List TE->Prop where
 | nil:JT X [] []
 | cons {e:Expr} {te:TE} {es:List Expr} {ts:List TE} (h:PE X e te) (r:JT X es ts) (hs:isStar e=false:=by rfl):JT X (e::es) (te::ts)
def EI:List TE->TA
 | []=>Mw
 | te::ts=>Hh te (EI ts)
theorem JT.pa{X:Cx}{es:List Expr}{ts:List TE}(h:JT X es ts):PA X es (EI ts):=by
 induction h with
 | nil=>exact af
 | cons h r hs ih=>exact ae h ih (EH hs)
theorem gX{X:Cx}{es:List Expr}{ts:List TE}{pos:Pos}{x1}(h:JT X es ts):PE X (.Tuple es x1 pos) (Mx (EI ts)):=cG h.pa
@[irreducible] def JU(X:Cx)(e:Expr)(t:TE):Prop:=PE X e t
@[irreducible] def Q0(X:Cx)(e:Stmt)(t:TS):Prop:=PS X e t
theorem EJ{X:Cx}{es:List Expr}{ts:List TE}{pos:Pos}(h:JT X es ts):JU X (.List es pos) (Mz (EI ts)):=by unfold JU;exact cD h.pa
theorem Ci{X:Cx}{st:Stmt}{t:TS}(h:Q0 X st t):JG X st t:=by unfold Q0 at h;exact ay h
theorem bY{c A B:Prop}[Decidable c](h:c)(a:A):if c then A else B:=by rw[if_pos h];exact a
theorem bu{c A B:Prop}[Decidable c](h:¬c)(b:B):if c then A else B:=by rw[if_neg h];exact b
def dh(d:FR):Int:=d.is.getLastD 0
def jB(d:FR):Int:=if d.u ="table"then 2+d.ts.length else if d.u∈five then 1+dh d else if d.u∈six then 2 else 1
theorem d8{H:Hp}{q:Addr}{d:FR}(h:bZ H q d)(hu:d.u∈five):¬d.u ="table"/\H q=some (.tup (.str d.u::d.is.map V.int))/\kc (V.str d.u::d.is.map V.int) (-1)=some (.int (dh d))/\∃t,d.ts=[t]/\kc (V.str d.u::d.is.map V.int) (-2)=some (.int t):=by
 have nt:¬d.u ="table":=fun z=>absurd hu (by rw[z];decide);have hc:=(by decide+kernel:∀u∈five,u∈gk\/u∈zb) _ hu;rcases h.2 with ⟨z,_⟩ | ⟨_,e⟩
 ·exact absurd z nt
 ·refine⟨nt,e,?_⟩;unfold dh;rcases hc with z | z
  ·obtain⟨t,f,e1,e2⟩:=h.1.2.2.1 z;rw[e1];exact⟨rfl,t,e2,rfl⟩
  ·obtain⟨b,t,f,e1,e2⟩:=h.1.2.2.2.1 z;rw[e1];exact⟨rfl,t,e2,rfl⟩
theorem AI:∀x∈kinds,(decide (("far": Str)∈x.2))=decide (x.1∈five):=by decide+kernel
theorem AJ:∀u∈bj,∃ks,(u,ks)∈kinds:=fun u hu=>by have:u∈kinds.map (·.1):=(by decide+kernel:∀u∈bj,u∈kinds.map (·.1)) u hu;obtain⟨x,hx,rfl⟩:=mem_map.mp this;exact⟨x.2,hx⟩
section
variable {P:Program}{w:World}{K:Frag}{mg:Str->Option Value}{base:Heap}
def iw:Sp:=fun vs H Q _=>∃(r:Addr) (w:Str) (ts:List Int),vs=[.ref r]/\Cg H r w ts/\∀(l:Addr) (H':Hp),Same H H'->H l=none->H' l=some (.lst (ts.map V.int))->Q (.ref l) H'
theorem rB:aE ["row","word"] ["row"] (ak pj):=by walk_at "sc1"
theorem wX{f:Addr}{fd:ed}(F:cr K "targets_of" "targets_of" pj f fd)(T:Txt K w.params mg):aD P w K mg base cm 1 f fd ["row"] iw:=by
 refine F.ok rB (by walk_at "ln") (fun cdv A outer s H vs Q E hr h=>?_)
 ·obtain⟨r,w',ts,rfl,⟨Jz,hR,hP⟩,k⟩:=h
  refine⟨_,aq (aI (i:=1) rB.nd rfl (Or.inl rfl) (aF aY (pv 0) ah (fun _ _=>rfl)))
   (aq (cN (aJ cT (pv 1) aW (aQ _)) (az (aC (cw dZ (by rfl) T.list iM (ae (aF aY (pv 0) ah (fun _ _=>rfl)) af)))) aO)
   (aq (cN (aJ cy (pv 1) (cG (ae aW (ae aW (ae aW af)))) rfl) (az (aC (cD (ae (aF aY (pv 0) ah (fun _ _=>rfl)) af)))) aO)
   (aq (cN (aJ cy (pv 1) (cG (ae aW (ae aW af))) rfl) (az (aC (cD (ae (aF aY (pv 0) ah (fun _ _=>rfl)) af)))) aO)
   (az (aC (cD af)))))),?_⟩
  refine⟨_,rfl,r,_,0,.str w',rfl,rfl,bz.of hR,at0 _ _,_,rfl,rfl,_,rfl,?_⟩;refine dk (fun h1=>?_) (fun h1=>?_)
  ·have h1:=strEq h1;unfold Parts at hP;rw[if_pos h1]at hP;obtain⟨b,q,rfl,hq⟩:=hP;refine⟨_,rfl,r,_,2,.ref q,rfl,rfl,bz.of hR,at2 _ _ _ _,q,_,rfl,.inr (bz.of hq),fun l hl=>?_⟩;exact k l _ (aj hl) hl ai
  ·have h1:=rA h1;unfold Parts at hP;rw[if_neg h1]at hP;refine⟨_,rfl,kX,fun t ht=>⟨t,gk.map V.str,rfl,.inr (bz.of ai),rfl,rfl,_,rfl,?_⟩⟩;have s1:=aj (o:=.tup (gk.map V.str)) ht;have hR1:=s1 _ _ hR;rw[show inV (.str w') (gk.map V.str)=decide (w'∈gk)from dS _ _];refine dk (fun h2=>?_) (fun h2=>?_)
   ·have h2:=of_decide_eq_true h2;rw[if_pos h2]at hP;obtain⟨t',f',rfl,rfl⟩:=hP;refine⟨_,rfl,r,_,1,.int t',rfl,rfl,bz.of hR1,at1 _ _ _,i0,fun l hl=>?_⟩;exact k l _ (s1.trans (aj hl)) (s1.free hl) ai
   ·have h2:¬w'∈gk:=fun e=>h2 (decide_eq_true e);rw[if_neg h2]at hP;refine⟨_,rfl,bq,fun t2 MQ=>⟨t2,zb.map V.str,rfl,.inr (bz.of ai),rfl,rfl,_,rfl,?_⟩⟩;have s2:=s1.trans (aj (o:=.tup (zb.map V.str)) MQ);have SG:=s2 _ _ hR;rw[show inV (.str w') (zb.map V.str)=decide (w'∈zb)from dS _ _];refine dk (fun h3=>?_) (fun h3=>?_)
    ·have h3:=of_decide_eq_true h3;rw[if_pos h3]at hP;obtain⟨b,t',f',rfl,rfl⟩:=hP;refine⟨_,rfl,r,_,2,.int t',rfl,rfl,bz.of SG,at2 _ _ _ _,i0,fun l hl=>?_⟩;exact k l _ (s2.trans (aj hl)) (s2.free hl) ai
    ·have h3:¬w'∈zb:=fun e=>h3 (decide_eq_true e);rw[if_neg h3]at hP;subst hP;refine⟨B4,fun l hl=>?_⟩;exact k l _ (s2.trans (aj hl)) (s2.free hl) ai
def ji:Sp:=fun vs H Q _=>∃u:Str,vs=[.str u]/\u∈bj/\Q (.bl (decide (u∈five))) H
theorem Ni:aE ["word"] ["word"] (ak sQ):=by walk_at "sc1"
theorem JV{f:Addr}{fd:ed}(F:cr K "has_far" "has_far" sQ f fd)(T:Txt K w.params mg):aD P w K mg base cm 1 f fd ["word"] ji:=by
 refine F.ok Ni (by walk_at "ln") (fun cdv A outer s H vs Q E hr h=>?_)
 ·obtain⟨u,rfl,hu,k⟩:=h;obtain⟨ks,hks⟩:=AJ u hu;obtain⟨p,hp,hk⟩:=T.LJ;obtain⟨q,hq,hS⟩:=hk _ hks;refine⟨_,(az (aC (cO cy aW (gS (bp (v:=.ref p) (by rfl) hp rfl) (pv 0) (fun _ _=>rfl)) rfl))),?_⟩;refine⟨_,rfl,p,u,_,rfl,rfl,hq,q,ks.map V.str,rfl,.inr (hS _),rfl,(by rw[all_map];exact all_eq_true.mpr fun _ _=>rfl),?_⟩;show Q (.bl (inV (.str "far") (ks.map V.str))) H;rw[dS,AI _ hks];exact k
def wY:Sp:=fun vs H Q _=>∃(q:Addr) (d:FR),vs=[.ref q]/\bZ H q d/\Q (.int (jB d)) H
theorem Cj:aE ["row","word"] ["row"] (ak B7):=by walk_at "sc1"
theorem EK{f fH:Addr}{fd jj:ed}(F:cr K "size_of" "size_of" B7 f fd)(T:Txt K w.params mg)(GH:aD P w K mg base cm 1 fH jj ["word"] ji)(kH:KI K fH)(bH:Binds K jj ["word"] [])(mH:mg "has_far"=some (.ref fH)):aD P w K mg base cm 2 f fd ["row"] wY:=by
 refine F.ok Cj (by walk_at "ln") (fun cdv A outer s H vs Q E hr h=>?_)
 ·obtain⟨q,d,rfl,hR,k⟩:=h;obtain⟨p,hp,hq⟩:=T.two;obtain⟨Jz,i1,_,i3,_⟩:=hR.parts;unfold jB at k
  refine⟨_,(aq (aI (i:=1) Cj.nd rfl (Or.inl rfl) (aF aY (pv 0) ah (fun _ _=>rfl)))
   (aq (cN (aJ cT (pv 1) aW (aQ _)) (az (aC (aA bg ah (aN aM (by rfl) T.len cE (ae (aF aY (pv 0) ah (fun _ _=>rfl)) af))))) aO)
   (aq (cN (bQ (ao GH hr (by rfl) mH kH bH .nil aS (ae (pv 1) af))) (az (aC (aA bg ah (aF aY (pv 0) (eY dG ah) (fun _ _=>rfl))))) aO)
   (az (aC (cQ (aJ cy (pv 1) (bp (v:=.ref p) (by rfl) hp rfl) rfl) ah ah)))))),?_⟩
  refine⟨_,rfl,q,_,0,.str d.u,rfl,rfl,bz.of i1,at0 _ _,_,rfl,rfl,_,rfl,?_⟩;refine dk (fun e=>?_) (fun e=>?_)
  ·have e:=strEq e;rw[if_pos e]at k;unfold Parts at i3;rw[if_pos e]at i3;obtain⟨b,p3,rfl,h3⟩:=i3;refine⟨_,rfl,q,_,2,_,rfl,rfl,bz.of i1,at2 _ _ _ _,p3,_,rfl,.inr (bz.of h3),_,_,rfl,rfl,?_⟩;rw[length_map];exact k
  ·have e:=rA e;rw[if_neg e]at k;refine⟨_,rfl,d.u,rfl,hR.1.1,_,rfl,?_⟩;refine dk (fun e2=>?_) (fun e2=>?_)
   ·have e2:=of_decide_eq_true e2;rw[if_pos e2]at k;obtain⟨_,g1,g2,_⟩:=d8 hR e2;exact⟨_,rfl,_,rfl,q,_,_,_,rfl,rfl,bz.of g1,g2,_,_,rfl,rfl,k⟩
   ·have e2:¬d.u∈five:=fun z=>e2 (decide_eq_true z);rw[if_neg e2]at k;refine⟨_,rfl,p,six.map V.str,rfl,.inr (hq _),rfl,rfl,_,rfl,?_⟩;rw[show inV (.str d.u) (six.map V.str)=decide (d.u∈six)from dS _ _];refine dk (fun e3=>?_) (fun e3=>?_)
    ·rw[if_pos (of_decide_eq_true e3)]at k;exact k
    ·rw[if_neg (fun z=>e3 (decide_eq_true z))]at k;exact k
def aX(d:FR):Bool:=decide (d.u∈five)&&decide (dh d=0)
def Ck:Sp:=fun vs H Q _=>∃(q:Addr) (d:FR),vs=[.ref q]/\bZ H q d/\Q (.bl (aX d)) H
theorem Nj:aE ["row"] ["row"] (ak sT):=by walk_at "sc1"
theorem JW{f fH:Addr}{fd jj:ed}(F:cr K "is_short_jump" "is_short_jump" sT f fd)(T:Txt K w.params mg)(GH:aD P w K mg base cm 1 fH jj ["word"] ji)(kH:KI K fH)(bH:Binds K jj ["word"] [])(mH:mg "has_far"=some (.ref fH)):aD P w K mg base cm 2 f fd ["row"] Ck:=by
 refine F.ok Nj (by walk_at "ln") (fun cdv A outer s H vs Q E hr h=>?_)
 ·obtain⟨q,d,rfl,hR,k⟩:=h;obtain⟨Jz,i1,_,i3,_⟩:=hR.parts;unfold aX at k;refine⟨_,(az (aC (ib (ao GH hr (by rfl) mH kH bH .nil aS (ae (aF aY (pv 0) ah (fun _ _=>rfl)) af)) (ft (cO cT (aF aY (pv 0) (eY dG ah) (fun _ _=>rfl)) ah (aQ _)))))),?_⟩;refine⟨_,rfl,q,_,0,.str d.u,rfl,rfl,bz.of i1,at0 _ _,d.u,rfl,hR.1.1,_,rfl,?_⟩;refine dk (fun e=>?_) (fun e=>?_)
  ·have e:=of_decide_eq_true e;obtain⟨_,g1,g2,_⟩:=d8 hR e;refine⟨_,rfl,_,rfl,q,_,_,_,rfl,rfl,bz.of g1,g2,rfl,?_⟩;rw[decide_eq_true e,Bool.true_and]at k;have:decide (V.int (dh d)=V.int 0)=decide (dh d=0):=decide_eq_decide.mpr ⟨V.int.inj,fun z=>by rw[z]⟩;rw[this];exact k
  ·have e:decide (d.u∈five)=false:=Bool.eq_false_iff.mpr e;rw[e,Bool.false_and]at k;exact k
def bf(x:Int):Bool:=decide (-64<=x/\x<=63)
def tF:Sp:=fun vs H Q _=>∃x:Int,vs=[.int x]/\Q (.bl (bf x)) H
theorem EL:aE ["distance"] ["distance"] (ak wO):=by walk_at "sc1"
theorem Cm{f:Addr}{fd:ed}(F:cr K "is_borne" "is_borne" wO f fd)(T:Txt K w.params mg):aD P w K mg base cm 1 f fd ["distance"] tF:=by
 refine F.ok EL (by walk_at "ln") (fun cdv A outer s H vs Q E hr h=>?_)
 ·obtain⟨x,rfl,k⟩:=h;obtain⟨t1,h1⟩:=T.ls;obtain⟨t2,h2⟩:=T.gs;refine⟨_,(az (aC (oE ja ja (bp (v:=.int (-64)) (by rfl) h1 ⟨_,rfl⟩) (pv 0) (bp (v:=.int 63) (by rfl) h2 ⟨_,rfl⟩)))),?_⟩;refine⟨_,rfl,?_⟩;unfold bf at k;refine⟨_,_,rfl,rfl,_,rfl,?_⟩;refine dk (fun e=>⟨_,_,rfl,rfl,?_⟩) (fun e=>?_)
  ·have:decide (-64<=x/\x<=63)=decide (x<=63):=decide_eq_decide.mpr ⟨fun z=>z.2,fun z=>⟨of_decide_eq_true e,z⟩⟩;rw[this]at k;exact k
  ·rw[decide_eq_false (fun z=>e (decide_eq_true z.1))]at k;exact k
def beg(ds:List FR)(j:Nat):Int:=((ds.take j).map jB).sum
def eB(ds:List FR)(n:Nat):List Int:=(List.range (n+1)).map (beg ds)
theorem dB{ds:List FR}{j:Nat}{d:FR}(h:ds[j]? =some d):beg ds (j+1)=beg ds j+jB d:=by unfold beg;rw[take_add_one,h,map_append,List.sum_append];simp
theorem AK(ds:List FR)(n:Nat):eB ds (n+1)=eB ds n++ [beg ds (n+1)]:=by unfold eB;rw[range_succ,map_append];rfl
theorem k8(ds:List FR)(n:Nat):(eB ds n).length=n+1:=by unfold eB;rw[length_map,length_range]
theorem oa{ds:List FR}{n j:Nat}(h:j<=n):(eB ds n)[j]? =some (beg ds j):=by unfold eB;rw[ac,List.getElem?_range (by omega)];rfl
theorem Cp{α:Type}{xs:List α}{y:α}(h:xs[xs.length-1]? =some y):kc xs (-1)=some y:=by
 have h1:=(ad.mp h).1;have h0:xs.length≠0:=fun z=>by rw[z]at h1;exact absurd h1 (not_lt_zero _)
 unfold kc DZ;rw[if_neg (by decide),if_pos (by omega),show((-1:Int)+(xs.length:Int)).toNat=xs.length-1 by omega];exact h
def k9:Sp:=fun vs H Q _=>∃(lr:Addr) (ds:List FR),vs=[.ref lr]/\dz H lr ds/\ds.length<=100000/\∀(l:Addr) (H':Hp),Same H H'->H l=none->H' l=some (.lst ((eB ds ds.length).map V.int))->Q (.ref l) H'
theorem Cq:aE ["rows","begins","row"] ["rows"] (ak sR):=by walk_at "sc1"
theorem AO{f fS:Addr}{fd mZ:ed}(F:cr K "begins_of" "begins_of" sR f fd)(T:Txt K w.params mg)(GS:aD P w K mg base cm 2 fS mZ ["row"] wY)(kS:KI K fS)(bS:Binds K mZ ["row"] [])(mS:mg "size_of"=some (.ref fS)):aD P w K mg base cm 3 f fd ["rows"] k9:=by
 refine F.ok Cq (by walk_at "ln") (fun cdv A outer s H vs Q E hr h=>?_)
 ·obtain⟨lr,ds,rfl,hR,hn,k⟩:=h;obtain⟨qs,r1,r2,r3⟩:=hR
  refine⟨_,(aq (aI (i:=1) Cq.nd rfl (Or.inl rfl) (cD (ae ah af)))
   (aq (eE PassesOwn.never rfl (eP (pv 0)) (cq (i:=2) Cq.nd rfl (Or.inl rfl)) (az (cC (dg fv fw gf bV (pv 1) (ae (aA bg (aF aK (pv 1) (eY dG ah) (fun _ _=>rfl)) (ao GS hr (by rfl) mS kS bS .nil aS (ae (pv 2) af))) af)))))
   (az (aC (pv 1))))),?_⟩
  refine⟨by decide,fun l nl=>?_⟩;refine⟨_,rfl,lr,rfl,⟨_,aV.of (aj nl _ _ r1)⟩,oA (K:=K) (a:=lr) (xs:=qs.map V.ref) (fun i σ G=>i<=ds.length/\∃v:Option V,σ=[some (.ref lr),some (.ref l),v]/\Same H G/\G l=some (.lst ((eB ds i).map V.int))) ?_ ?_ ?_ ?_⟩
  ·exact⟨zero_le _,none,rfl,aj nl,ai⟩
  ·rintro i σ G _ ⟨_,v,rfl,s1,_⟩;exact aV.of (s1 _ _ r1)
  ·rintro i x σ G hx ⟨hi,v,rfl,s1,hl⟩;rw[ac]at hx;obtain⟨q,hq,rfl⟩:=map_eq_some_iff.mp hx;have hil:i<ds.length:=by have:=(ad.mp hq).1;omega
   have hd:ds[i]? =some ds[i]:=aa hil;generalize ds[i]=d at hd;refine⟨_,rfl,.inl ⟨rfl,_,aV.of hl⟩,_,rfl,_,rfl,l,_,-1,.int (beg ds i),rfl,rfl,aV.of hl,Cp (by rw[length_map,k8,ac];show Option.map _ ((eB ds i)[i]?)=_;rw[oa (le_refl _)];rfl),_,rfl,q,d,rfl,(r3 i q d hq hd).same s1,_,_,rfl,rfl,l,_,_,rfl,rfl,hl,aT (by rw[length_map,k8];omega),?_⟩;refine⟨hil,_,rfl,aL s1 nl,?_⟩;rw[ai,AK,dB hd,map_append];rfl
  ·rintro σ G ⟨_,v,rfl,s1,hl⟩;rw[length_map,r2]at hl;exact⟨_,rfl,k l _ s1 nl hl⟩
def bE(ds:List FR)(r:Nat)(t:Int):Int:=beg ds t.toNat-beg ds (r+1)
def tG:Sp:=fun vs H Q _=>∃(lr lb:Addr) (ds:List FR) (r:Nat) (d:FR),vs=[.ref lr,.ref lb,.int (r:Int)]/\dz H lr ds/\H lb=some (.lst ((eB ds ds.length).map V.int))/\ds[r]? =some d/\(∀t∈d.ts,0<=t/\t<ds.length)/\d.ts.length<=16/\∀(l:Addr) (H':Hp),Same H H'->H l=none->H' l=some (.lst ((d.ts.map (bE ds r)).map V.int))->Q (.ref l) H'
theorem Nk:aE ["rows","begins","r"] ["rows","begins","r"] (ak sS):=by walk_at "sc1"
def ER:Scope:={kind:=.function,names:=[(".0",.local),("target",.local),("begins",.free),("r",.free)],isGenerator:=false,isCoroutine:=false,more:=[]}
theorem yK:cS (ak sS) ER ["rows","begins","r"] ["target","begins","r"] [none,some 1,some 2]:=by walk_at "sc2"
theorem Cr{f fT:Addr}{fd vo:ed}(F:cr K "distances_of" "distances_of" sS f fd)(T:Txt K w.params mg)(GT:aD P w K mg base cm 1 fT vo ["row"] iw)(kT:KI K fT)(bT:Binds K vo ["row"] [])(mT:mg "targets_of"=some (.ref fT)):aD P w K mg base cm 2 f fd ["rows","begins","r"] tG:=by
 refine F.ok Nk (by walk_at "ln") (fun cdv A outer s H vs Q E hr h=>?_)
 ·obtain⟨lr,lb,ds,r,d,rfl,hR,hb,hd,ht,AQ,k⟩:=h;obtain⟨qs,q,g1,g2,g2',g3⟩:=hR.get hd;obtain⟨Jz,i1,_,i3,_⟩:=g3.parts;have hrl:=(ad.mp hd).1;refine⟨_,(az (aC (dQ (N':=["target","begins","r"]) (fr:=[none,some 1,some 2]) yK rfl (eP (ao GT hr (by rfl) mT kT bT .nil aS (ae (aF aK (pv 0) (pv 2) (fun _ _=>rfl)) af))) (fun C s0 H0 fp=>(cq (i:=0) yK.nd rfl (Or.inl rfl))) (fun C s0 H0 fp=>dr) (fun C s0 H0 fp=>(aA dY (aF (r:=uU K) aK (pv 1) (pv 0) (fun _ _=>rfl)) (aF (r:=uU K) aK (pv 1) (aA bg (pv 2) ah) (fun _ _=>rfl))))))),?_⟩;refine⟨_,rfl,_,rfl,lr,_,_,_,rfl,rfl,aV.of g1,g2,q,d.u,d.ts,rfl,⟨Jz,i1,i3⟩,fun l H1 s1 nl hl=>?_⟩;refine⟨l,rfl,⟨_,aV.of hl⟩,fun D nD=>eG (K:=K) (a:=l) (xs:=d.ts.map V.int) (fun j σ ys G=>∃v:Option V,σ=[v,some (.ref lb),some (.int (r:Int))]/\ys=((d.ts.take j).map (bE ds r)).map V.int/\Same H1 G/\G D=some (.lst ys)) ?_ ?_ ?_ ?_⟩
  ·exact⟨none,rfl,rfl,aj nD,ai⟩
  ·rintro j σ ys G _ ⟨v,rfl,rfl,s2,_⟩;exact aV.of (s2 _ _ hl)
  ·rintro j x σ ys G hx ⟨v,rfl,rfl,s2,hD⟩;rw[ac]at hx;obtain⟨t,htj,rfl⟩:=map_eq_some_iff.mp hx;have hjl:=(ad.mp htj).1;obtain⟨t0,t1⟩:=ht t (ag htj);obtain⟨tn,rfl⟩:=Int.eq_ofNat_of_zero_le t0;have hb2:=s2 _ _ (s1 _ _ hb);have rd:∀n:Nat,n<=ds.length->kc ((eB ds ds.length).map V.int) (n:Int)=some (.int (beg ds n)):=fun n hn=>ck (by rw[ac,oa hn];rfl);refine⟨_,rfl,_,rfl,lb,_,_,_,rfl,rfl,aV.of hb2,rd tn (by omega),_,rfl,_,rfl,_,_,rfl,rfl,lb,_,_,_,rfl,rfl,aV.of hb2,rd (r+1) (by omega),_,_,rfl,rfl,hD,aT (by rw[length_map,length_map,length_take];omega),_,rfl,?_,aL s2 nD,ai⟩;rw[take_add_one,htj,map_append,map_append];rfl
  ·rintro σ ys G ⟨v,rfl,rfl,s2,hD⟩;rw[length_map,take_length]at hD;exact k D _ (s1.trans s2) (s1.free nD) hD
theorem gA{X:Cx}{K:Frag}(hK:X.K=K){i j:Nat}{x y:Str}{px py pt:Pos}{k:Nat}(hc:X.calm=true)(hN:X.N.Nodup)(hi:X.N[i]? =some x)(hx:Loc X.env.scope x)(hj:X.N[j]? =some y)(hy:Loc X.env.scope y)
  (hf:X.fn x=true\/X.env.scope.names.lookup x=some .local:=by first | exact .inl rfl | exact .inr rfl) (hf2:X.fn y=true\/X.env.scope.names.lookup y=some .local:=by first | exact .inl rfl | exact .inr rfl):
  PG X (.Tuple [.Name x px,.Name y py] k pt) (Mh K 2 (Bq (uM i) (Bq (uM j) Mg))):=hK▸Br (n:=2) hc (kj (cq hN hi hx hf) (kj (cq hN hj hy hf2) yi))
def dst(ds:List FR)(r:Nat)(d:FR):Int:=bE ds r (d.ts.headD 0)
def pI(ds:List FR)(r:Nat):Option (Nat×Int):=match ds[r]? with
 | some d=>if aX d=true then some (r,dst ds r d)else none
 | none=>none
def lY(ds:List FR)(n:Nat):List (Nat×Int):=(List.range n).filterMap (pI ds)
def gm(kv:List (Nat×Int)):List (Key×V):=kv.map fun x=>((Sum.inl (x.1:Int):Key),V.int x.2)
theorem lg(ds:List FR)(n:Nat):lY ds (n+1)=lY ds n++(pI ds n).toList:=by unfold lY;rw[range_succ,filterMap_append];congr 1
theorem wZ{ds:List FR}{n:Nat}{x:Nat×Int}(h:x∈lY ds n):x.1<n:=by
 unfold lY at h;obtain⟨r,h1,h2⟩:=mem_filterMap.mp h;unfold pI at h2;split at h2
 ·split at h2
  ·cases h2;exact mem_range.mp h1
  ·cases h2
 ·cases h2
theorem yL(ds:List FR)(n:Nat):(lY ds n).length<=n:=by unfold lY;exact le_trans (List.length_filterMap_le _ _) (by rw[length_range];exact le_refl _)
theorem Cu{kv:List (Nat×Int)}{r:Nat}{x:Int}(h:∀y∈kv,y.1≠r):putK (gm kv) (Sum.inl (r:Int)) (.int x)=gm (kv++ [(r,x)]):=by
 unfold putK;rw[if_neg]
 ·unfold gm;rw[map_append];rfl
 ·intro z;obtain⟨y,hy,e⟩:=List.any_eq_true.mp z;unfold gm at hy;obtain⟨y0,hy0,rfl⟩:=mem_map.mp hy;have:=of_decide_eq_true e;have:=Sum.inl.inj this;exact h y0 hy0 (by omega)
theorem vp{kv:List (Nat×Int)}(hn:(kv.map (·.1)).Nodup){r:Nat}{x:Int}(h:(r,x)∈kv):eA (gm kv) (Sum.inl (r:Int))=some (.int x):=by
 unfold eA gm;rw[List.find?_map];have:kv.find? ((fun kv:Key×V=>decide (kv.1=Sum.inl (r:Int)))∘fun x=>((Sum.inl (x.1:Int):Key),V.int x.2))=some (r,x):=by
  induction kv with
  | nil=>cases h
  | cons a t ih=>
   rw[List.find?_cons];rw[map_cons,nodup_cons]at hn;by_cases e:a.1=r
   ·have:a=(r,x):=by
     rcases mem_cons.mp h with z | z
     ·exact z.symm
     ·exact absurd (mem_map.mpr ⟨(r,x),z,rfl⟩) (by rw[<-e];exact hn.1)
    subst this;simp
   ·have hne:((fun kv:Key×V=>decide (kv.1=Sum.inl (r:Int)))∘fun x=>((Sum.inl (x.1:Int):Key),V.int x.2)) a=false:=by refine decide_eq_false fun z=>e ?_;have:=Sum.inl.inj z;omega
    rw[hne];exact ih hn.2 ((mem_cons.mp h).resolve_left fun z=>e (by rw[<-z]))
 rw[this];rfl
theorem jC(ds:List FR):∀n,((lY ds n).map (·.1)).Nodup
 | 0=>List.nodup_nil
 | n+1=>by
  rw[lg,map_append,nodup_append];refine⟨jC ds n,?_,fun a ha b hb e=>?_⟩
  ·cases pI ds n<;>simp
  ·obtain⟨x,hx,rfl⟩:=mem_map.mp ha;obtain⟨y,hy,rfl⟩:=mem_map.mp hb;have h1:=wZ hx;have h2:y∈lY ds (n+1):=by rw[lg];exact List.mem_append_right _ hy
   have h3:y.1=n:=by
    rw[Option.mem_toList]at hy;unfold pI at hy;split at hy
    ·split at hy
     ·cases hy;rfl
     ·cases hy
    ·cases hy
   omega
def LK(ds:List FR):Prop:=∀d∈ds,d.ts.length<=16/\∀t∈d.ts,0<=t/\t<ds.length
def pJ:Sp:=fun vs H Q _=>∃(lr:Addr) (ds:List FR),vs=[.ref lr]/\dz H lr ds/\LK ds/\ds.length<=100000/\∀(p:Addr) (H':Hp),Same H H'->H p=none->H' p=some (.dK (gm (lY ds ds.length)))->Q (.ref p) H'
theorem yM:aE ["rows","begins","distances","r","row"] ["rows"] (ak sU):=by walk_at "sc1"
theorem AR{f fB fJ fD:Addr}{fd yN Cv yO:ed}(F:cr K "short_distances" "short_distances" sU f fd)(T:Txt K w.params mg)(GB:aD P w K mg base cm 3 fB yN ["rows"] k9)(kB:KI K fB)(bB:Binds K yN ["rows"] [])(mB:mg "begins_of"=some (.ref fB))(GJ:aD P w K mg base cm 2 fJ Cv ["row"] Ck)(kJ:KI K fJ)(bJ:Binds K Cv ["row"] [])(mJ:mg "is_short_jump"=some (.ref fJ))(GD:aD P w K mg base cm 2 fD yO ["rows","begins","r"] tG)(kD:KI K fD)(bD:Binds K yO ["rows","begins","r"] [])(mD:mg "distances_of"=some (.ref fD)):aD P w K mg base cm 4 f fd ["rows"] pJ:=by
 refine F.ok yM (by walk_at "ln") (fun cdv A outer s H vs Q E hr h=>?_)
 ·obtain⟨lr,ds,rfl,hR,hT,hn,k⟩:=h;have JX:=hr.mono (show 3<=_ by decide);have Q5:=hr.mono (show 2<=_ by decide);have hu:=hr.u 1
  refine⟨_,(aq (aI (i:=1) yM.nd rfl (Or.inl rfl) (ao GB JX (by rfl) mB kB bB .nil aS (ae (pv 0) af)))
   (aq (aI (i:=2) yM.nd rfl (Or.inl rfl) oR)
   (aq (eE PassesOwn.never rfl (fX rfl T.enum (ae (pv 0) af)) (gA (K:=K) (i:=3) (j:=4) rfl rfl yM.nd rfl (Or.inl rfl) rfl (Or.inl rfl)) (az (cN (bQ (ao GJ Q5 (by rfl) mJ kJ bJ .nil aS (ae (pv 4) af))) (az (kr hu (pv 2) (pv 3) (aF aK (ao GD Q5 (by rfl) mD kD bD .nil aS (ae (pv 0) (ae (pv 1) (ae (pv 3) af)))) ah (fun _ _=>rfl)) rfl)) aO)))
   (az (aC (pv 2)))))),?_⟩
  refine⟨_,rfl,lr,ds,rfl,hR,hn,fun lb H1 s1 XM hb=>?_⟩;refine fun p np=>?_;have s2:=s1.trans (aj (o:=.dK []) np);have hb2:=aj (o:=.dK []) np _ _ hb;have hp2:upd H1 p (.dK []) p=some (.dK (gm (lY ds 0))):=ai;have hp0:H p=none:=s1.free np;have nbp:lb≠p:=fun z=>by rw[z,np]at hb;cases hb
  generalize upd H1 p (.dK [])=H2 at s2 hb2 hp2 ⊢;obtain⟨qs,r1,r2,r3⟩:=id hR;refine⟨_,rfl,lr,rfl,⟨_,aV.of (s2 _ _ r1)⟩,eZ (xs:=qs.map V.ref) (fun i σ G=>i<=ds.length/\∃v3 v4:Option V,σ=[some (.ref lr),some (.ref lb),some (.ref p),v3,v4]/\Same H G/\G lb=some (.lst ((eB ds ds.length).map V.int))/\G p=some (.dK (gm (lY ds i)))) ?_ ?_ ?_ ?_⟩
  ·exact⟨zero_le _,none,none,rfl,s2,hb2,hp2⟩
  ·rintro i σ G _ ⟨_,v3,v4,rfl,s3,_⟩;exact aV.of (s3 _ _ r1)
  ·rintro i x σ G tt hx og ⟨_,v3,v4,rfl,s3,hb3,hp3⟩;rw[ac]at hx;obtain⟨q,hq,rfl⟩:=map_eq_some_iff.mp hx;have hil:i<ds.length:=by have:=(ad.mp hq).1;omega
   have hd:ds[i]? =some ds[i]:=aa hil;generalize ds[i]=d at hd;have s4:=s3.trans (aj (o:=.tup [V.int i,V.ref q]) og);have hb4:=aj (o:=.tup [V.int i,V.ref q]) og _ _ hb3;have LL:=aj (o:=.tup [V.int i,V.ref q]) og _ _ hp3;have htt:upd G tt (.tup [V.int i,V.ref q]) tt=_:=ai;generalize upd G tt (.tup [V.int i,V.ref q])=G1 at s4 hb4 LL htt ⊢;refine⟨tt,_,rfl,bz.of htt,rfl,_,_,rfl,_,_,rfl,rfl,?_⟩;refine⟨_,rfl,q,d,rfl,(r3 i q d hq hd).same s4,_,rfl,?_⟩;refine dk (fun e=>?_) (fun e=>?_)
   ·have D3:d.u∈five:=by unfold aX at e;rw[Bool.and_eq_true]at e;exact of_decide_eq_true e.1
    obtain⟨_,_,_,t,i6,_⟩:=d8 (r3 i q d hq hd) D3;obtain⟨AQ,LM⟩:=hT d (ag hd);refine⟨_,rfl,_,rfl,_,rfl,lr,lb,ds,i,d,rfl,hR.same s4,hb4,hd,LM,AQ,fun l G2 s5 nl hl=>?_⟩;refine⟨l,_,0,.int (dst ds i d),rfl,rfl,aV.of hl,by unfold dst;rw[i6];rfl,_,rfl,_,rfl,p,_,rfl,.inl ⟨_,Sum.inl (i:Int),s5 _ _ LL,rfl,?_,rfl⟩,?_⟩
    ·unfold gm;rw[length_map];exact aT (le_trans (yL ds i) (by omega))
    ·refine⟨hil,_,_,rfl,aL (s4.trans s5) hp0,by rw[aG nbp];exact s5 _ _ hb4,?_⟩;rw[ai,Cu (fun y hy z=>absurd (wZ hy) (by omega)),lg];unfold pI;rw[hd];simp only[e,if_true];rfl
   ·refine⟨hil,_,_,rfl,s4,hb4,?_⟩;rw[LL,lg];unfold pI;rw[hd];show some (HO.dK (gm (lY ds i)))=some (HO.dK (gm (lY ds i++(if aX d=true then some (i,dst ds i d)else none).toList)));rw[if_neg e,Option.toList_none,append_nil]
  ·rintro σ G ⟨_,v3,v4,rfl,s3,_,hp3⟩;rw[length_map,r2]at hp3;exact⟨_,rfl,k p _ s3 hp0 hp3⟩
def jk(ds:List FR):Option Nat:=((lY ds ds.length).find? fun x=>!bf x.2).map (·.1)
def pK(vq:Addr):Sp:=fun vs H Q E=>∃(lr:Addr) (ds:List FR),vs=[.ref lr]/\dz H lr ds/\LK ds/\ds.length<=100000/\
 (jk ds=none->∀H',Same H H'->Q .non H')/\∀r,jk ds=some r->∀H' d,Same H H'->H' d=some (.xd [("at",.int (r:Int))])->E (.ref vq) (some d) H'
theorem Cw:aE ["rows","distances","r"] ["rows"] (ak sV):=by walk_at "sc1"
theorem Cy{f fS fB vq R fI:Addr}{fd mZ yN rC:ed}(F:cr K "check_layout" "check_layout" sV f fd)(T:Txt K w.params mg)(GS:aD P w K mg base cm 4 fS mZ ["rows"] pJ)(kS:KI K fS)(bS:Binds K mZ ["rows"] [])(mS:mg "short_distances"=some (.ref fS))(GB:aD P w K mg base cm 1 fB yN ["distance"] tF)(kB:KI K fB)(bB:Binds K yN ["distance"] [])(mB:mg "is_borne"=some (.ref fB))
  (cx:gu K vq R fI) (kC:KI K vq) (GI:aD P w K mg base cm 1 fI rC ["self","at"] (o7 vq)) (bI:Binds K rC ["self","at"] []) (SH:mg "NoLayout"=some (.ref vq)):aD P w K mg base (eU P w) 5 f fd ["rows"] (pK vq):=by
 refine F.D2 Cw (by walk_at "ln") (fun cdv A outer s H vs Q E hr h=>?_)
 ·obtain⟨lr,ds,rfl,hR,hT,hn,k,hE⟩:=h;have hr2:=hr.mono (show 2<=4 by decide);have JX:=hr.mono (show 1<=4 by decide);have hu:=hr.u 1
  refine⟨_,(aq (aI (i:=1) Cw.nd rfl (Or.inl rfl) (ao GS hr (by rfl) mS kS bS .nil aS (ae (pv 0) af)))
   (az (eE PassesOwn.leaving rfl (yA (pv 1)) (cq (i:=2) Cw.nd rfl (Or.inl rfl)) (az (cN (dD (bQ (ao GB JX (by rfl) mB kB bB .nil aS (ae (nV hu (pv 1) (pv 2) (fun _ _=>rfl)) af)))) (az (dX cx kC GI bI hr2 SH (by rfl) (ae (pv 2) af))) aO))))),?_⟩
  refine⟨_,rfl,lr,ds,rfl,hR,hT,hn,fun p H1 s1 np hp=>?_⟩;refine⟨_,rfl,p,_,rfl,hp,fun o nf=>?_⟩;refine BG (a:=p) (o:=o) (kvs:=gm (lY ds ds.length)) (fun i σ G=>(∃v:Option V,σ=[some (.ref lr),some (.ref p),v])/\Same H G/\G p=some (.jI o (.dK (gm (lY ds ds.length))))/\∀(j:Nat) x,j<i->(lY ds ds.length)[j]? =some x->bf x.2=true) ?_ ?_ ?_ ?_
  ·exact⟨⟨none,rfl⟩,aL s1 np,ai,fun j x hj=>absurd hj (not_lt_zero _)⟩
  ·rintro i σ G _ ⟨_,_,h,_⟩;exact h
  ·rintro i ky y σ G hx ⟨⟨v,rfl⟩,s2,hp2,hb⟩;unfold gm at hx;rw[ac]at hx;obtain⟨⟨r,x⟩,hx0,e⟩:=map_eq_some_iff.mp hx;cases e;have hrx:r<ds.length:=wZ (ag hx0);have rd:=vp (jC ds ds.length) (ag hx0);refine⟨_,rfl,_,rfl,p,.int x,rfl,.inl ⟨_,Sum.inl (r:Int),.inr ⟨_,hp2⟩,rfl,rd.symm⟩,x,rfl,_,rfl,?_⟩;refine dk (fun e=>?_) (fun e=>?_)
   ·refine⟨_,rfl,_,rfl,by omega,fun dd nd=>hE r ?_ _ dd (s2.trans (aj nd)) ai⟩;unfold jk;have:(lY ds ds.length).find? (fun x=>!bf x.2)=some (r,x):=by rw[List.find?_eq_some_iff_getElem];obtain⟨hi,ei⟩:=ad.mp hx0;refine⟨e,i,hi,ei,fun j hj=>?_⟩;have:=hb j _ hj (aa (by omega));rw[this];rfl
    rw[this];rfl
   ·refine⟨⟨_,rfl⟩,s2,hp2,fun j y hj hy=>?_⟩;rcases Nat.lt_or_eq_of_le (Nat.le_of_lt_succ hj)with z | z
    ·exact hb j y z hy
    ·rw[z,hx0]at hy;cases hy;simpa using e
  ·rintro σ G ⟨⟨v,rfl⟩,s2,hp2,hb⟩;refine k ?_ _ s2;unfold jk;rw[map_eq_none_iff,find?_eq_none];intro x hx;obtain⟨j,hj,e⟩:=List.getElem_of_mem hx;have:=hb j x (by unfold gm;rw[length_map];exact hj) (by rw[aa hj,e]);rw[this];decide
theorem fc{X:Cx}:jP X (binaryOp .FloorDiv) (rI (fun _ j=>0<j/\j<18446744073709551616) fun i j=>.int (i/j)):=QP fun i j _ _ _ _ _ hc q=>by have h1:(0:Int)<j:=hc.1;have h2:j<18446744073709551616:=hc.2;refine PyProof.Rows.floordiv_int (by omega) (by rw[Int.fdiv_eq_ediv_of_nonneg i (by omega)];exact q) (.inl (PyProof.noPylong_of_log2 ?_));have h3:j.natAbs.log2<64:=(Nat.log2_lt (by omega)).mpr (by omega);omega
theorem vt(xs:List V)(n:Nat):dJ xs none (some (n:Int))=xs.take n:=by
 unfold dJ;have h1:HT.du xs.length 0 none=0:=rfl;have h2:HT.du xs.length xs.length (some (n:Int))=min n xs.length:=HT.eR ..;rw[h1,h2,drop_zero,Nat.sub_zero];rcases le_total n xs.length with h | h
 ·rw[min_eq_left h]
 ·rw[Nat.min_eq_right h,take_length,take_of_length_le h]
def Cz:Sp:=fun vs H Q _=>∃(a:Addr) (ns:List Int) (k:Int),vs=[.ref a,.int k]/\aV K H a (ns.map V.int)/\0<=k/\∀c:Int,Q (.int c) H
theorem JY:aE ["_law_script","_law_k"] ["_law_script","_law_k"] (ak B9):=by walk_at "sc1"
theorem EV{f:Addr}{fd:ed}(F:cr K "_law_cell_at" "_law_cell_at" B9 f fd)(T:Txt K w.params mg):aD P w K mg base cm 1 f fd ["_law_script","_law_k"] (Cz (K:=K)):=by
 refine F.ok JY (by walk_at "ln") (fun cdv A outer s H vs Q E hr h=>?_)
 ·obtain⟨a,ns,k,rfl,hS,hk,q⟩:=h
  refine⟨_,aq (cN (aJ mV (pv 1) (aN aM (by rfl) T.len cE (ae (pv 0) af)) (aQ _)) (az (aC (aF aK (pv 0) (pv 1) (fun _ _=>rfl)))) aO)
   (az (aC ah)),?_⟩
  refine⟨_,rfl,_,rfl,a,_,rfl,.inl hS,_,_,rfl,rfl,_,rfl,?_⟩;refine dk (fun h1=>?_) (fun h1=>?_)
  ·have h1:=of_decide_eq_true h1;rw[length_map]at h1;obtain⟨j,rfl⟩:=Int.eq_ofNat_of_zero_le hk;have hj:j<ns.length:=by omega
   refine⟨_,rfl,_,rfl,a,_,_,.int ns[j],rfl,rfl,hS,ck (j:=j) ?_,q _⟩;rw[ac,aa hj];rfl
  ·exact q 0
def vw:Sp:=fun vs H Q _=>∃(c:Int) (n:Nat),vs=[.int c,.int (n:Int)]/\n<=10000/\∀(l:Addr) (ms:List Int) (H':Hp),Same H H'->H l=none->H' l=some (.lst (ms.map V.int))->ms.length=n->(∀x∈ms,0<=x)->Q (.ref l) H'
theorem ng:aE ["_law_cell","_law_many_here","_law_found","_law_number","_law_k"] ["_law_cell","_law_many_here"] (ak tD):=by walk_at "sc1"
theorem AT{f:Addr}{fd:ed}(F:cr K "_law_stream" "_law_stream" tD f fd)(T:Txt K w.params mg):aD P w K mg base cm 1 f fd ["_law_cell","_law_many_here"] vw:=by
 refine F.ok ng (by walk_at "ln") (fun cdv A outer s H vs Q E hr h=>?_)
 ·obtain⟨c,n,rfl,hn,k⟩:=h
  refine cU (au (ay (aI (i:=2) ng.nd rfl (Or.inl rfl) (cD af)))
   (au (ay (aI (i:=3) ng.nd rfl (Or.inl rfl) (aA fc (pv 0) ah)))
   (jd (ay (oz PassesOwn.never (gq (aJ cT (aA dE (pv 0) ah) ah (aQ _)) (gq (aJ jQ (pv 3) ah (aQ _)) (gR (aJ mV (aN aM (by rfl) T.len cE (ae (pv 2) af)) (pv 1) (aQ _))))).pt (aq (cC (dg fv fw gf bV (pv 2) (ae (aA dE (pv 3) (aA sr ah ah)) af)))
   (az (aI (i:=3) ng.nd rfl (Or.inl rfl) (aA fc (pv 3) (aA sr ah ah)))))))
   (au (ay (aI (i:=3) ng.nd rfl (Or.inl rfl) (aA dE (aA ic (aA bg (aA fc (pv 0) ah) ah) ah) ah)))
   (au (ay (eE PassesOwn.never rfl (ip rfl T.range (ae (pv 1) af)) (cq (i:=4) ng.nd rfl (Or.inl rfl)) (aq (aI (i:=3) ng.nd rfl (Or.inl rfl) (aA dE (aA ic (pv 3) (aA bg (aA bg (aA fc (pv 3) ah) ah) (pv 4))) ah))
   (aq (cC (dg fv fw gf bV (pv 2) (ae (aA dE (aA ic (pv 3) (aA bg (aA fc (pv 3) ah) ah)) ah) af)))
   (az (aI (i:=3) ng.nd rfl (Or.inl rfl) (aA bg (pv 3) ah)))))))
   (aw (ay (aC (cL eT (pv 2) dI (cK (pv 1))))))))))) ?_
  refine⟨zle,fun l nl=>?_⟩;have s0:=aj (o:=.lst []) nl;have h0:upd H l (.lst []) l=some (.lst (([]:List Int).map V.int)):=ai;generalize upd H l (.lst [])=G0 at s0 h0 ⊢;refine⟨_,rfl,_,_,rfl,rfl,⟨by show(0:Int)<2;decide,by show(2:Int)<_;decide⟩,?_⟩;have cp:Ms 10 9:=⟨by decide,by decide,by decide⟩;refine⟨fun σ G=>∃(x:Int) (ms:List Int),σ=[some (.int c),some (.int (n:Int)),some (.ref l),some (.int x),none]/\Same H G/\G l=some (.lst (ms.map V.int))/\(∀y∈ms,0<=y)/\ms.length<=n,?_,?_⟩
  ·refine⟨fun mm σ G=>∃(x:Int) (ms:List Int),σ=[some (.int c),some (.int (n:Int)),some (.ref l),some (.int x),none]/\Same H G/\G l=some (.lst (ms.map V.int))/\(∀y∈ms,0<=y)/\ms.length<=n/\mm=n-ms.length,⟨_,_,[],rfl,s0,h0,fun y hy=>(not_mem_nil hy).elim,zero_le _,rfl⟩,?_⟩;rintro mm σ G ⟨x,ms,rfl,s1,h1,hp,hl,rfl⟩;refine⟨_,rfl,_,_,rfl,rfl,SA,rfl,_,rfl,?_⟩;refine dk (fun _=>?_) (fun _=>bu (by decide) ⟨x,ms,rfl,s1,h1,hp,hl⟩);refine⟨_,rfl,_,_,rfl,rfl,_,rfl,?_⟩;refine dk (fun _=>?_) (fun _=>bu (by decide) ⟨x,ms,rfl,s1,h1,hp,hl⟩);refine⟨_,rfl,l,_,rfl,.inl (aV.of h1),_,rfl,_,_,rfl,rfl,_,rfl,?_⟩;refine dk (fun e=>?_) (fun _=>⟨x,ms,rfl,s1,h1,hp,hl⟩);have e:=of_decide_eq_true e;rw[length_map]at e;have hlt:ms.length<n:=by omega
   refine⟨fun σ' G'=>∃(x':Int) (CB:List Int),σ'=[some (.int c),some (.int (n:Int)),some (.ref l),some (.int x'),none]/\Same H G'/\G' l=some (.lst (CB.map V.int))/\(∀y∈CB,0<=y)/\CB.length=ms.length+1,?_,?_⟩
   ·rintro σ' G' ⟨x',CB,rfl,a1,a2,a3,a4⟩;exact⟨n-CB.length,by omega,x',CB,rfl,a1,a2,a3,by omega,rfl⟩
   refine⟨_,rfl,.inl ⟨rfl,_,aV.of h1⟩,_,rfl,_,_,rfl,rfl,cp,_,_,rfl,rfl,(by show(0:Int)<10^(9:Int).toNat;decide),l,_,_,rfl,rfl,h1,aT (by rw[length_map];omega),?_⟩;refine⟨_,rfl,_,_,rfl,rfl,cp,_,_,rfl,rfl,⟨by show(0:Int)<10^(9:Int).toNat;decide,by show(10:Int)^(9:Int).toNat<18446744073709551616;decide⟩,?_⟩;refine⟨_,ms++ [x % 10^(9:Int).toNat],rfl,aL s1 nl,by rw[ai,map_append];rfl,fun y hy=>?_,by rw[length_append];rfl⟩;rcases mem_append.mp hy with z | z
   ·exact hp y z
   ·rw[mem_singleton.mp z];exact Int.emod_nonneg _ (by decide)
  rintro σ G ⟨x,ms,rfl,s1,h1,hp,hl⟩;refine⟨_,rfl,_,_,rfl,rfl,⟨by show(0:Int)<2;decide,by show(2:Int)<_;decide⟩,_,_,rfl,rfl,_,_,rfl,rfl,.inr ⟨by decide,by decide⟩,_,_,rfl,rfl,jT,?_⟩;have hx0:0<=(c/2+7919)*48271 % 2147483647/\(c/2+7919)*48271 % 2147483647<2147483647:=⟨Int.emod_nonneg _ (by decide),Int.emod_lt_of_pos _ (by decide)⟩;refine⟨_,rfl,_,rfl,by omega,by omega,?_⟩;refine jw (lo:=0) (n:=((n:Nat):Int).toNat) (fun i σ G=>∃(x:Int) (v:Option V) (ms:List Int),σ=[some (.int c),some (.int (n:Int)),some (.ref l),some (.int x),v]/\0<=x/\x<=2147483647/\Same H G/\G l=some (.lst (ms.map V.int))/\(∀y∈ms,0<=y)/\i<=ms.length/\ms.length<=n+i) ?_ ?_ ?_
  ·exact⟨_,none,ms,rfl,hx0.1,Int.le_of_lt hx0.2,s1,h1,hp,zero_le _,by omega⟩
  ·rintro i σ G hi ⟨x,v,ms,rfl,b1,b2,s1,h1,hp,g1,g2⟩;have e0:(0:Int)+(i:Int)=(i:Int):=by omega
   rw[e0];have hin:i<n:=by rw[le]at hi;exact hi
   refine⟨_,rfl,_,rfl,_,_,rfl,rfl,⟨by show(0:Int)<1009;decide,by show(1009:Int)<_;decide⟩,_,_,rfl,rfl,_,rfl,_,_,rfl,rfl,_,_,rfl,rfl,.inl ⟨by omega,by omega⟩,_,_,rfl,rfl,jT,?_⟩;have hy0:0<=x*(x/1009+69621+(i:Int)) % 2147483647/\x*(x/1009+69621+(i:Int)) % 2147483647<2147483647:=⟨Int.emod_nonneg _ (by decide),Int.emod_lt_of_pos _ (by decide)⟩;have hy1:x*(x/1009+69621+(i:Int)) % 2147483647<=2147483646:=by omega
   refine⟨_,rfl,.inl ⟨rfl,_,aV.of h1⟩,_,rfl,_,rfl,_,_,rfl,rfl,⟨by show(0:Int)<127;decide,by show(127:Int)<_;decide⟩,_,_,rfl,rfl,_,_,rfl,rfl,.inl ⟨by show-(2^64)< (x*(x/1009+69621+(i:Int)) % 2147483647);omega,by show(x*(x/1009+69621+(i:Int)) % 2147483647)<2^64;omega⟩,_,_,rfl,rfl,qy,l,_,_,rfl,rfl,h1,aT (by rw[length_map];omega),?_⟩;have hz0:0<=(x*(x/1009+69621+(i:Int)) % 2147483647)*((x*(x/1009+69621+(i:Int)) % 2147483647)/127+40009) % 2147483629:=Int.emod_nonneg _ (by decide);refine⟨_,rfl,_,_,rfl,rfl,?_⟩;refine⟨(x*(x/1009+69621+(i:Int)) % 2147483647)+1,_,ms++ [(x*(x/1009+69621+(i:Int)) % 2147483647)*((x*(x/1009+69621+(i:Int)) % 2147483647)/127+40009) % 2147483629],rfl,by omega,by omega,aL s1 nl,by rw[ai,map_append];rfl,fun y hy=>?_,by rw[length_append,length_singleton];omega,by rw[length_append,length_singleton];omega⟩;rcases mem_append.mp hy with z | z
   ·exact hp y z
   ·rw[mem_singleton.mp z];exact hz0
  ·rintro σ G ⟨x,v,ms,rfl,b1,b2,s1,h1,hp,g1,g2⟩;rw[le]at g1;refine⟨_,rfl,_,rfl,(n:Int),rfl,l,_,rfl,aV.of h1,fun lc nc=>?_⟩;have ec:dJ (ms.map V.int) none (some (n:Int))=(ms.take n).map V.int:=by rw[vt,map_take]
   rw[ec];exact k lc (ms.take n) _ (s1.trans (aj nc)) (s1.free nc) ai (by rw[length_take];omega) fun y hy=>hp y (List.mem_of_mem_take hy)
def pL(u:Str):Prop:=u∈bj/\¬u ="table"/\¬u∈gk/\¬u∈zb
instance {u:Str}:Decidable (pL u):=by unfold pL;infer_instance
def gB(n:Nat)(u:Str):Prop:=pL u/\yJ u=n
instance {n:Nat} {u:Str}:Decidable (gB n u):=by unfold gB;infer_instance
theorem EW{H:Hp}{q:Addr}{u:Str}{b c:Int}(hu:gB 2 u)(h:H q=some (.tup [.str u,.int b,.int c])):bZ H q ⟨u,[b,c],[]⟩:=
 ⟨⟨hu.1.1,fun z=>absurd z hu.1.2.1,fun z=>absurd z hu.1.2.2.1,fun z=>absurd z hu.1.2.2.2,fun _ _ _=>⟨rfl,hu.2.symm⟩,fun _=>⟨b,c,rfl⟩,fun _=>⟨b,[c],rfl⟩⟩,.inr ⟨hu.1.2.1,h⟩⟩
theorem EX{H:Hp}{q:Addr}{u:Str}{b:Int}(hu:gB 1 u/\¬u∈w2)(h:H q=some (.tup [.str u,.int b])):bZ H q ⟨u,[b],[]⟩:=
 ⟨⟨hu.1.1.1,fun z=>absurd z hu.1.1.2.1,fun z=>absurd z hu.1.1.2.2.1,fun z=>absurd z hu.1.1.2.2.2,fun _ _ _=>⟨rfl,hu.1.2.symm⟩,fun z=>absurd z hu.2,fun _=>⟨b,[],rfl⟩⟩,.inr ⟨hu.1.1.2.1,h⟩⟩
theorem JZ{H:Hp}{q:Addr}{u:Str}(hu:gB 0 u/\¬u∈w2/\¬u∈w1)(h:H q=some (.tup [.str u])):bZ H q ⟨u,[],[]⟩:=
 ⟨⟨hu.1.1.1,fun z=>absurd z hu.1.1.2.1,fun z=>absurd z hu.1.1.2.2.1,fun z=>absurd z hu.1.1.2.2.2,fun _ _ _=>⟨rfl,hu.1.2.symm⟩,fun z=>absurd z hu.2.1,fun z=>absurd z hu.2.2⟩,.inr ⟨hu.1.1.2.1,h⟩⟩
theorem jD{H:Hp}{q:Addr}{u:Str}{t f:Int}(hu:u∈gk)(h:H q=some (.tup [.str u,.int t,.int f])):bZ H q ⟨u,[t,f],[t]⟩:=by have hw:=(by decide:∀u∈gk,u∈bj/\¬u ="table"/\¬u∈zb/\¬u∈w2/\¬u∈w1) u hu;exact⟨⟨hw.1,fun z=>absurd z hw.2.1,fun _=>⟨t,f,rfl,rfl⟩,fun z=>absurd z hw.2.2.1,fun _ z=>absurd hu z,fun z=>absurd z hw.2.2.2.1,fun z=>absurd z hw.2.2.2.2⟩,.inr ⟨hw.2.1,h⟩⟩
theorem lZ{H:Hp}{q:Addr}{u:Str}{b t f:Int}(hu:u∈zb)(h:H q=some (.tup [.str u,.int b,.int t,.int f])):bZ H q ⟨u,[b,t,f],[t]⟩:=by have hw:=(by decide:∀u∈zb,u∈bj/\¬u ="table"/\¬u∈gk/\¬u∈w2) u hu;exact⟨⟨hw.1,fun z=>absurd z hw.2.1,fun z=>absurd z hw.2.2.1,fun _=>⟨b,t,f,rfl,rfl⟩,fun _ _ z=>absurd hu z,fun z=>absurd z hw.2.2.2,fun _=>⟨b,_,rfl⟩⟩,.inr ⟨hw.2.1,h⟩⟩
theorem l0{H:Hp}{q p:Addr}{b:Int}{ts:List Int}(h:H q=some (.tup [.str "table",.int b,.ref p]))(hp:H p=some (.tup (ts.map V.int))):bZ H q ⟨"table",[b],ts⟩:=
 ⟨⟨(by decide:("table": Str)∈bj),fun _=>⟨b,rfl⟩,fun z=>absurd z (by decide:¬("table": Str)∈gk),fun z=>absurd z (by decide:¬("table": Str)∈zb),fun z=>absurd rfl z,fun z=>absurd z (by decide:¬("table": Str)∈w2),fun _=>⟨b,[],rfl⟩⟩,.inl ⟨rfl,b,p,rfl,h,hp⟩⟩
def gY(d:FR):Prop:=d.u∈five->dh d=0\/dh d=1
def fe(k:Str):Int×Int:=((bounds.find? fun x=>x.1==k).map (·.2)).getD (0,0)
def inB(k:Str)(n:Int):Bool:=decide ((fe k).1<=n/\n<=(fe k).2)
def gP(k:Str)(n:Int):Bool:=if k∈zL3 then true else inB k n
def LN(u:Str)(is:List Int):Prop:=∀(i:Nat) k n,(aZ u)[i]? =some k->is[i]? =some n->gP k n=true
def EY(d:FR):Prop:=LN d.u d.is/\(d.u ="table"->1<=d.ts.length)
theorem bd0(u:Str):LN u []:=fun i k n _ h=>by simp at h
theorem SJ{u k:Str}{ks:List Str}{a:Int}(h:aZ u=k::ks)(h1:gP k a=true):LN u [a]:=fun i k' n e1 e2=>by
 rw[h]at e1
 match i,e1,e2 with
 | 0,e1,e2=>cases e1;cases e2;exact h1
theorem Nm{u k l:Str}{ks:List Str}{a b:Int}(h:aZ u=k::l::ks)(h1:gP k a=true)(h2:gP l b=true):LN u [a,b]:=fun i k' n e1 e2=>by
 rw[h]at e1
 match i,e1,e2 with
 | 0,e1,e2=>cases e1;cases e2;exact h1
 | 1,e1,e2=>cases e1;cases e2;exact h2
theorem bd3{u k l m:Str}{ks:List Str}{a b c:Int}(h:aZ u=k::l::m::ks)(h1:gP k a=true)(h2:gP l b=true)(h3:gP m c=true):LN u [a,b,c]:=fun i k' n e1 e2=>by
 rw[h]at e1
 match i,e1,e2 with
 | 0,e1,e2=>cases e1;cases e2;exact h1
 | 1,e1,e2=>cases e1;cases e2;exact h2
 | 2,e1,e2=>cases e1;cases e2;exact h3
theorem nB{k:Str}{lo hi n:Int}(hk:¬k∈zL3)(hb:fe k=(lo,hi))(h:lo<=n/\n<=hi):gP k n=true:=by unfold gP inB;rw[if_neg hk,hb];exact decide_eq_true h
theorem jl{n:Int}(h:0<=n/\n<=7):gP "box" n=true:=nB (by decide) (by decide+kernel:fe "box"=(0,7)) h
theorem J0{n:Int}(h:-1000000000<=n/\n<=1000000000):gP "value" n=true:=nB (by decide) (by decide+kernel:fe "value"=(-1000000000,1000000000)) h
theorem CC{n:Int}(h:0<=n/\n<=1000000):gP "number" n=true:=nB (by decide) (by decide+kernel:fe "number"=(0,1000000)) h
theorem J1{n:Int}(h:0<=n/\n<=1000000):gP "aside" n=true:=nB (by decide) (by decide+kernel:fe "aside"=(0,1000000)) h
def GoodR(d:FR)(n:Int):Prop:=d.ts.length<=16/\(∀t∈d.ts,0<=t/\t<n)/\gY d/\EY d
theorem GoodR.plain{u:Str}{is:List Int}{n:Int}(h:¬u∈five)(ht:¬u ="table")(b:LN u is):GoodR ⟨u,is,[]⟩ n:=⟨zero_le _,fun t ht=>(not_mem_nil ht).elim,fun z=>absurd z h,b,fun z=>absurd z ht⟩
theorem EY.ofJ{u:Str}{t f:Int}{ts:List Int}(h:u∈gk):EY ⟨u,[t,f],ts⟩:=by have hw:=(by decide+kernel:∀u∈gk,aZ u=(["target","far"]:List Str)/\¬u ="table") u h;exact⟨Nm hw.1 (if_pos (by decide)) (if_pos (by decide)),fun z=>absurd z hw.2⟩
theorem EY.ofZ{u:Str}{b t f:Int}{ts:List Int}(h:u∈zb)(hb:gP "box" b=true):EY ⟨u,[b,t,f],ts⟩:=by have hw:=(by decide+kernel:∀u∈zb,aZ u=(["box","target","far"]:List Str)/\¬u ="table") u h;exact⟨bd3 hw.1 hb (if_pos (by decide)) (if_pos (by decide)),fun z=>absurd z hw.2⟩
theorem EY.box{d:FR}{b:Int}{is:List Int}(h:EY d)(hu:d.u∈zb\/d.u ="table")(e:d.is=b::is):gP "box" b=true :=
 h.1 0 "box" b (by rcases hu with z | z;exact(by decide+kernel:∀u∈zb,(aZ u)[0]? =some ("box": Str)) _ z;rw[z];decide+kernel) (by rw[e];rfl)
theorem bZ.put{H:Hp}{q l:Addr}{d:FR}{xs:List V}{o:HO}(h:bZ H q d)(hl:H l=some (.lst xs)):bZ (upd H l o) q d:=by
 have ne:∀(a:Addr) (ys:List V),H a=some (.tup ys)->a≠l:=fun a ys e z=>by rw[z,hl]at e;cases e
 refine⟨h.1,?_⟩;rcases h.2 with ⟨a,b,p,e,h1,h2⟩ | ⟨a,h1⟩
 ·exact .inl ⟨a,b,p,e,by rw[aG (ne _ _ h1)];exact h1,by rw[aG (ne _ _ h2)];exact h2⟩
 ·exact .inr ⟨a,by rw[aG (ne _ _ h1)];exact h1⟩
theorem EZ(xs:List V)(a b:Nat)(h1:a<=b)(h2:b<=xs.length):dJ xs (some (a:Int)) (some (b:Int))=(xs.drop a).take (b-a):=by unfold dJ;have e1:HT.du xs.length 0 (some (a:Int))=min a xs.length:=HT.eR ..;have e2:HT.du xs.length xs.length (some (b:Int))=min b xs.length:=HT.eR ..;rw[e1,e2,min_eq_left (show a<=xs.length by omega),min_eq_left h2]
def fits(h:Str×Int)(a low:Int):Bool:=if (aZ h.1).count ("box": Str)=0/\a≠0 then false else if (aZ h.1).count ("box": Str)=2 then decide (low<8)else (decide (low=0)||(decide (h.1∈five)&&decide (h.2=0)))
theorem Nn:∀x∈bounds,(x.1,fe x.1)=x:=by decide+kernel
theorem rE:∀u∈bj,(u,aZ u)∈kinds:=by decide+kernel
theorem yP:∀h∈heads,h.1∈bj:=by decide+kernel
variable {di R fI:Addr}{rC:ed}
def pM:Sp:=fun vs H Q _=>∃n:Int,vs=[.int n]/\Q (.bl true) H
theorem Np:aE ["thing"] ["thing"] (ak sP):=by walk_at "sc1"
theorem CD{f:Addr}{fd:ed}(F:cr K "is_whole" "is_whole" sP f fd)(T:Txt K w.params mg):aD P w K mg base cm 1 f fd ["thing"] pM:=by
 refine F.ok Np (by walk_at "ln") (fun cdv A outer s H vs Q E hr h=>?_)
 ·obtain⟨n,rfl,k⟩:=h;refine⟨_,(az (aC (ib (aN dm (by rfl) T.Hs jh (ae (pv 0) (ae (gQ (v:=.ty "int") (by rfl) T.int pE rfl) af))) (ft (I0 (aN dm (by rfl) T.Hs jh (ae (pv 0) (ae (gQ (v:=.ty "bool") (by rfl) T.bool EG rfl) af)))))))),?_⟩;refine⟨_,rfl,_,_,_,_,rfl,.int _,AH,_,rfl,bY (by decide) ?_⟩;exact⟨_,rfl,_,_,_,_,rfl,.int _,wW,_,rfl,k⟩
def oh:Sp:=fun vs H Q _=>∃(kd:Str) (n:Int),vs=[.str kd,.int n]/\kd∈bounds.map (·.1)/\Q (.bl (inB kd n)) H
theorem Nq:aE ["kind","thing"] ["kind","thing"] (ak wM):=by walk_at "sc1"
theorem CF{f fW:Addr}{fd nh:ed}(F:cr K "is_number_of" "is_number_of" wM f fd)(T:Txt K w.params mg)(GW:aD P w K mg base cm 1 fW nh ["thing"] pM)(kW:KI K fW)(bW:Binds K nh ["thing"] [])(mW:mg "is_whole"=some (.ref fW)):aD P w K mg base cm 2 f fd ["kind","thing"] oh:=by
 refine F.ok Nq (by walk_at "ln") (fun cdv A outer s H vs Q E hr h=>?_)
 ·obtain⟨kd,n,rfl,hk,k⟩:=h;obtain⟨x,hx,rfl⟩:=mem_map.mp hk;have hb:=Nn x hx;obtain⟨pb,hpb,hpk⟩:=T.bnd;obtain⟨q,hq,hS⟩:=hpk x hx;have hS':∀H,bz K H q [.int (fe x.1).1,.int (fe x.1).2]:=fun H=>by rw[show fe x.1=x.2 from congrArg Prod.snd hb];exact hS H
  refine⟨_,(az (aC (ib (ao GW hr (by rfl) mW kW bW .nil aS (ae (pv 1) af)) (ft (oE ja ja (aF aY (gS (bp (v:=.ref pb) (by rfl) hpb rfl) (pv 0) (fun _ _=>rfl)) ah (fun _ _=>rfl)) (pv 1) (aF aY (gS (bp (v:=.ref pb) (by rfl) hpb rfl) (pv 0) (fun _ _=>rfl)) ah (fun _ _=>rfl))))))),?_⟩;refine⟨_,rfl,n,rfl,_,rfl,bY rfl ?_⟩;refine⟨_,rfl,pb,x.1,_,rfl,rfl,hq,q,_,0,_,rfl,rfl,hS' _,at0 _ _,_,rfl,_,_,rfl,rfl,_,rfl,?_⟩;unfold inB at k;refine dk (fun e=>?_) (fun e=>?_)
  ·refine⟨_,rfl,pb,x.1,_,rfl,rfl,hq,q,_,1,_,rfl,rfl,hS' _,at1 _ _ _,_,_,rfl,rfl,?_⟩;have e:=of_decide_eq_true e;rw[show decide ((fe x.1).1<=n/\n<=(fe x.1).2)=decide (n<=(fe x.1).2)from decide_eq_decide.mpr ⟨fun z=>z.2,fun z=>⟨e,z⟩⟩]at k;exact k
  ·rw[decide_eq_false (fun z=>e (decide_eq_true z.1))]at k;exact k
def vx(di:Addr):Sp:=fun vs H Q E=>∃(lu:Addr) (us:List Int) (at_:Nat),vs=[.ref lu,.int (at_:Int)]/\H lu=some (.lst (us.map V.int))/\us.length<=1000000/\at_<=2000000/\(∀u,us[at_]? =some u->Q (.int u) H)/\(us[at_]? =none->∀e,e=at_->∀H' d,Same H H'->H' d=some (.xd [("at",.int (e:Int))])->E (.ref di) (some d) H')
theorem Nr:aE ["units","at"] ["units","at"] (ak pA):=by walk_at "sc1"
theorem J2{f fW:Addr}{fd nh:ed}(F:cr K "whole_at" "whole_at" pA f fd)(T:Txt K w.params mg)(GW:aD P w K mg base cm 1 fW nh ["thing"] pM)(kW:KI K fW)(bW:Binds K nh ["thing"] [])(mW:mg "is_whole"=some (.ref fW))(cx:gu K di R fI)(kC:KI K di)(GI:aD P w K mg base cm 1 fI rC ["self","at"] (o7 di))(bI:Binds K rC ["self","at"] [])(vy:mg "NoUnits"=some (.ref di)):aD P w K mg base (eU P w) 3 f fd ["units","at"] (vx di):=by
 refine F.D2 Nr (by walk_at "ln") (fun cdv A outer s H vs Q E hr h=>?_)
 ·obtain⟨lu,us,a,rfl,hu,hl,ha,k,hE⟩:=h;have CG:=hr;have Ht:=hr.mono (show 1<=2 by decide)
  refine⟨_,(aq (cN (iS (aJ Mu (pv 1) (aN aM (by rfl) T.len cE (ae (pv 0) af)) (aQ _)) (ia (dD (bQ (ao GW Ht (by rfl) mW kW bW .nil aS (ae (aF aK (pv 0) (pv 1) (fun _ _=>rfl)) af)))))).pt (az (dX cx kC GI bI CG vy (by rfl) (ae (pv 1) af))) aO)
   (az (aC (aF aK (pv 0) (pv 1) (fun _ _=>rfl))))),?_⟩
  refine⟨_,rfl,_,rfl,lu,_,rfl,.inl (aV.of hu),_,_,rfl,rfl,_,rfl,?_⟩;rw[length_map];refine dk (fun e=>?_) (fun e=>?_)
  ·have e:=of_decide_eq_true e;have hn:us[a]? =none:=List.getElem?_eq_none (by omega);exact bY rfl ⟨_,rfl,_,rfl,by omega,fun d nd=>hE hn a rfl _ d (aj nd) ai⟩
  ·have e:a<us.length:=by have:¬((us.length:Nat):Int)<=(a:Int):=fun z=>e (decide_eq_true z);omega
   have hn:us[a]? =some us[a]:=aa e;generalize us[a]=u at hn;have hat:kc (us.map V.int) (a:Int)=some (.int u):=ck (by rw[ac,hn];rfl);refine⟨_,rfl,_,rfl,lu,_,_,.int u,rfl,rfl,aV.of hu,hat,u,rfl,_,rfl,bu (by decide) ?_⟩;exact⟨_,rfl,_,rfl,lu,_,_,.int u,rfl,rfl,aV.of hu,hat,k u hn⟩
def CH:Sp:=fun vs H Q _=>∃(q:Addr) (h:Str×Int) (a low:Int),vs=[.ref q,.int a,.int low]/\bz K H q [.str h.1,.int h.2]/\h∈heads/\Q (.bl (fits h a low)) H
theorem Hu:aE ["head","a","low","boxes"] ["head","a","low"] (ak B8):=by walk_at "sc1"
theorem E1{f fH:Addr}{fd jj:ed}(F:cr K "fits_head" "fits_head" B8 f fd)(T:Txt K w.params mg)(GH:aD P w K mg base cm 1 fH jj ["word"] ji)(kH:KI K fH)(bH:Binds K jj ["word"] [])(mH:mg "has_far"=some (.ref fH)):aD P w K mg base cm 2 f fd ["head","a","low"] (CH (K:=K)):=by
 refine F.ok Hu (by walk_at "ln") (fun cdv A outer s H vs Q E hr h=>?_)
 ·obtain⟨q,h,a,low,rfl,hq,hh,k⟩:=h;have uG:=yP h hh;obtain⟨_,hbx⟩:=T.bxs;obtain⟨pp,hpp,hpk⟩:=T.prk;obtain⟨qk,Hv,hqo,D4⟩:=hpk _ (rE _ uG)
  refine⟨_,(aq (aI (i:=3) Hu.nd rfl (Or.inl rfl) (dg PySem.F.plainAttrs_tuple PySem.F.slot_tuple_count PySem.F.type_tuple_count Ay (gS (bp (v:=.ref pp) (by rfl) hpp rfl) (aF aY (pv 0) ah (fun _ _=>rfl)) (fun _ _=>rfl)) (ae aW af)))
   (aq (cN (gq (aJ cT (pv 3) ah (aQ _)) (gR (aJ yn (pv 1) ah (aQ _)))).pt (az (aC jO)) aO)
   (aq (cN (aJ cT (pv 3) ah (aQ _)) (az (aC (cO mV (pv 2) (bp (v:=.int 8) (by rfl) hbx ⟨_,rfl⟩) (aQ _)))) aO)
   (az (aC (Hd (cO cT (pv 2) ah (aQ _)) (ft (ib (ao GH hr (by rfl) mH kH bH .nil aS (ae (aF aY (pv 0) ah (fun _ _=>rfl)) af)) (ft (cO cT (aF aY (pv 0) ah (fun _ _=>rfl)) ah (aQ _))))))))))),?_⟩
  refine⟨_,rfl,q,_,0,.str h.1,rfl,rfl,hq,at0 _ _,pp,h.1,_,rfl,rfl,Hv,.inr (.inl ⟨rfl,hqo⟩),qk,aZ h.1,"box",rfl,rfl,D4 _,?_⟩;unfold fits at k;generalize (aZ h.1).count ("box": Str)=c at k ⊢;refine⟨_,rfl,rfl,_,rfl,?_⟩;by_cases h0:c=0
  ·refine bY (by rw[h0];decide) ?_;refine⟨_,rfl,rfl,_,rfl,?_⟩;by_cases ha:a=0
   ·refine bu (by rw[ha];decide) ?_;rw[if_neg (fun z=>z.2 ha)]at k;refine⟨_,rfl,rfl,_,rfl,?_⟩;by_cases h2:c=2
    ·refine bY (by rw[h2];decide) ?_;rw[if_pos h2]at k;exact⟨_,rfl,_,_,rfl,rfl,k⟩
    ·refine bu (by simp;omega) ?_;rw[if_neg h2]at k;refine⟨_,rfl,rfl,_,rfl,?_⟩;by_cases hlo:low=0
     ·refine bY (by rw[hlo];decide) ?_;rw[decide_eq_true hlo,Bool.true_or]at k;exact k
     ·refine bu (by simp[hlo]) ?_;rw[decide_eq_false hlo,Bool.false_or]at k;refine⟨_,rfl,q,_,0,.str h.1,rfl,rfl,hq,at0 _ _,h.1,rfl,uG,_,rfl,?_⟩;refine dk (fun e=>?_) (fun e=>?_)
      ·rw[e,Bool.true_and]at k;refine⟨_,rfl,q,_,1,.int h.2,rfl,rfl,hq,at1 _ _ _,rfl,?_⟩;rw[show decide (V.int h.2=V.int 0)=decide (h.2=0)from decide_eq_decide.mpr ⟨V.int.inj,fun z=>by rw[z]⟩];exact k
      ·rw[Bool.eq_false_iff.mpr e,Bool.false_and]at k;exact k
   ·refine bY (by simp[ha]) ?_;rw[if_pos ⟨h0,ha⟩]at k;exact k
  ·refine bu (by simp;omega) ?_;rw[if_neg (fun z=>h0 z.1)]at k;refine⟨_,rfl,rfl,_,rfl,?_⟩;by_cases h2:c=2
   ·refine bY (by rw[h2];decide) ?_;rw[if_pos h2]at k;exact⟨_,rfl,_,_,rfl,rfl,k⟩
   ·refine bu (by simp;omega) ?_;rw[if_neg h2]at k;refine⟨_,rfl,rfl,_,rfl,?_⟩;by_cases hlo:low=0
    ·refine bY (by rw[hlo];decide) ?_;rw[decide_eq_true hlo,Bool.true_or]at k;exact k
    ·refine bu (by simp[hlo]) ?_;rw[decide_eq_false hlo,Bool.false_or]at k;refine⟨_,rfl,q,_,0,.str h.1,rfl,rfl,hq,at0 _ _,h.1,rfl,uG,_,rfl,?_⟩;refine dk (fun e=>?_) (fun e=>?_)
     ·rw[e,Bool.true_and]at k;refine⟨_,rfl,q,_,1,.int h.2,rfl,rfl,hq,at1 _ _ _,rfl,?_⟩;rw[show decide (V.int h.2=V.int 0)=decide (h.2=0)from decide_eq_decide.mpr ⟨V.int.inj,fun z=>by rw[z]⟩];exact k
     ·rw[Bool.eq_false_iff.mpr e,Bool.false_and]at k;exact k
def tabAt(us:List Int)(at_:Nat)(a:Int):Except Nat FR:=match us[at_+1]? with
 | none=>.error (at_+1)
 | some n=>if 1<=n/\n<=16 then (if us.length<at_+2+n.toNat then .error us.length else .ok ⟨"table",[a],(us.drop (at_+2)).take n.toNat⟩)else .error (at_+1)
def numAt(us:List Int)(at_:Nat)(kd:Str):Except Nat Int:=match us[at_]? with
 | none=>.error at_
 | some n=>if inB kd n=true then .ok n else .error at_
def fz(u:Str)(a d f:Int):FR:=if u∈zb then ⟨u,[a,d,f],[d]⟩else ⟨u,[d,f],[d]⟩
def lh(us:List Int)(at_:Nat)(h:Str×Int)(a low:Int):Except Nat FR:=if h.2=0 then .ok (fz h.1 a (low-64) h.2)else match us[at_+1]? with
 | none=>.error (at_+1)
 | some n=>.ok (fz h.1 a n h.2)
def vz(di:Addr)(e:Nat)(H:Hp)(E:XK):Prop:=∀H' d,Same H H'->H' d=some (.xd [("at",.int (e:Int))])->E (.ref di) (some d) H'
def j6(di:Addr)(r:Except Nat FR)(H:Hp)(Q:VK)(E:XK):Prop:=match r with
 | .ok d=>∀(p:Addr) (H':Hp),Same H H'->bZ H' p d->Q (.ref p) H'
 | .error e=>vz di e H E
def tH(di:Addr)(r:Except Nat Int)(H:Hp)(Q:VK)(E:XK):Prop:=match r with
 | .ok n=>∀H',Same H H'->Q (.int n) H'
 | .error e=>vz di e H E
def Hw(di:Addr):Sp:=fun vs H Q E=>∃(lu:Addr) (us:List Int) (at_:Nat) (a:Int),vs=[.ref lu,.int (at_:Int),.int a]/\H lu=some (.lst (us.map V.int))/\us.length<=1000000/\at_<=1000000/\j6 di (tabAt us at_ a) H Q E
theorem Hx:aE ["units","at","a","how_many"] ["units","at","a"] (ak kZ):=by walk_at "sc1"
def E2:Scope:={kind:=.function,names:=[(".0",.local),("k",.local),("whole_at",.globalImplicit),("at",.free),("units",.free)],isGenerator:=false,isCoroutine:=false,more:=[]}
theorem yQ:cS (ak kZ) E2 ["units","at","a","how_many"] ["k","units","at"] [none,some 0,some 1]:=by walk_at "sc2"
theorem J3{f fW:Addr}{fd nh:ed}(F:cr K "table_at" "table_at" kZ f fd)(T:Txt K w.params mg)(GW:aD P w K mg base (eU P w) 3 fW nh ["units","at"] (vx di))(kW:KI K fW)(bW:Binds K nh ["units","at"] [])(mW:mg "whole_at"=some (.ref fW))(cx:gu K di R fI)(kC:KI K di)(GI:aD P w K mg base cm 1 fI rC ["self","at"] (o7 di))(bI:Binds K rC ["self","at"] [])(vy:mg "NoUnits"=some (.ref di)):aD P w K mg base (eU P w) 4 f fd ["units","at","a"] (Hw di):=by
 refine F.D2 Hx (by walk_at "ln") (fun cdv A outer s H vs Q E hr h=>?_)
 ·obtain⟨lu,us,at_,a,rfl,hu,hl,ha,k⟩:=h;have Ht:=hr;have CG:=hr.mono (show 2<=3 by decide);obtain⟨_,hmt⟩:=T.XJ
  refine⟨_,(aq (aI (i:=3) Hx.nd rfl (Or.inl rfl) (ao GW Ht (by rfl) mW kW bW .nil ie (ae (pv 0) (ae (aA bg (pv 1) ah) af))))
   (aq (cN (dD (oF ja ja ah (pv 3) (bp (v:=.int 16) (by rfl) hmt ⟨_,rfl⟩))) (az (dX cx kC GI bI CG vy (by rfl) (ae (aA bg (pv 1) ah) af))) aO)
   (az (aC (cG (ae aW (ae (pv 2) (ae (cw cZ (by rfl) T.tuple d7 (ae (vj (N':=["k","units","at"]) (fr:=[none,some 0,some 1]) yQ (ip rfl T.range (ae (pv 3) af)) (fun C s0 H0 fp=>(cq (i:=0) yQ.nd rfl (Or.inl rfl))) (fun C s0 H0 fp=>dr) (fun C s0 H0 fp=>(ao GW Ht (by rfl) mW kW bW .nil Hn (ae (pv 1) (ae (aA bg (aA bg (pv 2) ah) (pv 0)) af))))) af)) af)))))))),?_⟩
  unfold tabAt at k;refine⟨_,rfl,_,rfl,_,_,rfl,rfl,lu,us,at_+1,rfl,hu,hl,by omega,(fun n hn=>?_),fun hn e he H' d s' hd=>?_⟩
  ·rw[hn]at k;refine⟨_,rfl,_,_,rfl,rfl,_,rfl,?_⟩;have bad:¬(1<=n/\n<=16)->vz di (at_+1) H E:=fun z=>by have k:j6 di (if 1<=n/\n<=16 then _ else .error (at_+1)) H Q E:=k;rw[if_neg z]at k;exact k
   refine dk (fun e1=>?_) (fun e1=>?_)
   ·refine⟨_,_,rfl,rfl,_,rfl,?_⟩;have e1:=of_decide_eq_true e1;by_cases e2:n<=16
    ·refine bu (by simp[e2]) ?_;have k:j6 di (if 1<=n/\n<=16 then (if us.length<at_+2+n.toNat then .error us.length else .ok ⟨"table",[a],(us.drop (at_+2)).take n.toNat⟩)else .error (at_+1)) H Q E:=k;rw[if_pos ⟨e1,e2⟩]at k;have hlen:at_+2<=us.length:=by have:=(ad.mp hn).1;omega
     refine⟨_,rfl,_,rfl,_,rfl,by omega,by omega,fun D nD=>oW (lo:=0) (n:=n.toNat) (fun i σ ys G=>∃(v:Option V),σ=[v,some (.ref lu),some (.int (at_:Int))]/\ys=((us.drop (at_+2)).take i).map V.int/\at_+2+i<=us.length/\Same H G/\G D=some (.lst ys)) ?_ ?_ ?_⟩
     ·exact⟨none,rfl,rfl,by omega,aj nD,ai⟩
     ·rintro i σ ys G hi ⟨v,rfl,rfl,hle,s1,hD⟩;have e0:(0:Int)+(i:Int)=(i:Int):=by omega
      rw[e0];refine⟨_,rfl,_,rfl,_,_,rfl,rfl,_,rfl,_,_,rfl,rfl,lu,us,at_+2+i,rfl,s1 _ _ hu,hl,by omega,(fun u XO=>?_),fun hn2 e he H' d s' hd=>?_⟩
      ·have hlt:=(ad.mp XO).1;refine⟨hD,aT (by rw[length_map,length_take];omega),_,rfl,?_,by omega,aL s1 nD,ai⟩;rw[take_add_one,List.getElem?_drop,XO,map_append];rfl
      ·have hge:=List.getElem?_eq_none_iff.mp hn2;rw[if_pos (by omega)]at k;have k:vz di us.length H E:=k;refine k H' d (s1.trans s') ?_;rw[hd,he];congr 5;omega
     ·rintro σ ys G ⟨v,rfl,rfl,hle,s1,hD⟩;rw[if_neg (by omega)]at k;have k:∀(p:Addr) (H':Hp),Same H H'->bZ H' p ⟨"table",[a],(us.drop (at_+2)).take n.toNat⟩->Q (.ref p) H':=k;refine⟨D,_,rfl,.inl ⟨aV.of hD,fun t nt=>⟨kX,fun p np=>?_⟩⟩⟩;exact k p _ ((s1.trans (aj nt)).trans (aj np)) (l0 ai (aj np _ _ ai))
    ·refine bY (by simp[e2]) ?_;exact⟨_,rfl,_,_,rfl,rfl,_,rfl,by omega,fun d nd=>bad (fun z=>e2 z.2) _ d (aj nd) ai⟩
   ·refine⟨_,rfl,bY (by decide) ?_⟩;exact⟨_,rfl,_,_,rfl,rfl,_,rfl,by omega,fun d nd=>bad (fun z=>e1 (decide_eq_true z.1)) _ d (aj nd) ai⟩
  ·rw[hn]at k;have k:vz di (at_+1) H E:=k;rw[he]at hd;exact k H' d s' hd
def Hy(di:Addr):Sp:=fun vs H Q E=>∃(lu:Addr) (us:List Int) (at_:Nat) (kd:Str),vs=[.ref lu,.int (at_:Int),.str kd]/\H lu=some (.lst (us.map V.int))/\us.length<=1000000/\at_<=2000000/\kd∈bounds.map (·.1)/\tH di (numAt us at_ kd) H Q E
theorem Hz:aE ["units","at","kind","number"] ["units","at","kind"] (ak wU):=by walk_at "sc1"
theorem J4{f fW fN:Addr}{fd nh vA:ed}(F:cr K "number_at" "number_at" wU f fd)(T:Txt K w.params mg)(GW:aD P w K mg base (eU P w) 3 fW nh ["units","at"] (vx di))(kW:KI K fW)(bW:Binds K nh ["units","at"] [])(mW:mg "whole_at"=some (.ref fW))(GN:aD P w K mg base cm 2 fN vA ["kind","thing"] oh)(kN:KI K fN)(bN:Binds K vA ["kind","thing"] [])(mN:mg "is_number_of"=some (.ref fN))(cx:gu K di R fI)(kC:KI K di)(GI:aD P w K mg base cm 1 fI rC ["self","at"] (o7 di))(bI:Binds K rC ["self","at"] [])(vy:mg "NoUnits"=some (.ref di)):aD P w K mg base (eU P w) 4 f fd ["units","at","kind"] (Hy di):=by
 refine F.D2 Hz (by walk_at "ln") (fun cdv A outer s H vs Q E hr h=>?_)
 ·obtain⟨lu,us,at_,kd,rfl,hu,hl,ha,hk,k⟩:=h;have Ht:=hr;have hrN:=hr.mono (show 2<=3 by decide);have CG:=hr.mono (show 2<=3 by decide)
  refine⟨_,(aq (aI (i:=3) Hz.nd rfl (Or.inl rfl) (ao GW Ht (by rfl) mW kW bW .nil ie (ae (pv 0) (ae (pv 1) af))))
   (aq (cN (dD (bQ (ao GN hrN (by rfl) mN kN bN .nil aS (ae (pv 2) (ae (pv 3) af))))) (az (dX cx kC GI bI CG vy (by rfl) (ae (pv 1) af))) aO)
   (az (aC (pv 3))))),?_⟩
  unfold numAt at k;refine⟨_,rfl,_,rfl,lu,us,at_,rfl,hu,hl,ha,(fun n hn=>?_),fun hn e he H' d s' hd=>?_⟩
  ·rw[hn]at k;refine⟨_,rfl,_,rfl,kd,n,rfl,hk,_,rfl,?_⟩;cases hb:inB kd n with
   | true=>
    have k:tH di (if inB kd n=true then .ok n else .error at_) H Q E:=k;rw[if_pos hb]at k;exact bu (by decide) ⟨_,rfl,k _ (.refl _)⟩
   | false=>
    have k:tH di (if inB kd n=true then .ok n else .error at_) H Q E:=k;rw[if_neg (by rw[hb];decide)]at k;exact bY rfl ⟨_,rfl,_,rfl,by omega,fun d nd=>k _ d (aj nd) ai⟩
  ·rw[hn]at k;rw[he]at hd;exact k H' d s' hd
def fV(us:List Int)(at_:Nat)(kd:Str)(a:Int):Except Nat Int:=if kd ="box"then .ok a else numAt us (at_+1) kd
def HA(di:Addr):Sp:=fun vs H Q E=>∃(lu:Addr) (us:List Int) (at_:Nat) (kd:Str) (a:Int),vs=[.ref lu,.int (at_:Int),.str kd,.int a]/\H lu=some (.lst (us.map V.int))/\us.length<=1000000/\at_<=1000000/\kd∈bounds.map (·.1)/\tH di (fV us at_ kd a) H Q E
theorem Nt:aE ["units","at","kind","a"] ["units","at","kind","a"] (ak sZ):=by walk_at "sc1"
theorem J5{f fN:Addr}{fd vA:ed}(F:cr K "part_at" "part_at" sZ f fd)(T:Txt K w.params mg)(GN:aD P w K mg base (eU P w) 4 fN vA ["units","at","kind"] (Hy di))(kN:KI K fN)(bN:Binds K vA ["units","at","kind"] [])(mN:mg "number_at"=some (.ref fN)):aD P w K mg base (eU P w) 5 f fd ["units","at","kind","a"] (HA di):=by
 refine F.D2 Nt (by walk_at "ln") (fun cdv A outer s H vs Q E hr h=>?_)
 ·obtain⟨lu,us,at_,kd,a,rfl,hu,hl,ha,hk,k⟩:=h
  refine⟨_,(aq (cN (aJ cT (pv 2) aW (aQ _)) (az (aC (pv 3))) aO)
   (az (aC (ao GN hr (by rfl) mN kN bN .nil ie (ae (pv 0) (ae (aA bg (pv 1) ah) (ae (pv 2) af))))))),?_⟩
  unfold fV at k;refine⟨_,rfl,rfl,_,rfl,?_⟩;refine dk (fun e=>?_) (fun e=>?_)
  ·rw[if_pos (strEq e)]at k;exact⟨_,rfl,k _ (.refl _)⟩
  ·rw[if_neg (rA e)]at k;exact⟨_,rfl,_,rfl,_,_,rfl,rfl,_,rfl,lu,us,at_+1,kd,rfl,hu,hl,by omega,hk,k⟩
theorem vB{H:Hp}{q:Addr}{u:Str}{a d f:Int}(hu:u∈five)(h:H q=some (.tup (if u∈zb then [.str u,.int a,.int d,.int f]else [.str u,.int d,.int f]))):bZ H q (fz u a d f):=by
 unfold fz;by_cases z:u∈zb
 ·rw[if_pos z]at h ⊢;exact lZ z h
 ·rw[if_neg z]at h ⊢;exact jD ((by decide+kernel:∀u∈five,¬u∈zb->u∈gk) u hu z) h
def HB(di:Addr):Sp:=fun vs H Q E=>∃(lu qh:Addr) (us:List Int) (at_:Nat) (h:Str×Int) (a low:Int),vs=[.ref lu,.int (at_:Int),.ref qh,.int a,.int low]/\H lu=some (.lst (us.map V.int))/\us.length<=1000000/\at_<=1000000/\(∀H,bz K H qh [.str h.1,.int h.2])/\h.1∈five/\j6 di (lh us at_ h a low) H Q E
theorem CI:aE ["units","at","head","a","low","distance","boxes"] ["units","at","head","a","low"] (ak tq):=by walk_at "sc1"
theorem J6{f fW:Addr}{fd nh:ed}(F:cr K "jump_at" "jump_at" tq f fd)(T:Txt K w.params mg)(GW:aD P w K mg base (eU P w) 3 fW nh ["units","at"] (vx di))(kW:KI K fW)(bW:Binds K nh ["units","at"] [])(mW:mg "whole_at"=some (.ref fW)):aD P w K mg base (eU P w) 4 f fd ["units","at","head","a","low"] (HB (K:=K) di):=by
 refine F.D2 CI (by walk_at "ln") (fun cdv A outer s H vs Q E hr h=>?_)
 ·obtain⟨lu,qh,us,at_,h,a,low,rfl,hu,hl,ha,hq,h5,k⟩:=h;obtain⟨_,hsa⟩:=T.XI;obtain⟨pp,hpp,hpk⟩:=T.LJ;have uG:h.1∈bj:=(by decide+kernel:∀u∈five,u∈bj) _ h5;obtain⟨qk,Hv,D4⟩:=hpk _ (rE _ uG)
  refine⟨_,(aq (aI (i:=5) CI.nd rfl (Or.inl rfl) (oX (cQ (aJ cT (aF aY (pv 2) ah (fun _ _=>rfl)) ah (aQ _)) (aA dY (pv 4) (bp (v:=.int 64) (by rfl) hsa ⟨_,rfl⟩)) (ao GW hr (by rfl) mW kW bW .nil ie (ae (pv 0) (ae (aA bg (pv 1) ah) af))))))
   (aq (aI (i:=6) CI.nd rfl (Or.inl rfl) (cQ (aJ cy aW (gS (bp (v:=.ref pp) (by rfl) hpp rfl) (aF aY (pv 2) ah (fun _ _=>rfl)) (fun _ _=>rfl)) rfl) (cG (ae (pv 3) af)) (cG af)))
   (az (aC (aA jx (aA jx (cG (ae (aF aY (pv 2) ah (fun _ _=>rfl)) af)) (pv 6)) (cG (ae (pv 5) (ae (aF aY (pv 2) ah (fun _ _=>rfl)) af)))))))),?_⟩
  unfold lh at k;have fin:∀(dd:Int),(∀(p:Addr) (H':Hp),Same H H'->bZ H' p (fz h.1 a dd h.2)->Q (.ref p) H')->True:=fun _ _=>trivial;refine⟨fun v G=>∃dd,v=.int dd/\G=H/\∀(p:Addr) (H':Hp),Same H H'->bZ H' p (fz h.1 a dd h.2)->Q (.ref p) H',?_,?_⟩
  ·refine⟨_,rfl,qh,_,0+1,.int h.2,rfl,rfl,hq _,at1 _ _ _,rfl,_,rfl,?_⟩;by_cases h0:h.2=0
   ·rw[if_pos h0]at k;refine bY (by rw[h0];decide) ?_;exact⟨_,rfl,_,_,rfl,rfl,low-64,rfl,rfl,k⟩
   ·rw[if_neg h0]at k;refine bu (by simp[h0]) ?_;refine⟨_,rfl,_,rfl,_,_,rfl,rfl,lu,us,at_+1,rfl,hu,hl,by omega,(fun n hn=>?_),fun hn e he H' d s' hd=>?_⟩
    ·rw[hn]at k;exact⟨n,rfl,rfl,k⟩
    ·rw[hn]at k;rw[he]at hd;exact k H' d s' hd
  rintro v G ⟨dd,rfl,hG,kk⟩;subst hG;refine⟨_,rfl,qh,_,0,.str h.1,rfl,rfl,hq _,at0 _ _,pp,h.1,_,rfl,rfl,Hv,qk,(aZ h.1).map V.str,rfl,.inr (D4 _),rfl,(by rw[all_map];exact all_eq_true.mpr fun _ _=>rfl),_,rfl,?_⟩;rw[show inV (.str "box") ((aZ h.1).map V.str)=decide (("box": Str)∈aZ h.1)from dS _ _,show decide (("box": Str)∈aZ h.1)=decide (h.1∈zb)from(by decide+kernel:∀u∈five,decide (("box": Str)∈aZ u)=decide (u∈zb)) _ h5];by_cases z:h.1∈zb
  ·refine bY (decide_eq_true z) ?_;refine⟨_,rfl,i0,fun t1 J7=>?_⟩;refine⟨_,rfl,qh,_,0,.str h.1,rfl,rfl,hq _,at0 _ _,i0,fun t2 HE=>⟨_,rfl,t2,t1,[V.str h.1],[V.int a],rfl,rfl,bz.of ai,bz.of (aj HE _ _ ai),cons_ne_nil _ _,bq,fun y=>absurd y (cons_ne_nil _ _),fun _ t3 nt3=>?_⟩⟩;refine⟨_,rfl,_,rfl,qh,_,1,.int h.2,rfl,rfl,hq _,at1 _ _ _,bq,fun t4 Nu=>⟨t3,t4,[V.str h.1,V.int a],[V.int dd,V.int h.2],rfl,rfl,bz.of (aj Nu _ _ ai),bz.of ai,cons_ne_nil _ _,B5,fun y=>absurd y (cons_ne_nil _ _),fun _ t5 SK=>?_⟩⟩;refine kk t5 _ ((((aj J7).trans (aj HE)).trans (aj nt3)).trans ((aj Nu).trans (aj SK))) (vB h5 ?_);rw[if_pos z];exact ai
  ·refine bu (fun y=>z (of_decide_eq_true y)) ?_;refine⟨zle,fun t1 J7=>?_⟩;refine⟨_,rfl,qh,_,0,.str h.1,rfl,rfl,hq _,at0 _ _,i0,fun t2 HE=>⟨_,rfl,t2,t1,[V.str h.1],[],rfl,rfl,bz.of ai,bz.of (aj HE _ _ ai),cons_ne_nil _ _,i0,(fun _=>?_),fun y=>absurd rfl y⟩⟩;refine⟨_,rfl,_,rfl,qh,_,1,.int h.2,rfl,rfl,hq _,at1 _ _ _,bq,fun t4 Nu=>⟨t2,t4,[V.str h.1],[V.int dd,V.int h.2],rfl,rfl,bz.of (aj Nu _ _ ai),bz.of ai,cons_ne_nil _ _,kX,fun y=>absurd y (cons_ne_nil _ _),fun _ t5 SK=>?_⟩⟩;refine kk t5 _ (((aj J7).trans (aj HE)).trans ((aj Nu).trans (aj SK))) (vB h5 ?_);rw[if_neg z];exact ai
def dt(us:List Int)(at_:Nat)(a:Int):List Str->Except Nat (List Int)
 | []=>.ok []
 | kd::ks=>match fV us at_ kd a with
  | .error e=>.error e
  | .ok n=>match dt us at_ a ks with
   | .error e=>.error e
   | .ok l=>.ok (n::l)
def w4(ns:List Int):Except Nat (List Int)->Except Nat (List Int)
 | .ok l=>.ok (ns++l)
 | .error e=>.error e
def gn(us:List Int)(at_:Nat)(h:Str×Int)(a low:Int):Except Nat FR :=
 if fits h a low=true then (if h.1 ="table"then tabAt us at_ a else if h.1∈five then lh us at_ h a low else if h.1∈w2 then .ok ⟨h.1,[a,low],[]⟩else match dt us at_ a (aZ h.1)with
  | .ok l=>.ok ⟨h.1,l,[]⟩
  | .error e=>.error e)else .error at_
def rowAt(us:List Int)(at_:Nat):Except Nat FR:=match us[at_]? with
 | none=>.error at_
 | some u=>if 0<=u/\u<25600 then (match heads[(u/1024).toNat]? with
  | none=>.error at_
  | some h=>gn us at_ h (u % 1024/128) (u % 128))else .error at_
theorem CJ{us:List Int}{at_:Nat}{a n:Int}{ns:List Int}{kd:Str}{ks:List Str}(h:fV us at_ kd a=.ok n):w4 ns (dt us at_ a (kd::ks))=w4 (ns++ [n]) (dt us at_ a ks):=by
 show w4 ns (match fV us at_ kd a with | .error e=>.error e | .ok n=>_)=_;rw[h];show w4 ns (match dt us at_ a ks with | .error e=>.error e | .ok l=>.ok (n::l))=_;cases dt us at_ a ks with
 | error e=>rfl
 | ok l=>show Except.ok _=Except.ok _;simp
theorem E3{us:List Int}{at_:Nat}{a:Int}{ns:List Int}{kd:Str}{ks:List Str}{e:Nat}(h:fV us at_ kd a=.error e):w4 ns (dt us at_ a (kd::ks))=.error e:=by show w4 ns (match fV us at_ kd a with | .error e=>.error e | .ok n=>_)=_;rw[h];rfl
theorem E4{l:List Int}(h:l.length=2):∃b c,l=[b,c]:=by
 match l,h with
 | [b,c],_=>exact⟨b,c,rfl⟩
theorem l5{H:Hp}{q:Addr}{u:Str}{is:List Int}(hu:pL u)(hl:is.length=yJ u)(h:H q=some (.tup (.str u::is.map V.int))):bZ H q ⟨u,is,[]⟩:=by
 refine⟨⟨hu.1,fun z=>absurd z hu.2.1,fun z=>absurd z hu.2.2.1,fun z=>absurd z hu.2.2.2,fun _ _ _=>⟨rfl,hl⟩,fun z=>?_,fun z=>?_⟩,.inr ⟨hu.2.1,h⟩⟩
 ·exact E4 (hl.trans ((by decide+kernel:∀u∈w2,yJ u=2) u z))
 ·have:1<=is.length:=by rw[hl];exact(by decide+kernel:∀u∈w1,1<=yJ u) u z
  match is,this with
  | b::r,_=>exact⟨b,r,rfl⟩
theorem yR(K:Frag){H:Hp}{p:Addr}{ss:List Str}(h:bz K H p (ss.map V.str)):fY K H (.ref p) (.tup (ss.map Da.str)):=by refine .tup h (by rw[length_map,length_map]) fun i x d g1 g2=>?_;rw[ac]at g1 g2;obtain⟨j,hj,rfl⟩:=map_eq_some_iff.mp g1;rw[hj]at g2;cases g2;exact .str _
theorem yS(ss:List Str):(Da.tup (ss.map Da.str)).Nb 1:=.tup fun d hd=>by obtain⟨j,_,rfl⟩:=mem_map.mp hd;exact .str
theorem CK{a b:List Str}(h:Da.tup (a.map Da.str)=Da.tup (b.map Da.str)):a=b:=by
 injection h with h
 exact(List.map_inj_right (fun x y z=>by injection z)).mp h
theorem CL:∀h∈heads,¬h.1 ="table"->¬h.1∈five->(aZ h.1=zL6↔h.1∈w2)/\pL h.1/\(¬h.1∈w2->∀k∈aZ h.1,k∈bounds.map (·.1))/\(aZ h.1).length<=3:=by decide+kernel
def HF(di:Addr):Sp:=fun vs H Q E=>∃(lu:Addr) (us:List Int) (at_:Nat),vs=[.ref lu,.int (at_:Int)]/\H lu=some (.lst (us.map V.int))/\us.length<=1000000/\at_<=1000000/\j6 di (rowAt us at_) H Q E
theorem rF:aE ["units","at","unit","head","a","low","kinds"] ["units","at"] (ak pC):=by walk_at "sc1"
def E5:Scope:={kind:=.function,names:=[(".0",.local),("kind",.local),("part_at",.globalImplicit),("a",.free),("at",.free),("units",.free)],isGenerator:=false,isCoroutine:=false,more:=[]}
theorem yT:cS (ak pC) E5 ["units","at","unit","head","a","low","kinds"] ["kind","units","at","a"] [none,some 0,some 1,some 4]:=by walk_at "sc2"
theorem J8{f fW fF fT fH fJ fP:Addr}{fd nh HG vo jj Cv yU:ed}(F:cr K "row_at" "row_at" pC f fd)(T:Txt K w.params mg)(GW:aD P w K mg base (eU P w) 3 fW nh ["units","at"] (vx di))(kW:KI K fW)(bW:Binds K nh ["units","at"] [])(mW:mg "whole_at"=some (.ref fW))(GF:aD P w K mg base cm 2 fF HG ["head","a","low"] (CH (K:=K)))(kF:KI K fF)(bF:Binds K HG ["head","a","low"] [])(mF:mg "fits_head"=some (.ref fF))(GT:aD P w K mg base (eU P w) 4 fT vo ["units","at","a"] (Hw di))(kT:KI K fT)(bT:Binds K vo ["units","at","a"] [])(mT:mg "table_at"=some (.ref fT))(GH:aD P w K mg base cm 1 fH jj ["word"] ji)(kH:KI K fH)(bH:Binds K jj ["word"] [])(mH:mg "has_far"=some (.ref fH))(GJ:aD P w K mg base (eU P w) 4 fJ Cv ["units","at","head","a","low"] (HB (K:=K) di))(kJ:KI K fJ)(bJ:Binds K Cv ["units","at","head","a","low"] [])(mJ:mg "jump_at"=some (.ref fJ))(GP:aD P w K mg base (eU P w) 5 fP yU ["units","at","kind","a"] (HA di))(kP:KI K fP)(bP:Binds K yU ["units","at","kind","a"] [])(mP:mg "part_at"=some (.ref fP))(cx:gu K di R fI)(kC:KI K di)(GI:aD P w K mg base cm 1 fI rC ["self","at"] (o7 di))(bI:Binds K rC ["self","at"] [])(vy:mg "NoUnits"=some (.ref di)):aD P w K mg base (eU P w) 6 f fd ["units","at"] (HF di):=by
 refine F.D2 rF (by walk_at "ln") (fun cdv A outer s H vs Q E hr h=>?_)
 ·obtain⟨lu,us,at_,rfl,hu,hl,ha,k⟩:=h;have Nv:dP 5 (A.deeper (PyProof.Rows.envOfC "row_at" (ak pC) s.heap.objs.size f cdv)):=hr;have Ht:=hr.mono (show 3<=_ by decide);have XQ:=hr.mono (show 4<=_ by decide);have hrF:=hr.mono (show 2<=_ by decide);have CG:=hr.mono (show 2<=_ by decide);have Nw:=hr.mono (show 1<=_ by decide);have hu0:=hr.u 6;obtain⟨_,hcs⟩:=T.cst;obtain⟨_,hbs⟩:=T.XH;obtain⟨ph,qs,Q6,XR,hql,hqa⟩:=T.hdq;obtain⟨pp,hpp,hpk⟩:=T.LJ
  refine⟨_,(aq (aI (i:=2) rF.nd rfl (Or.inl rfl) (ao GW Ht (by rfl) mW kW bW .nil ie (ae (pv 0) (ae (pv 1) af))))
   (aq (cN (dD (oF ja mV ah (pv 2) (aA ic (aN aM (by rfl) T.len cE (ae (bp (v:=.ref ph) (by rfl) Q6 rfl) af)) (bp (v:=.int 1024) (by rfl) hcs ⟨_,rfl⟩)))) (az (dX cx kC GI bI CG vy (by rfl) (ae (pv 1) af))) aO)
   (aq (aI (i:=3) rF.nd rfl (Or.inl rfl) (aF aY (bp (v:=.ref ph) (by rfl) Q6 rfl) (aA fc (pv 2) (bp (v:=.int 1024) (by rfl) hcs ⟨_,rfl⟩)) (fun _ _=>rfl)))
   (aq (aI (i:=4) rF.nd rfl (Or.inr rfl) (aA fc (aA dE (pv 2) (bp (v:=.int 1024) (by rfl) hcs ⟨_,rfl⟩)) (bp (v:=.int 128) (by rfl) hbs ⟨_,rfl⟩)))
   (aq (aI (i:=5) rF.nd rfl (Or.inl rfl) (aA dE (pv 2) (bp (v:=.int 128) (by rfl) hbs ⟨_,rfl⟩)))
   (aq (cN (dD (bQ (ao GF hrF (by rfl) mF kF bF .nil aS (ae (pv 3) (ae (pv 4) (ae (pv 5) af)))))) (az (dX cx kC GI bI CG vy (by rfl) (ae (pv 1) af))) aO)
   (aq (cN (aJ cT (aF aY (pv 3) ah (fun _ _=>rfl)) aW (aQ _)) (az (aC (ao GT XQ (by rfl) mT kT bT .nil ie (ae (pv 0) (ae (pv 1) (ae (pv 4) af)))))) aO)
   (aq (cN (bQ (ao GH Nw (by rfl) mH kH bH .nil aS (ae (aF aY (pv 3) ah (fun _ _=>rfl)) af))) (az (aC (ao GJ XQ (by rfl) mJ kJ bJ .nil ie (ae (pv 0) (ae (pv 1) (ae (pv 3) (ae (pv 4) (ae (pv 5) af)))))))) aO)
   (aq (aI (i:=6) rF.nd rfl (Or.inl rfl) (gS (bp (v:=.ref pp) (by rfl) hpp rfl) (aF aY (pv 3) ah (fun _ _=>rfl)) (fun _ _=>rfl)))
   (aq (cN (aJ (sM hu0) (pv 6) (cG (ae aW (ae aW af))) (aQ _)) (az (aC (cG (ae (aF aY (pv 3) ah (fun _ _=>rfl)) (ae (pv 4) (ae (pv 5) af)))))) aO)
   (az (aC (aA jx (cG (ae (aF aY (pv 3) ah (fun _ _=>rfl)) af)) (cw cZ (by rfl) T.tuple d7 (ae (vj (N':=["kind","units","at","a"]) (fr:=[none,some 0,some 1,some 4]) yT (wd (pv 6)) (fun C s0 H0 fp=>(cq (i:=0) yT.nd rfl (Or.inl rfl))) (fun C s0 H0 fp=>dr) (fun C s0 H0 fp=>(ao GP Nv (by rfl) mP kP bP .nil Hn (ae (pv 1) (ae (pv 2) (ae (pv 0) (ae (pv 3) af))))))) af))))))))))))))),?_⟩
  unfold rowAt at k;refine⟨_,rfl,_,rfl,lu,us,at_,rfl,hu,hl,by omega,(fun u hn=>?_),fun hn e he H' d s' hd=>?_⟩
  ·rw[hn]at k;have k:j6 di (if 0<=u/\u<25600 then (match heads[(u/1024).toNat]? with | none=>.error at_ | some h=>gn us at_ h (u % 1024/128) (u % 128))else .error at_) H Q E:=k;have bad:¬(0<=u/\u<25600)->vz di at_ H E:=fun z=>by rw[if_neg z]at k;exact k
   refine⟨_,rfl,_,_,rfl,rfl,_,rfl,?_⟩;refine dk (fun e1=>?_) (fun e1=>?_)
   ·have e1:=of_decide_eq_true e1;refine⟨ph,_,rfl,.inr (XR _),_,_,rfl,rfl,.inr ⟨by decide,by decide⟩,_,_,rfl,rfl,_,rfl,?_⟩;rw[length_map,hql];by_cases e2:u<25600
    ·refine bu (by have:decide (u< ((heads.length:Nat):Int)*1024)=true:=decide_eq_true (by show u<25*1024;omega);rw[this];decide) ?_;rw[if_pos ⟨e1,e2⟩]at k;have hj:(u/1024).toNat<heads.length:=by show _<25;omega
     have hh:heads[(u/1024).toNat]? =some heads[(u/1024).toNat]:=aa hj;have hmem:=ba hj;generalize heads[(u/1024).toNat]=h at hh hmem;rw[hh]at k;have k:j6 di (gn us at_ h (u % 1024/128) (u % 128)) H Q E:=k;have SL:qs[(u/1024).toNat]? =some (qs[(u/1024).toNat]'(by rw[hql];exact hj)):=aa _;generalize qs[(u/1024).toNat]'(by rw[hql];exact hj)=qh at SL;have hq:=hqa _ qh h SL hh;have hat:kc (qs.map V.ref) (u/1024)=some (.ref qh):=by rw[show u/1024=(((u/1024).toNat:Nat):Int) by omega];exact ck (by rw[ac,SL];rfl)
     have uG:=yP h hmem;refine⟨_,rfl,_,_,rfl,rfl,⟨by show(0:Int)<1024;decide,by show(1024:Int)<_;decide⟩,ph,_,_,.ref qh,rfl,rfl,XR _,hat,?_⟩;refine⟨_,rfl,_,_,rfl,rfl,EF,_,_,rfl,rfl,⟨by show(0:Int)<128;decide,by show(128:Int)<_;decide⟩,?_⟩;refine⟨_,rfl,_,_,rfl,rfl,B6,?_⟩;refine⟨_,rfl,_,rfl,_,rfl,qh,h,_,_,rfl,hq _,hmem,_,rfl,?_⟩;unfold gn at k;cases hf:fits h (u % 1024/128) (u % 128)with
     | false=>
      rw[if_neg (by rw[hf];decide)]at k;exact bY rfl ⟨_,rfl,_,rfl,by omega,fun d nd=>k _ d (aj nd) ai⟩
     | true=>
      rw[if_pos hf]at k;refine bu (by decide) ?_;refine⟨_,rfl,qh,_,0,.str h.1,rfl,rfl,hq _,at0 _ _,rfl,_,rfl,?_⟩;refine dk (fun et=>?_) (fun et=>?_)
      ·rw[if_pos (strEq et)]at k;exact⟨_,rfl,_,rfl,_,rfl,lu,us,at_,_,rfl,hu,hl,ha,k⟩
      ·have et:=rA et;rw[if_neg et]at k;refine⟨_,rfl,qh,_,0,.str h.1,rfl,rfl,hq _,at0 _ _,h.1,rfl,uG,_,rfl,?_⟩;refine dk (fun e5=>?_) (fun e5=>?_)
       ·rw[if_pos (of_decide_eq_true e5)]at k;exact⟨_,rfl,_,rfl,_,rfl,_,rfl,_,rfl,lu,qh,us,at_,h,_,_,rfl,hu,hl,ha,hq,of_decide_eq_true e5,k⟩
       ·have e5:¬h.1∈five:=fun z=>e5 (decide_eq_true z);rw[if_neg e5]at k;obtain⟨hw,hpl,hbd,hk3⟩:=CL h hmem et e5;obtain⟨qk,Hv,D4⟩:=hpk _ (rE _ uG);refine⟨_,rfl,qh,_,0,.str h.1,rfl,rfl,hq _,at0 _ _,pp,h.1,_,rfl,rfl,Hv,?_⟩;refine⟨_,rfl,bq,fun t0 SM=>?_⟩;have s0:=aj (o:=.tup [V.str "box",V.str "box"]) SM;have z0:upd H t0 (.tup [V.str "box",V.str "box"]) t0=_:=ai;generalize upd H t0 (.tup [V.str "box",V.str "box"])=G0 at s0 z0 ⊢;refine⟨1,qk,t0,_,_,rfl,rfl,yR K (D4 _),yR K (ss:=["box","box"]) (bz.of z0),yS _,yS _,by decide,_,rfl,?_⟩;by_cases LO:h.1∈w2
        ·rw[if_pos LO]at k;refine bY (by rw[Bool.false_xor];exact decide_eq_true (by show Da.tup ((aZ h.1).map Da.str)=_;rw[hw.mpr LO])) ?_;refine⟨_,rfl,qh,_,0,.str h.1,rfl,rfl,hq _,at0 _ _,_,rfl,_,rfl,kX,fun p np=>?_⟩;exact k p _ (s0.trans (aj np)) (l5 (is:=[u % 1024/128,u % 128]) hpl ((by decide+kernel:∀u∈w2,2=yJ u) _ LO) ai)
        ·rw[if_neg LO]at k;refine bu (by rw[Bool.false_xor];exact fun z=>LO (hw.mp (CK (of_decide_eq_true z)))) ?_;refine⟨_,rfl,qh,_,0,.str h.1,rfl,rfl,hq _,at0 _ _,i0,fun t1 J7=>?_⟩;have s1:=s0.trans (aj (o:=.tup [V.str h.1]) J7);have z1:upd G0 t1 (.tup [V.str h.1]) t1=_:=ai;generalize upd G0 t1 (.tup [V.str h.1])=G1 at s1 z1 ⊢;refine⟨_,rfl,qk,rfl,⟨_,D4 _⟩,fun D nD=>o8 (K:=K) (a:=qk) (xs:=(aZ h.1).map V.str) (fun i σ ys G=>∃(v:Option V) (ns:List Int),σ=[v,some (.ref lu),some (.int (at_:Int)),some (.int (u % 1024/128))]/\ys=ns.map V.int/\ns.length=i/\dt us at_ (u % 1024/128) (aZ h.1)=w4 ns (dt us at_ (u % 1024/128) ((aZ h.1).drop i))/\Same G1 G/\G D=some (.lst ys)) ?_ ?_ ?_ ?_⟩
         ·refine⟨none,[],rfl,rfl,rfl,?_,aj nD,ai⟩;rw[drop_zero];cases dt us at_ (u % 1024/128) (aZ h.1)<;>rfl
         ·rintro i σ ys G _ ⟨v,ns,rfl,rfl,_,_,s2,_⟩;exact D4 _
         ·rintro i x σ ys G hx ⟨v,ns,rfl,rfl,hnl,hpa,s2,hD⟩;rw[ac]at hx;obtain⟨kd,hkd,rfl⟩:=map_eq_some_iff.mp hx;have hil:=(ad.mp hkd).1;have hdr:(aZ h.1).drop i=kd::(aZ h.1).drop (i+1):=by rw[List.drop_eq_getElem_cons hil,(ad.mp hkd).2]
          have s12:=s1.trans s2;refine⟨_,rfl,_,rfl,_,rfl,_,rfl,lu,us,at_,kd,_,rfl,s12 _ _ hu,hl,ha,hbd LO kd (ag hkd),?_⟩;rw[hdr]at hpa;cases hp:fV us at_ kd (u % 1024/128)with
          | ok n=>
           rw[CJ hp]at hpa;intro G3 s3;refine⟨s3 _ _ hD,aT (by rw[length_map];omega),_,ns++ [n],rfl,by rw[map_append];rfl,by rw[length_append,hnl];rfl,hpa,aL (s2.trans s3) nD,ai⟩
          | error e=>
           rw[E3 hp]at hpa;rw[hpa]at k;intro H' d s' hd;exact k H' d (s12.trans s') hd
         ·rintro σ ys G ⟨v,ns,rfl,rfl,hnl,hpa,s2,hD⟩;rw[length_map]at hnl hpa;rw[List.drop_length]at hpa;have hpa:dt us at_ (u % 1024/128) (aZ h.1)=.ok ns:=by rw[hpa];show Except.ok (ns++ [])=_;rw[append_nil]
          rw[hpa]at k;have k:∀(p:Addr) (H':Hp),Same H H'->bZ H' p ⟨h.1,ns,[]⟩->Q (.ref p) H':=k;refine⟨D,_,rfl,.inl ⟨aV.of hD,fun t2 HE=>?_⟩⟩;have s3:=(s1.trans s2).trans (aj (o:=.tup (ns.map V.int)) HE);have XS:=aj (o:=.tup (ns.map V.int)) HE _ _ (s2 _ _ z1);refine⟨t1,t2,[V.str h.1],ns.map V.int,rfl,rfl,bz.of XS,bz.of ai,cons_ne_nil _ _,bX (by rw[length_map];show 1+ns.length<=1000000;omega),(fun hy=>?_),fun _ p np=>?_⟩
          ·refine k t1 _ s3 (l5 hpl hnl ?_);rw[XS,hy]
          ·exact k p _ (s3.trans (aj np)) (l5 hpl hnl ai)
    ·refine bY (by have:decide (u< ((heads.length:Nat):Int)*1024)=false:=decide_eq_false (by show ¬u<25*1024;omega);rw[this];decide) ?_;exact⟨_,rfl,_,rfl,by omega,fun d nd=>bad (fun z=>e2 z.2) _ d (aj nd) ai⟩
   ·refine⟨_,rfl,bY (by decide) ?_⟩;exact⟨_,rfl,_,rfl,by omega,fun d nd=>bad (fun z=>e1 (decide_eq_true z.1)) _ d (aj nd) ai⟩
  ·rw[hn]at k;rw[he]at hd;exact k H' d s' hd
def c9(us:List Int):Nat->Nat->Except Nat (List FR)
 | 0,_=>.ok []
 | f+1,at_=>if us.length<=at_ then .ok []else match rowAt us at_ with
  | .error e=>.error e
  | .ok d=>match c9 us f (at_+(jB d).toNat)with
   | .error e=>.error e
   | .ok l=>.ok (d::l)
def j7(ds:List FR):Except Nat (List FR)->Except Nat (List FR)
 | .ok l=>.ok (ds++l)
 | .error e=>.error e
theorem rG{us:List Int}{f at_:Nat}(h:us.length<=at_):c9 us f at_=.ok []:=by
 cases f with
 | zero=>rfl
 | succ f=>show(if us.length<=at_ then _ else _)=_;rw[if_pos h]
theorem CM{us:List Int}{f at_:Nat}{d:FR}{ds:List FR}(h:¬us.length<=at_)(hd:rowAt us at_=.ok d):j7 ds (c9 us (f+1) at_)=j7 (ds++ [d]) (c9 us f (at_+(jB d).toNat)):=by
 show j7 ds (if us.length<=at_ then _ else match rowAt us at_ with | .error e=>.error e | .ok d=>_)=_;rw[if_neg h,hd];show j7 ds (match c9 us f (at_+(jB d).toNat)with | .error e=>.error e | .ok l=>.ok (d::l))=_;cases c9 us f (at_+(jB d).toNat)with
 | error e=>rfl
 | ok l=>show Except.ok _=Except.ok _;simp
theorem AU{us:List Int}{f at_ e:Nat}{ds:List FR}(h:¬us.length<=at_)(hd:rowAt us at_=.error e):j7 ds (c9 us (f+1) at_)=.error e:=by show j7 ds (if us.length<=at_ then _ else match rowAt us at_ with | .error e=>.error e | .ok d=>_)=_;rw[if_neg h,hd];rfl
theorem fE(u:Str)(a d f:Int):(fz u a d f).u=u:=by unfold fz;split<;>rfl
theorem ix(u:Str)(a d f:Int):dh (fz u a d f)=f:=by unfold fz dh;split<;>rfl
theorem jE(u:Str)(a d f:Int):(fz u a d f).ts=[d]:=by unfold fz;split<;>rfl
theorem J9{us:List Int}{at_:Nat}{h:Str×Int}{a low:Int}{d:FR}(h1:h∈heads)(e:lh us at_ h a low=.ok d):gY d/\d.ts.length<=16:=by
 have h01:=(by decide+kernel:∀h∈heads,h.2=0\/h.2=1) h h1;have key:∀n,d=fz h.1 a n h.2->gY d/\d.ts.length<=16:=fun n z=>by rw[z];exact⟨fun _=>by rw[ix];exact h01,by rw[jE];exact(by decide:1<=16)⟩
 unfold lh at e;by_cases z:h.2=0
 ·rw[if_pos z]at e;cases e;exact key _ rfl
 ·rw[if_neg z]at e;cases hn:us[at_+1]? with
  | none=>rw[hn]at e;cases e
  | some n=>
   rw[hn]at e;cases e;exact key _ rfl
theorem CN{us:List Int}{at_:Nat}{d:FR}(e:rowAt us at_=.ok d):gY d/\d.ts.length<=16:=by
 unfold rowAt at e;cases hn:us[at_]? with
 | none=>rw[hn]at e;cases e
 | some u=>
  rw[hn]at e;have e:(if 0<=u/\u<25600 then (match heads[(u/1024).toNat]? with | none=>.error at_ | some h=>gn us at_ h (u % 1024/128) (u % 128))else .error at_)=Except.ok d:=e;split at e
  ·cases hh:heads[(u/1024).toNat]? with
   | none=>rw[hh]at e;cases e
   | some h=>
    rw[hh]at e;have hm:=ag hh;have e:gn us at_ h (u % 1024/128) (u % 128)=.ok d:=e;unfold gn at e;split at e
    ·split at e
     ·unfold tabAt at e;cases hk:us[at_+1]? with
      | none=>rw[hk]at e;cases e
      | some n=>
       rw[hk]at e;have e:(if 1<=n/\n<=16 then (if us.length<at_+2+n.toNat then .error us.length else .ok ⟨"table",[u % 1024/128],(us.drop (at_+2)).take n.toNat⟩)else .error (at_+1))=Except.ok d:=e;split at e
       ·split at e
        ·cases e
        ·cases e;exact⟨fun z=>absurd z (by show ¬("table": Str)∈five;decide),by show((us.drop (at_+2)).take n.toNat).length<=16;rw[length_take];omega⟩
       ·cases e
     ·split at e
      ·exact J9 hm e
      ·rename_i h5;split at e
       ·cases e;exact⟨fun z=>absurd z h5,zero_le _⟩
       ·cases hp:dt us at_ (u % 1024/128) (aZ h.1)with
        | error x=>rw[hp]at e;cases e
        | ok l=>
         rw[hp]at e;cases e;exact⟨fun z=>absurd z h5,zero_le _⟩
    ·cases e
  ·cases e
theorem oi{d:FR}(h:gY d):1<=jB d:=by
 unfold jB;split
 ·omega
 ·split
  ·rename_i h1 h2;rcases h h2 with z | z<;>omega
  ·split<;>omega
def tI(di:Addr)(r:Except Nat (List FR))(H:Hp)(Q:VK)(E:XK):Prop:=match r with
 | .ok ds=>∀(l:Addr) (H':Hp),Same H H'->H l=none->dz H' l ds->Q (.ref l) H'
 | .error e=>vz di e H E
def iy(d:FR)(ts:List Int):FR:=if d.u ="table"then ⟨"table",d.is,ts⟩else if d.u∈gk then ⟨d.u,[ts.headD 0,dh d],[ts.headD 0]⟩else if d.u∈zb then ⟨d.u,[d.is.headD 0,ts.headD 0,dh d],[ts.headD 0]⟩else d
def w6:Sp:=fun vs H Q _=>∃(q:Addr) (d:FR),vs=[.ref q]/\bZ H q d/\Q (.bl (!decide (d.u∈iT))) H
theorem Nx:aE ["row"] ["row"] (ak sO):=by walk_at "sc1"
theorem E6{f:Addr}{fd:ed}(F:cr K "goes_on" "goes_on" sO f fd)(T:Txt K w.params mg):aD P w K mg base cm 1 f fd ["row"] w6:=by
 refine F.ok Nx (by walk_at "ln") (fun cdv A outer s H vs Q E hr h=>?_)
 ·obtain⟨q,d,rfl,hR,k⟩:=h;obtain⟨pn,hpn,hnS⟩:=T.non;obtain⟨Jz,i1,_⟩:=hR.parts;refine⟨_,(az (aC (cO ko (aF aY (pv 0) ah (fun _ _=>rfl)) (bp (v:=.ref pn) (by rfl) hpn rfl) rfl))),?_⟩;refine⟨_,rfl,q,_,0,_,rfl,rfl,bz.of i1,at0 _ _,pn,iT.map V.str,rfl,.inr (hnS _),rfl,rfl,?_⟩;rw[show inV (.str d.u) (iT.map V.str)=decide (d.u∈iT)from dS _ _];exact k
def yV:Sp:=fun vs H Q _=>∃(q lt:Addr) (d:FR) (ts:List Int),vs=[.ref q,.ref lt]/\bZ H q d/\H lt=some (.lst (ts.map V.int))/\ts.length=d.ts.length/\∀(p:Addr) (H':Hp),Same H H'->bZ H' p (iy d ts)->Q (.ref p) H'
theorem HI:aE ["row","targets","word"] ["row","targets"] (ak wL):=by walk_at "sc1"
theorem CO{f:Addr}{fd:ed}(F:cr K "with_targets" "with_targets" wL f fd)(T:Txt K w.params mg):aD P w K mg base cm 1 f fd ["row","targets"] yV:=by
 refine F.ok HI (by walk_at "ln") (fun cdv A outer s H vs Q E hr h=>?_)
 ·obtain⟨q,lt,d,ts,rfl,hR,ht,htl,k⟩:=h;obtain⟨Jz,i1,_⟩:=hR.parts
  refine⟨_,(aq (aI (i:=2) HI.nd rfl (Or.inl rfl) (aF aY (pv 0) ah (fun _ _=>rfl)))
   (aq (cN (aJ cT (pv 2) aW (aQ _)) (az (aC (cG (ae (pv 2) (ae (aF aY (pv 0) ah (fun _ _=>rfl)) (ae (cw cZ (by rfl) T.tuple d7 (ae (pv 1) af)) af)))))) aO)
   (aq (cN (aJ cy (pv 2) (cG (ae aW (ae aW (ae aW af)))) rfl) (az (aC (cG (ae (pv 2) (ae (aF aK (pv 1) ah (fun _ _=>rfl)) (ae (aF aY (pv 0) ah (fun _ _=>rfl)) af)))))) aO)
   (aq (cN (aJ cy (pv 2) (cG (ae aW (ae aW af))) rfl) (az (aC (cG (ae (pv 2) (ae (aF aY (pv 0) ah (fun _ _=>rfl)) (ae (aF aK (pv 1) ah (fun _ _=>rfl)) (ae (aF aY (pv 0) ah (fun _ _=>rfl)) af))))))) aO)
   (az (aC (pv 0))))))),?_⟩
  unfold iy at k;refine⟨_,rfl,q,_,0,.str d.u,rfl,rfl,bz.of i1,at0 _ _,_,rfl,rfl,_,rfl,?_⟩;refine dk (fun e=>?_) (fun e=>?_)
  ·have e:=strEq e;rw[if_pos e]at k;rcases hR.2 with ⟨_,b,p,eis,g1,g2⟩ | ⟨a,_⟩
   ·refine⟨_,rfl,_,rfl,q,_,1,.int b,rfl,rfl,bz.of g1,at1 _ _ _,_,rfl,lt,_,rfl,.inl ⟨aV.of ht,fun t nt=>⟨kX,fun p' np=>?_⟩⟩⟩;rw[eis,]at k;refine k p' _ ((aj nt).trans (aj np)) (l0 ?_ (aj np _ _ ai));rw[ai,e]
   ·exact absurd e a
  ·have e:=rA e;rw[if_neg e]at k;refine⟨_,rfl,kX,fun t0 SM=>⟨t0,gk.map V.str,rfl,.inr (bz.of ai),rfl,rfl,_,rfl,?_⟩⟩;have s0:=aj (o:=.tup [V.str "jump",V.str "call",V.str "mark"]) SM;rw[show inV (.str d.u) (gk.map V.str)=decide (d.u∈gk)from dS _ _];generalize upd H t0 (.tup [V.str "jump",V.str "call",V.str "mark"])=G0 at s0 ⊢;refine dk (fun ej=>?_) (fun ej=>?_)
   ·have ej:=of_decide_eq_true ej;rw[if_pos ej]at k;obtain⟨tt,ff,e1,e2⟩:=hR.1.2.2.1 ej;rw[e2]at htl;obtain⟨x,hx⟩:=length_eq_one_iff.mp htl;subst hx;rcases hR.2 with ⟨a,_⟩ | ⟨_,g1⟩
    ·exact absurd a e
    have Q7:H q=some (.tup [.str d.u,.int tt,.int ff]):=by rw[g1,e1];rfl
    refine⟨_,rfl,_,rfl,lt,_,0,.int x,rfl,rfl,aV.of (s0 _ _ ht),at0 _ _,_,rfl,q,_,2,.int ff,rfl,rfl,bz.of (s0 _ _ Q7),at2 _ _ _ _,kX,fun p np=>?_⟩;have hf:dh d=ff:=by unfold dh;rw[e1];rfl
    rw[hf]at k;exact k p _ (s0.trans (aj np)) (jD ej ai)
   ·have ej:¬d.u∈gk:=fun z=>ej (decide_eq_true z);rw[if_neg ej]at k;refine⟨_,rfl,bq,fun t1 J7=>⟨t1,zb.map V.str,rfl,.inr (bz.of ai),rfl,rfl,_,rfl,?_⟩⟩;have s1:=s0.trans (aj (o:=.tup [V.str "zero",V.str "below"]) J7);rw[show inV (.str d.u) (zb.map V.str)=decide (d.u∈zb)from dS _ _];generalize upd G0 t1 (.tup [V.str "zero",V.str "below"])=G1 at s1 ⊢;refine dk (fun ez=>?_) (fun ez=>?_)
    ·have ez:=of_decide_eq_true ez;rw[if_pos ez]at k;obtain⟨bb,tt,ff,e1,e2⟩:=hR.1.2.2.2.1 ez;rw[e2]at htl;obtain⟨x,hx⟩:=length_eq_one_iff.mp htl;subst hx;rcases hR.2 with ⟨a,_⟩ | ⟨_,g1⟩
     ·exact absurd a e
     have Q7:H q=some (.tup [.str d.u,.int bb,.int tt,.int ff]):=by rw[g1,e1];rfl
     refine⟨_,rfl,_,rfl,q,_,1,.int bb,rfl,rfl,bz.of (s1 _ _ Q7),at1 _ _ _,_,rfl,lt,_,0,.int x,rfl,rfl,aV.of (s1 _ _ ht),at0 _ _,_,rfl,q,_,3,.int ff,rfl,rfl,bz.of (s1 _ _ Q7),rfl,B5,fun p np=>?_⟩;have hf:dh d=ff:=by unfold dh;rw[e1];rfl
     rw[hf,e1]at k;exact k p _ (s1.trans (aj np)) (lZ ez ai)
    ·rw[if_neg (fun z=>ez (decide_eq_true z))]at k;exact⟨_,rfl,k q _ s1 (hR.same s1)⟩
def HJ(di:Addr):Sp:=fun vs H Q E=>∃(lu:Addr) (us:List Int),vs=[.ref lu]/\H lu=some (.lst (us.map V.int))/\us.length<=100000/\tI di (c9 us (us.length+1) 0) H Q E
theorem yW:aE ["units","rows","at"] ["units"] (ak tu):=by walk_at "sc1"
theorem Ka{f fR fS:Addr}{fd vC mZ:ed}(F:cr K "rows_with_distances" "rows_with_distances" tu f fd)(T:Txt K w.params mg)(GR:aD P w K mg base (eU P w) 6 fR vC ["units","at"] (HF di))(kR:KI K fR)(bR:Binds K vC ["units","at"] [])(mR:mg "row_at"=some (.ref fR))(GS:aD P w K mg base cm 2 fS mZ ["row"] wY)(kS:KI K fS)(bS:Binds K mZ ["row"] [])(mS:mg "size_of"=some (.ref fS)):aD P w K mg base (eU P w) 7 f fd ["units"] (HJ di):=by
 refine F.D2 yW (by walk_at "ln") (fun cdv A outer s H vs Q E hr h=>?_)
 ·obtain⟨lu,us,rfl,hu,hl,k⟩:=h;have hrS:=hr.mono (show 2<=_ by decide)
  refine⟨_,(aq (aI (i:=1) yW.nd rfl (Or.inl rfl) (cD af))
   (aq (aI (i:=2) yW.nd rfl (Or.inl rfl) ah)
   (aq (oz PassesOwn.leaving (aJ mV (pv 2) (aN aM (by rfl) T.len cE (ae (pv 0) af)) (aQ _)) (aq (cC (dg fv fw gf bV (pv 1) (ae (ao GR hr (by rfl) mR kR bR .nil ie (ae (pv 0) (ae (pv 2) af))) af)))
   (az (aI (i:=2) yW.nd rfl (Or.inl rfl) (aA bg (pv 2) (ao GS hrS (by rfl) mS kS bS .nil aS (ae (aF aK (pv 1) (eY dG ah) (fun _ _=>rfl)) af)))))))
   (az (aC (pv 1)))))),?_⟩
  refine⟨zle,fun la D5=>?_⟩;have s0:=aj (o:=.lst []) D5;have h0:upd H la (.lst []) la=some (.lst (([]:List Addr).map V.ref)):=ai;generalize upd H la (.lst [])=G0 at s0 h0 ⊢;refine⟨fun mm σ G=>∃(at_:Nat) (qs:List Addr) (ds:List FR),σ=[some (.ref lu),some (.ref la),some (.int (at_:Int))]/\Same H G/\G la=some (.lst (qs.map V.ref))/\(qs.length=ds.length/\∀(i:Nat) q d,qs[i]? =some q->ds[i]? =some d->bZ G q d)/\c9 us (us.length+1) 0=j7 ds (c9 us mm at_)/\us.length<at_+mm/\ds.length<=at_/\(ds.length<=us.length),⟨us.length+1,0,[],[],rfl,s0,h0,⟨rfl,fun i q d g=>by simp at g⟩,?_,by omega,zero_le _,zero_le _⟩,?_⟩
  ·cases c9 us (us.length+1) 0<;>rfl
  rintro mm σ G ⟨at_,qs,ds,rfl,s1,hla,hR,hrd,hf,hda,hdu⟩;refine⟨_,rfl,_,rfl,lu,_,rfl,.inl (aV.of (s1 _ _ hu)),_,_,rfl,rfl,_,rfl,?_⟩;rw[length_map];refine dk (fun e=>?_) (fun e=>?_)
  ·have e:=of_decide_eq_true e;have hlt:at_<us.length:=by omega
   have XT:¬us.length<=at_:=by omega
   obtain⟨f0,rfl⟩:∃f0,mm=f0+1:=⟨mm-1,by omega⟩;refine⟨fun σ' G'=>∃(at2:Nat) (qs:List Addr) (ds:List FR),σ'=[some (.ref lu),some (.ref la),some (.int (at2:Int))]/\Same H G'/\G' la=some (.lst (qs.map V.ref))/\(qs.length=ds.length/\∀(i:Nat) q d,qs[i]? =some q->ds[i]? =some d->bZ G' q d)/\c9 us (us.length+1) 0=j7 ds (c9 us f0 at2)/\us.length<at2+f0/\ds.length<=at2/\ds.length<=us.length,?_,?_⟩
   ·rintro σ' G' ⟨at2,qs,ds,rfl,a1,a2,a3,a4,a5,a6,a7⟩;exact⟨f0,by omega,at2,qs,ds,rfl,a1,a2,a3,a4,a5,a6,a7⟩
   refine⟨_,rfl,.inl ⟨rfl,_,aV.of hla⟩,_,rfl,_,rfl,lu,us,at_,rfl,s1 _ _ hu,by omega,by omega,?_⟩;cases hrow:rowAt us at_ with
   | error e'=>
    rw[AU XT hrow]at hrd;rw[hrd]at k;intro H' d s' hd;exact k H' d (s1.trans s') hd
   | ok d=>
    rw[CM XT hrow]at hrd;have hsz:=oi (CN hrow).1;intro p G2 s2 hp;have Kb:=s2 _ _ hla;refine⟨la,_,_,rfl,rfl,Kb,aT (by rw[length_map,hR.1];omega),?_⟩;have eQ:qs.map V.ref++ [V.ref p]=(qs++ [p]).map V.ref:=by rw[map_append];rfl
    rw[eQ];have hp3:bZ (upd G2 la (.lst ((qs++ [p]).map V.ref))) p d:=hp.put Kb;refine⟨_,rfl,_,rfl,_,rfl,la,_,-1,.ref p,rfl,rfl,aV.of ai,Cp (by rw[length_map,length_append,length_singleton,ac];simp),p,d,rfl,hp3,_,_,rfl,rfl,?_⟩;obtain⟨sn,hsn⟩:=Int.eq_ofNat_of_zero_le (show 0<=jB d by omega);rw[hsn]at hsz;refine⟨at_+sn,qs++ [p],ds++ [d],by show _=[some (V.ref lu),some (V.ref la),some (V.int ((at_+sn:Nat):Int))];rw[hsn];rfl,aL (s1.trans s2) D5,ai,⟨by rw[length_append,length_append,hR.1];rfl,fun i q d' g1 g2=>?_⟩,?_,by omega,by rw[length_append];show ds.length+1<=_;omega,by rw[length_append];show ds.length+1<=_;omega⟩
    ·by_cases hi:i<qs.length
     ·rw[ap hi]at g1;rw[ap (by rw[<-hR.1];exact hi)]at g2;exact((hR.2 i q d' g1 g2).same s2).put Kb
     ·have h9:=(ad.mp g1).1;rw[length_append,length_singleton]at h9;have ei:i=qs.length:=by omega
      subst ei;rw[show(qs++ [p])[qs.length]? =some p by simp]at g1;rw[hR.1,show(ds++ [d])[ds.length]? =some d by simp]at g2;cases g1;cases g2;exact hp3
    ·rw[hrd,hsn];rfl
  ·have e:us.length<=at_:=by have:¬(at_:Int)< ((us.length:Nat):Int):=fun z=>e (decide_eq_true z);omega
   rw[rG e]at hrd;have hrd:c9 us (us.length+1) 0=.ok ds:=by rw[hrd];show Except.ok (ds++ [])=_;rw[append_nil]
   rw[hrd]at k;exact⟨_,rfl,k la _ s1 D5 ⟨qs,hla,hR.1,hR.2⟩⟩
def Bg(ds:List FR):Nat->Int->Option Nat
 | 0,_=>none
 | n+1,x=>if beg ds n=x then some n else Bg ds n x
def HK:Option Nat->V
 | none=>.non
 | some r=>.int (r:Int)
def jK(ds:List FR)(n r:Nat)(d:FR):List (Option Nat):=d.ts.map fun x=>Bg ds n (beg ds (r+1)+x)
def jm(ds:List FR)(r:Nat)(d:FR):Bool:=decide (none∈jK ds ds.length r d)||(decide (r+1=ds.length)&& !decide (d.u∈iT))
def qz(ds:List FR)(r:Nat)(d:FR):FR:=iy d ((jK ds ds.length r d).map fun o=>((o.getD 0:Nat):Int))
def jL(ds:List FR):Nat->List FR->Except Nat (List FR)
 | _,[]=>.ok []
 | r,d::l=>if jm ds r d=true then .error (beg ds r).toNat else match jL ds (r+1) l with
  | .error e=>.error e
  | .ok m=>.ok (qz ds r d::m)
def om(us:List Int):Except Nat (List FR):=if us=[]then .error 0 else match c9 us (us.length+1) 0 with
 | .error e=>.error e
 | .ok ds=>jL ds 0 ds
theorem E7(os:List (Option Nat)):inV .non (os.map HK)=decide (none∈os):=by
 induction os with
 | nil=>rfl
 | cons o os ih=>
  unfold inV at ih ⊢;rw[map_cons,any_cons,ih];cases o with
  | none=>simp[HK,D1]
  | some r=>simp[HK,D1]
theorem tJ:∀{os:List (Option Nat)},¬none∈os->os.map HK=(os.map fun o=>((o.getD 0:Nat):Int)).map V.int
 | [],_=>rfl
 | none::os,h=>absurd (mem_cons_self ..) h
 | some r::os,h=>by rw[map_cons,map_cons,map_cons,tJ (fun z=>h (mem_cons_of_mem _ z))];rfl
theorem Kc{ds:List FR}{r:Nat}{d:FR}{l m:List FR}(h:jm ds r d=false):j7 m (jL ds r (d::l))=j7 (m++ [qz ds r d]) (jL ds (r+1) l):=by
 show j7 m (if jm ds r d=true then _ else match jL ds (r+1) l with | .error e=>.error e | .ok k=>.ok (qz ds r d::k))=_;rw[if_neg (by rw[h];decide)];cases jL ds (r+1) l with
 | error e=>rfl
 | ok k=>show Except.ok _=Except.ok _;simp
theorem E8{ds:List FR}{r:Nat}{d:FR}{l m:List FR}(h:jm ds r d=true):j7 m (jL ds r (d::l))=.error (beg ds r).toNat:=by show j7 m (if jm ds r d=true then _ else _)=_;rw[if_pos h];rfl
theorem rH{us:List Int}:∀(f at_:Nat) (ds:List FR),c9 us f at_=.ok ds->∀d∈ds,gY d/\d.ts.length<=16
 | 0,_,ds,h=>by cases h;exact fun d hd=>(not_mem_nil hd).elim
 | f+1,at_,ds,h=>by
  have h:(if us.length<=at_ then .ok []else match rowAt us at_ with | .error e=>.error e | .ok d=>match c9 us f (at_+(jB d).toNat)with | .error e=>.error e | .ok l=>.ok (d::l))=Except.ok ds:=h;split at h
  ·cases h;exact fun d hd=>(not_mem_nil hd).elim
  ·cases hr:rowAt us at_ with
   | error e=>rw[hr]at h;cases h
   | ok d=>
    rw[hr]at h;have h:(match c9 us f (at_+(jB d).toNat)with | .error e=>.error e | .ok l=>.ok (d::l))=Except.ok ds:=h;cases hl:c9 us f (at_+(jB d).toNat)with
    | error e=>rw[hl]at h;cases h
    | ok l=>
     rw[hl]at h;cases h;intro x hx;rcases mem_cons.mp hx with rfl | hx
     ·exact CN hr
     ·exact rH f _ l hl x hx
theorem rJ{us:List Int}:∀(f at_:Nat) (ds:List FR),c9 us f at_=.ok ds->ds.length<=f
 | 0,_,ds,h=>by cases h;exact le_refl _
 | f+1,at_,ds,h=>by
  have h:(if us.length<=at_ then .ok []else match rowAt us at_ with | .error e=>.error e | .ok d=>match c9 us f (at_+(jB d).toNat)with | .error e=>.error e | .ok l=>.ok (d::l))=Except.ok ds:=h;split at h
  ·cases h;exact zero_le _
  ·cases hr:rowAt us at_ with
   | error e=>rw[hr]at h;cases h
   | ok d=>
    rw[hr]at h;have h:(match c9 us f (at_+(jB d).toNat)with | .error e=>.error e | .ok l=>.ok (d::l))=Except.ok ds:=h;cases hl:c9 us f (at_+(jB d).toNat)with
    | error e=>rw[hl]at h;cases h
    | ok l=>
     rw[hl]at h;cases h;have:=rJ f _ l hl;rw[length_cons];omega
theorem oo{ds:List FR}(h:∀d∈ds,gY d/\d.ts.length<=16):∀j,j<=ds.length->0<=beg ds j/\beg ds j<=18*(j:Int)
 | 0,_=>by simp[beg]
 | j+1,hj=>by
  have ih:=oo h j (by omega);have hd:ds[j]? =some ds[j]:=aa (by omega);have hf:=h ds[j] (ba _);have h1:=oi hf.1;have h2:jB ds[j] <=18:=by
   unfold jB;split
   ·have:=hf.2;omega
   ·split
    ·rename_i a b;rcases hf.1 b with z | z<;>omega
    ·split<;>omega
  rw[dB hd]
  push_cast
  omega
def vD(G G':Hp)(la:Addr):Prop:=∀a o,G a=some o->a≠la->G' a=some o
theorem bZ.keep{G G':Hp}{la q:Addr}{d:FR}{xs:List V}(h:bZ G q d)(kk:vD G G' la)(hl:G la=some (.lst xs)):bZ G' q d:=by
 have ne:∀(a:Addr) (ys:List V),G a=some (.tup ys)->a≠la:=fun a ys e z=>by rw[z,hl]at e;cases e
 refine⟨h.1,?_⟩;rcases h.2 with ⟨a,b,p,e,h1,h2⟩ | ⟨a,h1⟩
 ·exact .inl ⟨a,b,p,e,kk _ _ h1 (ne _ _ h1),kk _ _ h2 (ne _ _ h2)⟩
 ·exact .inr ⟨a,kk _ _ h1 (ne _ _ h1)⟩
theorem E9(o:Option Nat):(o.map fun r:Nat=>V.int (r:Int)).getD .non=HK o:=by cases o<;>rfl
def CP(di:Addr):Sp:=fun vs H Q E=>∃(lu:Addr) (us:List Int),vs=[.ref lu]/\H lu=some (.lst (us.map V.int))/\us.length<=50000/\tI di (om us) H Q E
theorem ni:aE ["units","rows","begins","numbers","r","read","row","targets"] ["units"] (ak nZ):=by walk_at "sc1"
def Fb:Scope:={kind:=.function,names:=[(".0",.local),("distance",.local),("begins",.free),("numbers",.free),("r",.free)],isGenerator:=false,isCoroutine:=false,more:=[]}
theorem yX:cS (ak nZ) Fb ["units","rows","begins","numbers","r","read","row","targets"] ["distance","numbers","begins","r"] [none,some 3,some 2,some 4]:=by walk_at "sc2"
theorem Kd{f fR fB fT fO fW:Addr}{fd vC yN vo yZ nh:ed}(F:cr K "rows_of_units" "rows_of_units" nZ f fd)(T:Txt K w.params mg)(GR:aD P w K mg base (eU P w) 7 fR vC ["units"] (HJ di))(kR:KI K fR)(bR:Binds K vC ["units"] [])(mR:mg "rows_with_distances"=some (.ref fR))(GB:aD P w K mg base cm 3 fB yN ["rows"] k9)(kB:KI K fB)(bB:Binds K yN ["rows"] [])(mB:mg "begins_of"=some (.ref fB))(GT:aD P w K mg base cm 1 fT vo ["row"] iw)(kT:KI K fT)(bT:Binds K vo ["row"] [])(mT:mg "targets_of"=some (.ref fT))(GO:aD P w K mg base cm 1 fO yZ ["row"] w6)(kO:KI K fO)(bO:Binds K yZ ["row"] [])(mO:mg "goes_on"=some (.ref fO))(GW:aD P w K mg base cm 1 fW nh ["row","targets"] yV)(kW:KI K fW)(bW:Binds K nh ["row","targets"] [])(mW:mg "with_targets"=some (.ref fW))(cx:gu K di R fI)(kC:KI K di)(GI:aD P w K mg base cm 1 fI rC ["self","at"] (o7 di))(bI:Binds K rC ["self","at"] [])(vy:mg "NoUnits"=some (.ref di)):aD P w K mg base (eU P w) 8 f fd ["units"] (CP di):=by
 refine F.D2 ni (by walk_at "ln") (fun cdv A outer s H vs Q E hr h=>?_)
 ·obtain⟨lu,us,rfl,hu,hl,k⟩:=h;have JX:=hr.mono (show 3<=_ by decide);have SN:=hr.mono (show 1<=_ by decide);have CG:=hr.mono (show 2<=_ by decide);have hu1:=hr.u 1;have hu':=hu1
  refine⟨_,(aq (cN (iS (dD (bQ (aN dm (by rfl) T.Hs jh (ae (pv 0) (ae (gQ (v:=.ty "list") (by rfl) T.list iM rfl) af))))) (ia (aJ cT (aN aM (by rfl) T.len cE (ae (pv 0) af)) ah (aQ _)))).pt (az (dX cx kC GI bI CG vy (by rfl) (ae ah af))) aO)
   (aq (aI (i:=1) ni.nd rfl (Or.inl rfl) (ao GR hr (by rfl) mR kR bR .nil ie (ae (pv 0) af)))
   (aq (aI (i:=2) ni.nd rfl (Or.inr rfl) (ao GB JX (by rfl) mB kB bB .nil aS (ae (pv 1) af)))
   (aq (aI (i:=3) ni.nd rfl (Or.inr rfl) oR)
   (aq (eE PassesOwn.leaving rfl (ip rfl T.range (ae (aN aM (by rfl) T.len cE (ae (pv 1) af)) af)) (cq (i:=4) ni.nd rfl (Or.inr rfl)) (az (kr hu1 (pv 3) (aF aK (pv 2) (pv 4) (fun _ _=>rfl)) (pv 4) rfl)))
   (aq (aI (i:=5) ni.nd rfl (Or.inl rfl) (cD af))
   (aq (eE PassesOwn.leaving rfl (fX rfl T.enum (ae (pv 1) af)) (gA (K:=K) (i:=4) (j:=6) rfl rfl ni.nd rfl (Or.inr rfl) rfl (Or.inl rfl)) (aq (sI (i:=7) (N':=["distance","numbers","begins","r"]) (fr:=[none,some 3,some 2,some 4]) ni.nd rfl rfl yX rfl (eP (ao GT SN (by rfl) mT kT bT .nil aS (ae (pv 6) af))) (fun C s0 H0 fp=>(cq (i:=0) yX.nd rfl (Or.inl rfl))) (fun C s0 H0 fp=>dr) (fun C s0 H0 fp=>(BE hu1 (pv 1) (aA bg (aF (r:=uU K) aK (pv 2) (aA bg (pv 3) ah) (fun _ _=>rfl)) (pv 0)) ⟨rfl,rfl,rfl,rfl⟩)))
   (aq (cN (iS (aJ cy iG (pv 7) rfl) (ia (gq (aJ cT (pv 4) (aA dY (aN aM (by rfl) T.len cE (ae (pv 1) af)) ah) (aQ _)) (gR (bQ (ao GO SN (by rfl) mO kO bO .nil aS (ae (pv 6) af))))).pt)).pt (az (dX cx kC GI bI CG vy (by rfl) (ae (aF aK (pv 2) (pv 4) (fun _ _=>rfl)) af))) aO)
   (az (cC (dg fv fw gf bV (pv 5) (ae (ao GW SN (by rfl) mW kW bW .nil aS (ae (pv 6) (ae (pv 7) af))) af)))))))
   (az (aC (pv 5)))))))))),?_⟩
  unfold om at k;refine⟨_,rfl,_,_,_,_,rfl,.lst hu,mY,_,rfl,bu (by decide) ?_⟩;refine⟨_,rfl,lu,_,rfl,.inl (aV.of hu),rfl,_,rfl,?_⟩;rw[length_map];by_cases h0:us=[]
  ·rw[if_pos h0]at k;refine bY (by rw[h0];decide) ?_;exact⟨_,rfl,by decide,fun d nd=>k _ d (aj nd) ai⟩
  rw[if_neg h0]at k;refine bu (by simp[h0]) ?_;refine⟨_,rfl,lu,us,rfl,hu,by omega,?_⟩;cases hrd:c9 us (us.length+1) 0 with
  | error e=>
   rw[hrd]at k;exact k
  | ok ds=>
   rw[hrd]at k;have pN:=rH _ _ _ hrd;have k:tI di (jL ds 0 ds) H Q E:=k;intro lr G1 s1 nlr hR;have hdl:=rJ _ _ _ hrd;obtain⟨qs,r1,r2,r3⟩:=id hR;refine⟨_,rfl,lr,ds,rfl,hR,by omega,fun lb G2 t2 XM hlb=>?_⟩;have s2:=s1.trans t2
   replace r1:=t2 _ _ r1
   refine fun pd Bh=>?_;have s3:=s2.trans (aj (o:=.dK []) Bh);have SO:H pd=none:=s2.free Bh;have u3:=t2.trans (aj (o:=.dK []) Bh)
   replace hlb:=aj (o:=.dK []) Bh _ _ hlb
   replace r1:=aj (o:=.dK []) Bh _ _ r1
   have hpd:upd G2 pd (.dK []) pd=_:=ai;generalize upd G2 pd (.dK [])=G3 at s3 u3 hlb r1 hpd ⊢;have SQ:lb≠pd:=fun z=>by rw[z,hpd]at hlb;cases hlb
   have SR:lr≠pd:=fun z=>by rw[z,hpd]at r1;cases r1
   have Q8:∀n:Nat,n<=ds.length->kc ((eB ds ds.length).map V.int) (n:Int)=some (.int (beg ds n)):=fun n hn=>ck (by rw[ac,oa hn];rfl);refine⟨_,rfl,lr,_,rfl,.inl (aV.of r1),?_⟩;rw[length_map,r2];refine⟨_,rfl,by omega,by omega,?_⟩;refine jw (lo:=0) (n:=((ds.length:Nat):Int).toNat) (fun i σ G=>∃(v4:Option V) (kvs:List (Key×V)),σ=[some (.ref lu),some (.ref lr),some (.ref lb),some (.ref pd),v4,none,none,none]/\Same H G/\G lb=some (.lst ((eB ds ds.length).map V.int))/\G lr=some (.lst (qs.map V.ref))/\(∀(i:Nat) q d,qs[i]? =some q->ds[i]? =some d->bZ G q d)/\G pd=some (.dK kvs)/\(∀x,eA kvs (Sum.inl x)=(Bg ds i x).map fun r:Nat=>V.int (r:Int))/\kvs.length<=i) ?_ ?_ ?_
   ·exact⟨none,[],rfl,s3,hlb,r1,fun i q d a b=>((r3 i q d a b).same u3),hpd,fun x=>rfl,le_refl _⟩
   ·rintro i σ G hi ⟨v4,kvs,rfl,t4,hlb,r1,hrw,hpd,hval,hkl⟩;have hi:i<ds.length:=by rw[le]at hi;exact hi
    have e0:(0:Int)+(i:Int)=(i:Int):=by omega
    rw[e0];refine⟨_,rfl,_,rfl,_,rfl,_,rfl,lb,_,_,.int (beg ds i),rfl,rfl,aV.of hlb,Q8 i (by omega),pd,_,rfl,uW.k (k:=Sum.inl (beg ds i)) hpd (aT (by omega)),?_⟩;refine⟨_,_,rfl,aL t4 SO,by rw[aG SQ];exact hlb,by rw[aG SR];exact r1,fun j q d a b=>?_,ai,fun x=>?_,?_⟩
    ·have hq:=hrw j q d a b;have ne:∀(a:Addr) (ys:List V),G a=some (.tup ys)->a≠pd:=fun a ys e z=>by rw[z,hpd]at e;cases e
     refine⟨hq.1,?_⟩;rcases hq.2 with ⟨a,b,p,e,h1,h2⟩ | ⟨a,h1⟩
     ·exact .inl ⟨a,b,p,e,by rw[aG (ne _ _ h1)];exact h1,by rw[aG (ne _ _ h2)];exact h2⟩
     ·exact .inr ⟨a,by rw[aG (ne _ _ h1)];exact h1⟩
    ·rw[By];show(if Sum.inl x=Sum.inl (beg ds i)then _ else _)=(if beg ds i=x then some i else Bg ds i x).map _;by_cases z:beg ds i=x
     ·rw[if_pos z,if_pos (by rw[z])];rfl
     ·rw[if_neg z,if_neg (fun y=>z (Sum.inl.inj y).symm)];exact hval x
    ·exact le_trans (jc _ _ _) (by omega)
   ·rintro σ G ⟨v4,kvs,rfl,t4,hlb,r1,hrw,hpd,hval,hkl⟩;rw[le]at hval;refine⟨zle,fun la D5=>?_⟩;have s5:=t4.trans (aj (o:=.lst []) D5);have Ny:H la=none:=t4.free D5;have h5:upd G la (.lst []) la=some (.lst (([]:List Addr).map V.ref)):=ai;have nR:lr≠la:=fun z=>by rw[z,D5]at r1;cases r1
    have nB:lb≠la:=fun z=>by rw[z,D5]at hlb;cases hlb
    have nP:pd≠la:=fun z=>by rw[z,D5]at hpd;cases hpd
    have u5:=aj (o:=.lst []) D5
    replace hlb:=u5 _ _ hlb
    replace r1:=u5 _ _ r1
    replace hpd:=u5 _ _ hpd
    replace hrw:∀(i:Nat) q d,qs[i]? =some q->ds[i]? =some d->bZ (upd G la (.lst [])) q d:=fun i q d a b=>(hrw i q d a b).same u5
    clear u5;generalize upd G la (.lst [])=G5 at s5 h5 hlb r1 hpd hrw ⊢;refine⟨_,rfl,lr,rfl,⟨_,aV.of r1⟩,eZ (K:=K) (xs:=qs.map V.ref) (fun i σ G=>∃(v4 v6 v7:Option V) (ps:List Addr) (ms:List FR),σ=[some (.ref lu),some (.ref lr),some (.ref lb),some (.ref pd),v4,some (.ref la),v6,v7]/\Same H G/\vD G5 G la/\G la=some (.lst (ps.map V.ref))/\(ps.length=ms.length/\∀(j:Nat) q d,ps[j]? =some q->ms[j]? =some d->bZ G q d)/\jL ds 0 ds=j7 ms (jL ds i (ds.drop i))/\ms.length=i/\i<=ds.length) ?_ ?_ ?_ ?_⟩
    ·refine⟨_,none,none,[],[],rfl,s5,fun a o e n=>e,h5,⟨rfl,fun j q d g=>by simp at g⟩,?_,rfl,zero_le _⟩;rw[drop_zero];cases jL ds 0 ds<;>rfl
    ·rintro i σ G' _ ⟨v4,v6,v7,ps,ms,rfl,t6,k6,_⟩;exact aV.of (k6 _ _ r1 nR)
    ·rintro i x σ G' tt hx og ⟨v4,v6,v7,ps,ms,rfl,t6,k6,hla,hps,qA,hml,hid⟩;rw[ac]at hx;obtain⟨q,hq,rfl⟩:=map_eq_some_iff.mp hx;have hil:i<ds.length:=by have:=(ad.mp hq).1;omega
     have hd:ds[i]? =some ds[i]:=aa hil;have hdr:ds.drop i=ds[i]::ds.drop (i+1):=List.drop_eq_getElem_cons hil;have hfd:=pN ds[i] (ba hil);generalize ds[i]=d at hd hdr hfd;have hrow:=hrw i q d hq hd;have s7:=aj (o:=.tup [V.int i,V.ref q]) og;have t7:=t6.trans s7;have k7:vD G5 (upd G' tt (.tup [V.int i,V.ref q])) la:=fun a o e n=>s7 _ _ (k6 a o e n);have Nz:=s7 _ _ hla;have NA:∀(j:Nat) q' d',ps[j]? =some q'->ms[j]? =some d'->bZ (upd G' tt (.tup [V.int i,V.ref q])) q' d':=fun j q' d' a b=>(hps.2 j q' d' a b).same s7;have htt:upd G' tt (.tup [V.int i,V.ref q]) tt=_:=ai;generalize upd G' tt (.tup [V.int i,V.ref q])=G7 at s7 t7 k7 Nz NA htt ⊢;refine⟨tt,_,rfl,bz.of htt,rfl,_,_,rfl,_,_,rfl,rfl,?_⟩;have HL:=hrow.keep k7 h5;obtain⟨Jz,i1,_,i3,_⟩:=HL.parts;refine⟨_,rfl,q,d.u,d.ts,rfl,⟨Jz,i1,i3⟩,fun lt G8 s8 nlt hlt=>?_⟩;refine⟨lt,rfl,⟨_,aV.of hlt⟩,fun D nD=>eG (K:=K) (a:=lt) (xs:=d.ts.map V.int) (fun j σ ys Gx=>∃v:Option V,σ=[v,some (.ref pd),some (.ref lb),some (.int (i:Int))]/\ys=((jK ds ds.length i d).take j).map HK/\Same G8 Gx/\Gx D=some (.lst ys)) ?_ ?_ ?_ ?_⟩
     ·exact⟨none,rfl,rfl,aj nD,ai⟩
     ·rintro j σ ys Gx _ ⟨v,rfl,rfl,sx,_⟩;exact aV.of (sx _ _ hlt)
     ·rintro j x σ ys Gx hx ⟨v,rfl,rfl,sx,hD⟩;rw[ac]at hx;obtain⟨t,htj,rfl⟩:=map_eq_some_iff.mp hx;have hjl:=(ad.mp htj).1;have NB:=sx _ _ (s8 _ _ (k7 _ _ hpd nP));have SU:=sx _ _ (s8 _ _ (k7 _ _ hlb nB));have SV:(jK ds ds.length i d)[j]? =some (Bg ds ds.length (beg ds (i+1)+t)):=by unfold jK;rw[ac,htj];rfl
      refine⟨_,rfl,pd,rfl,.inl ⟨_,.inl NB⟩,_,rfl,_,rfl,_,_,rfl,rfl,lb,_,_,.int (beg ds (i+1)),rfl,rfl,aV.of SU,Q8 (i+1) (by omega),_,rfl,_,_,rfl,rfl,_,j0.k (k:=Sum.inl (beg ds (i+1)+t)) NB,hD,aT (by rw[length_map,length_take];have:=hfd.2;omega),_,rfl,?_,aL sx nD,ai⟩;rw[hval,E9,take_add_one,SV,map_append];rfl
     ·rintro σ ys Gx ⟨v,rfl,rfl,sx,hD⟩;rw[take_of_length_le (by unfold jK;rw[length_map,length_map];exact le_refl _)]at hD;have NC:=s8.trans sx;have kx:vD G5 Gx la:=fun a o e n=>NC _ _ (k7 a o e n);have tx:=t7.trans NC;have CQ:=HL.same NC;have CT:=NC _ _ Nz;have hall:((jK ds ds.length i d).map HK).all jR=true:=by rw[all_eq_true];intro y hy;obtain⟨o,_,rfl⟩:=mem_map.mp hy;cases o<;>rfl
      rw[hdr]at qA;have hbe:jm ds i d=true->vz di (beg ds i).toNat H E:=fun z=>by rw[E8 z]at qA;rw[qA]at k;exact k
      have hbp:=oo pN i (by omega);refine⟨_,rfl,D,_,rfl,.inl (aV.of hD),rfl,hall,_,rfl,?_⟩;rw[show inV .non ((jK ds ds.length i d).map HK)=decide (none∈jK ds ds.length i d)from E7 _];have raise:jm ds i d=true->(beg ds i).natAbs<10^12/\∀dd,Gx dd=none->E (.ref di) (some dd) (upd Gx dd (.xd [("at",.int (beg ds i))])):=fun z=>by refine⟨by omega,fun dd nd=>hbe z _ dd (tx.trans (aj nd)) ?_⟩;rw[ai,show(((beg ds i).toNat:Nat):Int)=beg ds i by omega]
      have good:jm ds i d=false->∀(p:Addr) (Gy:Hp),Same Gx Gy->bZ Gy p (qz ds i d)->∃(v4 v6 v7:Option V) (ps':List Addr) (CB:List FR),([some (.ref lu),some (.ref lr),some (.ref lb),some (.ref pd),some (.int (i:Int)),some (.ref la),some (.ref q),some (.ref D)]:St)=[some (.ref lu),some (.ref lr),some (.ref lb),some (.ref pd),v4,some (.ref la),v6,v7]/\Same H (upd Gy la (.lst ((ps++ [p]).map V.ref)))/\vD G5 (upd Gy la (.lst ((ps++ [p]).map V.ref))) la/\upd Gy la (.lst ((ps++ [p]).map V.ref)) la=some (.lst (ps'.map V.ref))/\(ps'.length=CB.length/\∀(j:Nat) q d,ps'[j]? =some q->CB[j]? =some d->bZ (upd Gy la (.lst ((ps++ [p]).map V.ref))) q d)/\jL ds 0 ds=j7 CB (jL ds (i+1) (ds.drop (i+1)))/\CB.length=i+1/\i+1<=ds.length:=fun z p Gy sy hp=>by
       rw[Kc z]at qA;have hlay:=sy _ _ CT;refine⟨_,_,_,ps++ [p],ms++ [qz ds i d],rfl,aL (tx.trans sy) Ny,fun a o e n=>by rw[aG n];exact sy _ _ (kx a o e n),ai,⟨by rw[length_append,length_append,hps.1];rfl,fun j q' d' g1 g2=>?_⟩,qA,by rw[length_append,hml];rfl,by omega⟩;by_cases hj:j<ps.length
       ·rw[ap hj]at g1;rw[ap (by rw[<-hps.1];exact hj)]at g2;exact(((NA j q' d' g1 g2).same NC).same sy).put hlay
       ·have h9:=(ad.mp g1).1;rw[length_append,length_singleton]at h9;have ei:j=ps.length:=by omega
        subst ei;rw[show(ps++ [p])[ps.length]? =some p by simp]at g1;rw[hps.1,show(ms++ [qz ds i d])[ms.length]? =some (qz ds i d) by simp]at g2;cases g1;cases g2;exact hp.put hlay
      by_cases hno:none∈jK ds ds.length i d
      ·refine bY (decide_eq_true hno) ?_;obtain⟨rb,rk⟩:=raise (by unfold jm;rw[decide_eq_true hno];rfl);exact bY rfl ⟨_,rfl,_,rfl,lb,_,_,.int (beg ds i),rfl,rfl,aV.of (kx _ _ hlb nB),Q8 i (by omega),_,rfl,rb,rk⟩
      ·refine bu (fun z=>hno (of_decide_eq_true z)) ?_;refine⟨_,rfl,_,rfl,lr,_,rfl,.inl (aV.of (kx _ _ r1 nR)),_,_,rfl,rfl,rfl,_,rfl,?_⟩;rw[length_map,r2];by_cases CU:i+1=ds.length
       ·refine bY (decide_eq_true (by show V.int (i:Int)=V.int (((ds.length:Nat):Int)-1);congr 1;omega)) ?_;refine⟨_,rfl,q,d,rfl,CQ,_,rfl,?_⟩;by_cases hon:d.u∈iT
        ·have hbf:jm ds i d=false:=by unfold jm;rw[decide_eq_false hno,decide_eq_true hon];simp
         refine bu (by rw[decide_eq_true hon];decide) ?_;refine⟨_,rfl,.inl ⟨rfl,_,aV.of CT⟩,_,rfl,_,rfl,q,D,d,(jK ds ds.length i d).map (fun o=>((o.getD 0:Nat):Int)),rfl,CQ,by rw[hD,tJ hno],by unfold jK;rw[length_map,length_map],fun p Gy sy hp=>⟨la,_,_,rfl,rfl,sy _ _ CT,aT (by rw[length_map,hps.1];omega),?_⟩⟩;rw[show ps.map V.ref++ [V.ref p]=(ps++ [p]).map V.ref by rw[map_append];rfl];exact good hbf p Gy sy hp
        ·obtain⟨rb,rk⟩:=raise (by unfold jm;rw[decide_eq_true CU,decide_eq_false hon];simp);refine bY (by rw[decide_eq_false hon];rfl) ?_;exact⟨_,rfl,_,rfl,lb,_,_,.int (beg ds i),rfl,rfl,aV.of (kx _ _ hlb nB),Q8 i (by omega),_,rfl,rb,rk⟩
       ·have hbf:jm ds i d=false:=by unfold jm;rw[decide_eq_false hno,decide_eq_false CU];rfl
        refine bu (fun z=>CU (by have:=V.int.inj (of_decide_eq_true z);omega)) ?_;refine⟨_,rfl,.inl ⟨rfl,_,aV.of CT⟩,_,rfl,_,rfl,q,D,d,(jK ds ds.length i d).map (fun o=>((o.getD 0:Nat):Int)),rfl,CQ,by rw[hD,tJ hno],by unfold jK;rw[length_map,length_map],fun p Gy sy hp=>⟨la,_,_,rfl,rfl,sy _ _ CT,aT (by rw[length_map,hps.1];omega),?_⟩⟩;rw[show ps.map V.ref++ [V.ref p]=(ps++ [p]).map V.ref by rw[map_append];rfl];exact good hbf p Gy sy hp
    ·rintro σ G' ⟨v4,v6,v7,ps,ms,rfl,t6,k6,hla,hps,qA,hml,hid⟩;rw[length_map,r2,List.drop_length]at qA;have qA:jL ds 0 ds=.ok ms:=by rw[qA];show Except.ok (ms++ [])=_;rw[append_nil]
     rw[qA]at k;exact⟨_,rfl,k la _ t6 Ny ⟨ps,hla,hps.1,hps.2⟩⟩
def lj(d:FR):Int:=if d.u∈five then dh d else 0
def jV(d:FR)(S:List Str):List Int:=(((aZ d.u).zip d.is).filter fun x=>decide (x.1∈S)).map (·.2)
def rK(d:FR):Nat:=heads.idxOf (d.u,lj d)
def AV(d:FR)(dist:List Int):Int:=if aX d=true then dist.headD 0+64 else if (jV d ["box"]).length=2 then (jV d ["box"])[1]?.getD 0 else 0
def eJ(d:FR)(dist:List Int):Int:=(rK d:Int)*1024+(jV d ["box"]).headD 0*128+AV d dist
def iN(d:FR)(dist:List Int):List Int:=if d.u ="table"then (dist.length:Int)::dist else if d.u∈five then (if dh d=1 then dist else [])else jV d pG
def dj(ds:List FR)(r:Nat)(d:FR):List Int:=eJ d (d.ts.map (bE ds r))::iN d (d.ts.map (bE ds r))
def bw(ds:List FR)(n:Nat):List Int:=((List.range n).filterMap fun r=>ds[r]?.map (dj ds r)).flatten
theorem fh{ds:List FR}{n:Nat}{d:FR}(h:ds[n]? =some d):bw ds (n+1)=bw ds n++dj ds n d:=by unfold bw;rw[range_succ,filterMap_append,List.flatten_append];simp[h]
theorem CV{d:FR}(hu:d.u∈bj)(hf:gY d):(d.u,lj d)∈heads:=by
 unfold lj;by_cases h:d.u∈five
 ·rw[if_pos h];rcases hf h with z | z<;>rw[z]
  ·exact(by decide+kernel:∀u∈five,(u,(0:Int))∈heads) _ h
  ·exact(by decide+kernel:∀u∈five,(u,(1:Int))∈heads) _ h
 ·rw[if_neg h];exact(by decide+kernel:∀u∈bj,(u,(0:Int))∈heads) _ hu
theorem bZ.full{H:Hp}{q:Addr}{d:FR}(h:bZ H q d):∃Jz,H q=some (.tup (.str d.u::Jz))/\Jz.length=(aZ d.u).length/\((¬d.u ="table"/\Jz=d.is.map V.int/\d.is.length=(aZ d.u).length)\/(d.u ="table"/\∃b p,d.is=[b]/\Jz=[.int b,.ref p])):=by
 obtain⟨⟨hu,h1,h2,h3,h4,h5,h6⟩,h⟩:=h;rcases h with ⟨a,b,p,e,g1,g2⟩ | ⟨a,g1⟩
 ·exact⟨_,g1,by rw[a];exact(by decide+kernel:2=(aZ "table").length),.inr ⟨a,b,p,e,rfl⟩⟩
 ·have hl:d.is.length=(aZ d.u).length:=by
   by_cases z1:d.u∈gk
   ·obtain⟨t,f,e1,_⟩:=h2 z1;rw[e1];exact((by decide+kernel:∀u∈gk,2=(aZ u).length)) _ z1
   ·by_cases z2:d.u∈zb
    ·obtain⟨b,t,f,e1,_⟩:=h3 z2;rw[e1];exact((by decide+kernel:∀u∈zb,3=(aZ u).length)) _ z2
    ·exact(h4 a z1 z2).2
  exact⟨_,g1,by rw[length_map,hl],.inl ⟨a,rfl,hl⟩⟩
theorem CW(x:V)(xs:List V):dJ (x::xs) (some 1) none=xs:=by
 unfold dJ;have h1:HT.du (x::xs).length 0 (some 1)=1:=by have:HT.du (x::xs).length 0 (some ((1:Nat):Int))=min 1 (x::xs).length:=HT.eR ..;rw[show(1:Int)=((1:Nat):Int)from rfl,this,length_cons];omega
 have h2:HT.du (x::xs).length (x::xs).length none=(x::xs).length:=rfl;rw[h1,h2,List.drop_one,List.tail_cons];exact take_of_length_le (by simp)
theorem rL{α:Type}(l:List α)(p:α->Bool)(i:Nat):((l.take (i+1)).filter p)=(l.take i).filter p++(match l[i]? with | some x=>if p x=true then [x]else [] | none=>[]):=by
 rw[take_add_one,filter_append];congr 1;cases l[i]? with
 | none=>rfl
 | some x=>simp[filter_cons]
def y3:Sp:=fun vs H Q _=>∃(q:Addr) (d:FR),vs=[.ref q]/\bZ H q d/\Q (.int (lj d)) H
theorem ND:aE ["row"] ["row"] (ak wN):=by walk_at "sc1"
theorem CY{f fH:Addr}{fd jj:ed}(F:cr K "far_of" "far_of" wN f fd)(T:Txt K w.params mg)(GH:aD P w K mg base cm 1 fH jj ["word"] ji)(kH:KI K fH)(bH:Binds K jj ["word"] [])(mH:mg "has_far"=some (.ref fH)):aD P w K mg base cm 2 f fd ["row"] y3:=by
 refine F.ok ND (by walk_at "ln") (fun cdv A outer s H vs Q E hr h=>?_)
 ·obtain⟨q,d,rfl,hR,k⟩:=h;obtain⟨Jz,i1,_⟩:=hR.full;refine cU (aw (ay (aC (cQ (bQ (ao GH hr (by rfl) mH kH bH .nil aS (ae (aF aY (pv 0) ah (fun _ _=>rfl)) af))) (aF aY (pv 0) (eY dG ah) (fun _ _=>rfl)) ah)))) ?_;refine⟨_,rfl,q,_,0,_,rfl,rfl,bz.of i1,at0 _ _,d.u,rfl,hR.1.1,_,rfl,?_⟩;unfold lj at k;refine dk (fun e=>?_) (fun e=>?_)
  ·have e:=of_decide_eq_true e;obtain⟨_,y1,y2,_⟩:=d8 hR e;rw[if_pos e]at k;exact⟨_,rfl,_,rfl,q,_,-1,_,rfl,rfl,bz.of y1,y2,k⟩
  ·rw[if_neg (fun z=>e (decide_eq_true z))]at k;exact k
def oq:Sp:=fun vs H Q _=>∃(q s:Addr) (d:FR) (S:List Str),vs=[.ref q,.ref s]/\bZ H q d/\(∀H',Same H H'->bz K H' s (S.map V.str))/\¬("targets": Str)∈S/\∀(l:Addr) (H':Hp),Same H H'->H l=none->H' l=some (.lst ((jV d S).map V.int))->Q (.ref l) H'
theorem NG:aE ["row","kinds"] ["row","kinds"] (ak kY):=by walk_at "sc1"
def Fc:Scope:={kind:=.function,names:=[(".0",.local),("kind",.local),("part",.local),("kinds",.free)],isGenerator:=false,isCoroutine:=false,more:=[]}
theorem y4:cS (ak kY) Fc ["row","kinds"] ["kind","part","kinds"] [none,none,some 1]:=by walk_at "sc2"
theorem CZ{f:Addr}{fd:ed}(F:cr K "parts_of" "parts_of" kY f fd)(T:Txt K w.params mg):aD P w K mg base cm 1 f fd ["row","kinds"] (oq (K:=K)):=by
 refine F.ok NG (by walk_at "ln") (fun cdv A outer s H vs Q E hr h=>?_)
 ·obtain⟨q,sk,d,S,rfl,hR,hS,hnt,k⟩:=h;obtain⟨Jz,i1,i2,i3⟩:=hR.full;obtain⟨p,hp,hk⟩:=T.LJ;obtain⟨qk,hq,D4⟩:=hk _ (rE _ hR.1.1);refine cU (aw (ay (aC (dQ (N':=["kind","part","kinds"]) (fr:=[none,none,some 1]) y4 rfl (BU rfl T.zip (ae (gS (bp (v:=.ref p) (by rfl) hp rfl) (aF aY (pv 0) ah (fun _ _=>rfl)) (fun _ _=>rfl)) (ae (cL lS (pv 0) (cK ah) dI) af))) (fun C s0 H0 fp=>(gA (K:=K) (i:=0) (j:=1) rfl rfl y4.nd rfl (Or.inl rfl) rfl (Or.inl rfl))) (fun C s0 H0 fp=>(yz (aJ (r:=RT K false) cy (pv 0) (pv 2) rfl))) (fun C s0 H0 fp=>(pv 1)))))) ?_;refine⟨_,rfl,q,_,0,_,rfl,rfl,bz.of i1,at0 _ _,p,d.u,_,rfl,rfl,hq,?_⟩
  refine⟨_,rfl,1,rfl,q,_,rfl,bz.of i1,(fun z=>absurd z.1 (by
   have:HT.du (V.str d.u::Jz).length 0 (some ((1:Nat):Int))=min 1 (V.str d.u::Jz).length:=HT.eR ..;rw[show(1:Int)=((1:Nat):Int)from rfl,this,length_cons]
   omega)),fun p1 np1=>?_⟩
  rw[CW];have s1:=aj (o:=.tup Jz) np1;have hp1:upd H p1 (.tup Jz) p1=_:=ai;generalize upd H p1 (.tup Jz)=G1 at s1 hp1 ⊢
  refine⟨qk,p1,rfl,⟨_,D4 _⟩,⟨_,bz.of hp1⟩,fun D nD=>vi (K:=K) (a:=qk) (b:=p1) (xs:=(aZ d.u).map V.str) (zs:=Jz) (by rw[length_map,i2])
   (fun i σ ys G=>∃(v1 v2:Option V),σ=[v1,v2,some (.ref sk)]/\ys=(((((aZ d.u).zip d.is).take i).filter fun x=>decide (x.1∈S)).map (·.2)).map V.int/\Same G1 G/\G D=some (.lst ys)) ?_ ?_ ?_ ?_⟩
  ·exact⟨none,none,rfl,rfl,aj nD,ai⟩
  ·rintro i σ ys G _ ⟨v1,v2,rfl,rfl,s2,_⟩;exact⟨D4 _,bz.of (s2 _ _ hp1)⟩
  ·rintro i y z σ ys G t hy hz nt ⟨v1,v2,rfl,rfl,s2,hD⟩;rw[ac]at hy;obtain⟨kd,hkd,rfl⟩:=map_eq_some_iff.mp hy;have s3:=aj (o:=.tup [.str kd,z]) nt;have rM:=s1.trans (s2.trans s3);refine⟨t,_,rfl,bz.of ai,rfl,_,_,rfl,_,_,rfl,rfl,?_⟩;have hil:=(ad.mp hkd).1;have hll:(((((aZ d.u).zip d.is).take i).filter fun x=>decide (x.1∈S)).map (·.2)).length<ee:=by rw[length_map];refine lt_of_le_of_lt (List.length_filter_le _ _) ?_;rw[length_take];have:(aZ d.u).length<=3:=(by decide+kernel:∀u∈bj,(aZ u).length<=3) _ hR.1.1;exact aT (by omega)
   refine⟨_,rfl,_,rfl,sk,S.map V.str,rfl,.inr (hS _ rM),rfl,(by rw[all_map];exact all_eq_true.mpr fun _ _=>rfl),_,rfl,?_⟩;rw[show inV (.str kd) (S.map V.str)=decide (kd∈S)from dS _ _];refine dk (fun e=>?_) (fun e=>?_)
   ·have e:=of_decide_eq_true e;have LP:∃n,z=.int n/\((aZ d.u).zip d.is)[i]? =some (kd,n):=by
     rcases i3 with ⟨_,e1,e2⟩ | ⟨e0,b,pp,e1,e2⟩
     ·rw[e1,ac]at hz;obtain⟨n,hn,rfl⟩:=map_eq_some_iff.mp hz;exact⟨n,rfl,by rw[List.getElem?_zip_eq_some];exact⟨hkd,hn⟩⟩
     ·rw[e2]at hz;rw[e0]at hkd
      match i,hz,hkd with
      | 0,hz,hkd=>cases hz;exact⟨b,rfl,by rw[List.getElem?_zip_eq_some,e0,e1];exact⟨hkd,rfl⟩⟩
      | 1,hz,hkd=>
       have:kd ="targets":=by
        have h9:(aZ "table")[1]? =some ("targets": Str):=by decide+kernel
        rw[h9]at hkd;exact(Option.some.inj hkd).symm
       rw[this]at e;exact absurd e hnt
      | (n+2),hz,_=>simp at hz
    obtain⟨n,rfl,LP⟩:=LP;refine⟨_,rfl,s3 _ _ hD,by rw[length_map];exact hll,_,_,rfl,?_,aL (s2.trans s3) nD,ai⟩;rw[rL,LP];simp[e]
   ·refine⟨_,_,rfl,?_,s2.trans s3,s3 _ _ hD⟩;rw[rL];cases LP:((aZ d.u).zip d.is)[i]? with
    | none=>simp
    | some x=>
     obtain⟨x1,x2⟩:=x;rw[List.getElem?_zip_eq_some,hkd]at LP;obtain⟨hz1,_⟩:=LP;have hz1:=Option.some.inj hz1;subst hz1;have e':¬kd∈S:=fun z=>e (decide_eq_true z);simp[e']
  ·rintro σ ys G ⟨v1,v2,rfl,rfl,s2,hD⟩;refine k D _ (s1.trans s2) (s1.free nD) ?_;rw[hD];unfold jV;rw[take_of_length_le (by rw[List.length_zip,length_map];omega)]
def C0:Sp:=fun vs H Q _=>∃(q:Addr) (d:FR),vs=[.ref q]/\bZ H q d/\∀p,H p=none->Q (.ref p) (upd H p (.tup [.str d.u,.int (lj d)]))
theorem NH:aE ["row"] ["row"] (ak sY):=by walk_at "sc1"
theorem Fd{f fF:Addr}{fd HG:ed}(F:cr K "head_of" "head_of" sY f fd)(T:Txt K w.params mg)(GF:aD P w K mg base cm 2 fF HG ["row"] y3)(kF:KI K fF)(bF:Binds K HG ["row"] [])(mF:mg "far_of"=some (.ref fF)):aD P w K mg base cm 3 f fd ["row"] C0:=by
 refine F.ok NH (by walk_at "ln") (fun cdv A outer s H vs Q E hr h=>?_)
 ·obtain⟨q,d,rfl,hR,k⟩:=h;obtain⟨Jz,i1,_⟩:=hR.full;refine cU (aw (ay (aC (cG (ae (aF aY (pv 0) ah (fun _ _=>rfl)) (ae (ao GF hr (by rfl) mF kF bF .nil aS (ae (pv 0) af)) af)))))) ?_;exact⟨_,rfl,q,_,0,_,rfl,rfl,bz.of i1,at0 _ _,_,rfl,q,d,rfl,hR,bq,fun p np=>k p np⟩
def HM:Sp:=fun vs H Q _=>∃(q ld:Addr) (d:FR) (dist:List Int),vs=[.ref q,.ref ld]/\bZ H q d/\H ld=some (.lst (dist.map V.int))/\(aX d=true->dist≠ [])/\∀H',Same H H'->Q (.int (AV d dist)) H'
theorem HN:aE ["row","distances","boxes"] ["row","distances"] (ak wR):=by walk_at "sc1"
theorem Ke{f fJ fP:Addr}{fd Cv yU:ed}(F:cr K "low_of" "low_of" wR f fd)(T:Txt K w.params mg)(GJ:aD P w K mg base cm 2 fJ Cv ["row"] Ck)(kJ:KI K fJ)(bJ:Binds K Cv ["row"] [])(mJ:mg "is_short_jump"=some (.ref fJ))(GP:aD P w K mg base cm 1 fP yU ["row","kinds"] (oq (K:=K)))(kP:KI K fP)(bP:Binds K yU ["row","kinds"] [])(mP:mg "parts_of"=some (.ref fP)):aD P w K mg base cm 3 f fd ["row","distances"] HM:=by
 refine F.ok HN (by walk_at "ln") (fun cdv A outer s H vs Q E hr h=>?_)
 ·obtain⟨q,ld,d,dist,rfl,hR,hd,hne,k⟩:=h;have Q5:=hr.mono (show 2<=_ by decide);have Nv:=hr.mono (show 1<=_ by decide);obtain⟨_,hsa⟩:=T.XI
  refine cU (au (cv (bQ (ao GJ Q5 (by rfl) mJ kJ bJ .nil aS (ae (pv 0) af))) (aw (ay (aC (aA bg (aF aK (pv 1) ah (fun _ _=>rfl)) (bp (v:=.int 64) (by rfl) hsa ⟨_,rfl⟩))))) (cu aO))
   (au (ay (aI (i:=2) HN.nd rfl (Or.inl rfl) (ao GP Nv (by rfl) mP kP bP .nil aS (ae (pv 0) (ae (cG (ae aW af)) af)))))
   (aw (ay (aC (cQ (aJ cT (aN aM (by rfl) T.len cE (ae (pv 2) af)) ah (aQ _)) (aF aK (pv 2) ah (fun _ _=>rfl)) ah)))))) ?_
  unfold AV at k;refine⟨_,rfl,q,d,rfl,hR,_,rfl,?_⟩;refine dk (fun e=>?_) (fun e=>?_)
  ·rw[if_pos e]at k;obtain⟨x,r,hx⟩:=List.exists_cons_of_ne_nil (hne e);subst hx;exact⟨_,rfl,ld,_,0,.int x,rfl,rfl,aV.of hd,at0 _ _,_,_,rfl,rfl,k _ (.refl _)⟩
  ·rw[if_neg e]at k;refine⟨_,rfl,i0,fun t nt=>?_⟩;have s1:=aj (o:=.tup [V.str "box"]) nt;have ht:upd H t (.tup [V.str "box"]) t=_:=ai;generalize upd H t (.tup [V.str "box"])=G1 at s1 ht ⊢;refine⟨q,t,d,["box"],rfl,hR.same s1,fun H' s'=>bz.of (s' _ _ ht),by decide,fun lb G2 s2 _ hlb=>?_⟩;refine⟨_,rfl,lb,_,rfl,.inl (aV.of hlb),rfl,_,rfl,?_⟩;rw[length_map];by_cases h2:(jV d ["box"]).length=2
   ·rw[if_pos h2]at k;refine bY (by simp[h2]) ?_;have:∃x y,jV d ["box"]=[x,y]:=by
     match hpk:jV d ["box"],h2 with
     | [x,y],_=>exact⟨x,y,rfl⟩
    obtain⟨x,y,hxy⟩:=this;rw[hxy]at hlb k;exact⟨_,rfl,lb,_,1,.int y,rfl,rfl,aV.of hlb,rfl,k _ (s1.trans s2)⟩
   ·rw[if_neg h2]at k;refine bu (by simp;omega) ?_;exact k _ (s1.trans s2)
def Kf(h:Str×Int):Da:=.tup [.str h.1,.int h.2]
theorem Fe{a b:Str×Int}(h:Kf a=Kf b):a=b:=by
 obtain⟨a1,a2⟩:=a;obtain⟨b1,b2⟩:=b;unfold Kf at h;injection h with h
 injection h with h1 h2
 injection h1 with h1
 injection h2 with h2 _
 injection h2 with h2
 exact Prod.ext h1 h2
theorem C1(K:Frag){H:Hp}{p:Addr}{h:Str×Int}(e:bz K H p [.str h.1,.int h.2]):fY K H (.ref p) (Kf h):=by
 refine .tup e rfl fun i y d g1 g2=>?_
 match i,g1,g2 with
 | 0,g1,g2=>cases g1;cases g2;exact .str _
 | 1,g1,g2=>cases g1;cases g2;exact .int _
theorem C2(h:Str×Int):(Kf h).Nb 1:=.tup fun d hd=>by
 rcases mem_cons.mp hd with rfl | hd
 ·exact .str
 ·rw[mem_singleton.mp hd];exact .int
theorem Kg{α:Type}[BEq α][LawfulBEq α]{l:List α}{x:α}(h:x∈l):l[l.idxOf x]? =some x/\∀m,m<l.idxOf x->l[m]? ≠some x:=by have hl:l.idxOf x<l.length:=List.idxOf_lt_length_iff.mpr h;refine⟨by rw[aa hl];exact congrArg some (List.getElem_idxOf hl),fun m hm e=>?_⟩;obtain⟨h1,h2⟩:=ad.mp e;have:=List.not_of_lt_findIdx (p:=(· ==x)) (xs:=l) (i:=m) hm;simp[h2]at this
def y6:Sp:=fun vs H Q _=>∃(q ld:Addr) (d:FR) (dist:List Int),vs=[.ref q,.ref ld]/\bZ H q d/\gY d/\H ld=some (.lst (dist.map V.int))/\(aX d=true->dist≠ [])/\∀H',Same H H'->Q (.int (eJ d dist)) H'
theorem C3:aE ["row","distances","boxes","a"] ["row","distances"] (ak nX):=by walk_at "sc1"
theorem C4{f fP fH fL:Addr}{fd yU jj HP:ed}(F:cr K "first_unit" "first_unit" nX f fd)(T:Txt K w.params mg)(GP:aD P w K mg base cm 1 fP yU ["row","kinds"] (oq (K:=K)))(kP:KI K fP)(bP:Binds K yU ["row","kinds"] [])(mP:mg "parts_of"=some (.ref fP))(GH:aD P w K mg base cm 3 fH jj ["row"] C0)(kH:KI K fH)(bH:Binds K jj ["row"] [])(mH:mg "head_of"=some (.ref fH))(GL:aD P w K mg base cm 3 fL HP ["row","distances"] HM)(kL:KI K fL)(bL:Binds K HP ["row","distances"] [])(mL:mg "low_of"=some (.ref fL)):aD P w K mg base cm 4 f fd ["row","distances"] y6:=by
 refine F.ok C3 (by walk_at "ln") (fun cdv A outer s H vs Q E hr h=>?_)
 ·obtain⟨q,ld,d,dist,rfl,hR,hF,hd,hne,k⟩:=h;have Nw:dP 3 (A.deeper (PyProof.Rows.envOfC "first_unit" (ak nX) s.heap.objs.size f cdv)):=hr;have Nv:=hr.mono (show 1<=_ by decide);have NI:=hr.u 8;obtain⟨_,hcs⟩:=T.cst;obtain⟨_,hbs⟩:=T.XH;obtain⟨ph,Q6,hpo,hpq⟩:=T.hds
  refine cU (au (ay (aI (i:=2) C3.nd rfl (Or.inl rfl) (ao GP Nv (by rfl) mP kP bP .nil aS (ae (pv 0) (ae (cG (ae aW af)) af)))))
   (au (ay (aI (i:=3) C3.nd rfl (Or.inl rfl) (oX (cQ (aJ jQ (aN aM (by rfl) T.len cE (ae (pv 2) af)) ah (aQ _)) (aF aK (pv 2) ah (fun _ _=>rfl)) ah))))
   (aw (ay (aC (aA bg (aA bg (aA ic (dg PySem.F.plainAttrs_tuple PySem.F.slot_tuple_index PySem.F.type_tuple_index (EC NI) (bp (v:=.ref ph) (by rfl) Q6 rfl) (ae (ao GH Nw (by rfl) mH kH bH .nil aS (ae (pv 0) af)) af)) (bp (v:=.int 1024) (by rfl) hcs ⟨_,rfl⟩)) (aA ic (pv 3) (bp (v:=.int 128) (by rfl) hbs ⟨_,rfl⟩))) (ao GL hr (by rfl) mL kL bL .nil aS (ae (pv 0) (ae (pv 1) af))))))))) ?_
  refine⟨_,rfl,i0,fun t nt=>?_⟩;have s1:=aj (o:=.tup [V.str "box"]) nt;have ht:upd H t (.tup [V.str "box"]) t=_:=ai;generalize upd H t (.tup [V.str "box"])=G1 at s1 ht ⊢;refine⟨q,t,d,["box"],rfl,hR.same s1,fun H' s'=>bz.of (s' _ _ ht),by decide,fun lb G2 s2 _ hlb=>?_⟩;have s12:=s1.trans s2;refine⟨fun v G=>v=.int ((jV d ["box"]).headD 0)/\G=G2,?_,?_⟩
  ·refine⟨_,rfl,lb,_,rfl,.inl (aV.of hlb),_,_,rfl,rfl,_,rfl,?_⟩;rw[length_map];cases hb:jV d ["box"]with
   | nil=>exact bu (by simp) ⟨rfl,rfl⟩
   | cons x r=>
    rw[hb]at hlb;refine bY (by simp) ?_;exact⟨_,rfl,lb,_,0,.int x,rfl,rfl,aV.of hlb,at0 _ _,rfl,rfl⟩
  rintro v G ⟨rfl,hG⟩;subst hG;refine⟨.inr (.inl ⟨rfl,hpo⟩),_,rfl,q,d,rfl,hR.same s12,fun p np=>?_⟩;have s3:=s12.trans (aj (o:=.tup [.str d.u,.int (lj d)]) np);have hp3:upd G p (.tup [.str d.u,.int (lj d)]) p=_:=ai;generalize upd G p (.tup [.str d.u,.int (lj d)])=G3 at s3 hp3 ⊢;obtain⟨hs,h1,h2,h3⟩:=hpq G3;have hin:=Kg (CV hR.1.1 hF);refine⟨ph,hs.map V.ref,heads.map Kf,.ref p,Kf (d.u,lj d),1,rK d,rfl,rfl,h1,by rw[length_map,length_map,h2],fun i x y g1 g2=>?_,C1 K (h:=(d.u,lj d)) (bz.of hp3),fun y hy=>?_,C2 _,by decide,?_,fun m hm=>?_,?_⟩
  ·rw[ac]at g1 g2;obtain⟨q1,e1,rfl⟩:=map_eq_some_iff.mp g1;obtain⟨h,e2,rfl⟩:=map_eq_some_iff.mp g2;exact C1 K (h3 i q1 h e1 e2)
  ·obtain⟨h,_,rfl⟩:=mem_map.mp hy;exact C2 h
  ·rw[ac];unfold rK;rw[hin.1];rfl
  ·intro z;rw[ac]at z;obtain⟨h,e1,e2⟩:=map_eq_some_iff.mp z;have:=Fe e2;subst this;exact hin.2 m hm e1
  refine⟨_,_,rfl,rfl,.inr ⟨by decide,by decide⟩,_,rfl,_,_,rfl,rfl,.inr ⟨by decide,by decide⟩,_,_,rfl,rfl,?_⟩;exact⟨_,rfl,_,rfl,q,ld,d,dist,rfl,hR.same s3,s3 _ _ hd,hne,fun G4 s4=>⟨_,_,rfl,rfl,k _ (s3.trans s4)⟩⟩
def y8:Sp:=fun vs H Q _=>∃(q ld:Addr) (d:FR) (dist:List Int),vs=[.ref q,.ref ld]/\bZ H q d/\H ld=some (.lst (dist.map V.int))/\dist.length<=16/\∀(l:Addr) (H':Hp),Same H H'->H' l=some (.lst ((iN d dist).map V.int))->Q (.ref l) H'
theorem NJ:aE ["row","distances"] ["row","distances"] (ak nY):=by walk_at "sc1"
theorem C5{f fH fP:Addr}{fd jj yU:ed}(F:cr K "other_units" "other_units" nY f fd)(T:Txt K w.params mg)(GH:aD P w K mg base cm 1 fH jj ["word"] ji)(kH:KI K fH)(bH:Binds K jj ["word"] [])(mH:mg "has_far"=some (.ref fH))(GP:aD P w K mg base cm 1 fP yU ["row","kinds"] (oq (K:=K)))(kP:KI K fP)(bP:Binds K yU ["row","kinds"] [])(mP:mg "parts_of"=some (.ref fP)):aD P w K mg base cm 2 f fd ["row","distances"] y8:=by
 refine F.ok NJ (by walk_at "ln") (fun cdv A outer s H vs Q E hr h=>?_)
 ·obtain⟨q,ld,d,dist,rfl,hR,hd,hl,k⟩:=h;have Nw:dP 1 (A.deeper (PyProof.Rows.envOfC "other_units" (ak nY) s.heap.objs.size f cdv)):=hr;obtain⟨pn,hpn,hnk⟩:=T.nks;obtain⟨Jz,i1,_⟩:=hR.full
  refine cU (au (cv (aJ cT (aF aY (pv 0) ah (fun _ _=>rfl)) aW (aQ _)) (aw (ay (aC (aA iI (cD (ae (aN aM (by rfl) T.len cE (ae (pv 1) af)) af)) (pv 1))))) (cu aO))
   (au (cv (bQ (ao GH Nw (by rfl) mH kH bH .nil aS (ae (aF aY (pv 0) ah (fun _ _=>rfl)) af))) (aw (ay (aC (cQ (aJ cT (aF aY (pv 0) (eY dG ah) (fun _ _=>rfl)) ah (aQ _)) (pv 1) (cD af))))) (cu aO))
   (aw (ay (aC (ao GP hr (by rfl) mP kP bP .nil aS (ae (pv 0) (ae (bp (v:=.ref pn) (by rfl) hpn rfl) af)))))))) ?_
  unfold iN at k;refine⟨_,rfl,q,_,0,.str d.u,rfl,rfl,bz.of i1,at0 _ _,rfl,_,rfl,?_⟩;refine dk (fun e=>?_) (fun e=>?_)
  ·have e:=strEq e;rw[if_pos e]at k;refine⟨_,rfl,ld,_,rfl,.inl (aV.of hd),i0,fun l1 nl1=>?_⟩;rw[length_map];have s1:=aj (o:=.lst [V.int ((dist.length:Nat):Int)]) nl1;have h1:upd H l1 (.lst [V.int ((dist.length:Nat):Int)]) l1=_:=ai;generalize upd H l1 (.lst [V.int ((dist.length:Nat):Int)])=G1 at s1 h1 ⊢;refine⟨_,rfl,l1,ld,_,_,rfl,rfl,h1,s1 _ _ hd,bX (by show 1+_<=1000000;rw[length_map];omega),fun l2 nl2=>?_⟩;exact k l2 _ (s1.trans (aj nl2)) ai
  ·have e:=rA e;rw[if_neg e]at k;refine⟨_,rfl,q,_,0,.str d.u,rfl,rfl,bz.of i1,at0 _ _,d.u,rfl,hR.1.1,_,rfl,?_⟩;refine dk (fun e2=>?_) (fun e2=>?_)
   ·have e2:=of_decide_eq_true e2;rw[if_pos e2]at k;obtain⟨_,g1,g2,_⟩:=d8 hR e2;refine⟨_,rfl,_,rfl,q,_,_,_,rfl,rfl,bz.of g1,g2,rfl,_,rfl,?_⟩;by_cases hf:dh d=1
    ·rw[if_pos hf]at k;refine bY (by rw[hf];decide) ?_;exact⟨_,rfl,k ld _ (.refl _) hd⟩
    ·rw[if_neg hf]at k;refine bu (fun z=>hf (V.int.inj (of_decide_eq_true z))) ?_;exact⟨zle,fun l nl=>k l _ (aj nl) ai⟩
   ·have e2:¬d.u∈five:=fun z=>e2 (decide_eq_true z);rw[if_neg e2]at k;exact⟨_,rfl,q,pn,d,pG,rfl,hR,fun H' _=>hnk H',by decide,fun l H' s' _ hl'=>k l H' s' hl'⟩
theorem AW{d:FR}{dist:List Int}(hu:d.u∈bj)(h:dist.length<=16):(iN d dist).length<=17:=by
 unfold iN;split
 ·rw[length_cons];omega
 ·split
  ·split
   ·omega
   ·exact zero_le _
  ·unfold jV;rw[length_map];refine le_trans (List.length_filter_le _ _) ?_;rw[List.length_zip];have:(aZ d.u).length<=3:=(by decide+kernel:∀u∈bj,(aZ u).length<=3) _ hu;omega
theorem C6{n:Nat}(h:n<=2000000):n<ee:=by rw[sizeLine_eq];omega
def tK(vq:Addr):Sp:=fun vs H Q E=>∃(lr:Addr) (ds:List FR),vs=[.ref lr]/\dz H lr ds/\LK ds/\(∀d∈ds,gY d)/\ds.length<=100000/\
 (jk ds=none->∀(l:Addr) (H':Hp),Same H H'->H l=none->H' l=some (.lst ((bw ds ds.length).map V.int))->Q (.ref l) H')/\∀r,jk ds=some r->∀H' d,Same H H'->H' d=some (.xd [("at",.int (r:Int))])->E (.ref vq) (some d) H'
theorem vE:aE ["rows","begins","units","r","row","distances"] ["rows"] (ak pz):=by walk_at "sc1"
theorem C7{f fC fB fD fF fO vq:Addr}{fd NK yN yO HG yZ:ed}(F:cr K "units_of" "units_of" pz f fd)(T:Txt K w.params mg)
  (GC:aD P w K mg base (eU P w) 5 fC NK ["rows"] (pK vq)) (kC:KI K fC) (bC:Binds K NK ["rows"] []) (mC:mg "check_layout"=some (.ref fC)) (GB:aD P w K mg base cm 3 fB yN ["rows"] k9) (kB:KI K fB) (bB:Binds K yN ["rows"] []) (mB:mg "begins_of"=some (.ref fB)) (GD:aD P w K mg base cm 2 fD yO ["rows","begins","r"] tG) (kD:KI K fD) (bD:Binds K yO ["rows","begins","r"] []) (mD:mg "distances_of"=some (.ref fD)) (GF:aD P w K mg base cm 4 fF HG ["row","distances"] y6) (kF:KI K fF) (bF:Binds K HG ["row","distances"] []) (mF:mg "first_unit"=some (.ref fF)) (GO:aD P w K mg base cm 2 fO yZ ["row","distances"] y8) (kO:KI K fO) (bO:Binds K yZ ["row","distances"] []) (mO:mg "other_units"=some (.ref fO)):aD P w K mg base (eU P w) 6 f fd ["rows"] (tK vq):=by
 refine F.D2 vE (by walk_at "ln") (fun cdv A outer s H vs Q E hr h=>?_)
 ·obtain⟨lr,ds,rfl,hR,hT,hFo,hn,k,hE⟩:=h;have hrC:dP 5 (A.deeper (PyProof.Rows.envOfC "units_of" (ak pz) s.heap.objs.size f cdv)):=hr;have JX:=hr.mono (show 3<=_ by decide);have hrD:=hr.mono (show 2<=_ by decide);have hrO:=hr.mono (show 2<=_ by decide)
  replace hr:dP 4 (A.deeper (PyProof.Rows.envOfC "units_of" (ak pz) s.heap.objs.size f cdv)):=hr.mono (by decide)
  refine⟨_,(aq (cC (ao GC hrC (by rfl) mC kC bC .nil ie (ae (pv 0) af)))
   (aq (aI (i:=1) vE.nd rfl (Or.inl rfl) (ao GB JX (by rfl) mB kB bB .nil aS (ae (pv 0) af)))
   (aq (aI (i:=2) vE.nd rfl (Or.inl rfl) (cD af))
   (aq (eE PassesOwn.leaving rfl (fX rfl T.enum (ae (pv 0) af)) (gA (K:=K) (i:=3) (j:=4) rfl rfl vE.nd rfl (Or.inl rfl) rfl (Or.inl rfl)) (aq (aI (i:=5) vE.nd rfl (Or.inl rfl) (ao GD hrD (by rfl) mD kD bD .nil aS (ae (pv 0) (ae (pv 1) (ae (pv 3) af)))))
   (aq (cC (dg fv fw gf bV (pv 2) (ae (ao GF hr (by rfl) mF kF bF .nil aS (ae (pv 4) (ae (pv 5) af))) af)))
   (az (cC (dg fv PySem.F.slot_list_extend PySem.F.type_list_extend Ah (pv 2) (ae (ao GO hrO (by rfl) mO kO bO .nil aS (ae (pv 4) (ae (pv 5) af))) af)))))))
   (az (aC (pv 2))))))),?_⟩
  refine⟨_,rfl,lr,ds,rfl,hR,hT,hn,(fun e G1 s1=>?_),fun r e G d sG hd=>hE r e G d sG hd⟩
  replace k:=k e
  refine⟨_,rfl,lr,ds,rfl,hR.same s1,hn,fun lb G2 s2 XM hlb=>?_⟩;refine⟨zle,fun lu NM=>?_⟩;have s12:=s1.trans s2;have Ff:H lu=none:=s12.free NM;have s3:=s12.trans (aj (o:=.lst []) NM);have NN:=aj (o:=.lst []) NM _ _ hlb;have NP:upd G2 lu (.lst []) lu=some (.lst ((bw ds 0).map V.int)):=ai;have XU:lb≠lu:=fun z=>by rw[<-z,hlb]at NM;cases NM
  generalize upd G2 lu (.lst [])=G3 at s3 NN NP ⊢;obtain⟨qs,r1,r2,r3⟩:=id hR;refine⟨_,rfl,lr,rfl,⟨_,aV.of (s3 _ _ r1)⟩,eZ (xs:=qs.map V.ref) (fun i σ G=>i<=ds.length/\∃v3 v4 v5:Option V,σ=[some (.ref lr),some (.ref lb),some (.ref lu),v3,v4,v5]/\Same H G/\G lb=some (.lst ((eB ds ds.length).map V.int))/\G lu=some (.lst ((bw ds i).map V.int))/\(bw ds i).length<=18*i) ?_ ?_ ?_ ?_⟩
  ·exact⟨zero_le _,none,none,none,rfl,s3,NN,NP,zero_le _⟩
  ·rintro i σ G _ ⟨_,v3,v4,v5,rfl,s4,_⟩;exact aV.of (s4 _ _ r1)
  ·rintro i x σ G tt hx og ⟨_,v3,v4,v5,rfl,s4,hb4,Kh,Fg⟩;rw[ac]at hx;obtain⟨q,hq,rfl⟩:=map_eq_some_iff.mp hx;have hil:i<ds.length:=by have:=(ad.mp hq).1;omega
   have hd:ds[i]? =some ds[i]:=aa hil;generalize ds[i]=d at hd;have hTd:=hT d (ag hd);have s5:=s4.trans (aj (o:=.tup [V.int i,V.ref q]) og);have NQ:=aj (o:=.tup [V.int i,V.ref q]) og _ _ hb4;have D3:=aj (o:=.tup [V.int i,V.ref q]) og _ _ Kh;have htt:upd G tt (.tup [V.int i,V.ref q]) tt=_:=ai;generalize upd G tt (.tup [V.int i,V.ref q])=G5 at s5 NQ D3 htt ⊢;have hrow:=(r3 i q d hq hd);refine⟨tt,_,rfl,bz.of htt,rfl,_,_,rfl,_,_,rfl,rfl,?_⟩;refine⟨_,rfl,_,rfl,_,rfl,lr,lb,ds,i,d,rfl,hR.same s5,NQ,hd,hTd.2,hTd.1,fun Q9 G6 s6 XW XY=>?_⟩;have XZ:=s5.trans s6;have hsh:aX d=true->d.ts.map (bE ds i)≠ []:=fun z=>by
    have hu:d.u∈five:=by unfold aX at z;rw[Bool.and_eq_true]at z;exact of_decide_eq_true z.1
    obtain⟨_,_,_,t,et,_⟩:=d8 hrow hu;rw[et];exact cons_ne_nil _ _
   refine⟨_,rfl,.inl ⟨rfl,_,aV.of (s6 _ _ D3)⟩,_,rfl,_,rfl,q,Q9,d,_,rfl,hrow.same XZ,hFo d (ag hd),XY,hsh,fun G7 s7=>?_⟩;have s57:=XZ.trans s7;have Ra:=s7 _ _ (s6 _ _ D3);refine⟨lu,_,_,rfl,rfl,Ra,C6 (by rw[length_map];omega),?_⟩;have e1:(bw ds i).map V.int++ [V.int (eJ d (d.ts.map (bE ds i)))]=(bw ds i++ [eJ d (d.ts.map (bE ds i))]).map V.int:=by rw[map_append];rfl
   rw[e1];have nlu7:H lu=none:=Ff;have NR:upd G7 lu (.lst ((bw ds i++ [eJ d (d.ts.map (bE ds i))]).map V.int)) Q9=some (.lst ((d.ts.map (bE ds i)).map V.int)):=by
    have ne:Q9≠lu:=fun z=>by rw[z,D3]at XW;cases XW
    rw[aG ne];exact s7 _ _ XY
   have hb8:upd G7 lu (.lst ((bw ds i++ [eJ d (d.ts.map (bE ds i))]).map V.int)) lb=some (.lst ((eB ds ds.length).map V.int)):=by rw[aG XU];exact s7 _ _ (s6 _ _ NQ)
   have s8:Same H (upd G7 lu (.lst ((bw ds i++ [eJ d (d.ts.map (bE ds i))]).map V.int))):=aL s57 Ff;have NI:upd G7 lu (.lst ((bw ds i++ [eJ d (d.ts.map (bE ds i))]).map V.int)) lu=_:=ai;generalize upd G7 lu (.lst ((bw ds i++ [eJ d (d.ts.map (bE ds i))]).map V.int))=G8 at NR hb8 s8 NI ⊢;have hdl:(d.ts.map (bE ds i)).length<=16:=by rw[length_map];exact hTd.1
   refine⟨_,rfl,.inl ⟨rfl,_,aV.of NI⟩,_,rfl,_,rfl,q,Q9,d,_,rfl,hrow.same s8,NR,hdl,fun lo G9 s9 hlo=>?_⟩;have hol:=AW (d:=d) hrow.1.1 hdl;refine⟨lu,lo,_,_,rfl,rfl,s9 _ _ NI,hlo,Nat.le_of_lt (C6 (by rw[length_map,length_map,length_append,length_singleton];omega)),?_⟩;have e2:(bw ds i++ [eJ d (d.ts.map (bE ds i))]).map V.int++(iN d (d.ts.map (bE ds i))).map V.int=(bw ds (i+1)).map V.int:=by rw[fh hd,<-map_append];unfold dj;simp
   rw[e2];refine⟨by omega,_,_,_,rfl,aL (s8.trans s9) Ff,by rw[aG XU];exact s9 _ _ hb8,ai,?_⟩;rw[fh hd,length_append];unfold dj;rw[length_cons];omega
  ·rintro σ G ⟨_,v3,v4,v5,rfl,s4,hb4,Kh,Fg⟩;rw[length_map,r2]at Kh;exact⟨_,rfl,k lu _ s4 Ff Kh⟩
def n6:List Str:=["stop","back","halt","jump","call","mark"]
def rN(h:Str×Int):Int:=127*(if (decide (h.1∈five)&&decide (h.2=0))=true then 1 else 0)+7*(if decide (h.1∈w2)=true then 1 else 0)
theorem w8:∀h∈heads,((aZ h.1).count ("box": Str)=0↔h.1∈n6)/\((aZ h.1).count ("box": Str)=2↔h.1∈w2)/\(h.1∈w2->¬h.1∈five/\¬h.1∈n6):=by decide+kernel
theorem Fh{h:Str×Int}(hm:h∈heads){a low:Int}(ha:0<=a)(hl:0<=low)(hl2:low<=127):fits h a low=(!(decide (h.1∈n6)&&decide (0<a))&&decide (low<=rN h)):=by
 obtain⟨f1,f2,f3⟩:=w8 h hm;unfold fits rN;by_cases h6:h.1∈n6
 ·by_cases ha0:a=0
  ·have hw:¬h.1∈w2:=fun z=>(f3 z).2 h6;rw[if_neg (fun z=>z.2 ha0),if_neg (fun z=>hw (f2.mp z)),decide_eq_false hw,ha0];by_cases h5:h.1∈five<;>by_cases hz:h.2=0<;>simp[h5,hz]<;>omega
  ·rw[if_pos ⟨f1.mpr h6,ha0⟩,decide_eq_true h6,decide_eq_true (show 0<a by omega)];rfl
 ·rw[if_neg (fun z=>h6 (f1.mp z.1)),decide_eq_false h6];by_cases hw:h.1∈w2
  ·rw[if_pos (f2.mpr hw),decide_eq_true hw,decide_eq_false (f3 hw).1];simp;omega
  ·rw[if_neg (fun z=>hw (f2.mp z)),decide_eq_false hw];by_cases h5:h.1∈five<;>by_cases hz:h.2=0<;>simp[h5,hz]<;>omega
def pO(u:Int):Option ((Str×Int)×Int×Int):=if 0<=u/\u<25600 then (match heads[(u/1024).toNat]? with
 | none=>none
 | some h=>if fits h (u % 1024/128) (u % 128)=true then some (h,u % 1024/128,u % 128)else none)else none
def cF(us:List Int)(at_:Nat)(h:Str×Int)(a low:Int):Except Nat FR:=if h.1 ="table"then tabAt us at_ a else if h.1∈five then lh us at_ h a low else if h.1∈w2 then .ok ⟨h.1,[a,low],[]⟩else match dt us at_ a (aZ h.1)with
 | .ok l=>.ok ⟨h.1,l,[]⟩
 | .error e=>.error e
theorem j8{us:List Int}{at_:Nat}{u:Int}(hu:us[at_]? =some u):rowAt us at_=match pO u with
  | none=>.error at_
  | some (h,a,low)=>cF us at_ h a low:=by
 unfold rowAt pO;rw[hu];show(if 0<=u/\u<25600 then _ else _)=_;by_cases hb:0<=u/\u<25600
 ·rw[if_pos hb,if_pos hb];cases heads[(u/1024).toNat]? with
  | none=>rfl
  | some h=>
   show gn us at_ h (u % 1024/128) (u % 128)=match (if fits h (u % 1024/128) (u % 128)=true then some (h,u % 1024/128,u % 128)else none)with | none=>Except.error at_ | some (h,a,low)=>cF us at_ h a low
   unfold gn;by_cases hf:fits h (u % 1024/128) (u % 128)=true
   ·rw[if_pos hf,if_pos hf];rfl
   ·rw[if_neg hf,if_neg hf]
 ·rw[if_neg hb,if_neg hb]
def k2(u:Str):Str:=(aZ u)[1]?.getD ""
theorem Fi{us:List Int}{at_:Nat}{h:Str×Int}{a low:Int}(hs:h.1∈zL1):cF us at_ h a low=.ok ⟨h.1,[],[]⟩:=by obtain⟨f1,f2,f3,f4⟩:=(by decide+kernel:∀u∈zL1,¬u ="table"/\¬u∈five/\¬u∈w2/\aZ u=[]) _ hs;unfold cF;rw[if_neg f1,if_neg f2,if_neg f3,f4];rfl
theorem AX{us:List Int}{at_:Nat}{h:Str×Int}{a low:Int}(hs:h.1 ="tell"):cF us at_ h a low=.ok ⟨h.1,[a],[]⟩:=by obtain⟨f1,f2,f3,f4⟩:=(by decide+kernel:∀u∈(["tell"]:List Str),¬u ="table"/\¬u∈five/\¬u∈w2/\aZ u=zL2) _ (show h.1∈_ by rw[hs];decide);unfold cF;rw[if_neg f1,if_neg f2,if_neg f3,f4];rfl
theorem Fj{us:List Int}{at_:Nat}{h:Str×Int}{a low:Int}(hs:h.1∈w2):cF us at_ h a low=.ok ⟨h.1,[a,low],[]⟩:=by obtain⟨f1,f2⟩:=(by decide+kernel:∀u∈w2,¬u ="table"/\¬u∈five) _ hs;unfold cF;rw[if_neg f1,if_neg f2,if_pos hs]
theorem rO{us:List Int}{at_:Nat}{h:Str×Int}{a low:Int}(hs:h.1∈five):cF us at_ h a low=lh us at_ h a low:=by have f1:=(by decide+kernel:∀u∈five,¬u ="table") _ hs;unfold cF;rw[if_neg f1,if_pos hs]
def rP(u:Str):Int:=if u∈(["set","more"]:List Str)then-1000000000 else 0
def rQ(u:Str):Int:=if u∈(["set","more"]:List Str)then 1000000000 else 1000000
theorem Ki{us:List Int}{at_:Nat}{n a:Int}{kd:Str}(hk:¬kd ="box")(hn:us[at_+1]? =some n):fV us at_ kd a=if inB kd n=true then .ok n else .error (at_+1):=by unfold fV numAt;rw[if_neg hk,hn]
theorem Kj{us:List Int}{at_:Nat}{a:Int}{kd:Str}(hk:¬kd ="box")(hn:us[at_+1]? =none):fV us at_ kd a=.error (at_+1):=by unfold fV numAt;rw[if_neg hk,hn]
theorem HQ{us:List Int}{at_:Nat}{a:Int}{kd:Str}{e:Nat}(h:fV us at_ kd a=.error e):dt us at_ a [kd]=.error e:=by show(match fV us at_ kd a with | .error e=>Except.error e | .ok n=>_)=_;rw[h]
theorem NS{us:List Int}{at_:Nat}{a n:Int}{kd:Str}(h:fV us at_ kd a=.ok n):dt us at_ a [kd]=.ok [n]:=by show(match fV us at_ kd a with | .error e=>Except.error e | .ok n=>_)=_;rw[h];rfl
theorem NT{us:List Int}{at_:Nat}{a:Int}{ks:List Str}:dt us at_ a ("box"::ks)=match dt us at_ a ks with | .error e=>.error e | .ok l=>.ok (a::l):=rfl
theorem HR{us:List Int}{at_:Nat}{a lo hi:Int}{kd:Str}(hk:¬kd ="box")(hb:fe kd=(lo,hi)):dt us at_ a [kd]=match us[at_+1]? with
  | none=>.error (at_+1)
  | some n=>if lo<=n/\n<=hi then .ok [n]else .error (at_+1):=by
 cases hn:us[at_+1]? with
 | none=>exact HQ (Kj hk hn)
 | some n=>
  have e:=Ki (a:=a) hk hn;unfold inB at e;rw[hb]at e;show dt us at_ a [kd]=if lo<=n/\n<=hi then Except.ok [n]else .error (at_+1);by_cases z:lo<=n/\n<=hi
  ·rw[if_pos (decide_eq_true z)]at e;rw[if_pos z];exact NS e
  ·rw[if_neg (fun y=>z (of_decide_eq_true y))]at e;rw[if_neg z];exact HQ e
theorem AY{us:List Int}{at_:Nat}{h:Str×Int}{a low:Int}(hs:h.1 ="halt"):cF us at_ h a low=match us[at_+1]? with
  | none=>.error (at_+1)
  | some n=>if rP h.1<=n/\n<=rQ h.1 then .ok ⟨h.1,[n],[]⟩else .error (at_+1):=by
 obtain⟨f1,f2,f3,f4,f5,f6⟩:=(by decide+kernel:∀u∈(["halt"]:List Str),¬u ="table"/\¬u∈five/\¬u∈w2/\aZ u=(["number"]:List Str)/\fe "number"=(rP u,rQ u)/\¬("number": Str)="box") h.1 (by rw[hs];decide);unfold cF;rw[if_neg f1,if_neg f2,if_neg f3,f4,HR f6 f5];cases us[at_+1]? with
 | none=>rfl
 | some n=>
  show(match (if rP h.1<=n/\n<=rQ h.1 then Except.ok [n]else .error (at_+1))with | .ok l=>Except.ok (⟨h.1,l,[]⟩:FR) | .error e=>.error e)=if rP h.1<=n/\n<=rQ h.1 then .ok ⟨h.1,[n],[]⟩else .error (at_+1);by_cases z:rP h.1<=n/\n<=rQ h.1
  ·rw[if_pos z,if_pos z]
  ·rw[if_neg z,if_neg z]
theorem Fk{us:List Int}{at_:Nat}{h:Str×Int}{a low:Int}(hs:h.1∈zL0):cF us at_ h a low=match us[at_+1]? with
  | none=>.error (at_+1)
  | some n=>if rP h.1<=n/\n<=rQ h.1 then .ok ⟨h.1,[a,n],[]⟩else .error (at_+1):=by
 obtain⟨f1,f2,f3,f4,f5,f6⟩:=(by decide+kernel:∀u∈zL0,¬u ="table"/\¬u∈five/\¬u∈w2/\aZ u=((("box": Str):: [k2 u]:List Str))/\fe (k2 u)=(rP u,rQ u)/\¬k2 u ="box") _ hs;unfold cF;rw[if_neg f1,if_neg f2,if_neg f3,f4,NT,HR f6 f5];cases us[at_+1]? with
 | none=>rfl
 | some n=>
  show(match (match (if rP h.1<=n/\n<=rQ h.1 then Except.ok [n]else .error (at_+1))with | .error e=>Except.error e | .ok l=>.ok (a::l))with | .ok l=>Except.ok (⟨h.1,l,[]⟩:FR) | .error e=>.error e)=if rP h.1<=n/\n<=rQ h.1 then .ok ⟨h.1,[a,n],[]⟩else .error (at_+1);by_cases z:rP h.1<=n/\n<=rQ h.1
  ·rw[if_pos z,if_pos z]
  ·rw[if_neg z,if_neg z]
theorem NU:∀h∈heads,(h.2=0\/h.2=1)/\(h.2=1->h.1∈five):=by decide+kernel
theorem C8{us:List Int}{at_:Nat}{h:Str×Int}{a low n:Int}(hm:h∈heads)(h1:h.2=1)(hn:us[at_+1]? =some n):cF us at_ h a low=.ok (fz h.1 a n h.2):=by rw[rO ((NU h hm).2 h1)];unfold lh;rw[if_neg (by rw[h1];decide),hn]
theorem xc{us:List Int}{at_:Nat}{h:Str×Int}{a low:Int}(h1:h.1 ="table"):cF us at_ h a low=tabAt us at_ a:=by unfold cF;rw[if_pos h1]
def NV(mask:List Bool)(is:List Int):List Int:=((mask.zip is).filter (·.1)).map (·.2)
theorem y9(S:List Str):∀(ks:List Str) (is:List Int),((ks.zip is).filter fun x=>decide (x.1∈S)).map (·.2)=NV (ks.map fun k=>decide (k∈S)) is
 | [],is=>by simp[NV]
 | k::ks,[]=>by simp[NV]
 | k::ks,i::is=>by
  have ih:=y9 S ks is;unfold NV at ih ⊢;rw[List.zip_cons_cons,map_cons,List.zip_cons_cons,filter_cons,filter_cons];by_cases h:k∈S
  ·simp only[h,decide_true,if_true,map_cons,ih]
  ·simp only[h,decide_false,Bool.false_eq_true,if_false,ih]
theorem bt(d:FR)(S:List Str):jV d S=NV ((aZ d.u).map fun k=>decide (k∈S)) d.is:=y9 S _ _
theorem Kk:∀u∈(gk:List Str),(aZ u).map (fun k=>decide (k∈zL2))=[false,false]:=by decide+kernel
theorem NW:∀u∈(zb:List Str),(aZ u).map (fun k=>decide (k∈zL2))=[true,false,false]:=by decide+kernel
theorem C9:∀u∈(["table"]:List Str),(aZ u).map (fun k=>decide (k∈zL2))=[true,false]:=by decide+kernel
theorem HS:∀u∈(w2:List Str),(aZ u).map (fun k=>decide (k∈zL2))=[true,true]:=by decide+kernel
theorem Dc:∀u∈(w2:List Str),(aZ u).map (fun k=>decide (k∈(pG:List Str)))=[false,false]:=by decide+kernel
theorem HU:∀u∈zL1,(aZ u).map (fun k=>decide (k∈zL2))=[]:=by decide+kernel
theorem Dd:∀u∈zL1,(aZ u).map (fun k=>decide (k∈(pG:List Str)))=[]:=by decide+kernel
theorem za:∀u∈(["halt"]:List Str),(aZ u).map (fun k=>decide (k∈zL2))=[false]:=by decide+kernel
theorem tL:∀u∈(["halt"]:List Str),(aZ u).map (fun k=>decide (k∈(pG:List Str)))=[true]:=by decide+kernel
theorem zc:∀u∈(["tell"]:List Str),(aZ u).map (fun k=>decide (k∈zL2))=[true]:=by decide+kernel
theorem tM:∀u∈(["tell"]:List Str),(aZ u).map (fun k=>decide (k∈(pG:List Str)))=[false]:=by decide+kernel
theorem HV:∀u∈zL0,(aZ u).map (fun k=>decide (k∈zL2))=[true,false]:=by decide+kernel
theorem De:∀u∈zL0,(aZ u).map (fun k=>decide (k∈(pG:List Str)))=[false,true]:=by decide+kernel
theorem HW:∀u∈bj,heads.idxOf (u,(0:Int))=bj.idxOf u:=by decide+kernel
theorem NX:∀u∈five,heads.idxOf (u,(1:Int))=bj.idxOf u+6:=by decide+kernel
theorem iO{ds:List FR}{r:Nat}{d:FR}{t b:Int}(h:d.u∈five)(hu:d.u∈bj)(i6:d.ts=[t])(hb:(jV d ["box"]).headD 0=b)(hb2:(jV d ["box"]).length≠2):
  (dh d=0->dj ds r d=[((bj.idxOf d.u:Nat):Int)*1024+b*128+(bE ds r t+64)])/\(dh d=1->dj ds r d=[((bj.idxOf d.u:Nat):Int)*1024+6144+b*128,bE ds r t]):=by
 have nt:¬d.u ="table":=fun z=>absurd h (by rw[z];decide);refine⟨fun z=>?_,fun z=>?_⟩
 ·have hs:aX d=true:=by unfold aX;rw[decide_eq_true h,decide_eq_true z];rfl
  unfold dj eJ iN AV rK lj;rw[if_pos h,if_neg nt,if_pos h,if_pos hs,z,if_neg (by decide),hb,i6,HW _ hu];rfl
 ·have hs:¬aX d=true:=by unfold aX;rw[z];simp
  unfold dj eJ iN AV rK lj;rw[if_pos h,if_neg nt,if_pos h,if_neg hs,z,if_pos rfl,hb,i6,NX _ h,if_neg hb2];show [_,_]=[_,_];congr 1
  push_cast
  omega
theorem gZ{ds:List FR}{r:Nat}{d:FR}(h:¬d.u∈five)(hu:d.u∈bj):
  dj ds r d=(((bj.idxOf d.u:Nat):Int)*1024+(jV d ["box"]).headD 0*128+(if (jV d ["box"]).length=2 then (jV d ["box"])[1]?.getD 0 else 0))::(if d.u ="table"then ((d.ts.map (bE ds r)).length:Int)::d.ts.map (bE ds r)else jV d pG):=by
 have hs:¬aX d=true:=by unfold aX;rw[decide_eq_false h];simp
 unfold dj eJ iN AV rK lj;rw[if_neg h,if_neg hs,if_neg h,HW _ hu]
theorem tN{l:List Int}(h:l.length=2):∃b c,l=[b,c]:=by
 match l,h with
 | [b,c],_=>exact⟨b,c,rfl⟩
theorem HX:∀u∈bj,u∈five\/u ="table"\/u ="halt"\/u∈zL1\/u∈w2\/u ="tell"\/u∈zL0:=by decide+kernel
def l9(ds:List FR)(r:Nat)(d:FR):FR:=iy d (d.ts.map (bE ds r))
theorem codes:∀u∈bj,heads[bj.idxOf u]? =some (u,(0:Int))/\bj.idxOf u<20:=by decide+kernel
theorem Df:∀u∈five,heads[bj.idxOf u+6]? =some (u,(1:Int)):=by decide+kernel
theorem pQ{h:Str×Int}{c:Nat}{a low u:Int}(hc:heads[c]? =some h)(ha:0<=a/\a<=7)(hl:0<=low/\low<=127)(hn:h.1∈n6->a=0)(hm:low<=rN h)(hu:u=(c:Int)*1024+a*128+low):pO u=some (h,a,low):=by
 have hc25:c<25:=(ad.mp hc).1;have hmem:=ag hc;have e1:(u/1024).toNat=c:=by omega
 have e2:u % 1024/128=a:=by omega
 have e3:u % 128=low:=by omega
 unfold pO;rw[if_pos (by omega),e1,hc,e2,e3];show(if fits h a low=true then some (h,a,low)else none)=_;rw[if_pos];rw[Fh hmem ha.1 hl.1 hl.2,decide_eq_true hm];by_cases z:h.1∈n6
 ·rw[hn z];simp
 ·simp[z]
theorem xg{k:Str}{lo hi n:Int}(hk:¬k∈zL3)(hb:fe k=(lo,hi))(h:gP k n=true):lo<=n/\n<=hi:=by unfold gP inB at h;rw[if_neg hk,hb]at h;exact of_decide_eq_true h
theorem hU{n:Int}(h:gP "box" n=true):0<=n/\n<=7:=xg (by decide) (by decide+kernel:fe "box"=(0,7)) h
theorem zg{us l:List Int}{i:Nat}(h:∀(j:Nat) x,l[j]? =some x->us[i+j]? =some x):(us.drop i).take l.length=l:=by
 apply List.ext_getElem?;intro j;rw[List.getElem?_take];by_cases c:j<l.length
 ·rw[if_pos c,List.getElem?_drop,h j l[j] (aa c),aa c]
 ·rw[if_neg c,List.getElem?_eq_none (by omega)]
theorem FR.eta{d:FR}(h:d.ts=[]):(⟨d.u,d.is,[]⟩:FR)=d:=by cases d;cases h;rfl
theorem Fl{d:FR}(h:d.Ok)(hj:d.u∈gk):(jV d ["box"]).headD 0=0/\(jV d ["box"]).length≠2:=by obtain⟨tt,ff,e1,_⟩:=h.2.2.1 hj;rw[bt,Kk _ hj,e1];exact⟨rfl,show ¬(0:Nat)=2 by decide⟩
theorem Kl{d:FR}(h:d.Ok)(hz:d.u∈zb):(jV d ["box"]).headD 0=d.is.headD 0/\(jV d ["box"]).length≠2:=by obtain⟨bb,tt,ff,e1,_⟩:=h.2.2.2.1 hz;rw[bt,NW _ hz,e1];exact⟨rfl,show ¬(1:Nat)=2 by decide⟩
theorem rR{us:List Int}{at_:Nat}{ds:List FR}{r:Nat}{d:FR}{n b t:Int}(hok:d.Ok)(hg:GoodR d n)(h5:d.u∈five)(i6:d.ts=[t])(hb:(jV d ["box"]).headD 0=b)(hb2:(jV d ["box"]).length≠2)(hbb:0<=b/\b<=7)(hn:d.u∈n6->b=0)(hbr:aX d=true->bf (dst ds r d)=true)
  (hu:∀(j:Nat) x,(dj ds r d)[j]? =some x->us[at_+j]? =some x):rowAt us at_=.ok (fz d.u b (bE ds r t) (dh d)):=by
 obtain⟨u0,u1⟩:=iO (ds:=ds) (r:=r) h5 hok.1 i6 hb hb2;have hc:=codes _ hok.1;rcases hg.2.2.1 h5 with zf | zf
 ·have hsh:aX d=true:=by unfold aX;rw[decide_eq_true h5,decide_eq_true zf];rfl
  have hbo:=of_decide_eq_true (hbr hsh);have SW:dst ds r d=bE ds r t:=by unfold dst;rw[i6];rfl
  rw[SW]at hbo;have e0:=hu 0 _ (by rw[u0 zf];rfl);rw[Nat.add_zero]at e0;rw[j8 e0];have hh:=pQ (h:=(d.u,0)) (a:=b) (low:=bE ds r t+64) hc.1 hbb (by omega) hn (by unfold rN;rw[if_pos (by rw[decide_eq_true h5];rfl)];omega) rfl;show(match pO _ with | none=>Except.error at_ | some (h,a,low)=>cF us at_ h a low)=_;rw[hh];show cF us at_ (d.u,0) b (bE ds r t+64)=_;rw[rO (h:=(d.u,0)) h5];unfold lh;rw[if_pos rfl,zf,show bE ds r t+64-64=bE ds r t by omega]
 ·have e0:=hu 0 _ (by rw[u1 zf];rfl);have e1:=hu 1 _ (by rw[u1 zf];rfl);rw[Nat.add_zero]at e0;rw[j8 e0];have hh:=pQ (h:=(d.u,1)) (c:=bj.idxOf d.u+6) (a:=b) (low:=0) (Df _ h5) hbb (by omega) hn (by unfold rN;split<;>split<;>omega) (u:=((bj.idxOf d.u:Nat):Int)*1024+6144+b*128) (by push_cast;omega);show(match pO _ with | none=>Except.error at_ | some (h,a,low)=>cF us at_ h a low)=_;rw[hh];show cF us at_ (d.u,1) b 0=_;rw[C8 (h:=(d.u,1)) (ag (Df _ h5)) rfl e1,zf]
theorem eK{us:List Int}{at_:Nat}{d:FR}{a low u:Int}{R:Except Nat FR}(hok:d.Ok)(h5:¬d.u∈five)(ha:0<=a/\a<=7)(hl:0<=low/\low<=127)(hn:d.u∈n6->a=0)(hm:low=0\/d.u∈w2/\low<=7)(e0:us[at_]? =some u)(hu:u=((bj.idxOf d.u:Nat):Int)*1024+a*128+low)(ht:cF us at_ (d.u,0) a low=R):rowAt us at_=R:=by
 have hc:=codes _ hok.1;rw[j8 e0]
 have hh:=pQ (h:=(d.u,0)) (a:=a) (low:=low) (u:=u) hc.1 ha hl hn (by
  unfold rN;rcases hm with z | ⟨z1,z2⟩
  ·rw[z];split<;>split<;>omega
  ·rw[if_neg (by rw[decide_eq_false h5];exact kt),if_pos (decide_eq_true z1)];omega) hu
 show(match pO u with | none=>Except.error at_ | some (h,a,low)=>cF us at_ h a low)=_;rw[hh];exact ht
theorem Km{us:List Int}{at_:Nat}{ds:List FR}{r:Nat}{d:FR}{n:Int}(hok:d.Ok)(hg:GoodR d n)(hbr:aX d=true->bf (dst ds r d)=true)
  (hu:∀(j:Nat) x,(dj ds r d)[j]? =some x->us[at_+j]? =some x):rowAt us at_=.ok (l9 ds r d):=by
 unfold l9 iy;by_cases h5:d.u∈five
 ·have nt:¬d.u ="table":=fun z=>absurd h5 (by rw[z];decide);rw[if_neg nt];rcases(by decide+kernel:∀u∈five,(u∈gk/\¬u∈zb)\/(u∈zb/\¬u∈gk/\¬u∈n6)) _ h5 with ⟨z,nz⟩ | ⟨z,nj,n6'⟩
  ·obtain⟨tt,ff,e1,e2⟩:=hok.2.2.1 z;rw[rR hok hg h5 e2 (Fl hok z).1 (Fl hok z).2 (by omega) (fun _=>rfl) hbr hu,if_pos z,e2];unfold fz;rw[if_neg nz];rfl
  ·obtain⟨bb,tt,ff,e1,e2⟩:=hok.2.2.2.1 z;have hb:=hU (hg.2.2.2.box (.inl z) e1);have hp:=Kl hok z;rw[e1]at hp;rw[rR hok hg h5 e2 hp.1 hp.2 hb (fun y=>absurd y n6') hbr hu,if_neg nj,if_pos z,e2,e1];unfold fz;rw[if_pos z];rfl
 ·have hup:=gZ (ds:=ds) (r:=r) h5 hok.1;have nj:¬d.u∈gk:=fun z=>h5 ((by decide+kernel:∀u∈gk,u∈five) _ z);have nz:¬d.u∈zb:=fun z=>h5 ((by decide+kernel:∀u∈zb,u∈five) _ z);by_cases ht:d.u ="table"
  ·rw[if_pos ht];obtain⟨b,e1⟩:=hok.2.1 ht;have hb:=hU (hg.2.2.2.box (.inr ht) e1);have h1:=hg.2.2.2.2 ht;rw[bt,C9 _ (by rw[ht];decide),e1,if_pos ht,length_map]at hup;have e0:=hu 0 _ (by rw[hup];rfl);have eL:=hu 1 _ (by rw[hup];rfl);refine eK hok h5 hb (low:=0) (by omega) (fun y=>absurd y (by rw[ht];decide)) (.inl rfl) e0 rfl ?_;rw[xc (h:=(d.u,0)) ht];unfold tabAt;rw[eL];have hx:∀(j:Nat) x,(d.ts.map (bE ds r))[j]? =some x->us[at_+2+j]? =some x:=fun j x hx=>by rw[show at_+2+j=at_+(j+2) by omega];exact hu (j+2) x (by rw[hup];exact hx)
   have hlen:at_+2+d.ts.length<=us.length:=by
    have hl:d.ts.length-1< (d.ts.map (bE ds r)).length:=by rw[length_map];omega
    have:=(ad.mp (hx (d.ts.length-1) _ (aa hl))).1;omega
   have hw:=zg hx;rw[length_map]at hw;show(if (1:Int)<=((d.ts.length:Nat):Int)/\((d.ts.length:Nat):Int)<=16 then (if us.length<at_+2+(((d.ts.length:Nat):Int)).toNat then Except.error us.length else .ok (⟨"table",[b],(us.drop (at_+2)).take (((d.ts.length:Nat):Int)).toNat⟩:FR))else .error (at_+1))=_;rw[if_pos ⟨by omega,by have:=hg.1;omega⟩,le,if_neg (by omega),hw,e1]
  ·rw[if_neg ht,if_neg nj,if_neg nz];obtain⟨i6,har⟩:=hok.2.2.2.2.1 ht nj nz;rw[if_neg ht]at hup;rcases HX _ hok.1 with z | z | z | z | z | z | z
   ·exact absurd z h5
   ·exact absurd z ht
   ·have hl:d.is.length=1:=by rw[har,z];decide+kernel
    obtain⟨m,en⟩:=length_eq_one_iff.mp hl;rw[bt,bt,za _ (by rw[z];decide),tL _ (by rw[z];decide),en]at hup;have e0:=hu 0 _ (by rw[hup];rfl);have e1:=hu 1 m (by rw[hup];rfl);have hm:=xg (by decide) (by decide+kernel:fe "number"=(0,1000000)) (hg.2.2.2.1 0 "number" m (by rw[z];decide+kernel) (by rw[en];rfl));refine eK hok h5 (a:=0) (low:=0) (by omega) (by omega) (fun _=>rfl) (.inl rfl) e0 rfl ?_;rw[AY (h:=(d.u,0)) z,e1];have hlo:rP d.u=0/\rQ d.u=1000000:=by rw[z];decide+kernel
    show(if rP d.u<=m/\m<=rQ d.u then Except.ok (⟨d.u,[m],[]⟩:FR)else .error (at_+1))=_;rw[if_pos ⟨by rw[hlo.1];exact hm.1,by rw[hlo.2];exact hm.2⟩,<-en,FR.eta i6]
   ·have hl:d.is.length=0:=by rw[har];exact(by decide+kernel:∀u∈zL1,yJ u=0) _ z
    have en:=List.length_eq_zero_iff.mp hl;rw[bt,bt,HU _ z,Dd _ z,en]at hup;have e0:=hu 0 _ (by rw[hup];rfl);refine eK hok h5 (a:=0) (low:=0) (by omega) (by omega) (fun _=>rfl) (.inl rfl) e0 rfl ?_;rw[Fi (h:=(d.u,0)) z];exact congrArg Except.ok ((congrArg (fun l=>(⟨d.u,l,[]⟩:FR)) en.symm).trans (FR.eta i6))
   ·have hl:d.is.length=2:=by rw[har];exact(by decide+kernel:∀u∈w2,yJ u=2) _ z
    obtain⟨b,c,en⟩:=tN hl;have hks:=(by decide+kernel:∀u∈w2,aZ u=zL6/\¬u∈n6) _ z;have hb:=hU (hg.2.2.2.1 0 "box" b (by rw[hks.1];rfl) (by rw[en];rfl));have hc:=hU (hg.2.2.2.1 1 "box" c (by rw[hks.1];rfl) (by rw[en];rfl));rw[bt,bt,HS _ z,Dc _ z,en]at hup;have e0:=hu 0 _ (by rw[hup];rfl);refine eK hok h5 (a:=b) (low:=c) hb (by omega) (fun y=>absurd y hks.2) (.inr ⟨z,hc.2⟩) e0 rfl ?_;rw[Fj (h:=(d.u,0)) z,<-en,FR.eta i6]
   ·have hl:d.is.length=1:=by rw[har,z];decide+kernel
    obtain⟨b,en⟩:=length_eq_one_iff.mp hl;have hb:=hU (hg.2.2.2.1 0 "box" b (by rw[z];decide+kernel) (by rw[en];rfl));rw[bt,bt,zc _ (by rw[z];decide),tM _ (by rw[z];decide),en]at hup;have e0:=hu 0 _ (by rw[hup];rfl);refine eK hok h5 (a:=b) (low:=0) hb (by omega) (fun y=>absurd y (by rw[z];decide)) (.inl rfl) e0 rfl ?_;rw[AX (h:=(d.u,0)) z,<-en,FR.eta i6]
   ·have hl:d.is.length=2:=by rw[har];exact(by decide+kernel:∀u∈zL0,yJ u=2) _ z
    obtain⟨b,c,en⟩:=tN hl;have hks:=(by decide+kernel:∀u∈zL0,(aZ u)[0]? =some ("box": Str)/\(aZ u)[1]? =some (k2 u)/\fe (k2 u)=(rP u,rQ u)/\¬k2 u∈zL3/\¬u∈n6) _ z;have hb:=hU (hg.2.2.2.1 0 "box" b hks.1 (by rw[en];rfl));have hc:=xg hks.2.2.2.1 hks.2.2.1 (hg.2.2.2.1 1 (k2 d.u) c hks.2.1 (by rw[en];rfl));rw[bt,bt,HV _ z,De _ z,en]at hup;have e0:=hu 0 _ (by rw[hup];rfl);have e1:=hu 1 c (by rw[hup];rfl);refine eK hok h5 (a:=b) (low:=0) hb (by omega) (fun y=>absurd y hks.2.2.2.2) (.inl rfl) e0 rfl ?_;rw[Fk (h:=(d.u,0)) z,e1];show(if rP d.u<=c/\c<=rQ d.u then Except.ok (⟨d.u,[b,c],[]⟩:FR)else .error (at_+1))=_;rw[if_pos hc,<-en,FR.eta i6]
theorem pR{ds:List FR}{r:Nat}{d:FR}{n:Int}(hok:d.Ok)(hg:GoodR d n):(((dj ds r d).length:Nat):Int)=jB d:=by
 unfold jB;by_cases h5:d.u∈five
 ·have nt:¬d.u ="table":=fun z=>absurd h5 (by rw[z];decide);rw[if_neg nt,if_pos h5];have hp:∃t,d.ts=[t]/\(jV d ["box"]).length≠2:=by
   rcases(by decide+kernel:∀u∈five,u∈gk\/u∈zb) _ h5 with z | z
   ·obtain⟨tt,ff,e1,e2⟩:=hok.2.2.1 z;exact⟨tt,e2,(Fl hok z).2⟩
   ·obtain⟨bb,tt,ff,e1,e2⟩:=hok.2.2.2.1 z;exact⟨tt,e2,(Kl hok z).2⟩
  obtain⟨t,i6,hb2⟩:=hp;obtain⟨u0,u1⟩:=iO (ds:=ds) (r:=r) h5 hok.1 i6 rfl hb2;rcases hg.2.2.1 h5 with zf | zf
  ·rw[u0 zf,zf];rfl
  ·rw[u1 zf,zf];rfl
 ·have hup:=gZ (ds:=ds) (r:=r) h5 hok.1;have nj:¬d.u∈gk:=fun z=>h5 ((by decide+kernel:∀u∈gk,u∈five) _ z);have nz:¬d.u∈zb:=fun z=>h5 ((by decide+kernel:∀u∈zb,u∈five) _ z);rw[hup];by_cases ht:d.u ="table"
  ·rw[if_pos ht,if_pos ht,length_cons,length_cons,length_map]
   push_cast
   omega
  ·rw[if_neg ht,if_neg ht,if_neg h5,length_cons];obtain⟨i6,har⟩:=hok.2.2.2.2.1 ht nj nz;have key:(jV d pG).length=if d.u∈six then 1 else 0:=by
    rcases HX _ hok.1 with z | z | z | z | z | z | z
    ·exact absurd z h5
    ·exact absurd z ht
    ·have hl:d.is.length=1:=by rw[har,z];decide+kernel
     obtain⟨m,en⟩:=length_eq_one_iff.mp hl;rw[bt,tL _ (by rw[z];decide),en,if_pos (by rw[z];decide)];rfl
    ·rw[bt,Dd _ z,if_neg ((by decide+kernel:∀u∈zL1,¬u∈six) _ z)];rfl
    ·have hl:d.is.length=2:=by rw[har];exact(by decide+kernel:∀u∈w2,yJ u=2) _ z
     obtain⟨b,c,en⟩:=tN hl;rw[bt,Dc _ z,en,if_neg ((by decide+kernel:∀u∈w2,¬u∈six) _ z)];rfl
    ·have hl:d.is.length=1:=by rw[har,z];decide+kernel
     obtain⟨m,en⟩:=length_eq_one_iff.mp hl;rw[bt,tM _ (by rw[z];decide),en,if_neg (by rw[z];decide)];rfl
    ·have hl:d.is.length=2:=by rw[har];exact(by decide+kernel:∀u∈zL0,yJ u=2) _ z
     obtain⟨b,c,en⟩:=tN hl;rw[bt,De _ z,en,if_pos ((by decide+kernel:∀u∈zL0,u∈six) _ z)];rfl
   rw[key];by_cases h6:d.u∈six
   ·rw[if_pos h6,if_pos h6];rfl
   ·rw[if_neg h6,if_neg h6];rfl
structure dn(ds:List FR):Prop where
 ok:∀d∈ds,d.Ok
 good:∀d∈ds,GoodR d ds.length
 bears:∀(r:Nat) d,ds[r]? =some d->aX d=true->bf (dst ds r d)=true
 last:∀d,ds[ds.length-1]? =some d->d.u∈iT
theorem dn.far{ds:List FR}(A:dn ds):∀d∈ds,gY d/\d.ts.length<=16:=fun d hd=>⟨(A.good d hd).2.2.1,(A.good d hd).1⟩
theorem dW{ds:List FR}(A:dn ds):∀n,n<=ds.length->(((bw ds n).length:Nat):Int)=beg ds n
 | 0,_=>rfl
 | n+1,h=>by
  have hd:ds[n]? =some ds[n]:=aa (by omega);have ih:=dW A n (by omega);have hl:=pR (ds:=ds) (r:=n) (A.ok _ (ba (by omega:n<ds.length))) (A.good _ (ba (by omega:n<ds.length)));rw[fh hd,length_append,dB hd]
  push_cast
  omega
theorem mh{ds:List FR}(A:dn ds){r j:Nat}{d:FR}{x:Int}(hd:ds[r]? =some d)(hx:(dj ds r d)[j]? =some x):∀n,r<n->n<=ds.length->(bw ds n)[(beg ds r).toNat+j]? =some x
 | 0,h,_=>absurd h (not_lt_zero _)
 | n+1,h,hn=>by
  have hdn:ds[n]? =some ds[n]:=aa (by omega);rw[fh hdn];by_cases e:r=n
  ·subst e;rw[hd]at hdn;have hl:=dW A r (by omega);cases hdn;rw[ar (by omega),show(beg ds r).toNat+j- (bw ds r).length=j by omega];exact hx
  ·have ih:=mh A hd hx n (by omega) (by omega);rw[ap (ad.mp ih).1];exact ih
def ik(ds:List FR):List FR:=(List.range ds.length).filterMap fun r=>ds[r]?.map (l9 ds r)
theorem pS(ds:List FR):∀n,n<=ds.length->((List.range n).filterMap fun r=>ds[r]?.map (l9 ds r)).length=n/\∀r,r<n->((List.range n).filterMap fun r=>ds[r]?.map (l9 ds r))[r]? =ds[r]?.map (l9 ds r)
 | 0,_=>⟨rfl,fun r h=>absurd h (not_lt_zero _)⟩
 | n+1,h=>by
  have ih:=pS ds n (by omega);have hd:ds[n]? =some ds[n]:=aa (by omega);rw[range_succ,filterMap_append];have e1:([n].filterMap fun r=>ds[r]?.map (l9 ds r))=[l9 ds n ds[n]]:=by simp[hd]
  rw[e1];refine⟨by rw[length_append,ih.1];rfl,fun r hr=>?_⟩;by_cases e:r=n
  ·subst e;rw[ar (by omega),ih.1,sub_self,hd];rfl
  ·rw[ap (by omega)];exact ih.2 r (by omega)
theorem iz(ds:List FR):(ik ds).length=ds.length:=(pS ds _ (le_refl _)).1
theorem tO{ds:List FR}{r:Nat}{d:FR}(hd:ds[r]? =some d):(ik ds)[r]? =some (l9 ds r d):=by have:=(pS ds _ (le_refl _)).2 r (ad.mp hd).1;rw[hd]at this;exact this
theorem tP(d:FR)(ts:List Int):(iy d ts).u=d.u:=by
 unfold iy;split
 ·rename_i z;exact z.symm
 ·split
  ·rfl
  ·split<;>rfl
theorem HY{ds:List FR}{r:Nat}{d:FR}(hok:d.Ok):jB (l9 ds r d)=jB d:=by
 unfold jB;rw[show(l9 ds r d).u=d.u from tP _ _];by_cases ht:d.u ="table"
 ·rw[if_pos ht,if_pos ht];unfold l9 iy;rw[if_pos ht];show(2:Int)+((d.ts.map (bE ds r)).length:Nat)=_;rw[length_map]
 ·rw[if_neg ht,if_neg ht];by_cases h5:d.u∈five
  ·rw[if_pos h5,if_pos h5];congr 1;unfold l9 iy;rw[if_neg ht];rcases(by decide+kernel:∀u∈five,u∈gk\/(u∈zb/\¬u∈gk)) _ h5 with z | ⟨z,nj⟩
   ·rw[if_pos z];rfl
   ·rw[if_neg nj,if_pos z];rfl
  ·rw[if_neg h5,if_neg h5]
theorem xh{ds:List FR}(A:dn ds):∀j,j<=ds.length->beg (ik ds) j=beg ds j
 | 0,_=>rfl
 | j+1,h=>by have hd:ds[j]? =some ds[j]:=aa (by omega);rw[dB (tO hd),dB hd,xh A j (by omega),HY (A.ok _ (ba _))]
theorem pT{ds:List FR}(h:∀d∈ds,gY d/\d.ts.length<=16){i:Nat}:∀j,i<j->j<=ds.length->beg ds i<beg ds j
 | 0,hi,_=>absurd hi (not_lt_zero _)
 | j+1,hi,hj=>by
  have hd:ds[j]? =some ds[j]:=aa (by omega);have h1:=oi (h ds[j] (ba _)).1;rw[dB hd];by_cases e:i=j
  ·subst e;omega
  ·have:=pT h (i:=i) j (Nat.lt_of_le_of_ne (Nat.le_of_lt_succ hi) e) (Nat.le_of_succ_le hj);omega
theorem vF{ds:List FR}(A:dn ds):∀(k r f:Nat),r+k=ds.length->k<f->c9 (bw ds ds.length) f (beg ds r).toNat=.ok ((ik ds).drop r)
 | 0,r,f,h,_=>by
  have e:r=ds.length:=by omega
  subst e;have hl:=dW A ds.length (le_refl _);rw[rG (by omega),List.drop_eq_nil_of_le (by rw[iz];exact le_refl _)]
 | k+1,r,0,_,hf=>absurd hf (not_lt_zero _)
 | k+1,r,f+1,h,hf=>by
  have hrl:r<ds.length:=by omega
  have hd:ds[r]? =some ds[r]:=aa hrl;have hmem:=ba hrl;generalize ds[r]=d at hd hmem;have hrow:rowAt (bw ds ds.length) (beg ds r).toNat=.ok (l9 ds r d):=Km (A.ok _ hmem) (A.good _ hmem) (A.bears r d hd) fun j x hx=>(mh A hd hx _ hrl (le_refl _));have hl:=dW A ds.length (le_refl _);have hlt:=pT A.far (i:=r) ds.length hrl (le_refl _);have hp:=oo A.far r (by omega);have hs:=oi (A.far d hmem).1;show(if (bw ds ds.length).length<=(beg ds r).toNat then Except.ok []else match rowAt (bw ds ds.length) (beg ds r).toNat with | .error e=>.error e | .ok d=>match c9 (bw ds ds.length) f ((beg ds r).toNat+(jB d).toNat)with | .error e=>.error e | .ok l=>.ok (d::l))=_;rw[if_neg (by omega),hrow];show(match c9 (bw ds ds.length) f ((beg ds r).toNat+(jB (l9 ds r d)).toNat)with | .error e=>Except.error e | .ok l=>.ok (l9 ds r d::l))=_;rw[HY (A.ok _ hmem),show(beg ds r).toNat+(jB d).toNat=(beg ds (r+1)).toNat by rw[dB hd];omega,vF A k (r+1) f (by omega) (by omega)];have hsl:r< (ik ds).length:=by rw[iz];exact hrl
  have e:=tO hd;rw[List.drop_eq_getElem_cons hsl];have e2:(ik ds)[r]=l9 ds r d:=by have:=aa hsl;rw[e]at this;exact(Option.some.inj this).symm
  rw[e2]
theorem zh{ds:List FR}(h:∀d∈ds,gY d/\d.ts.length<=16){t:Nat}:∀n,t<n->n<=ds.length->Bg ds n (beg ds t)=some t
 | 0,ht,_=>absurd ht (not_lt_zero _)
 | n+1,ht,hn=>by
  show(if beg ds n=beg ds t then some n else Bg ds n (beg ds t))=some t;by_cases e:t=n
  ·subst e;rw[if_pos rfl]
  ·have:=pT h (i:=t) n (by omega) (by omega);rw[if_neg (by omega),zh h n (by omega) (by omega)]
theorem rS{ds es:List FR}(x:Int):∀n,(∀j,j<n->beg ds j=beg es j)->Bg ds n x=Bg es n x
 | 0,_=>rfl
 | n+1,h=>by show(if beg ds n=x then some n else Bg ds n x)=(if beg es n=x then some n else Bg es n x);rw[h n (lt_succ_self n),rS x n fun j hj=>h j (by omega)]
theorem NY{ds:List FR}{r:Nat}{d:FR}(hok:d.Ok):(l9 ds r d).ts=d.ts.map (bE ds r):=by
 unfold l9 iy;by_cases ht:d.u ="table"
 ·rw[if_pos ht]
 ·rw[if_neg ht];by_cases hj:d.u∈gk
  ·obtain⟨tt,ff,e1,e2⟩:=hok.2.2.1 hj;rw[if_pos hj,e2];rfl
  ·rw[if_neg hj];by_cases hz:d.u∈zb
   ·obtain⟨bb,tt,ff,e1,e2⟩:=hok.2.2.2.1 hz;rw[if_pos hz,e2];rfl
   ·rw[if_neg hz,(hok.2.2.2.2.1 ht hj hz).1];rfl
theorem AZ{d:FR}(hok:d.Ok)(ts:List Int):iy (iy d ts) d.ts=d:=by
 have hu:=tP d ts;obtain⟨u,is,NZ⟩:=d;unfold iy at hu ⊢;by_cases ht:u ="table"
 ·subst ht;rfl
 ·have h0:¬(⟨u,is,NZ⟩:FR).u ="table":=ht;rw[if_neg h0]at hu ⊢;by_cases hj:u∈gk
  ·obtain⟨tt,ff,e1,e2⟩:=hok.2.2.1 hj;have e1:is=[tt,ff]:=e1;have e2:NZ=[tt]:=e2;subst e1;subst e2;have h1:(⟨u,[tt,ff],[tt]⟩:FR).u∈gk:=hj;rw[if_pos h1,if_neg (show ¬(⟨u,[ts.headD 0,dh ⟨u,[tt,ff],[tt]⟩],[ts.headD 0]⟩:FR).u ="table"from ht),if_pos (show(⟨u,[ts.headD 0,dh ⟨u,[tt,ff],[tt]⟩],[ts.headD 0]⟩:FR).u∈gk from hj)];rfl
  ·have h1:¬(⟨u,is,NZ⟩:FR).u∈gk:=hj;rw[if_neg h1]at hu ⊢;by_cases hz:u∈zb
   ·obtain⟨bb,tt,ff,e1,e2⟩:=hok.2.2.2.1 hz;have e1:is=[bb,tt,ff]:=e1;have e2:NZ=[tt]:=e2;subst e1;subst e2;have h2:(⟨u,[bb,tt,ff],[tt]⟩:FR).u∈zb:=hz;rw[if_pos h2,if_neg (show ¬(⟨u,[bb,ts.headD 0,dh ⟨u,[bb,tt,ff],[tt]⟩],[ts.headD 0]⟩:FR).u ="table"from ht),if_neg (show ¬(⟨u,[bb,ts.headD 0,dh ⟨u,[bb,tt,ff],[tt]⟩],[ts.headD 0]⟩:FR).u∈gk from hj),if_pos (show(⟨u,[bb,ts.headD 0,dh ⟨u,[bb,tt,ff],[tt]⟩],[ts.headD 0]⟩:FR).u∈zb from hz)];rfl
   ·have h2:¬(⟨u,is,NZ⟩:FR).u∈zb:=hz;rw[if_neg h2,if_neg h0,if_neg h1,if_neg h2]
theorem Kn{ds:List FR}(A:dn ds){r:Nat}{d:FR}(hd:ds[r]? =some d):jK (ik ds) (ik ds).length r (l9 ds r d)=d.ts.map fun t=>some t.toNat:=by have hmem:=ag hd;have hrl:=(ad.mp hd).1;unfold jK;rw[NY (A.ok _ hmem),map_map,iz];refine map_congr_left fun t ht=>?_;obtain⟨t0,t1⟩:=(A.good _ hmem).2.1 t ht;show Bg (ik ds) ds.length (beg (ik ds) (r+1)+bE ds r t)=some t.toNat;rw[xh A (r+1) (by omega),rS (es:=ds) _ ds.length fun j hj=>xh A j (by omega)];unfold bE;rw[show beg ds (r+1)+(beg ds t.toNat-beg ds (r+1))=beg ds t.toNat by omega];exact zh A.far _ (by omega) (le_refl _)
theorem Fm{ds:List FR}(A:dn ds){r:Nat}{d:FR}(hd:ds[r]? =some d):jm (ik ds) r (l9 ds r d)=false/\qz (ik ds) r (l9 ds r d)=d:=by
 have hmem:=ag hd;have hrl:=(ad.mp hd).1;have hl:=Kn A hd;refine⟨?_,?_⟩
 ·unfold jm;rw[hl,iz,show(l9 ds r d).u=d.u from tP _ _];have h1:decide (none∈d.ts.map fun t=>some t.toNat)=false:=decide_eq_false fun z=>by obtain⟨t,_,e⟩:=mem_map.mp z;cases e
  rw[h1,Bool.false_or];by_cases e:r+1=ds.length
  ·have:d.u∈iT:=A.last d (by rw[show ds.length-1=r by omega];exact hd);rw[decide_eq_true this];simp
  ·rw[decide_eq_false e];rfl
 ·unfold qz;rw[hl,map_map];have:(d.ts.map ((fun o:Option Nat=>((o.getD 0:Nat):Int))∘fun t=>some t.toNat))=d.ts:=by refine(map_congr_left fun t ht=>?_).trans (List.map_id _);obtain⟨t0,t1⟩:=(A.good _ hmem).2.1 t ht;show((t.toNat:Nat):Int)=id t;show((t.toNat:Nat):Int)=t;omega
  rw[this];unfold l9;exact AZ (A.ok _ hmem) _
theorem zi{ds:List FR}(A:dn ds):∀(k r:Nat),r+k=ds.length->jL (ik ds) r ((ik ds).drop r)=.ok (ds.drop r)
 | 0,r,h=>by
  rw[List.drop_eq_nil_of_le (by rw[iz];omega),List.drop_eq_nil_of_le (by omega)];rfl
 | k+1,r,h=>by
  have hrl:r<ds.length:=by omega
  have hd:ds[r]? =some ds[r]:=aa hrl;have hdr:ds.drop r=ds[r]::ds.drop (r+1):=List.drop_eq_getElem_cons hrl;generalize ds[r]=d at hd hdr;have hsl:r< (ik ds).length:=by rw[iz];exact hrl
  have e:=tO hd;have e2:(ik ds)[r]=l9 ds r d:=by have:=aa hsl;rw[e]at this;exact(Option.some.inj this).symm
  have ih:=zi A k (r+1) (by omega);obtain⟨b1,b2⟩:=Fm A hd;rw[List.drop_eq_getElem_cons hsl,e2,hdr];show(if jm (ik ds) r (l9 ds r d)=true then _ else match jL (ik ds) (r+1) ((ik ds).drop (r+1))with | .error e=>Except.error e | .ok m=>.ok (qz (ik ds) r (l9 ds r d)::m))=_;rw[if_neg (by rw[b1];decide),ih,b2]
theorem pU{ds:List FR}(A:dn ds)(h0:ds≠ []):om (bw ds ds.length)=.ok ds:=by
 have hp:0<ds.length:=List.length_pos_iff.mpr h0;have hl:=dW A ds.length (le_refl _);have hlt:=pT A.far (i:=0) ds.length hp (le_refl _);have hb0:beg ds 0=0:=rfl;have key:∀j,j<=ds.length->(j:Int)<=beg ds j:=by
  intro j
  induction j with
  | zero=>intro _;exact Int.le_refl 0
  | succ j ih=>
   intro hj;have h1:=ih (Nat.le_of_succ_le hj);have h2:=pT A.far (i:=j) (j+1) (lt_succ_self j) hj
   push_cast
   omega
 have hk:=key ds.length (le_refl _);unfold om
 rw[if_neg (fun z=>by
  have:=congrArg length z;rw[List.length_nil]at this
  omega)]
 have hr:=vF A ds.length 0 ((bw ds ds.length).length+1) (by omega) (by omega);rw[hb0]at hr;have hr:c9 (bw ds ds.length) ((bw ds ds.length).length+1) 0=.ok (ik ds):=hr;rw[hr];have:=zi A ds.length 0 (by omega);rw[drop_zero,drop_zero]at this;exact this
def Rb:List Str:=bounds.map (·.1)
def LQ(H:Hp)(kd:Str)(v:V):Prop:=(kd ="targets"/\∃(p:Addr) (ts:List Int),v=.ref p/\H p=some (.tup (ts.map V.int))/\ts≠ []/\ts.length<=16/\∀t∈ts,0<=t/\t<=1000000000)\/(kd∈Rb/\∃i,v=.int i/\inB kd i=true)
theorem LQ.same{H H':Hp}{kd:Str}{v:V}(h:LQ H kd v)(s:Same H H'):LQ H' kd v:=by
 rcases h with ⟨a,p,ts,b,c,d⟩ | h
 ·exact .inl ⟨a,p,ts,b,s _ _ c,d⟩
 ·exact .inr h
theorem pV(n:Nat):(replicate n true).map V.bl++ [V.bl true]=(replicate (n+1) true).map V.bl:=by rw[List.replicate_succ',map_append];rfl
theorem tQ(n:Nat):(replicate n true).all id=true:=by simp
theorem HZ(a:V)(l:List V):dJ (a::l) (some 1) none=l:=by unfold dJ;simp[HT.du]
theorem tR{xs:List V}{v:V}{n:Nat}(hl:xs.length=n+1)(h:xs[n]? =some v):kc xs (-1)=some v:=by unfold kc DZ;rw[if_neg (by decide),if_pos (by omega)];show xs[((-1:Int)+(xs.length:Int)).toNat]? =_;rw[show((-1:Int)+(xs.length:Int)).toNat=n by omega];exact h
theorem Ko{H:Hp}{q:Addr}{d:FR}(h:bZ H q d):Cg H q d.u d.ts:=by obtain⟨Jz,h1,_,h2,_⟩:=h.parts;exact⟨Jz,h1,h2⟩
theorem Dg{k:Str}{n lo hi:Int}(e:fe k=(lo,hi))(h:lo<=n/\n<=hi):inB k n=true:=by unfold inB;rw[e];exact decide_eq_true h
theorem ot{k:Str}{n:Int}(hk:¬k∈zL3)(h:gP k n=true):inB k n=true:=by unfold gP at h;rw[if_neg hk]at h;exact h
theorem tS{n:Int}(h:0<=n/\n<=1000000000):inB "target" n=true:=Dg (by decide+kernel:fe "target"=(0,1000000000)) h
theorem zj{n:Int}(h:n=0\/n=1):inB "far" n=true:=Dg (by decide+kernel:fe "far"=(0,1)) (by omega)
theorem tT:∀u∈bj,(aZ u).length<=3/\(¬u ="table"->∀k∈aZ u,k∈Rb):=by decide+kernel
theorem Dh:∀u∈gk,aZ u=(["target","far"]:List Str)/\u∈five:=by decide+kernel
theorem Ia:∀u∈zb,aZ u=(["box","target","far"]:List Str)/\u∈five:=by decide+kernel
theorem Ib:∀u∈bj,¬u ="table"->¬u∈gk->¬u∈zb->∀k∈aZ u,¬k∈zL3:=by decide+kernel
theorem A0{H:Hp}{q:Addr}{d:FR}{n:Int}(h:bZ H q d)(g:GoodR d n)(hn:n<=100000):∃Jz,H q=some (.tup (.str d.u::Jz))/\Jz.length=(aZ d.u).length/\∀(i:Nat) kd x,(aZ d.u)[i]? =some kd->Jz[i]? =some x->LQ H kd x:=by
 obtain⟨⟨o1,o2,o3,o4,o5,_⟩,hA⟩:=h;rcases hA with ⟨hu,b,p,e,h1,h2⟩ | ⟨hu,h1⟩
 ·have hk:aZ d.u=(["box","targets"]:List Str):=by rw[hu];decide+kernel
  refine⟨_,h1,by rw[hk];rfl,fun i kd x a1 a2=>?_⟩;rw[hk]at a1
  match i with
  | 0=>
   cases a1;cases a2;exact .inr ⟨by decide+kernel,b,rfl,ot (by decide) (g.2.2.2.box (.inr hu) e)⟩
  | 1=>
   cases a1;cases a2;exact .inl ⟨rfl,p,d.ts,rfl,h2,(fun z=>by have:=g.2.2.2.2 hu;rw[z]at this;exact absurd this (by decide)),g.1,fun t ht=>⟨(g.2.1 t ht).1,by have:=(g.2.1 t ht).2;omega⟩⟩
  | i+2=>simp at a1
 ·have hi:d.is.length=(aZ d.u).length/\∀(i:Nat) kd v,(aZ d.u)[i]? =some kd->d.is[i]? =some v->inB kd v=true:=by
   by_cases c1:d.u∈gk
   ·obtain⟨t,f,e,et⟩:=o3 c1;obtain⟨hk,h5⟩:=Dh _ c1;rw[e,hk];refine⟨rfl,fun i kd v a1 a2=>?_⟩;have ht:=g.2.1 t (by rw[et];exact mem_singleton.mpr rfl)
    match i with
    | 0=>cases a1;cases a2;exact tS ⟨ht.1,by omega⟩
    | 1=>
     cases a1;cases a2;have hf:=g.2.2.1 h5;unfold dh at hf;rw[e]at hf;exact zj hf
    | i+2=>simp at a1
   by_cases c2:d.u∈zb
   ·obtain⟨b,t,f,e,et⟩:=o4 c2;obtain⟨hk,h5⟩:=Ia _ c2;have hb:=g.2.2.2.box (.inl c2) e;rw[e,hk];refine⟨rfl,fun i kd v a1 a2=>?_⟩;have ht:=g.2.1 t (by rw[et];exact mem_singleton.mpr rfl)
    match i with
    | 0=>cases a1;cases a2;exact ot (by decide) hb
    | 1=>cases a1;cases a2;exact tS ⟨ht.1,by omega⟩
    | 2=>
     cases a1;cases a2;have hf:=g.2.2.1 h5;unfold dh at hf;rw[e]at hf;exact zj hf
    | i+3=>simp at a1
   exact⟨(o5 hu c1 c2).2,fun i kd v a1 a2=>ot (Ib _ o1 hu c1 c2 kd (ag a1)) (g.2.2.2.1 i kd v a1 a2)⟩
  refine⟨_,h1,by rw[length_map,hi.1],fun i kd x a1 a2=>?_⟩;rw[ac]at a2;obtain⟨v,hv,rfl⟩:=map_eq_some_iff.mp a2;exact .inr ⟨(tT _ o1).2 hu kd (ag a1),v,rfl,hi.2 i kd v a1 hv⟩
def Di(ds:List FR):Prop:=0<ds.length/\ds.length<=1000/\(∀d∈ds,GoodR d (ds.length:Nat))/\∃d,ds[ds.length-1]? =some d/\d.u∈iT
def N0:Sp:=fun vs H Q _=>∃(q:Addr) (u:Str) (r:List V),vs=[.ref q]/\H q=some (.tup (.str u::r))/\Q (.str u) H
theorem SX:aE ["thing"] ["thing"] (ak lW):=by walk_at "sc1"
theorem xj{f:Addr}{fd:ed}(F:cr K "word_of" "word_of" lW f fd)(T:Txt K w.params mg): aD P w K mg base cm 1 f fd ["thing"] N0:=by
 refine F.ok SX (by walk_at "ln") (fun cdv A outer s H vs Q E hr h=>?_)
 ·obtain⟨q,u,r,rfl,hq,k⟩:=h
  refine cU (au (cv (gq (bQ (aN dm (by rfl) T.Hs jh (ae (pv 0) (ae (gQ (v:=.ty "tuple") (by rfl) T.tuple d7 rfl) af)))) (gq (aJ jQ (aN aM (by rfl) T.len cE (ae (pv 0) af)) ah (aQ _)) (gR (bQ (aN dm (by rfl) T.Hs jh (ae (aF aY (pv 0) ah (fun _ _=>rfl)) (ae (gQ (v:=.ty "str") (by rfl) T.str wV rfl) af))))))).pt (aw (ay (aC (aF aY (pv 0) ah (fun _ _=>rfl))))) (cu aO))
   (aw (ay (aC iG)))) ?_
  refine⟨_,rfl,_,_,_,_,rfl,.tup hq,jU,_,rfl,bY rfl ?_⟩;refine⟨_,rfl,q,_,rfl,.inr (bz.of hq),_,_,rfl,rfl,_,rfl,bY (decide_eq_true (by rw[length_cons];omega)) ?_⟩;exact⟨_,rfl,q,_,0,_,rfl,rfl,bz.of hq,at0 _ _,_,_,_,_,rfl,.str _,pF (by decide),_,rfl,bY rfl ⟨_,rfl,q,_,0,_,rfl,rfl,bz.of hq,at0 _ _,k⟩⟩
def N2:Sp:=fun vs H Q _=>∃(p:Addr) (ts:List Int),vs=[.ref p]/\H p=some (.tup (ts.map V.int))/\ts≠ []/\ts.length<=16/\(∀t∈ts,0<=t/\t<=1000000000)/\∀H',Same H H'->Q (.bl true) H'
theorem SY:aE ["thing"] ["thing"] (ak gb):=by walk_at "sc1"
def Kp:Scope:={kind:=.function,names:=[(".0",.local),("target",.local),("is_number_of",.globalImplicit)],isGenerator:=false,isCoroutine:=false,more:=[]}
theorem Dj:cS (ak gb) Kp ["thing"] ["target"] [none]:=by walk_at "sc2"
theorem qB{f fN:Addr}{fd vA:ed}(F:cr K "is_targets" "is_targets" gb f fd)(T:Txt K w.params mg)(GN:aD P w K mg base cm 2 fN vA ["kind","thing"] oh)(kN:KI K fN)(bN:Binds K vA ["kind","thing"] [])(mN:mg "is_number_of"=some (.ref fN)):aD P w K mg base cm 3 f fd ["thing"] N2:=by
 refine F.ok SY (by walk_at "ln") (fun cdv A outer s H vs Q E hr h=>?_)
 ·obtain⟨p,ts,rfl,hp,c1,c2,hts,k⟩:=h;obtain⟨tm,hmt⟩:=T.XJ;have c1:0<ts.length:=List.length_pos_iff.mpr c1
  refine cU (au (cv (iS (dD (bQ (aN dm (by rfl) T.Hs jh (ae (pv 0) (ae (gQ (v:=.ty "tuple") (by rfl) T.tuple d7 rfl) af))))) (ia (dD (oF ja ja ah (aN aM (by rfl) T.len cE (ae (pv 0) af)) (bp (v:=.int 16) (by rfl) hmt ⟨_,rfl⟩))))).pt (aw (ay (aC jO))) (cu aO))
   (aw (ay (aC (aN (jA rfl) (by rfl) T.all tE (ae (dQ (N':=["target"]) (fr:=[none]) Dj rfl (wd (pv 0)) (fun C s0 H0 fp=>(cq (i:=0) Dj.nd rfl (Or.inl rfl))) (fun C s0 H0 fp=>dr) (fun C s0 H0 fp=>(ao GN hr (by rfl) mN kN bN .nil aS (ae aW (ae (pv 0) af))))) af)))))) ?_
  refine⟨_,rfl,_,_,_,_,rfl,.tup hp,jU,_,rfl,bu (by decide) ?_⟩;refine⟨_,rfl,p,_,rfl,.inr (bz.of hp),_,_,rfl,rfl,_,rfl,bY (decide_eq_true (by rw[length_map];omega)) ⟨_,_,rfl,rfl,_,rfl,bu (by rw[decide_eq_true (by rw[length_map];omega)];decide) ?_⟩⟩;refine⟨_,rfl,p,rfl,⟨_,bz.of hp⟩,fun D nD=>o8 (K:=K) (a:=p) (xs:=ts.map V.int) (fun i σ ys G=>∃v:Option V,σ=[v]/\i<=16/\ys=(replicate i true).map V.bl/\Same H G/\G D=some (.lst ys)) ?_ ?_ ?_ ?_⟩
  ·exact⟨none,rfl,zero_le _,rfl,aj nD,ai⟩
  ·rintro i σ ys G _ ⟨v,rfl,_,_,s2,_⟩;exact bz.of (s2 _ _ hp)
  ·rintro i x σ ys G hx ⟨v,rfl,AQ,rfl,s2,hD⟩;rw[ac]at hx;obtain⟨t,ht,rfl⟩:=map_eq_some_iff.mp hx;have hi:=(ad.mp ht).1;refine⟨_,rfl,"target",t,rfl,by decide+kernel,?_⟩;rw[tS (hts t (ag ht))];refine⟨hD,aT (by rw[length_map,List.length_replicate];omega),_,rfl,by omega,pV i,aL s2 nD,ai⟩
  rintro σ ys G ⟨v,rfl,_,rfl,s2,hD⟩;refine⟨D,_,rfl,aV.of hD,?_⟩;rw[tQ];exact k G s2
def N3:Sp:=fun vs H Q _=>∃(kd:Str) (v:V),vs=[.str kd,v]/\LQ H kd v/\∀H',Same H H'->Q (.bl true) H'
theorem SZ:aE ["kind","thing"] ["kind","thing"] (ak lV):=by walk_at "sc1"
theorem xk{f fN fS:Addr}{fd vA mZ:ed}(F:cr K "is_part" "is_part" lV f fd)(T:Txt K w.params mg)(GN:aD P w K mg base cm 2 fN vA ["kind","thing"] oh)(kN:KI K fN)(bN:Binds K vA ["kind","thing"] [])(mN:mg "is_number_of"=some (.ref fN))(GS:aD P w K mg base cm 3 fS mZ ["thing"] N2)(kS:KI K fS)(bS:Binds K mZ ["thing"] [])(mS:mg "is_targets"=some (.ref fS)):aD P w K mg base cm 4 f fd ["kind","thing"] N3:=by
 refine F.ok SZ (by walk_at "ln") (fun cdv A outer s H vs Q E hr h=>?_)
 ·obtain⟨kd,v,rfl,h,k⟩:=h
  refine cU (au (cv (aJ cT (pv 0) aW (aQ _)) (aw (ay (aC (ao GS hr (by rfl) mS kS bS .nil aS (ae (pv 1) af))))) (cu aO))
   (aw (ay (aC (ao GN (hr.mono (by decide)) (by rfl) mN kN bN .nil aS (ae (pv 0) (ae (pv 1) af))))))) ?_
  refine⟨_,rfl,rfl,_,rfl,?_⟩;rcases h with ⟨rfl,p,ts,rfl,hp,c1,c2,hts⟩ | ⟨hk,i,rfl,hi⟩
  ·exact bY (decide_eq_true rfl) ⟨_,rfl,p,ts,rfl,hp,c1,c2,hts,k⟩
  ·refine bu (fun z=>?_) ⟨_,rfl,_,rfl,kd,i,rfl,hk,by rw[hi];exact k _ (.refl _)⟩;rw[strEq z]at hk;exact absurd hk (by decide+kernel)
def N4:Sp:=fun vs H Q _=>∃(q p1:Addr) (ks:List Str) (xs:List V),vs=[.ref q,.ref p1]/\(∀H,bz K H q (ks.map V.str))/\H p1=some (.tup xs)/\ks.length<=3/\xs.length=ks.length/\(∀(i:Nat) kd x,ks[i]? =some kd->xs[i]? =some x->LQ H kd x)/\∀H',Same H H'->Q (.bl true) H'
theorem S0:aE ["kinds","things"] ["kinds","things"] (ak gT):=by walk_at "sc1"
def Kq:Scope:={kind:=.function,names:=[(".0",.local),("kind",.local),("thing",.local),("is_part",.globalImplicit)],isGenerator:=false,isCoroutine:=false,more:=[]}
theorem Dk:cS (ak gT) Kq ["kinds","things"] ["kind","thing"] [none,none]:=by walk_at "sc2"
theorem tU{f fP:Addr}{fd yU:ed}(F:cr K "are_parts" "are_parts" gT f fd)(T:Txt K w.params mg)(GP:aD P w K mg base cm 4 fP yU ["kind","thing"] N3)(kP:KI K fP)(bP:Binds K yU ["kind","thing"] [])(mP:mg "is_part"=some (.ref fP)):aD P w K mg base cm 5 f fd ["kinds","things"] (N4 (K:=K)):=by
 refine F.ok S0 (by walk_at "ln") (fun cdv A outer s H vs Q E hr h=>?_)
 ·obtain⟨q,p1,ks,xs,rfl,hq,hp1,h3,hlen,hg,k⟩:=h;refine cU (aw (ay (aC (ib (cO cT (aN aM (by rfl) T.len cE (ae (pv 1) af)) (aN aM (by rfl) T.len cE (ae (pv 0) af)) (aQ _)) (ft (aN (jA rfl) (by rfl) T.all tE (ae (dQ (N':=["kind","thing"]) (fr:=[none,none]) Dk rfl (BU rfl T.zip (ae (pv 0) (ae (pv 1) af))) (fun C s0 H0 fp=>(gA (K:=K) (i:=0) (j:=1) rfl rfl Dk.nd rfl (Or.inl rfl) rfl (Or.inl rfl))) (fun C s0 H0 fp=>dr) (fun C s0 H0 fp=>(ao GP hr (by rfl) mP kP bP .nil aS (ae (pv 0) (ae (pv 1) af))))) af))))))) ?_;refine⟨_,rfl,p1,_,rfl,.inr (bz.of hp1),_,rfl,q,_,rfl,.inr (hq _),rfl,_,rfl,bY (decide_eq_true (by rw[length_map,hlen])) ?_⟩
  refine⟨_,rfl,_,rfl,q,p1,rfl,⟨_,hq _⟩,⟨_,bz.of hp1⟩,fun D nD=>vi (K:=K) (a:=q) (b:=p1) (xs:=ks.map V.str) (zs:=xs) (by rw[length_map,hlen])
    (fun i σ ys H1=>∃(v1 v2:Option V),σ=[v1,v2]/\ys=(replicate i true).map V.bl/\Same H H1/\H1 D=some (.lst ys)) ?_ ?_ ?_ ?_⟩
  ·exact⟨none,none,rfl,rfl,aj nD,ai⟩
  ·rintro i σ ys H1 _ ⟨v1,v2,rfl,rfl,s1,_⟩;exact⟨hq _,bz.of (s1 _ _ hp1)⟩
  ·rintro i y z σ ys H1 t hy hz nt ⟨v1,v2,rfl,rfl,s1,hD⟩;rw[ac]at hy;obtain⟨kd,hkd,rfl⟩:=map_eq_some_iff.mp hy;have hil:=(ad.mp hkd).1;have s3:=aj (o:=.tup [.str kd,z]) nt;refine⟨t,_,rfl,bz.of ai,rfl,_,_,rfl,_,_,rfl,rfl,?_⟩;exact⟨_,rfl,_,rfl,kd,z,rfl,(hg i kd z hkd hz).same (s1.trans s3),fun H5 s5=>⟨s5 _ _ (s3 _ _ hD),aT (by rw[length_map,List.length_replicate];omega),_,_,rfl,pV i,aL ((s1.trans s3).trans s5) nD,ai⟩⟩
  ·rintro σ ys H1 ⟨v1,v2,rfl,rfl,s1,hD⟩;refine⟨D,_,rfl,aV.of hD,?_⟩;rw[tQ];exact k H1 s1
def Kr:Sp:=fun vs H Q _=>∃(q:Addr) (d:FR) (n:Int),vs=[.ref q]/\bZ H q d/\GoodR d n/\n<=100000/\∀H',Same H H'->Q (.bl true) H'
theorem N5:aE ["row","word"] ["row"] (ak pD):=by walk_at "sc1"
theorem A1{f fO fA:Addr}{fd yZ N6:ed}(F:cr K "is_row" "is_row" pD f fd)(T:Txt K w.params mg)(GO:aD P w K mg base cm 1 fO yZ ["thing"] N0)(kO:KI K fO)(bO:Binds K yZ ["thing"] [])(mO:mg "word_of"=some (.ref fO))(GA:aD P w K mg base cm 5 fA N6 ["kinds","things"] (N4 (K:=K)))(kA:KI K fA)(bA:Binds K N6 ["kinds","things"] [])(mA:mg "are_parts"=some (.ref fA)):aD P w K mg base cm 6 f fd ["row"] Kr:=by
 refine F.ok N5 (by walk_at "ln") (fun cdv A outer s H vs Q E hr h=>?_)
 ·obtain⟨q,d,n,rfl,hR,hg,hn,k⟩:=h;obtain⟨pp,hpp,h1⟩:=T.LJ;obtain⟨Jz,hq,hl,hgp⟩:=A0 hR hg hn;obtain⟨qk,Hv,hS⟩:=h1 _ (rE _ hR.1.1)
  refine cU (au (ay (aI (i:=1) N5.nd rfl (Or.inl rfl) (ao GO (hr.mono (by decide)) (by rfl) mO kO bO .nil aS (ae (pv 0) af))))
   (aw (ay (aC (ib (IZ (JF (pv 1) (bp (v:=.ref pp) (by rfl) hpp rfl)) rfl) (ft (ao GA hr (by rfl) mA kA bA .nil aS (ae (gS (bp (v:=.ref pp) (by rfl) hpp rfl) (pv 1) (fun _ _=>rfl)) (ae (cL lS (pv 0) (cK ah) dI) af))))))))) ?_
  refine⟨_,rfl,q,d.u,Jz,rfl,hq,?_⟩;refine⟨_,rfl,pp,d.u,_,rfl,rfl,Hv,_,rfl,bY rfl ?_⟩;refine⟨_,rfl,pp,d.u,_,rfl,rfl,Hv,_,rfl,1,rfl,q,_,rfl,bz.of hq,?_,fun t nt=>?_⟩
  ·intro z;have:HT.du (V.str d.u::Jz).length 0 (some 1)=0:=z.1;simp[HT.du]at this
  rw[HZ];exact⟨qk,t,aZ d.u,Jz,rfl,hS,ai,(tT _ hR.1.1).1,hl,fun i kd x a1 a2=>(hgp i kd x a1 a2).same (aj nt),fun H' s'=>k H' ((aj nt).trans s')⟩
def N7:Sp:=fun vs H Q _=>∃(q:Addr) (u:Str) (ts:List Int) (n:Int),vs=[.ref q,.int n]/\Cg H q u ts/\ts.length<=16/\(∀t∈ts,0<=t/\t<n)/\∀H',Same H H'->Q (.bl true) H'
theorem S2:aE ["row","how_many"] ["row","how_many"] (ak d6):=by walk_at "sc1"
def Ks:Scope:={kind:=.function,names:=[(".0",.local),("target",.local),("how_many",.free)],isGenerator:=false,isCoroutine:=false,more:=[]}
theorem Dl:cS (ak d6) Ks ["row","how_many"] ["target","how_many"] [none,some 1]:=by walk_at "sc2"
theorem nL{f fT:Addr}{fd vo:ed}(F:cr K "stays_within" "stays_within" d6 f fd)(T:Txt K w.params mg)(GT:aD P w K mg base cm 1 fT vo ["row"] iw)(kT:KI K fT)(bT:Binds K vo ["row"] [])(mT:mg "targets_of"=some (.ref fT)):aD P w K mg base cm 2 f fd ["row","how_many"] N7:=by
 refine F.ok S2 (by walk_at "ln") (fun cdv A outer s H vs Q E hr h=>?_)
 ·obtain⟨q,u,ts,n,rfl,hR,AQ,hts,k⟩:=h;refine cU (aw (ay (aC (aN (jA rfl) (by rfl) T.all tE (ae (dQ (N':=["target","how_many"]) (fr:=[none,some 1]) Dl rfl (eP (ao GT hr (by rfl) mT kT bT .nil aS (ae (pv 0) af))) (fun C s0 H0 fp=>(cq (i:=0) Dl.nd rfl (Or.inl rfl))) (fun C s0 H0 fp=>dr) (fun C s0 H0 fp=>(cO mV (pv 0) (pv 1) (aQ _)))) af))))) ?_;refine⟨_,rfl,q,u,ts,rfl,hR,fun l G1 s1 nl hl=>?_⟩;refine⟨l,rfl,⟨_,aV.of hl⟩,fun D nD=>eG (K:=K) (a:=l) (xs:=ts.map V.int) (fun i σ ys G=>∃v:Option V,σ=[v,some (.int n)]/\i<=16/\ys=(replicate i true).map V.bl/\Same G1 G/\G D=some (.lst ys)) ?_ ?_ ?_ ?_⟩
  ·exact⟨none,rfl,zero_le _,rfl,aj nD,ai⟩
  ·rintro i σ ys G _ ⟨v,rfl,_,_,s2,_⟩;exact aV.of (s2 _ _ hl)
  ·rintro i x σ ys G hx ⟨v,rfl,_,rfl,s2,hD⟩;rw[ac]at hx;obtain⟨t,ht,rfl⟩:=map_eq_some_iff.mp hx;have hi:=(ad.mp ht).1;refine⟨_,rfl,_,rfl,_,_,rfl,rfl,hD,aT (by rw[length_map,List.length_replicate];omega),_,rfl,by omega,?_,aL s2 nD,ai⟩;show _++ [V.bl (decide (t<n))]=_;rw[decide_eq_true (hts t (ag ht)).2];exact pV i
  rintro σ ys G ⟨v,rfl,_,rfl,s2,hD⟩;refine⟨D,_,rfl,aV.of hD,?_⟩;rw[tQ];exact k G (s1.trans s2)
def N8:Sp:=fun vs H Q _=>∃(lr:Addr) (ds:List FR),vs=[.ref lr]/\dz H lr ds/\Di ds/\∀H',Same H H'->Q .non H'
theorem N9:aE ["rows","at","row"] ["rows"] (ak iK):=by walk_at "sc1"
theorem qC{f fR fS fG:Addr}{fd vC mZ Oa:ed}(F:cr K "check_rows" "check_rows" iK f fd)(T:Txt K w.params mg)(GR:aD P w K mg base cm 6 fR vC ["row"] Kr)(kR:KI K fR)(bR:Binds K vC ["row"] [])(mR:mg "is_row"=some (.ref fR))(GS:aD P w K mg base cm 2 fS mZ ["row","how_many"] N7)(kS:KI K fS)(bS:Binds K mZ ["row","how_many"] [])(mS:mg "stays_within"=some (.ref fS))(GG:aD P w K mg base cm 1 fG Oa ["row"] w6)(kG:KI K fG)(bG:Binds K Oa ["row"] [])(mG:mg "goes_on"=some (.ref fG)):aD P w K mg base cm 7 f fd ["rows"] N8:=by
 refine F.ok N9 (by walk_at "ln") (fun cdv A outer s H vs Q E hr h=>?_)
 ·obtain⟨lr,ds,rfl,hR,hG,k⟩:=h;obtain⟨tm,hmr⟩:=T.mrw;obtain⟨hl0,hl1,hgd,dl,hdl,hno⟩:=hG;obtain⟨qs,h0,hql,hqr⟩:=id hR;have hxl:(qs.map V.ref).length=ds.length:=by rw[length_map,hql]
  refine cU (au (cv (iS (dD (bQ (aN dm (by rfl) T.Hs jh (ae (pv 0) (ae (gQ (v:=.ty "list") (by rfl) T.list iM rfl) af))))) (ia (aJ cT (aN aM (by rfl) T.len cE (ae (pv 0) af)) ah (aQ _)))).pt (aw (ay oy)) (cu aO))
   (au (ay (eE PassesOwn.never rfl (fX rfl T.enum (ae (cL eT (pv 0) dI (cK (bp (v:=.int 4000) (by rfl) hmr ⟨_,rfl⟩))) af)) (gA (K:=K) (i:=1) (j:=2) rfl rfl N9.nd rfl (Or.inl rfl) rfl (Or.inl rfl)) (az (cN (iS (dD (bQ (ao GR hr (by rfl) mR kR bR .nil aS (ae (pv 2) af)))) (ia (dD (bQ (ao GS (hr.mono (by decide)) (by rfl) mS kS bS .nil aS (ae (pv 2) (ae (aN aM (by rfl) T.len cE (ae (pv 0) af)) af))))))).pt lN aO))))
   (au (cv (aJ jQ (aN aM (by rfl) T.len cE (ae (pv 0) af)) (bp (v:=.int 4000) (by rfl) hmr ⟨_,rfl⟩) (aQ _)) (aw (ay oy)) (cu aO))
   (aw (cv (bQ (ao GG (hr.mono (by decide)) (by rfl) mG kG bG .nil aS (ae (aF aK (pv 0) (eY dG ah) (fun _ _=>rfl)) af))) (aw (ay oy)) (cu aO)))))) ?_
  refine⟨_,rfl,_,_,_,_,rfl,.lst h0,mY,_,rfl,bu (by decide) ?_⟩;refine⟨_,rfl,lr,_,rfl,.inl (aV.of h0),rfl,_,rfl,bu (fun z=>?_) ?_⟩
  ·have:=V.int.inj (of_decide_eq_true z);omega
  refine⟨_,rfl,_,rfl,lr,_,rfl,aV.of h0,fun lc nlc=>?_⟩;rw[show dJ (qs.map V.ref) none (some 4000)=(qs.map V.ref).take 4000 from vt _ 4000,take_of_length_le (by omega)];have s1:=aj (o:=.lst (qs.map V.ref)) nlc;have S3:upd H lc (.lst (qs.map V.ref)) lc=_:=ai;generalize upd H lc (.lst (qs.map V.ref))=G1 at s1 S3 ⊢;refine⟨lc,rfl,⟨_,aV.of S3⟩,eZ (K:=K) (xs:=qs.map V.ref) (fun i σ G=>∃v2 v3:Option V,σ=[some (.ref lr),v2,v3]/\Same G1 G) ?_ ?_ ?_ ?_⟩
  ·exact⟨none,none,rfl,.refl _⟩
  ·rintro i σ G _ ⟨v2,v3,rfl,s2⟩;exact aV.of (s2 _ _ S3)
  ·rintro i x σ G tt hx og ⟨v2,v3,rfl,s2⟩;rw[ac]at hx;obtain⟨q,hq,rfl⟩:=map_eq_some_iff.mp hx;have hil:i<ds.length:=by have:=(ad.mp hq).1;omega
   have hd:ds[i]? =some ds[i]:=aa hil;have hg:=hgd _ (ba hil);generalize ds[i]=d at hd hg;have s3:=s2.trans (aj (o:=.tup [V.int i,.ref q]) og);have htt:upd G tt (.tup [V.int i,.ref q]) tt=_:=ai;generalize upd G tt (.tup [V.int i,.ref q])=G3 at s3 htt ⊢;have rM:=s1.trans s3;refine⟨tt,_,rfl,bz.of htt,rfl,_,_,rfl,_,_,rfl,rfl,?_⟩;have hF:=(hqr i q d hq hd).same rM;refine⟨_,rfl,q,d,_,rfl,hF,hg,by omega,fun G4 s4=>⟨_,rfl,bu (by decide) ?_⟩⟩;refine⟨_,rfl,_,rfl,lr,_,rfl,.inl (aV.of (s4 _ _ (rM _ _ h0))),q,d.u,d.ts,(ds.length:Nat),by rw[hxl];rfl,Ko (hF.same s4),hg.1,hg.2.1,fun G5 s5=>⟨_,rfl,bu (by decide) ?_⟩⟩;exact⟨_,_,rfl,(s3.trans s4).trans s5⟩
  ·rintro σ G ⟨v2,v3,rfl,s2⟩;have s3:=s1.trans s2;have h3:=s3 _ _ h0;refine⟨_,rfl,lr,_,rfl,.inl (aV.of h3),_,_,rfl,rfl,_,rfl,bu (fun z=>by have:=of_decide_eq_true z;omega) ?_⟩;have S4:qs[ds.length-1]? =some (qs[ds.length-1]'(by omega)):=aa _;generalize (qs[ds.length-1]'(by omega))=q at S4;have hat:kc (qs.map V.ref) (-1)=some (.ref q):=tR (n:=ds.length-1) (by omega) (by rw[ac,S4];rfl);refine⟨_,rfl,_,rfl,lr,_,_,.ref q,rfl,rfl,aV.of h3,hat,q,dl,rfl,(hqr _ q dl S4 hdl).same s3,_,rfl,?_⟩;rw[decide_eq_true hno];exact bu (by decide) (k _ s3)
end
open PySem.NumText PySem.W.KIN
section
variable {P:Program}{w:World}{K:Frag}{mg:Str->Option Value}{base:Heap}
def Fn(c:Nat):Bool:=decide (48<=c/\c<=57)
def jM(x:Str):Bool:=x.cps.toList.all Fn&&(decide (x ="0")||(decide (¬x ="")&&decide (¬x.cps[0]? =some 48)))
theorem Kt:∀c:Nat,c<128->(!(Builtin.Str.occurrences ("0123456789": Str) ⟨#[c]⟩ 0 ("0123456789": Str).length 1).isEmpty)=Fn c:=by decide+kernel
def Ie:Sp:=fun vs H Q _=>∃x:Str,vs=[.str x]/\x.cps.all (· <128)=true/\x.cps.size<=100000/\∀H',Same H H'->Q (.bl (jM x)) H'
theorem Ob:aE ["text"] ["text"] (ak gj):=by walk_at "sc1"
def Fo:Scope:={kind:=.function,names:=[(".0",.local),("sign",.local),("FIGURES",.globalImplicit)],isGenerator:=false,isCoroutine:=false,more:=[]}
theorem zk:cS (ak gj) Fo ["text"] ["sign"] [none]:=by walk_at "sc2"
theorem Ku{f:Addr}{fd:ed}(F:cr K "is_figures" "is_figures" gj f fd)(T:Txt K w.params mg):aD P w K mg base cm 1 f fd ["text"] Ie:=by
 refine F.ok Ob (by walk_at "ln") (fun cdv A outer s H vs Q E hr h=>?_)
 ·obtain⟨x,rfl,ha,hz,k⟩:=h;obtain⟨tf,hfg⟩:=T.fgs
  refine⟨_,(aq (cN (dD (bQ (aN (jA rfl) (by rfl) T.all tE (ae (dQ (N':=["sign"]) (fr:=[none]) zk rfl (JO (pv 0)) (fun C s0 H0 fp=>(cq (i:=0) zk.nd rfl (Or.inl rfl))) (fun C s0 H0 fp=>dr) (fun C s0 H0 fp=>(cO z9 (pv 0) (bp (v:=.str "0123456789") (by rfl) hfg ⟨_,rfl⟩) rfl))) af)))) (az (aC jO)) aO)
   (az (aC (Hd (cO cT (pv 0) aW (aQ _)) (ft (ib (cO yn (pv 0) aW (aQ _)) (ft (cO yn (aF Jm (pv 0) ah (fun _ _=>rfl)) aW (aQ _))))))))),?_⟩
  refine⟨_,rfl,x,rfl,ha,fun D nD=>B1 (x:=x) (fun i σ ys H2=>∃v:Option V,σ=[v]/\ys=((x.cps.toList.take i).map Fn).map V.bl/\Same H H2/\H2 D=some (.lst ys)) ?_ ?_ ?_⟩
  ·exact⟨none,rfl,rfl,aj nD,ai⟩
  ·rintro i v σ ys H2 hv ⟨v0,rfl,rfl,s2,hD⟩;unfold QZ at hv;obtain⟨c,hc,rfl⟩:=map_eq_some_iff.mp hv;have hi:i<x.cps.size:=(Array.getElem?_eq_some_iff.mp hc).1;have hc':x.cps.toList[i]? =some c:=by rw[Array.getElem?_toList];exact hc
   have S5:c<128:=by have:=(Array.all_eq_true.mp ha) i hi;rw[(Array.getElem?_eq_some_iff.mp hc).2]at this;exact of_decide_eq_true this
   refine⟨_,rfl,_,_,rfl,rfl,hD,?_,?_⟩
   ·rw[length_map,length_map,length_take];exact lt_of_le_of_lt (le_trans (Nat.min_le_left _ _) (show i<=100000 by omega)) (by decide)
   ·refine⟨_,rfl,?_,aL s2 nD,ai⟩;rw[Kt c S5,take_add_one,hc',map_append,map_append];rfl
  ·rintro σ ys H2 ⟨v0,rfl,rfl,s2,hD⟩;have et:x.cps.toList.take x.cps.size=x.cps.toList:=take_of_length_le (by simp);rw[et]at hD;refine⟨D,_,rfl,aV.of hD,_,rfl,?_⟩;have kk:=k H2 s2;by_cases hall:x.cps.toList.all Fn=true
   ·refine bu (by simp at hall ⊢;exact hall) ?_;by_cases h0:x ="0"
    ·have e:jM x=true:=by unfold jM;rw[hall,decide_eq_true h0];rfl
     rw[e]at kk;have e1:decide (V.str x=V.str "0")=true:=decide_eq_true (by rw[h0]);refine⟨_,rfl,rfl,_,rfl,bY e1 ?_⟩;exact kk
    ·have e1:decide (V.str x=V.str "0")=false:=decide_eq_false fun z=>h0 (V.str.inj z);refine⟨_,rfl,rfl,_,rfl,bu (by rw[e1];decide) ?_⟩;by_cases h1:x =""
     ·have e:jM x=false:=by unfold jM;rw[hall,decide_eq_false h0,decide_eq_false (show ¬ ¬x =""from fun z=>z h1)];rfl
      rw[e]at kk;exact⟨_,rfl,rfl,_,rfl,bu (by rw[h1];decide) kk⟩
     ·have h2:¬V.str x=V.str "":=fun z=>h1 (V.str.inj z);cases hx:x.cps.toList with
      | nil=>exact absurd (kQ (y :="") hx) h1
      | cons c r=>
       have h0c:x.cps[0]? =some c:=by rw[<-Array.getElem?_toList,hx];rfl
       refine⟨_,rfl,rfl,_,rfl,bY (by simp[h2]) ?_⟩;refine⟨_,rfl,x,0,c,rfl,rfl,bX (by rw[Str.length];omega),(by rw[hx];exact at0 _ _),rfl,?_⟩;have e:jM x=!decide (V.str ⟨#[c]⟩=V.str "0"):=by
        unfold jM;rw[hall,decide_eq_false h0,decide_eq_true h1,h0c,Bool.true_and,Bool.false_or,Bool.true_and];by_cases hc:c=48
        ·subst hc;decide
        ·rw[decide_eq_true (show ¬some c=some 48 from fun z=>hc (Option.some.inj z)),decide_eq_false (fun z:V.str ⟨#[c]⟩=V.str "0"=>hc (by have:=V.str.inj z;have:=congrArg (fun s:Str=>s.cps.toList) this;exact(List.cons.inj this).1))];rfl
       rw[e]at kk;exact kk
   ·refine bY (by simp at hall ⊢;exact hall) ?_;have e:jM x=false:=by unfold jM;rw[Bool.eq_false_iff.mpr hall];rfl
    rw[e]at kk;exact kk
def pW(x:Str):Bool:=decide (x.cps.toList.head? =some 45)
def d9(x:Str):Str:=⟨(x.cps.toList.drop 1).toArray⟩
def eM(x:Str):Str:=if pW x=true then d9 x else x
def numOf(x:Str):Int:=((digitsVal x.cps.toList:Nat):Int)
def qD(m:Int)(x:Str):Option Int:=if m< ((eM x).length:Int)\/¬jM (eM x)=true then none else if pW x=true/\eM x ="0"then none else some (if pW x=true then-numOf (eM x)else numOf (eM x))
def ov:Option Int->V
 | none=>.non
 | some i=>.int i
theorem xl(x:Str):Txt.startswith x "-"=pW x:=by
 obtain⟨⟨l⟩⟩:=x;cases l with
 | nil=>decide
 | cons c r=>
  show(decide (0+1<=(c::r).toArray.size)&&((c::r).toArray.extract 0 (0+1)== #[45]))=decide (some c=some 45);have e:(c::r).toArray.extract 0 (0+1)=#[c]:=by simp
  rw[e,decide_eq_true (show 0+1<=(c::r).toArray.size by simp),Bool.true_and];by_cases h:c=45
  ·subst h;decide
  ·rw[decide_eq_false (fun z=>h (Option.some.inj z))];apply beq_false_of_ne;intro z;have:=congrArg Array.toList z;exact h (List.cons.inj this).1
theorem xm{x:Str}(h:pW x=true):Txt.slice x (some 1) none=d9 x:=by
 have h1:(1:Int)<=x.length:=by
  have h:=of_decide_eq_true h;cases e:x.cps.toList with
  | nil=>rw[e]at h;cases h
  | cons c r=>
   have:x.cps.size=(c::r).length:=by rw[<-e];simp
   show(1:Int)<=((x.cps.size:Nat):Int);rw[this,length_cons];omega
 have e:=eq_of_beq (PyProof.Rows.slice_closes_fromL (x:=x) (i:=1) (b:=x.length) (by decide) h1 rfl);rw[e];unfold d9;congr 2;show(x.cps.toList.drop 1).take _=_;apply take_of_length_le;rw[length_drop];show x.cps.toList.length-1<=(((x.cps.size:Nat):Int)-1).toNat;simp
theorem pX{x:Str}(h:jM x=true):AllDigits x.cps.toList/\x.cps.toList≠ []:=by unfold jM at h;rw[Bool.and_eq_true]at h;refine⟨fun c hc=>of_decide_eq_true ((all_eq_true.mp h.1) c hc),fun e=>?_⟩;have e0:x ="":=kQ e;rw[e0]at h;exact absurd h.2 (by decide)
def Ig:Sp:=fun vs H Q _=>∃(x:Str) (m:Int),vs=[.str x,.int m]/\x.cps.all (· <128)=true/\x.cps.size<=100000/\m<=640/\∀H',Same H H'->Q (ov (qD m x)) H'
theorem Dm:aE ["text","most_figures","below","figures"] ["text","most_figures"] (ak ig):=by walk_at "sc1"
theorem Kv{f fG:Addr}{fd Oa:ed}(F:cr K "read_number" "read_number" ig f fd)(T:Txt K w.params mg)(GG:aD P w K mg base cm 1 fG Oa ["text"] Ie)(kG:KI K fG)(bG:Binds K Oa ["text"] [])(mG:mg "is_figures"=some (.ref fG)):aD P w K mg base cm 2 f fd ["text","most_figures"] Ig:=by
 refine F.ok Dm (by walk_at "ln") (fun cdv A outer s H vs Q E hr h=>?_)
 ·obtain⟨x,m,rfl,ha,hz,hm,k⟩:=h
  refine⟨_,(aq (aI (i:=2) Dm.nd rfl (Or.inl rfl) (dg gr PySem.F.slot_str_startswith PySem.F.type_str_startswith AA (pv 0) (ae aW af)))
   (aq (aI (i:=3) Dm.nd rfl (Or.inl rfl) (cQ (bQ (pv 2)) (cL JP (pv 0) (cK ah) dI) (pv 0)))
   (aq (cN (iS (aJ jQ (aN sE (by rfl) T.len cE (ae (pv 3) af)) (pv 1) (aQ _)) (ia (dD (bQ (ao GG hr (by rfl) mG kG bG .nil aS (ae (pv 3) af)))))).pt (az (aC iG)) aO)
   (aq (cN (gq (bQ (pv 2)) (gR (aJ cT (pv 3) aW (aQ _)))).pt (az (aC iG)) aO)
   (az (aC (cQ (bQ (pv 2)) (eY dG (cw kE (by rfl) T.int pE (ae (pv 3) af))) (cw kE (by rfl) T.int pE (ae (pv 3) af))))))))),?_⟩
  refine⟨_,rfl,rfl,x,"-",rfl,rfl,?_⟩;rw[xl];have hfa:(eM x).cps.all (· <128)=true:=by
   unfold eM;split
   ·rw[Array.all_eq_true_iff_forall_mem]at ha ⊢;intro c hc;exact ha c (Array.mem_def.mpr (List.mem_of_mem_drop (i:=1) (by simpa[d9] using Array.mem_def.mp hc)))
   ·exact ha
  have hfz:(eM x).cps.size<=100000:=by
   unfold eM;split
   ·show(x.cps.toList.drop 1).toArray.size<=100000;rw[al,length_drop];simp;omega
   ·exact hz
  cases hb:pW x with
  | false=>
   have ef:eM x=x:=if_neg (by rw[hb];decide);rw[ef]at hfa hfz;have hlen:x.length<=100000:=hfz;refine⟨_,rfl,_,rfl,bu (by decide) ?_⟩;refine⟨_,rfl,?_⟩;refine⟨_,rfl,x,rfl,bX (by omega),_,rfl,_,_,rfl,rfl,_,rfl,?_⟩;by_cases hl:m< (x.length:Int)
   ·refine bY (decide_eq_true hl) ?_;have e:qD m x=none:=by unfold qD;rw[ef,if_pos (.inl hl)]
    have kk:=k H (.refl _);rw[e]at kk;exact kk
   refine bu (fun z=>hl (of_decide_eq_true z)) ?_;refine⟨_,rfl,x,rfl,hfa,hfz,fun H1 s1=>⟨_,rfl,?_⟩⟩;have kk:=k H1 s1;by_cases hf:jM x=true
   ·refine bu (by rw[hf];decide) ?_;obtain⟨hd,hne⟩:=pX hf;have hn:=intText_digits hd hne (by omega);have Kw:x.length<=640:=by omega
    refine⟨_,rfl,_,rfl,bu (by decide) ?_⟩;refine⟨_,rfl,_,rfl,bu (by decide) ?_⟩;refine⟨_,rfl,x,_,rfl,Kw,hn,?_⟩;have hnb:¬pW x=true:=by rw[hb];decide
    have e:qD m x=some (numOf x):=by unfold qD;rw[ef,if_neg (fun z=>z.elim hl (fun y=>y hf)),if_neg (fun z=>hnb z.1),if_neg hnb]
    rw[e]at kk;exact kk
   ·refine bY (by rw[Bool.eq_false_iff.mpr hf];decide) ?_;have e:qD m x=none:=by unfold qD;rw[ef,if_pos (.inr hf)]
    rw[e]at kk;exact kk
  | true=>
   have ef:eM x=(d9 x):=if_pos hb;rw[ef]at hfa hfz;have hlen:(d9 x).length<=100000:=hfz;refine⟨_,rfl,_,rfl,bY rfl ?_⟩;refine⟨_,rfl,1,rfl,x,rfl,bX (show x.cps.size<=1000000 by omega),?_⟩;rw[xm hb];refine⟨_,rfl,(d9 x),rfl,bX (by omega),_,rfl,_,_,rfl,rfl,_,rfl,?_⟩;by_cases hl:m< ((d9 x).length:Int)
   ·refine bY (decide_eq_true hl) ?_;have e:qD m x=none:=by unfold qD;rw[ef,if_pos (.inl hl)]
    have kk:=k H (.refl _);rw[e]at kk;exact kk
   refine bu (fun z=>hl (of_decide_eq_true z)) ?_;refine⟨_,rfl,(d9 x),rfl,hfa,hfz,fun H1 s1=>⟨_,rfl,?_⟩⟩;have kk:=k H1 s1;by_cases hf:jM (d9 x)=true
   ·refine bu (by rw[hf];decide) ?_;obtain⟨hd,hne⟩:=pX hf;have hn:=intText_digits hd hne (by omega);have Kw:(d9 x).length<=640:=by omega
    refine⟨_,rfl,_,rfl,bY rfl ?_⟩;by_cases h0:(d9 x)="0"
    ·refine⟨_,rfl,rfl,_,rfl,bY (decide_eq_true (by rw[h0])) ?_⟩;have e:qD m x=none:=by unfold qD;rw[ef,if_neg (fun z=>z.elim hl (fun y=>y hf)),if_pos ⟨hb,h0⟩]
     rw[e]at kk;exact kk
    ·refine⟨_,rfl,rfl,_,rfl,bu (fun z=>h0 (V.str.inj (of_decide_eq_true z))) ?_⟩;refine⟨_,rfl,_,rfl,bY rfl ?_⟩;refine⟨_,rfl,(d9 x),_,rfl,Kw,hn,_,rfl,?_⟩;have e:qD m x=some (-numOf (d9 x)):=by unfold qD;rw[ef,if_neg (fun z=>z.elim hl (fun y=>y hf)),if_neg (fun z=>h0 z.2),if_pos hb]
     rw[e]at kk;exact kk
   ·refine bY (by rw[Bool.eq_false_iff.mpr hf];decide) ?_;have e:qD m x=none:=by unfold qD;rw[ef,if_pos (.inr hf)]
    rw[e]at kk;exact kk
def tos(i:Int):Str:=Str.ofString (toString i)
theorem zm{a:Str}{ts:List Str}(h:(ts.map (·.length)).sum+ts.length*a.length<=ee):JoinOk a ts=true:=by unfold JoinOk;rw[StrLaws.joinTotal];show(!decide (_>ee))=true;rw[decide_eq_false (by omega)];rfl
theorem zp{i:Int}(h:i.natAbs<10^12):(tos i).length<=13:=by unfold tos;rw[PySem.ofString_length];exact PySem.int_text_length_le10 (k:=12) (by decide) h
theorem Dn{ts:List Str}{n:Nat}(h:∀t∈ts,t.length<=n):(ts.map (·.length)).sum<=ts.length*n:=by
 induction ts with
 | nil=>simp
 | cons a r ih=>
  have h1:=h a (by simp);have h2:=ih fun t ht=>h t (mem_cons_of_mem _ ht);rw[map_cons,List.sum_cons,length_cons,Nat.succ_mul];omega
def vG(b:Bool):List Str:=if b=true then ["far"]else []
abbrev Dp(m:Nat):List Nat:=(toDigits 10 m).map Char.toNat
theorem Fp(m:Nat):(tos (m:Int)).cps.toList=Dp m:=signs_num m
theorem Fq(m:Nat):(tos (-((m+1:Nat):Int))).cps.toList=45::Dp (m+1):=by unfold tos;rw[PyProof.Rows.signs_ofString];show(toString (Int.negSucc m)).toList.map Char.toNat=_;show("-"++Nat.repr (m+1)).toList.map Char.toNat=_;rw[String.toList_append,map_append,Nat.toList_repr];rfl
theorem zq(m:Nat):AllDigits (Dp m):=by intro c hc;obtain⟨ch,hch,e⟩:=mem_map.mp hc;have r:=PyProof.Rows.digit_range (Nat.isDigit_of_mem_toDigits (by decide) (by decide) hch);rw[<-e];exact r
theorem Kx(m:Nat):Dp m≠ []:=by intro e;exact Nat.toDigits_ne_nil (List.map_eq_nil_iff.mp e)
theorem zr{m k:Nat}(h:m<10^k)(hk:0<k):(Dp m).length<=k:=by rw[length_map];exact(Nat.length_toDigits_le_iff (by decide) hk).mpr h
theorem Dq(m:Nat):m=0\/∃c r,Dp m=c::r/\c≠48:=by
 induction m using Nat.strongRecOn with
 | _ m ih=>
  by_cases h:m<10
  ·by_cases h0:m=0
   ·exact .inl h0
   ·refine .inr ⟨(Nat.digitChar m).toNat,[],?_,?_⟩
    ·unfold Dp;rw[Nat.toDigits_of_lt_base h];rfl
    ·have:=digit_back m h;intro z;omega
  ·have hm:m % 10<10:=Nat.mod_lt m (by decide);have t:toDigits 10 (m/10)++toDigits 10 (m % 10)=toDigits 10 (10*(m/10)+m % 10):=Nat.toDigits_append_toDigits (by decide) (by omega) hm;rw[Nat.div_add_mod]at t;rcases ih (m/10) (by omega)with z | ⟨c,r,e,hc⟩
   ·omega
   ·refine .inr ⟨c,r++(toDigits 10 (m % 10)).map Char.toNat,?_,hc⟩;unfold Dp at e ⊢;rw[<-t,map_append,e];rfl
theorem zt{x:Str}{m:Nat}(h:x.cps.toList=Dp m):jM x=true:=by
 unfold jM;rw[Bool.and_eq_true];refine⟨all_eq_true.mpr fun c hc=>decide_eq_true (zq m c (h▸hc)),?_⟩;rcases Dq m with rfl | ⟨c,r,e,hc⟩
 ·have:x ="0":=kQ (by rw[h];decide);rw[this];decide
 ·rw[e]at h;have h1:¬x ="":=fun z=>by rw[z]at h;cases h
  have h2:¬x.cps[0]? =some 48:=by rw[<-Array.getElem?_toList,h];intro z;exact hc (Option.some.inj z)
  rw[decide_eq_true h1,decide_eq_true h2];simp
theorem zu{m k:Nat}(h:m<10^k)(hk:0<k):qD k (tos (m:Int))=some (m:Int):=by
 have e:=Fp m;have hn:pW (tos (m:Int))=false:=by
  unfold pW;rw[e];apply decide_eq_false;intro z;cases hd:Dp m with
  | nil=>exact Kx m hd
  | cons c r=>
   rw[hd]at z;have:=zq m c (by rw[hd];simp);have:c=45:=Option.some.inj z;omega
 have hf:eM (tos (m:Int))=tos (m:Int):=if_neg (by rw[hn];decide);have hl:(tos (m:Int)).length<=k:=by have:=zr h hk;rw[<-e]at this;simpa[Str.length] using this
 unfold qD;rw[hf,if_neg (fun z=>z.elim (fun z=>by omega) (fun z=>z (zt e))),if_neg (fun z=>by rw[hn]at z;cases z.1),if_neg (by rw[hn];decide)];unfold numOf;rw[e,val_back]
theorem Fs{m k:Nat}(h:m+1<10^k)(hk:0<k):qD k (tos (-((m+1:Nat):Int)))=some (-((m+1:Nat):Int)):=by
 have e:=Fq m;have hn:pW (tos (-((m+1:Nat):Int)))=true:=by unfold pW;rw[e];rfl
 have hf:eM (tos (-((m+1:Nat):Int)))=d9 (tos (-((m+1:Nat):Int))):=if_pos hn;have e2:(d9 (tos (-((m+1:Nat):Int)))).cps.toList=Dp (m+1):=by unfold d9;rw[e];rfl
 have hl:(d9 (tos (-((m+1:Nat):Int)))).length<=k:=by have:=zr h hk;rw[<-e2]at this;simpa[Str.length] using this
 have h0:¬d9 (tos (-((m+1:Nat):Int)))="0":=fun z=>by rw[z]at e2;have:=congrArg digitsVal e2;rw[val_back]at this;exact absurd this (by rw[show digitsVal ("0": Str).cps.toList=0 by decide];omega)
 unfold qD;rw[hf,if_neg (fun z=>z.elim (fun z=>by omega) (fun z=>z (zt e2))),if_neg (fun z=>h0 z.2),if_pos hn];unfold numOf;rw[e2,val_back]
theorem Ft{i:Int}{k:Nat}(h:i.natAbs<10^k)(hk:0<k):qD k (tos i)=some i:=by
 rcases Int.le_total 0 i with z | z
 ·obtain⟨m,rfl⟩:=Int.eq_ofNat_of_zero_le z;exact zu (by simpa using h) hk
 ·by_cases h0:i=0
  ·subst h0;exact zu (m:=0) (Nat.pow_pos (by decide)) hk
  ·obtain⟨m,hm⟩:∃m:Nat,i=-((m+1:Nat):Int):=⟨i.natAbs-1,by omega⟩;subst hm;exact Fs (by omega) hk
theorem Ds(a:V)(xs:List V)(b:V):dJ (a::(xs++ [b])) (some 1) (some (-1))=xs:=by
 unfold dJ;have h1:HT.du (a::(xs++ [b])).length 0 (some 1)=1:=by simp[HT.du]
 have h2:HT.du (a::(xs++ [b])).length (a::(xs++ [b])).length (some (-1))=xs.length+1:=by
  simp[HT.du]
  try omega
 rw[h1,h2];simp
theorem Dt(a:V)(xs:List V)(b:V):kc (a::(xs++ [b])) (-1)=some b:=by
 have e:DZ (a::(xs++ [b])).length (-1)=some (xs.length+1):=by
  unfold DZ;rw[if_neg (by decide)];simp
  try omega
 unfold kc;rw[e];show(a::(xs++ [b]))[xs.length+1]? =some b;simp
@[elab_as_elim] theorem dO{G:Hp}{l:Addr}{o:HO}{P:Hp->Prop}(n:G l=none)(h:∀G1,Same G G1->G1 l=some o->P G1):P (upd G l o):=h _ (aj n) ai
def cX(d:FR):List Int:=if d.u ="table"then d.is.headD 0::d.ts else if d.u∈five then d.is.dropLast else d.is
def fj(d:FR):Int:=if d.u∈five then dh d else 0
def gD(d:FR):Prop:=d.Ok/\∃n:Int,n<=100000/\GoodR d n
def hV(d:FR):List Str:=d.u::(vG (decide (d.u∈five)&&decide (fj d=1))++(cX d).map tos)
def iA(d:FR):Str:=Txt.join " " (hV d)
def rT(ds:List FR):Str:=Txt.join "\n" (ds.map iA)
def vH(H:Hp)(q:Addr)(u:Str)(f:Int)(ns:List Int):Prop:=(u ="table"/\∃b ts t,ns=b::ts/\H q=some (.tup [.str u,.int b,.ref t])/\H t=some (.tup (ts.map V.int)))\/(¬u ="table"/\u∈five/\H q=some (.tup (.str u::(ns.map V.int++ [.int f]))))\/(¬u ="table"/\¬u∈five/\H q=some (.tup (.str u::ns.map V.int)))
theorem eu:∀u∈five,u∈gk\/u∈zb:=by decide+kernel
theorem bZ.is_{H:Hp}{q:Addr}{d:FR}(h:bZ H q d):vH H q d.u (fj d) (cX d):=by
 obtain⟨o,h⟩:=h;unfold vH cX fj dh;rcases h with ⟨hu,b,p,e,h1,h2⟩ | ⟨hu,h1⟩
 ·refine .inl ⟨hu,b,d.ts,p,?_,h1,h2⟩;rw[if_pos hu,e];rfl
 ·rw[if_neg hu];by_cases h5:d.u∈five
  ·rw[if_pos h5,if_pos h5];refine .inr (.inl ⟨hu,h5,?_⟩);rw[h1];rcases eu _ h5 with z | z
   ·obtain⟨t,f,e,_⟩:=o.2.2.1 z;rw[e];rfl
   ·obtain⟨b,t,f,e,_⟩:=o.2.2.2.1 z;rw[e];rfl
  ·rw[if_neg h5];exact .inr (.inr ⟨hu,h5,h1⟩)
theorem bZ.of_{H:Hp}{q:Addr}{d:FR}(o:d.Ok)(h:vH H q d.u (fj d) (cX d)):bZ H q d:=by
 refine⟨o,?_⟩;unfold vH cX fj dh at h;rcases h with ⟨hu,b,ts,t,e,h1,h2⟩ | ⟨hu,h5,h1⟩ | ⟨hu,h5,h1⟩
 ·rw[if_pos hu]at e;obtain⟨b',e'⟩:=o.2.1 hu;rw[e']at e;cases e;exact .inl ⟨hu,_,t,e',h1,h2⟩
 ·rw[if_neg hu,if_pos h5,if_pos h5]at h1;refine .inr ⟨hu,?_⟩;rw[h1];rcases eu _ h5 with z | z
  ·obtain⟨t,f,e,_⟩:=o.2.2.1 z;rw[e];rfl
  ·obtain⟨b,t,f,e,_⟩:=o.2.2.2.1 z;rw[e];rfl
 ·rw[if_neg hu,if_neg h5]at h1;exact .inr ⟨hu,h1⟩
theorem Fu:∀k∈Rb,-1000000000<=(fe k).1/\(fe k).2<=1000000000:=by decide+kernel
theorem gD.nums{d:FR}(h:gD d):(cX d).length<=17/\(∀i∈cX d,i.natAbs<=1000000000)/\(d.u∈five->fj d=0\/fj d=1):=by
 obtain⟨o,n,hn,g⟩:=h;have key:∀(i:Nat) k v,(aZ d.u)[i]? =some k->d.is[i]? =some v->k∈Rb->inB k v=true->v.natAbs<=1000000000:=fun i k v _ _ hk hb=>by have:=Fu k hk;unfold inB at hb;have:=of_decide_eq_true hb;omega
 have tgt:∀t∈d.ts,t.natAbs<=1000000000:=fun t ht=>by have:=g.2.1 t ht;omega
 unfold cX fj;by_cases ht:d.u ="table"
 ·obtain⟨b,e⟩:=o.2.1 ht;have hb:=g.2.2.2.box (.inr ht) e;rw[if_pos ht,e];refine⟨by show d.ts.length+1<=17;have:=g.1;omega,fun i hi=>?_,fun z=>by rw[if_pos z];exact g.2.2.1 z⟩;rcases mem_cons.mp hi with rfl | hi
  ·have:=hU hb;omega
  ·exact tgt i hi
 ·rw[if_neg ht];by_cases h5:d.u∈five
  ·rw[if_pos h5,if_pos h5];refine⟨?_,fun i hi=>?_,fun _=>g.2.2.1 h5⟩
   ·rw[List.length_dropLast];rcases eu _ h5 with z | z
    ·obtain⟨t,f,e,_⟩:=o.2.2.1 z;rw[e];exact zle
    ·obtain⟨b,t,f,e,_⟩:=o.2.2.2.1 z;rw[e];exact zle
   ·rcases eu _ h5 with z | z
    ·obtain⟨t,f,e,et⟩:=o.2.2.1 z;rw[e]at hi;rw[mem_singleton.mp (show i∈ [t] from hi)];exact tgt t (by rw[et];exact mem_singleton.mpr rfl)
    ·obtain⟨b,t,f,e,et⟩:=o.2.2.2.1 z;have hb:=hU (g.2.2.2.box (.inl z) e);rw[e]at hi;rcases mem_cons.mp (show i∈ [b,t] from hi)with rfl | hi
     ·omega
     ·rw[mem_singleton.mp hi];exact tgt t (by rw[et];exact mem_singleton.mpr rfl)
  ·rw[if_neg h5];have nj:¬d.u∈gk:=fun z=>h5 (Dh _ z).2;have nz:¬d.u∈zb:=fun z=>h5 (Ia _ z).2;have hl:=(o.2.2.2.2.1 ht nj nz).2;refine⟨by have:=(tT _ o.1).1;unfold yJ at hl;omega,fun i hi=>?_,fun z=>absurd z h5⟩;obtain⟨j,hj⟩:=List.getElem?_of_mem hi;have hjl:=(ad.mp hj).1;have hk:(aZ d.u)[j]? =some ((aZ d.u)[j]'(by unfold yJ at hl;omega)):=aa _;generalize ((aZ d.u)[j]'(by unfold yJ at hl;omega))=k at hk;exact key j k i hk hj ((tT _ o.1).2 ht k (ag hk)) (ot (Ib _ o.1 ht nj nz k (ag hk)) (g.2.2.2.1 j k i hk hj))
def pY(c:Nat):Prop:=c<128/\c≠32/\c≠10
def Clean(x:Str):Prop:=∀c∈x.cps.toList,pY c
instance (c:Nat):Decidable (pY c):=by unfold pY;infer_instance
instance (x:Str):Decidable (Clean x):=by unfold Clean;infer_instance
theorem xr:∀u∈bj,Clean u/\u.length<=20:=by decide+kernel
theorem mj(i:Int):Clean (tos i):=by
 intro c hc;by_cases h:c=45\/(48<=c/\c<=57)
 ·unfold pY;omega
 ·exact absurd hc (PyProof.Rows.int_text_free' c (by omega) i)
theorem xt(b:Bool):∀t∈vG b,Clean t/\t.length<=20:=by
 cases b<;>decide+kernel
theorem Du(d:FR):hV d≠ []:=by simp[hV]
theorem hZ{d:FR}(h:gD d):∀t∈hV d,Clean t/\t.length<=20:=by
 intro t ht;rcases mem_cons.mp ht with rfl | ht
 ·exact xr _ h.1.1
 rcases mem_append.mp ht with ht | ht
 ·exact xt _ t ht
 ·obtain⟨i,hi,rfl⟩:=mem_map.mp ht;exact⟨mj i,le_trans (zp (by have:=h.nums.2.1 i hi;omega)) (by decide)⟩
theorem ml{d:FR}(h:gD d):(hV d).length<=19:=by have:=h.nums.1;unfold hV vG;split<;>simp<;>omega
theorem Fv(i:Int):¬tos i ="far":=fun z=>by
 have:=mj i;have h:102∈(tos i).cps.toList:=by rw[z];decide
 exact absurd h (PyProof.Rows.int_text_free' 102 (by decide) i)
theorem Ih(c:Nat)(ts:List Str):Txt.join ⟨#[c]⟩ ts=Str.join ⟨#[c]⟩ ts:=StrLaws.glued_eq_join _ _
theorem pZ{c:Nat}:∀{ps:List Str} {d:Nat},d∈(Str.join ⟨#[c]⟩ ps).cps.toList->d=c\/∃p∈ps,d∈p.cps.toList
 | [],d,h=>by cases h
 | [x],d,h=>.inr ⟨x,by simp,h⟩
 | x::y::r,d,h=>by
  rw[join_list]at h;rcases mem_append.mp h with h | h
  ·exact .inr ⟨x,by simp,h⟩
  rcases mem_cons.mp h with h | h
  ·exact .inl h
  ·rcases pZ h with h | ⟨p,hp,h⟩
   ·exact .inl h
   ·exact .inr ⟨p,mem_cons_of_mem _ hp,h⟩
theorem mn{c n:Nat}:∀{ps:List Str},(∀p∈ps,p.cps.size<=n)->(Str.join ⟨#[c]⟩ ps).cps.size<=ps.length*(n+1)
 | [],_=>zero_le _
 | [x],h=>by have:=h x (by simp);show x.cps.size<=1*(n+1);omega
 | x::y::r,h=>by have e:=congrArg length (join_list (c:=c) x y r);rw[length_append,length_cons]at e;simp only[Array.length_toList]at e;have h1:=h x (by simp);have h2:=mn (c:=c) (ps:=y::r) fun p hp=>h p (mem_cons_of_mem _ hp);rw[length_cons,Nat.succ_mul];omega
def vI(x:Str):Prop:=(∀c∈x.cps.toList,c<128/\c≠10)/\x.cps.size<=400
theorem j9{d:FR}(h:gD d):vI (iA d):=by
 have e:iA d=Str.join ⟨#[32]⟩ (hV d):=Ih 32 _;rw[e];refine⟨fun c hc=>?_,?_⟩
 ·rcases pZ hc with rfl | ⟨p,hp,hc⟩
  ·decide
  ·have:=(hZ h p hp).1 c hc;unfold pY at this;exact⟨this.1,this.2.2⟩
 ·have:=mn (c:=32) (n:=20) (ps:=hV d) fun p hp=>(hZ h p hp).2;have h2:=ml h;have:(hV d).length*21<=19*21:=Nat.mul_le_mul_right _ h2;omega
theorem vJ{d:FR}(h:gD d):Txt.split (iA d) " "=hV d :=
 pe (c:=32) (Du _) fun p hp z=>by have:=(hZ h p hp).1 32 z;exact absurd rfl this.2.1
theorem xu{ls:List Str}(hne:ls≠ [])(h:∀x∈ls,vI x):Txt.split (Txt.join "\n" ls) "\n"=ls :=
 pe (c:=10) hne fun p hp z=>absurd rfl ((h p hp).1 10 z).2
theorem A2{ls:List Str}(h:∀x∈ls,vI x):(Txt.join "\n" ls).cps.size<=ls.length*401:=by have e:Txt.join "\n" ls=Str.join ⟨#[10]⟩ ls:=Ih 10 _;rw[e];exact mn (c:=10) (n:=400) fun p hp=>(h p hp).2
theorem Fw{ls:List Str}(h:∀x∈ls,vI x)(hl:ls.length<=2000):JoinOk "\n" ls=true:=by refine zm (bX ?_);have h1:(ls.map (·.length)).sum<=ls.length*400:=Dn fun t ht=>(h t ht).2;show _+_*1<=1000000;omega
theorem Fx{d:FR}(h:gD d):JoinOk " " (hV d)=true:=by refine zm (bX ?_);have h1:((hV d).map (·.length)).sum<=(hV d).length*20:=Dn fun t ht=>(hZ h t ht).2;have h2:=ml h;show _+_*1<=1000000;omega
def Ii:Sp:=fun vs H Q _=>∃(q:Addr) (d:FR),vs=[.ref q]/\bZ H q d/\gD d/\∀H',Same H H'->Q (.str (iA d)) H'
theorem rV:aE ["row","word","numbers","words"] ["row"] (ak gU):=by walk_at "sc1"
def Fy:Scope:={kind:=.function,names:=[(".0",.local),("number",.local),("str",.globalImplicit)],isGenerator:=false,isCoroutine:=false,more:=[]}
theorem zv:cS (ak gU) Fy ["row","word","numbers","words"] ["number"] [none]:=by walk_at "sc2"
theorem tV{f fH:Addr}{fd jj:ed}(F:cr K "shown_row" "shown_row" gU f fd)(T:Txt K w.params mg)(GH:aD P w K mg base cm 1 fH jj ["word"] ji)(kH:KI K fH)(bH:Binds K jj ["word"] [])(mH:mg "has_far"=some (.ref fH)):aD P w K mg base cm 2 f fd ["row"] Ii:=by
 refine F.ok rV (by walk_at "ln") (fun cdv A outer s H vs Q E hr h=>?_)
 ·obtain⟨q,d,rfl,hR,hg,k⟩:=h;have hu:=Hl hr
  refine cU (au (ay (aI (i:=1) rV.nd rfl (Or.inl rfl) (aF aY (pv 0) ah (fun _ _=>rfl))))
   (jd (cv (aJ cT (pv 1) aW (aQ _)) (aw (ay (aI (i:=2) rV.nd rfl (Or.inl rfl) (aA iI (cD (ae (aF aY (pv 0) ah (fun _ _=>rfl)) af)) (cw dZ (by rfl) T.list iM (ae (aF aY (pv 0) ah (fun _ _=>rfl)) af)))))) (aw (cv (bQ (ao GH (hr.mono (by decide)) (by rfl) mH kH bH .nil aS (ae (pv 1) af))) (aw (ay (aI (i:=2) rV.nd rfl (Or.inl rfl) (cw dZ (by rfl) T.list iM (ae (cL lS (pv 0) (cK ah) (cK (eY dG ah))) af))))) (aw (ay (aI (i:=2) rV.nd rfl (Or.inl rfl) (cw dZ (by rfl) T.list iM (ae (cL lS (pv 0) (cK ah) dI) af))))))))
   (au (ay (aI (i:=3) rV.nd rfl (Or.inl rfl) (cD (ae (pv 1) af))))
   (jd (cv (gq (bQ (ao GH (hr.mono (by decide)) (by rfl) mH kH bH .nil aS (ae (pv 1) af))) (gR (aJ cT (aF aY (pv 0) (eY dG ah) (fun _ _=>rfl)) ah (aQ _)))).pt (aw (ay (cC (dg fv fw gf bV (pv 3) (ae aW af))))) (cu aO))
   (aw (ay (aC (dg gr PySem.F.slot_str_join PySem.F.type_str_join yH aW (ae (aA iI (pv 3) (dQ (N':=["number"]) (fr:=[none]) zv rfl (eP (pv 2)) (fun C s0 H0 fp=>(cq (i:=0) zv.nd rfl (Or.inl rfl))) (fun C s0 H0 fp=>dr) (fun C s0 H0 fp=>(cw su (by rfl) T.str wV (ae (pv 0) af))))) af))))))))) ?_
  have hN:=hg.nums;have hI:=hR.is_;have uG:=hg.1.1;obtain⟨Jz,hq⟩:∃Jz,H q=some (.tup (.str d.u::Jz)):=by rcases hI with ⟨_,b,ts,t,_,hq,_⟩ | ⟨_,_,hq⟩ | ⟨_,_,hq⟩<;>exact⟨_,hq⟩
  refine⟨_,rfl,q,_,0,_,rfl,rfl,bz.of hq,at0 _ _,?_⟩;refine⟨fun σ G=>∃ln,σ=[some (.ref q),some (.str d.u),some (.ref ln),none]/\Same H G/\G ln=some (.lst ((cX d).map V.int)),?_,?_⟩
  ·refine⟨_,rfl,rfl,_,rfl,?_⟩;rcases hI with ⟨hu,b,ts,t,e,hq,ht⟩ | ⟨hu,h5,hq⟩ | ⟨hu,h5,hq⟩
   ·refine bY (decide_eq_true (by rw[hu])) ?_;refine⟨_,rfl,q,_,1,_,rfl,rfl,bz.of hq,at1 _ _ _,zle,fun l1 n1=>dO n1 fun G1 s1 g1=>?_⟩;refine⟨_,rfl,q,_,2,_,rfl,rfl,bz.of (s1 _ _ hq),at2 _ _ _ _,t,_,rfl,.inr (bz.of (s1 _ _ ht)),fun l2 n2=>dO n2 fun G2 s2 g2=>?_⟩;rw[e]at hN ⊢;refine⟨l1,l2,_,_,rfl,rfl,s2 _ _ g1,g2,bX (by rw[length_map];have:=hN.1;rw[length_cons]at this;show 1+_<=_;omega),fun l3 n3=>dO n3 fun G3 s3 g3=>⟨l3,rfl,s1.trans (s2.trans s3),g3⟩⟩
   ·refine bu (fun z=>hu (strEq z)) ⟨_,rfl,d.u,rfl,uG,_,rfl,bY (decide_eq_true h5) ?_⟩;refine⟨_,rfl,1,rfl,_,rfl,_,rfl,q,_,rfl,bz.of hq,(by simp[HT.du]),fun l1 n1=>dO n1 fun G1 s1 g1=>?_⟩;rw[Ds]at g1;exact⟨l1,_,rfl,.inr (bz.of g1),fun l2 n2=>dO n2 fun G2 s2 g2=>⟨l2,rfl,s1.trans s2,g2⟩⟩
   ·refine bu (fun z=>hu (strEq z)) ⟨_,rfl,d.u,rfl,uG,_,rfl,bu (by rw[decide_eq_false h5];decide) ?_⟩;refine⟨_,rfl,1,rfl,q,_,rfl,bz.of hq,(by simp[HT.du]),fun l1 n1=>dO n1 fun G1 s1 g1=>?_⟩;rw[HZ]at g1;exact⟨l1,_,rfl,.inr (bz.of g1),fun l2 n2=>dO n2 fun G2 s2 g2=>⟨l2,rfl,s1.trans s2,g2⟩⟩
  rintro σ G1 ⟨ln,rfl,s1,Oc⟩;refine⟨_,rfl,zle,fun lw nw=>dO nw fun G2 s2 Rc=>?_⟩;have nlw:ln≠lw:=fun z=>by rw[z,nw]at Oc;cases Oc
  have s12:=s1.trans s2;have Ky:=s2 _ _ Oc;refine⟨fun σ G=>σ=[some (.ref q),some (.str d.u),some (.ref ln),some (.ref lw)]/\Same H G/\G ln=some (.lst ((cX d).map V.int))/\G lw=some (.lst ((d.u::vG (decide (d.u∈five)&&decide (fj d=1))).map V.str)),?_,?_⟩
  ·refine⟨_,rfl,d.u,rfl,uG,_,rfl,?_⟩;by_cases h5:d.u∈five;rotate_left
   ·refine bu (by rw[decide_eq_false h5];decide) (bu (by decide) ⟨rfl,s12,Ky,?_⟩);rw[decide_eq_false h5];exact Rc
   refine bY (decide_eq_true h5) ?_;have hq5:H q=some (.tup (.str d.u::((cX d).map V.int++ [.int (fj d)]))):=by
    rcases hI with ⟨hu,_⟩ | ⟨_,_,h⟩ | ⟨_,h,_⟩
    ·exact absurd h5 (by rw[hu];decide)
    ·exact h
    ·exact absurd h5 h
   refine⟨_,rfl,_,rfl,q,_,-1,_,rfl,rfl,bz.of (s12 _ _ hq5),Dt _ _ _,rfl,_,rfl,?_⟩;by_cases h1:fj d=1
   ·refine bY (decide_eq_true (by rw[h1])) ⟨_,rfl,.inl ⟨rfl,_,aV.of Rc⟩,lw,_,_,rfl,rfl,Rc,(show 1<ee by decide),?_⟩;refine⟨rfl,aL s12 (s1.free nw),(aG nlw).trans Ky,?_⟩;rw[decide_eq_true h5,decide_eq_true h1];exact ai
   ·refine bu (fun z=>h1 (V.int.inj (of_decide_eq_true z))) ⟨rfl,s12,Ky,?_⟩;rw[decide_eq_false h1,Bool.and_false];exact Rc
  rintro σ G3 ⟨rfl,s3,hl3,hw3⟩;refine⟨rfl,_,rfl,_,rfl,ln,rfl,⟨_,aV.of hl3⟩,fun D nD=>eG (K:=K) (a:=ln) (xs:=(cX d).map V.int) (fun i σ ys G=>∃v:Option V,σ=[v]/\ys=(((cX d).take i).map tos).map V.str/\Same G3 G/\G D=some (.lst ys)) ?_ ?_ ?_ ?_⟩
  ·exact⟨none,rfl,rfl,aj nD,ai⟩
  ·rintro i σ ys G _ ⟨v,rfl,rfl,s4,_⟩;exact aV.of (s4 _ _ hl3)
  ·rintro i x σ ys G hx ⟨v,rfl,rfl,s4,hD⟩;rw[ac]at hx;obtain⟨c,hc,rfl⟩:=map_eq_some_iff.mp hx;have hil:=(ad.mp hc).1;have hcm:=hN.2.1 c (ag hc);have h40:c.natAbs.log2<1920:=by
    by_cases e:c.natAbs=0
    ·rw[e];decide
    ·exact Nat.lt_trans ((Nat.log2_lt e).mpr (lt_of_le_of_lt hcm (by decide:1000000000<2^40))) (by decide)
   refine⟨_,rfl,c,rfl,h40,hD,aT (by rw[length_map,length_map,length_take];have:=hN.1;omega),_,rfl,?_,aL s4 nD,ai⟩;rw[take_add_one,hc,map_append,map_append];rfl
  rintro σ ys G ⟨v,rfl,rfl,s4,hD⟩;rw[length_map,take_length]at hD;have el:((cX d).map tos).length=(cX d).length:=length_map ..;have hll:=ml hg;unfold hV at hll;rw[length_cons,length_append,el]at hll;refine⟨lw,D,_,_,rfl,rfl,s4 _ _ hw3,hD,bX (by rw[length_map,length_map,length_cons,el];omega),fun lc nc=>dO nc fun G5 s5 g5=>?_⟩;rw[<-map_append]at g5;exact⟨" ",lc,_,rfl,rfl,aV.of g5,Fx hg,k _ (s3.trans (s4.trans s5))⟩
def Ij:Sp:=fun vs H Q _=>∃(lr:Addr) (ds:List FR),vs=[.ref lr]/\dz H lr ds/\(∀d∈ds,gD d)/\ds.length<=1000/\∀H',Same H H'->Q (.str (rT ds)) H'
theorem Od:aE ["rows"] ["rows"] (ak gg):=by walk_at "sc1"
def Fz:Scope:={kind:=.function,names:=[(".0",.local),("row",.local),("shown_row",.globalImplicit)],isGenerator:=false,isCoroutine:=false,more:=[]}
theorem zx:cS (ak gg) Fz ["rows"] ["row"] [none]:=by walk_at "sc2"
theorem qE{f fS:Addr}{fd mZ:ed}(F:cr K "shown_rows" "shown_rows" gg f fd)(T:Txt K w.params mg)(GS:aD P w K mg base cm 2 fS mZ ["row"] Ii)(kS:KI K fS)(bS:Binds K mZ ["row"] [])(mS:mg "shown_row"=some (.ref fS)):aD P w K mg base cm 3 f fd ["rows"] Ij:=by
 refine F.ok Od (by walk_at "ln") (fun cdv A outer s H vs Q E hr h=>?_)
 ·obtain⟨lr,ds,rfl,hR,hg,hn,k⟩:=h;obtain⟨qs,h0,hql,hqr⟩:=id hR;refine cU (aw (ay (aC (dg gr PySem.F.slot_str_join PySem.F.type_str_join yH aW (ae (dQ (N':=["row"]) (fr:=[none]) zx rfl (eP (pv 0)) (fun C s0 H0 fp=>(cq (i:=0) zx.nd rfl (Or.inl rfl))) (fun C s0 H0 fp=>dr) (fun C s0 H0 fp=>(ao GS (hr.mono (by decide)) (by rfl) mS kS bS .nil aS (ae (pv 0) af)))) af))))) ?_;refine⟨rfl,_,rfl,lr,rfl,⟨_,aV.of h0⟩,fun D nD=>eG (K:=K) (a:=lr) (xs:=qs.map V.ref) (fun i σ ys G=>∃v:Option V,σ=[v]/\ys=((ds.take i).map iA).map V.str/\Same H G/\G D=some (.lst ys)) ?_ ?_ ?_ ?_⟩
  ·exact⟨none,rfl,rfl,aj nD,ai⟩
  ·rintro i σ ys G _ ⟨v,rfl,rfl,s4,_⟩;exact aV.of (s4 _ _ h0)
  ·rintro i x σ ys G hx ⟨v,rfl,rfl,s4,hD⟩;rw[ac]at hx;obtain⟨q,hq,rfl⟩:=map_eq_some_iff.mp hx;have hil:=(ad.mp hq).1;have hd:ds[i]? =some (ds[i]'(by omega)):=aa _;refine⟨_,rfl,q,_,rfl,(hqr i q _ hq hd).same s4,hg _ (ag hd),fun G5 s5=>⟨s5 _ _ hD,aT (by rw[length_map,length_map,length_take];omega),_,rfl,?_,aL (s4.trans s5) nD,ai⟩⟩;rw[take_add_one,hd,map_append,map_append];rfl
  rintro σ ys G ⟨v,rfl,rfl,s4,hD⟩;rw[length_map,hql,take_length]at hD;exact⟨"\n",D,_,rfl,rfl,aV.of hD,Fw (fun x hx=>by obtain⟨d,hd,rfl⟩:=mem_map.mp hx;exact j9 (hg d hd)) (by rw[length_map];omega),k _ s4⟩
theorem FA(xs:List V)(k:Nat):dJ xs none (some (k:Int))=xs.take k:=by
 unfold dJ;rw[HT.eR,HT.oI,drop_zero,Nat.sub_zero];rcases le_total k xs.length with z | z
 ·rw[min_eq_left z]
 ·rw[Nat.min_eq_right z,take_of_length_le z,take_of_length_le (le_refl _)]
theorem rW(xs:List V)(k:Nat):dJ xs (some (k:Int)) none=xs.drop k:=by
 unfold dJ;rw[HT.eR,HT.oI];rcases le_total k xs.length with z | z
 ·rw[min_eq_left z,take_of_length_le (by simp)]
 ·rw[Nat.min_eq_right z];simp[List.drop_of_length_le z]
theorem Dv(xs:List V):dJ xs none (some 1)=xs.take 1:=FA xs 1
theorem p5(xs:List V):dJ xs (some 1) none=xs.drop 1:=rW xs 1
theorem xv(xs:List V):dJ xs (some 2) none=xs.drop 2:=rW xs 2
theorem FC(a:V)(xs:List V):dJ (a::xs) (some 1) (some 2)=xs.take 1:=by
 unfold dJ;rw[show HT.du (a::xs).length 0 (some 1)=1 by simp[HT.du]];have h2:HT.du (a::xs).length (a::xs).length (some 2)=min 2 (a::xs).length:=HT.eR ..;rw[h2];cases xs with
 | nil=>simp
 | cons b r=>simp
theorem Dx(K:Frag)(H:Hp)(ss:List Str)(i:Nat)(x:V)(d:Da)(h1:(ss.map V.str)[i]? =some x)(h2:(ss.map Da.str)[i]? =some d):fY K H x d:=by rw[ac]at h1 h2;obtain⟨a,ha,rfl⟩:=map_eq_some_iff.mp h1;rw[ha]at h2;cases h2;exact .str a
theorem Dy(ss:List Str):(Da.lst (ss.map Da.str)).Nb 1:=.lst fun d hd=>by obtain⟨i,_,rfl⟩:=mem_map.mp hd;exact .str
theorem FD{a b:List Str}(h:a.map Da.str=b.map Da.str):a=b:=by
 induction a generalizing b with
 | nil=>cases b with
  | nil=>rfl
  | cons=>cases h
 | cons x r ih=>cases b with
  | nil=>cases h
  | cons y t=>
   have h:=List.cons.inj h;rw[ih h.2,Da.str.inj h.1]
theorem FE(i:Int):(tos i).cps.all (· <128)=true:=by rw[Array.all_eq_true_iff_forall_mem];intro c hc;exact decide_eq_true (mj i c (Array.mem_def.mp hc)).1
theorem A3{d:FR}(h:gD d):(decide (d.u∈five)&&decide ((vG (decide (d.u∈five)&&decide (fj d=1))++(cX d).map tos).take 1=zL5))=(decide (d.u∈five)&&decide (fj d=1)):=by
 by_cases h5:d.u∈five
 ·rw[decide_eq_true h5,Bool.true_and,Bool.true_and];by_cases h1:fj d=1
  ·rw[decide_eq_true h1];exact decide_eq_true rfl
  ·rw[decide_eq_false h1];apply decide_eq_false;intro z;have z:((cX d).map tos).take 1=zL5:=z;cases e:cX d with
   | nil=>rw[e]at z;cases z
   | cons i r=>
    rw[e]at z;exact Fv i (List.cons.inj z).1
 ·rw[decide_eq_false h5];rfl
theorem xA(d:FR):(if (decide (d.u∈five)&&decide (fj d=1))=true then (vG (decide (d.u∈five)&&decide (fj d=1))++(cX d).map tos).drop 1 else vG (decide (d.u∈five)&&decide (fj d=1))++(cX d).map tos)=(cX d).map tos:=by
 cases (decide (d.u∈five)&&decide (fj d=1))<;>rfl
theorem FG{d:FR}(h:gD d):(if (decide (d.u∈five)&&decide (fj d=1))=true then (1:Int)else 0)=fj d:=by
 by_cases h5:d.u∈five
 ·rw[decide_eq_true h5,Bool.true_and];rcases h.nums.2.2 h5 with e | e
  ·rw[e];rfl
  ·rw[e];rfl
 ·rw[decide_eq_false h5];unfold fj;rw[if_neg h5];rfl
def Ik:Sp:=fun vs H Q _=>∃(ln:Addr) (d:FR),vs=[.str d.u,.int (fj d),.ref ln]/\H ln=some (.lst ((cX d).map V.int))/\gD d/\∀q H',Same H H'->bZ H' q d->Q (.ref q) H'
theorem Oe:aE ["word","far","numbers"] ["word","far","numbers"] (ak eI):=by walk_at "sc1"
theorem lq{f fH:Addr}{fd jj:ed}(F:cr K "row_of_numbers" "row_of_numbers" eI f fd)(T:Txt K w.params mg)(GH:aD P w K mg base cm 1 fH jj ["word"] ji)(kH:KI K fH)(bH:Binds K jj ["word"] [])(mH:mg "has_far"=some (.ref fH)):aD P w K mg base cm 2 f fd ["word","far","numbers"] Ik:=by
 refine F.ok Oe (by walk_at "ln") (fun cdv A outer s H vs Q E hr h=>?_)
 ·obtain⟨ln,d,rfl,hl,hg,k⟩:=h;have hN:=hg.nums.1;have uG:=hg.1.1;have k:∀q H',Same H H'->vH H' q d.u (fj d) (cX d)->Q (.ref q) H':=fun q H' s h=>k q H' s (.of_ hg.1 h)
  refine cU (au (cv (aJ cT (pv 0) aW (aQ _)) (aw (ay (aC (aA ku (aA ku (cG (ae (pv 0) af)) (cw cZ (by rfl) T.tuple d7 (ae (cL eT (pv 2) dI (cK ah)) af))) (cG (ae (cw cZ (by rfl) T.tuple d7 (ae (cL eT (pv 2) (cK ah) dI) af)) af)))))) (cu aO))
   (au (cv (bQ (ao GH (hr.mono (by decide)) (by rfl) mH kH bH .nil aS (ae (pv 0) af))) (aw (ay (aC (aA ku (aA ku (cG (ae (pv 0) af)) (cw cZ (by rfl) T.tuple d7 (ae (pv 2) af))) (cG (ae (pv 1) af)))))) (cu aO))
   (aw (ay (aC (aA ku (cG (ae (pv 0) af)) (cw cZ (by rfl) T.tuple d7 (ae (pv 2) af)))))))) ?_
  refine⟨_,rfl,rfl,_,rfl,?_⟩;by_cases ht:d.u ="table"
  ·obtain⟨b,ts,e⟩:∃b ts,cX d=b::ts:=by unfold cX;rw[if_pos ht];exact⟨_,_,rfl⟩
   rw[e]at hl hN k;rw[length_cons]at hN;refine bY (decide_eq_true (by rw[ht])) ⟨_,rfl,zle,fun t1 n1=>dO n1 fun G1 s1 g1=>?_⟩;refine⟨_,rfl,1,rfl,ln,_,rfl,aV.of (s1 _ _ hl),fun l1 m1=>dO m1 fun G2 s2 g2=>?_⟩;rw[Dv]at g2;refine⟨l1,_,rfl,.inl ⟨aV.of g2,fun t2 n2=>dO n2 fun G3 s3 g3=>?_⟩⟩;refine⟨t1,t2,_,_,rfl,rfl,(s2.trans s3) _ _ g1,bz.of g3,by simp,bX (by show 1+1<=1000000;decide),fun t3 G4 s4 g4=>?_⟩;have X0:=s1.trans (s2.trans (s3.trans s4));refine⟨_,rfl,1,rfl,ln,_,rfl,aV.of (X0 _ _ hl),fun l2 m2=>dO m2 fun G5 s5 g5=>?_⟩;rw[p5]at g5;refine⟨l2,_,rfl,.inl ⟨aV.of g5,fun t4 n4=>dO n4 fun G6 s6 g6=>⟨zle,fun t5 n5=>dO n5 fun G7 s7 g7=>?_⟩⟩⟩;refine⟨t3,t5,_,_,rfl,rfl,(s5.trans (s6.trans s7)) _ _ g4,bz.of g7,by simp,bX (by show 2+1<=1000000;decide),fun t6 G8 s8 g8=>?_⟩;exact k _ _ (X0.trans (s5.trans (s6.trans (s7.trans s8)))) (.inl ⟨ht,b,ts,t4,rfl,g8,(s7.trans s8) _ _ g6⟩)
  ·refine bu (fun z=>ht (strEq z)) ⟨_,rfl,d.u,rfl,uG,_,rfl,?_⟩;by_cases hf:d.u∈five
   ·refine bY (decide_eq_true hf) ⟨_,rfl,zle,fun t1 n1=>dO n1 fun G1 s1 g1=>?_⟩;refine⟨_,rfl,ln,_,rfl,.inl ⟨aV.of (s1 _ _ hl),fun t2 n2=>dO n2 fun G3 s3 g3=>?_⟩⟩;refine⟨t1,t2,_,_,rfl,rfl,s3 _ _ g1,bz.of g3,by simp,bX (by rw[length_map];show 1+_<=1000000;omega),fun t3 G4 s4 g4=>?_⟩;refine⟨_,rfl,zle,fun t5 n5=>dO n5 fun G7 s7 g7=>?_⟩;refine⟨t3,t5,_,_,rfl,rfl,s7 _ _ g4,bz.of g7,by simp,bX (by rw[length_append,length_map];show 1+_+1<=1000000;omega),fun t6 G8 s8 g8=>?_⟩;exact k _ _ (s1.trans (s3.trans (s4.trans (s7.trans s8)))) (.inr (.inl ⟨ht,hf,g8⟩))
   ·refine bu (by rw[decide_eq_false hf];decide) ⟨_,rfl,zle,fun t1 n1=>dO n1 fun G1 s1 g1=>?_⟩;refine⟨_,rfl,ln,_,rfl,.inl ⟨aV.of (s1 _ _ hl),fun t2 n2=>dO n2 fun G3 s3 g3=>?_⟩⟩;refine⟨t1,t2,_,_,rfl,rfl,s3 _ _ g1,bz.of g3,by simp,bX (by rw[length_map];show 1+_<=1000000;omega),fun t3 G4 s4 g4=>?_⟩;exact k _ _ (s1.trans (s3.trans s4)) (.inr (.inr ⟨ht,hf,g4⟩))
def Il:Sp:=fun vs H Q _=>∃d:FR,vs=[.str (iA d)]/\gD d/\∀q H',Same H H'->bZ H' q d->Q (.ref q) H'
theorem p6:aE ["line","words","word","is_far","shown","numbers","row"] ["line"] (ak iL):=by walk_at "sc1"
def FH:Scope:={kind:=.function,names:=[(".0",.local),("text",.local),("read_number",.globalImplicit),("MOST_FIGURES",.globalImplicit)],isGenerator:=false,isCoroutine:=false,more:=[]}
theorem zy:cS (ak iL) FH ["line","words","word","is_far","shown","numbers","row"] ["text"] [none]:=by walk_at "sc2"
theorem vK{f fH fN fO fI:Addr}{fd jj vA yZ rC:ed}(F:cr K "read_row" "read_row" iL f fd)(T:Txt K w.params mg)(GH:aD P w K mg base cm 1 fH jj ["word"] ji)(kH:KI K fH)(bH:Binds K jj ["word"] [])(mH:mg "has_far"=some (.ref fH))(GN:aD P w K mg base cm 2 fN vA ["text","most_figures"] Ig)(kN:KI K fN)(bN:Binds K vA ["text","most_figures"] [])(mN:mg "read_number"=some (.ref fN))(GO:aD P w K mg base cm 2 fO yZ ["word","far","numbers"] Ik)(kO:KI K fO)(bO:Binds K yZ ["word","far","numbers"] [])(mO:mg "row_of_numbers"=some (.ref fO))(GI:aD P w K mg base cm 6 fI rC ["row"] Kr)(kI:KI K fI)(bI:Binds K rC ["row"] [])(mI:mg "is_row"=some (.ref fI)):aD P w K mg base cm 7 f fd ["line"] Il:=by
 refine F.ok p6 (by walk_at "ln") (fun cdv A outer s H vs Q E hr h=>?_)
 ·obtain⟨d,rfl,hg,k⟩:=h;have hu:=Hl hr;have Kz:=lt_of_le_of_lt (Nat.add_le_add_left (by decide:6<=64) _) hr.units;obtain⟨p,hp,hb⟩:=T.LJ;obtain⟨tm,Rf⟩:=T.mfg;have uG:=hg.1.1;have hN:=hg.nums;have hL:=j9 hg;obtain⟨q2,hk2,_⟩:=hb _ (rE _ uG)
  refine cU (au (ay (aI (i:=1) p6.nd rfl (Or.inl rfl) (dg gr PySem.F.slot_str_split PySem.F.type_str_split vm (pv 0) (ae aW af))))
   (au (ay (aI (i:=2) p6.nd rfl (Or.inl rfl) (aF aK (pv 1) ah (fun _ _=>rfl))))
   (au (cv (sq (Az (pv 2) (bp (v:=.ref p) (by rfl) hp rfl)) rfl) (aw (ay (aC iG))) (cu aO))
   (au (ay (aI (i:=3) p6.nd rfl (Or.inl rfl) (oX (ib (ao GH (hr.mono (by decide)) (by rfl) mH kH bH .nil aS (ae (pv 2) af)) (ft (cO (sM Kz) (cL eT (pv 1) (cK ah) (cK ah)) (cD (ae aW af)) (aQ _)))))))
   (au (ay (aI (i:=4) p6.nd rfl (Or.inl rfl) (oX (cQ (bQ (pv 3)) (cL eT (pv 1) (cK ah) dI) (cL eT (pv 1) (cK ah) dI)))))
   (au (ay (sI (i:=5) (N':=["text"]) (fr:=[none]) p6.nd rfl rfl zy rfl (eP (pv 4)) (fun C s0 H0 fp=>(cq (i:=0) zy.nd rfl (Or.inl rfl))) (fun C s0 H0 fp=>dr) (fun C s0 H0 fp=>(ao GN (hr.mono (by decide)) (by rfl) mN kN bN .nil aS (ae (pv 0) (ae (bp (v:=.int 10) (by rfl) Rf ⟨_,rfl⟩) af))))))
   (au (ay (aI (i:=6) p6.nd rfl (Or.inl rfl) (ao GO (hr.mono (by decide)) (by rfl) mO kO bO .nil aS (ae (pv 2) (ae (oX (cQ (bQ (pv 3)) ah ah)) (ae (pv 5) af))))))
   (aw (ay (aC (cQ (bQ (ao GI hr (by rfl) mI kI bI .nil aS (ae (pv 6) af))) (pv 6) iG))))))))))) ?_
  refine⟨_,rfl,rfl,iA d," ",rfl,rfl,by decide,lt_of_le_of_lt hL.2 (by decide),fun lw nw=>?_⟩;rw[vJ hg];refine dO nw fun G1 s1 g1=>?_;refine⟨_,rfl,lw,_,0,_,rfl,rfl,aV.of g1,at0 _ _,?_⟩;refine⟨_,rfl,p,d.u,some (.ref q2),rfl,rfl,hk2,_,rfl,bu (fun z=>by cases z) ?_⟩;have pN:=A3 hg;have hres:=xA d;have hfi:=FG hg;generalize hr_:vG (decide (d.u∈five)&&decide (fj d=1))++(cX d).map tos=r at pN hres;have g1:G1 lw=some (.lst ((d.u::r).map V.str)):=by rw[<-hr_];exact g1
  generalize hfb:(decide (d.u∈five)&&decide (fj d=1))=fb at pN hres hfi;refine⟨fun v G=>v=.bl fb/\Same G1 G,?_,?_⟩
  ·refine⟨_,rfl,d.u,rfl,uG,_,rfl,?_⟩;by_cases h5:d.u∈five
   ·rw[decide_eq_true h5,Bool.true_and]at pN;refine bY (decide_eq_true h5) ⟨_,rfl,1,rfl,2,rfl,lw,_,rfl,aV.of g1,fun l1 n1=>?_⟩;rw[map_cons,FC,<-map_take];refine dO n1 fun G2 s2 g2=>⟨zle,fun l2 n2=>dO n2 fun G3 s3 g3=>?_⟩;refine⟨1,l1,l2,_,_,rfl,rfl,.lst (aV.of (s3 _ _ g2)) (by simp) (Dx _ _ (r.take 1)),.lst (xs:=zL5.map V.str) (ds:=zL5.map Da.str) (aV.of g3) (by simp) (Dx _ _ ["far"]),Dy _,Dy _,by decide,?_,s2.trans s3⟩;rw[Bool.false_xor,<-pN];congr 1;exact decide_eq_decide.mpr ⟨fun z=>FD (Da.lst.inj z),fun z=>by rw[z]⟩
   ·rw[decide_eq_false h5]at pN;refine bu (by rw[decide_eq_false h5];decide) ⟨?_,.refl _⟩;rw[<-pN];rfl
  rintro v G2 ⟨rfl,s2⟩;have g2:=s2 _ _ g1;refine⟨fun v G=>∃l,v=.ref l/\Same G2 G/\G l=some (.lst (((cX d).map tos).map V.str)),?_,?_⟩
  ·refine⟨_,rfl,_,rfl,?_⟩;rw[<-hres];by_cases hf:fb=true
   ·refine bY hf ⟨_,rfl,2,rfl,lw,_,rfl,aV.of g2,fun l1 n1=>dO n1 fun G3 s3 g3=>⟨l1,rfl,s3,?_⟩⟩;rw[if_pos hf,g3,map_cons,xv,map_drop];rfl
   ·refine bu hf ⟨_,rfl,1,rfl,lw,_,rfl,aV.of g2,fun l1 n1=>dO n1 fun G3 s3 g3=>⟨l1,rfl,s3,?_⟩⟩;rw[if_neg hf,g3,map_cons,p5];rfl
  rintro v G3 ⟨l,rfl,s3,g3⟩;refine⟨_,rfl,l,rfl,⟨_,aV.of g3⟩,fun D nD=>eG (K:=K) (a:=l) (xs:=((cX d).map tos).map V.str) (fun i σ ys G=>∃v:Option V,σ=[v]/\ys=((cX d).take i).map V.int/\Same G3 G/\G D=some (.lst ys)) ?_ ?_ ?_ ?_⟩
  ·exact⟨none,rfl,rfl,aj nD,ai⟩
  ·rintro i σ ys G _ ⟨v,rfl,rfl,s4,_⟩;exact aV.of (s4 _ _ g3)
  ·rintro i y σ ys G hy ⟨v,rfl,rfl,s4,hD⟩;rw[ac]at hy;obtain⟨x,hx,rfl⟩:=map_eq_some_iff.mp hy;rw[ac]at hx;obtain⟨c,hc,rfl⟩:=map_eq_some_iff.mp hx;have hil:=(ad.mp hc).1;have hcm:=hN.2.1 c (ag hc);refine⟨_,rfl,tos c,10,rfl,FE c,le_trans (zp (lt_of_le_of_lt hcm (by decide))) (by decide),by decide,fun G5 s5=>?_⟩;have er:qD 10 (tos c)=some c:=Ft (k:=10) (lt_of_le_of_lt hcm (by decide)) (by decide);rw[er];refine⟨s5 _ _ hD,aT (by rw[length_map,length_take];have:=hN.1;omega),_,rfl,?_,aL (s4.trans s5) nD,ai⟩;rw[take_add_one,hc,map_append];rfl
  rintro σ ys G4 ⟨v,rfl,rfl,s4,hD⟩;rw[length_map,length_map,take_length]at hD;refine⟨_,rfl,fun v G=>v=.int (fj d)/\G=G4,?_,?_⟩
  ·refine⟨_,rfl,_,rfl,?_⟩;rw[<-hfi];by_cases hf:fb=true
   ·exact bY hf ⟨by rw[if_pos hf],rfl⟩
   ·exact bu hf ⟨by rw[if_neg hf],rfl⟩
  rintro v G5 ⟨rfl,rfl⟩;refine⟨_,rfl,D,d,rfl,hD,hg,fun q G6 s6 hq=>?_⟩;obtain⟨n,hn,hgr⟩:=hg.2;exact⟨_,rfl,q,d,n,rfl,hq,hgr,hn,fun G7 s7=>⟨_,rfl,bY rfl ⟨_,rfl,k q G7 (s1.trans (s2.trans (s3.trans (s4.trans (s6.trans s7))))) (hq.same s7)⟩⟩⟩
def Im:Sp:=fun vs H Q _=>∃ds:List FR,vs=[.str (rT ds)]/\ds≠ []/\(∀d∈ds,gD d)/\ds.length<=1000/\∀l H',Same H H'->H l=none->dz H' l ds->Q (.ref l) H'
theorem zA:aE ["text","rows","at","line","row"] ["text"] (ak je):=by walk_at "sc1"
theorem tW{f fR:Addr}{fd vC:ed}(F:cr K "read_rows" "read_rows" je f fd)(T:Txt K w.params mg)(GR:aD P w K mg base cm 7 fR vC ["line"] Il)(kR:KI K fR)(bR:Binds K vC ["line"] [])(mR:mg "read_row"=some (.ref fR)):aD P w K mg base cm 8 f fd ["text"] Im:=by
 refine F.ok zA (by walk_at "ln") (fun cdv A outer s H vs Q E hr h=>?_)
 ·obtain⟨ds,rfl,hne,hg,hn,k⟩:=h
  refine cU (au (ay (cN (dD (bQ (aN dm (by rfl) T.Hs jh (ae (pv 0) (ae (gQ (v:=.ty "str") (by rfl) T.str wV rfl) af))))) lN aO))
   (au (ay (aI (i:=1) zA.nd rfl (Or.inl rfl) (cD af)))
   (au (ay (eE PassesOwn.never rfl (fX rfl T.enum (ae (dg gr PySem.F.slot_str_split PySem.F.type_str_split vm (pv 0) (ae aW af)) af)) (gA (K:=K) (i:=2) (j:=3) rfl rfl zA.nd rfl (Or.inl rfl) rfl (Or.inl rfl)) (aq (aI (i:=4) zA.nd rfl (Or.inl rfl) (ao GR hr (by rfl) mR kR bR .nil aS (ae (pv 3) af)))
   (aq (cN (aJ Jh (pv 4) iG (aQ _)) lN aO)
   (az (cC (dg fv fw gf bV (pv 1) (ae (pv 4) af))))))))
   (aw (ay (aC (pv 1))))))) ?_
  have X2:∀x∈ds.map iA,vI x:=fun x hx=>by obtain⟨d,hd,rfl⟩:=mem_map.mp hx;exact j9 (hg d hd)
  have hsz:=A2 X2;rw[length_map]at hsz;refine⟨_,rfl,_,_,_,_,rfl,.str _,pF (by decide),_,rfl,bu (by decide) ⟨zle,fun lr nr=>dO nr fun G1 s1 g1=>?_⟩⟩;refine⟨_,rfl,rfl,rT ds,"\n",rfl,rfl,by decide,aT (show(rT ds).cps.size<=1000000 by show(Txt.join "\n" (ds.map iA)).cps.size<=_;omega),fun lw nw=>?_⟩;rw[show Txt.split (rT ds) "\n"=ds.map iA from xu (by simpa using hne) X2];refine dO nw fun G2 s2 g2=>?_;have nrw:lr≠lw:=fun z=>by rw[z,nw]at g1;cases g1
  have FJ:=s2 _ _ g1;refine⟨lw,rfl,⟨_,aV.of g2⟩,eZ (K:=K) (xs:=(ds.map iA).map V.str) (fun i σ G=>∃(v1 v2 v3:Option V) (qs:List Addr),σ=[some (.str (rT ds)),some (.ref lr),v1,v2,v3]/\Same H G/\G lw=some (.lst ((ds.map iA).map V.str))/\G lr=some (.lst (qs.map V.ref))/\qs.length=i/\∀(j:Nat) q d,qs[j]? =some q->ds[j]? =some d->bZ G q d) ?_ ?_ ?_ ?_⟩
  ·exact⟨none,none,none,[],rfl,s1.trans s2,g2,FJ,rfl,fun j q d e=>by simp at e⟩
  ·rintro i σ G _ ⟨v1,v2,v3,qs,rfl,_,hw,_⟩;exact aV.of hw
  ·rintro i y σ G tt hy og ⟨v1,v2,v3,qs,rfl,s3,hw,hl,hql,hq⟩;rw[ac]at hy;obtain⟨x,hx,rfl⟩:=map_eq_some_iff.mp hy;rw[ac]at hx;obtain⟨d,hd,rfl⟩:=map_eq_some_iff.mp hx;have hil:=(ad.mp hd).1;refine dO og fun G4 s4 g4=>⟨tt,_,rfl,bz.of g4,rfl,_,_,rfl,_,_,rfl,rfl,?_⟩;refine⟨_,rfl,d,rfl,hg d (ag hd),fun q G5 s5 hF=>⟨_,rfl,rfl,_,rfl,bu (fun z=>by cases of_decide_eq_true z) ?_⟩⟩;have Bi:=s4.trans s5;have FK:=Bi _ _ hl;refine⟨_,rfl,.inl ⟨rfl,_,aV.of FK⟩,_,rfl,lr,_,_,rfl,rfl,FK,aT (by rw[length_map];omega),?_⟩;refine⟨_,_,_,qs++ [q],rfl,aL (s3.trans Bi) nr,(aG (fun z=>nrw z.symm)).trans (Bi _ _ hw),by rw[ai,map_append];rfl,by rw[length_append,hql];rfl,fun j q' d' a b=>?_⟩;by_cases c:j<qs.length
   ·rw[ap c]at a;exact((hq j q' d' a b).same Bi).put FK
   ·have hj:=(ad.mp a).1;rw[length_append,length_singleton]at hj;have ej:j=qs.length:=by omega
    subst ej;rw[ar (le_refl _),sub_self]at a;cases a;rw[hql,hd]at b;cases b;exact hF.put FK
  rintro σ G ⟨v1,v2,v3,qs,rfl,s3,hw,hl,hql,hq⟩;rw[length_map,length_map]at hql;exact⟨_,rfl,k lr G s3 nr ⟨qs,hl,hql,hq⟩⟩
def i5(ds:List FR):Prop:=∀d∈ds,GoodR d ds.length
theorem i5.tg{ds:List FR}(h:i5 ds):LK ds:=fun d hd=>⟨(h d hd).1,(h d hd).2.1⟩
def gE(d:FR):FR:=if d.u∈five then ⟨d.u,d.is.dropLast++ [1],d.ts⟩else d
def df(ds:List FR)(L:List Nat):List FR:=ds.mapIdx fun r d=>if r∈L then gE d else d
def cH(ds:List FR)(r:Nat):Prop:=∃d,ds[r]? =some d/\aX d=true
def cnt(L:List Nat)(j:Nat):Nat:=((List.range j).filter (· ∈L)).length
theorem tX(d:FR):(gE d).ts=d.ts:=by unfold gE;split<;>rfl
theorem mq(d:FR):(gE d).u=d.u:=by unfold gE;split<;>rfl
theorem fq(ds:List FR)(L:List Nat):(df ds L).length=ds.length:=by unfold df;rw[List.length_mapIdx]
theorem jF{ds:List FR}{L:List Nat}{r:Nat}{d:FR}(h:ds[r]? =some d):(df ds L)[r]? =some (if r∈L then gE d else d):=by unfold df;rw[List.getElem?_mapIdx,h];rfl
theorem ka{d:FR}(h:aX d=true):d.u∈five/\dh d=0:=by unfold aX at h;rw[Bool.and_eq_true]at h;exact⟨of_decide_eq_true h.1,of_decide_eq_true h.2⟩
theorem vL{d:FR}(h:d.u∈five):¬d.u ="table":=fun z=>absurd h (by rw[z];decide)
theorem p7{d:FR}(h:d.u∈five):dh (gE d)=1:=by unfold gE dh;rw[if_pos h];simp
theorem FL{d:FR}(h:aX d=true):jB (gE d)=jB d+1:=by obtain⟨h1,h2⟩:=ka h;unfold jB;rw[mq,if_neg (vL h1),if_neg (vL h1),if_pos h1,if_pos h1,p7 h1,h2];omega
theorem KA{d:FR}(h:gY d):1<=jB d:=by
 unfold jB;split
 ·omega
 ·split
  ·rename_i h1 h2;rcases h h2 with z | z<;>omega
  ·split<;>omega
theorem iB(L:List Nat)(j:Nat):cnt L (j+1)=cnt L j+if j∈L then 1 else 0:=by
 unfold cnt;rw[range_succ,filter_append,length_append];by_cases h:j∈L
 ·rw[if_pos h,List.filter_cons_of_pos (by simpa using h)];rfl
 ·rw[if_neg h,List.filter_cons_of_neg (by simpa using h)];rfl
theorem jn{ds:List FR}{L:List Nat}(hL:∀x∈L,cH ds x):∀j,j<=ds.length->beg (df ds L) j=beg ds j+cnt L j
 | 0,_=>by simp[beg,cnt]
 | j+1,h=>by
  have ih:=jn hL j (by omega);have hd:ds[j]? =some ds[j]:=aa (by omega);rw[dB hd,dB (jF hd),ih,iB];by_cases hj:j∈L
  ·rw[if_pos hj,if_pos hj];obtain⟨d,e1,e2⟩:=hL j hj;rw[hd]at e1;cases e1;rw[FL e2];omega
  ·rw[if_neg hj,if_neg hj];omega
theorem jo{L:List Nat}{a b:Nat}(h:a<=b):cnt L a<=cnt L b:=by
 induction b with
 | zero=>rw[Nat.le_zero.mp h];exact le_refl _
 | succ b ih=>
  rcases Nat.lt_or_eq_of_le h with z | z
  ·rw[iB];have:=ih (by omega);omega
  ·rw[z];exact le_refl _
theorem ly{L L':List Nat}(h:∀x∈L',x∈L){a:Nat}:∀k,cnt L' (a+k)-cnt L' a<=cnt L (a+k)-cnt L a
 | 0=>by simp
 | k+1=>by
  have ih:=ly h (a:=a) k;have h1:=jo (L:=L') (show a<=a+k by omega);have h2:=jo (L:=L) (show a<=a+k by omega);rw[show a+(k+1)=(a+k)+1 by omega,iB,iB];by_cases h3:a+k∈L'
  ·rw[if_pos h3,if_pos (h _ h3)];omega
  ·rw[if_neg h3];split<;>omega
theorem p8{ds:List FR}(hG:i5 ds){a:Nat}:∀k,a+k<=ds.length->beg ds a+k<=beg ds (a+k)
 | 0,_=>by simp
 | k+1,h=>by have ih:=p8 hG (a:=a) k (by omega);have hd:ds[a+k]? =some ds[a+k]:=aa (by omega);have:=KA (hG ds[a+k] (ba _)).2.2.1;rw[show a+(k+1)=(a+k)+1 by omega,dB hd];omega
theorem gF{ds:List FR}{L:List Nat}(hL:∀x∈L,cH ds x){r t:Nat}(hr:r<ds.length)(ht:t<ds.length):bE (df ds L) r (t:Int)=bE ds r (t:Int)+cnt L t-cnt L (r+1):=by unfold bE;rw[le,jn hL t (by omega),jn hL (r+1) (by omega)];omega
theorem A4{x:Int}:bf x=false↔x< -64\/63<x:=by unfold bf;rw[decide_eq_false_iff_not];omega
theorem vM{ds:List FR}(hG:i5 ds){L L':List Nat}(hL:∀x∈L,cH ds x)(hsub:∀x∈L',x∈L){r t:Nat}(hr:r<ds.length)(ht:t<ds.length)(h:bf (bE (df ds L') r (t:Int))=false):bf (bE (df ds L) r (t:Int))=false:=by
 have hL':∀x∈L',cH ds x:=fun x hx=>hL x (hsub x hx);rw[A4]at h ⊢;rw[gF hL' hr ht]at h;rw[gF hL hr ht];unfold bE at h ⊢;rw[le]at h ⊢;by_cases hrt:r+1<=t
 ·obtain⟨k,rfl⟩:∃k,t=r+1+k:=⟨t- (r+1),by omega⟩;have h1:=ly hsub (a:=r+1) k;have h2:=p8 hG (a:=r+1) k (by omega);have h3:=jo (L:=L') (show r+1<=r+1+k by omega);have h4:=jo (L:=L) (show r+1<=r+1+k by omega);omega
 ·obtain⟨k,hk⟩:∃k,r+1=t+k:=⟨r+1-t,by omega⟩;rw[hk]at h ⊢;have h1:=ly hsub (a:=t) k;have h2:=p8 hG (a:=t) k (by omega);have h3:=jo (L:=L') (show t<=t+k by omega);have h4:=jo (L:=L) (show t<=t+k by omega);omega
inductive zB(ds:List FR):Nat->Prop
 | mk {r:Nat} {d:FR} (L:List Nat) (hL:∀x∈L,zB ds x) (hd:ds[r]? =some d) (hs:aX d=true) (hb:bf (dst (df ds L) r d)=false):zB ds r
theorem zB.short{ds:List FR}{r:Nat}(h:zB ds r):cH ds r:=by
 cases h with
 | mk L hL hd hs hb=>exact⟨_,hd,hs⟩
theorem KC{ds:List FR}(hG:i5 ds){L:List Nat}(hL:∀x∈L,zB ds x)(hgood:∀(r:Nat) d,ds[r]? =some d->aX d=true->¬r∈L->bf (dst (df ds L) r d)=true):∀x,zB ds x->x∈L:=by
 intro x hx
 induction hx with
 | @mk r d L' hL' hd hs hb ih=>
  refine Decidable.byContradiction fun hn=>?_;have h1:=hgood r d hd hs hn;have hr:=(ad.mp hd).1;have hg:=hG d (ag hd);have hu:=(ka hs).1;have ht:∃t:Nat,d.ts.headD 0=(t:Int)/\t<ds.length:=by
   cases hts:d.ts with
   | nil=>exact⟨0,rfl,by omega⟩
   | cons t0 tl=>
    obtain⟨a,b⟩:=hg.2.1 t0 (by rw[hts];simp);obtain⟨tn,rfl⟩:=Int.eq_ofNat_of_zero_le a;exact⟨tn,rfl,by omega⟩
  obtain⟨t,et,htl⟩:=ht;unfold dst at hb h1;rw[et]at hb h1;have:=vM hG (fun x hx=>(hL x hx).short) ih hr htl hb;rw[this]at h1;cases h1
theorem xB{ds:List FR}{L L':List Nat}(h:∀x,x∈L↔x∈L'):df ds L=df ds L':=by
 unfold df;congr 1;funext r d;by_cases hr:r∈L
 ·rw[if_pos hr,if_pos ((h r).mp hr)]
 ·rw[if_neg hr,if_neg (fun z=>hr ((h r).mpr z))]
def iU(r t g:Nat):Bool:=decide (min t (r+1)<=g/\g<max t (r+1))
def cY(x:Int):Int:=if 0<x then x+1 else x-1
def Og:Sp:=fun vs H Q _=>∃(lr:Addr) (ds:List FR) (r g t:Nat) (d:FR),vs=[.ref lr,.int (r:Int),.int (g:Int)]/\dz H lr ds/\ds[r]? =some d/\d.ts=[(t:Int)]/\∀H',Same H H'->Q (.bl (iU r t g)) H'
theorem Oh:aE ["rows","r","other","target"] ["rows","r","other"] (ak wQ):=by walk_at "sc1"
theorem Oi{f fT:Addr}{fd vo:ed}(F:cr K "jumps_over" "jumps_over" wQ f fd)(T:Txt K w.params mg)(GT:aD P w K mg base cm 1 fT vo ["row"] iw)(kT:KI K fT)(bT:Binds K vo ["row"] [])(mT:mg "targets_of"=some (.ref fT)):aD P w K mg base cm 2 f fd ["rows","r","other"] Og:=by
 refine F.ok Oh (by walk_at "ln") (fun cdv A outer s H vs Q E hr h=>?_)
 ·obtain⟨lr,ds,r,g,t,d,rfl,hR,hd,hts,k⟩:=h;obtain⟨qs,q,g1,g2,g2',g3⟩:=hR.get hd;obtain⟨Jz,i1,_,i3,_⟩:=g3.parts
  refine⟨_,(aq (aI (i:=3) Oh.nd rfl (Or.inl rfl) (aF aK (ao GT hr (by rfl) mT kT bT .nil aS (ae (aF aK (pv 0) (pv 1) (fun _ _=>rfl)) af)) ah (fun _ _=>rfl)))
   (az (aC (oE ja mV (aN (qS rfl) (by rfl) T.min Cd (ae (pv 3) (ae (aA bg (pv 1) ah) af))) (pv 2) (aN (qR rfl) (by rfl) T.max Ca (ae (pv 3) (ae (aA bg (pv 1) ah) af))))))),?_⟩
  refine⟨_,rfl,_,rfl,lr,_,_,_,rfl,rfl,aV.of g1,g2,q,d.u,d.ts,rfl,⟨Jz,i1,i3⟩,fun l H1 s1 nl hl=>?_⟩;rw[hts]at hl;refine⟨l,_,0,.int (t:Int),rfl,rfl,aV.of hl,rfl,?_⟩;have kk:=k H1 s1;unfold iU at kk;have emin:(if (r:Int)+1< (t:Int)then (r:Int)+1 else (t:Int))=((min t (r+1):Nat):Int):=by split<;>omega
  have emax:(if (r:Int)+1> (t:Int)then (r:Int)+1 else (t:Int))=((max t (r+1):Nat):Int):=by split<;>omega
  refine⟨_,rfl,_,rfl,_,_,rfl,rfl,_,_,rfl,?_⟩;refine⟨_,rfl,_,_,rfl,rfl,_,rfl,?_⟩;refine dk (fun e=>?_) (fun e=>?_)
  ·have e:=of_decide_eq_true e;rw[emin]at e;refine⟨_,rfl,_,rfl,_,_,rfl,rfl,_,_,rfl,_,_,rfl,rfl,?_⟩;rw[emax];have:decide (min t (r+1)<=g/\g<max t (r+1))=decide ((g:Int)< ((max t (r+1):Nat):Int)):=decide_eq_decide.mpr ⟨fun z=>by omega,fun z=>⟨by omega,by omega⟩⟩;rw[this]at kk;exact kk
  ·have e:¬(((min t (r+1):Nat):Int)<=(g:Int)):=fun z=>e (decide_eq_true (by rw[emin];exact z));rw[decide_eq_false (fun z=>e (by omega))]at kk;exact kk
def Oj:Sp:=fun vs H Q _=>∃x:Int,vs=[.int x]/\Q (.int (cY x)) H
theorem S6:aE ["distance"] ["distance"] (ak pw):=by walk_at "sc1"
theorem Ol{f:Addr}{fd:ed}(F:cr K "one_further" "one_further" pw f fd)(T:Txt K w.params mg):aD P w K mg base cm 1 f fd ["distance"] Oj:=by
 refine F.ok S6 (by walk_at "ln") (fun cdv A outer s H vs Q E hr h=>?_)
 ·obtain⟨x,rfl,k⟩:=h;refine⟨_,(az (aC (cQ (aJ jQ (pv 0) ah (aQ _)) (aA bg (pv 0) ah) (aA dY (pv 0) ah)))),?_⟩;unfold cY at k;refine⟨_,rfl,_,_,rfl,rfl,_,rfl,?_⟩;refine dk (fun e=>?_) (fun e=>?_)
  ·rw[if_pos (of_decide_eq_true e)]at k;exact⟨_,rfl,_,_,rfl,rfl,k⟩
  ·rw[if_neg (fun z=>e (decide_eq_true z))]at k;exact⟨_,rfl,_,_,rfl,rfl,k⟩
def Om:Sp:=fun vs H Q _=>∃(p:Addr) (d:FR),vs=[.ref p,.int 1]/\bZ H p d/\∀(p':Addr) (H':Hp),Same H H'->bZ H' p' (gE d)->Q (.ref p') H'
theorem S7:aE ["row","far"] ["row","far"] (ak pq):=by walk_at "sc1"
theorem Oo{f fH:Addr}{fd jj:ed}(F:cr K "with_far" "with_far" pq f fd)(T:Txt K w.params mg)(GH:aD P w K mg base cm 1 fH jj ["word"] ji)(kH:KI K fH)(bH:Binds K jj ["word"] [])(mH:mg "has_far"=some (.ref fH)):aD P w K mg base cm 2 f fd ["row","far"] Om:=by
 refine F.ok S7 (by walk_at "ln") (fun cdv A outer s H vs Q E hr h=>?_)
 ·obtain⟨p,d,rfl,hR,k⟩:=h;obtain⟨Jz,i1,_,i3,_⟩:=hR.parts;have hok:=hR.1;refine⟨_,(az (aC (cQ (bQ (ao GH hr (by rfl) mH kH bH .nil aS (ae (aF aY (pv 0) ah (fun _ _=>rfl)) af))) (aA jx (cL lS (pv 0) dI (cK (eY dG ah))) (cG (ae (pv 1) af))) (pv 0)))),?_⟩;refine⟨_,rfl,p,_,0,.str d.u,rfl,rfl,bz.of i1,at0 _ _,d.u,rfl,hR.1.1,_,rfl,?_⟩;refine dk (fun e=>?_) (fun e=>?_)
  ·have e:=of_decide_eq_true e;obtain⟨nt,y1,_⟩:=d8 hR e;have eS:gE d=⟨d.u,d.is.dropLast++ [1],d.ts⟩:=by unfold gE;rw[if_pos e]
   rw[eS]at k;rcases(by decide+kernel:∀u∈five,u∈gk\/u∈zb) _ e with z | z
   ·obtain⟨tt,ff,e1,e2⟩:=hok.2.2.1 z;have ep:H p=some (.tup [V.str d.u,V.int tt,V.int ff]):=by rw[y1,e1];rfl
    rw[e1,e2]at k;refine⟨_,rfl,1,rfl,-1,rfl,p,_,rfl,bz.of ep,(fun z=>absurd z.2 (by show ¬(2:Nat)=3;decide)),fun ta KD=>?_⟩;refine⟨_,rfl,i0,fun tb Dz=>?_⟩;refine⟨ta,tb,[V.str d.u,V.int tt],_,rfl,rfl,bz.of (aj Dz _ _ ai),bz.of ai,cons_ne_nil _ _,kX,fun z=>absurd z (cons_ne_nil _ _),fun _ tc KG=>?_⟩;exact k tc _ (((aj KD).trans (aj Dz)).trans (aj KG)) (jD z ai)
   ·obtain⟨bb,tt,ff,e1,e2⟩:=hok.2.2.2.1 z;have ep:H p=some (.tup [V.str d.u,V.int bb,V.int tt,V.int ff]):=by rw[y1,e1];rfl
    rw[e1,e2]at k;refine⟨_,rfl,1,rfl,-1,rfl,p,_,rfl,bz.of ep,(fun z=>absurd z.2 (by show ¬(3:Nat)=4;decide)),fun ta KD=>?_⟩;refine⟨_,rfl,i0,fun tb Dz=>?_⟩;refine⟨ta,tb,[V.str d.u,V.int bb,V.int tt],_,rfl,rfl,bz.of (aj Dz _ _ ai),bz.of ai,cons_ne_nil _ _,B5,fun z=>absurd z (cons_ne_nil _ _),fun _ tc KG=>?_⟩;exact k tc _ (((aj KD).trans (aj Dz)).trans (aj KG)) (lZ z ai)
  ·have e:¬d.u∈five:=fun z=>e (decide_eq_true z);refine⟨_,rfl,k p _ (.refl _) ?_⟩;unfold gE;rw[if_neg e];exact hR
end
theorem cnt_cons{g:Nat}{P:List Nat}(h:¬g∈P):∀j,cnt (g::P) j=cnt P j+if g<j then 1 else 0
 | 0=>by simp[cnt]
 | j+1=>by
  rw[iB,iB,cnt_cons h j];have q1:(if j∈g::P then 1 else 0:Nat)=(if j=g then 1 else 0)+(if j∈P then 1 else 0):=by
   by_cases e:j=g
   ·rw[if_pos (show j∈g::P by rw[e];exact mem_cons_self),if_pos e,if_neg (by rw[e];exact h)]
   ·rw[if_neg e,Nat.zero_add];by_cases h1:j∈P
    ·rw[if_pos (mem_cons_of_mem _ h1),if_pos h1]
    ·rw[if_neg (fun z=>(mem_cons.mp z).elim e h1),if_neg h1]
  have q2:(if g<j+1 then 1 else 0:Nat)=(if g<j then 1 else 0)+(if j=g then 1 else 0):=by
   by_cases e:j=g
   ·rw[if_pos (by omega),if_neg (by omega),if_pos e]
   ·by_cases h2:g<j
    ·rw[if_pos (by omega),if_pos h2,if_neg e]
    ·rw[if_neg (by omega),if_neg h2,if_neg e]
  rw[q1,q2];omega
section
variable {ds:List FR}{P:List Nat}{g r t:Nat}
theorem between(hG:i5 ds)(hP:∀x∈P,cH ds x)(hr:r<ds.length)(ht:t<ds.length):
  (r+1<=t->(t:Int)- ((r:Int)+1)<=bE (df ds P) r (t:Int))/\(t<=r->bE (df ds P) r (t:Int)<=(t:Int)- ((r:Int)+1)):=by
 rw[gF hP hr ht];unfold bE;rw[le];refine⟨fun h=>?_,fun h=>?_⟩
 ·obtain⟨k,rfl⟩:∃k,t=r+1+k:=⟨t- (r+1),by omega⟩;have h2:=p8 hG (a:=r+1) k (by omega);have h4:=jo (L:=P) (show r+1<=r+1+k by omega);omega
 ·obtain⟨k,hk⟩:∃k,r+1=t+k:=⟨r+1-t,by omega⟩;rw[hk];have h2:=p8 hG (a:=t) k (by omega);have h4:=jo (L:=P) (show t<=t+k by omega);omega
theorem p9:iU r t g=true↔(r+1<=g/\g<t)\/(t<=g/\g<=r):=by unfold iU;rw[decide_eq_true_iff];omega
theorem A5(hG:i5 ds)(hP:∀x∈P,cH ds x)(hg:cH ds g)(hn:¬g∈P)(hr:r<ds.length)(ht:t<ds.length)(h:iU r t g=true):bE (df ds (g::P)) r (t:Int)=cY (bE (df ds P) r (t:Int)):=by
 have hP':∀x∈g::P,cH ds x:=fun x hx=>(mem_cons.mp hx).elim (fun z=>by rw[z];exact hg) (hP x);obtain⟨b1,b2⟩:=between hG hP hr ht;have e1:=gF hP hr ht;rw[gF hP' hr ht,cnt_cons hn,cnt_cons hn];unfold cY;rcases p9.mp h with ⟨h1,h2⟩ | ⟨h1,h2⟩
 ·rw[if_pos h2,if_neg (by omega),if_pos (by have:=b1 (by omega);omega)];omega
 ·rw[if_neg (by omega),if_pos (by omega),if_neg (by have:=b2 (by omega);omega)];omega
theorem vN(hP:∀x∈P,cH ds x)(hg:cH ds g)(hn:¬g∈P)(hr:r<ds.length)(ht:t<ds.length)(h:iU r t g=false):bE (df ds (g::P)) r (t:Int)=bE (df ds P) r (t:Int):=by
 have hP':∀x∈g::P,cH ds x:=fun x hx=>(mem_cons.mp hx).elim (fun z=>by rw[z];exact hg) (hP x);rw[gF hP' hr ht,gF hP hr ht,cnt_cons hn,cnt_cons hn];have h:¬((r+1<=g/\g<t)\/(t<=g/\g<=r)):=fun z=>by rw[p9.mpr z]at h;cases h
 by_cases h1:g<t
 ·rw[if_pos h1,if_pos (by omega)];omega
 ·rw[if_neg h1,if_neg (by omega)];omega
theorem near(hG:i5 ds)(hP:∀x∈P,cH ds x)(hr:r<ds.length)(ht:t<ds.length)(hb:bf (bE (df ds P) r (t:Int))=true)(h:iU r t g=true):g<=r+64/\r<=g+64:=by
 obtain⟨b1,b2⟩:=between hG hP hr ht;unfold bf at hb;have hb:=of_decide_eq_true hb;rcases p9.mp h with ⟨h1,h2⟩ | ⟨h1,h2⟩
 ·have:=b1 (by omega);omega
 ·have:=b2 (by omega);omega
def cz(ds:List FR):List Nat:=(lY ds ds.length).map (·.1)
def jW(ks:List Nat)(D:Nat->Int):List (Key×V):=gm (ks.map fun r=>(r,D r))
theorem iC{ds:List FR}{r:Nat}:r∈cz ds↔cH ds r:=by
 unfold cz lY cH;constructor
 ·intro h;obtain⟨x,hx,rfl⟩:=mem_map.mp h;obtain⟨r,h1,h2⟩:=mem_filterMap.mp hx;unfold pI at h2;cases hd:ds[r]? with
  | none=>rw[hd]at h2;cases h2
  | some d=>
   rw[hd]at h2;have h2:(if aX d=true then some (r,dst ds r d)else none)=some x:=h2;by_cases hs:aX d=true
   ·rw[if_pos hs]at h2;cases h2;exact⟨d,hd,hs⟩
   ·rw[if_neg hs]at h2;cases h2
 ·rintro⟨d,hd,hs⟩;refine mem_map.mpr ⟨(r,dst ds r d),mem_filterMap.mpr ⟨r,mem_range.mpr (ad.mp hd).1,?_⟩,rfl⟩;unfold pI;rw[hd];exact if_pos hs
theorem ou{ks:List Nat}(hn:ks.Nodup)(D:Nat->Int)(r:Nat):eA (jW ks D) (Sum.inl (r:Int))=if r∈ks then some (.int (D r))else none:=by
 by_cases h:r∈ks
 ·rw[if_pos h];exact vp (by rw[map_map];show(ks.map fun r=>r).Nodup;rw[List.map_id'];exact hn) (mem_map.mpr ⟨r,h,rfl⟩)
 ·rw[if_neg h];unfold eA jW gm;rw[map_eq_none_iff,find?_eq_none];intro x hx z;obtain⟨y,hy,rfl⟩:=mem_map.mp hx;obtain⟨r',hr',rfl⟩:=mem_map.mp hy;have:=Sum.inl.inj (of_decide_eq_true z);exact h (by rw[show r=r' by omega];exact hr')
theorem FN{ks:List Nat}(D:Nat->Int){r:Nat}(h:r∈ks)(x:Int):putK (jW ks D) (Sum.inl (r:Int)) (.int x)=jW ks (fun j=>if j=r then x else D j):=by
 unfold putK;rw[if_pos (List.any_eq_true.mpr ⟨((Sum.inl (r:Int):Key),V.int (D r)),by unfold jW gm;rw[map_map];exact mem_map.mpr ⟨r,h,rfl⟩,decide_eq_true rfl⟩)];unfold jW gm;rw[map_map,map_map,map_map];refine map_congr_left fun j _=>?_;show(if ((Sum.inl (j:Int):Key))=Sum.inl (r:Int)then ((Sum.inl (j:Int):Key),V.int x)else (Sum.inl (j:Int),V.int (D j)))=(Sum.inl (j:Int),V.int (if j=r then x else D j));by_cases e:j=r
 ·rw[if_pos (by rw[e]),if_pos e]
 ·rw[if_neg (fun z=>e (by have:=Sum.inl.inj z;omega)),if_neg e]
theorem KH:∀u∈five,∀k∈aZ u,gP k 1=true:=by decide+kernel
theorem A6{d:FR}{n:Int}(h:GoodR d n):GoodR (gE d) n:=by
 refine⟨by rw[tX];exact h.1,by rw[tX];exact h.2.1,fun z=>?_,fun i k m hk hm=>?_,fun z=>?_⟩
 ·rw[mq]at z;exact .inr (p7 z)
 ·rw[mq]at hk;unfold gE at hm;by_cases h5:d.u∈five
  ·rw[if_pos h5]at hm;have hm:(d.is.dropLast++ [1])[i]? =some m:=hm;by_cases c:i<d.is.dropLast.length
   ·rw[ap c,List.getElem?_dropLast]at hm;split at hm
    ·exact h.2.2.2.1 i k m hk hm
    ·cases hm
   ·rw[ar (by omega)]at hm;rw[mem_singleton.mp (ag hm)];exact KH _ h5 k (ag hk)
  ·rw[if_neg h5]at hm;exact h.2.2.2.1 i k m hk hm
 ·rw[tX];rw[mq]at z;exact h.2.2.2.2 z
theorem A7{ds:List FR}(h:i5 ds)(L:List Nat):i5 (df ds L):=fun d hd=>by
 rw[fq];obtain⟨r,hr⟩:=List.getElem?_of_mem hd;have hl:=(ad.mp hr).1;rw[fq]at hl;have h0:ds[r]? =some ds[r]:=aa hl;rw[jF h0]at hr;have hg:=h ds[r] (ba hl);split at hr
 ·cases hr;exact A6 hg
 ·cases hr;exact hg
theorem xC(d:FR):aX (gE d)=false:=by
 unfold aX;rw[mq];by_cases h:d.u∈five
 ·rw[p7 h];simp
 ·rw[decide_eq_false h];rfl
theorem lz:∀{L:List Nat} {n:Nat},L.Nodup->(∀x∈L,x<n)->L.length<=n:=fun {L n} h1 h2=>by exact le_trans (h1.length_le_of_subset (l₂:=List.range n) fun x hx=>mem_range.mpr (h2 x hx)) (by rw[length_range];exact le_refl _)
def nD(ks:List Nat):List (Key×V):=ks.map (fun r:Nat=>((Sum.inl (r:Int):Key),V.bl true))
theorem xD(ks:List Nat)(r:Nat):eA (nD ks) (Sum.inl (r:Int))=if r∈ks then some (.bl true)else none:=by
 induction ks with
 | nil=>rfl
 | cons x t ih=>
  show eA ((Sum.inl (x:Int),V.bl true)::nD t) _=_;by_cases e:x=r
  ·subst e;rw[dv rfl,if_pos (by simp)]
  ·have ne:¬((Sum.inl (x:Int):Key)=Sum.inl (r:Int)):=fun z=>e (by have:=Sum.inl.inj z;omega);rw[dw ne,ih];by_cases h:r∈t
   ·rw[if_pos h,if_pos (by simp[h])]
   ·rw[if_neg h,if_neg (by simp[h];omega)]
theorem DA{ks:List Nat}{r:Nat}(h:¬r∈ks):putK (nD ks) (Sum.inl (r:Int)) (.bl true)=nD (ks++ [r]):=by rw[Bz _ (by rw[xD,if_neg h])];unfold nD;rw[map_append];rfl
theorem DB(ks:List Nat):(nD ks).length=ks.length:=by unfold nD;rw[length_map]
def D0(ds:List FR)(r:Nat):Int:=match ds[r]? with
 | some d=>dst ds r d
 | none=>0
theorem DC(ds:List FR):lY ds ds.length=(cz ds).map fun r=>(r,D0 ds r):=by
 unfold cz;rw[map_map];have:∀x∈lY ds ds.length,((fun r=>(r,D0 ds r))∘fun x:Nat×Int=>x.1) x=x:=fun x hx=>by
  unfold lY at hx;obtain⟨r,_,h2⟩:=mem_filterMap.mp hx;unfold pI at h2;cases hd:ds[r]? with
  | none=>rw[hd]at h2;cases h2
  | some d=>
   rw[hd]at h2;have h2:(if aX d=true then some (r,dst ds r d)else none)=some x:=h2;by_cases hs:aX d=true
   ·rw[if_pos hs]at h2;cases h2;show(r,D0 ds r)=(r,dst ds r d);unfold D0;rw[hd]
   ·rw[if_neg hs]at h2;cases h2
 rw[map_congr_left this,List.map_id''];intro x;rfl
theorem tgt{ds:List FR}(hG:i5 ds){r:Nat}{d:FR}{H:Hp}{q:Addr}(hd:ds[r]? =some d)(hs:aX d=true)(hrow:bZ H q d):∃t:Nat,d.ts=[(t:Int)]/\t<ds.length/\∀es,dst es r d=bE es r (t:Int):=by obtain⟨_,_,_,t,i6,_⟩:=d8 hrow (ka hs).1;obtain⟨t0,t1⟩:=(hG d (ag hd)).2.1 t (by rw[i6];simp);obtain⟨tn,rfl⟩:=Int.eq_ofNat_of_zero_le t0;exact⟨tn,i6,by omega,fun es=>by unfold dst;rw[i6];rfl⟩
structure Gw(ds:List FR)(D:Nat->Int)(L W P:List Nat):Prop where
 far:∀x∈L,zB ds x
 lw:∀x,x∈L↔x∈P\/x∈W
 nd:(W++P).Nodup
 D6:L.Nodup
 ok:∀(r:Nat) d,ds[r]? =some d->aX d=true->¬r∈L->D r=dst (df ds P) r d/\bf (D r)=true
structure Gi(ds:List FR)(D:Nat->Int)(L W P:List Nat)(g hi i:Nat):Prop where
 far:∀x∈L,zB ds x
 lw:∀x,x∈L↔x∈g::P\/x∈W
 nd:(W++g::P).Nodup
 D6:L.Nodup
 ok1:∀(r:Nat) d,ds[r]? =some d->aX d=true->¬r∈L->i<=r/\r<hi->D r=dst (df ds P) r d/\bf (D r)=true
 ok2:∀(r:Nat) d,ds[r]? =some d->aX d=true->¬r∈L->¬(i<=r/\r<hi)->D r=dst (df ds (g::P)) r d/\bf (D r)=true
theorem Gw.done{ds:List FR}{D:Nat->Int}{L P:List Nat}(hG:i5 ds)(h:Gw ds D L [] P):∀x,x∈L↔zB ds x:=by have e:∀x,x∈L↔x∈P:=fun x=>(h.lw x).trans (by simp);refine fun x=>⟨h.far x,KC hG h.far (fun r d hd hs hn=>?_) x⟩;obtain⟨h1,h2⟩:=h.ok r d hd hs hn;rw[xB e,<-h1];exact h2
theorem Gi.out{ds:List FR}{D:Nat->Int}{L W P:List Nat}{g hi i:Nat}(h:Gi ds D L W P g hi i)(hi':hi<=i):Gw ds D L W (g::P):=
 ⟨h.far,h.lw,h.nd,h.D6,fun r d hd hs hn=>h.ok2 r d hd hs hn (by omega)⟩
variable {D:Nat->Int}{L W:List Nat}{hi i:Nat}
theorem Gi.DE(h:Gi ds D L W P g hi i):¬g∈P:=fun z=>by have:=(nodup_append.mp h.nd).2.1;exact(nodup_cons.mp this).1 z
theorem Gi.tY(h:Gi ds D L W P g hi i):(∀x∈P,cH ds x)/\cH ds g :=
 ⟨fun x hx=>(h.far x ((h.lw x).mpr (.inl (mem_cons_of_mem _ hx)))).short,(h.far g ((h.lw g).mpr (.inl mem_cons_self))).short⟩
theorem Gi.skip(h:Gi ds D L W P g hi i)(hs:∀d,ds[i]? =some d->aX d=true->¬i∈L->D i=dst (df ds (g::P)) i d/\bf (D i)=true):Gi ds D L W P g hi (i+1):=
 ⟨h.far,h.lw,h.nd,h.D6,fun r d hd h1 h2 h3=>h.ok1 r d hd h1 h2 (by omega),fun r d hd h1 h2 h3=>by
  by_cases e:r=i
  ·subst e;exact hs d hd h1 h2
  ·exact h.ok2 r d hd h1 h2 (by omega)⟩
def FO(ds:List FR):Prop:=∀(r:Nat) d,ds[r]? =some d->aX d=true->∃t:Nat,d.ts=[(t:Int)]/\t<ds.length/\∀es,dst es r d=bE es r (t:Int)
theorem Gi.start(hG:i5 ds)(hT:FO ds)(h:Gw ds D L (W++ [g]) P){lo:Nat}(hlo:lo=g-64)(hhi:hi=min ds.length (g+65)):Gi ds D L W P g hi lo:=by
 have hgP:¬g∈P:=fun z=>by have:=(nodup_append.mp h.nd).2.2 g (by simp) g z;exact this rfl
 have hP:∀x∈P,cH ds x:=fun x hx=>(h.far x ((h.lw x).mpr (.inl hx))).short;have hg:cH ds g:=(h.far g ((h.lw g).mpr (.inr (by simp)))).short;refine⟨h.far,fun x=>?_,?_,h.D6,fun r d hd hs hn _=>h.ok r d hd hs hn,fun r d hd hs hn hw=>?_⟩
 ·rw[h.lw x,mem_append,mem_singleton,mem_cons];constructor
  ·rintro(a | a | a)
   ·exact .inl (.inr a)
   ·exact .inr a
   ·exact .inl (.inl a)
  ·rintro((a | a) | a)
   ·exact .inr (.inr a)
   ·exact .inl a
   ·exact .inr (.inl a)
 ·have:=h.nd;rw[append_assoc]at this;exact this
 ·obtain⟨h1,h2⟩:=h.ok r d hd hs hn;obtain⟨t,_,ht,et⟩:=hT r d hd hs;have hr:=(ad.mp hd).1;have hno:iU r t g=false:=by
   cases ho:iU r t g with
   | false=>rfl
   | true=>
    rw[et]at h1;have:=near hG hP hr ht (by rw[<-h1];exact h2) ho;omega
  refine⟨?_,h2⟩;rw[h1,et,et,vN hP hg hgP hr ht hno]
theorem Gi.pass(hT:FO ds)(h:Gi ds D L W P g hi i)(hi':i<hi)(hno:∀d (t:Nat),ds[i]? =some d->aX d=true->d.ts=[(t:Int)]->¬i∈L->iU i t g=false):Gi ds D L W P g hi (i+1):=
 h.skip fun d hd hs hn=>by obtain⟨h1,h2⟩:=h.ok1 i d hd hs hn (by omega);obtain⟨t,i6,ht,et⟩:=hT i d hd hs;have hr:=(ad.mp hd).1;refine⟨?_,h2⟩;rw[h1,et,et,vN h.tY.1 h.tY.2 h.DE hr ht (hno d t hd hs i6 hn)]
theorem Gi.over(hG:i5 ds)(hT:FO ds)(h:Gi ds D L W P g hi i)(hi':i<hi){d:FR}{t:Nat}(hd:ds[i]? =some d)(hs:aX d=true)(hn:¬i∈L)(i6:d.ts=[(t:Int)])(ho:iU i t g=true):cY (D i)=dst (df ds (g::P)) i d:=by
 obtain⟨h1,h2⟩:=h.ok1 i d hd hs hn (by omega);obtain⟨t',Oq,ht,et⟩:=hT i d hd hs;have e:t'=t:=by rw[i6]at Oq;have:=List.cons.inj Oq;omega
 subst e;have hr:=(ad.mp hd).1;rw[h1,et,et,A5 hG h.tY.1 h.tY.2 h.DE hr ht ho]
theorem Gi.keep(h:Gi ds D L W P g hi i){x:Int}{d:FR}(hd:ds[i]? =some d)(hx:x=dst (df ds (g::P)) i d)(hb:bf x=true):Gi ds (fun j=>if j=i then x else D j) L W P g hi (i+1):=
 ⟨h.far,h.lw,h.nd,h.D6,fun r d' hd' h1 h2 h3=>by
  show(if r=i then x else D r)=_/\bf (if r=i then x else D r)=true;rw[if_neg (by omega)];exact h.ok1 r d' hd' h1 h2 (by omega),fun r d' hd' h1 h2 h3=>by
  show(if r=i then x else D r)=_/\bf (if r=i then x else D r)=true;by_cases e:r=i
  ·subst e;rw[hd]at hd';cases hd';rw[if_pos rfl];exact⟨hx,hb⟩
  ·rw[if_neg e]
   exact h.ok2 r d' hd' h1 h2 (by omega)⟩
theorem Gi.add(h:Gi ds D L W P g hi i){x:Int}{d:FR}(hd:ds[i]? =some d)(hs:aX d=true)(hn:¬i∈L)(hx:x=dst (df ds (g::P)) i d)(hb:bf x=false):Gi ds (fun j=>if j=i then x else D j) (L++ [i]) (W++ [i]) P g hi (i+1):=by
 have pN:zB ds i:=.mk (g::P) (fun y hy=>h.far y ((h.lw y).mpr (.inl hy))) hd hs (by rw[<-hx];exact hb);refine⟨fun y hy=>?_,fun y=>?_,?_,?_,fun r d' hd' h1 h2 h3=>?_,fun r d' hd' h1 h2 h3=>?_⟩
 ·rcases mem_append.mp hy with z | z
  ·exact h.far y z
  ·rw[mem_singleton.mp z];exact pN
 ·rw[mem_append,mem_append,h.lw y,or_assoc]
 ·have h1:¬i∈W++g::P:=fun z=>hn ((h.lw i).mpr ((mem_append.mp z).elim .inr .inl));rw[append_assoc];have h2:=nodup_append.mp h.nd;rw[nodup_append];refine⟨h2.1,?_,fun a ha b hb' e=>?_⟩
  ·show(i::(g::P)).Nodup;exact nodup_cons.mpr ⟨fun z=>h1 (List.mem_append_right _ z),h2.2.1⟩
  ·rcases mem_cons.mp (show b∈i::(g::P)from hb')with z | z
   ·rw[<-z,<-e]at h1;exact h1 (List.mem_append_left _ ha)
   ·exact h2.2.2 a ha b z e
 ·rw[nodup_append];exact⟨h.D6,by simp,fun a ha b hb' e=>hn (by rw[<-mem_singleton.mp hb',<-e];exact ha)⟩
 ·have hr:r≠i:=by omega
  show(if r=i then x else D r)=_/\bf (if r=i then x else D r)=true;rw[if_neg hr];exact h.ok1 r d' hd' h1 (fun z=>h2 (List.mem_append_left _ z)) (by omega)
 ·have hr:r≠i:=fun z=>h2 (by rw[z];simp);show(if r=i then x else D r)=_/\bf (if r=i then x else D r)=true;rw[if_neg hr];exact h.ok2 r d' hd' h1 (fun z=>h2 (List.mem_append_left _ z)) (by omega)
end
theorem Gw.start{ds:List FR}:Gw ds (D0 ds) ((cz ds).filter fun r=>!bf (D0 ds r)) ((cz ds).filter fun r=>!bf (D0 ds r)) []:=by
 have e0:df ds []=ds:=by refine List.ext_getElem? fun r=>?_;unfold df;rw[List.getElem?_mapIdx];cases ds[r]? <;>simp
 have hk:(cz ds).Nodup:=jC ds ds.length;have hD:∀(r:Nat) d,ds[r]? =some d->D0 ds r=dst ds r d:=fun r d hd=>by unfold D0;rw[hd]
 refine⟨fun x hx=>?_,fun x=>by simp,by rw[append_nil];exact hk.sublist List.filter_sublist,hk.sublist List.filter_sublist,fun r d hd hs hn=>?_⟩
 ·obtain⟨h1,h2⟩:=mem_filter.mp hx;obtain⟨d,hd,hs⟩:=iC.mp h1;rw[hD x d hd]at h2;exact .mk [] (fun y hy=>(not_mem_nil hy).elim) hd hs (by rw[e0];simpa using h2)
 ·rw[e0];refine⟨hD r d hd,?_⟩;cases hb:bf (D0 ds r)with
  | true=>rfl
  | false=>exact absurd (mem_filter.mpr ⟨iC.mpr ⟨d,hd,hs⟩,by rw[hb];rfl⟩) hn
section
variable {P:Program}{w:World}{K:Frag}{mg:Str->Option Value}{base:Heap}
def zC:Sp:=fun vs H Q _=>∃(lr:Addr) (ds:List FR),vs=[.ref lr]/\dz H lr ds/\i5 ds/\ds.length<=100000/\∀(p:Addr) (L:List Nat) (H':Hp),Same H H'->H p=none->H' p=some (.dK (nD L))->(∀x,x∈L↔zB ds x)->L.Nodup->Q (.ref p) H'
theorem xE:aE ["rows","distances","waiting","longer","r","grown"] ["rows"] (ak sW):=by walk_at "sc1"
def KJ:Scope:={kind:=.function,names:=[(".0",.local),("r",.local),("is_borne",.globalImplicit),("distances",.free)],isGenerator:=false,isCoroutine:=false,more:=[]}
theorem DF:cS (ak sW) KJ ["rows","distances","waiting","longer","r","grown"] ["r","distances"] [none,some 1]:=by walk_at "sc2"
theorem DG{f fS fB fJ fO:Addr}{fd mZ yN Cv yZ:ed}(F:cr K "jumps_to_lengthen" "jumps_to_lengthen" sW f fd)(T:Txt K w.params mg)(GS:aD P w K mg base cm 4 fS mZ ["rows"] pJ)(kS:KI K fS)(bS:Binds K mZ ["rows"] [])(mS:mg "short_distances"=some (.ref fS))(GB:aD P w K mg base cm 1 fB yN ["distance"] tF)(kB:KI K fB)(bB:Binds K yN ["distance"] [])(mB:mg "is_borne"=some (.ref fB))(GJ:aD P w K mg base cm 2 fJ Cv ["rows","r","other"] Og)(kJ:KI K fJ)(bJ:Binds K Cv ["rows","r","other"] [])(mJ:mg "jumps_over"=some (.ref fJ))(GO:aD P w K mg base cm 1 fO yZ ["distance"] Oj)(kO:KI K fO)(bO:Binds K yZ ["distance"] [])(mO:mg "one_further"=some (.ref fO)):aD P w K mg base cm 5 f fd ["rows"] zC:=by
 refine F.ok xE (by walk_at "ln") (fun cdv A outer s H vs Q E hr h=>?_)
 ·obtain⟨lr,ds,rfl,hR,hG,hn,k⟩:=h;have hr1:=hr.mono (show 1<=_ by decide);have hr2:=hr.mono (show 2<=_ by decide);have hu:=hr.u 1;obtain⟨tMO,X3⟩:=T.mro;obtain⟨qs,r1,r2,r3⟩:=id hR;have hT:FO ds:=fun r d hd hs=>by have hq:qs[r]? =some (qs[r]'(by have:=(ad.mp hd).1;omega)):=aa _;exact tgt hG hd hs (r3 r _ d hq hd)
  have hks:(cz ds).Nodup:=jC ds ds.length;have hkl:(cz ds).length<=ds.length:=by unfold cz;rw[length_map];exact yL _ _
  have hklt:∀x∈cz ds,x<ds.length:=fun x hx=>by obtain⟨d,hd,_⟩:=iC.mp hx;exact(ad.mp hd).1
  refine cU (au (ay (aI (i:=1) xE.nd rfl (Or.inr rfl) (ao GS hr (by rfl) mS kS bS .nil aS (ae (pv 0) af))))
   (au (ay (Eo (sI (i:=2) (N':=["r","distances"]) (fr:=[none,some 1]) xE.nd rfl rfl DF rfl (yA (pv 1)) (fun C s0 H0 fp=>(cq (i:=0) DF.nd rfl (Or.inl rfl))) (fun C s0 H0 fp=>(yz (dD (bQ (ao GB hr1 (by rfl) mB kB bB .nil aS (ae (nV hu (pv 1) (pv 0) (fun _ _=>rfl)) af)))))) (fun C s0 H0 fp=>(pv 0)))))
   (au (ay (aI (i:=3) xE.nd rfl (Or.inl rfl) oR))
   (au (ay (eE PassesOwn.never rfl (eP (pv 2)) (cq (i:=4) xE.nd rfl (Or.inl rfl)) (az (kr hu (pv 3) (pv 4) jO rfl))))
   (au (ay (oz PassesOwn.never (aJ jQ (aN aM (by rfl) T.len cE (ae (pv 2) af)) ah (aQ _)) (aq (aI (i:=5) xE.nd rfl (Or.inl rfl) (Jp fv PySem.F.slot_list_pop PySem.F.type_list_pop Jr (pv 2)))
   (az (eE PassesOwn.never rfl (zY rfl T.range (ae (aN (qR rfl) (by rfl) T.max Ca (ae ah (ae (aA dY (pv 5) (bp (v:=.int 64) (by rfl) X3 ⟨_,rfl⟩)) af))) (ae (aN (qS rfl) (by rfl) T.min Cd (ae (aN aM (by rfl) T.len cE (ae (pv 0) af)) (ae (aA bg (aA bg (pv 5) (bp (v:=.int 64) (by rfl) X3 ⟨_,rfl⟩)) ah) af))) af))) (cq (i:=4) xE.nd rfl (Or.inl rfl)) (az (cN (gq (sq (BA hu (pv 4) (pv 1))) (gq (sq (Ak hu (pv 4) (pv 3))) (gR (bQ (ao GJ hr2 (by rfl) mJ kJ bJ .nil aS (ae (pv 0) (ae (pv 4) (ae (pv 5) af)))))))).pt (aq (kr hu (pv 1) (pv 4) (ao GO hr1 (by rfl) mO kO bO .nil aS (ae (nV hu (pv 1) (pv 4) (fun _ _=>rfl)) af)) rfl)
   (az (cN (dD (bQ (ao GB hr1 (by rfl) mB kB bB .nil aS (ae (nV hu (pv 1) (pv 4) (fun _ _=>rfl)) af)))) (aq (kr hu (pv 3) (pv 4) jO rfl)
   (az (cC (dg fv fw gf bV (pv 2) (ae (pv 4) af))))) aO))) aO)))))))
   (aw (ay (aC (pv 3))))))))) ?_
  refine⟨_,rfl,lr,ds,rfl,hR,hG.tg,hn,fun pd G1 s1 Bh hpd=>?_⟩;have ek:gm (lY ds ds.length)=jW (cz ds) (D0 ds):=by unfold jW;rw[<-DC]
  rw[ek]at hpd;have kat:∀(j:Nat) ky y,(jW (cz ds) (D0 ds))[j]? =some (ky,y)->∃r,(cz ds)[j]? =some r/\ky=Sum.inl (r:Int)/\y=.int (D0 ds r):=fun j ky y h=>by unfold jW gm at h;rw[map_map,ac]at h;obtain⟨r,hr',e⟩:=map_eq_some_iff.mp h;cases e;exact⟨r,hr',rfl,rfl⟩
  refine⟨_,rfl,pd,_,rfl,hpd,fun o nf Dw Ot=>?_⟩;refine AF (a:=pd) (o:=o) (kvs:=jW (cz ds) (D0 ds)) (fun j σ ys G=>∃v:Option V,σ=[v,some (.ref pd)]/\ys=(((cz ds).take j).filter fun r=>!bf (D0 ds r)).map (fun r:Nat=>V.int (r:Int))/\Same H G/\G pd=some (.jI o (.dK (jW (cz ds) (D0 ds))))/\G Dw=some (.lst ys)) ?_ ?_ ?_ ?_
  ·refine⟨none,rfl,rfl,?_,?_,ai⟩
   ·exact aL (aL s1 Bh) ((aL (o:=.jI o (.dK (jW (cz ds) (D0 ds)))) s1 Bh).free Ot)
   ·rw[aG (fun z=>by rw[<-z,ai]at Ot;cases Ot),ai]
  ·rintro j σ ys G _ ⟨v,rfl,rfl,_,h,_⟩;exact h
  ·rintro j ky y σ ys G hx ⟨v,rfl,rfl,s2,hp2,hD⟩;obtain⟨r,X4,rfl,rfl⟩:=kat j ky y hx;have tk:(cz ds).take (j+1)=(cz ds).take j++ [r]:=by rw[take_add_one,X4];rfl
   refine⟨_,rfl,_,rfl,pd,.int (D0 ds r),rfl,.inl ⟨_,Sum.inl (r:Int),.inr ⟨_,hp2⟩,rfl,?_⟩,D0 ds r,rfl,_,rfl,?_⟩
   ·rw[ou hks,if_pos (ag X4)]
   refine dk (fun e=>?_) (fun e=>?_)
   ·refine⟨_,rfl,hD,aT ?_,_,rfl,?_,aL s2 ?_,?_,ai⟩
    ·rw[length_map];exact le_trans (List.length_filter_le _ _) (by rw[length_take];omega)
    ·rw[tk,filter_append,map_append,List.filter_cons_of_pos (p:=fun r=>!bf (D0 ds r)) e];rfl
    ·exact(aL (o:=.jI o (.dK (jW (cz ds) (D0 ds)))) s1 Bh).free Ot
    ·rw[aG (fun z=>by rw[z,hD]at hp2;cases hp2)];exact hp2
   ·refine⟨_,rfl,?_,s2,hp2,hD⟩;rw[tk,filter_append,List.filter_cons_of_neg (p:=fun r=>!bf (D0 ds r)) e];simp
  ·rintro σ ys G ⟨v,rfl,rfl,s2,hp2,hD⟩;have hlk:(jW (cz ds) (D0 ds)).length=(cz ds).length:=by unfold jW gm;rw[length_map,length_map]
   rw[hlk,take_length]at hD;refine⟨pd,o,_,hp2,nf,?_⟩;have s3:Same H (upd G pd (.dK (jW (cz ds) (D0 ds)))):=aL s2 Bh;have hp3:upd G pd (.dK (jW (cz ds) (D0 ds))) pd=_:=ai;have FP:Dw≠pd:=fun z=>by rw[z,hp2]at hD;cases hD
   have Bj:upd G pd (.dK (jW (cz ds) (D0 ds))) Dw=some (.lst (((cz ds).filter fun r=>!bf (D0 ds r)).map fun r:Nat=>V.int (r:Int))):=by rw[aG FP];exact hD
   have X5:H Dw=none:=(aL (o:=.jI o (.dK (jW (cz ds) (D0 ds)))) s1 Bh).free Ot;have Ou:=Gw.start (ds:=ds);generalize ((cz ds).filter fun r=>!bf (D0 ds r))=ws at Bj Ou;generalize upd G pd (.dK (jW (cz ds) (D0 ds)))=Ga at s3 hp3 Bj ⊢;refine fun pl FQ=>?_;have KL:H pl=none:=s3.free FQ;have KN:pl≠pd:=fun z=>by rw[z,hp3]at FQ;cases FQ
   have FT:pl≠Dw:=fun z=>by rw[z,Bj]at FQ;cases FQ
   have s4:=s3.trans (aj (o:=.dK []) FQ);have LL:=aj (o:=.dK []) FQ _ _ hp3;have S8:=aj (o:=.dK []) FQ _ _ Bj;have X6:upd Ga pl (.dK []) pl=some (.dK (nD ([]:List Nat))):=ai;generalize upd Ga pl (.dK [])=Gb at s4 LL S8 X6 ⊢;have hwl:ws.length<=ds.length:=lz Ou.D6 fun x hx=>by obtain⟨d,h1,_⟩:=(Ou.far x hx).short;exact(ad.mp h1).1
   refine⟨_,rfl,Dw,rfl,⟨_,aV.of S8⟩,oA (K:=K) (a:=Dw) (xs:=ws.map fun r:Nat=>V.int (r:Int)) (fun i σ G=>∃v:Option V,σ=[some (.ref lr),some (.ref pd),some (.ref Dw),some (.ref pl),v,none]/\Same H G/\G pd=some (.dK (jW (cz ds) (D0 ds)))/\G Dw=some (.lst (ws.map fun r:Nat=>V.int (r:Int)))/\G pl=some (.dK (nD (ws.take i)))) ?_ ?_ ?_ ?_⟩
   ·exact⟨none,rfl,s4,LL,S8,X6⟩
   ·rintro i σ G' _ ⟨v,rfl,_,_,h,_⟩;exact aV.of h
   ·rintro i x σ G' hx ⟨v,rfl,s5,S9,Ta,FK⟩;rw[ac]at hx;obtain⟨r,hr',rfl⟩:=map_eq_some_iff.mp hx;have hil:=(ad.mp hr').1;have hni:¬r∈ws.take i:=fun z=>by have hnd:=Ou.D6;rw[<-List.take_append_drop i ws]at hnd;exact(nodup_append.mp hnd).2.2 r z r (ag (i:=0) (by rw[List.getElem?_drop];exact hr')) rfl
    refine⟨_,rfl,_,rfl,pl,_,rfl,uW.k (k:=Sum.inl (r:Int)) FK (by rw[DB,length_take];exact aT (by omega)),?_⟩;rw[DA hni];have tk:ws.take (i+1)=ws.take i++ [r]:=by rw[take_add_one,hr'];rfl
    refine⟨_,rfl,aL s5 KL,by rw[aG (Ne.symm KN)];exact S9,by rw[aG (Ne.symm FT)];exact Ta,by rw[ai,tk]⟩
   ·rintro σ G' ⟨v,rfl,s5,S9,Ta,FK⟩;rw[length_map,take_length]at FK;refine⟨fun mm σ G=>∃(D:Nat->Int) (L W P:List Nat) (v4 v5:Option V),σ=[some (.ref lr),some (.ref pd),some (.ref Dw),some (.ref pl),v4,v5]/\Same H G/\G pd=some (.dK (jW (cz ds) D))/\G Dw=some (.lst (W.map fun r:Nat=>V.int (r:Int)))/\G pl=some (.dK (nD L))/\Gw ds D L W P/\mm=ds.length-P.length,⟨_,D0 ds,ws,ws,[],_,_,rfl,s5,S9,Ta,FK,Ou,rfl⟩,?_⟩;rintro mm σ G2 ⟨D,L,W,P,v4,v5,rfl,s6,hp6,Tb,Rg,gw,rfl⟩;refine⟨_,rfl,Dw,_,rfl,.inl (aV.of Tb),_,_,rfl,rfl,_,rfl,?_⟩;refine dk (fun e=>?_) (fun e=>?_)
    ·have e:=of_decide_eq_true e;rw[length_map]at e;obtain⟨W0,g,rfl⟩:∃ys x,W=ys++ [x]:=⟨_,_,(List.dropLast_concat_getLast (fun z=>by rw[z]at e;simp at e)).symm⟩;have hPl:(g::P).length<=ds.length:=lz (by have:=(nodup_append.mp (by have:=gw.nd;rw[append_assoc]at this;exact this)).2.1;exact this) fun x hx=>by obtain⟨d,h1,_⟩:=(gw.far x ((gw.lw x).mpr ((mem_cons.mp hx).elim (fun z=>by rw[z];exact .inr (by simp)) .inl))).short;exact(ad.mp h1).1
     rw[length_cons]at hPl;have hgl:g<ds.length:=by obtain⟨d,h1,_⟩:=(gw.far g ((gw.lw g).mpr (.inr (by simp)))).short;exact(ad.mp h1).1
     refine⟨fun σ' G'=>∃(D:Nat->Int) (L W:List Nat) (v4 v5:Option V),σ'=[some (.ref lr),some (.ref pd),some (.ref Dw),some (.ref pl),v4,v5]/\Same H G'/\G' pd=some (.dK (jW (cz ds) D))/\G' Dw=some (.lst (W.map fun r:Nat=>V.int (r:Int)))/\G' pl=some (.dK (nD L))/\Gw ds D L W (g::P),?_,?_⟩
     ·rintro σ' G' ⟨D,L,W,v4,v5,rfl,a1,a2,a3,a4,a5⟩;exact⟨ds.length- (g::P).length,by rw[length_cons];omega,D,L,W,g::P,v4,v5,rfl,a1,a2,a3,a4,a5,rfl⟩
     refine⟨_,rfl,.inl ⟨rfl,_,aV.of Tb⟩,Dw,_,.int (g:Int),rfl,rfl,Tb,by simp,?_⟩;have edl:((W0++ [g]).map fun r:Nat=>V.int (r:Int)).dropLast=W0.map fun r:Nat=>V.int (r:Int):=by simp
     rw[edl];have s7:Same H (upd G2 Dw (.lst (W0.map fun r:Nat=>V.int (r:Int)))):=aL s6 X5;have X7:upd G2 Dw (.lst (W0.map fun r:Nat=>V.int (r:Int))) pd=some (.dK (jW (cz ds) D)):=by rw[aG (Ne.symm FP)];exact hp6
     have X8:upd G2 Dw (.lst (W0.map fun r:Nat=>V.int (r:Int))) pl=some (.dK (nD L)):=by rw[aG FT];exact Rg
     have X9:upd G2 Dw (.lst (W0.map fun r:Nat=>V.int (r:Int))) Dw=_:=ai;generalize upd G2 Dw (.lst (W0.map fun r:Nat=>V.int (r:Int)))=G7 at s7 X7 X8 X9 ⊢;have emax:(if (g:Int)-64>0 then (g:Int)-64 else 0)=((g-64:Nat):Int):=by split<;>omega
     have emin:(if (g:Int)+64+1< ((qs.map V.ref).length:Nat)then (g:Int)+64+1 else ((qs.map V.ref).length:Nat))=((min ds.length (g+65):Nat):Int):=by rw[length_map,r2];split<;>omega
     refine⟨_,rfl,_,_,rfl,rfl,_,_,rfl,_,rfl,lr,_,rfl,.inl (aV.of (s7 _ _ r1)),_,rfl,_,_,rfl,rfl,_,_,rfl,rfl,_,_,rfl,((g-64:Nat):Int),((min ds.length (g+65):Nat):Int),by rw[emax,emin],by omega,?_⟩;refine jw (lo:=((g-64:Nat):Int)) (n:=(((min ds.length (g+65):Nat):Int)- ((g-64:Nat):Int)).toNat) (fun i σ G'=>∃(D:Nat->Int) (L W:List Nat) (v4:Option V),σ=[some (.ref lr),some (.ref pd),some (.ref Dw),some (.ref pl),v4,some (.int (g:Int))]/\Same H G'/\G' pd=some (.dK (jW (cz ds) D))/\G' Dw=some (.lst (W.map fun r:Nat=>V.int (r:Int)))/\G' pl=some (.dK (nD L))/\Gi ds D L W P g (min ds.length (g+65)) (g-64+i)) ?_ ?_ ?_
     ·exact⟨D,L,W0,_,rfl,s7,X7,X9,X8,Gi.start hG hT gw rfl rfl⟩
     ·rintro i σ G8 hi ⟨D,L,W,v4,rfl,s8,hp8,Ov,LR,gi⟩;have er:((g-64:Nat):Int)+(i:Int)=((g-64+i:Nat):Int):=by omega
      rw[er];have hiw:g-64+i<min ds.length (g+65):=by omega
      generalize hr0:g-64+i=r at gi hiw;have hLl:L.length<=ds.length:=lz gi.D6 fun x hx=>by obtain⟨d,h1,_⟩:=(gi.far x hx).short;exact(ad.mp h1).1
      have hWl:W.length<=ds.length:=lz (nodup_append.mp gi.nd).1 fun x hx=>by obtain⟨d,h1,_⟩:=(gi.far x ((gi.lw x).mpr (.inr hx))).short;exact(ad.mp h1).1
      have hd:ds[r]? =some (ds[r]'(by omega)):=aa _;generalize ds[r]'(by omega)=d at hd;refine⟨_,rfl,_,rfl,pd,_,rfl,j0.k (k:=Sum.inl (r:Int)) hp8,_,rfl,?_⟩;rw[ou hks];have Rh:g-64+(i+1)=r+1:=by omega
      have skip:(∀d',ds[r]? =some d'->aX d'=true->¬r∈L->D r=dst (df ds (g::P)) r d'/\bf (D r)=true)->Gi ds D L W P g (min ds.length (g+65)) (g-64+(i+1)):=fun h=>by rw[Rh];exact gi.skip h
      by_cases hk':r∈cz ds
      ·rw[if_pos hk'];obtain⟨d',hd',hs⟩:=iC.mp hk';rw[hd]at hd';cases hd';refine bY rfl ?_;refine⟨_,rfl,_,rfl,pl,_,rfl,j0.k (k:=Sum.inl (r:Int)) LR,_,rfl,?_⟩;rw[xD];by_cases hL:r∈L
       ·rw[if_pos hL];exact bu (by decide) (bu (by decide) ⟨D,L,W,_,rfl,s8,hp8,Ov,LR,skip fun _ _ _ z=>absurd hL z⟩)
       ·rw[if_neg hL];refine bY rfl ?_;obtain⟨tn,i6,htl,et⟩:=hT r d hd hs;refine⟨_,rfl,_,rfl,_,rfl,lr,ds,r,g,tn,d,rfl,hR.same s8,hd,i6,fun G9 s9=>⟨_,rfl,?_⟩⟩;have hp9:=s9 _ _ hp8;have Ya:=s9 _ _ Ov;have hl9:=s9 _ _ LR;have sA:=s8.trans s9;refine dk (fun eo=>?_) (fun eo=>?_)
        ·have hx:=gi.over hG hT hiw hd hs hL i6 eo;refine⟨_,rfl,_,rfl,pd,.int (D r),rfl,.inl ⟨_,Sum.inl (r:Int),.inl hp9,rfl,by rw[ou hks,if_pos hk']⟩,D r,rfl,_,rfl,_,rfl,pd,_,rfl,uW.k (k:=Sum.inl (r:Int)) hp9 (by unfold jW gm;rw[length_map,length_map];exact aT (by omega)),?_⟩;rw[FN D hk'];have sB:Same H (upd G9 pd (.dK (jW (cz ds) fun j=>if j=r then cY (D r)else D j))):=aL sA Bh;have Ri:upd G9 pd (.dK (jW (cz ds) fun j=>if j=r then cY (D r)else D j)) pd=_:=ai;have Tc:upd G9 pd (.dK (jW (cz ds) fun j=>if j=r then cY (D r)else D j)) Dw=some (.lst (W.map fun r:Nat=>V.int (r:Int))):=by rw[aG FP];exact Ya
         have Td:upd G9 pd (.dK (jW (cz ds) fun j=>if j=r then cY (D r)else D j)) pl=some (.dK (nD L)):=by rw[aG KN];exact hl9
         generalize upd G9 pd (.dK (jW (cz ds) fun j=>if j=r then cY (D r)else D j))=GB at sB Ri Tc Td ⊢;refine⟨_,rfl,_,rfl,pd,.int (cY (D r)),rfl,.inl ⟨_,Sum.inl (r:Int),.inl Ri,rfl,by rw[ou hks,if_pos hk',if_pos rfl]⟩,cY (D r),rfl,_,rfl,?_⟩;refine dk (fun eb=>?_) (fun eb=>?_)
         ·have eb:bf (cY (D r))=false:=by simpa using eb
          refine⟨_,rfl,_,rfl,pl,_,rfl,uW.k (k:=Sum.inl (r:Int)) Td (by rw[DB];exact aT (by omega)),?_⟩;rw[DA hL];have hDC:upd GB pl (.dK (nD (L++ [r]))) Dw=some (.lst (W.map fun r:Nat=>V.int (r:Int))):=by rw[aG (Ne.symm FT)];exact Tc
          refine⟨_,rfl,.inl ⟨rfl,_,aV.of hDC⟩,_,rfl,Dw,_,_,rfl,rfl,hDC,aT (by rw[length_map];omega),?_⟩;refine⟨_,L++ [r],W++ [r],_,rfl,aL (aL sB KL) X5,by rw[aG (Ne.symm FP),aG (Ne.symm KN)];exact Ri,by rw[ai,map_append];rfl,by rw[aG FT,ai],by rw[Rh];exact gi.add hd hs hL hx eb⟩
         ·have eb:bf (cY (D r))=true:=by simpa using eb
          exact⟨_,L,W,_,rfl,sB,Ri,Tc,Td,by rw[Rh];exact gi.keep hd hx eb⟩
        ·have eo:iU r tn g=false:=Bool.eq_false_iff.mpr eo;refine⟨D,L,W,_,rfl,sA,hp9,Ya,hl9,?_⟩;rw[Rh];exact gi.pass hT hiw fun d2 t2 h2 _ h4 _=>by
          rw[hd]at h2;cases h2;rw[i6]at h4;have:=List.cons.inj h4;have e9:t2=tn:=by omega
          rw[e9];exact eo
      ·rw[if_neg hk'];exact bu (by decide) (bu (by decide) ⟨D,L,W,_,rfl,s8,hp8,Ov,LR,skip fun d' h1 h2 _=>absurd (iC.mpr ⟨d',h1,h2⟩) hk'⟩)
     ·rintro σ G8 ⟨D,L,W,v4,rfl,s8,hp8,Ov,LR,gi⟩;exact⟨D,L,W,_,_,rfl,s8,hp8,Ov,LR,gi.out (by omega)⟩
    ·have hW:W=[]:=by
      cases W with
      | nil=>rfl
      | cons a b=>exact absurd (decide_eq_true (by rw[length_map,length_cons];omega)) e
     subst hW;exact⟨_,rfl,k pl L _ s6 KL Rg (gw.done hG) gw.D6⟩
def zD:Sp:=fun vs H Q _=>∃(lr:Addr) (ds:List FR),vs=[.ref lr]/\dz H lr ds/\i5 ds/\ds.length<=100000/\∀(l:Addr) (L:List Nat) (H':Hp),Same H H'->H l=none->dz H' l (df ds L)->(∀x,x∈L↔zB ds x)->Q (.ref l) H'
theorem Io:aE ["rows","longer"] ["rows"] (ak sX):=by walk_at "sc1"
def FU:Scope:={kind:=.function,names:=[(".0",.local),("r",.local),("row",.local),("with_far",.globalImplicit),("longer",.free)],isGenerator:=false,isCoroutine:=false,more:=[]}
theorem zE:cS (ak sX) FU ["rows","longer"] ["r","row","longer"] [none,none,some 1]:=by walk_at "sc2"
theorem DH{f fT fW:Addr}{fd vo nh:ed}(F:cr K "least_layout" "least_layout" sX f fd)(T:Txt K w.params mg)(GT:aD P w K mg base cm 5 fT vo ["rows"] zC)(kT:KI K fT)(bT:Binds K vo ["rows"] [])(mT:mg "jumps_to_lengthen"=some (.ref fT))(GW:aD P w K mg base cm 2 fW nh ["row","far"] Om)(kW:KI K fW)(bW:Binds K nh ["row","far"] [])(mW:mg "with_far"=some (.ref fW)):aD P w K mg base cm 6 f fd ["rows"] zD:=by
 refine F.ok Io (by walk_at "ln") (fun cdv A outer s H vs Q E hr h=>?_)
 ·obtain⟨lr,ds,rfl,hR,hG,hn,k⟩:=h;have hr2:=hr.mono (show 2<=_ by decide);have hu:=hr.u 1
  refine cU (au (ay (aI (i:=1) Io.nd rfl (Or.inr rfl) (ao GT hr (by rfl) mT kT bT .nil aS (ae (pv 0) af))))
   (aw (ay (aC (dQ (N':=["r","row","longer"]) (fr:=[none,none,some 1]) zE rfl (fX rfl T.enum (ae (pv 0) af)) (fun C s0 H0 fp=>(gA (K:=K) (i:=0) (j:=1) rfl rfl zE.nd rfl (Or.inl rfl) rfl (Or.inl rfl))) (fun C s0 H0 fp=>dr) (fun C s0 H0 fp=>(cQ (sq (BA hu (pv 0) (pv 2))) (ao GW hr2 (by rfl) mW kW bW .nil aS (ae (pv 1) (ae ah af))) (pv 1)))))))) ?_
  refine⟨_,rfl,lr,ds,rfl,hR,hG,hn,fun pl L G1 s1 FQ hpl hL _=>?_⟩;obtain⟨qs,r1,r2,r3⟩:=hR.same s1;refine⟨_,rfl,lr,rfl,⟨_,aV.of r1⟩,?_⟩;refine fun D nD=>Ar (K:=K) (a:=lr) (xs:=qs.map V.ref) (fun i σ ys G=>∃(v1 v2:Option V) (es:List Addr),σ=[v1,v2,some (.ref pl)]/\ys=es.map V.ref/\es.length=i/\(∀(j:Nat) q d,es[j]? =some q->ds[j]? =some d->bZ G q (if j∈L then gE d else d))/\Same G1 G/\G D=some (.lst ys)) ?_ ?_ ?_ ?_
  ·exact⟨none,none,[],rfl,rfl,rfl,fun j q d h=>by simp at h,aj nD,ai⟩
  ·rintro i σ ys G _ ⟨v1,v2,es,rfl,rfl,_,_,s2,_⟩;exact aV.of (s2 _ _ r1)
  ·rintro i x σ ys G tt hx og ⟨v1,v2,es,rfl,rfl,hel,hrow,s2,hD⟩;rw[ac]at hx;obtain⟨q,hq,rfl⟩:=map_eq_some_iff.mp hx;have hil:=(ad.mp hq).1;have hd:ds[i]? =some (ds[i]'(by omega)):=aa _;generalize ds[i]'(by omega)=d at hd;have s3:=s2.trans (aj (o:=.tup [V.int i,V.ref q]) og);have Bj:=aj (o:=.tup [V.int i,V.ref q]) og _ _ hD;have Tf:∀(j:Nat) q d,es[j]? =some q->ds[j]? =some d->bZ (upd G tt (.tup [V.int i,V.ref q])) q (if j∈L then gE d else d):=fun j q d g1 g2=>(hrow j q d g1 g2).same (aj og);have htt:upd G tt (.tup [V.int i,V.ref q]) tt=_:=ai;have Ip:∀(j:Nat) q' d,es[j]? =some q'->ds[j]? =some d->bZ (upd G tt (.tup [V.int i,V.ref q])) q' (if j∈L then gE d else d):=fun j q' d g1 g2=>(hrow j q' d g1 g2).same (aj og);clear Tf;generalize upd G tt (.tup [V.int i,V.ref q])=G3 at s3 Bj htt Ip ⊢;have hfin:∀(p':Addr) (G4:Hp),Same G3 G4->bZ G4 p' (if i∈L then gE d else d)->∃(v1 v2:Option V) (es':List Addr),([some (V.int (i:Int)),some (V.ref q),some (V.ref pl)]:St)=[v1,v2,some (.ref pl)]/\es.map V.ref++ [V.ref p']=es'.map V.ref/\es'.length=i+1/\(∀(j:Nat) q d,es'[j]? =some q->ds[j]? =some d->bZ (upd G4 D (.lst (es.map V.ref++ [V.ref p']))) q (if j∈L then gE d else d))/\Same G1 (upd G4 D (.lst (es.map V.ref++ [V.ref p'])))/\upd G4 D (.lst (es.map V.ref++ [V.ref p'])) D=some (.lst (es.map V.ref++ [V.ref p'])):=fun p' G4 s4 hp'=>by
    refine⟨_,_,es++ [p'],rfl,by rw[map_append];rfl,by rw[length_append,hel];rfl,fun j q' d' g1 g2=>?_,aL (s3.trans s4) nD,ai⟩;by_cases hj:j<es.length
    ·rw[ap hj]at g1;exact((Ip j q' d' g1 g2).same s4).put (s4 _ _ Bj)
    ·have h9:=(ad.mp g1).1;rw[length_append,length_singleton]at h9;have ej:j=es.length:=by omega
     subst ej;rw[show(es++ [p'])[es.length]? =some p' by simp]at g1;cases g1;rw[hel]at g2 ⊢;rw[hd]at g2;cases g2;exact hp'.put (s4 _ _ Bj)
   refine⟨tt,_,rfl,bz.of htt,rfl,_,_,rfl,_,_,rfl,rfl,?_⟩;refine⟨_,rfl,_,rfl,pl,_,rfl,j0.k (k:=Sum.inl (i:Int)) (s3 _ _ hpl),_,rfl,?_⟩;rw[xD];by_cases hiL:i∈L
   ·rw[if_pos hiL];rw[if_pos hiL]at hfin;refine bY rfl ?_;exact⟨_,rfl,q,d,rfl,(r3 i q d hq hd).same s3,fun p' G4 s4 hp'=>⟨s4 _ _ Bj,aT (by rw[length_map];omega),hfin p' G4 s4 hp'⟩⟩
   ·rw[if_neg hiL];rw[if_neg hiL]at hfin;refine bu (by decide) ?_;exact⟨_,rfl,Bj,aT (by rw[length_map];omega),hfin q G3 (.refl _) ((r3 i q d hq hd).same s3)⟩
  ·rintro σ ys G ⟨v1,v2,es,rfl,rfl,hel,hrow,s2,hD⟩;rw[length_map,r2]at hel;refine k D L _ (s1.trans s2) (s1.free nD) ⟨es,hD,by rw[fq];exact hel,fun j q d g1 g2=>?_⟩ hL;have hjl:=(ad.mp g1).1;have hd:ds[j]? =some (ds[j]'(by omega)):=aa _;have:=hrow j q _ g1 hd;rw[jF hd]at g2;cases g2;exact this
theorem KO{X:Cx}{a b:Expr}{ta tb:TE}{pos:Pos}{r:R2}(hr:MF X r)(ha:JU X a ta)(hb:PE X b tb)(hs:yr b):JU X (.Subscript a b pos) (Mq r ta tb):=by unfold JU at ha ⊢;exact aF hr ha hb hs
theorem FV{X:Cx}{e:Expr}{te:TE}{pos:Pos}(he:JU X e te):Q0 X (.Return (some e) pos) (Md te):=by unfold JU at he;unfold Q0;exact aC he
theorem Tg(a:Int){n:Nat}(h:0<n):∃k:Nat,a % (n:Int)=(k:Int)/\k<n:=by have h1:=Int.emod_nonneg a (show(n:Int)≠0 by omega);have h2:=Int.emod_lt_of_pos a (show(0:Int)<n by omega);obtain⟨k,hk⟩:=Int.eq_ofNat_of_zero_le h1;exact⟨k,hk,by omega⟩
def qF:List Int:=[2,3,4,11,12,13,20,21,22,23,24]
def Iq:List Int:=[0,1,2,14,17,18,20,23,24]
def DI:List Int:=[5,6,7,8,9]
def gG(c x:Int):Int:=if c=19 then 3+x % 5 else 1+if decide (c∈qF)=true then 1 else 0
def jN(c m:Int):Int:=m % 8*if (!decide (c∈Iq))=true then 1 else 0
def gH(c m:Int):Int:=if c∈DI then m % 8 else 0
def jq(last:Bool)(m:Int):Int:=if last=true then (if m % 4=3 then 20 else m % 4)else m % 25
def Ir:Sp:=fun vs H Q _=>∃c x:Int,vs=[.int c,.int x]/\∀H',Same H H'->Q (.int (gG c x)) H'
theorem Ow:aE ["_law_code_here","_law_x"] ["_law_code_here","_law_x"] (ak j3):=by walk_at "sc1"
theorem vO{f:Addr}{fd:ed}(F:cr K "_law_many" "_law_many" j3 f fd)(T:Txt K w.params mg): aD P w K mg base cm 1 f fd ["_law_code_here","_law_x"] Ir:=by
 refine F.ok Ow (by walk_at "ln") (fun cdv A outer s H vs Q E hr h=>?_)
 ·obtain⟨c,x,rfl,k⟩:=h
  refine cU (au (cv (aJ cT (pv 0) ah (aQ _)) (aw (ay (aC (aA bg (aA bg ah ah) (aA dE (pv 1) ah))))) (cu aO))
   (aw (ay (aC (aA bg ah (cw qT (by rfl) T.int pE (ae (cO cy (pv 0) (gX (.cons ah (.cons ah (.cons ah (.cons ah (.cons ah (.cons ah (.cons ah (.cons ah (.cons ah (.cons ah (.cons ah .nil)))))))))))) rfl) af))))))) ?_
  refine⟨_,rfl,rfl,_,rfl,dk (fun z=>?_) (fun z=>?_)⟩
  ·have z:c=19:=V.int.inj (of_decide_eq_true z);refine⟨_,_,rfl,rfl,_,rfl,_,_,rfl,rfl,JQ,_,_,rfl,rfl,?_⟩;have e:gG c x=2+1+x % 5:=by unfold gG;rw[if_pos z];rfl
   rw[e]at k;exact k _ (.refl _)
  ·have z:¬c=19:=fun y=>z (decide_eq_true (congrArg V.int y));refine⟨_,rfl,zle,fun t n=>dO n fun G s g=>⟨t,[V.int 2,V.int 3,V.int 4,V.int 11,V.int 12,V.int 13,V.int 20,V.int 21,V.int 22,V.int 23,V.int 24],rfl,.inr (bz.of g),rfl,rfl,.inr ⟨_,rfl,_,_,rfl,rfl,?_⟩⟩⟩;have e:gG c x=1+if decide (c∈qF)=true then 1 else 0:=by unfold gG;rw[if_neg z]
   rw[e,<-gW]at k;exact k _ s
def Iu:Sp:=fun vs H Q _=>∃(c:Int) (lx:Addr) (m0 m1 m2 m3 m4 m5 m6 m7 m8:Int),vs=[.int c,.ref lx]/\H lx=some (.lst (([m0,m1,m2,m3,m4,m5,m6,m7,m8]:List Int).map V.int))/\∀H',Same H H'->Q (.int (c*1024+jN c m3*128+gH c m2)) H'
theorem zF:aE ["_law_code_here","_law_xs","_law_low","_law_box"] ["_law_code_here","_law_xs"] (ak j4):=by walk_at "sc1"
theorem vP{f:Addr}{fd:ed}(F:cr K "_law_head" "_law_head" j4 f fd)(T:Txt K w.params mg): aD P w K mg base cm 1 f fd ["_law_code_here","_law_xs"] Iu:=by
 refine F.ok zF (by walk_at "ln") (fun cdv A outer s H vs Q E hr h=>?_)
 ·obtain⟨c,lx,m0,m1,m2,m3,m4,m5,m6,m7,m8,rfl,hx,k⟩:=h
  refine cU (au (ay (aI (i:=2) zF.nd rfl (Or.inl rfl) ah))
   (jd (cv (aJ cy (pv 0) (gX (.cons ah (.cons ah (.cons ah (.cons ah (.cons ah .nil)))))) rfl) (aw (ay (aI (i:=2) zF.nd rfl (Or.inl rfl) (aA dE (aF aK (pv 1) ah (fun _ _=>rfl)) ah)))) (cu aO))
   (au (ay (aI (i:=3) zF.nd rfl (Or.inl rfl) (aA ic (aA dE (aF aK (pv 1) ah (fun _ _=>rfl)) ah) (cw qT (by rfl) T.int pE (ae (cO ko (pv 0) (gX (.cons ah (.cons ah (.cons ah (.cons ah (.cons ah (.cons ah (.cons ah (.cons ah (.cons ah .nil)))))))))) rfl) af)))))
   (aw (ay (aC (aA bg (aA bg (aA ic (pv 0) ah) (aA ic (pv 3) ah)) (pv 2)))))))) ?_
  refine⟨fun σ G=>σ=[some (.int c),some (.ref lx),some (.int (gH c m2)),none]/\Same H G,?_,?_⟩
  ·refine⟨_,rfl,zle,fun t n=>dO n fun G s g=>⟨t,[V.int 5,V.int 6,V.int 7,V.int 8,V.int 9],rfl,.inr (bz.of g),rfl,rfl,_,rfl,?_⟩⟩;have xF:(if false=true then !inV (.int c) [V.int 5,V.int 6,V.int 7,V.int 8,V.int 9]else inV (.int c) [V.int 5,V.int 6,V.int 7,V.int 8,V.int 9])=decide (c∈DI):=(if_neg (by decide)).trans (gW c DI);rw[xF];unfold gH;by_cases h:c∈DI
   ·refine bY (decide_eq_true h) ⟨_,rfl,lx,_,2,.int m2,rfl,rfl,aV.of (s _ _ hx),rfl,_,_,rfl,rfl,Ng,?_⟩;rw[if_pos h];exact⟨rfl,s⟩
   ·refine bu (by rw[decide_eq_false h];decide) ?_;rw[if_neg h];exact⟨rfl,s⟩
  rintro σ G ⟨rfl,s⟩;refine⟨_,rfl,lx,_,3,.int m3,rfl,rfl,aV.of (s _ _ hx),rfl,_,_,rfl,rfl,Ng,?_⟩;refine⟨_,rfl,zle,fun t n=>dO n fun G2 s2 g2=>⟨t,[V.int 0,V.int 1,V.int 2,V.int 14,V.int 17,V.int 18,V.int 20,V.int 23,V.int 24],rfl,.inr (bz.of g2),rfl,rfl,.inr ⟨_,rfl,_,_,rfl,rfl,.inl ⟨by omega,by omega⟩,?_⟩⟩⟩;have xF:(if true=true then !inV (.int c) [V.int 0,V.int 1,V.int 2,V.int 14,V.int 17,V.int 18,V.int 20,V.int 23,V.int 24]else inV (.int c) [V.int 0,V.int 1,V.int 2,V.int 14,V.int 17,V.int 18,V.int 20,V.int 23,V.int 24])=!decide (c∈Iq):=(if_pos rfl).trans (congrArg _ (gW c Iq));rw[xF];exact⟨_,rfl,_,_,rfl,rfl,.inr ⟨by decide,by decide⟩,_,rfl,_,_,rfl,rfl,.inr ⟨by decide,by decide⟩,_,_,rfl,rfl,_,rfl,_,_,rfl,rfl,k _ (s.trans s2)⟩
def Iv:Sp:=fun vs H Q _=>∃(lx:Addr) (b:Bool) (m0 m1 m2 m3 m4 m5 m6 m7 m8:Int),vs=[.ref lx,.bl b]/\H lx=some (.lst (([m0,m1,m2,m3,m4,m5,m6,m7,m8]:List Int).map V.int))/\∀H',Same H H'->Q (.int (jq b m0)) H'
theorem Ox:aE ["_law_xs","_law_last"] ["_law_xs","_law_last"] (ak j5):=by walk_at "sc1"
theorem vQ{f:Addr}{fd:ed}(F:cr K "_law_code" "_law_code" j5 f fd)(T:Txt K w.params mg): aD P w K mg base cm 1 f fd ["_law_xs","_law_last"] Iv:=by
 refine F.ok Ox (by walk_at "ln") (fun cdv A outer s H vs Q E hr h=>?_)
 ·obtain⟨lx,b,m0,m1,m2,m3,m4,m5,m6,m7,m8,rfl,hx,k⟩:=h
  refine cU (au (cv (bQ (pv 1)) (aw (Ci (FV (KO aK (EJ (.cons ah (.cons ah (.cons ah (.cons ah .nil))))) (aA dE (aF aK (pv 0) ah (fun _ _=>rfl)) ah) (fun _ _=>rfl))))) (cu aO))
   (aw (ay (aC (aA dE (aF aK (pv 0) ah (fun _ _=>rfl)) ah))))) ?_
  refine⟨_,rfl,_,rfl,?_⟩;cases b with
  | false=>exact bu (by decide) ⟨_,rfl,lx,_,0,.int m0,rfl,rfl,aV.of hx,rfl,_,_,rfl,rfl,Nh,k _ (.refl _)⟩
  | true=>
   refine bY rfl ⟨zle,fun l n=>dO n fun G s g=>⟨_,rfl,lx,_,0,.int m0,rfl,rfl,aV.of (s _ _ hx),rfl,_,_,rfl,rfl,SD,?_⟩⟩;have e:jq true m0=if m0 % 4=3 then 20 else m0 % 4:=rfl;rw[e]at k;rcases(show m0 % 4=0\/m0 % 4=1\/m0 % 4=2\/m0 % 4=3 by omega)with z | z | z | z<;>rw[z]at k ⊢
   ·exact⟨l,_,_,.int 0,rfl,rfl,aV.of g,rfl,k _ s⟩
   ·exact⟨l,_,_,.int 1,rfl,rfl,aV.of g,rfl,k _ s⟩
   ·exact⟨l,_,_,.int 2,rfl,rfl,aV.of g,rfl,k _ s⟩
   ·exact⟨l,_,_,.int 20,rfl,rfl,aV.of g,rfl,k _ s⟩
def Iw:Sp:=fun vs H Q _=>∃(lb:Addr) (bs:List Int) (here:Nat) (bh x:Int) (sh:Bool),vs=[.ref lb,.int (here:Int),.int bh,.int x,.bl sh]/\H lb=some (.lst (bs.map V.int))/\here<bs.length/\∀(t:Nat) (y:Int),bs[t]? =some y->(sh=true->t=here\/bf (y-bh)=true)->Q (.int (y-bh)) H
theorem DJ:aE ["_law_begins","_law_here","_law_behind","_law_x","_law_short","_law_distance"] ["_law_begins","_law_here","_law_behind","_law_x","_law_short"] (ak lX):=by walk_at "sc1"
theorem xG{f:Addr}{fd:ed}(F:cr K "_law_led" "_law_led" lX f fd)(T:Txt K w.params mg): aD P w K mg base cm 1 f fd ["_law_begins","_law_here","_law_behind","_law_x","_law_short"] Iw:=by
 refine F.ok DJ (by walk_at "ln") (fun cdv A outer s H vs Q E hr h=>?_)
 ·obtain⟨lb,bs,here,bh,x,sh,rfl,hb,hh,k⟩:=h
  refine cU (au (ay (aI (i:=5) DJ.nd rfl (Or.inl rfl) (aA dY (aF aK (pv 0) (aA dE (pv 3) (aN aM (by rfl) T.len cE (ae (pv 0) af))) (fun _ _=>rfl)) (pv 2))))
   (jd (cv (gq (bQ (pv 4)) (gR (iS (aJ mV (pv 5) (eY dG ah) (aQ _)) (ia (aJ jQ (pv 5) ah (aQ _)))).pt)).pt (aw (ay (aI (i:=5) DJ.nd rfl (Or.inl rfl) (aA dY (aF aK (pv 0) (pv 1) (fun _ _=>rfl)) (pv 2))))) (cu aO))
   (aw (ay (aC (pv 5)))))) ?_
  have hpos:0<bs.length:=by omega
  obtain⟨t,ht,htl⟩:=Tg x hpos;have hbt:bs[t]? =some bs[t]:=aa htl;have LS:bs[here]? =some bs[here]:=aa hh;generalize bs[t]=y at hbt;generalize bs[here]=z at LS;refine⟨_,rfl,_,rfl,_,rfl,lb,_,rfl,.inl (aV.of hb),_,_,rfl,rfl,(by show(0:Int)< (((bs.map V.int).length:Nat):Int);rw[length_map];omega),lb,_,_,.int y,rfl,rfl,aV.of hb,?_,_,rfl,_,_,rfl,rfl,?_⟩
  ·show kc (bs.map V.int) (x % (((bs.map V.int).length:Nat):Int))=_;rw[length_map,ht];exact ck (by rw[ac,hbt];rfl)
  refine⟨fun σ G=>∃w t,σ=[some (.ref lb),some (.int (here:Int)),some (.int bh),some (.int x),some (.bl sh),some (.int (w-bh))]/\G=H/\bs[t]? =some w/\(sh=true->t=here\/bf (w-bh)=true),?_,?_⟩
  ·refine⟨_,rfl,_,rfl,?_⟩;cases sh with
   | false=>exact bu (by decide) (bu (by decide) ⟨y,t,rfl,rfl,hbt,fun c=>by cases c⟩)
   | true=>
    have hz:∃w t',V.int (z-bh)=V.int (w-bh)/\bs[t']? =some w/\((true:Bool)=true->t'=here\/bf (w-bh)=true):=⟨z,here,rfl,LS,fun _=>.inl rfl⟩;refine bY rfl ⟨_,rfl,_,rfl,_,_,rfl,rfl,_,rfl,?_⟩;by_cases c1:y-bh< -64
    ·refine bY (decide_eq_true c1) (bY rfl ⟨_,rfl,_,rfl,lb,_,here,.int z,rfl,rfl,aV.of hb,ck (by rw[ac,LS];rfl),_,rfl,_,_,rfl,rfl,?_⟩);exact⟨z,here,rfl,rfl,LS,fun _=>.inl rfl⟩
    refine bu (by rw[decide_eq_false c1];decide) ⟨_,rfl,_,_,rfl,rfl,_,rfl,?_⟩;by_cases c2:63<y-bh
    ·refine bY (decide_eq_true c2) ⟨_,rfl,_,rfl,lb,_,here,.int z,rfl,rfl,aV.of hb,ck (by rw[ac,LS];rfl),_,rfl,_,_,rfl,rfl,?_⟩;exact⟨z,here,rfl,rfl,LS,fun _=>.inl rfl⟩
    refine bu (by rw[decide_eq_false c2];decide) ?_;exact⟨y,t,rfl,rfl,hbt,fun _=>.inr (decide_eq_true (by omega))⟩
  rintro σ G ⟨w,t',rfl,rfl,h1,h2⟩;exact⟨_,rfl,k t' w h1 h2⟩
inductive Dr(n:Int)(dist:Int->Int):FR->List Int->Prop
 | sb {u:Str} (h:u∈zL1):Dr n dist ⟨u,[],[]⟩ [((bj.idxOf u:Nat):Int)*1024]
 | halt {m:Int} (h:0<=m/\m<=1000000):Dr n dist ⟨"halt",[m],[]⟩ [2048,m]
 | w5 {u:Str} {a b:Int} (h:u∈zL0) (ha:0<=a/\a<=7) (hb:rP u<=b/\b<=rQ u):Dr n dist ⟨u,[a,b],[]⟩ [((bj.idxOf u:Nat):Int)*1024+a*128,b]
 | w2 {u:Str} {a b:Int} (h:u∈w2) (ha:0<=a/\a<=7) (hb:0<=b/\b<=7):Dr n dist ⟨u,[a,b],[]⟩ [((bj.idxOf u:Nat):Int)*1024+a*128+b]
 | tell {a:Int} (ha:0<=a/\a<=7):Dr n dist ⟨"tell",[a],[]⟩ [10240+a*128]
 | table {a:Int} {ts:List Int} (ha:0<=a/\a<=7) (h1:1<=ts.length) (AQ:ts.length<=16) (ht:∀t∈ts,0<=t/\t<n):Dr n dist ⟨"table",[a],ts⟩ ((19456+a*128)::((ts.length:Nat):Int)::ts.map dist)
 | short {u:Str} {a t:Int} (h:u∈five) (ha:0<=a/\a<=7) (hn:u∈n6->a=0) (ht:0<=t/\t<n) (hb:bf (dist t)=true):Dr n dist (fz u a t 0) [((bj.idxOf u:Nat):Int)*1024+a*128+(dist t+64)]
 | long {u:Str} {a t:Int} (h:u∈five) (ha:0<=a/\a<=7) (hn:u∈n6->a=0) (ht:0<=t/\t<n):Dr n dist (fz u a t 1) [((bj.idxOf u:Nat):Int)*1024+6144+a*128,dist t]
theorem DK{u:Str}{b c:Int}(hu:gB 2 u):FR.Ok ⟨u,[b,c],[]⟩:=(EW (H:=fun _=>some (.tup [.str u,.int b,.int c])) (q:=0) hu rfl).1
theorem DL{u:Str}{b:Int}(hu:gB 1 u/\¬u∈w2):FR.Ok ⟨u,[b],[]⟩:=(EX (H:=fun _=>some (.tup [.str u,.int b])) (q:=0) hu rfl).1
theorem Oy{u:Str}(hu:gB 0 u/\¬u∈w2/\¬u∈w1):FR.Ok ⟨u,[],[]⟩:=(JZ (H:=fun _=>some (.tup [.str u])) (q:=0) hu rfl).1
theorem DM{b:Int}{ts:List Int}:FR.Ok ⟨"table",[b],ts⟩:=(l0 (H:=fun a=>if a=0 then some (.tup [.str "table",.int b,.ref 1])else some (.tup (ts.map V.int))) (q:=0) (p:=1) rfl rfl).1
theorem zG:∀u∈five,(u∈zb/\¬u∈gk/\¬u∈n6)\/(u∈gk/\¬u∈zb/\u∈n6):=by decide+kernel
theorem tZ{u:Str}{a t f n:Int}(h:u∈five)(ha:0<=a/\a<=7)(ht:0<=t/\t<n)(hf:f=0\/f=1):(fz u a t f).Ok/\GoodR (fz u a t f) n:=by
 unfold fz;rcases zG u h with ⟨z,nj,_⟩ | ⟨z,nz,_⟩
 ·rw[if_pos z];exact⟨(lZ (H:=fun _=>some (.tup [.str u,.int a,.int t,.int f])) (q:=0) z rfl).1,by show 1<=16;decide,fun x hx=>by rw[mem_singleton.mp hx];exact ht,fun _=>hf,EY.ofZ z (jl ha)⟩
 ·rw[if_neg nz];exact⟨(jD (H:=fun _=>some (.tup [.str u,.int t,.int f])) (q:=0) z rfl).1,by show 1<=16;decide,fun x hx=>by rw[mem_singleton.mp hx];exact ht,fun _=>hf,EY.ofJ z⟩
theorem gJ:∀u∈zL0,gB 2 u/\¬u∈five/\¬u ="table"/\((aZ u=(["box","value"]:List Str)/\rP u=-1000000000/\rQ u=1000000000)\/(aZ u=(["box","number"]:List Str)/\rP u=0/\rQ u=1000000)\/(aZ u=(["box","aside"]:List Str)/\rP u=0/\rQ u=1000000)):=by decide+kernel
theorem gK:∀u∈w2,gB 2 u/\¬u∈five/\¬u ="table"/\aZ u=zL6:=by decide+kernel
theorem gL:∀u∈zL1,(gB 0 u/\¬u∈w2/\¬u∈w1)/\¬u∈five/\¬u ="table":=by decide+kernel
theorem Dr.ok{n:Int}{dist:Int->Int}{d:FR}{us:List Int}(h:Dr n dist d us):d.Ok/\GoodR d n:=by
 cases h with
 | sb h=>
  have f:=gL _ h;exact⟨Oy f.1,GoodR.plain f.2.1 f.2.2 (bd0 _)⟩
 | halt h=>exact⟨DL (by decide),GoodR.plain (by decide) (by decide) (SJ (by decide+kernel:aZ "halt"=(["number"]:List Str)) (CC h))⟩
 | w5 h ha hb=>
  have f:=gJ _ h;refine⟨DK f.1,GoodR.plain f.2.1 f.2.2.1 ?_⟩;rcases f.2.2.2 with ⟨e,e1,e2⟩ | ⟨e,e1,e2⟩ | ⟨e,e1,e2⟩<;>rw[e1,e2]at hb
  ·exact Nm e (jl ha) (J0 hb)
  ·exact Nm e (jl ha) (CC hb)
  ·exact Nm e (jl ha) (J1 hb)
 | w2 h ha hb=>
  have f:=gK _ h;exact⟨DK f.1,GoodR.plain f.2.1 f.2.2.1 (Nm f.2.2.2 (jl ha) (jl hb))⟩
 | tell ha=>exact⟨DL (by decide),GoodR.plain (by decide) (by decide) (SJ (by decide+kernel:aZ "tell"=zL2) (jl ha))⟩
 | table ha h1 AQ ht=>exact⟨DM,AQ,ht,fun z=>absurd z (by show ¬("table": Str)∈five;decide),SJ (by decide+kernel:aZ "table"=(["box","targets"]:List Str)) (jl ha),fun _=>h1⟩
 | short h ha hn ht hb=>exact tZ h ha ht (.inl rfl)
 | long h ha hn ht=>exact tZ h ha ht (.inr rfl)
theorem zH{u:Str}{a t f n:Int}(h:u∈five)(ha:0<=a/\a<=7)(ht:0<=t/\t<n)(hf:f=0\/f=1)(hn:u∈n6->a=0):(jV (fz u a t f) ["box"]).headD 0=a/\(jV (fz u a t f) ["box"]).length≠2:=by
 have o:=(tZ h ha ht hf).1;rcases zG u h with ⟨z,nj,_⟩ | ⟨z,nz,n6⟩
 ·have e:=Kl o (by rw[fE];exact z);refine⟨e.1.trans ?_,e.2⟩;unfold fz;rw[if_pos z];rfl
 ·have e:=Fl o (by rw[fE];exact z);exact⟨by rw[hn n6];exact(by rw[hn n6]at e;exact e.1),e.2⟩
theorem Dr.units{ds:List FR}{r:Nat}{n:Int}{d:FR}{us:List Int}(h:Dr n (bE ds r) d us):dj ds r d=us:=by
 have hok:=h.ok;have pl:∀{d:FR} (bx nm:List Int),¬d.u∈five->d.u∈bj->¬d.u ="table"->jV d ["box"]=bx->jV d pG=nm->dj ds r d=(((bj.idxOf d.u:Nat):Int)*1024+bx.headD 0*128+(if bx.length=2 then bx[1]?.getD 0 else 0))::nm:=fun bx nm h5 hu ht hb hn=>by rw[gZ h5 hu,hb,hn,if_neg ht]
 cases h with
 | @sb u h=>
  have f:=gL _ h;refine(pl [] [] f.2.1 hok.1.1 f.2.2 (by rw[bt,HU _ h];rfl) (by rw[bt,Dd _ h];rfl)).trans ?_;show [((bj.idxOf u:Nat):Int)*1024+0*128+0]=_;congr 1
 | @halt m h=>
  refine(pl [] [m] (by show ¬("halt": Str)∈five;decide) hok.1.1 (by show ¬("halt": Str)="table";decide) (by rw[bt,za _ (show("halt": Str)∈_ by decide)];rfl) (by rw[bt,tL _ (show("halt": Str)∈_ by decide)];rfl)).trans ?_;show [((bj.idxOf ("halt": Str):Nat):Int)*1024+0*128+0,m]=_;rw[(by decide+kernel:bj.idxOf ("halt": Str)=2)];rfl
 | @w5 u a b h ha hb=>
  have f:=gJ _ h;refine(pl [a] [b] f.2.1 hok.1.1 f.2.2.1 (by rw[bt,HV _ h];rfl) (by rw[bt,De _ h];rfl)).trans ?_;show [((bj.idxOf u:Nat):Int)*1024+a*128+0,b]=_;rw[Int.add_zero]
 | @w2 u a b h ha hb=>
  have f:=gK _ h;exact pl [a,b] [] f.2.1 hok.1.1 f.2.2.1 (by rw[bt,HS _ h];rfl) (by rw[bt,Dc _ h];rfl)
 | @tell a ha=>
  refine(pl [a] [] (by show ¬("tell": Str)∈five;decide) hok.1.1 (by show ¬("tell": Str)="table";decide) (by rw[bt,zc _ (show("tell": Str)∈_ by decide)];rfl) (by rw[bt,tM _ (show("tell": Str)∈_ by decide)];rfl)).trans ?_;show [((bj.idxOf ("tell": Str):Nat):Int)*1024+a*128+0]=_;rw[(by decide+kernel:bj.idxOf ("tell": Str)=10),Int.add_zero];rfl
 | @table a ts ha h1 AQ ht=>
  rw[gZ (by show ¬("table": Str)∈five;decide) hok.1.1,if_pos (rfl:("table": Str)="table"),(show jV ⟨"table",[a],ts⟩ ["box"]=[a] by rw[bt,C9 _ (show("table": Str)∈_ by decide)];rfl)];show(((bj.idxOf ("table": Str):Nat):Int)*1024+a*128+0)::((ts.map (bE ds r)).length:Int)::ts.map (bE ds r)=_;rw[(by decide+kernel:bj.idxOf ("table": Str)=19),Int.add_zero,length_map];rfl
 | @short u a t h ha hn ht hb=>
  have e:=zH (f:=0) h ha ht (.inl rfl) hn;have:=(iO (ds:=ds) (r:=r) (by rw[fE];exact h) hok.1.1 (jE u a t 0) e.1 e.2).1 (ix _ _ _ _);rw[this,fE]
 | @long u a t h ha hn ht=>
  have e:=zH (f:=1) h ha ht (.inr rfl) hn;have:=(iO (ds:=ds) (r:=r) (by rw[fE];exact h) hok.1.1 (jE u a t 1) e.1 e.2).2 (ix _ _ _ _);rw[this,fE]
theorem Dr.bears{ds:List FR}{r:Nat}{n:Int}{d:FR}{us:List Int}(h:Dr n (bE ds r) d us)(hs:aX d=true):bf (dst ds r d)=true:=by
 unfold aX at hs;rw[Bool.and_eq_true]at hs;have h5:=of_decide_eq_true hs.1;have hf:=of_decide_eq_true hs.2;cases h with
 | sb h=>exact absurd h5 (gL _ h).2.1
 | halt h=>exact absurd h5 (by show ¬("halt": Str)∈five;decide)
 | w5 h ha hb=>exact absurd h5 (gJ _ h).2.1
 | w2 h ha hb=>exact absurd h5 (gK _ h).2.1
 | tell ha=>exact absurd h5 (by show ¬("tell": Str)∈five;decide)
 | table ha h1 AQ ht=>exact absurd h5 (by show ¬("table": Str)∈five;decide)
 | short h ha hn ht hb=>
  unfold dst;rw[jE];exact hb
 | long h ha hn ht=>
  rw[ix]at hf;cases hf
theorem Dr.len{n:Int}{dist:Int->Int}{d:FR}{us:List Int}(h:Dr n dist d us):((us.length:Nat):Int)=jB d:=by
 have Ti:∀u∈zL0,u∈six:=by decide+kernel
 have hn:(∀u∈My.w2,¬u∈six)/\∀u∈zL1,¬u∈six:=by decide+kernel
 unfold jB;cases h with
 | sb h=>rw[if_neg (gL _ h).2.2,if_neg (gL _ h).2.1,if_neg (hn.2 _ h)];rfl
 | halt h=>rw[if_neg (show ¬("halt": Str)="table" by decide),if_neg (show ¬("halt": Str)∈five by decide),if_pos (show("halt": Str)∈six by decide)];rfl
 | w5 h ha hb=>rw[if_neg (gJ _ h).2.2.1,if_neg (gJ _ h).2.1,if_pos (Ti _ h)];rfl
 | w2 h ha hb=>rw[if_neg (gK _ h).2.2.1,if_neg (gK _ h).2.1,if_neg (hn.1 _ h)];rfl
 | tell ha=>rw[if_neg (show ¬("tell": Str)="table" by decide),if_neg (show ¬("tell": Str)∈five by decide),if_neg (show ¬("tell": Str)∈six by decide)];rfl
 | table ha h1 AQ ht=>
  rw[if_pos rfl,length_cons,length_cons,length_map]
  push_cast
  omega
 | short h ha hn ht hb=>rw[fE,if_neg (fun z=>absurd h (by rw[z];decide)),if_pos h,ix];rfl
 | long h ha hn ht=>rw[fE,if_neg (fun z=>absurd h (by rw[z];decide)),if_pos h,ix];rfl
theorem Dr.congr{n:Int}{f g:Int->Int}{d:FR}{us:List Int}(h:Dr n f d us)(e:∀t,0<=t->t<n->f t=g t):Dr n g d us:=by
 cases h with
 | sb h=>exact .sb h
 | halt h=>exact .halt h
 | w5 h ha hb=>exact .w5 h ha hb
 | w2 h ha hb=>exact .w2 h ha hb
 | tell ha=>exact .tell ha
 | table ha h1 AQ ht=>
  rw[map_congr_left fun t z=>e t (ht t z).1 (ht t z).2];exact .table ha h1 AQ ht
 | short h ha hn ht hb=>
  have e:=e _ ht.1 ht.2;rw[e]at hb ⊢;exact .short h ha hn ht hb
 | long h ha hn ht=>
  rw[e _ ht.1 ht.2];exact .long h ha hn ht
def dF(c:Int):Str:=((heads[c.toNat]?).map (·.1)).getD ""
inductive DN(n:Int)(f:Nat->Int->Int)(sz cd:Nat->Int):Nat->List FR->List Int->Prop
 | nil:DN n f sz cd 0 [] []
 | snoc {i:Nat} {ds:List FR} {us:List Int} {d:FR} {u:List Int} (h:DN n f sz cd i ds us) (hd:Dr n (f i) d u) (hl:((u.length:Nat):Int)=sz i) (hu:d.u=dF (cd i)):DN n f sz cd (i+1) (ds++ [d]) (us++u)
variable {n:Int}{f:Nat->Int->Int}{sz cd:Nat->Int}{i:Nat}{ds:List FR}{us:List Int}
theorem DN.len(h:DN n f sz cd i ds us):ds.length=i:=by
 induction h with
 | nil=>rfl
 | snoc h hd hl hu ih=>rw[length_append,ih];rfl
theorem zI{ds:List FR}{d:FR}{j:Nat}(h:j<=ds.length):beg (ds++ [d]) j=beg ds j:=by unfold beg;rw[List.take_append_of_le_length h]
theorem DN.beg(h:DN n f sz cd i ds us):∀bo:Nat->Int,bo 0=0->(∀j,bo (j+1)=bo j+sz j)->∀j,j<=i->My.beg ds j=bo j:=by
 intro bo b0 bs
 induction h with
 | nil=>
  intro j hj;rw[show j=0 by omega,b0];rfl
 | @snoc i ds us d u h hd hl hu ih=>
  intro j hj;have e:=h.len;by_cases c:j<=i
  ·rw[zI (by omega),ih j c]
  ·have ej:j=i+1:=by omega
   subst ej;rw[dB (d:=d) (by rw[<-e,ar (le_refl _),sub_self];rfl),zI (by omega),ih i (le_refl _),bs,<-hl,hd.len]
theorem DN.all(h:DN n f sz cd i ds us):∀D:List FR,(∀(j:Nat) d,ds[j]? =some d->D[j]? =some d)->(∀(j:Nat) t,j<i->0<=t->t<n->f j t=bE D j t)->bw D i=us/\∀(j:Nat) d,ds[j]? =some d->d.Ok/\GoodR d n/\(aX d=true->bf (dst D j d)=true)/\d.u=dF (cd j)/\Dr n (bE D j) d (dj D j d):=by
 induction h with
 | nil=>exact fun D _ _=>⟨rfl,fun j d e=>by simp at e⟩
 | @snoc i ds us d u h hd hl hu ih=>
  intro D hD hf;have e:=h.len;have hdi:(ds++ [d])[i]? =some d:=by rw[<-e,ar (le_refl _),sub_self];rfl
  obtain⟨i1,i2⟩:=ih D (fun j x hx=>hD j x (by rw[ap (ad.mp hx).1];exact hx)) (fun j t a b c=>hf j t (by omega) b c);have hd':=hd.congr (fun q=>hf i q (lt_succ_self i));refine⟨?_,fun j x hx=>?_⟩
  ·rw[fh (hD i d hdi),i1,hd'.units]
  ·by_cases c:j<ds.length
   ·rw[ap c]at hx;exact i2 j x hx
   ·have hj:=(ad.mp hx).1;rw[length_append,length_singleton]at hj;have ej:j=i:=by omega
    subst ej;rw[hdi]at hx;cases hx;exact⟨hd'.ok.1,hd'.ok.2,hd'.bears,hu,hd'.units▸hd'⟩
end
theorem mr{c m:Int}:0<=jN c m/\jN c m<=7/\(c∈Iq->jN c m=0):=by
 unfold jN;by_cases h:c∈Iq
 ·rw[decide_eq_true h];exact⟨by show 0<=m % 8*0;omega,by show m % 8*0<=7;omega,fun _=>by show m % 8*0=0;omega⟩
 ·rw[decide_eq_false h];exact⟨by show 0<=m % 8*1;omega,by show m % 8*1<=7;omega,fun z=>absurd z h⟩
theorem lA{c x:Int}(h:c∈qF):gG c x=2:=by unfold gG;rw[if_neg (by rintro rfl;revert h;decide),if_pos (decide_eq_true h)];rfl
theorem jr{c x:Int}(h:¬c∈qF)(h2:¬c=19):gG c x=1:=by unfold gG;rw[if_neg h2,decide_eq_false h];rfl
def zJ:List Int:=[14,15,16,17,18]
def LU:List Int:=[20,21,22,23,24]
theorem t8:∀c∈zJ,dF c∈five/\((bj.idxOf (dF c):Nat):Int)=c/\(dF c∈n6->c∈Iq)/\¬c∈DI/\¬c∈qF/\¬c=19:=by decide+kernel
theorem KP:∀c∈LU,dF c∈five/\((bj.idxOf (dF c):Nat):Int)+6=c/\(dF c∈n6->c∈Iq)/\¬c∈DI/\c∈qF:=by decide+kernel
theorem Oz:∀c∈([3,4]:List Int),dF c∈zL0/\((bj.idxOf (dF c):Nat):Int)=c/\rP (dF c)=-1000000000/\rQ (dF c)=1000000000/\¬c∈DI/\c∈qF:=by decide+kernel
theorem OB:∀c∈([11,12,13]:List Int),dF c∈zL0/\((bj.idxOf (dF c):Nat):Int)=c/\rP (dF c)=0/\rQ (dF c)=1000000/\¬c∈DI/\c∈qF:=by decide+kernel
theorem Tj:∀c∈DI,dF c∈w2/\((bj.idxOf (dF c):Nat):Int)=c/\¬c∈qF/\¬c=19:=by decide+kernel
theorem Tn:∀c∈([0,1]:List Int),dF c∈zL1/\((bj.idxOf (dF c):Nat):Int)=c/\¬c∈qF/\¬c=19/\¬c∈DI/\c∈Iq:=by decide+kernel
def t9(n:Int)(f:Int->Int)(c x:Int)(us:List Int):Prop:=∃d,Dr n f d us/\((us.length:Nat):Int)=gG c x/\d.u=dF c
theorem t9.mk{n c x:Int}{f:Int->Int}{d:FR}{us us':List Int}(h:Dr n f d us)(e:us'=us)(l:((us.length:Nat):Int)=gG c x)(hu:d.u=dF c):t9 n f c x us':=⟨d,e▸h,by rw[e];exact l,hu⟩
section
variable {n c x m3 m2 m4:Int}{f:Int->Int}
theorem ua{a b:Int}(h:a=b):[a]=[b]:=by rw[h]
theorem qa{a b c:Int}{l:List Int}(h:a=b):a::c::l=b::c::l:=by rw[h]
theorem A8(h:c∈zJ){t:Int}(ht:0<=t/\t<n)(hb:bf (f t)=true):t9 n f c x [c*1024+jN c m3*128+gH c m2+f t+64]:=by obtain⟨h1,h2,h3,h4,h5,h6⟩:=t8 c h;have b:=mr (c:=c) (m:=m3);have hl:gH c m2=0:=if_neg h4;exact .mk (Dr.short (n:=n) (dist:=f) h1 ⟨b.1,b.2.1⟩ (fun z=>b.2.2 (h3 z)) ht hb) (ua (by omega)) (jr h5 h6).symm (fE _ _ _ _)
theorem DO(h:c∈LU){t:Int}(ht:0<=t/\t<n):t9 n f c x [c*1024+jN c m3*128+gH c m2,f t]:=by obtain⟨h1,h2,h3,h4,h5⟩:=KP c h;have b:=mr (c:=c) (m:=m3);have hl:gH c m2=0:=if_neg h4;exact .mk (Dr.long (n:=n) (dist:=f) h1 ⟨b.1,b.2.1⟩ (fun z=>b.2.2 (h3 z)) ht) (qa (by omega)) (lA h5).symm (fE _ _ _ _)
theorem FW{ts:List Int}(ht:∀t∈ts,0<=t/\t<n)(hl:((ts.length:Nat):Int)=1+x % 5):t9 n f 19 x ([19*1024+jN 19 m3*128+gH 19 m2,1+x % 5]++ts.map f):=by
 have b:=mr (c:=19) (m:=m3);have hlo:gH 19 m2=0:=rfl;refine .mk (Dr.table (n:=n) (dist:=f) ⟨b.1,b.2.1⟩ (show 1<=ts.length by omega) (by omega) ht) ?_ ?_ (by show("table": Str)=_;decide+kernel)
 ·rw[hl];exact qa (by omega)
 ·unfold gG;rw[if_pos rfl,length_cons,length_cons,length_map]
  push_cast
  omega
theorem FX(h:c∈([3,4]:List Int)):t9 n f c x [c*1024+jN c m3*128+gH c m2,m4 % 2000000001-1000000000]:=by obtain⟨h1,h2,h3,h4,h5,h6⟩:=Oz c h;have b:=mr (c:=c) (m:=m3);have hl:gH c m2=0:=if_neg h5;exact .mk (Dr.w5 (n:=n) (dist:=f) (b:=m4 % 2000000001-1000000000) h1 ⟨b.1,b.2.1⟩ (by rw[h3,h4];omega)) (qa (by omega)) (lA h6).symm rfl
theorem FY(h:c∈([2,11,12,13]:List Int)):t9 n f c x [c*1024+jN c m3*128+gH c m2,m4 % 1000001]:=by
 have b:=mr (c:=c) (m:=m3);rcases mem_cons.mp h with rfl | h
 ·have hl:gH 2 m2=0:=rfl;have hb:=b.2.2 (by decide);exact .mk (Dr.halt (n:=n) (dist:=f) (m:=m4 % 1000001) (by omega)) (qa (by omega)) (lA (by decide)).symm (by show("halt": Str)=_;decide+kernel)
 ·obtain⟨h1,h2,h3,h4,h5,h6⟩:=OB c h;have hl:gH c m2=0:=if_neg h5;exact .mk (Dr.w5 (n:=n) (dist:=f) (b:=m4 % 1000001) h1 ⟨b.1,b.2.1⟩ (by rw[h3,h4];omega)) (qa (by omega)) (lA h6).symm rfl
theorem DP(h:c∈([0,1,5,6,7,8,9,10]:List Int)):t9 n f c x [c*1024+jN c m3*128+gH c m2]:=by
 have b:=mr (c:=c) (m:=m3);rcases(by decide:∀c∈([0,1,5,6,7,8,9,10]:List Int),c∈([0,1]:List Int)\/c∈DI\/c=10) c h with h | h | rfl
 ·obtain⟨h1,h2,h3,h4,h5,h6⟩:=Tn c h;have hl:gH c m2=0:=if_neg h5;have hb:=b.2.2 h6;exact .mk (Dr.sb (n:=n) (dist:=f) h1) (ua (by omega)) (jr h3 h4).symm rfl
 ·obtain⟨h1,h2,h3,h4⟩:=Tj c h;have hl:gH c m2=m2 % 8:=if_pos h;exact .mk (Dr.w2 (n:=n) (dist:=f) (b:=m2 % 8) h1 ⟨b.1,b.2.1⟩ (by omega)) (ua (by omega)) (jr h3 h4).symm rfl
 ·have hl:gH 10 m2=0:=rfl;exact .mk (Dr.tell (n:=n) (dist:=f) ⟨b.1,b.2.1⟩) (ua (by omega)) (jr (by decide) (by decide)).symm (by show("tell": Str)=_;decide+kernel)
theorem FZ(b:Bool)(m:Int):0<=jq b m/\jq b m<25:=by
 unfold jq;split
 ·split<;>omega
 ·omega
theorem vR{c:Int}(h:0<=c/\c<25):c∈zJ\/c∈LU\/c=19\/c∈([3,4]:List Int)\/c∈([2,11,12,13]:List Int)\/c∈([0,1,5,6,7,8,9,10]:List Int):=by
 obtain⟨k,rfl⟩:=Int.eq_ofNat_of_zero_le h.1;have key:∀k∈List.range 25,(k:Int)∈zJ\/(k:Int)∈LU\/(k:Int)=19\/(k:Int)∈([3,4]:List Int)\/(k:Int)∈([2,11,12,13]:List Int)\/(k:Int)∈([0,1,5,6,7,8,9,10]:List Int):=by decide
 exact key k (mem_range.mpr (by omega))
theorem Gc(m:Int):dF (jq true m)∈iT:=by unfold jq;rw[if_pos rfl];rcases(show m % 4=0\/m % 4=1\/m % 4=2\/m % 4=3 by omega)with z | z | z | z<;>rw[z]<;>decide+kernel
theorem ow{X:Cx}{tg iter:Expr}{body:List Stmt}{wi:TI}{g:TG}{tb:TS}{pos:Pos}(hp:PassesOwn (model X.prog X.w) X.A X.env X.xe)(hc:X.calm=true)(hi:PI X tg iter wi)(hg:PG X tg g)(hb:qu X body tb)
  (hs:∀x,foldedSetIterable iter X.env x=pure x:=by intro _;rfl):JG X (.For tg iter body [] pos) (Mp wi g tb):=⟨eE hp hc hi hg hb.ps hs⟩
theorem A9(xs:List V)(x:V):dJ (xs++ [x]) none (some (-1))=xs:=by
 unfold dJ;have h2:HT.du (xs++ [x]).length (xs++ [x]).length (some (-1))=xs.length:=by
  simp[HT.du]
  try omega
 rw[h2,HT.oI];simp
theorem Tp{ms:List Int}(h:ms.length=9):ms=[ms.getD 0 0,ms.getD 1 0,ms.getD 2 0,ms.getD 3 0,ms.getD 4 0,ms.getD 5 0,ms.getD 6 0,ms.getD 7 0,ms.getD 8 0]:=by
 match ms,h with
 | [a,b,c,d,e,f,g,h,i],_=>rfl
def ke(sz:Nat->Int):Nat->Int
 | 0=>0
 | j+1=>ke sz j+sz j
theorem lC{f:Nat->Int}{n i:Nat}(h:i<n):(((List.range n).map f).map V.int)[i]? =some (.int (f i)):=by rw[ac,ac,List.getElem?_range h];rfl
def Gd(G:Hp)(ls:Addr)(qs:List Addr)(mf:Nat->Nat->Int):Prop:=G ls=some (.lst (qs.map V.ref))/\∀(j:Nat) q,qs[j]? =some q->G q=some (.lst (([mf j 0,mf j 1,mf j 2,mf j 3,mf j 4,mf j 5,mf j 6,mf j 7,mf j 8]:List Int).map V.int))
theorem Gd.same{G G':Hp}{ls:Addr}{qs:List Addr}{mf:Nat->Nat->Int}(h:Gd G ls qs mf)(s:Same G G'):Gd G' ls qs mf:=⟨s _ _ h.1,fun j q e=>s _ _ (h.2 j q e)⟩
variable {P:Program}{w:World}{K:Frag}{mg:Str->Option Value}{base:Heap}
def Iy:Sp:=fun vs H Q _=>∃(a:Addr) (ns:List Int),vs=[.ref a]/\aV K H a (ns.map V.int)/\∀(t lu lb:Addr) (ds:List FR) (H':Hp),Same H H'->H' t=some (.tup [.ref lu,.ref lb])->H' lu=some (.lst ((bw ds ds.length).map V.int))->H' lb=some (.lst ((eB ds ds.length).map V.int))->1<=ds.length->ds.length<=100->(bw ds ds.length).length<=2000->dn ds->(∀(r:Nat) d,ds[r]? =some d->Dr ds.length (bE ds r) d (dj ds r d))->Q (.ref t) H'
theorem h7:aE ["_law_script","_law_streams","_law_begins","_law_codes","_law_k","_law_xs","_law_units","_law_head_here","_law_places"] ["_law_script"] (ak dy):=by walk_at "sc1"
def Ge:Scope:={kind:=.function,names:=[(".0",.local),("_law_j",.local),("_law_led",.globalImplicit),("_law_begins",.free),("_law_k",.free),("_law_places",.free),("_law_xs",.free)],isGenerator:=false,isCoroutine:=false,more:=[]}
theorem zK:cS (ak dy) Ge ["_law_script","_law_streams","_law_begins","_law_codes","_law_k","_law_xs","_law_units","_law_head_here","_law_places"] ["_law_j","_law_places","_law_k","_law_begins","_law_xs"] [none,some 8,some 4,some 2,some 5]:=by walk_at "sc2"
def Gf:Scope:={kind:=.function,names:=[(".0",.local),("_law_cell",.local),("_law_stream",.globalImplicit)],isGenerator:=false,isCoroutine:=false,more:=[]}
theorem zL:cS (ak dy) Gf ["_law_script","_law_streams","_law_begins","_law_codes","_law_k","_law_xs","_law_units","_law_head_here","_law_places"] ["_law_cell"] [none]:=by walk_at "sc2"
theorem mw{f fS fC fD fM fH fL:Addr}{fd mZ NK yO OD jj HP:ed}(F:cr K "_law_unit_list" "_law_unit_list" dy f fd)(T:Txt K w.params mg)(GS:aD P w K mg base cm 1 fS mZ ["_law_cell","_law_many_here"] vw)(kS:KI K fS)(bS:Binds K mZ ["_law_cell","_law_many_here"] [])(mS:mg "_law_stream"=some (.ref fS))(GC:aD P w K mg base cm 1 fC NK ["_law_script","_law_k"] (Cz (K:=K)))(kC:KI K fC)(bC:Binds K NK ["_law_script","_law_k"] [])(mC:mg "_law_cell_at"=some (.ref fC))(GD:aD P w K mg base cm 1 fD yO ["_law_xs","_law_last"] Iv)(kD:KI K fD)(bD:Binds K yO ["_law_xs","_law_last"] [])(mD:mg "_law_code"=some (.ref fD))(GM:aD P w K mg base cm 1 fM OD ["_law_code_here","_law_x"] Ir)(kM:KI K fM)(bM:Binds K OD ["_law_code_here","_law_x"] [])(mM:mg "_law_many"=some (.ref fM))(GH:aD P w K mg base cm 1 fH jj ["_law_code_here","_law_xs"] Iu)(kH:KI K fH)(bH:Binds K jj ["_law_code_here","_law_xs"] [])(mH:mg "_law_head"=some (.ref fH))(GL:aD P w K mg base cm 1 fL HP ["_law_begins","_law_here","_law_behind","_law_x","_law_short"] Iw)(kL:KI K fL)(bL:Binds K HP ["_law_begins","_law_here","_law_behind","_law_x","_law_short"] [])(mL:mg "_law_led"=some (.ref fL)):aD P w K mg base cm 2 f fd ["_law_script"] (Iy (K:=K)):=by
 refine F.ok h7 (by walk_at "ln") (fun cdv A outer s H vs Q E hr h=>?_)
 ·obtain⟨a,ns,rfl,hS,k⟩:=h
  refine cU (au (ay (aI (i:=1) h7.nd rfl (Or.inl rfl) (aA iI (dQ (N':=["_law_cell"]) (fr:=[none]) zL rfl (eP (cL eT (pv 0) (cK ah) (cK ah))) (fun C s0 H0 fp=>(cq (i:=0) zL.nd rfl (Or.inl rfl))) (fun C s0 H0 fp=>dr) (fun C s0 H0 fp=>(ao GS (hr.mono (by decide)) (by rfl) mS kS bS .nil aS (ae (pv 0) (ae ah af))))) (cD (ae (ao GS (hr.mono (by decide)) (by rfl) mS kS bS .nil aS (ae (ao GC (hr.mono (by decide)) (by rfl) mC kC bC .nil aS (ae (pv 0) (ae ah af))) (ae ah af))) af)))))
   (au (ay (aI (i:=2) h7.nd rfl (Or.inr rfl) (cD (ae ah af))))
   (au (ay (aI (i:=3) h7.nd rfl (Or.inl rfl) (cD af)))
   (au (ow PassesOwn.never rfl (fX rfl T.enum (ae (pv 1) af)) (gA (K:=K) (i:=4) (j:=5) rfl rfl h7.nd rfl (Or.inr rfl) rfl (Or.inr rfl)) (au (ay (cC (dg fv fw gf bV (pv 3) (ae (ao GD (hr.mono (by decide)) (by rfl) mD kD bD .nil aS (ae (pv 5) (ae (cO cT (pv 4) (aA dY (aN aM (by rfl) T.len cE (ae (pv 1) af)) ah) (aQ _)) af))) af))))
   (aw (ay (cC (dg fv fw gf bV (pv 2) (ae (aA bg (aF aK (pv 2) (eY dG ah) (fun _ _=>rfl)) (ao GM (hr.mono (by decide)) (by rfl) mM kM bM .nil aS (ae (aF aK (pv 3) (eY dG ah) (fun _ _=>rfl)) (ae (aF aK (pv 5) ah (fun _ _=>rfl)) af)))) af)))))))
   (au (ay (aI (i:=6) h7.nd rfl (Or.inl rfl) (cD af)))
   (au (ow PassesOwn.never rfl (fX rfl T.enum (ae (pv 1) af)) (gA (K:=K) (i:=4) (j:=5) rfl rfl h7.nd rfl (Or.inr rfl) rfl (Or.inr rfl)) (au (ay (aI (i:=7) h7.nd rfl (Or.inl rfl) (ao GH (hr.mono (by decide)) (by rfl) mH kH bH .nil aS (ae (aF aK (pv 3) (pv 4) (fun _ _=>rfl)) (ae (pv 5) af)))))
   (au (ay (aI (i:=8) h7.nd rfl (Or.inr rfl) (cL eT (pv 2) dI (cK (eY dG ah)))))
   (aw (cv (aJ cy (aF aK (pv 3) (pv 4) (fun _ _=>rfl)) (gX (.cons ah (.cons ah (.cons ah (.cons ah (.cons ah .nil)))))) rfl) (aw (ay (cC (dg fv fw gf bV (pv 6) (ae (aA bg (aA bg (pv 7) (ao GL (hr.mono (by decide)) (by rfl) mL kL bL .nil aS (ae (pv 8) (ae (pv 4) (ae (aF aK (pv 2) (aA bg (pv 4) ah) (fun _ _=>rfl)) (ae (aF aK (pv 5) ah (fun _ _=>rfl)) (ae jO af))))))) ah) af))))) (aw (cv (aJ jQ (aF aK (pv 3) (pv 4) (fun _ _=>rfl)) ah (aQ _)) (aw (ay (aI (i:=6) h7.nd rfl (Or.inl rfl) (aA iI (pv 6) (cD (ae (pv 7) (ae (ao GL (hr.mono (by decide)) (by rfl) mL kL bL .nil aS (ae (pv 8) (ae (pv 4) (ae (aF aK (pv 2) (aA bg (pv 4) ah) (fun _ _=>rfl)) (ae (aF aK (pv 5) ah (fun _ _=>rfl)) (ae jO af)))))) af))))))) (aw (cv (aJ cT (aF aK (pv 3) (pv 4) (fun _ _=>rfl)) ah (aQ _)) (au (ay (aI (i:=6) h7.nd rfl (Or.inl rfl) (aA iI (pv 6) (cD (ae (pv 7) (ae (aA bg ah (aA dE (aF aK (pv 5) ah (fun _ _=>rfl)) ah)) af))))))
   (aw (ay (aI (i:=6) h7.nd rfl (Or.inl rfl) (aA iI (pv 6) (dQ (N':=["_law_j","_law_places","_law_k","_law_begins","_law_xs"]) (fr:=[none,some 8,some 4,some 2,some 5]) zK rfl (ip rfl T.range (ae (aA bg ah (aA dE (aF aK (pv 5) ah (fun _ _=>rfl)) ah)) af)) (fun C s0 H0 fp=>(cq (i:=0) zK.nd rfl (Or.inl rfl))) (fun C s0 H0 fp=>dr) (fun C s0 H0 fp=>(ao GL (hr.mono (by decide)) (by rfl) mL kL bL .nil aS (ae (pv 1) (ae (pv 2) (ae (aF (r:=uU K) aK (pv 3) (aA bg (pv 2) ah) (fun _ _=>rfl)) (ae (aF (r:=uU K) aK (pv 4) (aA bg ah (pv 0)) (fun _ _=>rfl)) (ae jO af))))))))))))) (aw (cv (aJ cy (aF aK (pv 3) (pv 4) (fun _ _=>rfl)) (cG (ae ah (ae ah af))) rfl) (aw (ay (aI (i:=6) h7.nd rfl (Or.inl rfl) (aA iI (pv 6) (cD (ae (pv 7) (ae (aA dY (aA dE (aF aK (pv 5) ah (fun _ _=>rfl)) (aA bg (aA ic ah (aA sr ah ah)) ah)) (aA sr ah ah)) af))))))) (aw (cv (aJ cy (aF aK (pv 3) (pv 4) (fun _ _=>rfl)) (gX (.cons ah (.cons ah (.cons ah (.cons ah .nil))))) rfl) (aw (ay (aI (i:=6) h7.nd rfl (Or.inl rfl) (aA iI (pv 6) (cD (ae (pv 7) (ae (aA dE (aF aK (pv 5) ah (fun _ _=>rfl)) ah) af))))))) (aw (ay (cC (dg fv fw gf bV (pv 6) (ae (pv 7) af))))))))))))))))))
   (aw (ay (aC (cG (ae (pv 6) (ae (pv 2) af)))))))))))) ?_
  refine⟨_,rfl,1,rfl,31,rfl,a,_,rfl,hS,fun l1 n1=>?_⟩;obtain⟨cs,ec⟩:∃cs:List Int,dJ (ns.map V.int) (some 1) (some 31)=cs.map V.int:=by unfold dJ;exact⟨_,by rw[<-map_drop,<-map_take]⟩
  have hcl:cs.length<=30:=by have e:=congrArg length ec;unfold dJ at e;rw[length_take,length_drop,length_map,length_map,show HT.du ns.length ns.length (some 31)=min 31 ns.length from HT.eR _ _ 31,show HT.du ns.length 0 (some 1)=min 1 ns.length from HT.eR _ _ 1]at e;omega
  rw[ec];refine dO n1 fun G1 s1 g1=>⟨l1,rfl,⟨_,aV.of g1⟩,fun D nD=>eG (K:=K) (a:=l1) (xs:=cs.map V.int) (fun i σ ys G=>∃(v:Option V) (qs:List Addr) (rX:List (List Int)),σ=[v]/\ys=qs.map V.ref/\qs.length=i/\rX.length=i/\(∀(j:Nat) q ms,qs[j]? =some q->rX[j]? =some ms->q≠D/\ms.length=9/\G q=some (.lst (ms.map V.int)))/\Same G1 G/\G D=some (.lst ys)) ?_ ?_ ?_ ?_⟩
  ·exact⟨none,[],[],rfl,rfl,rfl,rfl,(fun j q ms e=>by simp at e),aj nD,ai⟩
  ·rintro i σ ys G _ ⟨v,qs,rX,rfl,rfl,_,_,_,s2,_⟩;exact aV.of (s2 _ _ g1)
  ·rintro i x σ ys G hx ⟨v,qs,rX,rfl,rfl,hql,hml,hq,s2,hD⟩;have hil:=(ad.mp hx).1;rw[length_map]at hil;rw[ac]at hx;obtain⟨c,_,rfl⟩:=map_eq_some_iff.mp hx;refine⟨_,rfl,c,9,rfl,by omega,fun lx ms G3 s3 Tq hlx hm9 _=>?_⟩;have Bj:=s3 _ _ hD;have ne:lx≠D:=fun z=>by rw[z,hD]at Tq;cases Tq
   refine⟨Bj,aT (by rw[length_map];omega),_,qs++ [lx],rX++ [ms],rfl,by rw[map_append];rfl,by rw[length_append,hql];rfl,by rw[length_append,hml];rfl,fun j q m' h1 h2=>?_,aL (s2.trans s3) nD,ai⟩;by_cases cj:j<qs.length
   ·rw[ap cj]at h1;rw[ap (by omega)]at h2;obtain⟨z1,z2,z3⟩:=hq j q m' h1 h2;exact⟨z1,z2,(aG z1).trans (s3 _ _ z3)⟩
   ·have hj:=(ad.mp h1).1;rw[length_append,length_singleton]at hj;have ej:j=qs.length:=by omega
    rw[ej,ar (le_refl _),sub_self]at h1;rw[ej,hql,<-hml,ar (le_refl _),sub_self]at h2;cases h1;cases h2;exact⟨ne,hm9,(aG ne).trans hlx⟩
  rintro σ ys G ⟨v,qs,rX,rfl,rfl,hql,hml,hq,s2,hD⟩;rw[length_map]at hql hml;have s12:=s1.trans s2;refine⟨_,rfl,a,ns,0,rfl,s12.seq hS,by decide,fun c0=>⟨c0,9,rfl,by omega,fun lx ms G3 s3 Tq hlx hm9 _=>⟨zle,fun l2 n2=>dO n2 fun G4 s4 g4=>?_⟩⟩⟩;have Rj:=s3.trans s4;refine⟨D,l2,_,_,rfl,rfl,Rj _ _ hD,g4,bX (by rw[length_map];show _+1<=1000000;omega),fun ls nls=>dO nls fun H1 s5 g5=>?_⟩;obtain⟨n,hn⟩:∃n,n=qs.length+1:=⟨_,rfl⟩;obtain⟨mf,Rf⟩:∃mf:Nat->Nat->Int,mf=fun j k=>((rX++ [ms]).getD j []).getD k 0:=⟨_,rfl⟩;have hst:Gd H1 ls (qs++ [lx]) mf:=by
   refine⟨by rw[g5,map_append];rfl,fun j q hj=>?_⟩;have key:∀m':List Int,(rX++ [ms])[j]? =some m'->m'.length=9->H1 q=some (.lst (m'.map V.int))->H1 q=some (.lst (([mf j 0,mf j 1,mf j 2,mf j 3,mf j 4,mf j 5,mf j 6,mf j 7,mf j 8]:List Int).map V.int)):=fun m' e h9 hh=>by rw[hh,Tp h9,Rf];show _=some (HO.lst (List.map V.int [((rX++ [ms]).getD j []).getD 0 0,((rX++ [ms]).getD j []).getD 1 0,((rX++ [ms]).getD j []).getD 2 0,((rX++ [ms]).getD j []).getD 3 0,((rX++ [ms]).getD j []).getD 4 0,((rX++ [ms]).getD j []).getD 5 0,((rX++ [ms]).getD j []).getD 6 0,((rX++ [ms]).getD j []).getD 7 0,((rX++ [ms]).getD j []).getD 8 0]));rw[show(rX++ [ms]).getD j []=m' by rw[List.getD_eq_getElem?_getD,e];rfl]
   by_cases cj:j<qs.length
   ·rw[ap cj]at hj;have e:rX[j]? =some (rX[j]'(by omega)):=aa _;obtain⟨_,z2,z3⟩:=hq j q _ hj e;exact key _ (by rw[ap (by omega)];exact e) z2 ((Rj.trans s5) _ _ z3)
   ·have hjl:=(ad.mp hj).1;rw[length_append,length_singleton]at hjl;have ej:j=qs.length:=by omega
    rw[ej,ar (le_refl _),sub_self]at hj;cases hj;exact key ms (by rw[ej,hql,<-hml,ar (le_refl _),sub_self];rfl) hm9 ((s4.trans s5) _ _ hlx)
  have hqn:(qs++ [lx]).length=n:=by rw[length_append,hn];rfl
  have S1:=s12.trans (Rj.trans s5);generalize qs++ [lx]=qs at hst hqn;have hn31:n<=31:=by omega
  have hn1:1<=n:=by omega
  clear Rf g5 g4 hq hD Rj s3 s4 s5 hlx hm9 hn s12 s2 g1 hcl ec;have hqr:(qs.map V.ref).length=n:=by rw[length_map,hqn]
  obtain⟨cd,hcd⟩:∃cd:Nat->Int,cd=fun j=>jq (decide (j+1=n)) (mf j 0):=⟨_,rfl⟩;obtain⟨sz,hsz⟩:∃sz:Nat->Int,sz=fun j=>gG (cd j) (mf j 1):=⟨_,rfl⟩;refine⟨zle,fun lb nb=>dO nb fun H2 s2 g2=>⟨zle,fun lc nc=>dO nc fun H3 s3 g3=>?_⟩⟩;have Yb:lb≠lc:=fun z=>by rw[<-z,g2]at nc;cases nc
  have nc1:H1 lc=none:=s2.free nc;have DQ:=s2.trans s3;have hsi:∀i,i<n->∃q,qs[i]? =some q/\∀G,Same H1 G->G q=some (.lst (([mf i 0,mf i 1,mf i 2,mf i 3,mf i 4,mf i 5,mf i 6,mf i 7,mf i 8]:List Int).map V.int)):=fun i hi=>by have e:qs[i]? =some (qs[i]'(by omega)):=aa _;exact⟨_,e,fun G s=>s _ _ (hst.2 i _ e)⟩
  refine⟨_,rfl,ls,rfl,⟨_,aV.of (DQ _ _ hst.1)⟩,?_⟩;refine eZ (K:=K) (xs:=qs.map V.ref) (fun i σ G=>∃v4 v5:Option V,σ=[some (.ref a),some (.ref ls),some (.ref lb),some (.ref lc),v4,v5,none,none,none]/\Same H1 G/\G lb=some (.lst (((List.range (i+1)).map (ke sz)).map V.int))/\G lc=some (.lst (((List.range i).map cd).map V.int))) ?_ ?_ ?_ ?_
  ·exact⟨none,none,rfl,DQ,s3 _ _ g2,g3⟩
  ·rintro i σ G _ ⟨v4,v5,rfl,s4,_⟩;exact aV.of (s4 _ _ hst.1)
  ·rintro i y σ G tt hy og ⟨v4,v5,rfl,s4,hb,hc⟩;have hi:i<n:=by have:=(ad.mp hy).1;omega
   obtain⟨q,hq,hqo⟩:=hsi i hi;rw[ac,hq]at hy;cases hy;refine dO og fun G5 s5 g5=>⟨tt,_,rfl,bz.of g5,rfl,_,_,rfl,_,_,rfl,rfl,?_⟩;have Bi:=s4.trans s5;refine⟨_,rfl,.inl ⟨rfl,_,aV.of (s5 _ _ hc)⟩,_,rfl,_,rfl,_,rfl,ls,_,rfl,.inl (aV.of (Bi _ _ hst.1)),_,_,rfl,rfl,rfl,q,_,mf i 0,mf i 1,mf i 2,mf i 3,mf i 4,mf i 5,mf i 6,mf i 7,mf i 8,rfl,hqo _ Bi,fun G6 s6=>?_⟩;have ec:jq (decide (V.int (i:Int)=V.int ((((qs.map V.ref).length:Nat):Int)-1))) (mf i 0)=cd i:=by rw[hcd,hqr];exact congrArg (jq · _) (decide_eq_decide.mpr ⟨fun z=>by have:=V.int.inj z;omega,fun z=>by congr 1;omega⟩)
   rw[ec];have hc6:=s6 _ _ (s5 _ _ hc);have Rk:=s6 _ _ (s5 _ _ hb);refine⟨lc,_,_,rfl,rfl,hc6,aT (by rw[length_map,length_map,length_range];omega),?_⟩;have ecl:((List.range i).map cd).map V.int++ [V.int (cd i)]=((List.range (i+1)).map cd).map V.int:=by rw[range_succ,map_append,map_append];rfl
   rw[ecl];have s7:=aL (l:=lc) (o:=.lst (((List.range (i+1)).map cd).map V.int)) (Bi.trans s6) nc1;have Rl:=(aG (H:=G6) (o:=.lst (((List.range (i+1)).map cd).map V.int)) Yb).trans Rk;have hc7:upd G6 lc (.lst (((List.range (i+1)).map cd).map V.int)) lc=_:=ai;generalize upd G6 lc (.lst (((List.range (i+1)).map cd).map V.int))=G7 at s7 Rl hc7 ⊢;refine⟨_,rfl,.inl ⟨rfl,_,aV.of Rl⟩,_,rfl,_,rfl,lb,_,_,.int (ke sz i),rfl,rfl,aV.of Rl,tR (n:=i) (by rw[length_map,length_map,length_range]) (lC (lt_succ_self i)),?_⟩;refine⟨_,rfl,_,rfl,lc,_,_,.int (cd i),rfl,rfl,aV.of hc7,tR (n:=i) (by rw[length_map,length_map,length_range]) (lC (lt_succ_self i)),?_⟩;refine⟨_,rfl,q,_,1,.int (mf i 1),rfl,rfl,aV.of (hqo _ s7),rfl,cd i,mf i 1,rfl,fun G8 s8=>⟨_,_,rfl,rfl,?_⟩⟩;have hb8:=s8 _ _ Rl;refine⟨lb,_,_,rfl,rfl,hb8,aT (by rw[length_map,length_map,length_range];omega),?_⟩;have ebl:((List.range (i+1)).map (ke sz)).map V.int++ [V.int (ke sz i+gG (cd i) (mf i 1))]=((List.range (i+1+1)).map (ke sz)).map V.int:=by rw[range_succ (n:=i+1),map_append,map_append];show _=_++ [V.int (ke sz i+sz i)];rw[hsz]
   rw[ebl];exact⟨_,_,rfl,aL (s7.trans s8) nb,ai,(aG Yb.symm).trans (s8 _ _ hc7)⟩
  rintro σ H4 ⟨v4,v5,rfl,s4,hb4,hc4⟩;rw[hqr]at hb4 hc4;have OG:=hst.same s4;refine⟨zle,fun lu0 Yc=>dO Yc fun H5 s5 g5=>?_⟩;refine⟨_,rfl,ls,rfl,⟨_,aV.of (s5 _ _ OG.1)⟩,?_⟩;obtain⟨f,hf⟩:∃f:Nat->Int->Int,f=fun j t=>ke sz t.toNat-ke sz (j+1):=⟨_,rfl⟩;refine eZ (K:=K) (xs:=qs.map V.ref) (fun i σ G=>∃(v4 v5 v7 v8:Option V) (lu:Addr) (us:List Int) (ds:List FR),σ=[some (.ref a),some (.ref ls),some (.ref lb),some (.ref lc),v4,v5,some (.ref lu),v7,v8]/\Same H4 G/\H4 lu=none/\G lu=some (.lst (us.map V.int))/\DN n f sz cd i ds us/\us.length<=20*i) ?_ ?_ ?_ ?_
  ·exact⟨v4,v5,none,none,lu0,[],[],rfl,s5,Yc,g5,.nil,zero_le _⟩
  ·rintro i σ G _ ⟨v4,v5,v7,v8,lu,us,ds,rfl,s6,_⟩;exact aV.of (s6 _ _ OG.1)
  ·rintro i y σ G tt hy og ⟨v4,v5,v7,v8,lu,us,ds,rfl,s6,nu,hu,hD,Fg⟩;have hi:i<n:=by have:=(ad.mp hy).1;omega
   obtain⟨q,hq,hqo⟩:=hsi i hi;rw[ac,hq]at hy;cases hy;have hqo:∀G,Same H4 G->G q=_:=fun G s=>hqo G (s4.trans s);refine dO og fun G7 s7 g7=>⟨tt,_,rfl,bz.of g7,rfl,_,_,rfl,_,_,rfl,rfl,?_⟩;have Tr:=s6.trans s7;have LV:(((List.range n).map cd).map V.int)[i]? =some (.int (cd i)):=lC hi;have Ra:=s7 _ _ hu;refine⟨_,rfl,_,rfl,lc,_,i,.int (cd i),rfl,rfl,aV.of (Tr _ _ hc4),ck LV,_,rfl,cd i,q,mf i 0,mf i 1,mf i 2,mf i 3,mf i 4,mf i 5,mf i 6,mf i 7,mf i 8,rfl,hqo _ Tr,fun G8 s8=>?_⟩;have LW:=Tr.trans s8;refine⟨_,rfl,_,rfl,_,rfl,lb,_,rfl,aV.of (LW _ _ hb4),fun lp np=>?_⟩;rw[show((List.range (n+1)).map (ke sz)).map V.int=((List.range n).map (ke sz)).map V.int++ [V.int (ke sz n)] by rw[range_succ,map_append,map_append];rfl,show ∀xs:List V,dJ (xs++ [V.int (ke sz n)]) none (some (-1))=xs from fun xs=>A9 xs _];refine dO np fun G9 s9 g9=>?_;have Yd:=LW.trans s9;have Ts:=(s8.trans s9) _ _ Ra;clear Ra hu s7 g7 s8 s9 np;have hbi:(((List.range (n+1)).map (ke sz)).map V.int)[i+1]? =some (.int (ke sz (i+1))):=lC (by omega);have KQ:kc (((List.range (n+1)).map (ke sz)).map V.int) ((i:Int)+1)=some (.int (ke sz (i+1))):=by rw[show(i:Int)+1=((i+1:Nat):Int) by omega];exact ck hbi
   have hpl:((List.range n).map (ke sz)).length=n:=by rw[length_map,length_range]
   have hat:∀(t:Nat) (y:Int),((List.range n).map (ke sz))[t]? =some y->t<n/\y-ke sz (i+1)=f i (t:Int):=fun t y e=>by have hl:=(ad.mp e).1;rw[hpl]at hl;rw[ac,List.getElem?_range hl]at e;cases e;rw[hf];exact⟨hl,rfl⟩
   have fin:∀(G:Hp) (OI:Addr) (u:List Int) (v4 v5 v7 v8:Option V),Same H4 G->H4 OI=none->G OI=some (.lst ((us++u).map V.int))->t9 n (f i) (cd i) (mf i 1) u->u.length<=20->∃(v4' v5' v7' v8':Option V) (lu:Addr) (us:List Int) (ds:List FR),[some (V.ref a),some (.ref ls),some (.ref lb),some (.ref lc),v4,v5,some (.ref OI),v7,v8]=[some (.ref a),some (.ref ls),some (.ref lb),some (.ref lc),v4',v5',some (.ref lu),v7',v8']/\Same H4 G/\H4 lu=none/\G lu=some (.lst (us.map V.int))/\DN n f sz cd (i+1) ds us/\us.length<=20*(i+1):=fun G OI u v4 v5 v7 v8 s nl hg ⟨d,h1,h2,h3⟩ uG=>⟨v4,v5,v7,v8,OI,us++u,ds++ [d],rfl,s,nl,hg,.snoc hD h1 (by rw[h2,hsz]) h3,by rw[length_append];omega⟩;clear hD;have Ye:0<=cd i/\cd i<25:=by rw[hcd];exact FZ _ _
   refine⟨_,rfl,_,rfl,lc,_,i,.int (cd i),rfl,rfl,aV.of (Yd _ _ hc4),ck LV,zle,fun t1 n1=>dO n1 fun G10 JC g10=>⟨t1,[V.int 14,V.int 15,V.int 16,V.int 17,V.int 18],rfl,.inr (bz.of g10),rfl,rfl,_,rfl,?_⟩⟩;have xF:(if false=true then !inV (.int (cd i)) [V.int 14,V.int 15,V.int 16,V.int 17,V.int 18]else inV (.int (cd i)) [V.int 14,V.int 15,V.int 16,V.int 17,V.int 18])=decide (cd i∈zJ):=(if_neg (by decide)).trans (gW (cd i) zJ);rw[xF];have my:=Yd.trans JC;have xH:=JC _ _ Ts;have g9:=JC _ _ g9;by_cases c1:cd i∈zJ
   ·refine bY (decide_eq_true c1) ⟨_,rfl,.inl ⟨rfl,_,aV.of xH⟩,_,rfl,_,rfl,_,rfl,_,rfl,_,rfl,_,_,rfl,rfl,lb,_,_,.int (ke sz (i+1)),rfl,rfl,aV.of (my _ _ hb4),KQ,_,rfl,q,_,4,.int (mf i 4),rfl,rfl,aV.of (hqo _ my),rfl,lp,_,i,ke sz (i+1),mf i 4,true,rfl,g9,by rw[hpl];exact hi,fun t y hy hsh=>⟨_,_,rfl,rfl,_,_,rfl,rfl,?_⟩⟩;obtain⟨htn,hyf⟩:=hat t y hy;rw[hyf]at hsh ⊢;refine⟨lu,_,_,rfl,rfl,xH,aT (by rw[length_map];omega),?_⟩;refine fin _ lu [cd i*1024+jN (cd i) (mf i 3)*128+gH (cd i) (mf i 2)+f i (t:Int)+64] _ _ _ _ (aL my nu) nu (by rw[ai,map_append];rfl) (A8 c1 ⟨by omega,by omega⟩ ?_) (by show 1<=20;decide);rcases hsh rfl with e | e
    ·have hm:=jr (x:=mf i 1) (t8 _ c1).2.2.2.2.1 (t8 _ c1).2.2.2.2.2;rw[e,hf];show bf (ke sz (Int.toNat (i:Int))- (ke sz i+sz i))=true;rw[le,hsz];show bf (_- (_+gG (cd i) (mf i 1)))=true;rw[hm];exact decide_eq_true (by omega)
    ·exact e
   refine bu (by rw[decide_eq_false c1];decide) ?_;refine⟨_,rfl,_,rfl,lc,_,i,.int (cd i),rfl,rfl,aV.of (my _ _ hc4),ck LV,_,_,rfl,rfl,_,rfl,?_⟩;by_cases c2:19<cd i
   ·have c2':cd i∈LU:=by
     rcases vR Ye with z | z | z | z | z | z
     ·exact absurd z c1
     ·exact z
     ·omega
     ·exact absurd ((by decide:∀c∈([3,4]:List Int),¬19<c) _ z c2) id
     ·exact absurd ((by decide:∀c∈([2,11,12,13]:List Int),¬19<c) _ z c2) id
     ·exact absurd ((by decide:∀c∈([0,1,5,6,7,8,9,10]:List Int),¬19<c) _ z c2) id
    refine bY (decide_eq_true c2) ⟨_,rfl,_,rfl,_,rfl,_,rfl,_,rfl,_,rfl,_,_,rfl,rfl,lb,_,_,.int (ke sz (i+1)),rfl,rfl,aV.of (my _ _ hb4),KQ,_,rfl,q,_,4,.int (mf i 4),rfl,rfl,aV.of (hqo _ my),rfl,lp,_,i,ke sz (i+1),mf i 4,false,rfl,g9,by rw[hpl];exact hi,fun t y hy _=>?_⟩;obtain⟨htn,hyf⟩:=hat t y hy;rw[hyf];refine⟨zle,fun l2 n2=>dO n2 fun Yf Bf OJ=>⟨lu,l2,_,_,rfl,rfl,Bf _ _ xH,OJ,bX (by rw[length_map];show _+2<=1000000;omega),fun l3 n3=>dO n3 fun OL s12 FJ=>?_⟩⟩;have qb:=my.trans (Bf.trans s12);exact fin OL l3 [cd i*1024+jN (cd i) (mf i 3)*128+gH (cd i) (mf i 2),f i (t:Int)] _ _ _ _ qb ((my.trans Bf).free n3) (by rw[FJ,map_append];rfl) (DO c2' ⟨by omega,by omega⟩) (by show 2<=20;decide)
   refine bu (by rw[decide_eq_false c2];decide) ?_;refine⟨_,rfl,_,rfl,lc,_,i,.int (cd i),rfl,rfl,aV.of (my _ _ hc4),ck LV,rfl,_,rfl,?_⟩;by_cases c3:cd i=19
   ·refine bY (decide_eq_true (congrArg V.int c3)) ⟨_,rfl,_,rfl,_,rfl,q,_,1,.int (mf i 1),rfl,rfl,aV.of (hqo _ my),rfl,_,_,rfl,rfl,JQ,_,_,rfl,rfl,zle,fun l2 n2=>dO n2 fun Yf Bf OJ=>⟨lu,l2,_,_,rfl,rfl,Bf _ _ xH,OJ,bX (by rw[length_map];show _+2<=1000000;omega),fun l3 n3=>dO n3 fun OL s12 FJ=>?_⟩⟩;have qb:=my.trans (Bf.trans s12);obtain⟨m,hm,hm5⟩:∃m:Nat,1+mf i 1 % 5=(m:Int)/\m<=5:=⟨(1+mf i 1 % 5).toNat,by omega,by omega⟩;refine⟨_,rfl,_,rfl,q,_,1,.int (mf i 1),rfl,rfl,aV.of (hqo _ qb),rfl,_,_,rfl,rfl,JQ,_,_,rfl,rfl,_,rfl,by omega,by omega,fun D nD=>?_⟩;rw[hm];have g9':=(Bf.trans s12) _ _ g9;refine oW (lo:=0) (n:=((m:Nat):Int).toNat) (fun j σ ys G=>∃(v:Option V) (ts:List Int),σ=[v,some (.ref lp),some (.int (i:Int)),some (.ref lb),some (.ref q)]/\ys=(ts.map (f i)).map V.int/\ts.length=j/\(∀t∈ts,0<=t/\t< (n:Int))/\Same OL G/\G D=some (.lst ys)) ?_ ?_ ?_
    ·exact⟨none,[],rfl,rfl,rfl,(fun t h=>by cases h),aj nD,ai⟩
    ·rintro j σ ys G hj ⟨v,ts,rfl,rfl,htl,hts,rM,Tt⟩;rw[le]at hj;have OM:=qb.trans rM;obtain⟨x,hx⟩:∃x,kc (([mf i 0,mf i 1,mf i 2,mf i 3,mf i 4,mf i 5,mf i 6,mf i 7,mf i 8]:List Int).map V.int) (4+(0+(j:Int)))=some (.int x):=by
      rw[show(4:Int)+(0+(j:Int))=((4+j:Nat):Int) by omega];rcases(show j=0\/j=1\/j=2\/j=3\/j=4 by omega)with rfl | rfl | rfl | rfl | rfl
      ·exact⟨mf i 4,rfl⟩
      ·exact⟨mf i 5,rfl⟩
      ·exact⟨mf i 6,rfl⟩
      ·exact⟨mf i 7,rfl⟩
      ·exact⟨mf i 8,rfl⟩
     refine⟨_,rfl,_,rfl,_,rfl,_,rfl,_,_,rfl,rfl,lb,_,_,.int (ke sz (i+1)),rfl,rfl,aV.of (OM _ _ hb4),KQ,_,rfl,_,rfl,_,_,rfl,rfl,q,_,_,.int x,rfl,rfl,aV.of (hqo _ OM),hx,lp,_,i,ke sz (i+1),x,false,rfl,rM _ _ g9',by rw[hpl];exact hi,fun t y hy _=>?_⟩;obtain⟨htn,hyf⟩:=hat t y hy;rw[hyf];refine⟨Tt,aT (by rw[length_map,length_map];omega),_,ts++ [(t:Int)],rfl,by rw[map_append,map_append];rfl,by rw[length_append,htl];rfl,fun t' ht'=>?_,aL rM nD,ai⟩;rcases mem_append.mp ht' with z | z
     ·exact hts t' z
     ·rw[mem_singleton.mp z];exact⟨by omega,by omega⟩
    rintro σ ys Tv ⟨v,ts,rfl,rfl,htl,hts,rM,Tt⟩;rw[le]at htl;refine⟨l3,D,_,_,rfl,rfl,rM _ _ FJ,Tt,bX (by rw[length_append,length_map,length_map,length_map,htl];show _+2+_<=1000000;omega),fun l4 n4=>dO n4 fun Tw Tx Tz=>?_⟩;have hr1:=FW (f:=f i) (x:=mf i 1) (m3:=mf i 3) (m2:=mf i 2) hts (by rw[htl,hm]);rw[<-c3]at hr1;refine fin Tw l4 _ _ _ _ _ (qb.trans (rM.trans Tx)) ((qb.trans rM).free n4) ?_ hr1 (by rw[length_append,length_map,htl];show 2+m<=20;omega);rw[Tz,hm,c3,map_append,map_append,append_assoc];rfl
   refine bu (fun z=>c3 (V.int.inj (of_decide_eq_true z))) ?_;refine⟨_,rfl,_,rfl,lc,_,i,.int (cd i),rfl,rfl,aV.of (my _ _ hc4),ck LV,zle,fun t2 n2=>dO n2 fun Yf Bf OJ=>⟨t2,[V.int 3,V.int 4],rfl,.inr (bz.of OJ),rfl,rfl,_,rfl,?_⟩⟩;have xF:(if false=true then !inV (.int (cd i)) [V.int 3,V.int 4]else inV (.int (cd i)) [V.int 3,V.int 4])=decide (cd i∈([3,4]:List Int)):=(if_neg (by decide)).trans (gW (cd i) [3,4]);rw[xF];have DR:=my.trans Bf;have OO:=Bf _ _ xH;by_cases c4:cd i∈([3,4]:List Int)
   ·refine bY (decide_eq_true c4) ⟨_,rfl,_,rfl,_,rfl,q,_,4,.int (mf i 4),rfl,rfl,aV.of (hqo _ DR),rfl,_,_,rfl,rfl,⟨by decide,by decide,by decide⟩,_,_,rfl,rfl,.inl ⟨by decide,by decide⟩,_,_,rfl,rfl,_,_,rfl,rfl,(by decide),_,_,rfl,rfl,⟨by decide,by decide,by decide⟩,_,_,rfl,rfl,zle,fun l2 n2=>dO n2 fun OL s12 FJ=>⟨lu,l2,_,_,rfl,rfl,s12 _ _ OO,FJ,bX (by rw[length_map];show _+2<=1000000;omega),fun l3 n3=>dO n3 fun Tv rM TB=>?_⟩⟩;exact fin Tv l3 [cd i*1024+jN (cd i) (mf i 3)*128+gH (cd i) (mf i 2),mf i 4 % 2000000001-1000000000] _ _ _ _ (DR.trans (s12.trans rM)) ((DR.trans s12).free n3) (by rw[TB,map_append];rfl) (FX c4) (by show 2<=20;decide)
   refine bu (by rw[decide_eq_false c4];decide) ?_;refine⟨_,rfl,_,rfl,lc,_,i,.int (cd i),rfl,rfl,aV.of (DR _ _ hc4),ck LV,zle,fun t3 n3=>dO n3 fun OL s12 FJ=>⟨t3,[V.int 2,V.int 11,V.int 12,V.int 13],rfl,.inr (bz.of FJ),rfl,rfl,_,rfl,?_⟩⟩;have xF:(if false=true then !inV (.int (cd i)) [V.int 2,V.int 11,V.int 12,V.int 13]else inV (.int (cd i)) [V.int 2,V.int 11,V.int 12,V.int 13])=decide (cd i∈([2,11,12,13]:List Int)):=(if_neg (by decide)).trans (gW (cd i) [2,11,12,13]);rw[xF];have qb:=DR.trans s12;have KR:=s12 _ _ OO;by_cases c5:cd i∈([2,11,12,13]:List Int)
   ·refine bY (decide_eq_true c5) ⟨_,rfl,_,rfl,_,rfl,q,_,4,.int (mf i 4),rfl,rfl,aV.of (hqo _ qb),rfl,_,_,rfl,rfl,(by decide),zle,fun l2 n2=>dO n2 fun Tv rM TB=>⟨lu,l2,_,_,rfl,rfl,rM _ _ KR,TB,bX (by rw[length_map];show _+2<=1000000;omega),fun l3 n3=>dO n3 fun Tw Tx Tz=>?_⟩⟩;exact fin Tw l3 [cd i*1024+jN (cd i) (mf i 3)*128+gH (cd i) (mf i 2),mf i 4 % 1000001] _ _ _ _ (qb.trans (rM.trans Tx)) ((qb.trans rM).free n3) (by rw[Tz,map_append];rfl) (FY c5) (by show 2<=20;decide)
   refine bu (by rw[decide_eq_false c5];decide) ?_;have c6:cd i∈([0,1,5,6,7,8,9,10]:List Int):=by
    rcases vR Ye with z | z | z | z | z | z
    ·exact absurd z c1
    ·exact absurd ((by decide:∀c∈LU,19<c) _ z) c2
    ·exact absurd z c3
    ·exact absurd z c4
    ·exact absurd z c5
    ·exact z
   refine⟨_,rfl,.inl ⟨rfl,_,aV.of KR⟩,_,rfl,lu,_,_,rfl,rfl,KR,aT (by rw[length_map];omega),?_⟩;exact fin _ lu [cd i*1024+jN (cd i) (mf i 3)*128+gH (cd i) (mf i 2)] _ _ _ _ (aL qb nu) nu (by rw[ai,map_append];rfl) (DP c6) (by show 1<=20;decide)
  rintro σ G ⟨v4,v5,v7,v8,lu,us,ds,rfl,s6,nu,hu,hD,Fg⟩;rw[hqr]at hD Fg;refine⟨_,rfl,_,rfl,zle,fun t nt=>dO nt fun G7 s7 g7=>?_⟩;have hlen:=hD.len;have KS:=hD.beg (ke sz) rfl (fun _=>rfl)
  obtain⟨e1,e2⟩:=hD.all ds (fun _ _ h=>h) (fun j x hj h0 hx=>by
   rw[hf];unfold bE
   rw[KS x.toNat (by omega),KS (j+1) (by omega)])
  have S:=S1.trans (s4.trans (s6.trans s7));have eb:eB ds ds.length=(List.range (n+1)).map (ke sz):=by unfold eB;rw[hlen];exact map_congr_left fun j hj=>KS j (by have:=mem_range.mp hj;omega)
  rw[<-hlen]at e1;refine k t lu lb ds G7 S g7 (by rw[e1];exact s7 _ _ hu) (by rw[eb];exact(s6.trans s7) _ _ hb4) (by omega) (by omega) (by rw[e1];omega) ⟨fun d hd=>?_,fun d hd=>?_,fun r d hd hs=>(e2 r d hd).2.2.1 hs,fun d hd=>?_⟩ (fun r d hd=>by rw[hlen];exact(e2 r d hd).2.2.2.2)
  ·obtain⟨r,hr⟩:=List.mem_iff_getElem?.mp hd;exact(e2 r d hr).1
  ·obtain⟨r,hr⟩:=List.mem_iff_getElem?.mp hd;rw[hlen];exact(e2 r d hr).2.1
  ·rw[(e2 _ d hd).2.2.2.1,hlen,hcd];show dF (jq (decide (n-1+1=n)) _)∈iT;rw[decide_eq_true (by omega)];exact Gc _
theorem jG{H:Hp}:∀l:List Int,AG H (l.map V.int) (l.map Da.int)
 | []=>.nil
 | a::l=>.cons (.int a) (jG l)
theorem rY{X:Cx}:Passes (eU X.prog X.w) X E0:=fun _ _ _ _ _ _ _ ⟨_,_,_,_,_,_,_,_,_,_,_,_,_,_,_,h⟩=>h.elim
def OQ(d:FR):Da:=.tup (.str d.u::(d.is.map Da.int++if d.u ="table"then [.tup (d.ts.map Da.int)]else []))
theorem bZ.hd{H:Hp}{q:Addr}{d:FR}(h:bZ H q d):HD H (.ref q) (OQ d):=by
 obtain⟨o,h⟩:=h;unfold OQ;rcases h with ⟨a,b,p,e,h1,h2⟩ | ⟨a,h1⟩
 ·rw[if_pos a,e];exact .tupS h1 (.cons (.str _) (.cons (.int _) (.cons (.tupS h2 (jG _)) .nil)))
 ·rw[if_neg a,append_nil];exact .tupS h1 (.cons (.str _) (jG _))
theorem dz.hd{H:Hp}{lr:Addr}{ds:List FR}(h:dz H lr ds):HD H (.ref lr) (.lst (ds.map OQ)):=by obtain⟨qs,a,b,c⟩:=h;refine .B3 a (.of (by rw[length_map,length_map,b]) fun i x d h1 h2=>?_);rw[ac]at h1 h2;obtain⟨q,hq,rfl⟩:=map_eq_some_iff.mp h1;obtain⟨e,he,rfl⟩:=map_eq_some_iff.mp h2;exact(c i q e hq he).hd
theorem lD(n:Nat)(l:List Int):∀d∈l.map Da.int,Da.Nb n d:=fun d hd=>by obtain⟨i,_,rfl⟩:=mem_map.mp hd;exact .int
theorem KU(d:FR):(OQ d).Nb 2:=by
 refine .tup fun x hx=>?_;rcases mem_cons.mp hx with rfl | hx
 ·exact .str
 rcases mem_append.mp hx with hx | hx
 ·exact lD 1 _ x hx
 ·split at hx
  ·rw[mem_singleton.mp hx];exact .tup (lD 0 _)
  ·cases hx
theorem zM(ds:List FR):(Da.lst (ds.map OQ)).Nb 3:=.lst fun d hd=>by obtain⟨e,_,rfl⟩:=mem_map.mp hd;exact KU e
theorem rZ{K:Frag}{H:Hp}{a b:Addr}{ds:List FR}{Q:VK}(h1:dz H a ds)(h2:dz H b ds)(k:Q (.bl true) H):BK K false (.ref a) (.ref b) H Q:=by refine⟨3,a,b,_,_,rfl,rfl,h1.hd.da K,h2.hd.da K,zM ds,zM ds,by decide,?_⟩;rw[decide_eq_true rfl];exact k
theorem dn.tg{ds:List FR}(A:dn ds):LK ds:=fun d hd=>⟨(A.good d hd).1,(A.good d hd).2.1⟩
theorem dn.Iz{ds:List FR}(A:dn ds)(h:ds.length<=1000):∀d∈ds,gD d:=fun d hd=>⟨A.ok d hd,ds.length,by omega,A.good d hd⟩
theorem dn.rows{ds:List FR}(A:dn ds)(h0:1<=ds.length)(h:ds.length<=1000):Di ds:=by have hd:ds[ds.length-1]? =some (ds[ds.length-1]'(by omega)):=aa _;exact⟨h0,h,A.good,_,hd,A.last _ hd⟩
theorem Gg{ds:List FR}{n r:Nat}{x:Int}(h:(r,x)∈lY ds n):∃d,ds[r]? =some d/\aX d=true/\x=dst ds r d:=by
 unfold lY at h;obtain⟨r',h1,h2⟩:=mem_filterMap.mp h;unfold pI at h2;cases hd:ds[r']? with
 | none=>rw[hd]at h2;cases h2
 | some d=>
  rw[hd]at h2;have h2:(if aX d=true then some (r',dst ds r' d)else none)=some (r,x):=h2;split at h2
  ·cases h2;exact⟨d,hd,‹_›,rfl⟩
  ·cases h2
theorem dn.first{ds:List FR}(A:dn ds):jk ds=none:=by unfold jk;rw[map_eq_none_iff,find?_eq_none];rintro⟨r,x⟩ hx;obtain⟨d,hd,hs,rfl⟩:=Gg hx;rw[A.bears r d hd hs];decide
def shd(ds:List FR)(k:Nat)(d:FR):Option (List Int):=if d.u ="table"\/d.u∈five then some (d.ts.map (bE ds k))else none
def Gh(ds:List FR)(i:Nat):List (List Int):=(List.range i).filterMap fun k=>ds[k]?.bind (shd ds k)
theorem vS{ds:List FR}{i:Nat}{d:FR}(h:ds[i]? =some d):Gh ds (i+1)=Gh ds i++(shd ds i d).toList:=by unfold Gh;rw[range_succ,filterMap_append];congr 1;rw[List.filterMap_cons,h];rw[Option.bind_some];cases shd ds i d<;>rfl
theorem zN(ds:List FR)(i:Nat):(Gh ds i).length<=i:=by have:=List.length_filterMap_le (fun k=>ds[k]?.bind (shd ds k)) (List.range i);rw[length_range]at this;exact this
def iD(G:Hp)(lf:Addr)(L:List (List Int)):Prop:=∃ls:List Addr,G lf=some (.lst (ls.map V.ref))/\ls.length=L.length/\∀(j:Nat) l xs,ls[j]? =some l->L[j]? =some xs->l≠lf/\G l=some (.lst (xs.map V.int))
theorem iD.same{G G':Hp}{lf:Addr}{L:List (List Int)}(h:iD G lf L)(s:Same G G'):iD G' lf L:=by obtain⟨ls,a,b,c⟩:=h;exact⟨ls,s _ _ a,b,fun j l xs h1 h2=>⟨(c j l xs h1 h2).1,s _ _ (c j l xs h1 h2).2⟩⟩
theorem iD.push{G:Hp}{lf l:Addr}{L:List (List Int)}{xs:List Int}{vs:List V}(h:iD G lf L)(hv:G lf=some (.lst vs))(hl:G l=some (.lst (xs.map V.int)))(ne:l≠lf):iD (upd G lf (.lst (vs++ [.ref l]))) lf (L++ [xs]):=by
 obtain⟨ls,a,b,c⟩:=h;rw[a]at hv;cases hv;refine⟨ls++ [l],by rw[ai,map_append];rfl,by rw[length_append,length_append,b];rfl,fun j l' xs' h1 h2=>?_⟩;by_cases cj:j<ls.length
 ·rw[ap cj]at h1;rw[ap (by omega)]at h2;obtain⟨z1,z2⟩:=c j l' xs' h1 h2;exact⟨z1,(aG z1).trans z2⟩
 ·have hj:=(ad.mp h1).1;rw[length_append,length_singleton]at hj;have ej:j=ls.length:=by omega
  rw[ej,ar (le_refl _),sub_self]at h1;rw[ej,b,ar (le_refl _),sub_self]at h2;cases h1;cases h2;exact⟨ne,(aG ne).trans hl⟩
theorem iD.hd{G:Hp}{lf:Addr}{L:List (List Int)}(h:iD G lf L):HD G (.ref lf) (.lst (L.map fun xs=>.lst (xs.map Da.int))):=by obtain⟨ls,a,b,c⟩:=h;refine .B3 a (.of (by rw[length_map,length_map,b]) fun i x d h1 h2=>?_);rw[ac]at h1 h2;obtain⟨q,hq,rfl⟩:=map_eq_some_iff.mp h1;obtain⟨e,he,rfl⟩:=map_eq_some_iff.mp h2;exact .B3 (c i q e hq he).2 (jG e)
theorem iD.nb(L:List (List Int)):(Da.lst (L.map fun xs=>.lst (xs.map Da.int))).Nb 2:=.lst fun d hd=>by obtain⟨e,_,rfl⟩:=mem_map.mp hd;exact .lst (lD 0 _)
theorem zO(u:Str):decide (u∈zL4)=decide (u∈five):=decide_eq_decide.mpr ⟨(by decide+kernel:∀u∈zL4,u∈five) u,(by decide+kernel:∀u∈five,u∈zL4) u⟩
theorem KW{H:Hp}{q:Addr}{d:FR}(h:bZ H q d)(h5:d.u∈five):∃xs t,H q=some (.tup xs)/\d.ts=[t]/\kc xs (-2)=some (.int t):=by
 obtain⟨o,hA⟩:=h;have nt:¬d.u ="table":=fun z=>absurd h5 (by rw[z];decide);rcases hA with ⟨z,_⟩ | ⟨_,h1⟩
 ·exact absurd z nt
 rcases eu _ h5 with z | z
 ·obtain⟨t,f,e,et⟩:=o.2.2.1 z;rw[e]at h1;exact⟨_,t,h1,et,rfl⟩
 ·obtain⟨b,t,f,e,et⟩:=o.2.2.2.1 z;rw[e]at h1;exact⟨_,t,h1,et,rfl⟩
theorem xI{ds:List FR}{n j:Nat}(h:j<=n):((eB ds n).map V.int)[j]? =some (.int (beg ds j)):=by rw[ac,oa h];rfl
theorem DS{ds:List FR}{n:Nat}{t:Int}(h0:0<=t)(h:t<=n):kc ((eB ds n).map V.int) t=some (.int (beg ds t.toNat)):=by obtain⟨k,rfl⟩:=Int.eq_ofNat_of_zero_le h0;exact ck (xI (by omega))
theorem xJ{ds:List FR}{n k:Nat}(h:k<n):kc ((eB ds n).map V.int) ((k:Int)+1)=some (.int (beg ds (k+1))):=by rw[show(k:Int)+1=((k+1:Nat):Int) by omega];exact ck (xI (by omega))
def IA:Sp:=fun vs H Q _=>∃(lr lb:Addr) (ds:List FR),vs=[.ref lr,.ref lb]/\dz H lr ds/\H lb=some (.lst ((eB ds ds.length).map V.int))/\LK ds/\ds.length<=1000/\∀(l:Addr) (H':Hp),Same H H'->iD H' l (Gh ds ds.length)->Q (.ref l) H'
theorem DT:aE ["_law_rows","_law_begins","_law_found","_law_k","_law_row"] ["_law_rows","_law_begins"] (ak dR):=by walk_at "sc1"
def Gj:Scope:={kind:=.function,names:=[(".0",.local),("_law_target",.local),("_law_begins",.free),("_law_k",.free)],isGenerator:=false,isCoroutine:=false,more:=[]}
theorem zP:cS (ak dR) Gj ["_law_rows","_law_begins","_law_found","_law_k","_law_row"] ["_law_target","_law_begins","_law_k"] [none,some 1,some 3]:=by walk_at "sc2"
theorem mz{f:Addr}{fd:ed}(F:cr K "_law_distances" "_law_distances" dR f fd)(T:Txt K w.params mg): aD P w K mg base cm 1 f fd ["_law_rows","_law_begins"] IA:=by
 refine F.ok DT (by walk_at "ln") (fun cdv A outer s H vs Q E hr h=>?_)
 ·obtain⟨lr,lb,ds,rfl,hR,hb,hT,hn,k⟩:=h;obtain⟨qs,h0,hql,hqr⟩:=id hR
  refine cU (au (ay (aI (i:=2) DT.nd rfl (Or.inl rfl) (cD af)))
   (au (ow PassesOwn.never rfl (fX rfl T.enum (ae (pv 0) af)) (gA (K:=K) (i:=3) (j:=4) rfl rfl DT.nd rfl (Or.inr rfl) rfl (Or.inl rfl)) (aw (cv (aJ cT (aF aY (pv 4) ah (fun _ _=>rfl)) aW (aQ _)) (aw (ay (cC (dg fv fw gf bV (pv 2) (ae (dQ (N':=["_law_target","_law_begins","_law_k"]) (fr:=[none,some 1,some 3]) zP rfl (wd (aF aY (pv 4) ah (fun _ _=>rfl))) (fun C s0 H0 fp=>(cq (i:=0) zP.nd rfl (Or.inl rfl))) (fun C s0 H0 fp=>dr) (fun C s0 H0 fp=>(aA dY (aF (r:=uU K) aK (pv 1) (pv 0) (fun _ _=>rfl)) (aF (r:=uU K) aK (pv 1) (aA bg (pv 2) ah) (fun _ _=>rfl))))) af))))) (aw (cv (aJ cy (aF aY (pv 4) ah (fun _ _=>rfl)) (gX (.cons aW (.cons aW (.cons aW (.cons aW (.cons aW .nil)))))) rfl) (aw (ay (cC (dg fv fw gf bV (pv 2) (ae (cD (ae (aA dY (aF aK (pv 1) (aF aY (pv 4) (eY dG ah) (fun _ _=>rfl)) (fun _ _=>rfl)) (aF aK (pv 1) (aA bg (pv 3) ah) (fun _ _=>rfl))) af)) af))))) (cu aO))))))
   (aw (ay (aC (pv 2)))))) ?_
  refine⟨zle,fun lf nf=>dO nf fun G1 s1 g1=>?_⟩;refine⟨_,rfl,lr,rfl,⟨_,aV.of (s1 _ _ h0)⟩,?_⟩;refine eZ (K:=K) (xs:=qs.map V.ref) (fun i σ G=>∃v3 v4:Option V,σ=[some (.ref lr),some (.ref lb),some (.ref lf),v3,v4]/\Same H G/\iD G lf (Gh ds i)) ?_ ?_ ?_ ?_
  ·exact⟨none,none,rfl,s1,[],g1,rfl,fun j l xs e=>by simp at e⟩
  ·rintro i σ G _ ⟨v3,v4,rfl,s2,_⟩;exact aV.of (s2 _ _ h0)
  ·rintro i y σ G tt hy og ⟨v3,v4,rfl,s2,hL⟩;rw[ac]at hy;obtain⟨q,hq,rfl⟩:=map_eq_some_iff.mp hy;have hi:i<ds.length:=by have:=(ad.mp hq).1;omega
   have hd:ds[i]? =some ds[i]:=aa hi;have LM:=hT ds[i] (ba _);generalize ds[i]=d at hd LM;rw[vS hd];refine dO og fun G3 s3 g3=>⟨tt,_,rfl,bz.of g3,rfl,_,_,rfl,_,_,rfl,rfl,?_⟩;have DQ:=s2.trans s3;have hF:=(hqr i q d hq hd).same DQ;have Rm:=hL.same s3;obtain⟨its,hq1,_⟩:=hF.parts;obtain⟨ls,hls,hll,_⟩:=id Rm;have Oc:ls.length<=1000:=by have:=zN ds i;omega
   refine⟨_,rfl,q,_,0,_,rfl,rfl,bz.of hq1,at0 _ _,rfl,_,rfl,?_⟩;by_cases ht:d.u ="table"
   ·refine bY (decide_eq_true (by rw[ht])) ?_;have e:shd ds i d=some (d.ts.map (bE ds i)):=if_pos (.inl ht);rw[e];rcases hF.2 with ⟨_,b,p,_,h1,h2⟩ | ⟨z,_⟩
    rotate_left
    ·exact absurd ht z
    refine⟨_,rfl,.inl ⟨rfl,_,aV.of hls⟩,_,rfl,q,_,2,.ref p,rfl,rfl,bz.of h1,rfl,p,rfl,⟨_,bz.of h2⟩,fun D nD=>o8 (K:=K) (a:=p) (xs:=d.ts.map V.int) (fun j σ ys G=>∃v:Option V,σ=[v,some (.ref lb),some (.int (i:Int))]/\ys=((d.ts.take j).map (bE ds i)).map V.int/\Same G3 G/\G D=some (.lst ys)) ?_ ?_ ?_ ?_⟩
    ·exact⟨none,rfl,rfl,aj nD,ai⟩
    ·rintro j σ ys G _ ⟨v,rfl,rfl,s4,_⟩;exact bz.of (s4 _ _ h2)
    ·rintro j x σ ys G hx ⟨v,rfl,rfl,s4,hD⟩;rw[ac]at hx;obtain⟨t,ht',rfl⟩:=map_eq_some_iff.mp hx;have hjl:=(ad.mp ht').1;have htt:=LM.2 t (ag ht');have hb4:=s4 _ _ (DQ _ _ hb);refine⟨_,rfl,_,rfl,lb,_,_,_,rfl,rfl,aV.of hb4,DS htt.1 (by omega),_,rfl,_,rfl,_,_,rfl,rfl,lb,_,_,_,rfl,rfl,aV.of hb4,xJ hi,_,_,rfl,rfl,hD,aT (by rw[length_map,length_map,length_take];have:=LM.1;omega),_,rfl,?_,aL s4 nD,ai⟩;rw[take_add_one,ht',map_append,map_append];rfl
    rintro σ ys G4 ⟨v,rfl,rfl,s4,hD⟩;rw[length_map,take_length]at hD;have qc:=s4 _ _ hls;have ne:D≠lf:=fun z=>by rw[z,hls]at nD;cases nD
    exact⟨lf,_,_,rfl,rfl,qc,aT (by rw[length_map];omega),_,_,rfl,aL (DQ.trans s4) nf,(Rm.same s4).push qc hD ne⟩
   refine bu (fun z=>ht (strEq z)) ?_;refine⟨_,rfl,q,_,0,_,rfl,rfl,bz.of hq1,at0 _ _,zle,fun t2 n2=>dO n2 fun G4 s4 g4=>⟨t2,zL4.map V.str,rfl,.inr (bz.of g4),rfl,rfl,_,rfl,?_⟩⟩;have xF:(if false=true then !inV (.str d.u) (zL4.map V.str)else inV (.str d.u) (zL4.map V.str))=decide (d.u∈five):=(if_neg (by decide)).trans ((dS _ _).trans (zO _));rw[xF];have TF:=DQ.trans s4;have qc:=s4 _ _ hls;by_cases h5:d.u∈five
   ·have e:shd ds i d=some (d.ts.map (bE ds i)):=if_pos (.inr h5);rw[e];obtain⟨xs,t,hqx,i6,hat⟩:=KW (hF.same s4) h5;have htt:=LM.2 t (by rw[i6];exact mem_singleton.mpr rfl);have hb4:=TF _ _ hb;refine bY (decide_eq_true h5) ⟨_,rfl,.inl ⟨rfl,_,aV.of qc⟩,_,rfl,_,rfl,_,rfl,q,_,_,.int t,rfl,rfl,bz.of hqx,hat,lb,_,_,_,rfl,rfl,aV.of hb4,DS htt.1 (by omega),_,rfl,_,rfl,_,_,rfl,rfl,lb,_,_,_,rfl,rfl,aV.of hb4,xJ hi,_,_,rfl,rfl,zle,fun l nl=>dO nl fun G5 s5 g5=>?_⟩;have OS:=s5 _ _ qc;have ne:l≠lf:=fun z=>by rw[z,qc]at nl;cases nl
    rw[i6];exact⟨lf,_,_,rfl,rfl,OS,aT (by rw[length_map];omega),_,_,rfl,aL (TF.trans s5) nf,((Rm.same s4).same s5).push OS g5 ne⟩
   ·have e:shd ds i d=none:=if_neg (fun z=>z.elim ht h5);rw[e];refine bu (by rw[decide_eq_false h5];decide) ⟨_,_,rfl,TF,?_⟩;show iD _ _ (_++ []);rw[append_nil];exact Rm.same s4
  rintro σ G ⟨v3,v4,rfl,s2,hL⟩;rw[length_map,hql]at hL;exact⟨_,rfl,k lf G s2 hL⟩
theorem vT:∀u∈five,((bj.idxOf u:Nat):Int)∈zJ:=by decide+kernel
theorem uc:∀c∈zJ,14<=c/\c<=18:=by decide
theorem KY{c:Int}(h:14<=c/\c<=18):c∈zJ:=by
 have:c=14\/c=15\/c=16\/c=17\/c=18:=by omega
 rcases this with rfl | rfl | rfl | rfl | rfl<;>decide
theorem ud:(∀u∈zL0,bj.idxOf u<14)/\(∀u∈My.w2,bj.idxOf u<14)/\(∀u∈zL1,bj.idxOf u<14):=by decide+kernel
theorem Dr.seen{n:Int}{f:Int->Int}{d:FR}{us:List Int}(h:Dr n f d us):∃u0 r,us=u0::r/\((d.u ="table"/\u0/1024=19/\∃m,r=m::d.ts.map f)\/(d.u∈five/\u0/1024∈zJ/\d.ts.map f=[u0 % 128-64])\/(d.u∈five/\19<u0/1024/\r=d.ts.map f)\/(¬d.u ="table"/\¬d.u∈five/\u0/1024<14)):=by
 cases h with
 | @sb u h=>exact⟨_,_,rfl,.inr (.inr (.inr ⟨(gL _ h).2.2,(gL _ h).2.1,by have:=ud.2.2 u h;omega⟩))⟩
 | halt h=>exact⟨_,_,rfl,.inr (.inr (.inr ⟨by show ¬("halt": Str)="table";decide,by show ¬("halt": Str)∈five;decide,by decide⟩))⟩
 | @w5 u a b h ha hb=>exact⟨_,_,rfl,.inr (.inr (.inr ⟨(gJ _ h).2.2.1,(gJ _ h).2.1,by have:=ud.1 u h;omega⟩))⟩
 | @w2 u a b h ha hb=>exact⟨_,_,rfl,.inr (.inr (.inr ⟨(gK _ h).2.2.1,(gK _ h).2.1,by have:=ud.2.1 u h;omega⟩))⟩
 | tell ha=>exact⟨_,_,rfl,.inr (.inr (.inr ⟨by show ¬("tell": Str)="table";decide,by show ¬("tell": Str)∈five;decide,by omega⟩))⟩
 | table ha h1 AQ ht=>exact⟨_,_,rfl,.inl ⟨rfl,by omega,_,rfl⟩⟩
 | @short u a t h ha hn ht hb=>
  have hi:=uc _ (vT u h);have hb:=of_decide_eq_true hb;refine⟨_,_,rfl,.inr (.inl ⟨by rw[fE];exact h,KY (by omega),?_⟩)⟩;rw[jE];show [f t]=_;congr 1;omega
 | @long u a t h ha hn ht=>
  have hi:=uc _ (vT u h);refine⟨_,_,rfl,.inr (.inr (.inl ⟨by rw[fE];exact h,by omega,?_⟩))⟩;rw[jE];rfl
def IB:Sp:=fun vs H Q _=>∃(lu lb:Addr) (ds:List FR),vs=[.ref lu,.ref lb]/\H lu=some (.lst ((bw ds ds.length).map V.int))/\H lb=some (.lst ((eB ds ds.length).map V.int))/\dn ds/\(∀(r:Nat) d,ds[r]? =some d->Dr ds.length (bE ds r) d (dj ds r d))/\ds.length<=1000/\∀(l:Addr) (H':Hp),Same H H'->iD H' l (Gh ds ds.length)->Q (.ref l) H'
theorem zQ:aE ["_law_units","_law_begins","_law_found","_law_k","_law_code_here"] ["_law_units","_law_begins"] (ak jf):=by walk_at "sc1"
theorem uf{f:Addr}{fd:ed}(F:cr K "_law_shown" "_law_shown" jf f fd)(T:Txt K w.params mg): aD P w K mg base cm 1 f fd ["_law_units","_law_begins"] IB:=by
 refine F.ok zQ (by walk_at "ln") (fun cdv A outer s H vs Q E hr h=>?_)
 ·obtain⟨lu,lb,ds,rfl,hu,hb,A,TH,hn,k⟩:=h
  refine cU (au (ay (aI (i:=2) zQ.nd rfl (Or.inl rfl) (cD af)))
   (au (ow PassesOwn.never rfl (ip rfl T.range (ae (aA dY (aN aM (by rfl) T.len cE (ae (pv 1) af)) ah) af)) (cq (i:=3) zQ.nd rfl (Or.inl rfl)) (au (ay (aI (i:=4) zQ.nd rfl (Or.inl rfl) (aA fc (aF aK (pv 0) (aF aK (pv 1) (pv 3) (fun _ _=>rfl)) (fun _ _=>rfl)) ah)))
   (aw (cv (aJ cT (pv 4) ah (aQ _)) (aw (ay (cC (dg fv fw gf bV (pv 2) (ae (cL eT (pv 0) (cK (aA bg (aF aK (pv 1) (pv 3) (fun _ _=>rfl)) ah)) (cK (aF aK (pv 1) (aA bg (pv 3) ah) (fun _ _=>rfl)))) af))))) (aw (cv (aJ cy (pv 4) (gX (.cons ah (.cons ah (.cons ah (.cons ah (.cons ah .nil)))))) rfl) (aw (ay (cC (dg fv fw gf bV (pv 2) (ae (cD (ae (aA dY (aA dE (aF aK (pv 0) (aF aK (pv 1) (pv 3) (fun _ _=>rfl)) (fun _ _=>rfl)) ah) ah) af)) af))))) (aw (cv (aJ jQ (pv 4) ah (aQ _)) (aw (ay (cC (dg fv fw gf bV (pv 2) (ae (cD (ae (aF aK (pv 0) (aA bg (aF aK (pv 1) (pv 3) (fun _ _=>rfl)) ah) (fun _ _=>rfl)) af)) af))))) (cu aO)))))))))
   (aw (ay (aC (pv 2)))))) ?_
  have hbl:((eB ds ds.length).map V.int).length=ds.length+1:=by rw[length_map,k8]
  refine⟨zle,fun lf nf=>dO nf fun G1 s1 g1=>?_⟩;refine⟨_,rfl,lb,_,rfl,.inl (aV.of (s1 _ _ hb)),_,_,rfl,rfl,_,rfl,by omega,by omega,?_⟩;rw[hbl,show(((ds.length+1:Nat):Int)-1)=(ds.length:Nat) by omega];refine jw (lo:=0) (n:=((ds.length:Nat):Int).toNat) (fun i σ G=>∃v3 v4:Option V,σ=[some (.ref lu),some (.ref lb),some (.ref lf),v3,v4]/\Same H G/\iD G lf (Gh ds i)) ?_ ?_ ?_
  ·exact⟨none,none,rfl,s1,[],g1,rfl,fun j l xs e=>by simp at e⟩
  ·rintro i σ G hi ⟨v3,v4,rfl,s2,hL⟩;rw[le]at hi;rw[Int.zero_add];have hd:ds[i]? =some ds[i]:=aa hi;have hdr:=TH i _ hd;have hat:=fun j x (h:(dj ds i ds[i])[j]? =some x)=>mh A hd h ds.length hi (le_refl _);have Fg:=pR (ds:=ds) (r:=i) (A.ok _ (ba hi)) (A.good _ (ba hi));have hbs:=dB hd;rw[<-Fg]at hbs;generalize ds[i]=d at hd hdr hat hbs;rw[vS hd];obtain⟨u0,r,e,hcase⟩:=hdr.seen;rw[e]at hat hbs;clear hdr e Fg;have hb0:=(oo A.far i (by omega)).1;obtain⟨b,hbb⟩:=Int.eq_ofNat_of_zero_le hb0;rw[hbb]at hat hbs;rw[le]at hat;have at_:∀j x,(u0::r)[j]? =some x->((bw ds ds.length).map V.int)[b+j]? =some (.int x):=fun j x h=>by rw[ac,hat j x h];rfl
   have Rn:((eB ds ds.length).map V.int)[i]? =some (.int (b:Int)):=by rw[xI (by omega),hbb]
   have hu2:=s2 _ _ hu;have hb2:=s2 _ _ hb;obtain⟨ls,hls,hll,_⟩:=id hL;have Oc:ls.length<=1000:=by have:=zN ds i;omega
   refine⟨_,rfl,_,rfl,_,rfl,lb,_,i,.int (b:Int),rfl,rfl,aV.of hb2,ck Rn,lu,_,b,.int u0,rfl,rfl,aV.of hu2,ck (at_ 0 u0 rfl),_,_,rfl,rfl,⟨by show(0:Int)<1024;decide,by show(1024:Int)<_;decide⟩,?_⟩;refine⟨_,rfl,rfl,_,rfl,?_⟩;have done:∀(G':Hp) (l:Addr) (xs:List Int) (v:V),Same G G'->G l=none->G' l=some (.lst (xs.map V.int))->shd ds i d=some xs->∃v3 v4:Option V,[some (V.ref lu),some (.ref lb),some (.ref lf),some (.int (i:Int)),some v]=[some (.ref lu),some (.ref lb),some (.ref lf),v3,v4]/\Same H (upd G' lf (.lst (ls.map V.ref++ [.ref l])))/\iD (upd G' lf (.lst (ls.map V.ref++ [.ref l]))) lf (Gh ds i++(shd ds i d).toList):=fun G' l xs v s nl hl e=>by
    have ne:l≠lf:=fun z=>by rw[z,hls]at nl;cases nl
    rw[e];exact⟨_,_,rfl,aL (s2.trans s) nf,(hL.same s).push (s _ _ hls) hl ne⟩
   have KZ:(ls.map V.ref).length<ee:=aT (by rw[length_map];omega);by_cases c1:u0/1024=19
   ·have ⟨ht,m,er⟩:d.u ="table"/\∃m,r=m::d.ts.map (bE ds i):=by
     rcases hcase with ⟨h,_,h2⟩ | ⟨_,h,_⟩ | ⟨_,h,_⟩ | ⟨_,_,h⟩
     ·exact⟨h,h2⟩
     ·exact absurd (uc _ h) (by omega)
     ·omega
     ·omega
    have e:shd ds i d=some (d.ts.map (bE ds i)):=if_pos (.inl ht);rw[er,length_cons,length_cons]at hbs;refine bY (decide_eq_true (congrArg V.int c1)) ⟨_,rfl,.inl ⟨rfl,_,aV.of hls⟩,_,rfl,_,rfl,_,rfl,lb,_,i,.int (b:Int),rfl,rfl,aV.of hb2,ck Rn,_,_,rfl,rfl,_,rfl,_,rfl,_,rfl,_,_,rfl,rfl,lb,_,_,_,rfl,rfl,aV.of hb2,xJ hi,_,rfl,lu,_,rfl,aV.of hu2,fun l nl=>?_⟩;have TJ:dJ ((bw ds ds.length).map V.int) (some ((b:Int)+2)) (some (beg ds (i+1)))=(d.ts.map (bE ds i)).map V.int:=by
     rw[show(b:Int)+2=((b+2:Nat):Int) by omega,show beg ds (i+1)=((b+2+(d.ts.map (bE ds i)).length:Nat):Int) by rw[hbs];push_cast;omega];have hle:b+2+(d.ts.map (bE ds i)).length<=((bw ds ds.length).map V.int).length:=by
      rw[length_map (as:=bw ds ds.length)];by_cases z:(d.ts.map (bE ds i)).length=0
      ·have:=(ad.mp (hat 1 m (by rw[er];rfl))).1;omega
      ·have hx:(d.ts.map (bE ds i))[(d.ts.map (bE ds i)).length-1]? =some ((d.ts.map (bE ds i))[(d.ts.map (bE ds i)).length-1]'(by omega)):=aa _;have:=(ad.mp (hat ((d.ts.map (bE ds i)).length-1+2) _ (by rw[er];exact hx))).1;omega
     rw[EZ _ _ _ (by omega) hle,show b+2+(d.ts.map (bE ds i)).length- (b+2)=(d.ts.map (bE ds i)).length by omega,<-map_drop,<-map_take];congr 1;exact zg fun j x hx=>by rw[show b+2+j=b+(j+2) by omega];exact hat (j+2) x (by rw[er];exact hx)
    rw[TJ];refine dO nl fun G4 s4 g4=>⟨lf,_,_,rfl,rfl,s4 _ _ hls,KZ,done G4 l _ _ s4 nl g4 e⟩
   refine bu (fun z=>c1 (V.int.inj (of_decide_eq_true z))) ?_;refine⟨_,rfl,zle,fun t2 n2=>dO n2 fun G4 s4 g4=>⟨t2,[V.int 14,V.int 15,V.int 16,V.int 17,V.int 18],rfl,.inr (bz.of g4),rfl,rfl,_,rfl,?_⟩⟩;have xF:(if false=true then !inV (.int (u0/1024)) [V.int 14,V.int 15,V.int 16,V.int 17,V.int 18]else inV (.int (u0/1024)) [V.int 14,V.int 15,V.int 16,V.int 17,V.int 18])=decide (u0/1024∈zJ):=(if_neg (by decide)).trans (gW (u0/1024) zJ);rw[xF];have qc:=s4 _ _ hls;have hb4:=s4 _ _ hb2;have Kh:=s4 _ _ hu2;by_cases c2:u0/1024∈zJ
   ·have ⟨h5,i6⟩:d.u∈five/\d.ts.map (bE ds i)=[u0 % 128-64]:=by
     have:=uc _ c2;rcases hcase with ⟨_,h,_⟩ | ⟨h,_,h2⟩ | ⟨_,h,_⟩ | ⟨_,_,h⟩
     ·omega
     ·exact⟨h,h2⟩
     ·omega
     ·omega
    have e:shd ds i d=some [u0 % 128-64]:=by unfold shd;rw[if_pos (.inr h5),i6]
    refine bY (decide_eq_true c2) ⟨_,rfl,.inl ⟨rfl,_,aV.of qc⟩,_,rfl,_,rfl,_,rfl,lb,_,i,.int (b:Int),rfl,rfl,aV.of hb4,ck Rn,lu,_,b,.int u0,rfl,rfl,aV.of Kh,ck (at_ 0 u0 rfl),_,_,rfl,rfl,B6,_,_,rfl,rfl,zle,fun l nl=>dO nl fun G5 s5 g5=>⟨lf,_,_,rfl,rfl,s5 _ _ qc,KZ,done G5 l [u0 % 128-64] _ (s4.trans s5) (s4.free nl) g5 e⟩⟩
   refine bu (by rw[decide_eq_false c2];decide) ⟨_,rfl,_,_,rfl,rfl,_,rfl,?_⟩;by_cases c3:19<u0/1024
   ·have ⟨h5,er⟩:d.u∈five/\r=d.ts.map (bE ds i):=by
     rcases hcase with ⟨_,h,_⟩ | ⟨_,h,_⟩ | ⟨h,_,h2⟩ | ⟨_,_,h⟩
     ·omega
     ·exact absurd h c2
     ·exact⟨h,h2⟩
     ·omega
    obtain⟨xs,t,_,i6,_⟩:∃(xs:List V) (t:Int),True/\d.ts=[t]/\True:=by
     have o:=A.ok d (ag hd);rcases eu _ h5 with z | z
     ·obtain⟨t,_,_,et⟩:=o.2.2.1 z;exact⟨[],t,trivial,et,trivial⟩
     ·obtain⟨_,t,_,_,et⟩:=o.2.2.2.1 z;exact⟨[],t,trivial,et,trivial⟩
    have e:shd ds i d=some [bE ds i t]:=by unfold shd;rw[if_pos (.inr h5),i6];rfl
    refine bY (decide_eq_true c3) ⟨_,rfl,.inl ⟨rfl,_,aV.of qc⟩,_,rfl,_,rfl,_,rfl,lb,_,i,.int (b:Int),rfl,rfl,aV.of hb4,ck Rn,_,_,rfl,rfl,lu,_,_,.int (bE ds i t),rfl,rfl,aV.of Kh,?_,zle,fun l nl=>dO nl fun G5 s5 g5=>⟨lf,_,_,rfl,rfl,s5 _ _ qc,KZ,done G5 l [bE ds i t] _ (s4.trans s5) (s4.free nl) g5 e⟩⟩;rw[show(b:Int)+1=((b+1:Nat):Int) by omega];exact ck (at_ 1 _ (by rw[er,i6];rfl))
   ·have e:shd ds i d=none:=by
     unfold shd;rw[if_neg];rintro(z | z)
     ·rcases hcase with ⟨_,h,_⟩ | ⟨_,h,_⟩ | ⟨_,h,_⟩ | ⟨h,_,_⟩
      ·exact c1 h
      ·exact c2 h
      ·exact c3 h
      ·exact h z
     ·rcases hcase with ⟨_,h,_⟩ | ⟨_,h,_⟩ | ⟨_,h,_⟩ | ⟨_,h,_⟩
      ·exact c1 h
      ·exact c2 h
      ·exact c3 h
      ·exact h z
    rw[e];refine bu (by rw[decide_eq_false c3];decide) ⟨_,_,rfl,s2.trans s4,?_⟩;show iD _ _ (_++ []);rw[append_nil];exact hL.same s4
  rintro σ G ⟨v3,v4,rfl,s2,hL⟩;rw[le]at hL;exact⟨_,rfl,k lf G s2 hL⟩
def IC:Sp:=fun vs H Q _=>∃(lr:Addr) (ds:List FR),vs=[.ref lr]/\dz H lr ds/\dn ds/\1<=ds.length/\ds.length<=1000/\(bw ds ds.length).length<=20000/\∀H',Same H H'->Q (.bl true) H'
theorem IE:aE ["_law_rows","_law_units"] ["_law_rows"] (ak jg):=by walk_at "sc1"
theorem ug{vq di f fU fR fD fS:Addr}{fd OU vC yO mZ:ed}(F:cr K "_law_again" "_law_again" jg f fd)(T:Txt K w.params mg)(GU:aD P w K mg base (eU P w) 6 fU OU ["rows"] (tK vq))(kU:KI K fU)(bU:Binds K OU ["rows"] [])(mU:mg "units_of"=some (.ref fU))(GR:aD P w K mg base (eU P w) 8 fR vC ["units"] (CP di))(kR:KI K fR)(bR:Binds K vC ["units"] [])(mR:mg "rows_of_units"=some (.ref fR))(GD:aD P w K mg base cm 8 fD yO ["text"] Im)(kD:KI K fD)(bD:Binds K yO ["text"] [])(mD:mg "read_rows"=some (.ref fD))(GS:aD P w K mg base cm 3 fS mZ ["rows"] Ij)(kS:KI K fS)(bS:Binds K mZ ["rows"] [])(mS:mg "shown_rows"=some (.ref fS)):aD P w K mg base cm 10 f fd ["_law_rows"] IC:=by
 refine F.ok IE (by walk_at "ln") (fun cdv A outer s H vs Q E hr h=>?_)
 ·obtain⟨lr,ds,rfl,hR,A,h1,hn,Fg,k⟩:=h;have Kz:=lt_of_le_of_lt (Nat.add_le_add_left (by decide:6<=64) _) hr.units;have hne:ds≠ []:=fun z=>by rw[z]at h1;exact absurd h1 (by decide)
  refine cU (au (ay (aI (i:=1) IE.nd rfl (Or.inl rfl) (ao GU (hr.mono (by decide)) (by rfl) mU kU bU .nil rY (ae (pv 0) af))))
   (aw (ay (aC (ib (cO (sM Kz) (ao GR (hr.mono (by decide)) (by rfl) mR kR bR .nil rY (ae (pv 1) af)) (pv 0) (aQ _)) (ft (cO (sM Kz) (ao GD (hr.mono (by decide)) (by rfl) mD kD bD .nil aS (ae (ao GS (hr.mono (by decide)) (by rfl) mS kS bS .nil aS (ae (pv 0) af)) af)) (pv 0) (aQ _)))))))) ?_
  refine⟨_,rfl,lr,ds,rfl,hR,A.tg,fun d hd=>(A.far d hd).1,by omega,fun _ l H1 s1 _ hl=>?_,fun r e=>by rw[A.first]at e;cases e⟩;refine⟨_,rfl,l,_,rfl,hl,by omega,?_⟩;rw[pU A hne];intro l2 H2 s2 _ SG;have s12:=s1.trans s2;refine⟨_,rfl,rZ SG (hR.same s12) ⟨_,rfl,bY rfl ?_⟩⟩;refine⟨_,rfl,lr,ds,rfl,hR.same s12,A.Iz hn,hn,fun H3 s3=>⟨ds,rfl,hne,A.Iz hn,hn,fun l3 H4 s4 _ Ro=>⟨_,rfl,rZ Ro (hR.same (s12.trans (s3.trans s4))) (k _ (s12.trans (s3.trans s4)))⟩⟩⟩
def eN(v:Int)(d:FR):FR:=if d.u∈five then ⟨d.u,d.is.dropLast++ [v],d.ts⟩else d
theorem uh(v:Int)(d:FR):(eN v d).ts=d.ts:=by unfold eN;split<;>rfl
theorem mE(v:Int)(d:FR):(eN v d).u=d.u:=by unfold eN;split<;>rfl
theorem vU{v:Int}{d:FR}(h:d.u∈five):dh (eN v d)=v:=by unfold eN dh;rw[if_pos h];simp
theorem Gk:∀u∈five,∀k∈aZ u,gP k 0=true:=by decide+kernel
theorem Ba{d:FR}{n:Int}(h:GoodR d n):GoodR (eN 0 d) n:=by
 refine⟨by rw[uh];exact h.1,by rw[uh];exact h.2.1,fun z=>?_,fun i k m hk hm=>?_,fun z=>?_⟩
 ·rw[mE]at z;exact .inl (vU z)
 ·rw[mE]at hk;unfold eN at hm;by_cases h5:d.u∈five
  ·rw[if_pos h5]at hm;have hm:(d.is.dropLast++ [0])[i]? =some m:=hm;by_cases c:i<d.is.dropLast.length
   ·rw[ap c,List.getElem?_dropLast]at hm;split at hm
    ·exact h.2.2.2.1 i k m hk hm
    ·cases hm
   ·rw[ar (by omega)]at hm;rw[mem_singleton.mp (ag hm)];exact Gk _ h5 k (ag hk)
  ·rw[if_neg h5]at hm;exact h.2.2.2.1 i k m hk hm
 ·rw[uh];rw[mE]at z;exact h.2.2.2.2 z
theorem ui{v:Int}{d:FR}(o:d.Ok):(eN v d).Ok:=by
 unfold eN;split
 ·rename_i h5;rcases eu _ h5 with z | z
  ·obtain⟨t,f,e,et⟩:=o.2.2.1 z;have h:=(jD (H:=fun _=>some (.tup [.str d.u,.int t,.int v])) (q:=(0:Nat)) (u:=d.u) (t:=t) (f:=v) z rfl).1;rw[e,et];exact h
  ·obtain⟨b,t,f,e,et⟩:=o.2.2.2.1 z;have h:=(lZ (H:=fun _=>some (.tup [.str d.u,.int b,.int t,.int v])) (q:=(0:Nat)) (u:=d.u) (b:=b) (t:=t) (f:=v) z rfl).1;rw[e,et];exact h
 ·exact o
theorem zR{v:Int}{d:FR}(o:d.Ok)(h:d.u∈five->dh d=v):eN v d=d:=by
 unfold eN;split
 ·rename_i h5;have hf:=h h5;obtain⟨u,is,ts⟩:=d;unfold dh at hf;rcases eu _ h5 with z | z
  ·obtain⟨t,f,e,et⟩:=o.2.2.1 z;cases e;cases hf;rfl
  ·obtain⟨b,t,f,e,et⟩:=o.2.2.2.1 z;cases e;cases hf;rfl
 ·rfl
theorem K0(d:FR):gE d=eN 1 d:=rfl
theorem K1(a b:Int)(d:FR):eN a (eN b d)=eN a d:=by
 unfold eN;by_cases h:d.u∈five
 ·rw[if_pos h,if_pos h,if_pos h];simp
 ·rw[if_neg h,if_neg h]
def shr(ds:List FR):List FR:=ds.map (eN 0)
theorem uj{ds:List FR}{r:Nat}{d:FR}(h:ds[r]? =some d):(shr ds)[r]? =some (eN 0 d):=by unfold shr;rw[ac,h];rfl
theorem eV(ds:List FR):(shr ds).length=ds.length:=length_map ..
def OV(ds:List FR)(x:Nat):Bool:=match ds[x]? with
 | some d=>decide (d.u∈five)&&decide (dh d=1)
 | none=>false
def Gm(ds:List FR):List Nat:=(List.range ds.length).filter (OV ds)
theorem uk{ds:List FR}{x:Nat}{d:FR}(h:ds[x]? =some d):x∈Gm ds↔d.u∈five/\dh d=1:=by unfold Gm;rw[mem_filter,mem_range];unfold OV;rw[h];have:=(ad.mp h).1;simp[this]
theorem DU{ds:List FR}{x:Nat}(h:x∈Gm ds):x<ds.length:=mem_range.mp (mem_filter.mp h).1
theorem vV{ds:List FR}(A:dn ds):df (shr ds) (Gm ds)=ds:=by
 refine List.ext_getElem? fun r=>?_;cases hd:ds[r]? with
 | none=>
  rw[List.getElem?_eq_none];rw[fq,eV];exact List.getElem?_eq_none_iff.mp hd
 | some d=>
  have hm:=ag hd;rw[jF (uj hd)];congr 1;by_cases hx:r∈Gm ds
  ·rw[if_pos hx,K0,K1];exact zR (A.ok d hm) fun _=>((uk hd).mp hx).2
  ·rw[if_neg hx];refine zR (A.ok d hm) fun h5=>?_;rcases(A.far d hm).1 h5 with z | z
   ·exact z
   ·exact absurd ((uk hd).mpr ⟨h5,z⟩) hx
theorem sd{ds:List FR}:∀x∈Gm ds,cH (shr ds) x:=fun x hx=>by have hd:ds[x]? =some (ds[x]'(DU hx)):=aa (DU hx);obtain⟨h5,_⟩:=(uk hd).mp hx;refine⟨_,uj hd,?_⟩;unfold aX;rw[vU h5,mE];simp[h5]
theorem qd{ds:List FR}(A:dn ds):i5 (shr ds):=fun d hd=>by rw[eV];obtain⟨d0,h0,rfl⟩:=mem_map.mp hd;exact Ba (A.good d0 h0)
theorem Gn{ds:List FR}(hG:i5 ds){L:List Nat}(hL:∀x∈L,cH ds x)(hgood:∀(r:Nat) d,(df ds L)[r]? =some d->aX d=true->bf (dst (df ds L) r d)=true):∀x,zB ds x->x∈L:=by
 intro x hx
 induction hx with
 | @mk r d L' hL' hd hs hb ih=>
  refine Decidable.byContradiction fun hn=>?_;have h1:=hgood r d (by rw[jF hd,if_neg hn]) hs;have hr:=(ad.mp hd).1;have hg:=hG d (ag hd);have ht:∃t:Nat,d.ts.headD 0=(t:Int)/\t<ds.length:=by
   cases hts:d.ts with
   | nil=>exact⟨0,rfl,by omega⟩
   | cons t0 tl=>
    obtain⟨a,b⟩:=hg.2.1 t0 (by rw[hts];simp);obtain⟨tn,rfl⟩:=Int.eq_ofNat_of_zero_le a;exact⟨tn,rfl,by omega⟩
  obtain⟨t,et,htl⟩:=ht;unfold dst at hb h1;rw[et]at hb h1;have:=vM hG hL ih hr htl hb;rw[this]at h1;cases h1
theorem Gp{ds:List FR}(A:dn ds){L:List Nat}(hL:∀x,x∈L↔zB (shr ds) x):dn (df (shr ds) L)/\(bw (df (shr ds) L) (df (shr ds) L).length).length<=(bw ds ds.length).length:=by
 have hS:∀x∈L,cH (shr ds) x:=fun x hx=>((hL x).mp hx).short;have hsub:∀x∈L,x∈Gm ds:=fun x hx=>Gn (qd A) sd (by rw[vV A];exact A.bears) x ((hL x).mp hx);have at_:∀(r:Nat) d',(df (shr ds) L)[r]? =some d'->∃d,ds[r]? =some d/\d'=if r∈L then gE (eN 0 d)else eN 0 d:=fun r d' h=>by have hr:=(ad.mp h).1;rw[fq,eV]at hr;have hd:ds[r]? =some ds[r]:=aa hr;rw[jF (uj hd)]at h;cases h;exact⟨_,hd,rfl⟩
 have B:dn (df (shr ds) L):=by
  refine⟨fun d' hd'=>?_,fun d' hd'=>A7 (qd A) L d' hd',fun r d' hd' hs=>?_,fun d' hd'=>?_⟩
  ·obtain⟨r,hr⟩:=List.getElem?_of_mem hd';obtain⟨d,hd,rfl⟩:=at_ r d' hr;have o:=A.ok d (ag hd);split
   ·exact ui (ui o)
   ·exact ui o
  ·obtain⟨d,hd,rfl⟩:=at_ r d' hd';by_cases hm:r∈L
   ·rw[if_pos hm,xC]at hs;cases hs
   ·rw[if_neg hm]at hs ⊢;exact Decidable.byContradiction fun hn=>hm ((hL r).mpr (.mk L (fun x hx=>(hL x).mp hx) (uj hd) hs (by simpa using hn)))
  ·rw[fq,eV]at hd';obtain⟨d,hd,rfl⟩:=at_ _ d' hd';have h:=A.last d hd;split
   ·rw[mq,mE];exact h
   ·rw[mE];exact h
 refine⟨B,?_⟩;have h1:=dW B _ (le_refl _);have h2:=dW A _ (le_refl _);have h3:=jn hS ds.length (by rw[eV];exact le_refl _);have h4:=jn (ds:=shr ds) (L:=Gm ds) sd ds.length (by rw[eV];exact le_refl _);rw[vV A]at h4;have h5:=ly (L:=Gm ds) (L':=L) hsub (a:=0) ds.length;have c0:∀l:List Nat,cnt l 0=0:=fun l=>rfl;rw[c0,c0,Nat.zero_add]at h5;rw[show(df (shr ds) L).length=ds.length by rw[fq,eV]]at h1 ⊢;omega
theorem DV{K:Frag}{H:Hp}{p q:Addr}{xs:List Int}{Q:VK}(h1:H p=some (.lst (xs.map V.int)))(h2:H q=some (.lst (xs.map V.int)))(k:Q (.bl false) H):BK K true (.ref p) (.ref q) H Q:=by refine⟨1,p,q,_,_,rfl,rfl,(HD.B3 h1 (jG xs)).da K,(HD.B3 h2 (jG xs)).da K,.lst (lD 0 xs),.lst (lD 0 xs),by decide,?_⟩;rw[decide_eq_true rfl];exact k
theorem DW{K:Frag}{H:Hp}{p q:Addr}{L:List (List Int)}{Q:VK}(h1:iD H p L)(h2:iD H q L)(k:Q (.bl false) H):BK K true (.ref p) (.ref q) H Q:=by refine⟨2,p,q,_,_,rfl,rfl,h1.hd.da K,h2.hd.da K,iD.nb L,iD.nb L,by decide,?_⟩;rw[decide_eq_true rfl];exact k
def xK(G:Hp)(lf:Addr)(ds:List FR)(i:Nat):Prop:=∃es:List Addr,G lf=some (.lst (es.map V.ref))/\es.length=i/\∀(j:Nat) q d,es[j]? =some q->ds[j]? =some d->bZ G q (eN 0 d)
theorem xK.rows{G:Hp}{lf:Addr}{ds:List FR}(h:xK G lf ds ds.length):dz G lf (shr ds):=by obtain⟨es,a,b,c⟩:=h;refine⟨es,a,by rw[b,eV],fun i q d h1 h2=>?_⟩;unfold shr at h2;rw[ac]at h2;obtain⟨d0,hd,rfl⟩:=map_eq_some_iff.mp h2;exact c i q d0 h1 hd
theorem xK.push{G:Hp}{lf q:Addr}{ds:List FR}{d:FR}{es:List Addr}(hl:G lf=some (.lst (es.map V.ref)))(hd:ds[es.length]? =some d)(hr:bZ G q (eN 0 d))(h:∀(j:Nat) q d,es[j]? =some q->ds[j]? =some d->bZ G q (eN 0 d)):xK (upd G lf (.lst (es.map V.ref++ [.ref q]))) lf ds (es.length+1):=by
 refine⟨es++ [q],by rw[ai,map_append];rfl,by rw[length_append];rfl,fun j p e h1 h2=>?_⟩;by_cases c:j<es.length
 ·rw[ap c]at h1;exact(h j p e h1 h2).put hl
 ·have hj:=(ad.mp h1).1;rw[length_append,length_singleton]at hj;have ej:j=es.length:=by omega
  rw[ej,ar (le_refl _),sub_self]at h1;rw[ej,hd]at h2;cases h1;cases h2;exact hr.put hl
def zS:Sp:=fun vs H Q _=>∃(a:Addr) (ns:List Int),vs=[.ref a]/\aV K H a (ns.map V.int)/\∀H',Q (.bl true) H'
theorem nq:aE ["_law_script","_law_units","_law_begins","_law_rows","_law_short","_law_row","_law_least"] ["_law_script"] (ak k4):=by walk_at "sc1"
theorem K2{vq di f fN fR fK fL fU fD fW fA fM:Addr}{fd vA vC Yg HP OU yO nh N6 OD:ed}(F:cr K "law" "law" k4 f fd)(T:Txt K w.params mg)(GN:aD P w K mg base cm 2 fN vA ["_law_script"] (Iy (K:=K)))(kN:KI K fN)(bN:Binds K vA ["_law_script"] [])(mN:mg "_law_unit_list"=some (.ref fN))(GR:aD P w K mg base (eU P w) 8 fR vC ["units"] (CP di))(kR:KI K fR)(bR:Binds K vC ["units"] [])(mR:mg "rows_of_units"=some (.ref fR))(GK:aD P w K mg base cm 7 fK Yg ["rows"] N8)(kK:KI K fK)(bK:Binds K Yg ["rows"] [])(mK:mg "check_rows"=some (.ref fK))(GL:aD P w K mg base (eU P w) 5 fL HP ["rows"] (pK vq))(kL:KI K fL)(bL:Binds K HP ["rows"] [])(mL:mg "check_layout"=some (.ref fL))(GU:aD P w K mg base (eU P w) 6 fU OU ["rows"] (tK vq))(kU:KI K fU)(bU:Binds K OU ["rows"] [])(mU:mg "units_of"=some (.ref fU))(GD:aD P w K mg base cm 1 fD yO ["_law_rows","_law_begins"] IA)(kD:KI K fD)(bD:Binds K yO ["_law_rows","_law_begins"] [])(mD:mg "_law_distances"=some (.ref fD))(GW:aD P w K mg base cm 1 fW nh ["_law_units","_law_begins"] IB)(kW:KI K fW)(bW:Binds K nh ["_law_units","_law_begins"] [])(mW:mg "_law_shown"=some (.ref fW))(GA:aD P w K mg base cm 10 fA N6 ["_law_rows"] IC)(kA:KI K fA)(bA:Binds K N6 ["_law_rows"] [])(mA:mg "_law_again"=some (.ref fA))(GM:aD P w K mg base cm 6 fM OD ["rows"] zD)(kM:KI K fM)(bM:Binds K OD ["rows"] [])(mM:mg "least_layout"=some (.ref fM)):aD P w K mg base cm 11 f fd ["_law_script"] (zS (K:=K)):=by
 refine F.ok nq (by walk_at "ln") (fun cdv A outer s H vs Q E hr h=>?_)
 ·obtain⟨a,ns,rfl,hS,k⟩:=h;have Kz:=lt_of_le_of_lt (Nat.add_le_add_left (by decide:6<=64) _) hr.units
  refine cU (au (ay (Jc (ao GN (hr.mono (by decide)) (by rfl) mN kN bN .nil aS (ae (pv 0) af)) (Br (n:=2) rfl (kj (cq (i:=1) nq.nd rfl (Or.inl rfl)) (kj (cq (i:=2) nq.nd rfl (Or.inl rfl)) yi)))))
   (au (ay (aI (i:=3) nq.nd rfl (Or.inl rfl) (ao GR (hr.mono (by decide)) (by rfl) mR kR bR .nil rY (ae (cw dZ (by rfl) T.list iM (ae (pv 1) af)) af))))
   (au (cv (iS (aJ yn (aN aM (by rfl) T.len cE (ae (pv 3) af)) (aA dY (aN aM (by rfl) T.len cE (ae (pv 2) af)) ah) (aQ _)) (iS (aJ yo (ao GK (hr.mono (by decide)) (by rfl) mK kK bK .nil aS (ae (pv 3) af)) iG (aQ _)) (ia (aJ yo (ao GL (hr.mono (by decide)) (by rfl) mL kL bL .nil rY (ae (pv 3) af)) iG (aQ _))))).pt (aw (ay (aC jO))) (cu aO))
   (au (cv (iS (aJ (BL Kz) (ao GU (hr.mono (by decide)) (by rfl) mU kU bU .nil rY (ae (pv 3) af)) (pv 1) (aQ _)) (iS (aJ (BL Kz) (ao GD (hr.mono (by decide)) (by rfl) mD kD bD .nil aS (ae (pv 3) (ae (pv 2) af))) (ao GW (hr.mono (by decide)) (by rfl) mW kW bW .nil aS (ae (pv 1) (ae (pv 2) af))) (aQ _)) (ia (dD (bQ (ao GA (hr.mono (by decide)) (by rfl) mA kA bA .nil aS (ae (pv 3) af))))))).pt (aw (ay (aC jO))) (cu aO))
   (au (ay (aI (i:=4) nq.nd rfl (Or.inl rfl) (cD af)))
   (au (ay (eE PassesOwn.never rfl (eP (pv 3)) (cq (i:=5) nq.nd rfl (Or.inl rfl)) (aq (cN (aJ cy (aF aY (pv 5) ah (fun _ _=>rfl)) (gX (.cons aW (.cons aW (.cons aW (.cons aW (.cons aW .nil)))))) rfl) (az (aI (i:=5) nq.nd rfl (Or.inl rfl) (aA jx (cL lS (pv 5) dI (cK (eY dG ah))) (cG (ae ah af))))) aO)
   (az (cC (dg fv fw gf bV (pv 4) (ae (pv 5) af)))))))
   (au (ay (aI (i:=6) nq.nd rfl (Or.inl rfl) (ao GM (hr.mono (by decide)) (by rfl) mM kM bM .nil aS (ae (pv 4) af))))
   (aw (ay (aC (ib (cO ja (aN aM (by rfl) T.len cE (ae (ao GU (hr.mono (by decide)) (by rfl) mU kU bU .nil rY (ae (pv 6) af)) af)) (aN aM (by rfl) T.len cE (ae (pv 1) af)) (aQ _)) (ft (ao GA (hr.mono (by decide)) (by rfl) mA kA bA .nil aS (ae (pv 6) af)))))))))))))) ?_
  refine⟨_,rfl,a,ns,rfl,hS,fun t lu lb ds H1 s1 ht hu hb h1 hn Fg A TH=>?_⟩;have hne:ds≠ []:=fun z=>by rw[z]at h1;exact absurd h1 (by decide)
  refine⟨t,_,rfl,bz.of ht,rfl,_,_,rfl,_,_,rfl,rfl,?_⟩;refine⟨_,rfl,lu,_,rfl,.inl (aV.of hu),fun l2 n2=>dO n2 fun G2 s2 g2=>?_⟩;refine⟨l2,_,rfl,g2,by omega,?_⟩;rw[pU A hne];intro lr G3 s3 _ hR;have DQ:=s2.trans s3;have hu3:=DQ _ _ hu;have hb3:=DQ _ _ hb;have rM:=s1.trans DQ;have hfirst:=A.first;have hrn:ds.length<=1000:=by omega
  obtain⟨qs,r1,r2,r3⟩:=id hR;have hl1:(qs.map V.ref).length=ds.length:=by rw[length_map,r2]
  have hl2:((eB ds ds.length).map V.int).length=ds.length+1:=by rw[length_map,k8]
  have hl3:((bw ds ds.length).map V.int).length=(bw ds ds.length).length:=length_map ..;refine⟨_,rfl,lr,_,rfl,.inl (aV.of r1),_,rfl,lb,_,rfl,.inl (aV.of hb3),_,_,rfl,rfl,⟨rfl,_,rfl,?_⟩⟩;refine bu (by rw[hl1,hl2];simp) ?_;refine⟨_,rfl,lr,ds,rfl,hR,A.rows h1 hrn,fun H4 s4=>⟨rfl,_,rfl,bu (by decide) ?_⟩⟩;have Ro:=hR.same s4;refine⟨_,rfl,lr,ds,rfl,Ro,A.tg,by omega,fun _ H5 s5=>⟨rfl,_,rfl,bu (by decide) ?_⟩,fun r e=>by rw[hfirst]at e;cases e⟩;have TK:=Ro.same s5;have Bi:=s4.trans s5;have D3:=Bi _ _ hu3;have NQ:=Bi _ _ hb3;have s15:=rM.trans Bi;refine⟨_,rfl,lr,ds,rfl,TK,A.tg,fun d hd=>(A.far d hd).1,by omega,fun _ l6 H6 s6 _ Rg=>?_,fun r e=>by rw[hfirst]at e;cases e⟩;refine⟨_,rfl,DV Rg (s6 _ _ D3) ⟨_,rfl,bu (by decide) ?_⟩⟩;have hR6:=TK.same s6;have TL:=s6 _ _ D3;have Rk:=s6 _ _ NQ;refine⟨_,rfl,_,rfl,lr,lb,ds,rfl,hR6,Rk,A.tg,hrn,fun l7 H7 s7 hL7=>?_⟩;refine⟨_,rfl,_,rfl,lu,lb,ds,rfl,s7 _ _ TL,s7 _ _ Rk,A,TH,hrn,fun l8 H8 s8 hL8=>DW (hL7.same s8) hL8 ⟨_,rfl,bu (by decide) ?_⟩⟩;have LW:=s6.trans (s7.trans s8);have Yh:=TK.same LW;refine⟨_,rfl,lr,ds,rfl,Yh,A,h1,hrn,by omega,fun H9 s9=>⟨_,rfl,bu (by decide) ?_⟩⟩;have hR9:=Yh.same s9;have s19:=s15.trans (LW.trans s9);have Ts:=s9 _ _ (LW _ _ D3);obtain⟨qs,q1,q2,q3⟩:=id hR9;clear r1 r2 r3 hl1;refine⟨zle,fun lf nf=>dO nf fun G1 t1 g1=>?_⟩;refine⟨_,rfl,lr,rfl,⟨_,aV.of (t1 _ _ q1)⟩,?_⟩;refine oA (K:=K) (xs:=qs.map V.ref) (fun i σ G=>∃v5:Option V,σ=[some (.ref a),some (.ref lu),some (.ref lb),some (.ref lr),some (.ref lf),v5,none]/\Same H9 G/\xK G lf ds i) ?_ ?_ ?_ ?_
  ·exact⟨none,rfl,t1,[],g1,rfl,fun j q d e=>by simp at e⟩
  ·rintro i σ G _ ⟨v5,rfl,t2,_⟩;exact aV.of (t2 _ _ q1)
  ·rintro i y σ G hy ⟨v5,rfl,t2,hL⟩;rw[ac]at hy;obtain⟨q,hq,rfl⟩:=map_eq_some_iff.mp hy;have hi:i<ds.length:=by have:=(ad.mp hq).1;omega
   have hd:ds[i]? =some ds[i]:=aa hi;generalize ds[i]=d at hd;have hrow:=(q3 i q d hq hd).same t2;obtain⟨Jz,i1,_,i3,_⟩:=hrow.parts;obtain⟨es,el,rfl,er⟩:=hL;have KZ:(es.map V.ref).length<ee:=aT (by rw[length_map];omega);have done:∀(G':Hp) (q':Addr),Same G G'->bZ G' q' (eN 0 d)->∃v5:Option V,[some (V.ref a),some (.ref lu),some (.ref lb),some (.ref lr),some (.ref lf),some (.ref q'),none]=[some (.ref a),some (.ref lu),some (.ref lb),some (.ref lr),some (.ref lf),v5,none]/\Same H9 (upd G' lf (.lst (es.map V.ref++ [.ref q'])))/\xK (upd G' lf (.lst (es.map V.ref++ [.ref q']))) lf ds (es.length+1):=fun G' q' t3 hr'=>⟨_,rfl,aL (t2.trans t3) nf,xK.push (t3 _ _ el) hd hr' fun j p e h1 h2=>(er j p e h1 h2).same t3⟩;refine⟨_,rfl,q,_,0,_,rfl,rfl,bz.of i1,at0 _ _,zle,fun Sn n2=>dO n2 fun G4 OW g4=>⟨Sn,((["jump","zero","below","call","mark"]):List Str).map V.str,rfl,.inr (bz.of g4),rfl,rfl,_,rfl,?_⟩⟩;have xF:(if false=true then !inV (.str d.u) (((["jump","zero","below","call","mark"]):List Str).map V.str)else inV (.str d.u) (((["jump","zero","below","call","mark"]):List Str).map V.str))=decide (d.u∈five):=(if_neg (by decide)).trans ((dS _ _).trans (zO _));rw[xF];have LX:=OW _ _ el;have IG:=hrow.same OW;by_cases h5:d.u∈five
   ·refine bY (decide_eq_true h5) ?_;have eS:eN 0 d=⟨d.u,d.is.dropLast++ [0],d.ts⟩:=if_pos h5;rw[eS]at done;obtain⟨nt,y1,_⟩:=d8 IG h5;rcases eu _ h5 with z | z
    ·obtain⟨tt,ff,e1,e2⟩:=hrow.1.2.2.1 z;have ep:G4 q=some (.tup [V.str d.u,V.int tt,V.int ff]):=by rw[y1,e1];rfl
     rw[e1,e2]at done;refine⟨_,rfl,1,rfl,-1,rfl,q,_,rfl,bz.of ep,(fun z=>absurd z.2 (by show ¬(2:Nat)=3;decide)),fun ta KD=>?_⟩;refine⟨i0,fun tb Dz=>?_⟩;refine⟨ta,tb,[V.str d.u,V.int tt],_,rfl,rfl,bz.of (aj Dz _ _ ai),bz.of ai,cons_ne_nil _ _,kX,fun z=>absurd z (cons_ne_nil _ _),fun _ tc KG=>?_⟩;have t3:=((aj (o:=.tup [V.str d.u,V.int tt]) KD).trans (aj (o:=.tup [V.int 0]) Dz)).trans (aj (o:=.tup [V.str d.u,V.int tt,V.int 0]) KG);refine⟨_,rfl,.inl ⟨rfl,_,aV.of (t3 _ _ LX)⟩,_,rfl,lf,_,_,rfl,rfl,t3 _ _ LX,KZ,?_⟩;exact done _ tc (OW.trans t3) (jD z ai)
    ·obtain⟨bb,tt,ff,e1,e2⟩:=hrow.1.2.2.2.1 z;have ep:G4 q=some (.tup [V.str d.u,V.int bb,V.int tt,V.int ff]):=by rw[y1,e1];rfl
     rw[e1,e2]at done;refine⟨_,rfl,1,rfl,-1,rfl,q,_,rfl,bz.of ep,(fun z=>absurd z.2 (by show ¬(3:Nat)=4;decide)),fun ta KD=>?_⟩;refine⟨i0,fun tb Dz=>?_⟩;refine⟨ta,tb,[V.str d.u,V.int bb,V.int tt],_,rfl,rfl,bz.of (aj Dz _ _ ai),bz.of ai,cons_ne_nil _ _,B5,fun z=>absurd z (cons_ne_nil _ _),fun _ tc KG=>?_⟩;have t3:=((aj (o:=.tup [V.str d.u,V.int bb,V.int tt]) KD).trans (aj (o:=.tup [V.int 0]) Dz)).trans (aj (o:=.tup [V.str d.u,V.int bb,V.int tt,V.int 0]) KG);refine⟨_,rfl,.inl ⟨rfl,_,aV.of (t3 _ _ LX)⟩,_,rfl,lf,_,_,rfl,rfl,t3 _ _ LX,KZ,?_⟩;exact done _ tc (OW.trans t3) (lZ z ai)
   ·refine bu (by rw[decide_eq_false h5];decide) ?_;rw[show eN 0 d=d from if_neg h5]at done;exact⟨_,rfl,.inl ⟨rfl,_,aV.of LX⟩,_,rfl,lf,_,_,rfl,rfl,LX,KZ,done _ q OW IG⟩
  rintro σ G ⟨v5,rfl,t2,hL⟩;rw[length_map,q2]at hL;have hRs:=hL.rows;have xH:=t2 _ _ Ts;clear hL;refine⟨_,rfl,lf,shr ds,rfl,hRs,qd A,by rw[eV];omega,fun lm L QT t11 _ Yi hLf=>?_⟩;obtain⟨B,hle⟩:=Gp A hLf;have hlm:(df (shr ds) L).length=ds.length:=by rw[fq,eV]
  have hBf:=B.first;refine⟨_,rfl,lm,_,rfl,Yi,B.tg,fun d hd=>(B.far d hd).1,by omega,fun _ l12 H12 Yj _ TN=>?_,fun r e=>by rw[hBf]at e;cases e⟩;refine⟨l12,_,rfl,.inl (aV.of TN),_,rfl,lu,_,rfl,.inl (aV.of (Yj _ _ (t11 _ _ xH))),?_⟩;refine⟨_,_,rfl,rfl,_,rfl,bY (decide_eq_true ?_) ⟨_,rfl,lm,_,rfl,Yi.same Yj,B,by omega,by omega,by omega,fun H' _=>k _⟩⟩;rw[length_map,length_map];omega
abbrev LY:Stmt:=inClass (top 4) 0
theorem TQ:aE ["self","at"] ["self","at"] (ak LY):=by walk_at "sc1"
theorem OX{f C R:Addr}{fd:ed}(F:cr K "__init__" "NoLayout.__init__" LY f fd)(c:gu K C R f)(hm:mg "RowError"=some (.ref R)):aD P w K mg base cm 1 f fd ["self","at"] (o7 C):=by
 refine F.ok TQ (by walk_at "ln") (fun cdv A outer s H vs Q E hr h=>?_)
 ·obtain⟨e,i,rfl,he,hi,k⟩:=h;refine⟨_,aq (cC (yD c (by rfl) hm (ae (pv 0) (ae (yC (pv 1) (by decide)) af)))) (az (BP c (pv 0) (pv 1) rfl)),?_⟩;refine⟨_,rfl,_,rfl,i,rfl,hi,fun u=>⟨e,_,rfl,he,?_⟩⟩;refine⟨_,rfl,_,rfl,e,rfl,ai,fun d nd de=>?_⟩;rw[JL de];rw[aG de]at nd;exact k d nd de
abbrev Bb:Stmt:=inClass (top 5) 0
theorem OY:aE ["self","at"] ["self","at"] (ak Bb):=by walk_at "sc1"
theorem K3{f C R:Addr}{fd:ed}(F:cr K "__init__" "NoUnits.__init__" Bb f fd)(c:gu K C R f)(hm:mg "RowError"=some (.ref R)):aD P w K mg base cm 1 f fd ["self","at"] (o7 C):=by
 refine F.ok OY (by walk_at "ln") (fun cdv A outer s H vs Q E hr h=>?_)
 ·obtain⟨e,i,rfl,he,hi,k⟩:=h;refine⟨_,aq (cC (yD c (by rfl) hm (ae (pv 0) (ae (yC (pv 1) (by decide)) af)))) (az (BP c (pv 0) (pv 1) rfl)),?_⟩;refine⟨_,rfl,_,rfl,i,rfl,hi,fun u=>⟨e,_,rfl,he,?_⟩⟩;refine⟨_,rfl,_,rfl,e,rfl,ai,fun d nd de=>?_⟩;rw[JL de];rw[aG de]at nd;exact k d nd de
end
set_option maxHeartbeats 8000000
theorem xM{α:Type}{p:α->Prop}:∀x∈([]:List α),p x:=fun x h=>absurd h (by simp)
theorem aU{α:Type}{p:α->Prop}{a:α}{l:List α}(h:p a)(t:∀x∈l,p x):∀x∈a::l,p x:=fun x hx=>by
 rcases mem_cons.mp hx with rfl | hx
 ·exact h
 ·exact t x hx
theorem mQ:∀hs:List Addr,Vals (hs.map V.ref) (hs.map Value.ref)
 | []=>.nil
 | a::r=>.cons (show RelV (.ref a) (.ref a)from rfl) (mQ r)
inductive um(K:Frag)(H:Hp):List Addr->List (Str×Int)->Prop
 | nil:um K H [] []
 | cons {q:Addr} {u:Str} {f:Int} {qs:List Addr} {hs:List (Str×Int)}:bz K H q [.str u,.int f]->um K H qs hs->um K H (q::qs) ((u,f)::hs)
theorem um.len{K:Frag}{H:Hp}:∀{qs:List Addr} {hs:List (Str×Int)},um K H qs hs->qs.length=hs.length
 | _,_,.nil=>rfl
 | _,_,.cons _ r=>congrArg (· +1) r.len
theorem um.get{K:Frag}{H:Hp}{qs:List Addr}{hs:List (Str×Int)}(h:um K H qs hs):∀(i:Nat) q x,qs[i]? =some q->hs[i]? =some x->bz K H q [.str x.1,.int x.2]:=by
 induction h with
 | nil=>intro i q x h;simp at h
 | cons h0 _ ih=>
  intro i q x h1 h2;cases i with
  | zero=>cases h1;cases h2;exact h0
  | succ i=>exact ih i q x (by simpa using h1) (by simpa using h2)
theorem lE{K:Frag}{x q:Str}{st:Stmt}{f:Addr}{fd:ed}{a:Str}(F:cr K x q st f fd)(h:∀(kV doc pm:Value) (an:Option Addr) (cdv ct u:Value),bindArgs (fnOf x q (dM st) (dq st) (ak st) .none kV doc pm an cdv ct) ⟨[u],[]⟩=pure [(a,u)]):Binds K fd [a] []:=F.binds fun kV doc pm an cdv ct us hl=>match us,hl with | [u],_=>h kV doc pm an cdv ct u
theorem qq{K:Frag}{x q:Str}{st:Stmt}{f:Addr}{fd:ed}{a b:Str}(F:cr K x q st f fd)(h:∀(kV doc pm:Value) (an:Option Addr) (cdv ct u v:Value),bindArgs (fnOf x q (dM st) (dq st) (ak st) .none kV doc pm an cdv ct) ⟨[u,v],[]⟩=pure [(a,u),(b,v)]):Binds K fd [a,b] []:=F.binds fun kV doc pm an cdv ct us hl=>match us,hl with | [u,v],_=>h kV doc pm an cdv ct u v
theorem LZ{K:Frag}{x q:Str}{st:Stmt}{f:Addr}{fd:ed}{a b c:Str}(F:cr K x q st f fd)(h:∀(kV doc pm:Value) (an:Option Addr) (cdv ct u v y:Value),bindArgs (fnOf x q (dM st) (dq st) (ak st) .none kV doc pm an cdv ct) ⟨[u,v,y],[]⟩=pure [(a,u),(b,v),(c,y)]):Binds K fd [a,b,c] []:=F.binds fun kV doc pm an cdv ct us hl=>match us,hl with | [u,v,y],_=>h kV doc pm an cdv ct u v y
theorem bq4{K:Frag}{x q:Str}{st:Stmt}{f:Addr}{fd:ed}{a b c d:Str}(F:cr K x q st f fd)(h:∀(kV doc pm:Value) (an:Option Addr) (cdv ct u v y z:Value),bindArgs (fnOf x q (dM st) (dq st) (ak st) .none kV doc pm an cdv ct) ⟨[u,v,y,z],[]⟩=pure [(a,u),(b,v),(c,y),(d,z)]):Binds K fd [a,b,c,d] []:=F.binds fun kV doc pm an cdv ct us hl=>match us,hl with | [u,v,y,z],_=>h kV doc pm an cdv ct u v y z
theorem Yk{K:Frag}{x q:Str}{st:Stmt}{f:Addr}{fd:ed}{a b c d e:Str}(F:cr K x q st f fd)(h:∀(kV doc pm:Value) (an:Option Addr) (cdv ct u v y z t:Value),bindArgs (fnOf x q (dM st) (dq st) (ak st) .none kV doc pm an cdv ct) ⟨[u,v,y,z,t],[]⟩=pure [(a,u),(b,v),(c,y),(d,z),(e,t)]):Binds K fd [a,b,c,d,e] []:=F.binds fun kV doc pm an cdv ct us hl=>match us,hl with | [u,v,y,z,t],_=>h kV doc pm an cdv ct u v y z t
theorem all_mk{l:OpenLaw}{w:World}{K:Frag}{h:Heap}{mg:Str->Option Value}{fa f0 f1 f2 f3 f4 f5 f6 f7 f8 f9 Yl f11 Ym Yn Yo Yp Yq Yr Ys Yt Yu Yv Yw Yx Yy Yz YB YC YD YF YG YH f32 YJ YK YL YM YN YQ YR YS YT YV YW YX YZ Y0 Y1 Y2 Y3 Y4 Y5 Y6 Y7 Y8 Y9 Za Zb TU:Addr}(X:K.In h)(G:h.Ns dL mg)(hfa:mg "law"=some (.ref fa))
  {TV OZ:Option Addr} {TX:Array (Option Value)} {TY O0 O1 O2 K4 O3:Value} {fd0 fd1 fd2 fd3 fd4 fd5 fd6 fd7 fd8 fd9 T2 T3 T4 T5 T6 T7 T8 T9 Ua Ub Uc Ud Ue Ug Uh Ui Uj Uk Ul Um Uo Up Uq Ur Us Ut Uu Uv Uw Ux Uy Uz UA UB UC UD UE UG UH UI UJ UK UL UM UN UO UP UQ:ed}
  (a0:nsIn K dL "goes_on"=some (some (.ref f0))) (F0:cr K "goes_on" "goes_on" sO f0 fd0)
  (a1:nsIn K dL "targets_of"=some (some (.ref f1))) (F1:cr K "targets_of" "targets_of" pj f1 fd1)
  (a2:nsIn K dL "with_targets"=some (some (.ref f2))) (F2:cr K "with_targets" "with_targets" wL f2 fd2)
  (a3:nsIn K dL "is_whole"=some (some (.ref f3))) (F3:cr K "is_whole" "is_whole" sP f3 fd3)
  (a4:nsIn K dL "is_number_of"=some (some (.ref f4))) (F4:cr K "is_number_of" "is_number_of" wM f4 fd4)
  (a5:nsIn K dL "is_targets"=some (some (.ref f5))) (F5:cr K "is_targets" "is_targets" gb f5 fd5)
  (a6:nsIn K dL "is_part"=some (some (.ref f6))) (F6:cr K "is_part" "is_part" lV f6 fd6)
  (a7:nsIn K dL "are_parts"=some (some (.ref f7))) (F7:cr K "are_parts" "are_parts" gT f7 fd7)
  (a8:nsIn K dL "word_of"=some (some (.ref f8))) (F8:cr K "word_of" "word_of" lW f8 fd8)
  (a9:nsIn K dL "is_row"=some (some (.ref f9))) (F9:cr K "is_row" "is_row" pD f9 fd9)
  (aa:nsIn K dL "has_far"=some (some (.ref Yl))) (ab:cr K "has_far" "has_far" sQ Yl T2)
  (ac:nsIn K dL "far_of"=some (some (.ref f11))) (ad:cr K "far_of" "far_of" wN f11 T3)
  (ae:nsIn K dL "with_far"=some (some (.ref Ym))) (af:cr K "with_far" "with_far" pq Ym T4)
  (ag:nsIn K dL "parts_of"=some (some (.ref Yn))) (ah:cr K "parts_of" "parts_of" kY Yn T5)
  (ai:nsIn K dL "stays_within"=some (some (.ref Yo))) (aj:cr K "stays_within" "stays_within" d6 Yo T6)
  (al:nsIn K dL "check_rows"=some (some (.ref Yp))) (am:cr K "check_rows" "check_rows" iK Yp T7)
  (an:nsIn K dL "size_of"=some (some (.ref Yq))) (ao:cr K "size_of" "size_of" B7 Yq T8)
  (ap:nsIn K dL "begins_of"=some (some (.ref Yr))) (aq:cr K "begins_of" "begins_of" sR Yr T9)
  (ar:nsIn K dL "distances_of"=some (some (.ref Ys))) (au:cr K "distances_of" "distances_of" sS Ys Ua)
  (av:nsIn K dL "is_short_jump"=some (some (.ref Yt))) (aw:cr K "is_short_jump" "is_short_jump" sT Yt Ub)
  (ax:nsIn K dL "is_borne"=some (some (.ref Yu))) (ay:cr K "is_borne" "is_borne" wO Yu Uc)
  (az:nsIn K dL "short_distances"=some (some (.ref Yv))) (aA:cr K "short_distances" "short_distances" sU Yv Ud)
  (aC:nsIn K dL "check_layout"=some (some (.ref Yw))) (aE:cr K "check_layout" "check_layout" sV Yw Ue)
  (aF:nsIn K dL "jumps_over"=some (some (.ref Yx))) (aG:cr K "jumps_over" "jumps_over" wQ Yx Ug)
  (aI:nsIn K dL "one_further"=some (some (.ref Yy))) (aJ:cr K "one_further" "one_further" pw Yy Uh)
  (aK:nsIn K dL "jumps_to_lengthen"=some (some (.ref Yz))) (aL:cr K "jumps_to_lengthen" "jumps_to_lengthen" sW Yz Ui)
  (aM:nsIn K dL "least_layout"=some (some (.ref YB))) (aN:cr K "least_layout" "least_layout" sX YB Uj)
  (aO:nsIn K dL "head_of"=some (some (.ref YC))) (aQ:cr K "head_of" "head_of" sY YC Uk)
  (aS:nsIn K dL "low_of"=some (some (.ref YD))) (aT:cr K "low_of" "low_of" wR YD Ul)
  (aV:nsIn K dL "first_unit"=some (some (.ref YF))) (aW:cr K "first_unit" "first_unit" nX YF Um)
  (aX:nsIn K dL "other_units"=some (some (.ref YG))) (aY:cr K "other_units" "other_units" nY YG Uo)
  (aZ:nsIn K dL "units_of"=some (some (.ref YH))) (ba:cr K "units_of" "units_of" pz YH Up)
  (bb:nsIn K dL "whole_at"=some (some (.ref f32))) (bc:cr K "whole_at" "whole_at" pA f32 Uq)
  (bd:nsIn K dL "fits_head"=some (some (.ref YJ))) (be:cr K "fits_head" "fits_head" B8 YJ Ur)
  (bf:nsIn K dL "table_at"=some (some (.ref YK))) (bg:cr K "table_at" "table_at" kZ YK Us)
  (bh:nsIn K dL "number_at"=some (some (.ref YL))) (bi:cr K "number_at" "number_at" wU YL Ut)
  (bj:nsIn K dL "part_at"=some (some (.ref YM))) (bk:cr K "part_at" "part_at" sZ YM Uu)
  (bl:nsIn K dL "jump_at"=some (some (.ref YN))) (bm:cr K "jump_at" "jump_at" tq YN Uv)
  (bn:nsIn K dL "row_at"=some (some (.ref YQ))) (bo:cr K "row_at" "row_at" pC YQ Uw)
  (bp:nsIn K dL "rows_with_distances"=some (some (.ref YR))) (br:cr K "rows_with_distances" "rows_with_distances" tu YR Ux)
  (bs:nsIn K dL "rows_of_units"=some (some (.ref YS))) (bt:cr K "rows_of_units" "rows_of_units" nZ YS Uy)
  (bu:nsIn K dL "shown_row"=some (some (.ref YT))) (bv:cr K "shown_row" "shown_row" gU YT Uz)
  (bw:nsIn K dL "shown_rows"=some (some (.ref YV))) (bx:cr K "shown_rows" "shown_rows" gg YV UA)
  (bz:nsIn K dL "is_figures"=some (some (.ref YW))) (bA:cr K "is_figures" "is_figures" gj YW UB)
  (bB:nsIn K dL "read_number"=some (some (.ref YX))) (bC:cr K "read_number" "read_number" ig YX UC)
  (bD:nsIn K dL "row_of_numbers"=some (some (.ref YZ))) (bE:cr K "row_of_numbers" "row_of_numbers" eI YZ UD)
  (bF:nsIn K dL "read_row"=some (some (.ref Y0))) (bG:cr K "read_row" "read_row" iL Y0 UE)
  (bH:nsIn K dL "read_rows"=some (some (.ref Y1))) (bJ:cr K "read_rows" "read_rows" je Y1 UG)
  (bK:nsIn K dL "_law_cell_at"=some (some (.ref Y2))) (bL:cr K "_law_cell_at" "_law_cell_at" B9 Y2 UH)
  (bM:nsIn K dL "_law_stream"=some (some (.ref Y3))) (bN:cr K "_law_stream" "_law_stream" tD Y3 UI)
  (bO:nsIn K dL "_law_many"=some (some (.ref Y4))) (bP:cr K "_law_many" "_law_many" j3 Y4 UJ)
  (bQ:nsIn K dL "_law_head"=some (some (.ref Y5))) (bR:cr K "_law_head" "_law_head" j4 Y5 UK)
  (bS:nsIn K dL "_law_code"=some (some (.ref Y6))) (bT:cr K "_law_code" "_law_code" j5 Y6 UL)
  (bU:nsIn K dL "_law_led"=some (some (.ref Y7))) (bV:cr K "_law_led" "_law_led" lX Y7 UM)
  (bW:nsIn K dL "_law_unit_list"=some (some (.ref Y8))) (bX:cr K "_law_unit_list" "_law_unit_list" dy Y8 UN)
  (bY:nsIn K dL "_law_distances"=some (some (.ref Y9))) (bZ:cr K "_law_distances" "_law_distances" dR Y9 UO)
  (ca:nsIn K dL "_law_shown"=some (some (.ref Za))) (cb:cr K "_law_shown" "_law_shown" jf Za UP)
  (cc:nsIn K dL "_law_again"=some (some (.ref Zb))) (cd:cr K "_law_again" "_law_again" jg Zb UQ)
  (ce:nsIn K dL "law"=some (some (.ref TU))) (cf:K.lookup TU=some ⟨TY,TV,.func (fnOf "law" "law" (dM k4) (dq k4) (ak k4) .none O0 O1 O2 OZ K4 O3),TX⟩) (ch:codeIn K K4 "law"=true) (ci:keepIn K (.ref TU)=true)
  {UR:Addr} {US:Option Addr} {UT:Array (Option Value)} {fF:Nat} {UU UW UX UY UZ U0:Tok} (cj:nsIn K dL "TWO_UNITS"=some (some (.ref UR)))
  (ck:K.lookup UR=some ⟨.type "tuple",US,.seq #[.str "set" UU,.str "more" UW,.str "put" UX,.str "take" UY,.str "see" UZ,.str "halt" U0] fF,UT⟩)
  {U1:Addr} {U2:Option Addr} {U3:Array (Option Value)} {fG:Nat} {U4 U5 U6:Tok} (cl:nsIn K dL "NUMBER_KINDS"=some (some (.ref U1)))
  (cn:K.lookup U1=some ⟨.type "tuple",U2,.seq #[.str "number" U4,.str "value" U5,.str "aside" U6] fG,U3⟩)
  {U7:Addr} {U8:Option Addr} {U9:Array (Option Value)} {fH:Nat} {Va Vb Vc Vd:Tok} (co:nsIn K dL "NOT_GOING_ON"=some (some (.ref U7)))
  (cp:K.lookup U7=some ⟨.type "tuple",U8,.seq #[.str "stop" Va,.str "back" Vb,.str "halt" Vc,.str "jump" Vd] fH,U9⟩)
  (cq:nsIn K dL "len"=some none)
  (cs:nsIn K dL "str"=some none)
  (ct:nsIn K dL "list"=some none)
  (cu:nsIn K dL "tuple"=some none)
  (cv:nsIn K dL "int"=some none)
  (cw:nsIn K dL "bool"=some none)
  (cx:nsIn K dL "isinstance"=some none)
  (cy:nsIn K dL "enumerate"=some none)
  (cz:nsIn K dL "range"=some none)
  (cC:nsIn K dL "min"=some none)
  (cD:nsIn K dL "max"=some none)
  (cE:nsIn K dL "all"=some none)
  (cF:nsIn K dL "zip"=some none)
  {pP:Addr} {il:Array DictEntry} {nP:Nat} (aP:nsIn K dL "PARTS"=some (some (.ref pP))) (lP:K.lookup pP=some ⟨.type "dict",none,.dict il nP,#[]⟩) (kP:KeysLit w.params il.toList) (oP:(pP==sysModules)=false)
  {Rp:Addr} {Ve:Array (Option Value)} {fI:Nat} (cG:nsIn K pP "stop"=some (some (.ref Rp))) (cH:K.lookup Rp=some ⟨.type "tuple",none,.seq #[] fI,Ve⟩)
  {Rq:Addr} {Vf:Array (Option Value)} {fJ:Nat} (cI:nsIn K pP "back"=some (some (.ref Rq))) (cJ:K.lookup Rq=some ⟨.type "tuple",none,.seq #[] fJ,Vf⟩)
  {Rr:Addr} {Vg:Array (Option Value)} {fK:Nat} {O4:Tok} (cK:nsIn K pP "halt"=some (some (.ref Rr))) (cL:K.lookup Rr=some ⟨.type "tuple",none,.seq #[.str "number" O4] fK,Vg⟩)
  {Rt:Addr} {Vh:Array (Option Value)} {fL:Nat} {O5 O6:Tok} (cM:nsIn K pP "set"=some (some (.ref Rt))) (cN:K.lookup Rt=some ⟨.type "tuple",none,.seq #[.str "box" O5,.str "value" O6] fL,Vh⟩)
  {Ru:Addr} {Vi:Array (Option Value)} {fM:Nat} {O7 O8:Tok} (cO:nsIn K pP "more"=some (some (.ref Ru))) (cP:K.lookup Ru=some ⟨.type "tuple",none,.seq #[.str "box" O7,.str "value" O8] fM,Vi⟩)
  {Rv:Addr} {Vj:Array (Option Value)} {fN:Nat} {O9 Pa:Tok} (cQ:nsIn K pP "copy"=some (some (.ref Rv))) (cR:K.lookup Rv=some ⟨.type "tuple",none,.seq #[.str "box" O9,.str "box" Pa] fN,Vj⟩)
  {Rw:Addr} {Vk:Array (Option Value)} {fO:Nat} {Pb Pg:Tok} (cS:nsIn K pP "add"=some (some (.ref Rw))) (cT:K.lookup Rw=some ⟨.type "tuple",none,.seq #[.str "box" Pb,.str "box" Pg] fO,Vk⟩)
  {Rx:Addr} {Vl:Array (Option Value)} {fP:Nat} {Ph Pj:Tok} (cU:nsIn K pP "less"=some (some (.ref Rx))) (cV:K.lookup Rx=some ⟨.type "tuple",none,.seq #[.str "box" Ph,.str "box" Pj] fP,Vl⟩)
  {Ry:Addr} {Vm:Array (Option Value)} {fR:Nat} {Pk Pl:Tok} (cW:nsIn K pP "load"=some (some (.ref Ry))) (cX:K.lookup Ry=some ⟨.type "tuple",none,.seq #[.str "box" Pk,.str "box" Pl] fR,Vm⟩)
  {Rz:Addr} {Vn:Array (Option Value)} {fS:Nat} {Pm Pn:Tok} (cY:nsIn K pP "keep"=some (some (.ref Rz))) (cZ:K.lookup Rz=some ⟨.type "tuple",none,.seq #[.str "box" Pm,.str "box" Pn] fS,Vn⟩)
  {Gq:Addr} {Pp:Array (Option Value)} {Vo:Nat} {K5:Tok} (da:nsIn K pP "tell"=some (some (.ref Gq))) (db:K.lookup Gq=some ⟨.type "tuple",none,.seq #[.str "box" K5] Vo,Pp⟩)
  {Gr:Addr} {Pq:Array (Option Value)} {Vp:Nat} {K6 K7:Tok} (dc:nsIn K pP "see"=some (some (.ref Gr))) (dd:K.lookup Gr=some ⟨.type "tuple",none,.seq #[.str "box" K6,.str "number" K7] Vp,Pq⟩)
  {Gs:Addr} {Pr:Array (Option Value)} {Vq:Nat} {K8 K9:Tok} (de:nsIn K pP "put"=some (some (.ref Gs))) (df:K.lookup Gs=some ⟨.type "tuple",none,.seq #[.str "box" K8,.str "aside" K9] Vq,Pr⟩)
  {Gu:Addr} {Pt:Array (Option Value)} {Vr:Nat} {La Lb:Tok} (dg:nsIn K pP "take"=some (some (.ref Gu))) (dh:K.lookup Gu=some ⟨.type "tuple",none,.seq #[.str "box" La,.str "aside" Lb] Vr,Pt⟩)
  {Gv:Addr} {Pu:Array (Option Value)} {Vs:Nat} {Lc Ld:Tok} (di:nsIn K pP "jump"=some (some (.ref Gv))) (dj:K.lookup Gv=some ⟨.type "tuple",none,.seq #[.str "target" Lc,.str "far" Ld] Vs,Pu⟩)
  {Gz:Addr} {Pw:Array (Option Value)} {Vt:Nat} {Le Lf Lg:Tok} (dk:nsIn K pP "zero"=some (some (.ref Gz))) (dl:K.lookup Gz=some ⟨.type "tuple",none,.seq #[.str "box" Le,.str "target" Lf,.str "far" Lg] Vt,Pw⟩)
  {GQ:Addr} {Px:Array (Option Value)} {Vu:Nat} {Lh Li Lj:Tok} (dm:nsIn K pP "below"=some (some (.ref GQ))) (dn:K.lookup GQ=some ⟨.type "tuple",none,.seq #[.str "box" Lh,.str "target" Li,.str "far" Lj] Vu,Px⟩)
  {GV:Addr} {Py:Array (Option Value)} {Vv:Nat} {Lk Ln:Tok} (dp:nsIn K pP "call"=some (some (.ref GV))) (dr:K.lookup GV=some ⟨.type "tuple",none,.seq #[.str "target" Lk,.str "far" Ln] Vv,Py⟩)
  {GX:Addr} {Pz:Array (Option Value)} {Vw:Nat} {Lp Lq:Tok} (ds:nsIn K pP "mark"=some (some (.ref GX))) (dt:K.lookup GX=some ⟨.type "tuple",none,.seq #[.str "target" Lp,.str "far" Lq] Vw,Pz⟩)
  {GY:Addr} {PB:Array (Option Value)} {Vx:Nat} {Lr Ls:Tok} (du:nsIn K pP "table"=some (some (.ref GY))) (dv:K.lookup GY=some ⟨.type "tuple",none,.seq #[.str "box" Lr,.str "targets" Ls] Vx,PB⟩)
  {lF:Tok} (dw:nsIn K dL "LEAST_SHORT"=some (some (.int (-64) lF)))
  {iV:Tok} (dx:nsIn K dL "GREATEST_SHORT"=some (some (.int (63) iV)))
  {qe:Tok} (dz:nsIn K dL "CODE_STEP"=some (some (.int (1024) qe)))
  {si:Tok} (dA:nsIn K dL "BOX_STEP"=some (some (.int (128) si)))
  {lG:Tok} (dB:nsIn K dL "SHORT_ADDED"=some (some (.int (64) lG)))
  {pH Lv Lw Lx Ly Lz LA LB LC LD LG xN xO xP xQ xR xS xT xU xV xW xX xY xZ ya yb:Addr} {fT:Array (Option Value)} {nH:Nat} (aH:nsIn K dL "HEADS"=some (some (.ref pH))) (lH:K.lookup pH=some ⟨.type "tuple",none,.seq #[.ref Lv,.ref Lw,.ref Lx,.ref Ly,.ref Lz,.ref LA,.ref LB,.ref LC,.ref LD,.ref LG,.ref xN,.ref xO,.ref xP,.ref xQ,.ref xR,.ref xS,.ref xT,.ref xU,.ref xV,.ref xW,.ref xX,.ref xY,.ref xZ,.ref ya,.ref yb] nH,fT⟩)
  {Vy:Option Addr} {Vz:Array (Option Value)} {fU:Nat} {fV uH0:Tok} (dC:K.lookup Lv=some ⟨.type "tuple",Vy,.seq #[.str "stop" fV,.int 0 uH0] fU,Vz⟩)
  {VA:Option Addr} {VB:Array (Option Value)} {fW:Nat} {fX uH1:Tok} (dD:K.lookup Lw=some ⟨.type "tuple",VA,.seq #[.str "back" fX,.int 0 uH1] fW,VB⟩)
  {VC:Option Addr} {VD:Array (Option Value)} {fY:Nat} {fZ uH2:Tok} (dE:K.lookup Lx=some ⟨.type "tuple",VC,.seq #[.str "halt" fZ,.int 0 uH2] fY,VD⟩)
  {VE:Option Addr} {VF:Array (Option Value)} {ga:Nat} {gc uH3:Tok} (dF:K.lookup Ly=some ⟨.type "tuple",VE,.seq #[.str "set" gc,.int 0 uH3] ga,VF⟩)
  {VG:Option Addr} {VH:Array (Option Value)} {gd:Nat} {ge uH4:Tok} (dG:K.lookup Lz=some ⟨.type "tuple",VG,.seq #[.str "more" ge,.int 0 uH4] gd,VH⟩)
  {VI:Option Addr} {VJ:Array (Option Value)} {gf:Nat} {gh uH5:Tok} (dH:K.lookup LA=some ⟨.type "tuple",VI,.seq #[.str "copy" gh,.int 0 uH5] gf,VJ⟩)
  {VL:Option Addr} {VM:Array (Option Value)} {gi:Nat} {gk uH6:Tok} (dI:K.lookup LB=some ⟨.type "tuple",VL,.seq #[.str "add" gk,.int 0 uH6] gi,VM⟩)
  {VN:Option Addr} {VO:Array (Option Value)} {gl:Nat} {gm uH7:Tok} (dJ:K.lookup LC=some ⟨.type "tuple",VN,.seq #[.str "less" gm,.int 0 uH7] gl,VO⟩)
  {VP:Option Addr} {VQ:Array (Option Value)} {gn:Nat} {go uH8:Tok} (dK:K.lookup LD=some ⟨.type "tuple",VP,.seq #[.str "load" go,.int 0 uH8] gn,VQ⟩)
  {VR:Option Addr} {VT:Array (Option Value)} {gp:Nat} {gq uH9:Tok} (dN:K.lookup LG=some ⟨.type "tuple",VR,.seq #[.str "keep" gq,.int 0 uH9] gp,VT⟩)
  {PD:Option Addr} {PF:Array (Option Value)} {VU:Nat} {VW VX:Tok} (dO:K.lookup xN=some ⟨.type "tuple",PD,.seq #[.str "tell" VW,.int 0 VX] VU,PF⟩)
  {PH:Option Addr} {PJ:Array (Option Value)} {VY:Nat} {VZ V0:Tok} (dP:K.lookup xO=some ⟨.type "tuple",PH,.seq #[.str "see" VZ,.int 0 V0] VY,PJ⟩)
  {PK:Option Addr} {PL:Array (Option Value)} {V1:Nat} {V2 V3:Tok} (dQ:K.lookup xP=some ⟨.type "tuple",PK,.seq #[.str "put" V2,.int 0 V3] V1,PL⟩)
  {PN:Option Addr} {PR:Array (Option Value)} {V4:Nat} {V5 V6:Tok} (dS:K.lookup xQ=some ⟨.type "tuple",PN,.seq #[.str "take" V5,.int 0 V6] V4,PR⟩)
  {PU:Option Addr} {PV:Array (Option Value)} {V7:Nat} {V8 V9:Tok} (dT:K.lookup xR=some ⟨.type "tuple",PU,.seq #[.str "jump" V8,.int 0 V9] V7,PV⟩)
  {PX:Option Addr} {PY:Array (Option Value)} {Wa:Nat} {Wb Wc:Tok} (dU:K.lookup xS=some ⟨.type "tuple",PX,.seq #[.str "zero" Wb,.int 0 Wc] Wa,PY⟩)
  {PZ:Option Addr} {P0:Array (Option Value)} {Wd:Nat} {Wf Wg:Tok} (dV:K.lookup xT=some ⟨.type "tuple",PZ,.seq #[.str "below" Wf,.int 0 Wg] Wd,P0⟩)
  {P1:Option Addr} {P2:Array (Option Value)} {Wh:Nat} {Wi Wj:Tok} (dW:K.lookup xU=some ⟨.type "tuple",P1,.seq #[.str "call" Wi,.int 0 Wj] Wh,P2⟩)
  {P4:Option Addr} {P5:Array (Option Value)} {Wk:Nat} {Wl Wm:Tok} (dX:K.lookup xV=some ⟨.type "tuple",P4,.seq #[.str "mark" Wl,.int 0 Wm] Wk,P5⟩)
  {P6:Option Addr} {P7:Array (Option Value)} {Wn:Nat} {Wo Wp:Tok} (dY:K.lookup xW=some ⟨.type "tuple",P6,.seq #[.str "table" Wo,.int 0 Wp] Wn,P7⟩)
  {P8:Option Addr} {P9:Array (Option Value)} {Wq:Nat} {Wr Ws:Tok} (dZ:K.lookup xX=some ⟨.type "tuple",P8,.seq #[.str "jump" Wr,.int 1 Ws] Wq,P9⟩)
  {Qa:Option Addr} {Qb:Array (Option Value)} {Wt:Nat} {Wu Wv:Tok} (ea:K.lookup xY=some ⟨.type "tuple",Qa,.seq #[.str "zero" Wu,.int 1 Wv] Wt,Qb⟩)
  {Qc:Option Addr} {Qd:Array (Option Value)} {Ww:Nat} {Wx Wy:Tok} (eb:K.lookup xZ=some ⟨.type "tuple",Qc,.seq #[.str "below" Wx,.int 1 Wy] Ww,Qd⟩)
  {Qe:Option Addr} {Qf:Array (Option Value)} {Wz:Nat} {WB WC:Tok} (ec:K.lookup ya=some ⟨.type "tuple",Qe,.seq #[.str "call" WB,.int 1 WC] Wz,Qf⟩)
  {Qg:Option Addr} {Qh:Array (Option Value)} {WD:Nat} {WG WH:Tok} (ee:K.lookup yb=some ⟨.type "tuple",Qg,.seq #[.str "mark" WG,.int 1 WH] WD,Qh⟩)
  {iW:Tok} (ef:nsIn K dL "MOST_ROWS_OVER"=some (some (.int (64) iW)))
  {pB:Addr} {IH:Array DictEntry} {nB:Nat} (aB:nsIn K dL "BOUNDS"=some (some (.ref pB))) (lB:K.lookup pB=some ⟨.type "dict",none,.dict IH nB,#[]⟩) (kB:KeysLit w.params IH.toList) (oB:(pB==sysModules)=false)
  {WK:Addr} {WL:Array (Option Value)} {gr:Nat} {Qi Qj:Tok} (eg:nsIn K pB "box"=some (some (.ref WK))) (eh:K.lookup WK=some ⟨.type "tuple",none,.seq #[.int (0) Qi,.int (7) Qj] gr,WL⟩)
  {WM:Addr} {WN:Array (Option Value)} {gs:Nat} {Qk Ql:Tok} (ei:nsIn K pB "aside"=some (some (.ref WM))) (ej:K.lookup WM=some ⟨.type "tuple",none,.seq #[.int (0) Qk,.int (1000000) Ql] gs,WN⟩)
  {WO:Addr} {WQ:Array (Option Value)} {gt:Nat} {Qm Qn:Tok} (ek:nsIn K pB "target"=some (some (.ref WO))) (el:K.lookup WO=some ⟨.type "tuple",none,.seq #[.int (0) Qm,.int (1000000000) Qn] gt,WQ⟩)
  {WR:Addr} {WT:Array (Option Value)} {gv:Nat} {Qo Qp:Tok} (em:nsIn K pB "number"=some (some (.ref WR))) (en:K.lookup WR=some ⟨.type "tuple",none,.seq #[.int (0) Qo,.int (1000000) Qp] gv,WT⟩)
  {WU:Addr} {WV:Array (Option Value)} {gw:Nat} {Qq Qr:Tok} (eo:nsIn K pB "value"=some (some (.ref WU))) (ep:K.lookup WU=some ⟨.type "tuple",none,.seq #[.int (-1000000000) Qq,.int (1000000000) Qr] gw,WV⟩)
  {WW:Addr} {WX:Array (Option Value)} {gx:Nat} {Qs Qt:Tok} (eq:nsIn K pB "far"=some (some (.ref WW))) (er:K.lookup WW=some ⟨.type "tuple",none,.seq #[.int (0) Qs,.int (1) Qt] gx,WX⟩)
  {jX:Tok} (es:nsIn K dL "MOST_TARGETS"=some (some (.int (16) jX)))
  {DX:Tok} (et:nsIn K dL "BOXES"=some (some (.int (8) DX)))
  {qf:Tok} (eu:nsIn K dL "MOST_ROWS"=some (some (.int (4000) qf)))
  {jY:Tok} (ev:nsIn K dL "MOST_FIGURES"=some (some (.int (10) jY)))
  {Zc:Tok} (ew:nsIn K dL "FIGURES"=some (some (.str "0123456789" Zc)))
  {cg:Addr} (ex:nsIn K dL "NoLayout"=some (some (.ref cg)))
  {cA:Addr} (ey:nsIn K dL "NoUnits"=some (some (.ref cA)))
  {cB:Addr} (ez:nsIn K dL "RowError"=some (some (.ref cB)))
  {gI:Addr} {WY WZ:Option Addr} {W1:Array (Option Value)} {W2 W3 W4 W5 Qu W6:Value} (eA:findIn K (.ref cg) "__init__"=some (some (.ref gI))) (eB:typeIn K (.ref gI)=some (.type "function")) (eC:K.lookup gI=some ⟨W2,WY,.func (fnOf "__init__" "NoLayout.__init__" (dM LY) (dq LY) (ak LY) .none W3 W4 W5 WZ Qu W6),W1⟩) (eD:codeIn K Qu "NoLayout.__init__"=true) (eE:keepIn K (.ref gI)=true)
  {ddC:Option Addr} {gy gz:Str} {bsC W7:List Value} {M7:Addr} {snC:List Str} {abC:Bool} {W8:Option Bool} {k0C k1C k2C k3C k5C:Option Value} {gA:ClassData} (eF:K.lookup cg=some ⟨.type "type",ddC,.cls ⟨gy,bsC,.ref cg:: .ref cB::lU,M7,gz,true,snC,W7,abC,W8,false⟩,#[k0C,k1C,k2C,k3C,some (.builtin "ValueError.__new__"),k5C]⟩) (xq:excIn K cB lU "ValueError.__new__"=true) (eG:mroIn K cB (.type "object")=some true) (eH:findIn K (.ref cg) "__setattr__"=some (some (.builtin "object.__setattr__"))) (eJ:takerIn K cg "at"=some none) (eK:findIn K (.ref cg) "at"=some none) (eL:hasDictIn K cg=true) (eM:findIn K (.ref cg) "__getattribute__"=some (some (.builtin "BaseException.__getattribute__"))) (eN:findIn K (.ref cg) "__getattr__"=some none) (eO:findIn K (.ref cg) "__class__"=some (some (.builtin "object.__class__"))) (eP:specialIn K (.builtin "object.__class__") "__get__"=some (some (.builtin "getset_descriptor.__get__"))) (eQ:takesIn K (.builtin "object.__class__")=some true) (eR:mroIn K cg (.type "object")=some true) (eS:mroIn K cg (.type "BaseException")=some true) (eT:clsIn K cg=some gA) (eU:specialIn K (.ref cB) "__getattribute__"=some (some (.builtin "type.__getattribute__"))) (eV:readsIn K cB (.type "type")=true) (eX:findCls K (.ref cB) (.type "type") "__init__"=some (.val (.builtin "ValueError.__init__"))) (eY:keepIn K (.ref cg)=true) (eZ:exmOne K (.ref cg) (.ref cB)=some true) (fb:kitOne K (.ref cg) (.ref cg)=some true) (fc:kitOne K (.ref cg) (.type "ValueError")=some true)
  {Qv:Addr} {Qw Qx:Option Addr} {Qy:Array (Option Value)} {Qz QA QB QC II QD:Value} (fe:findIn K (.ref cA) "__init__"=some (some (.ref Qv))) (ff:typeIn K (.ref Qv)=some (.type "function")) (fg:K.lookup Qv=some ⟨Qz,Qw,.func (fnOf "__init__" "NoUnits.__init__" (dM Bb) (dq Bb) (ak Bb) .none QA QB QC Qx II QD),Qy⟩) (fh:codeIn K II "NoUnits.__init__"=true) (fi:keepIn K (.ref Qv)=true)
  {W9:Option Addr} {Xa Xb:Str} {Xc QE:List Value} {Xd:Addr} {Xe:List Str} {Xf:Bool} {QF:Option Bool} {Xg Xh Xi Xj Xk:Option Value} {Xl:ClassData} (fj:K.lookup cA=some ⟨.type "type",W9,.cls ⟨Xa,Xc,.ref cA:: .ref cB::lU,Xd,Xb,true,Xe,QE,Xf,QF,false⟩,#[Xg,Xh,Xi,Xj,some (.builtin "ValueError.__new__"),Xk]⟩) (fk:excIn K cB lU "ValueError.__new__"=true) (fl:mroIn K cB (.type "object")=some true) (fm:findIn K (.ref cA) "__setattr__"=some (some (.builtin "object.__setattr__"))) (fn:takerIn K cA "at"=some none) (fo:findIn K (.ref cA) "at"=some none) (fp:hasDictIn K cA=true) (fq:findIn K (.ref cA) "__getattribute__"=some (some (.builtin "BaseException.__getattribute__"))) (fr:findIn K (.ref cA) "__getattr__"=some none) (fs:findIn K (.ref cA) "__class__"=some (some (.builtin "object.__class__"))) (ft:specialIn K (.builtin "object.__class__") "__get__"=some (some (.builtin "getset_descriptor.__get__"))) (fu:takesIn K (.builtin "object.__class__")=some true) (fv:mroIn K cA (.type "object")=some true) (fw:mroIn K cA (.type "BaseException")=some true) (fx:clsIn K cA=some Xl) (fy:specialIn K (.ref cB) "__getattribute__"=some (some (.builtin "type.__getattribute__"))) (fz:readsIn K cB (.type "type")=true) (fA:findCls K (.ref cB) (.type "type") "__init__"=some (.val (.builtin "ValueError.__init__"))) (fB:keepIn K (.ref cA)=true) (fC:exmOne K (.ref cA) (.ref cB)=some true) (fD:kitOne K (.ref cA) (.ref cA)=some true) (fE:kitOne K (.ref cA) (.type "ValueError")=some true)
  : ∃fd:ed,(∀(s:Shared) (v:Value),BindsTo s fd ⟨[v],[]⟩ [("_law_script",v)])/\∀base:Heap,K.In base->base.Ns dL mg->aD l.prog w K mg base cm 11 fa fd ["_law_script"] (zS (K:=K)):=by
 have e:=hfa.symm.trans (mg_of X G ce);cases e;have b0:=lE (a :="row") F0 fun _ _ _ _ _ _ _=>rfl;have m0:=mg_of X G a0;have b1:=lE (a :="row") F1 fun _ _ _ _ _ _ _=>rfl;have m1:=mg_of X G a1;have b2:=qq (a :="row") (b :="targets") F2 fun _ _ _ _ _ _ _ _=>rfl;have m2:=mg_of X G a2;have b3:=lE (a :="thing") F3 fun _ _ _ _ _ _ _=>rfl;have m3:=mg_of X G a3;have b4:=qq (a :="kind") (b :="thing") F4 fun _ _ _ _ _ _ _ _=>rfl;have m4:=mg_of X G a4;have b5:=lE (a :="thing") F5 fun _ _ _ _ _ _ _=>rfl;have m5:=mg_of X G a5;have b6:=qq (a :="kind") (b :="thing") F6 fun _ _ _ _ _ _ _ _=>rfl;have m6:=mg_of X G a6;have b7:=qq (a :="kinds") (b :="things") F7 fun _ _ _ _ _ _ _ _=>rfl;have m7:=mg_of X G a7;have b8:=lE (a :="thing") F8 fun _ _ _ _ _ _ _=>rfl;have m8:=mg_of X G a8;have b9:=lE (a :="row") F9 fun _ _ _ _ _ _ _=>rfl;have m9:=mg_of X G a9;have b10:=lE (a :="word") ab fun _ _ _ _ _ _ _=>rfl;have D7:=mg_of X G aa;have b11:=lE (a :="row") ad fun _ _ _ _ _ _ _=>rfl;have m11:=mg_of X G ac;have b12:=qq (a :="row") (b :="far") af fun _ _ _ _ _ _ _ _=>rfl;have m12:=mg_of X G ae;have Xm:=qq (a :="row") (b :="kinds") ah fun _ _ _ _ _ _ _ _=>rfl;have Xn:=mg_of X G ag;have b14:=qq (a :="row") (b :="how_many") aj fun _ _ _ _ _ _ _ _=>rfl;have m14:=mg_of X G ai;have b15:=lE (a :="rows") am fun _ _ _ _ _ _ _=>rfl;have m15:=mg_of X G al;have Zd:=lE (a :="row") ao fun _ _ _ _ _ _ _=>rfl;have Ze:=mg_of X G an;have Xo:=lE (a :="rows") aq fun _ _ _ _ _ _ _=>rfl;have Xp:=mg_of X G ap;have Zf:=LZ (a :="rows") (b :="begins") (c :="r") au fun _ _ _ _ _ _ _ _ _=>rfl;have Zg:=mg_of X G ar;have Zh:=lE (a :="row") aw fun _ _ _ _ _ _ _=>rfl;have Zi:=mg_of X G av;have Zj:=lE (a :="distance") ay fun _ _ _ _ _ _ _=>rfl;have Zk:=mg_of X G ax;have Zm:=lE (a :="rows") aA fun _ _ _ _ _ _ _=>rfl;have Zn:=mg_of X G az;have Zo:=lE (a :="rows") aE fun _ _ _ _ _ _ _=>rfl;have Zq:=mg_of X G aC;have b23:=LZ (a :="rows") (b :="r") (c :="other") aG fun _ _ _ _ _ _ _ _ _=>rfl;have m23:=mg_of X G aF;have b24:=lE (a :="distance") aJ fun _ _ _ _ _ _ _=>rfl;have m24:=mg_of X G aI;have b25:=lE (a :="rows") aL fun _ _ _ _ _ _ _=>rfl;have m25:=mg_of X G aK;have b26:=lE (a :="rows") aN fun _ _ _ _ _ _ _=>rfl;have m26:=mg_of X G aM;have b27:=lE (a :="row") aQ fun _ _ _ _ _ _ _=>rfl;have m27:=mg_of X G aO;have b28:=qq (a :="row") (b :="distances") aT fun _ _ _ _ _ _ _ _=>rfl;have m28:=mg_of X G aS;have b29:=qq (a :="row") (b :="distances") aW fun _ _ _ _ _ _ _ _=>rfl;have m29:=mg_of X G aV;have b30:=qq (a :="row") (b :="distances") aY fun _ _ _ _ _ _ _ _=>rfl;have m30:=mg_of X G aX;have Zr:=lE (a :="rows") ba fun _ _ _ _ _ _ _=>rfl;have Zt:=mg_of X G aZ;have RA:=qq (a :="units") (b :="at") bc fun _ _ _ _ _ _ _ _=>rfl;have RB:=mg_of X G bb;have b33:=LZ (a :="head") (b :="a") (c :="low") be fun _ _ _ _ _ _ _ _ _=>rfl;have m33:=mg_of X G bd;have b34:=LZ (a :="units") (b :="at") (c :="a") bg fun _ _ _ _ _ _ _ _ _=>rfl;have m34:=mg_of X G bf;have b35:=LZ (a :="units") (b :="at") (c :="kind") bi fun _ _ _ _ _ _ _ _ _=>rfl
 have m35:=mg_of X G bh;have b36:=bq4 (a :="units") (b :="at") (c :="kind") (d :="a") bk fun _ _ _ _ _ _ _ _ _ _=>rfl;have m36:=mg_of X G bj;have b37:=Yk (a :="units") (b :="at") (c :="head") (d :="a") (e :="low") bm fun _ _ _ _ _ _ _ _ _ _ _=>rfl;have m37:=mg_of X G bl;have b38:=qq (a :="units") (b :="at") bo fun _ _ _ _ _ _ _ _=>rfl;have m38:=mg_of X G bn;have b39:=lE (a :="units") br fun _ _ _ _ _ _ _=>rfl;have m39:=mg_of X G bp;have Zu:=lE (a :="units") bt fun _ _ _ _ _ _ _=>rfl;have Zv:=mg_of X G bs;have b41:=lE (a :="row") bv fun _ _ _ _ _ _ _=>rfl;have m41:=mg_of X G bu;have b42:=lE (a :="rows") bx fun _ _ _ _ _ _ _=>rfl;have m42:=mg_of X G bw;have b43:=lE (a :="text") bA fun _ _ _ _ _ _ _=>rfl;have m43:=mg_of X G bz;have b44:=qq (a :="text") (b :="most_figures") bC fun _ _ _ _ _ _ _ _=>rfl;have m44:=mg_of X G bB;have b45:=LZ (a :="word") (b :="far") (c :="numbers") bE fun _ _ _ _ _ _ _ _ _=>rfl;have m45:=mg_of X G bD;have b46:=lE (a :="line") bG fun _ _ _ _ _ _ _=>rfl;have m46:=mg_of X G bF;have b47:=lE (a :="text") bJ fun _ _ _ _ _ _ _=>rfl;have m47:=mg_of X G bH;have b48:=qq (a :="_law_script") (b :="_law_k") bL fun _ _ _ _ _ _ _ _=>rfl;have m48:=mg_of X G bK;have b49:=qq (a :="_law_cell") (b :="_law_many_here") bN fun _ _ _ _ _ _ _ _=>rfl;have m49:=mg_of X G bM;have b50:=qq (a :="_law_code_here") (b :="_law_x") bP fun _ _ _ _ _ _ _ _=>rfl;have m50:=mg_of X G bO;have b51:=qq (a :="_law_code_here") (b :="_law_xs") bR fun _ _ _ _ _ _ _ _=>rfl;have m51:=mg_of X G bQ;have b52:=qq (a :="_law_xs") (b :="_law_last") bT fun _ _ _ _ _ _ _ _=>rfl;have m52:=mg_of X G bS;have b53:=Yk (a :="_law_begins") (b :="_law_here") (c :="_law_behind") (d :="_law_x") (e :="_law_short") bV fun _ _ _ _ _ _ _ _ _ _ _=>rfl;have m53:=mg_of X G bU;have b54:=lE (a :="_law_script") bX fun _ _ _ _ _ _ _=>rfl;have m54:=mg_of X G bW;have b55:=qq (a :="_law_rows") (b :="_law_begins") bZ fun _ _ _ _ _ _ _ _=>rfl;have m55:=mg_of X G bY;have b56:=qq (a :="_law_units") (b :="_law_begins") cb fun _ _ _ _ _ _ _ _=>rfl;have m56:=mg_of X G ca;have b57:=lE (a :="_law_rows") cd fun _ _ _ _ _ _ _=>rfl;have m57:=mg_of X G cc;have F58:=aR (st:=k4) cf ch ci
 have T:Txt K w.params mg:=⟨⟨pP,mg_of X G aP,aU ⟨Rp,⟨il,nP,lP,kP,oP,_,cG,rfl⟩,fun H=>.inr ⟨_,_,_,cH,rfl,rfl,B4,.nil⟩⟩
   (aU ⟨Rq,⟨il,nP,lP,kP,oP,_,cI,rfl⟩,fun H=>.inr ⟨_,_,_,cJ,rfl,rfl,B4,.nil⟩⟩
   (aU ⟨Rr,⟨il,nP,lP,kP,oP,_,cK,rfl⟩,fun H=>.inr ⟨_,_,_,cL,rfl,rfl,i0,.cons ⟨_,rfl⟩ (.nil)⟩⟩
   (aU ⟨Rt,⟨il,nP,lP,kP,oP,_,cM,rfl⟩,fun H=>.inr ⟨_,_,_,cN,rfl,rfl,bq,.cons ⟨_,rfl⟩ (.cons ⟨_,rfl⟩ (.nil))⟩⟩
   (aU ⟨Ru,⟨il,nP,lP,kP,oP,_,cO,rfl⟩,fun H=>.inr ⟨_,_,_,cP,rfl,rfl,bq,.cons ⟨_,rfl⟩ (.cons ⟨_,rfl⟩ (.nil))⟩⟩
   (aU ⟨Rv,⟨il,nP,lP,kP,oP,_,cQ,rfl⟩,fun H=>.inr ⟨_,_,_,cR,rfl,rfl,bq,.cons ⟨_,rfl⟩ (.cons ⟨_,rfl⟩ (.nil))⟩⟩
   (aU ⟨Rw,⟨il,nP,lP,kP,oP,_,cS,rfl⟩,fun H=>.inr ⟨_,_,_,cT,rfl,rfl,bq,.cons ⟨_,rfl⟩ (.cons ⟨_,rfl⟩ (.nil))⟩⟩
   (aU ⟨Rx,⟨il,nP,lP,kP,oP,_,cU,rfl⟩,fun H=>.inr ⟨_,_,_,cV,rfl,rfl,bq,.cons ⟨_,rfl⟩ (.cons ⟨_,rfl⟩ (.nil))⟩⟩
   (aU ⟨Ry,⟨il,nP,lP,kP,oP,_,cW,rfl⟩,fun H=>.inr ⟨_,_,_,cX,rfl,rfl,bq,.cons ⟨_,rfl⟩ (.cons ⟨_,rfl⟩ (.nil))⟩⟩
   (aU ⟨Rz,⟨il,nP,lP,kP,oP,_,cY,rfl⟩,fun H=>.inr ⟨_,_,_,cZ,rfl,rfl,bq,.cons ⟨_,rfl⟩ (.cons ⟨_,rfl⟩ (.nil))⟩⟩
   (aU ⟨Gq,⟨il,nP,lP,kP,oP,_,da,rfl⟩,fun H=>.inr ⟨_,_,_,db,rfl,rfl,i0,.cons ⟨_,rfl⟩ (.nil)⟩⟩
   (aU ⟨Gr,⟨il,nP,lP,kP,oP,_,dc,rfl⟩,fun H=>.inr ⟨_,_,_,dd,rfl,rfl,bq,.cons ⟨_,rfl⟩ (.cons ⟨_,rfl⟩ (.nil))⟩⟩
   (aU ⟨Gs,⟨il,nP,lP,kP,oP,_,de,rfl⟩,fun H=>.inr ⟨_,_,_,df,rfl,rfl,bq,.cons ⟨_,rfl⟩ (.cons ⟨_,rfl⟩ (.nil))⟩⟩
   (aU ⟨Gu,⟨il,nP,lP,kP,oP,_,dg,rfl⟩,fun H=>.inr ⟨_,_,_,dh,rfl,rfl,bq,.cons ⟨_,rfl⟩ (.cons ⟨_,rfl⟩ (.nil))⟩⟩
   (aU ⟨Gv,⟨il,nP,lP,kP,oP,_,di,rfl⟩,fun H=>.inr ⟨_,_,_,dj,rfl,rfl,bq,.cons ⟨_,rfl⟩ (.cons ⟨_,rfl⟩ (.nil))⟩⟩
   (aU ⟨Gz,⟨il,nP,lP,kP,oP,_,dk,rfl⟩,fun H=>.inr ⟨_,_,_,dl,rfl,rfl,kX,.cons ⟨_,rfl⟩ (.cons ⟨_,rfl⟩ (.cons ⟨_,rfl⟩ (.nil)))⟩⟩
   (aU ⟨GQ,⟨il,nP,lP,kP,oP,_,dm,rfl⟩,fun H=>.inr ⟨_,_,_,dn,rfl,rfl,kX,.cons ⟨_,rfl⟩ (.cons ⟨_,rfl⟩ (.cons ⟨_,rfl⟩ (.nil)))⟩⟩
   (aU ⟨GV,⟨il,nP,lP,kP,oP,_,dp,rfl⟩,fun H=>.inr ⟨_,_,_,dr,rfl,rfl,bq,.cons ⟨_,rfl⟩ (.cons ⟨_,rfl⟩ (.nil))⟩⟩
   (aU ⟨GX,⟨il,nP,lP,kP,oP,_,ds,rfl⟩,fun H=>.inr ⟨_,_,_,dt,rfl,rfl,bq,.cons ⟨_,rfl⟩ (.cons ⟨_,rfl⟩ (.nil))⟩⟩
   (aU ⟨GY,⟨il,nP,lP,kP,oP,_,du,rfl⟩,fun H=>.inr ⟨_,_,_,dv,rfl,rfl,bq,.cons ⟨_,rfl⟩ (.cons ⟨_,rfl⟩ (.nil))⟩⟩
   (xM))))))))))))))))))))⟩,
  ⟨UR,mg_of X G cj,fun H=>.inr ⟨_,_,_,ck,rfl,rfl,Sz,.cons ⟨_,rfl⟩ (.cons ⟨_,rfl⟩ (.cons ⟨_,rfl⟩ (.cons ⟨_,rfl⟩ (.cons ⟨_,rfl⟩ (.cons ⟨_,rfl⟩ (.nil))))))⟩⟩,
  ⟨lF,mg_of X G dw⟩,
  ⟨iV,mg_of X G dx⟩,
  ⟨qe,mg_of X G dz⟩,
  ⟨si,mg_of X G dA⟩,
  ⟨lG,mg_of X G dB⟩,
  ⟨U1,mg_of X G cl,fun H=>.inr ⟨_,_,_,cn,rfl,rfl,kX,.cons ⟨_,rfl⟩ (.cons ⟨_,rfl⟩ (.cons ⟨_,rfl⟩ (.nil)))⟩⟩,
  ⟨pH,mg_of X G aH,⟨_,lH,rfl,rfl⟩,fun H=>have hd:um K H [Lv,Lw,Lx,Ly,Lz,LA,LB,LC,LD,LG,xN,xO,xP,xQ,xR,xS,xT,xU,xV,xW,xX,xY,xZ,ya,yb] heads:=(.cons (.inr ⟨_,_,_,dC,rfl,rfl,bq,.cons ⟨_,rfl⟩ (.cons ⟨_,rfl⟩ .nil)⟩) (.cons (.inr ⟨_,_,_,dD,rfl,rfl,bq,.cons ⟨_,rfl⟩ (.cons ⟨_,rfl⟩ .nil)⟩) (.cons (.inr ⟨_,_,_,dE,rfl,rfl,bq,.cons ⟨_,rfl⟩ (.cons ⟨_,rfl⟩ .nil)⟩) (.cons (.inr ⟨_,_,_,dF,rfl,rfl,bq,.cons ⟨_,rfl⟩ (.cons ⟨_,rfl⟩ .nil)⟩) (.cons (.inr ⟨_,_,_,dG,rfl,rfl,bq,.cons ⟨_,rfl⟩ (.cons ⟨_,rfl⟩ .nil)⟩) (.cons (.inr ⟨_,_,_,dH,rfl,rfl,bq,.cons ⟨_,rfl⟩ (.cons ⟨_,rfl⟩ .nil)⟩) (.cons (.inr ⟨_,_,_,dI,rfl,rfl,bq,.cons ⟨_,rfl⟩ (.cons ⟨_,rfl⟩ .nil)⟩) (.cons (.inr ⟨_,_,_,dJ,rfl,rfl,bq,.cons ⟨_,rfl⟩ (.cons ⟨_,rfl⟩ .nil)⟩) (.cons (.inr ⟨_,_,_,dK,rfl,rfl,bq,.cons ⟨_,rfl⟩ (.cons ⟨_,rfl⟩ .nil)⟩) (.cons (.inr ⟨_,_,_,dN,rfl,rfl,bq,.cons ⟨_,rfl⟩ (.cons ⟨_,rfl⟩ .nil)⟩) (.cons (.inr ⟨_,_,_,dO,rfl,rfl,bq,.cons ⟨_,rfl⟩ (.cons ⟨_,rfl⟩ .nil)⟩) (.cons (.inr ⟨_,_,_,dP,rfl,rfl,bq,.cons ⟨_,rfl⟩ (.cons ⟨_,rfl⟩ .nil)⟩) (.cons (.inr ⟨_,_,_,dQ,rfl,rfl,bq,.cons ⟨_,rfl⟩ (.cons ⟨_,rfl⟩ .nil)⟩) (.cons (.inr ⟨_,_,_,dS,rfl,rfl,bq,.cons ⟨_,rfl⟩ (.cons ⟨_,rfl⟩ .nil)⟩) (.cons (.inr ⟨_,_,_,dT,rfl,rfl,bq,.cons ⟨_,rfl⟩ (.cons ⟨_,rfl⟩ .nil)⟩) (.cons (.inr ⟨_,_,_,dU,rfl,rfl,bq,.cons ⟨_,rfl⟩ (.cons ⟨_,rfl⟩ .nil)⟩) (.cons (.inr ⟨_,_,_,dV,rfl,rfl,bq,.cons ⟨_,rfl⟩ (.cons ⟨_,rfl⟩ .nil)⟩) (.cons (.inr ⟨_,_,_,dW,rfl,rfl,bq,.cons ⟨_,rfl⟩ (.cons ⟨_,rfl⟩ .nil)⟩) (.cons (.inr ⟨_,_,_,dX,rfl,rfl,bq,.cons ⟨_,rfl⟩ (.cons ⟨_,rfl⟩ .nil)⟩) (.cons (.inr ⟨_,_,_,dY,rfl,rfl,bq,.cons ⟨_,rfl⟩ (.cons ⟨_,rfl⟩ .nil)⟩) (.cons (.inr ⟨_,_,_,dZ,rfl,rfl,bq,.cons ⟨_,rfl⟩ (.cons ⟨_,rfl⟩ .nil)⟩) (.cons (.inr ⟨_,_,_,ea,rfl,rfl,bq,.cons ⟨_,rfl⟩ (.cons ⟨_,rfl⟩ .nil)⟩) (.cons (.inr ⟨_,_,_,eb,rfl,rfl,bq,.cons ⟨_,rfl⟩ (.cons ⟨_,rfl⟩ .nil)⟩) (.cons (.inr ⟨_,_,_,ec,rfl,rfl,bq,.cons ⟨_,rfl⟩ (.cons ⟨_,rfl⟩ .nil)⟩) (.cons (.inr ⟨_,_,_,ee,rfl,rfl,bq,.cons ⟨_,rfl⟩ (.cons ⟨_,rfl⟩ .nil)⟩) .nil)))))))))))))))))))))))));⟨_,.inr ⟨_,_,_,lH,rfl,rfl,Hr,mQ [Lv,Lw,Lx,Ly,Lz,LA,LB,LC,LD,LG,xN,xO,xP,xQ,xR,xS,xT,xU,xV,xW,xX,xY,xZ,ya,yb]⟩,hd.len,hd.get⟩⟩,
  ⟨iW,mg_of X G ef⟩,
  have hd:∀H,um K H [Lv,Lw,Lx,Ly,Lz,LA,LB,LC,LD,LG,xN,xO,xP,xQ,xR,xS,xT,xU,xV,xW,xX,xY,xZ,ya,yb] heads:=fun H=>(.cons (.inr ⟨_,_,_,dC,rfl,rfl,bq,.cons ⟨_,rfl⟩ (.cons ⟨_,rfl⟩ .nil)⟩) (.cons (.inr ⟨_,_,_,dD,rfl,rfl,bq,.cons ⟨_,rfl⟩ (.cons ⟨_,rfl⟩ .nil)⟩) (.cons (.inr ⟨_,_,_,dE,rfl,rfl,bq,.cons ⟨_,rfl⟩ (.cons ⟨_,rfl⟩ .nil)⟩) (.cons (.inr ⟨_,_,_,dF,rfl,rfl,bq,.cons ⟨_,rfl⟩ (.cons ⟨_,rfl⟩ .nil)⟩) (.cons (.inr ⟨_,_,_,dG,rfl,rfl,bq,.cons ⟨_,rfl⟩ (.cons ⟨_,rfl⟩ .nil)⟩) (.cons (.inr ⟨_,_,_,dH,rfl,rfl,bq,.cons ⟨_,rfl⟩ (.cons ⟨_,rfl⟩ .nil)⟩) (.cons (.inr ⟨_,_,_,dI,rfl,rfl,bq,.cons ⟨_,rfl⟩ (.cons ⟨_,rfl⟩ .nil)⟩) (.cons (.inr ⟨_,_,_,dJ,rfl,rfl,bq,.cons ⟨_,rfl⟩ (.cons ⟨_,rfl⟩ .nil)⟩) (.cons (.inr ⟨_,_,_,dK,rfl,rfl,bq,.cons ⟨_,rfl⟩ (.cons ⟨_,rfl⟩ .nil)⟩) (.cons (.inr ⟨_,_,_,dN,rfl,rfl,bq,.cons ⟨_,rfl⟩ (.cons ⟨_,rfl⟩ .nil)⟩) (.cons (.inr ⟨_,_,_,dO,rfl,rfl,bq,.cons ⟨_,rfl⟩ (.cons ⟨_,rfl⟩ .nil)⟩) (.cons (.inr ⟨_,_,_,dP,rfl,rfl,bq,.cons ⟨_,rfl⟩ (.cons ⟨_,rfl⟩ .nil)⟩) (.cons (.inr ⟨_,_,_,dQ,rfl,rfl,bq,.cons ⟨_,rfl⟩ (.cons ⟨_,rfl⟩ .nil)⟩) (.cons (.inr ⟨_,_,_,dS,rfl,rfl,bq,.cons ⟨_,rfl⟩ (.cons ⟨_,rfl⟩ .nil)⟩) (.cons (.inr ⟨_,_,_,dT,rfl,rfl,bq,.cons ⟨_,rfl⟩ (.cons ⟨_,rfl⟩ .nil)⟩) (.cons (.inr ⟨_,_,_,dU,rfl,rfl,bq,.cons ⟨_,rfl⟩ (.cons ⟨_,rfl⟩ .nil)⟩) (.cons (.inr ⟨_,_,_,dV,rfl,rfl,bq,.cons ⟨_,rfl⟩ (.cons ⟨_,rfl⟩ .nil)⟩) (.cons (.inr ⟨_,_,_,dW,rfl,rfl,bq,.cons ⟨_,rfl⟩ (.cons ⟨_,rfl⟩ .nil)⟩) (.cons (.inr ⟨_,_,_,dX,rfl,rfl,bq,.cons ⟨_,rfl⟩ (.cons ⟨_,rfl⟩ .nil)⟩) (.cons (.inr ⟨_,_,_,dY,rfl,rfl,bq,.cons ⟨_,rfl⟩ (.cons ⟨_,rfl⟩ .nil)⟩) (.cons (.inr ⟨_,_,_,dZ,rfl,rfl,bq,.cons ⟨_,rfl⟩ (.cons ⟨_,rfl⟩ .nil)⟩) (.cons (.inr ⟨_,_,_,ea,rfl,rfl,bq,.cons ⟨_,rfl⟩ (.cons ⟨_,rfl⟩ .nil)⟩) (.cons (.inr ⟨_,_,_,eb,rfl,rfl,bq,.cons ⟨_,rfl⟩ (.cons ⟨_,rfl⟩ .nil)⟩) (.cons (.inr ⟨_,_,_,ec,rfl,rfl,bq,.cons ⟨_,rfl⟩ (.cons ⟨_,rfl⟩ .nil)⟩) (.cons (.inr ⟨_,_,_,ee,rfl,rfl,bq,.cons ⟨_,rfl⟩ (.cons ⟨_,rfl⟩ .nil)⟩) .nil)))))))))))))))))))))))));⟨pH,[Lv,Lw,Lx,Ly,Lz,LA,LB,LC,LD,LG,xN,xO,xP,xQ,xR,xS,xT,xU,xV,xW,xX,xY,xZ,ya,yb],mg_of X G aH,fun H=>.inr ⟨_,_,_,lH,rfl,rfl,Hr,mQ [Lv,Lw,Lx,Ly,Lz,LA,LB,LC,LD,LG,xN,xO,xP,xQ,xR,xS,xT,xU,xV,xW,xX,xY,xZ,ya,yb]⟩,rfl,fun i q x g1 g2 H=>(hd H).get i q x g1 g2⟩,
  ⟨pP,mg_of X G aP,aU ⟨Rp,⟨il,nP,lP,kP,oP,_,cG,rfl⟩,⟨_,cH,rfl,rfl⟩,fun H=>.inr ⟨_,_,_,cH,rfl,rfl,B4,.nil⟩⟩
   (aU ⟨Rq,⟨il,nP,lP,kP,oP,_,cI,rfl⟩,⟨_,cJ,rfl,rfl⟩,fun H=>.inr ⟨_,_,_,cJ,rfl,rfl,B4,.nil⟩⟩
   (aU ⟨Rr,⟨il,nP,lP,kP,oP,_,cK,rfl⟩,⟨_,cL,rfl,rfl⟩,fun H=>.inr ⟨_,_,_,cL,rfl,rfl,i0,.cons ⟨_,rfl⟩ (.nil)⟩⟩
   (aU ⟨Rt,⟨il,nP,lP,kP,oP,_,cM,rfl⟩,⟨_,cN,rfl,rfl⟩,fun H=>.inr ⟨_,_,_,cN,rfl,rfl,bq,.cons ⟨_,rfl⟩ (.cons ⟨_,rfl⟩ (.nil))⟩⟩
   (aU ⟨Ru,⟨il,nP,lP,kP,oP,_,cO,rfl⟩,⟨_,cP,rfl,rfl⟩,fun H=>.inr ⟨_,_,_,cP,rfl,rfl,bq,.cons ⟨_,rfl⟩ (.cons ⟨_,rfl⟩ (.nil))⟩⟩
   (aU ⟨Rv,⟨il,nP,lP,kP,oP,_,cQ,rfl⟩,⟨_,cR,rfl,rfl⟩,fun H=>.inr ⟨_,_,_,cR,rfl,rfl,bq,.cons ⟨_,rfl⟩ (.cons ⟨_,rfl⟩ (.nil))⟩⟩
   (aU ⟨Rw,⟨il,nP,lP,kP,oP,_,cS,rfl⟩,⟨_,cT,rfl,rfl⟩,fun H=>.inr ⟨_,_,_,cT,rfl,rfl,bq,.cons ⟨_,rfl⟩ (.cons ⟨_,rfl⟩ (.nil))⟩⟩
   (aU ⟨Rx,⟨il,nP,lP,kP,oP,_,cU,rfl⟩,⟨_,cV,rfl,rfl⟩,fun H=>.inr ⟨_,_,_,cV,rfl,rfl,bq,.cons ⟨_,rfl⟩ (.cons ⟨_,rfl⟩ (.nil))⟩⟩
   (aU ⟨Ry,⟨il,nP,lP,kP,oP,_,cW,rfl⟩,⟨_,cX,rfl,rfl⟩,fun H=>.inr ⟨_,_,_,cX,rfl,rfl,bq,.cons ⟨_,rfl⟩ (.cons ⟨_,rfl⟩ (.nil))⟩⟩
   (aU ⟨Rz,⟨il,nP,lP,kP,oP,_,cY,rfl⟩,⟨_,cZ,rfl,rfl⟩,fun H=>.inr ⟨_,_,_,cZ,rfl,rfl,bq,.cons ⟨_,rfl⟩ (.cons ⟨_,rfl⟩ (.nil))⟩⟩
   (aU ⟨Gq,⟨il,nP,lP,kP,oP,_,da,rfl⟩,⟨_,db,rfl,rfl⟩,fun H=>.inr ⟨_,_,_,db,rfl,rfl,i0,.cons ⟨_,rfl⟩ (.nil)⟩⟩
   (aU ⟨Gr,⟨il,nP,lP,kP,oP,_,dc,rfl⟩,⟨_,dd,rfl,rfl⟩,fun H=>.inr ⟨_,_,_,dd,rfl,rfl,bq,.cons ⟨_,rfl⟩ (.cons ⟨_,rfl⟩ (.nil))⟩⟩
   (aU ⟨Gs,⟨il,nP,lP,kP,oP,_,de,rfl⟩,⟨_,df,rfl,rfl⟩,fun H=>.inr ⟨_,_,_,df,rfl,rfl,bq,.cons ⟨_,rfl⟩ (.cons ⟨_,rfl⟩ (.nil))⟩⟩
   (aU ⟨Gu,⟨il,nP,lP,kP,oP,_,dg,rfl⟩,⟨_,dh,rfl,rfl⟩,fun H=>.inr ⟨_,_,_,dh,rfl,rfl,bq,.cons ⟨_,rfl⟩ (.cons ⟨_,rfl⟩ (.nil))⟩⟩
   (aU ⟨Gv,⟨il,nP,lP,kP,oP,_,di,rfl⟩,⟨_,dj,rfl,rfl⟩,fun H=>.inr ⟨_,_,_,dj,rfl,rfl,bq,.cons ⟨_,rfl⟩ (.cons ⟨_,rfl⟩ (.nil))⟩⟩
   (aU ⟨Gz,⟨il,nP,lP,kP,oP,_,dk,rfl⟩,⟨_,dl,rfl,rfl⟩,fun H=>.inr ⟨_,_,_,dl,rfl,rfl,kX,.cons ⟨_,rfl⟩ (.cons ⟨_,rfl⟩ (.cons ⟨_,rfl⟩ (.nil)))⟩⟩
   (aU ⟨GQ,⟨il,nP,lP,kP,oP,_,dm,rfl⟩,⟨_,dn,rfl,rfl⟩,fun H=>.inr ⟨_,_,_,dn,rfl,rfl,kX,.cons ⟨_,rfl⟩ (.cons ⟨_,rfl⟩ (.cons ⟨_,rfl⟩ (.nil)))⟩⟩
   (aU ⟨GV,⟨il,nP,lP,kP,oP,_,dp,rfl⟩,⟨_,dr,rfl,rfl⟩,fun H=>.inr ⟨_,_,_,dr,rfl,rfl,bq,.cons ⟨_,rfl⟩ (.cons ⟨_,rfl⟩ (.nil))⟩⟩
   (aU ⟨GX,⟨il,nP,lP,kP,oP,_,ds,rfl⟩,⟨_,dt,rfl,rfl⟩,fun H=>.inr ⟨_,_,_,dt,rfl,rfl,bq,.cons ⟨_,rfl⟩ (.cons ⟨_,rfl⟩ (.nil))⟩⟩
   (aU ⟨GY,⟨il,nP,lP,kP,oP,_,du,rfl⟩,⟨_,dv,rfl,rfl⟩,fun H=>.inr ⟨_,_,_,dv,rfl,rfl,bq,.cons ⟨_,rfl⟩ (.cons ⟨_,rfl⟩ (.nil))⟩⟩
   (xM))))))))))))))))))))⟩,
  ⟨pB,mg_of X G aB,aU ⟨WK,⟨IH,nB,lB,kB,oB,_,eg,rfl⟩,fun H=>.inr ⟨_,_,_,eh,rfl,rfl,bq,.cons ⟨_,rfl⟩ (.cons ⟨_,rfl⟩ (.nil))⟩⟩
   (aU ⟨WM,⟨IH,nB,lB,kB,oB,_,ei,rfl⟩,fun H=>.inr ⟨_,_,_,ej,rfl,rfl,bq,.cons ⟨_,rfl⟩ (.cons ⟨_,rfl⟩ (.nil))⟩⟩
   (aU ⟨WO,⟨IH,nB,lB,kB,oB,_,ek,rfl⟩,fun H=>.inr ⟨_,_,_,el,rfl,rfl,bq,.cons ⟨_,rfl⟩ (.cons ⟨_,rfl⟩ (.nil))⟩⟩
   (aU ⟨WR,⟨IH,nB,lB,kB,oB,_,em,rfl⟩,fun H=>.inr ⟨_,_,_,en,rfl,rfl,bq,.cons ⟨_,rfl⟩ (.cons ⟨_,rfl⟩ (.nil))⟩⟩
   (aU ⟨WU,⟨IH,nB,lB,kB,oB,_,eo,rfl⟩,fun H=>.inr ⟨_,_,_,ep,rfl,rfl,bq,.cons ⟨_,rfl⟩ (.cons ⟨_,rfl⟩ (.nil))⟩⟩
   (aU ⟨WW,⟨IH,nB,lB,kB,oB,_,eq,rfl⟩,fun H=>.inr ⟨_,_,_,er,rfl,rfl,bq,.cons ⟨_,rfl⟩ (.cons ⟨_,rfl⟩ (.nil))⟩⟩
   (xM))))))⟩,
  ⟨jX,mg_of X G es⟩,
  ⟨DX,mg_of X G et⟩,
  ⟨U7,mg_of X G co,fun H=>.inr ⟨_,_,_,cp,rfl,rfl,B5,.cons ⟨_,rfl⟩ (.cons ⟨_,rfl⟩ (.cons ⟨_,rfl⟩ (.cons ⟨_,rfl⟩ (.nil))))⟩⟩,
  ⟨qf,mg_of X G eu⟩,
  ⟨jY,mg_of X G ev⟩,
  ⟨Zc,mg_of X G ew⟩,
  mg_none_of X G cq,
  mg_none_of X G cs,
  mg_none_of X G ct,
  mg_none_of X G cu,
  mg_none_of X G cv,
  mg_none_of X G cw,
  mg_none_of X G cx,
  mg_none_of X G cy,
  mg_none_of X G cz,
  mg_none_of X G cC,
  mg_none_of X G cD,
  mg_none_of X G cE,
  mg_none_of X G cF⟩
 refine⟨fnOf "law" "law" (dM k4) (dq k4) (ak k4) .none O0 O1 O2 OZ K4 O3,fun s v=>.of_eq rfl,fun base _ _=>?_⟩;have FI:=aR (st:=LY) eC eD eE;have bI:=qq (a :="self") (b :="at") FI fun _ _ _ _ _ _ _ _=>rfl;have CX:gu K cg cB gI:=⟨⟨_,_,_,_,_,_,_,_,_,_,_,_,_,_,eF⟩,eA,eB,⟨xq⟩,eG,eH,eJ,eK,eL,⟨eM,eN,eO,eP,eQ,eR,eS,by rw[eT];rfl⟩,eU,eV,eX⟩;have Zw:=aR (st:=Bb) fg fh fi;have QG:=qq (a :="self") (b :="at") Zw fun _ _ _ _ _ _ _ _=>rfl;have L0:gu K cA cB Qv:=⟨⟨_,_,_,_,_,_,_,_,_,_,_,_,_,_,fj⟩,fe,ff,⟨fk⟩,fl,fm,fn,fo,fp,⟨fq,fr,fs,ft,fu,fv,fw,by rw[fx];rfl⟩,fy,fz,fA⟩;have Zx:=mg_of X G ez;have SH:=mg_of X G ex;have vy:=mg_of X G ey;have GI:=OX (P:=l.prog) (w:=w) (base:=base) FI CX Zx;have QH:=K3 (P:=l.prog) (w:=w) (base:=base) Zw L0 Zx;have eW:=wX (P:=l.prog) (w:=w) (base:=base) F1 T;have c7:=JV (P:=l.prog) (w:=w) (base:=base) ab T;have qg:=EK (P:=l.prog) (w:=w) (base:=base) ao T c7 ab.kp b10 D7;have iE:=JW (P:=l.prog) (w:=w) (base:=base) aw T c7 ab.kp b10 D7;have ny:=Cm (P:=l.prog) (w:=w) (base:=base) ay T;have iP:=AO (P:=l.prog) (w:=w) (base:=base) aq T qg ao.kp Zd Ze;have iX:=Cr (P:=l.prog) (w:=w) (base:=base) au T eW F1.kp b1 m1;have gM:=AR (P:=l.prog) (w:=w) (base:=base) aA T iP aq.kp Xo Xp iE aw.kp Zh Zi iX au.kp Zf Zg;have iY:=Cy (P:=l.prog) (w:=w) (base:=base) aE T gM aA.kp Zm Zn ny ay.kp Zj Zk CX eY GI bI SH;have nM:=EV (P:=l.prog) (w:=w) (base:=base) bL T;have qj:=AT (P:=l.prog) (w:=w) (base:=base) bN T;have nA:=CD (P:=l.prog) (w:=w) (base:=base) F3 T;have fQ:=CF (P:=l.prog) (w:=w) (base:=base) F4 T nA F3.kp b3 m3;have h8:=J2 (P:=l.prog) (w:=w) (base:=base) bc T nA F3.kp b3 m3 L0 fB QH QG vy;have uo:=E1 (P:=l.prog) (w:=w) (base:=base) be T c7 ab.kp b10 D7;have vW:=J3 (P:=l.prog) (w:=w) (base:=base) bg T h8 bc.kp RA RB L0 fB QH QG vy;have uq:=J4 (P:=l.prog) (w:=w) (base:=base) bi T h8 bc.kp RA RB fQ F4.kp b4 m4 L0 fB QH QG vy;have yc:=J5 (P:=l.prog) (w:=w) (base:=base) bk T uq bi.kp b35 m35;have yd:=J6 (P:=l.prog) (w:=w) (base:=base) bm T h8 bc.kp RA RB;have Bc:=J8 (P:=l.prog) (w:=w) (base:=base) bo T h8 bc.kp RA RB uo be.kp b33 m33 vW bg.kp b34 m34 c7 ab.kp b10 D7 yd bm.kp b37 m37 yc bk.kp b36 m36 L0 fB QH QG vy;have ql:=E6 (P:=l.prog) (w:=w) (base:=base) F0 T;have nO:=CO (P:=l.prog) (w:=w) (base:=base) F2 T;have iQ:=Ka (P:=l.prog) (w:=w) (base:=base) br T Bc bo.kp b38 m38 qg ao.kp Zd Ze;have iF:=Kd (P:=l.prog) (w:=w) (base:=base) bt T iQ br.kp b39 m39 iP aq.kp Xo Xp eW F1.kp b1 m1 ql F0.kp b0 m0 nO F2.kp b2 m2 L0 fB QH QG vy;have Bd:=CY (P:=l.prog) (w:=w) (base:=base) ad T c7 ab.kp b10 D7;have jt:=CZ (P:=l.prog) (w:=w) (base:=base) ah T;have ye:=Fd (P:=l.prog) (w:=w) (base:=base) aQ T Bd ad.kp b11 m11;have Be:=Ke (P:=l.prog) (w:=w) (base:=base) aT T iE aw.kp Zh Zi jt ah.kp Xm Xn;have qG:=C4 (P:=l.prog) (w:=w) (base:=base) aW T jt ah.kp Xm Xn ye aQ.kp b27 m27 Be aT.kp b28 m28;have qm:=C5 (P:=l.prog) (w:=w) (base:=base) aY T c7 ab.kp b10 D7 jt ah.kp Xm Xn;have nE:=C7 (P:=l.prog) (w:=w) (base:=base) ba T iY aE.kp Zo Zq iP aq.kp Xo Xp iX au.kp Zf Zg qG aW.kp b29 m29 qm aY.kp b30 m30
 have yf:=xj (P:=l.prog) (w:=w) (base:=base) F8 T;have qH:=qB (P:=l.prog) (w:=w) (base:=base) F5 T fQ F4.kp b4 m4;have yg:=xk (P:=l.prog) (w:=w) (base:=base) F6 T fQ F4.kp b4 m4 qH F5.kp b5 m5;have ur:=tU (P:=l.prog) (w:=w) (base:=base) F7 T yg F6.kp b6 m6;have sj:=A1 (P:=l.prog) (w:=w) (base:=base) F9 T yf F8.kp b8 m8 ur F7.kp b7 m7;have nQ:=nL (P:=l.prog) (w:=w) (base:=base) aj T eW F1.kp b1 m1;have qI:=qC (P:=l.prog) (w:=w) (base:=base) am T sj F9.kp b9 m9 nQ aj.kp b14 m14 ql F0.kp b0 m0;have qJ:=Ku (P:=l.prog) (w:=w) (base:=base) bA T;have qo:=Kv (P:=l.prog) (w:=w) (base:=base) bC T qJ bA.kp b43 m43;have uv:=tV (P:=l.prog) (w:=w) (base:=base) bv T c7 ab.kp b10 D7;have qK:=qE (P:=l.prog) (w:=w) (base:=base) bx T uv bv.kp b41 m41;have lI:=lq (P:=l.prog) (w:=w) (base:=base) bE T c7 ab.kp b10 D7;have vX:=vK (P:=l.prog) (w:=w) (base:=base) bG T c7 ab.kp b10 D7 qo bC.kp b44 m44 lI bE.kp b45 m45 sj F9.kp b9 m9;have uw:=tW (P:=l.prog) (w:=w) (base:=base) bJ T vX bG.kp b46 m46;have qL:=Oi (P:=l.prog) (w:=w) (base:=base) aG T eW F1.kp b1 m1;have qp:=Ol (P:=l.prog) (w:=w) (base:=base) aJ T;have vY:=Oo (P:=l.prog) (w:=w) (base:=base) af T c7 ab.kp b10 D7;have ju:=DG (P:=l.prog) (w:=w) (base:=base) aL T gM aA.kp Zm Zn ny ay.kp Zj Zk qL aG.kp b23 m23 qp aJ.kp b24 m24;have nS:=DH (P:=l.prog) (w:=w) (base:=base) aN T ju aL.kp b25 m25 vY af.kp b12 m12;have uz:=vO (P:=l.prog) (w:=w) (base:=base) bP T;have uD:=vP (P:=l.prog) (w:=w) (base:=base) bR T;have uE:=vQ (P:=l.prog) (w:=w) (base:=base) bT T;have vZ:=xG (P:=l.prog) (w:=w) (base:=base) bV T;have lJ:=mw (P:=l.prog) (w:=w) (base:=base) bX T qj bN.kp b49 m49 nM bL.kp b48 m48 uE bT.kp b52 m52 uz bP.kp b50 m50 uD bR.kp b51 m51 vZ bV.kp b53 m53;have lK:=mz (P:=l.prog) (w:=w) (base:=base) bZ T;have qM:=uf (P:=l.prog) (w:=w) (base:=base) cb T;have qN:=ug (P:=l.prog) (w:=w) (base:=base) cd T nE ba.kp Zr Zt iF bt.kp Zu Zv uw bJ.kp b47 m47 qK bx.kp b42 m42;exact K2 F58 T lJ bX.kp b54 m54 iF bt.kp Zu Zv qI am.kp b15 m15 iY aE.kp Zo Zq nE ba.kp Zr Zt lK bZ.kp b55 m55 qM cb.kp b56 m56 qN cd.kp b57 m57 nS aN.kp b26 m26
theorem walk{l:OpenLaw}{q:Program}{loose:List Str}{XP:(Str->Option Value)->Heap->Prop}{YP:World->Heap->Prop}{d:DefRec}{K:Params->Frag}(hn:l.most=some 63)(hdf:d.params.defaults=[])
  (hY:∀(w:World) (h:Heap),YP w h->(K w.params).In h)
  (F:∀(w:World) (mg:Str->Option Value) (fa:Addr) (h:Heap),(K w.params).In h->h.Ns dL mg->mg d.name=some (.ref fa)->
   ∃fd:ed,(∀(s:Shared) (u:Value),BindsTo s fd ⟨[u],[]⟩ [("_law_script",u)])/\∀base:Heap,(K w.params).In base->base.Ns dL mg->aD l.prog w (K w.params) mg base cm 11 fa fd ["_law_script"] (zS (K:=K w.params))):
  WalkO q loose XP YP l.row.toRowW d [] (fun f vs=>PySem.call f vs):=
 L2.yw (n:=63) (k:=11) (x :="_law_script") (CX:=fun _=>cm) (sp:=fun w=>zS (K:=K w.params)) hn (by decide) hdf ⟨rfl,by decide,by decide,rfl⟩ hY F (fun _ _ a ns hl _ hS=>⟨a,ns,rfl,hS,fun _=>rfl⟩) fun _ _ _ _ _ z=>z
end My
open PySem PySem.W PyProof.Rows
set_option maxRecDepth 100000 in
set_option maxHeartbeats 0 in
theorem PySem.Challenge.cw_widenrows_k18_whole_units_read_are_told_holds : PySem.Challenge.rw_widenrows_k18_whole_units_read_are_told.Holds := by
 w_on; o_law; k_head; (case hw=>w_witness2)
 k_fill
 refine My.walk (l:=PySem.Challenge.rw_widenrows_k18_whole_units_read_are_told) rfl rfl (fun w h Y=>kIn_of Y) ?F
 case F =>
  intro w mg fa h KX G hmg
  refine' My.all_mk KX G hmg ?a0 ?F0 ?a1 ?F1 ?a2 ?F2 ?a3 ?F3 ?a4 ?F4 ?a5 ?F5 ?a6 ?F6 ?a7 ?F7 ?a8 ?F8 ?a9 ?F9 ?aa ?ab ?ac ?ad ?ae ?af ?ag ?ah ?ai ?aj ?al ?am ?an ?ao ?ap ?aq ?ar ?au ?av ?aw ?ax ?ay ?az ?aA ?aC ?aE ?aF ?aG ?aI ?aJ ?aK ?aL ?aM ?aN ?aO ?aQ ?aS ?aT ?aV ?aW ?aX ?aY ?aZ ?ba ?bb ?bc ?bd ?be ?bf ?bg ?bh ?bi ?bj ?bk ?bl ?bm ?bn ?bo ?bp ?br ?bs ?bt ?bu ?bv ?bw ?bx ?bz ?bA ?bB ?bC ?bD ?bE ?bF ?bG ?bH ?bJ ?bK ?bL ?bM ?bN ?bO ?bP ?bQ ?bR ?bS ?bT ?bU ?bV ?bW ?bX ?bY ?bZ ?ca ?cb ?cc ?cd ?ce ?cf ?ch ?ci ?cj ?ck ?cl ?cn ?co ?cp ?cq ?cs ?ct ?cu ?cv ?cw ?cx ?cy ?cz ?cC ?cD ?cE ?cF ?aP ?lP ?kP ?oP ?cG ?cH ?cI ?cJ ?cK ?cL ?cM ?cN ?cO ?cP ?cQ ?cR ?cS ?cT ?cU ?cV ?cW ?cX ?cY ?cZ ?da ?db ?dc ?dd ?de ?df ?dg ?dh ?di ?dj ?dk ?dl ?dm ?dn ?dp ?dr ?ds ?dt ?du ?dv ?dw ?dx ?dz ?dA ?dB ?aH ?lH ?dC ?dD ?dE ?dF ?dG ?dH ?dI ?dJ ?dK ?dN ?dO ?dP ?dQ ?dS ?dT ?dU ?dV ?dW ?dX ?dY ?dZ ?ea ?eb ?ec ?ee ?ef ?aB ?lB ?kB ?oB ?eg ?eh ?ei ?ej ?ek ?el ?em ?en ?eo ?ep ?eq ?er ?es ?et ?eu ?ev ?ew ?ex ?ey ?ez ?eA ?eB ?eC ?eD ?eE ?eF ?xq ?eG ?eH ?eJ ?eK ?eL ?eM ?eN ?eO ?eP ?eQ ?eR ?eS ?eT ?eU ?eV ?eX ?eY ?eZ ?fb ?fc ?fe ?ff ?fg ?fh ?fi ?fj ?fk ?fl ?fm ?fn ?fo ?fp ?fq ?fr ?fs ?ft ?fu ?fv ?fw ?fx ?fy ?fz ?fA ?fB ?fC ?fD ?fE
  case a0=>k_is
  case F0=>exact L2.aR (by k_is) (by k_is) (by k_is)
  case a1=>k_is
  case F1=>exact L2.aR (by k_is) (by k_is) (by k_is)
  case a2=>k_is
  case F2=>exact L2.aR (by k_is) (by k_is) (by k_is)
  case a3=>k_is
  case F3=>exact L2.aR (by k_is) (by k_is) (by k_is)
  case a4=>k_is
  case F4=>exact L2.aR (by k_is) (by k_is) (by k_is)
  case a5=>k_is
  case F5=>exact L2.aR (by k_is) (by k_is) (by k_is)
  case a6=>k_is
  case F6=>exact L2.aR (by k_is) (by k_is) (by k_is)
  case a7=>k_is
  case F7=>exact L2.aR (by k_is) (by k_is) (by k_is)
  case a8=>k_is
  case F8=>exact L2.aR (by k_is) (by k_is) (by k_is)
  case a9=>k_is
  case F9=>exact L2.aR (by k_is) (by k_is) (by k_is)
  case aa=>k_is
  case ab=>exact L2.aR (by k_is) (by k_is) (by k_is)
  case ac=>k_is
  case ad=>exact L2.aR (by k_is) (by k_is) (by k_is)
  case ae=>k_is
  case af=>exact L2.aR (by k_is) (by k_is) (by k_is)
  case ag=>k_is
  case ah=>exact L2.aR (by k_is) (by k_is) (by k_is)
  case ai=>k_is
  case aj=>exact L2.aR (by k_is) (by k_is) (by k_is)
  case al=>k_is
  case am=>exact L2.aR (by k_is) (by k_is) (by k_is)
  case an=>k_is
  case ao=>exact L2.aR (by k_is) (by k_is) (by k_is)
  case ap=>k_is
  case aq=>exact L2.aR (by k_is) (by k_is) (by k_is)
  case ar=>k_is
  case au=>exact L2.aR (by k_is) (by k_is) (by k_is)
  case av=>k_is
  case aw=>exact L2.aR (by k_is) (by k_is) (by k_is)
  case ax=>k_is
  case ay=>exact L2.aR (by k_is) (by k_is) (by k_is)
  case az=>k_is
  case aA=>exact L2.aR (by k_is) (by k_is) (by k_is)
  case aC=>k_is
  case aE=>exact L2.aR (by k_is) (by k_is) (by k_is)
  case aF=>k_is
  case aG=>exact L2.aR (by k_is) (by k_is) (by k_is)
  case aI=>k_is
  case aJ=>exact L2.aR (by k_is) (by k_is) (by k_is)
  case aK=>k_is
  case aL=>exact L2.aR (by k_is) (by k_is) (by k_is)
  case aM=>k_is
  case aN=>exact L2.aR (by k_is) (by k_is) (by k_is)
  case aO=>k_is
  case aQ=>exact L2.aR (by k_is) (by k_is) (by k_is)
  case aS=>k_is
  case aT=>exact L2.aR (by k_is) (by k_is) (by k_is)
  case aV=>k_is
  case aW=>exact L2.aR (by k_is) (by k_is) (by k_is)
  case aX=>k_is
  case aY=>exact L2.aR (by k_is) (by k_is) (by k_is)
  case aZ=>k_is
  case ba=>exact L2.aR (by k_is) (by k_is) (by k_is)
  case bb=>k_is
  case bc=>exact L2.aR (by k_is) (by k_is) (by k_is)
  case bd=>k_is
  case be=>exact L2.aR (by k_is) (by k_is) (by k_is)
  case bf=>k_is
  case bg=>exact L2.aR (by k_is) (by k_is) (by k_is)
  case bh=>k_is
  case bi=>exact L2.aR (by k_is) (by k_is) (by k_is)
  case bj=>k_is
  case bk=>exact L2.aR (by k_is) (by k_is) (by k_is)
  case bl=>k_is
  case bm=>exact L2.aR (by k_is) (by k_is) (by k_is)
  case bn=>k_is
  case bo=>exact L2.aR (by k_is) (by k_is) (by k_is)
  case bp=>k_is
  case br=>exact L2.aR (by k_is) (by k_is) (by k_is)
  case bs=>k_is
  case bt=>exact L2.aR (by k_is) (by k_is) (by k_is)
  case bu=>k_is
  case bv=>exact L2.aR (by k_is) (by k_is) (by k_is)
  case bw=>k_is
  case bx=>exact L2.aR (by k_is) (by k_is) (by k_is)
  case bz=>k_is
  case bA=>exact L2.aR (by k_is) (by k_is) (by k_is)
  case bB=>k_is
  case bC=>exact L2.aR (by k_is) (by k_is) (by k_is)
  case bD=>k_is
  case bE=>exact L2.aR (by k_is) (by k_is) (by k_is)
  case bF=>k_is
  case bG=>exact L2.aR (by k_is) (by k_is) (by k_is)
  case bH=>k_is
  case bJ=>exact L2.aR (by k_is) (by k_is) (by k_is)
  case bK=>k_is
  case bL=>exact L2.aR (by k_is) (by k_is) (by k_is)
  case bM=>k_is
  case bN=>exact L2.aR (by k_is) (by k_is) (by k_is)
  case bO=>k_is
  case bP=>exact L2.aR (by k_is) (by k_is) (by k_is)
  case bQ=>k_is
  case bR=>exact L2.aR (by k_is) (by k_is) (by k_is)
  case bS=>k_is
  case bT=>exact L2.aR (by k_is) (by k_is) (by k_is)
  case bU=>k_is
  case bV=>exact L2.aR (by k_is) (by k_is) (by k_is)
  case bW=>k_is
  case bX=>exact L2.aR (by k_is) (by k_is) (by k_is)
  case bY=>k_is
  case bZ=>exact L2.aR (by k_is) (by k_is) (by k_is)
  case ca=>k_is
  case cb=>exact L2.aR (by k_is) (by k_is) (by k_is)
  case cc=>k_is
  case cd=>exact L2.aR (by k_is) (by k_is) (by k_is)
  case ce|cf|ch|ci|cj|ck|cl|cn|co|cp|cq|cs|ct|cu|cv|cw|cx|cy|cz|cC|cD|cE|cF|aP|lP=>k_is
  case kP=>k_keys
  case oP=>first | exact rfl | decide | k_is
  case cG|cH|cI|cJ|cK|cL|cM|cN|cO|cP|cQ|cR|cS|cT|cU|cV|cW|cX|cY|cZ|da|db|dc|dd|de|df|dg|dh|di|dj|dk|dl|dm|dn|dp|dr|ds|dt|du|dv|dw|dx|dz|dA|dB|aH|lH|dC|dD|dE|dF|dG|dH|dI|dJ|dK|dN|dO|dP|dQ|dS|dT|dU|dV|dW|dX|dY|dZ|ea|eb|ec|ee|ef|aB|lB=>k_is
  case kB=>k_keys
  case oB=>first | exact rfl | decide | k_is
  case eg|eh|ei|ej|ek|el|em|en|eo|ep|eq|er|es|et|eu|ev|ew|ex|ey|ez|eA|eB|eC|eD|eE|eF=>k_is
  case xq=>k_exc
  case eG|eH|eJ|eK|eL|eM|eN|eO|eP|eQ|eR|eS|eT|eU|eV|eX|eY=>k_is
  case eZ=>kts_exm
  case fb|fc=>kit_is
  case fe|ff|fg|fh|fi|fj=>k_is
  case fk=>k_exc
  case fl|fm|fn|fo|fp|fq|fr|fs|ft|fu|fv|fw|fx|fy|fz|fA|fB=>k_is
  case fC=>kts_exm
  case fD|fE=>kit_is
#print axioms PySem.Challenge.cw_widenrows_k18_whole_units_read_are_told_holds