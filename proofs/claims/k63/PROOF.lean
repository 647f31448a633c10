import PyProof.Rows.All
import Wide.All
import OpenK.AllK
import Wide.FinOn
import Lean
import PyProof.EqAt
import PyProof.EqKinds
import PyProof.TupleCall
import PyProof.NeKinds
import PyProof.ListRange
import KE.KDictSum
import Wide.Seal
import PyProof.EnumIter
import PyProof.EnumFor
import PyProof.EnumMake
import PyProof.EnumStmt
import PyProof.ConsumeWalk
import KE.KPairComp
import PyProof.DictItemsLoops
import KE.KEqDict
import PyProof.AttrMissSeq
import PyProof.CollectWalk
import OpenK.KTop
import PyProof.TupleOps
import PyProof.ListMulRoad
import PyProof.FactsAll.tuple_2
import PyProof.StrBlock2
import PyProof.Rows.SortWalk
import KE.KFind
import PyProof.StationsW
import PyProof.Rows.OwnQ
import OpenK.KOwn
import KE.KTryMore
import PyProof.NsDelKeeps
import PyProof.ExcArgsOwn
import PyProof.ExcAttrAll.ValueError
import PyProof.InstStoreFacts
import PyProof.ExcBaseAll.ValueError
import PyProof.Rows.FStr
import OpenK.KCls
import PyProof.ZipIter
import PyProof.TupleIter
import PyProof.WalksMore
import KE.KTurns
import PyProof.FactsAll.subtypes_4
import PyProof.Cells
import PyProof.ListNew
import PySem.Challenge.RW_widenrows_k63_what_boxes_hold
set_option Elab.async false
set_option linter.all false
set_option maxRecDepth 100000
open List renaming getElem?_eq_getElem → aa, getElem?_map → ac, getElem?_eq_some_iff → ag, mem_of_getElem? → al, size_toArray → am, length_append → ar, getElem?_append_left → av, getElem?_append_right → bc, mem_singleton → bd, getElem_mem → bn, length_cons → eh, map_cons → el
open PySem renaming wpAny_bind → ff, wpAny_pure → fg, mainGlobals → fm, FuncData → fo, sizeLine → fw, wpAny_mono → ge, wpAny_call_entry → gr
open PySem.Heap renaming get?_push_of_some → gs, get?_push_size → gv, lt_size → ii
open PySem.F renaming plainAttrs_list → ij, slot_list_append → im, type_list_append → io
open PySem.W renaming Frag → i8, findIn → ma
open Nat renaming le_refl → mf, ne_of_lt → mi, le_trans → mv
open Bool renaming false_ne_true → mx
open Int renaming toNat_natCast → nn
local macro_rules | `(tactic| walk_at "sc1") => `(tactic| exact ⟨rfl,rfl,rfl,by decide +kernel,rfl,by decide +kernel,by decide +kernel⟩)
local macro_rules | `(tactic| walk_at "sc2") => `(tactic| exact ⟨rfl,by decide +kernel,by decide +kernel,by decide +kernel,by decide +kernel,by decide +kernel⟩)
local macro_rules | `(tactic| walk_at "ln") => `(tactic| (intro vs H Q E h; first | (cases h; subst_vars; rfl) | (repeat (first | (obtain ⟨e, _⟩ := h; subst e; rfl) | (obtain ⟨_, h⟩ := h)))))
namespace L2
open PySem PySem.Spec PyProof.Rows
abbrev Key:=Sum Int Str
def rJ:Key->Value->Bool
 | .inl k,v=>Value.isInt k v
 | .inr x,v=>Value.isStrOf x v
def U2(w:World):Key->Int
 | .inl k=>hashInt k
 | .inr x=>hashStr w x
theorem cU:∀{k:Key} {v:Value},rJ k v=true->(∃i t,k=Sum.inl i/\v=Value.int i t)\/(∃x t,k=Sum.inr x/\v=Value.str x t)
 | .inl i,v,h=>by
  obtain⟨t,e⟩:=Value.isInt_shape (k:=i) (v:=v) h;exact .inl ⟨i,t,rfl,e⟩
 | .inr x,v,h=>by obtain⟨t,e⟩:=Value.isStrOf_shape (x:=x) (v:=v) h;exact .inr ⟨x,t,rfl,e⟩
theorem Ao(i:Int)(t:Tok):rJ (.inl i) (.int i t)=true:=by simp[rJ,Value.isInt]
theorem Ap(x:Str)(t:Tok):rJ (.inr x) (.str x t)=true:=by simp[rJ,Value.isStrOf]
theorem KH(a b:Int):decide ((Sum.inl a:Key)=Sum.inl b)=(a==b):=by
 by_cases e:a=b
 ·subst e;simp
 ·have h:¬(Sum.inl a:Key)=Sum.inl b:=fun q=>e (Sum.inl.inj q);rw[decide_eq_false h];exact(beq_eq_false_iff_ne.mpr e).symm
theorem KJ(a b:Str):decide ((Sum.inr a:Key)=Sum.inr b)=decide (a=b):=by
 by_cases e:a=b
 ·subst e;simp
 ·have h:¬(Sum.inr a:Key)=Sum.inr b:=fun q=>e (Sum.inr.inj q);rw[decide_eq_false h,decide_eq_false e]
theorem KL(a:Int)(b:Str):decide ((Sum.inl a:Key)=Sum.inr b)=false:=decide_eq_false (fun q=>nomatch q)
theorem KN(a:Str)(b:Int):decide ((Sum.inr a:Key)=Sum.inl b)=false:=decide_eq_false (fun q=>nomatch q)
def cV(prog:Program)(w:World):PySem.KeyKind prog w Key where
 is:=rJ
 hash:=U2 w
 inj:=fun v a b ha hb=>by
  rcases cU ha with ⟨i,t,rfl,rfl⟩ | ⟨x,t,rfl,rfl⟩
  ·rcases cU hb with ⟨j,u,rfl,e⟩ | ⟨y,u,rfl,e⟩
   ·injection e with e1 _;rw[e1]
   ·exact nomatch e
  ·rcases cU hb with ⟨j,u,rfl,e⟩ | ⟨y,u,rfl,e⟩
   ·exact nomatch e
   ·injection e with e1 _;rw[e1]
 byValue:=fun k v h=>by rcases cU h with ⟨i,t,rfl,rfl⟩ | ⟨x,t,rfl,rfl⟩<;>rfl
 pyHash:=fun hv h=>by
  rcases cU hv with ⟨i,t,rfl,rfl⟩ | ⟨x,t,rfl,rfl⟩
  ·exact wpAny_pyHash_int h
  ·exact wpAny_pyHash_str h
 eqBool:=fun hu hv h=>by
  rcases cU hu with ⟨i,t,rfl,rfl⟩ | ⟨x,t,rfl,rfl⟩
  ·rcases cU hv with ⟨j,u,rfl,rfl⟩ | ⟨y,u,rfl,rfl⟩
   ·rw[KH]at h;exact wpAny_eqBool_int h
   ·rw[KL]at h;exact SeqAt.EqAt.int_str i t y u _ _ _ _ h
  ·rcases cU hv with ⟨j,u,rfl,rfl⟩ | ⟨y,u,rfl,rfl⟩
   ·rw[KN]at h;exact SeqAt.EqAt.str_int x t j u _ _ _ _ h
   ·rw[KJ]at h;exact wpAny_eqBool_str h
 «strs»:=fun k x t v h=>by
  rcases cU h with ⟨i,u,rfl,e⟩ | ⟨y,u,rfl,e⟩
  ·exact nomatch e
  ·injection e with e1 _
   subst e1;cases v<;>rfl
theorem uV(prog:Program)(w:World)(i:Int)(t:Tok):(cV prog w).is (.inl i) (.int i t)=true:=Ao i t
theorem uW(prog:Program)(w:World)(x:Str)(t:Tok):(cV prog w).is (.inr x) (.str x t)=true:=Ap x t
inductive V where
 | non | bl (b:Bool) | int (i:Int) | str (x:Str) | Ci (b:Array UInt8) | flt (b:UInt64) | ref (a:Addr) | ty (n:String)
 deriving DecidableEq
def RelV:V->Value->Prop
 | .non,u=>u=Value.none
 | .bl b,u=>u=Value.bool b
 | .int i,u=>∃t,u=Value.int i t
 | .str x,u=>∃t,u=Value.str x t
 | .Ci b,u=>∃t,u=Value.bytes b t
 | .flt b,u=>∃t,u=Value.float b t
 | .ref a,u=>u=Value.ref a
 | .ty n,u=>u=Value.type n
abbrev Vals:List V->List Value->Prop:=Paired RelV
theorem Vals.length{xs:List V}{us:List Value}(r:Vals xs us):xs.length=us.length:=Paired.length r
theorem Vals.get:∀{xs:List V} {us:List Value} {i:Nat} {x:V},Vals xs us->xs[i]? =some x->∃u,us[i]? =some u/\RelV x u
 | _,_,_,_,.nil,e=>by simp at e
 | _,_,0,_,.cons r _,e=>by simp at e;subst e;exact⟨_,rfl,r⟩
 | _,_,i+1,x,.cons _ t,e=>by obtain⟨u,h1,h2⟩:=Vals.get (i:=i) (x:=x) t (by simpa using e);exact⟨u,by simpa using h1,h2⟩
theorem Vals.set{x:V}{u:Value}(r:RelV x u):∀{xs:List V} {us:List Value} (i:Nat),Vals xs us->Vals (xs.set i x) (us.set i u)
 | _,_,_,.nil=>.nil
 | _,_,0,.cons _ t=>.cons r t
 | _,_,i+1,.cons q t=>.cons q (Vals.set r i t)
theorem Vals.append:∀{xs ys:List V} {us ws:List Value},Vals xs us->Vals ys ws->Vals (xs++ys) (us++ws)
 | _,_,_,_,.nil,s=>s
 | _,_,_,_,.cons r t,s=>.cons r (Vals.append t s)
theorem Vals.take:∀{xs:List V} {us:List Value} (n:Nat),Vals xs us->Vals (xs.take n) (us.take n)
 | _,_,0,_=>.nil
 | _,_,_+1,.nil=>.nil
 | _,_,n+1,.cons r t=>.cons r (Vals.take n t)
theorem Vals.drop:∀{xs:List V} {us:List Value} (n:Nat),Vals xs us->Vals (xs.drop n) (us.drop n)
 | _,_,0,r=>r
 | _,_,_+1,.nil=>.nil
 | _,_,n+1,.cons _ t=>Vals.drop n t
def gU:Option V->Option Value->Prop
 | some v,some u=>RelV v u
 | none,none=>True
 | _,_=>False
def KV{κ:Type}:List (κ×V)->List (κ×Value)->Prop:=Paired fun(p:κ×V) (q:κ×Value)=>p.1=q.1/\RelV p.2 q.2
def kV:Key->V
 | .inl i=>.int i
 | .inr x=>.str x
inductive HO where
 | lst (xs:List V)
 | tup (xs:List V)
 | dK (kvs:List (Key×V)) | dT (kvs:List (List Key×V))
 | set (S:Int->Bool) (n:Nat)
 | ins (C dx:Addr) (fs:List (Str×V))
 | own (x:Addr)
 | xd (fs:List (Str×V))
 | met (f x:Addr)
 | rng (lo hi:Int)
 | jr (o:Obj) (u:HO)
 | Jz (ps:Array Value)
 | ext (φ:Heap->Prop)
abbrev Hp:=Addr->Option HO
def upd(H:Hp)(a:Addr)(o:HO):Hp:=fun b=>if b=a then some o else H b
theorem ah{H:Hp}{a:Addr}{o:HO}:upd H a o a=some o:=by unfold upd;rw[if_pos rfl]
theorem aw{H:Hp}{a b:Addr}{o:HO}(h:b≠a):upd H a o b=H b:=by unfold upd;rw[if_neg h]
theorem jt{H:Hp}{a:Addr}{o u:HO}:upd (upd H a o) a u=upd H a u:=by funext b;unfold upd;split<;>rfl
theorem jJ{H:Hp}{a b:Addr}{o u:HO}(h:H a=some o)(h':H b=some u)(d:o≠u):a≠b:=by intro e;subst e;rw[h]at h';exact d (Option.some.inj h')
theorem bt{H:Hp}{a b:Addr}{o:HO}(h:H a=some o)(h':H b=none):a≠b:=by intro e;subst e;rw[h]at h';cases h'
section
variable (P:Program)(w:World)
def bu(H:Hp)(h:Heap)(a:Addr):HO->Prop
 | .lst xs=>xs.length<=fw/\∃(its:List Value) (n:Nat),Vals xs its/\h.get? a=some {cls:=.type "list",data:=.seq its.toArray n}
 | .tup xs=>xs.length<=fw/\∃its:List Value,Vals xs its/\IsTup h a its.toArray
 | .dK kvs=>kvs.length<=fw/\(a==sysModules)=false/\∃vs,KV kvs vs/\h.DictOf (cV P w) a vs
 | .dT kvs=>kvs.length<=fw/\(a==sysModules)=false/\∃xs:List (List Key×Addr×Value),
   Paired (fun(p:List Key×V) (q:List Key×Addr×Value)=>p.1=q.1/\H q.2.1=some (.tup (p.1.map kV))/\RelV p.2 q.2.2) kvs xs/\
   ∃o es ep,h.get? a=some o/\o.ExactDict/\o.data=.dict es ep/\es.toList=xs.map (entryOfKey (tupleKind (cV P w)))/\(xs.map (·.1)).Nodup
 | .set S n=>h.SetOf (intKind P w) a S n
 | .ins C dx fs=>H dx=some (.own a)/\fs.length<=1000/\dx≠a/\h.get? a=some (PySem.W.instObj C dx)/\
   ∃mA,h.Ns1 dx mA/\(∀f,gU (fs.lookup f) (mA f))/\PySem.Within mA (fs.map (·.1))
 | .own _=>∃o,h.get? a=some o
 | .xd fs=>∃mA,h.Ns1 a mA/\∀f,gU (fs.lookup f) (mA f)
 | .rng lo hi=>∃t u v,h.get? a=some {cls:=.type "range",data:=.fields #[.int lo t,.int hi u,.int 1 v]}
 | .jr o u=>h.get? a=some o/\bu H h a u
 | .Jz ps=>h.get? a=some {cls:=.none,data:=.fields ps}
 | .met f x=>h.get? a=some (PySem.W.methodObj (.ref f) (.ref x))
 | .ext φ=>φ h/\(∃o,h.get? a=some o)/\∀h1 h2:Heap,φ h1->(∀o,h1.get? a=some o->h2.get? a=some o)->φ h2
def iT(H:Hp)(h:Heap):Prop:=∀a o,H a=some o->bu P w H h a o
end
section
variable {P:Program}{w:World}{H H':Hp}{h h':Heap}{a:Addr}{o:HO}
theorem bu.lt(x:bu P w H h a o):a<h.objs.size:=by
 cases o with
 | lst xs=>obtain⟨_,_,_,_,e⟩:=x;exact ii e
 | tup xs=>obtain⟨_,_,_,p⟩:=x;exact p.lt
 | dK kvs=>obtain⟨_,_,_,_,o,_,_,e,_⟩:=x;exact ii e
 | dT kvs=>obtain⟨_,_,_,_,o,_,_,e,_⟩:=x;exact ii e
 | set S n=>obtain⟨o,_,_,_,e,_⟩:=x;exact ii e
 | ins C dx fs=>obtain⟨_,_,_,e,_⟩:=x;exact ii e
 | own y=>obtain⟨_,e⟩:=x;exact ii e
 | xd fs=>obtain⟨_,⟨_,_,_,e,_⟩,_⟩:=x;exact ii e
 | rng lo hi=>obtain⟨_,_,_,e⟩:=x;exact ii e
 | jr ob u=>obtain⟨e,_⟩:=x;exact ii e
 | Jz ps=>exact ii (show h.get? a=some _ from x)
 | met f y=>exact ii (show h.get? a=some _ from x)
 | ext φ=>obtain⟨_,⟨_,e⟩,_⟩:=x;exact ii e
theorem Paired.KO{α β:Type}{F G:α->β->Prop}:∀{l₁:List α} {l₂:List β},Paired F l₁ l₂->(∀a b,F a b->G a b)->Paired G l₁ l₂
 | _,_,.nil,_=>.nil
 | _,_,.cons r t,f=>.cons (f _ _ r) (Paired.KO t f)
theorem bu.stay(x:bu P w H h a o)(k:∀b u,(b=a\/H b=some (.own a))->h.get? b=some u->h'.get? b=some u)
  (ho:∀b,H b=some (.own a)->H' b=some (.own a)) (ht:∀b xs,H b=some (.tup xs)->H' b=some (.tup xs)):bu P w H' h' a o:=by
 induction o with
 | lst xs=>obtain⟨z,its,n,r,e⟩:=x;exact⟨z,its,n,r,k _ _ (.inl rfl) e⟩
 | tup xs=>obtain⟨z,its,r,ob,e,c⟩:=x;exact⟨z,its,r,ob,k _ _ (.inl rfl) e,c⟩
 | dK kvs=>obtain⟨z,y,vs,r,ob,es,ep,e,c⟩:=x;exact⟨z,y,vs,r,ob,es,ep,k _ _ (.inl rfl) e,c⟩
 | dT kvs=>
  obtain⟨z,y,xs,r,ob,es,ep,e,c⟩:=x;exact⟨z,y,xs,Paired.KO r fun p q z=>⟨z.1,ht _ _ z.2.1,z.2.2⟩,ob,es,ep,k _ _ (.inl rfl) e,c⟩
 | set S n=>obtain⟨ob,es,ep,t,e,c⟩:=x;exact⟨ob,es,ep,t,k _ _ (.inl rfl) e,c⟩
 | ins C dx fs=>
  obtain⟨d,z,ne,e,mA,⟨od,es,ep,e2,c⟩,r⟩:=x;exact⟨ho _ d,z,ne,k _ _ (.inl rfl) e,mA,⟨od,es,ep,k _ _ (.inr d) e2,c⟩,r⟩
 | own y=>obtain⟨ob,e⟩:=x;exact⟨ob,k _ _ (.inl rfl) e⟩
 | xd fs=>obtain⟨mA,⟨od,es,ep,e,c⟩,r⟩:=x;exact⟨mA,⟨od,es,ep,k _ _ (.inl rfl) e,c⟩,r⟩
 | rng lo hi=>obtain⟨t,u,v,e⟩:=x;exact⟨t,u,v,k _ _ (.inl rfl) e⟩
 | jr ob u ih=>obtain⟨e,q⟩:=x;exact⟨k _ _ (.inl rfl) e,ih q⟩
 | Jz ps=>
  have e:h.get? a=some {cls:=.none,data:=.fields ps}:=x;show h'.get? a=some {cls:=.none,data:=.fields ps};exact k a _ (.inl rfl) e
 | met f y=>
  have e:h.get? a=some (PySem.W.methodObj (.ref f) (.ref y)):=x;show h'.get? a=some (PySem.W.methodObj (.ref f) (.ref y));exact k a _ (.inl rfl) e
 | ext φ=>obtain⟨p,⟨o,e⟩,st⟩:=x;exact⟨st _ _ p fun o q=>k _ _ (.inl rfl) q,⟨o,k _ _ (.inl rfl) e⟩,st⟩
theorem iT.lt(x:iT P w H h)(e:H a=some o):a<h.objs.size:=(x a o e).lt
theorem iT.fresh(x:iT P w H h)(e:h.objs.size<=a):H a=none:=by
 cases q:H a with
 | none=>rfl
 | some u=>exact absurd (Nat.lt_of_lt_of_le (x.lt q) e) (Nat.lt_irrefl _)
theorem iT.kept(x:iT P w H h)(k:∀b u,h.get? b=some u->h'.get? b=some u):iT P w H h':=fun a o e=>
 (x a o e).stay (fun b u _ q=>k b u q) (fun _ q=>q) fun _ _ q=>q
theorem iT.laid(x:iT P w H h)(k:∀b u,h.get? b=some u->h'.get? b=some u)(hp:h.objs.size<=a)(new:bu P w (upd H a o) h' a o):iT P w (upd H a o) h':=fun b u e=>by
 have hn:=x.fresh hp;by_cases hb:b=a
 ·subst hb;rw[ah]at e;cases e;exact new
 ·rw[aw hb]at e;exact(x b u e).stay (fun c v _ q=>k c v q) (fun c q=>by rw[aw (bt q hn)];exact q) fun c xs q=>by rw[aw (bt q hn)];exact q
def Rd(H:Hp)(a:Addr)(u:HO):Prop:=H a=some u\/∃o,H a=some (.jr o u)
theorem Rd.of{H:Hp}{a:Addr}{u:HO}(h:H a=some u):Rd H a u:=.inl h
theorem Rd.ok{P:Program}{w:World}{H:Hp}{h:Heap}{a:Addr}{u:HO}(r:Rd H a u)(x:iT P w H h):bu P w H h a u:=by
 rcases r with r | ⟨o,r⟩
 ·exact x a u r
 ·obtain⟨_,q⟩:=x a _ r;exact q
def PF:Option HO->Prop
 | some (.lst _)=>True
 | some (.dK _)=>True
 | some (.dT _)=>True
 | some (.set _ _)=>True
 | some (.ins _ _ _)=>True
 | some (.ext _)=>True
 | _=>False
variable {x e:Addr}{o':HO}
theorem iT.write(ok:iT P w H h)(mu:PF (H x))(he:e=x\/H e=some (.own x))(k:∀b u,b≠e->h.get? b=some u->h'.get? b=some u)(heo:∃u,h'.get? e=some u)
  (new:bu P w (upd H x o') h' x o'):iT P w (upd H x o') h':=fun b u q=>by
 have PH:∀c y,H c=some (.own y)->c≠x:=fun c y r z=>by subst z;rw[r]at mu;exact mu
 have U3:∀c xs,H c=some (.tup xs)->c≠x:=fun c xs r z=>by subst z;rw[r]at mu;exact mu
 by_cases hb:b=x
 ·subst hb;rw[ah]at q;cases q;exact new
 ·rw[aw hb]at q;by_cases hbe:b=e
  ·have q':H b=some (.own x):=by
    rcases he with z | z
    ·exact absurd (hbe.trans z) hb
    ·rw[hbe];exact z
   rw[q]at q';cases q';obtain⟨v,hv⟩:=heo;exact⟨v,by rw[hbe];exact hv⟩
  ·refine(ok b u q).stay (fun c v hc r=>k c v ?_ r) (fun c r=>by rw[aw (PH c b r)];exact r) fun c xs r=>by rw[aw (U3 c xs r)];exact r
   rcases hc with rfl | hc
   ·exact hbe
   ·rintro rfl;rcases he with z | z
    ·exact PH c b hc z
    ·rw[hc]at z;cases z;exact hb rfl
structure Un(fs ex:List Addr)(H H':Hp)(h h':Heap):Prop where
 keep:∀b o,h.get? b=some o->H b=none->b∉fs->b∉ex->h'.get? b=some o
 slot:∀b o,h.get? b=some o->H b=none->b∈fs->b∉ex->∃sl,h'.get? b=some {o with slots:=sl}
 free:∀b o,h.get? b=some o->H b=none->b∉ex->H' b=none
 there:∀b o,h.get? b=some o->b∉ex->∃o',h'.get? b=some o'
 tups:∀b xs,H b=some (.tup xs)->H' b=some (.tup xs)
 jS:∀b o u,H b=some (.jr o u)->H' b=some (.jr o u)
 ly:∀b ps,H b=some (.Jz ps)->∃more,H' b=some (.Jz (ps++more))
variable {fs fs' ex ex':List Addr}{H1 H2:Hp}{h1 h2:Heap}
theorem Un.any(u:Un fs ex H H1 h h1){b:Addr}{ob:Obj}(q:h.get? b=some ob)(n:H b=none)(hx:b∉ex):∃sl,h1.get? b=some {ob with slots:=sl}:=by
 by_cases hb:b∈fs
 ·exact u.slot b ob q n hb hx
 ·exact⟨ob.slots,u.keep b ob q n hb hx⟩
theorem Un.kept(k:∀b u,h.get? b=some u->h'.get? b=some u):Un fs ex H H h h' :=
 ⟨fun b ob q _ _ _=>k b ob q,fun b ob q _ _ _=>⟨ob.slots,k b ob q⟩,fun _ _ _ n _=>n,fun b ob q _=>⟨ob,k b ob q⟩,fun _ _ q=>q,fun _ _ _ q=>q,fun _ ps q=>⟨#[],by rw[q];simp⟩⟩
theorem Un.refl:Un fs ex H H h h:=Un.kept fun _ _ q=>q
theorem Un.laid(k:∀b u,h.get? b=some u->h'.get? b=some u)(hp:h.objs.size<=a)(hn:H a=none):Un fs ex H (upd H a o) h h' where
 keep:=fun b u q _ _ _=>k b u q
 slot:=fun b u q _ _ _=>⟨u.slots,k b u q⟩
 free:=fun b u q n _=>by rw[aw (mi (Nat.lt_of_lt_of_le (ii q) hp))];exact n
 there:=fun b u q _=>⟨u,k b u q⟩
 tups:=fun b xs q=>by rw[aw (bt q hn)];exact q
 jS:=fun b u xs q=>by rw[aw (bt q hn)];exact q
 ly:=fun b ps q=>⟨#[],by rw[aw (bt q hn),q];simp⟩
theorem Un.write(mu:PF (H x))(he:e=x\/H e=some (.own x))(k:∀b u,b≠e->h.get? b=some u->h'.get? b=some u)(heo:∃u,h'.get? e=some u):Un fs ex H (upd H x o) h h':=by
 have hx:∀b,H b=none->b≠x:=fun b n z=>by subst z;rw[n]at mu;exact mu
 have hb:∀b,H b=none->b≠e:=fun b n z=>by
  subst z;rcases he with r | r
  ·exact hx b n r
  ·rw[n]at r;cases r
 have hm:∀b u,H b=some u->¬PF (some u)->b≠x:=fun b u q nm z=>by subst z;rw[q]at mu;exact nm mu
 refine⟨fun b u q n _ _=>k b u (hb b n) q,fun b u q n _ _=>⟨u.slots,k b u (hb b n) q⟩,fun b u q n _=>by rw[aw (hx b n)];exact n,fun b u q _=>?_,
  fun b xs q=>by rw[aw (hm b _ q fun z=>z)];exact q,fun b u xs q=>by rw[aw (hm b _ q fun z=>z)];exact q,fun b ps q=>⟨#[],by rw[aw (hm b _ q fun z=>z),q];simp⟩⟩
 by_cases hbe:b=e
 ·subst hbe;exact heo
 ·exact⟨u,k b u hbe q⟩
end
def Ud(h:Heap)(H:Hp):List Addr:=(List.range h.objs.size).filter fun a=>(H a).isSome
def sG(h:Heap)(H:Hp):Heap:=PySem.W.hideAll h (Ud h H)
theorem Aq(h:Heap)(H:Hp):(sG h H).objs.size=h.objs.size:=PySem.W.hideAll_size _ _
theorem CA{h:Heap}{H:Hp}{b:Addr}{o:Obj}(e:h.get? b=some o)(n:H b=none):(sG h H).get? b=some o :=
 PySem.W.hideAll_get _ e fun hm=>by have q:(H b).isSome=true:=(List.mem_filter.mp hm).2;rw[n]at q;simp at q
theorem Gi{h:Heap}{H:Hp}{b:Addr}{o:Obj}(e:(sG h H).get? b=some o):h.get? b=some o/\H b=none:=by
 have e':h.get? b=some o:=PySem.W.of_hideAll (Ud h H) e;refine⟨e',?_⟩;cases q:H b with
 | none=>rfl
 | some x=>
  have hm:b∈Ud h H:=List.mem_filter.mpr ⟨List.mem_range.mpr (ii e'),by simp[q]⟩;have z:(sG h H).get? b=none:=PySem.W.hideAll_none (Ud h H) hm;rw[z]at e;cases e
structure Mod(K:i8)(mg:Str->Option Value)(base:Heap):Prop where
 KP:K.In base
 glob:base.Ns fm mg
 blt:∃mb,base.Ns builtinsNs mb/\∀x:Str,x≠ "__name__"->mb x=bootBuiltins x
 nolimit:base.NoLimit
structure Cx where
 prog:Program
 w:World
 K:i8
 mg:Str->Option Value
 base:Heap
 A:Around
 N:List Str
 s₀:Shared
 H₀:Hp
 env:Env
 outer:List Env
 stack:List Env
 ex:List Addr
 fn:Str->Bool
 calm:Bool
 pn:List (Addr×Obj)
 xe:Value->Shared->Prop
def frs(l:List Env):List Addr:=l.filterMap (·.frame)
abbrev Cx.fs(X:Cx):List Addr:=frs X.outer
def U4(sc:Scope)(x:Str):Prop:=sc.names.lookup x=some .local\/sc.names.lookup x=some .cell\/sc.names.lookup x=some .free
def Loc(sc:Scope)(x:Str):Prop:=sc.names.lookup x=some .local\/sc.names.lookup x=some .cell
def Look(env:Env)(h:Heap)(m:Str->Option Value)(x:Str)(u:Value):Prop :=
 (env.kindOf x=some .local/\m x=some u)\/((env.kindOf x=some .cell\/env.kindOf x=some .free)/\∃c,env.cells.lookup x=some c/\h.IsCell c (some u))
structure Cx.Ok(X:Cx):Prop where
 mod:Mod X.K X.mg X.base
 kind:X.env.scope.kind=.function
 glob:X.env.globals=fm
 blt:X.env.builtins=builtinsNs
 above:X.s₀.heap.objs.size<=X.env.locals
 inj:∀x y c,X.env.cells.lookup x=some c->X.env.cells.lookup y=some c->x=y
 has:∀x,(X.env.kindOf x=some .cell\/X.env.kindOf x=some .free)->∃c,X.env.cells.lookup x=some c
 cab:∀x c,X.fn x=true->X.env.cells.lookup x=some c->X.s₀.heap.objs.size<=c
 hd:X.calm=true->X.A.handled=none
 frames:X.A.frames=some X.stack
 stk:X.stack=X.outer\/(X.stack=X.env::X.outer/\X.env.frame=some X.env.locals)
 PJ:∀b∈X.ex,b≠X.env.locals/\∀x c,X.env.cells.lookup x=some c->c≠b
 bs:∀b o,X.base.get? b=some o->X.s₀.heap.get? b=some o/\X.H₀ b=none
 Cj:X.base.objs.size<=X.s₀.heap.objs.size
 wR:∀b o,X.base.get? b=some o->b∉X.ex
 wU:∀b∈X.ex,b∉X.fs
 jT:X.s₀.heap.FunFrames X.base X.outer
 JA:∀b∈X.fs,X.H₀ b=none
structure Inv(X:Cx)(kb:List (Addr×Obj))(σ:List (Option V))(H:Hp)(s:Shared):Prop where
 ok:X.Ok
 os:s.os=X.s₀.os
 bare:AllBare s.gens
 base:Un X.fs X.ex X.H₀ H X.s₀.heap s.heap
 loc:∃m,s.heap.Ns X.env.locals m/\∀(i:Nat) (x:Str) (v:V),X.N[i]? =some x->σ[i]? =some (some v)->U4 X.env.scope x->∃u,RelV v u/\Look X.env s.heap m x u
 cell:∀x c,X.env.cells.lookup x=some c->∃v,s.heap.IsCell c v
 free:H X.env.locals=none
 e9:∀x c,X.env.cells.lookup x=some c->H c=none
 pin:∀p∈X.pn++kb,s.heap.get? p.1=some p.2/\H p.1=none/\p.1≠X.env.locals/\p.1∉X.fs/\∀v,p.2.data≠.cell v
 hok:iT X.prog X.w H s.heap
 len:σ.length=X.N.length
section
variable {X:Cx}{kb:List (Addr×Obj)}{σ:List (Option V)}{H H':Hp}{s:Shared}{h':Heap}
theorem Cx.Ok.U5(ok:X.Ok){b:Addr}{o:Obj}(e:X.base.get? b=some o):b∉X.fs:=fun hb=>by have:=(ok.jT.mem hb).1;rw[e]at this;cases this
theorem Inv.bs(I:Inv X kb σ H s):∀b o,X.base.get? b=some o->s.heap.get? b=some o/\H b=none:=fun b o e=>
 ⟨I.base.keep b o (I.ok.bs b o e).1 (I.ok.bs b o e).2 (I.ok.U5 e) (I.ok.wR b o e),I.base.free b o (I.ok.bs b o e).1 (I.ok.bs b o e).2 (I.ok.wR b o e)⟩
theorem Inv.bk(I:Inv X kb σ H s):∀b o,X.base.get? b=some o->s.heap.get? b=some o:=fun b o e=>(I.bs b o e).1
theorem Inv.mod(I:Inv X kb σ H s):Mod X.K X.mg X.base:=I.ok.mod
theorem Inv.jF(I:Inv X kb σ H s):X.K.In s.heap:=I.ok.mod.KP.keeps I.bk
theorem Inv.lt(I:Inv X kb σ H s):X.env.locals<s.heap.objs.size:=let ⟨_,hn,_⟩:=I.loc;hn.lt
theorem Inv.sz(I:Inv X kb σ H s):X.s₀.heap.objs.size<=s.heap.objs.size:=mv I.ok.above (Nat.le_of_lt I.lt)
theorem Inv.U6(I:Inv X kb σ H s){a:Addr}(h:s.heap.objs.size<=a):a∉X.fs:=fun hb=>by obtain⟨_,o,ho,_⟩:=I.ok.jT.mem hb;exact absurd (Nat.lt_of_lt_of_le (ii ho) (mv I.sz h)) (Nat.lt_irrefl _)
theorem Inv.CB(I:Inv X kb σ H s):∀x c,X.env.cells.lookup x=some c->c≠X.env.locals:=fun x c e z=>by obtain⟨v,o,ho,hd⟩:=I.cell x c e;obtain⟨m,⟨o',es,ep,ho',hd',_⟩,_⟩:=I.loc;rw[z,ho']at ho;cases ho;rw[hd']at hd;cases hd
theorem Inv.jT(I:Inv X kb σ H s):s.heap.FunFrames X.base X.outer:=by
 have all:∀(l:List Env),(∀b∈frs l,b∈X.fs)->X.s₀.heap.FunFrames X.base l->s.heap.FunFrames X.base l:=by
  intro l
  induction l with
  | nil=>intro _ _;trivial
  | cons env r ih=>
   intro hs hl;obtain⟨hk,⟨L,o,hf,hn,ho,hd⟩,hr⟩:=hl;have hL:L∈X.fs:=hs L (by unfold frs;rw[List.filterMap_cons,hf];exact List.mem_cons_self);obtain⟨sl,e⟩:=I.base.slot L o ho (I.ok.JA L hL) hL fun z=>I.ok.wU L z hL;exact⟨hk,⟨L,_,hf,hn,e,hd⟩,ih (fun b hb=>hs b (by unfold frs;rw[List.filterMap_cons,hf];exact List.mem_cons_of_mem _ hb)) hr⟩
 exact all X.outer (fun _ hb=>hb) I.ok.jT
theorem Inv.stack(I:Inv X kb σ H s):s.heap.FunFrames X.base X.stack:=by
 rcases I.ok.stk with e | ⟨e,hf⟩
 ·rw[e];exact I.jT
 ·rw[e];obtain⟨m,hn,_⟩:=I.loc;refine .cons (by rw[I.ok.kind];decide) hf hn ?_ I.jT;exact Heap.get?_none_of_le (mv I.ok.Cj I.ok.above)
theorem Inv.oU(I:Inv X kb σ H s):∀b∈frs X.stack,b∈X.env.locals::X.fs:=fun b hb=>by
 rcases I.ok.stk with e | ⟨e,hf⟩
 ·rw[e]at hb;exact List.mem_cons_of_mem _ hb
 ·rw[e]at hb;unfold frs at hb;rw[List.filterMap_cons,hf]at hb;exact hb
theorem Inv.ke(I:Inv X kb σ H s):∀b∈frs X.stack,H b=none:=fun b hb=>by
 rcases List.mem_cons.mp (I.oU b hb)with e | hb
 ·rw[e];exact I.free
 ·obtain⟨_,o,ho,_⟩:=I.ok.jT.mem hb;exact I.base.free b o ho (I.ok.JA b hb) fun z=>I.ok.wU b z hb
theorem Inv.step{g':Array GenState}{t':Nat}{d':Drawn}{ch:List Addr}(I:Inv X kb σ H s)
  (hch:∀b∈ch,(b∈X.ex\/X.s₀.heap.objs.size<=b)/\b≠X.env.locals/\(∀x c,X.env.cells.lookup x=some c->c≠b)/\∀p∈X.pn++kb,p.1≠b)
  (keep:∀b o,b≠X.env.locals->b∉X.fs->b∉ch->s.heap.get? b=some o->H b=none->h'.get? b=some o)
  (slot:∀b o,b≠X.env.locals->b∈X.fs->b∉ch->s.heap.get? b=some o->H b=none->∃sl,h'.get? b=some {o with slots:=sl}) (free:∀b o,b∉ch->s.heap.get? b=some o->H b=none->H' b=none)
  (there:∀b o,b∉ch->s.heap.get? b=some o->∃o',h'.get? b=some o')
  (tups:∀b xs,H b=some (.tup xs)->H' b=some (.tup xs)) (jS:∀b o u,H b=some (.jr o u)->H' b=some (.jr o u)) (ly:∀b ps,H b=some (.Jz ps)->∃more,H' b=some (.Jz (ps++more)))
  (ns:∀m,s.heap.Ns X.env.locals m->h'.Ns X.env.locals m) (hok:iT X.prog X.w H' h') (hg:AllBare g'):
  Inv X kb σ H' {s with heap:=h',gens:=g',drawn:=d',toks:=t'}:=by
 have neL:∀b o,X.s₀.heap.get? b=some o->b≠X.env.locals:=fun b o e=>mi (Nat.lt_of_lt_of_le (ii e) I.ok.above);have Ue:∀b o,X.s₀.heap.get? b=some o->b∉X.ex->b∉ch:=fun b o e hx hb=>by
  rcases(hch b hb).1 with z | z
  ·exact hx z
  ·exact absurd (Nat.lt_of_lt_of_le (ii e) z) (Nat.lt_irrefl _)
 have cellK:∀x c,X.env.cells.lookup x=some c->∀v,s.heap.IsCell c v->h'.IsCell c v:=fun x c e v ⟨o,ho,hd⟩=>by
  have PK:c∉ch:=fun z=>(hch c z).2.2.1 x c e rfl;by_cases hc:c∈X.fs
  ·obtain⟨sl,q⟩:=slot c o (I.CB x c e) hc PK ho (I.e9 x c e);exact⟨_,q,hd⟩
  ·exact⟨o,keep c o (I.CB x c e) hc PK ho (I.e9 x c e),hd⟩
 refine⟨I.ok,I.os,hg,⟨fun b o e n hb hx=>?_,fun b o e n hb hx=>?_,fun b o e n hx=>?_,fun b o e hx=>?_,fun b xs e=>tups b xs (I.base.tups b xs e),fun b o xs e=>jS b o xs (I.base.jS b o xs e),fun b ps e=>?_⟩,?_,fun x c e=>?_,?_,fun x c e=>?_,fun p hp=>?_,hok,I.len⟩
 ·exact keep b o (neL b o e) hb (Ue b o e hx) (I.base.keep b o e n hb hx) (I.base.free b o e n hx)
 ·obtain⟨sl,e1⟩:=I.base.slot b o e n hb hx;obtain⟨sl',e2⟩:=slot b _ (neL b o e) hb (Ue b o e hx) e1 (I.base.free b o e n hx);exact⟨sl',e2⟩
 ·obtain⟨o',e1⟩:=I.base.there b o e hx;exact free b o' (Ue b o e hx) e1 (I.base.free b o e n hx)
 ·obtain⟨o',e1⟩:=I.base.there b o e hx;exact there b o' (Ue b o e hx) e1
 ·obtain⟨m1,e1⟩:=I.base.ly b ps e;obtain⟨m2,e2⟩:=ly b _ e1;exact⟨m1++m2,by rw[e2,Array.append_assoc]⟩
 ·obtain⟨m,hn,hl⟩:=I.loc;refine⟨m,ns m hn,fun i x v e1 e2 e3=>?_⟩;obtain⟨u,r,l⟩:=hl i x v e1 e2 e3;refine⟨u,r,?_⟩;rcases l with l | ⟨k,c,e,z⟩
  ·exact .inl l
  ·exact .inr ⟨k,c,e,cellK x c e _ z⟩
 ·obtain⟨v,z⟩:=I.cell x c e;exact⟨v,cellK x c e v z⟩
 ·obtain⟨m,⟨o,_,_,ho,_⟩,_⟩:=I.loc;exact free _ o (fun z=>(hch _ z).2.1 rfl) ho I.free
 ·obtain⟨v,o,ho,hd⟩:=I.cell x c e;exact free c o (fun z=>(hch c z).2.2.1 x c e rfl) ho (I.e9 x c e)
 ·obtain⟨e,n,ne,nf,d⟩:=I.pin p hp;have PK:p.1∉ch:=fun z=>(hch p.1 z).2.2.2 p hp rfl;exact⟨keep p.1 p.2 ne nf PK e n,free p.1 p.2 PK e n,ne,nf,d⟩
theorem Inv.un{t':Nat}(I:Inv X kb σ H s)(u:Un X.fs [] H H' s.heap h')(hok:iT X.prog X.w H' h'):Inv X kb σ H' {s with heap:=h',toks:=t'}:=by
 obtain⟨m,⟨o,es,ep,ho,r⟩,_⟩:=id I.loc;obtain⟨sl,hL⟩:=u.any ho I.free (by simp)
 exact I.step (g':=s.gens) (d':=s.drawn) (ch:=[]) (fun _ z=>nomatch z) (fun b o _ hb _ e n=>u.keep b o e n hb (by simp)) (fun b o _ hb _ e n=>u.slot b o e n hb (by simp)) (fun b o _ e n=>u.free b o e n (by simp)) (fun b o _ e=>u.there b o e (by simp)) u.tups u.jS u.ly (fun m' hm=>by
  obtain⟨o',es',ep',ho',r'⟩:=hm;rw[ho]at ho';cases ho'
  exact⟨_,es',ep',hL,r'⟩) hok I.bare
theorem Inv.call{g':Array GenState}{t':Nat}{d':Drawn}{ch:List Addr}(I:Inv X kb σ H s)(u:Un (frs X.stack) ch H H' s.heap h')(hok:iT X.prog X.w H' h')(hg:AllBare g')
  (hch:∀b∈ch,(b∈X.ex\/X.s₀.heap.objs.size<=b)/\b≠X.env.locals/\(∀x c,X.env.cells.lookup x=some c->c≠b)/\∀p∈X.pn++kb,p.1≠b):
  Inv X kb σ H' {s with heap:=h',gens:=g',drawn:=d',toks:=t'}:=by
 obtain⟨m,⟨o,es,ep,ho,r⟩,_⟩:=id I.loc;obtain⟨sl,hL⟩:=u.any ho I.free fun z=>(hch _ z).2.1 rfl
 exact I.step (ch:=ch) hch (fun b o hL hb hc e n=>u.keep b o e n (fun z=>(List.mem_cons.mp (I.oU b z)).elim hL hb) hc) (fun b o _ _ hc e n=>u.any e n hc) (fun b o hc e n=>u.free b o e n hc) (fun b o hc e=>u.there b o e hc) u.tups u.jS u.ly (fun m' hm=>by
  obtain⟨o',es',ep',ho',r'⟩:=hm;rw[ho]at ho';cases ho'
  exact⟨_,es',ep',hL,r'⟩) hok hg
theorem Inv.turned{t':Nat}{it:Addr}(I:Inv X kb σ H s)(k:∀b o,b≠it->s.heap.get? b=some o->h'.get? b=some o)(hn:H it=none)(hL:it≠X.env.locals)
  (h1:it∈X.ex\/X.s₀.heap.objs.size<=it) (h2:∀x c,X.env.cells.lookup x=some c->c≠it) (h3:∀p∈X.pn++kb,p.1≠it):Inv X kb σ H {s with heap:=h',toks:=t'}:=by
 have JB:∀b u,H b=some u->b≠it:=fun b u e z=>by rw[z,hn]at e;cases e
 refine I.step (g':=s.gens) (d':=s.drawn) (ch:=[it]) (fun b hb=>?_) (fun b o _ _ hc e _=>k b o (fun z=>hc (by simp[z])) e) (fun b o _ _ hc e _=>⟨o.slots,k b o (fun z=>hc (by simp[z])) e⟩) (fun _ _ _ _ n=>n)
  (fun b o hc e=>⟨o,k b o (fun z=>hc (by simp[z])) e⟩) (fun _ _ e=>e) (fun _ _ _ e=>e) (fun b ps e=>⟨#[],by rw[e];simp⟩) (fun m hm=>?_) (fun b u e=>?_) I.bare
 ·have e:b=it:=by simpa using hb
  subst e;exact⟨h1,hL,h2,h3⟩
 ·obtain⟨o,es,ep,ho,r⟩:=hm;exact⟨o,es,ep,k _ o (Ne.symm hL) ho,r⟩
 ·refine(I.hok b u e).stay (fun c v hc q=>k c v ?_ q) (fun _ q=>q) fun _ _ q=>q;rcases hc with z | z
  ·rw[z];exact JB b u e
  ·exact JB c _ z
theorem Inv.tok(I:Inv X kb σ H s)(t:Nat):Inv X kb σ H {s with toks:=t}:=I.un (h':=s.heap) (t':=t) Un.refl I.hok
theorem Inv.kept{t':Nat}(I:Inv X kb σ H s)(k:∀b u,s.heap.get? b=some u->h'.get? b=some u):Inv X kb σ H {s with heap:=h',toks:=t'}:=I.un (Un.kept k) (I.hok.kept k)
theorem Inv.laid{a:Addr}{o:HO}{t':Nat}(I:Inv X kb σ H s)(k:∀b u,s.heap.get? b=some u->h'.get? b=some u)(hp:s.heap.objs.size<=a)(new:bu X.prog X.w (upd H a o) h' a o):
  Inv X kb σ (upd H a o) {s with heap:=h',toks:=t'}:=I.un (Un.laid k hp (I.hok.fresh hp)) (I.hok.laid k hp new)
theorem Inv.write{x e:Addr}{o:HO}{t':Nat}(I:Inv X kb σ H s)(mu:PF (H x))(he:e=x\/H e=some (.own x))(k:∀b u,b≠e->s.heap.get? b=some u->h'.get? b=some u)(heo:∃u,h'.get? e=some u)
  (new:bu X.prog X.w (upd H x o) h' x o):Inv X kb σ (upd H x o) {s with heap:=h',toks:=t'}:=I.un (Un.write mu he k heo) (I.hok.write mu he k heo new)
theorem Inv.zk{JC:List (Addr×Obj)}(I:Inv X kb σ H s)(h:∀p∈JC,s.heap.get? p.1=some p.2/\H p.1=none/\p.1≠X.env.locals/\p.1∉X.fs/\∀v,p.2.data≠.cell v):Inv X JC σ H s :=
 ⟨I.ok,I.os,I.bare,I.base,I.loc,I.cell,I.free,I.e9,fun p hp=>(List.mem_append.mp hp).elim (fun z=>I.pin p (List.mem_append_left _ z)) (h p),I.hok,I.len⟩
theorem oW{N:List Str}(hN:N.Nodup){i j:Nat}{x:Str}(a:N[i]? =some x)(b:N[j]? =some x):i=j:=by obtain⟨h1,e1⟩:=ag.mp a;obtain⟨h2,e2⟩:=ag.mp b;exact(List.getElem_inj hN).mp (e1.trans e2.symm)
theorem rK{M:Model}{A:Around}{E:Value->Shared->Prop}{i:Nat}{x:Str}{v:V}{u:Value}{Q:Unit->Shared->Prop}(I:Inv X kb σ H s)(hN:X.N.Nodup)(hi:X.N[i]? =some x)(hx:Loc X.env.scope x)(r:RelV v u)
  (h:∀s',Inv X kb (σ.set i (some v)) H s'->(∃a,Heap.SameBut a s.heap s'.heap/\(a=X.env.locals\/X.env.cells.lookup x=some a))->Q () s') (hf:X.fn x=true\/X.env.scope.names.lookup x=some .local:=by first | exact .inl rfl | exact .inr rfl | assumption):wpAny M A (storeName X.env x u) Q E s:=by
 obtain⟨m,hn,hl⟩:=id I.loc;have hcls:(X.env.scope.kind== .class||(X.env.scope.kind== .module&&X.env.locals !=X.env.globals))=false:=by rw[I.ok.kind];rfl
 have hiσ:i<σ.length:=by rw[I.len];exact(ag.mp hi).1
 have CB:=I.CB;have tracked:∀{a:Addr} {h':Heap},(∃o,s.heap.get? a=some o/\H a=none)->Heap.SameBut a s.heap h'->iT X.prog X.w H h':=fun {a h'} ha hs b ob e=>by
  obtain⟨_,_,hfree⟩:=ha;refine(I.hok b ob e).stay (fun c w' hc q=>(hs.2 c ?_).trans q) (fun _ q=>q) fun _ _ q=>q;rintro rfl;rcases hc with rfl | hc
  ·rw[hfree]at e;cases e
  ·rw[hfree]at hc;cases hc
 rcases hx with hk | hk
 ·refine wpAny_storeName_local hk hn (fun h' hn' hs=>?_) hcls;obtain⟨oL,_,_,hoL,_⟩:=id hn;refine h _ ⟨I.ok,I.os,I.bare,⟨fun b o e n hb hx=>?_,fun b o e n hb hx=>?_,I.base.free,fun b o e hx=>?_,I.base.tups,I.base.jS,I.base.ly⟩,⟨_,hn',fun j y v' e1 e2 e3=>?_⟩,fun y c e=>?_,I.free,I.e9,fun p hp=>?_,tracked ⟨oL,hoL,I.free⟩ hs,by simpa using I.len⟩ ⟨_,hs,.inl rfl⟩
  ·exact(hs.2 b (mi (Nat.lt_of_lt_of_le (ii e) I.ok.above))).trans (I.base.keep b o e n hb hx)
  ·obtain⟨sl,e1⟩:=I.base.slot b o e n hb hx;exact⟨sl,(hs.2 b (mi (Nat.lt_of_lt_of_le (ii e) I.ok.above))).trans e1⟩
  ·obtain⟨o',e1⟩:=I.base.there b o e hx;exact⟨o',(hs.2 b (mi (Nat.lt_of_lt_of_le (ii e) I.ok.above))).trans e1⟩
  ·by_cases hj:j=i
   ·subst hj;rw[hi]at e1;cases e1;rw[List.getElem?_set_self hiσ]at e2;cases e2;exact⟨u,r,.inl ⟨hk,by simp⟩⟩
   ·rw[List.getElem?_set_ne (Ne.symm hj)]at e2;obtain⟨u',r',q⟩:=hl j y v' e1 e2 e3;refine⟨u',r',?_⟩;rcases q with ⟨k,e⟩ | ⟨k,c,e,z⟩
    ·refine .inl ⟨k,?_⟩;have:y≠x:=fun e=>hj (oW hN e1 (e▸hi));simp[this,e]
    ·exact .inr ⟨k,c,e,z.sameBut hs (CB y c e)⟩
  ·obtain⟨w',z⟩:=I.cell y c e;exact⟨w',z.sameBut hs (CB y c e)⟩
  ·obtain⟨e,n,ne,nf,d⟩:=I.pin p hp;exact⟨(hs.2 p.1 ne).trans e,n,ne,nf,d⟩
 ·have hfn:X.fn x=true:=by
   rcases hf with z | z
   ·exact z
   ·rw[z]at hk;cases hk
  obtain⟨c,hc⟩:=I.ok.has x (.inl hk);obtain⟨w',z⟩:=I.cell x c hc;refine wpAny_storeName_cell I.ok.kind hk hc z (fun h' hc' hs=>?_);obtain⟨oc,hoc,U7⟩:=id z;refine h {s with heap:=h'} ⟨I.ok,I.os,I.bare,⟨fun b o e n hb hx=>?_,fun b o e n hb hx=>?_,I.base.free,fun b o e hx=>?_,I.base.tups,I.base.jS,I.base.ly⟩,⟨m,hn.sameBut hs (Ne.symm (CB x c hc)),fun j y v' e1 e2 e3=>?_⟩,fun y c' e=>?_,I.free,I.e9,fun p hp=>?_,tracked ⟨oc,hoc,I.e9 x c hc⟩ hs,by simpa using I.len⟩ ⟨c,hs,.inr hc⟩
  ·exact(hs.2 b (mi (Nat.lt_of_lt_of_le (ii e) (I.ok.cab x c hfn hc)))).trans (I.base.keep b o e n hb hx)
  ·obtain⟨sl,e1⟩:=I.base.slot b o e n hb hx;exact⟨sl,(hs.2 b (mi (Nat.lt_of_lt_of_le (ii e) (I.ok.cab x c hfn hc)))).trans e1⟩
  ·obtain⟨o',e1⟩:=I.base.there b o e hx;exact⟨o',(hs.2 b (mi (Nat.lt_of_lt_of_le (ii e) (I.ok.cab x c hfn hc)))).trans e1⟩
  ·by_cases hj:j=i
   ·subst hj;rw[hi]at e1;cases e1;rw[List.getElem?_set_self hiσ]at e2;cases e2;exact⟨u,r,.inr ⟨.inl hk,c,hc,hc'⟩⟩
   ·rw[List.getElem?_set_ne (Ne.symm hj)]at e2;obtain⟨u',r',q⟩:=hl j y v' e1 e2 e3;refine⟨u',r',?_⟩;rcases q with q | ⟨k,c',e,z'⟩
    ·exact .inl q
    ·refine .inr ⟨k,c',e,z'.sameBut hs ?_⟩;rintro rfl;exact hj (oW hN e1 (I.ok.inj _ _ _ e hc▸hi))
  ·by_cases hcc:c'=c
   ·subst hcc;exact⟨_,hc'⟩
   ·obtain⟨w2,z2⟩:=I.cell y c' e;exact⟨w2,z2.sameBut hs hcc⟩
  ·obtain⟨e,n,ne,nf,d⟩:=I.pin p hp;refine⟨(hs.2 p.1 ?_).trans e,n,ne,nf,d⟩;intro q;rw[q,hoc]at e;have q':oc=p.2:=Option.some.inj e;exact d w' (by rw[<-q'];exact U7)
theorem oX{M:Model}{A:Around}{E:Value->Shared->Prop}{i:Nat}{x:Str}{v:V}{u:Value}{Q:Unit->Shared->Prop}(I:Inv X kb σ H s)(hN:X.N.Nodup)(hi:X.N[i]? =some x)(hx:Loc X.env.scope x)(r:RelV v u)
  (h:∀s',Inv X kb (σ.set i (some v)) H s'->Q () s') (hf:X.fn x=true\/X.env.scope.names.lookup x=some .local:=by first | exact .inl rfl | exact .inr rfl | assumption):wpAny M A (storeName X.env x u) Q E s :=
 rK I hN hi hx r (fun s' I' _=>h s' I') hf
theorem Inv.call'{s':Shared}{ch:List Addr}(I:Inv X kb σ H s)(ho:s'.os=s.os)(u:Un (frs X.stack) ch H H' s.heap s'.heap)(hok:iT X.prog X.w H' s'.heap)(hg:AllBare s'.gens)
  (hch:∀b∈ch,(b∈X.ex\/X.s₀.heap.objs.size<=b)/\b≠X.env.locals/\(∀x c,X.env.cells.lookup x=some c->c≠b)/\∀p∈X.pn++kb,p.1≠b):Inv X kb σ H' s':=by
 obtain⟨h',g',d',t',o'⟩:=s';have e:o'=s.os:=ho;subst e;exact I.call (g':=g') (t':=t') (d':=d') u hok hg hch
end
abbrev XK:=Value->Option Addr->Hp->Prop
abbrev St:=List (Option V)
abbrev VK:=V->Hp->Prop
abbrev TE:=St->Hp->VK->Prop
abbrev TT:=St->Hp->(Bool->Hp->Prop)->Prop
abbrev TA:=St->Hp->(List V->Hp->Prop)->Prop
structure Ends where
 nx:St->Hp->Prop
 rt:VK
 bk:St->Hp->Prop:=fun _ _=>False
 ct:St->Hp->Prop:=fun _ _=>False
abbrev TS:=Ends->St->Hp->Prop
def EP(X:Cx)(kb:List (Addr×Obj))(σ:St)(Q:VK)(u:Value)(s':Shared):Prop:=∃v H',Inv X kb σ H' s'/\RelV v u/\Q v H'
def TP(X:Cx)(kb:List (Addr×Obj))(σ:St)(Q:Bool->Hp->Prop)(b:Bool)(s':Shared):Prop:=∃H',Inv X kb σ H' s'/\Q b H'
def AP(X:Cx)(kb:List (Addr×Obj))(σ:St)(Q:List V->Hp->Prop)(us:List Value)(s':Shared):Prop:=∃vs H',Inv X kb σ H' s'/\Vals vs us/\Q vs H'
def SP(X:Cx)(kb:List (Addr×Obj))(D:Ends)(f:Flow)(s':Shared):Prop :=
 match f with
 | .next=>∃σ' H',Inv X kb σ' H' s'/\D.nx σ' H'
 | .brk=>∃σ' H',Inv X kb σ' H' s'/\D.bk σ' H'
 | .cont=>∃σ' H',Inv X kb σ' H' s'/\D.ct σ' H'
 | .ret u=>∃v σ' H',Inv X kb σ' H' s'/\RelV v u/\D.rt v H'
def PE(X:Cx)(e:Expr)(t:TE):Prop :=
 ∀(kb:List (Addr×Obj)) (s:Shared) (σ:St) (H:Hp) (Q:VK),Inv X kb σ H s->t σ H Q->wpAny (model X.prog X.w) X.A (eval e X.env) (EP X kb σ Q) X.xe s
def PT(X:Cx)(e:Expr)(t:TT):Prop :=
 ∀(kb:List (Addr×Obj)) (s:Shared) (σ:St) (H:Hp) (Q:Bool->Hp->Prop),Inv X kb σ H s->t σ H Q->wpAny (model X.prog X.w) X.A (isTrue e X.env (eval e X.env)) (TP X kb σ Q) X.xe s
def PW(X:Cx)(e:Expr)(t:TT):Prop :=
 ∀(whole:Sem Value) (kb:List (Addr×Obj)) (s:Shared) (σ:St) (H:Hp) (Q:Bool->Hp->Prop),Inv X kb σ H s->t σ H Q->wpAny (model X.prog X.w) X.A (isTrue e X.env whole) (TP X kb σ Q) X.xe s
theorem PW.pt{X:Cx}{e:Expr}{t:TT}(h:PW X e t):PT X e t:=h _
def PA(X:Cx)(es:List Expr)(t:TA):Prop :=
 ∀(pos:Pos) (kb:List (Addr×Obj)) (s:Shared) (σ:St) (H:Hp) (Q:List V->Hp->Prop),Inv X kb σ H s->t σ H Q->wpAny (model X.prog X.w) X.A (spliced (backTo pos (starEach es X.env))) (AP X kb σ Q) X.xe s
def PS(X:Cx)(st:Stmt)(t:TS):Prop :=
 ∀(kb:List (Addr×Obj)) (s:Shared) (σ:St) (H:Hp) (D:Ends),Inv X kb σ H s->t D σ H->wpAny (model X.prog X.w) X.A (exec st X.env) (SP X kb D) X.xe s
def qO(X:Cx)(st:List Stmt)(t:TS):Prop :=
 ∀(kb:List (Addr×Obj)) (s:Shared) (σ:St) (H:Hp) (D:Ends),Inv X kb σ H s->t D σ H->wpAny (model X.prog X.w) X.A (execs st X.env) (SP X kb D) X.xe s
theorem ck{α:Type}{t:Sem α}{Q Q':α->Shared->Prop}{M:Model}{A:Around}{E:Value->Shared->Prop}{s:Shared}(h:wpAny M A t Q E s)(hQ:∀a s,Q a s->Q' a s):wpAny M A t Q' E s:=ge h hQ fun _ _ x=>x
section
variable {X:Cx}
def Gj(i:Nat):TE:=fun σ H Q=>∃v,σ[i]? =some (some v)/\Q v H
def tC(v:V):TE:=fun _ H Q=>Q v H
theorem KQ{i:Nat}{x:Str}{pos:Pos}(hN:X.N[i]? =some x)(hv:U4 X.env.scope x)(hd:(x==("__debug__": Str))=false:=by decide)(hcd:(x==("__classdict__": Str))=false:=by decide):PE X (.Name x pos) (Gj i):=by
 intro kb s σ H Q I h;obtain⟨v,e,h⟩:=h;obtain⟨m,hn,hl⟩:=I.loc;obtain⟨u,r,l⟩:=hl i x v hN e hv;have fin:EP X kb σ Q u s:=⟨v,H,I,r,h⟩;rcases l with ⟨hk,hm⟩ | ⟨hk,c,hc,hcell⟩
 ·exact wpAny_Name (wpAny_loadName_local I.ok.kind hk hn hm fin) hd
 ·rcases hk with hk | hk
  ·exact wpAny_Name (wpAny_loadName_cell I.ok.kind hk hc hcell fin) hd
  ·exact wpAny_Name (wpAny_loadName_free I.ok.kind hk hc hcell fin hcd) hd
theorem aq{i j pos}:PE X (.Constant (.int i) j pos) (tC (.int i)):=fun _ _ _ H _ I h=>wpAny_Constant_int ⟨.int i,H,I.tok _,⟨_,rfl⟩,h⟩
theorem dW{b j pos}:PE X (.Constant (.bool b) j pos) (tC (.bl b)):=fun _ _ _ H _ I h=>Constant_bool ⟨.bl b,H,I,rfl,h⟩
theorem ik{j pos}:PE X (.Constant .none j pos) (tC .non):=fun _ _ _ H _ I h=>Constant_none ⟨.non,H,I,rfl,h⟩
theorem ay{x j pos}:PE X (.Constant (.str x) j pos) (tC (.str x)):=fun _ _ _ H _ I h=>Calls.Constant_str ⟨.str x,H,I.tok _,⟨_,rfl⟩,h⟩
def Gl(X:Cx)(x:Str):Prop:=X.env.kindOf x=some .globalImplicit
theorem il{E:Value->Shared->Prop}{kb:List (Addr×Obj)}{s:Shared}{σ:St}{H:Hp}{x:Str}{u:Value}{pos:Pos}{Q:Value->Shared->Prop}(I:Inv X kb σ H s)(hg:Gl X x)(hm:X.mg x=some u)(h:Q u s)
  (hd:(x==("__debug__": Str))=false:=by decide):wpAny (model X.prog X.w) X.A (eval (.Name x pos) X.env) Q E s :=
 Calls.Name_function_global I.ok.kind hg (Calls.loadGlobal_global (by rw[I.ok.glob];exact I.mod.glob.keeps I.bk) hm h) hd
theorem ip{E:Value->Shared->Prop}{kb:List (Addr×Obj)}{s:Shared}{σ:St}{H:Hp}{x:Str}{u:Value}{pos:Pos}{Q:Value->Shared->Prop}(I:Inv X kb σ H s)(hg:Gl X x)(hm:X.mg x=none)(hv:bootBuiltins x=some u)(h:Q u s)
  (hn:x≠ "__name__":=by decide) (hd:(x==("__debug__": Str))=false:=by decide):wpAny (model X.prog X.w) X.A (eval (.Name x pos) X.env) Q E s:=by
 obtain⟨mb,h1,h2⟩:=I.mod.blt;exact Calls.Name_function_global I.ok.kind hg (Calls.loadGlobal_builtin (by rw[I.ok.glob];exact I.mod.glob.keeps I.bk) hm (by rw[I.ok.blt];exact h1.keeps I.bk) ((h2 x hn).trans hv) h) hd
theorem cF{x:Str}{v:V}{u:Value}{pos:Pos}(hg:Gl X x)(hm:X.mg x=some u)(r:RelV v u)(hd:(x==("__debug__": Str))=false:=by decide):PE X (.Name x pos) (tC v):=
 fun _ _ _ H _ I h=>il I hg hm ⟨v,H,I,r,h⟩ hd
theorem iq{x:Str}{v:V}{u:Value}{pos:Pos}(hg:Gl X x)(hm:X.mg x=none)(hv:bootBuiltins x=some u)(r:RelV v u)(hn:x≠ "__name__":=by decide)(hd:(x==("__debug__": Str))=false:=by decide):PE X (.Name x pos) (tC v):=
 fun _ _ _ H _ I h=>ip I hg hm hv ⟨v,H,I,r,h⟩ hn hd
variable {a b:Expr}{ta tb:TE}{pos:Pos}
def PC(X:Cx)(op:CmpOp)(a b:Expr)(t:TE):Prop :=
 ∀(kb:List (Addr×Obj)) (s:Shared) (σ:St) (H:Hp) (Q:VK),Inv X kb σ H s->t σ H Q->
  wpAny (model X.prog X.w) X.A (eval a X.env) (fun v s₁=>wpAny (model X.prog X.w) X.A (eval b X.env) (fun u s₂=>wpAny (model X.prog X.w) X.A (compareOp op v u) (EP X kb σ Q) X.xe s₂) X.xe s₁) X.xe s
def tB(t:TE):TT:=fun σ H Q=>t σ H fun x H1=>∃c,x=.bl c/\Q c H1
theorem CC{op:CmpOp}{t:TE}(h:PC X op a b t)(h1:behindInMarks op b=false:=by first | exact CD _ (by decide) (by decide) | rfl):PE X (.Compare a [op] [b] pos) t:=fun kb s σ H Q I hw=>wpAny_Compare1 (h kb s σ H Q I hw) h1
theorem sI{op:CmpOp}{t:TE}(h:PC X op a b t)(h1:behindInMarks op b=false:=by first | exact CD _ (by decide) (by decide) | rfl):PT X (.Compare a [op] [b] pos) (tB t):=by intro kb s σ H Q I hw;refine wpAny_isTrue_Compare1 (ck (h kb s σ H _ I hw) fun v s1 h1=>ck h1 fun u s2 h2=>ck h2 fun c s3 ⟨x,H1,I1,r1,q1⟩=>?_) h1;obtain⟨d,rfl,q⟩:=q1;cases r1;exact wpAny_truthy_bool ⟨H1,I1,q⟩
theorem cI{e:Expr}{t:TE}(h:PE X e t)(he:∀whole,isTrue e X.env whole=(do let v <-whole;standAt e.pos;holding [v] (truthy v)):=by intro _;rfl):PT X e (tB t):=by intro kb s σ H Q I hw;refine isTrue_plain (ck (h kb s σ H _ I hw) fun v s1 ⟨x,H1,I1,r1,q1⟩=>?_) (he _);obtain⟨d,rfl,q⟩:=q1;cases r1;exact wpAny_truthy_bool ⟨H1,I1,q⟩
variable {tA Ug:TT}{rest:List Expr}
def U8(t u:TT):TT:=fun σ H Q=>t σ H fun c H1=>if c=true then u σ H1 Q else Q false H1
def tOr(t u:TT):TT:=fun σ H Q=>t σ H fun c H1=>if c=true then Q true H1 else u σ H1 Q
def U9(t:TT):TT:=fun σ H Q=>t σ H fun c H1=>Q (!c) H1
theorem ox(ha:PT X a tA):PW X (.BoolOp .And [a] pos) tA:=by
 intro wh kb s σ H Q I h;refine isTrue_and (ck (ha kb s σ H Q I h) fun c s1 e=>?_);cases c with
 | true=>exact isTrue_and_nil e
 | false=>exact e
theorem iV(ha:PT X a tA):PW X (.BoolOp .Or [a] pos) tA:=by
 intro wh kb s σ H Q I h;refine isTrue_or (ck (ha kb s σ H Q I h) fun c s1 e=>?_);cases c with
 | false=>exact isTrue_or_nil e
 | true=>exact e
theorem sJ(ha:PT X a tA)(hb:PW X (.BoolOp .And (b::rest) pos) Ug):PW X (.BoolOp .And (a::b::rest) pos) (U8 tA Ug):=by
 intro wh kb s σ H Q I h;refine isTrue_and (ck (ha kb s σ H _ I h) fun c s1 ⟨H1,I1,q1⟩=>?_);cases c with
 | true=>exact hb wh kb s1 σ H1 Q I1 q1
 | false=>exact⟨H1,I1,q1⟩
theorem my(ha:PT X a tA)(hb:PW X (.BoolOp .Or (b::rest) pos) Ug):PW X (.BoolOp .Or (a::b::rest) pos) (tOr tA Ug):=by
 intro wh kb s σ H Q I h;refine isTrue_or (ck (ha kb s σ H _ I h) fun c s1 ⟨H1,I1,q1⟩=>?_);cases c with
 | true=>exact⟨H1,I1,q1⟩
 | false=>exact hb wh kb s1 σ H1 Q I1 q1
theorem dB(ha:PT X a tA):PT X (.UnaryOp .Not a pos) (U9 tA):=by intro kb s σ H Q I h;exact isTrue_not (ha kb s σ H (fun c H1=>Q (!c) H1) I h)
def PL(ta tb:TE):TE:=fun σ H Q=>ta σ H fun x H1=>∃c,x=.bl c/\if c=true then tb σ H1 Q else Q (.bl false) H1
def Va(ta tb:TE):TE:=fun σ H Q=>ta σ H fun x H1=>∃c,x=.bl c/\if c=true then Q (.bl true) H1 else tb σ H1 Q
def PN(ta:TE):TE:=fun σ H Q=>ta σ H fun x H1=>∃c,x=.bl c/\Q (.bl (!c)) H1
theorem gH{op}{t:TE}(h:PE X a t):PE X (.BoolOp op [a] pos) t:=fun kb s σ H Q I hw=>BoolOp_one (h kb s σ H Q I hw)
theorem oY(ha:PE X a ta)(hb:PE X (.BoolOp .And (b::rest) pos) tb):PE X (.BoolOp .And (a::b::rest) pos) (PL ta tb):=by
 intro kb s σ H Q I h;refine BoolOp_and (ck (ha kb s σ H _ I h) fun v s1 ⟨x,H1,I1,r1,q1⟩=>?_);obtain⟨c,rfl,q1⟩:=q1;cases r1;refine wpAny_truthy_bool ?_;cases c with
 | true=>exact hb kb s1 σ H1 Q I1 q1
 | false=>exact⟨.bl false,H1,I1,rfl,q1⟩
theorem uX(ha:PE X a ta)(hb:PE X (.BoolOp .Or (b::rest) pos) tb):PE X (.BoolOp .Or (a::b::rest) pos) (Va ta tb):=by
 intro kb s σ H Q I h;refine BoolOp_or (ck (ha kb s σ H _ I h) fun v s1 ⟨x,H1,I1,r1,q1⟩=>?_);obtain⟨c,rfl,q1⟩:=q1;cases r1;refine wpAny_truthy_bool ?_;cases c with
 | false=>exact hb kb s1 σ H1 Q I1 q1
 | true=>exact⟨.bl true,H1,I1,rfl,q1⟩
theorem wV(ha:PE X a ta):PE X (.UnaryOp .Not a pos) (PN ta):=by intro kb s σ H Q I h;refine UnaryOp_ (ck (ha kb s σ H _ I h) fun v s1 ⟨x,H1,I1,r1,q1⟩=>?_);obtain⟨c,rfl,q1⟩:=q1;cases r1;exact not_of (wpAny_truthy_bool ⟨.bl (!c),H1,I1,rfl,q1⟩)
def tIf(t:TT)(ta tb:TE):TE:=fun σ H Q=>t σ H fun c H1=>if c=true then ta σ H1 Q else tb σ H1 Q
theorem oZ{c:Expr}(hc:PT X c tA)(ha:PE X a ta)(hb:PE X b tb):PE X (.IfExp c a b pos) (tIf tA ta tb):=by
 intro kb s σ H Q I h;refine wpAny_IfExp (ck (hc kb s σ H _ I h) fun d s1 ⟨H1,I1,q1⟩=>?_);cases d with
 | true=>exact ha kb s1 σ H1 Q I1 q1
 | false=>exact hb kb s1 σ H1 Q I1 q1
end
def aT(K:i8)(H:Hp)(a:Addr)(xs:List V):Prop :=
 Rd H a (.lst xs)\/
  ∃(o:Obj) (its:Array Value) (n:Nat),K.lookup a=some o/\o.cls=.type "list"/\o.dict=none/\o.data=.seq its n/\its.size<=fw/\Vals xs its.toList
def bh(K:i8)(H:Hp)(a:Addr)(xs:List V):Prop :=
 Rd H a (.tup xs)\/
  ∃(o:Obj) (its:Array Value) (n:Nat),K.lookup a=some o/\o.cls=.type "tuple"/\o.data=.seq its n/\its.size<=fw/\Vals xs its.toList
def Vb:Value->Option V
 | .none=>some .non
 | .bool b=>some (.bl b)
 | .int i _=>some (.int i)
 | .str x _=>some (.str x)
 | .bytes b _=>some (.Ci b)
 | .float b _=>some (.flt b)
 | .ref a=>some (.ref a)
 | .type n=>some (.ty n)
 | _=>none
theorem RelV.abs{x:V}{u:Value}(r:RelV x u):Vb u=some x:=by
 cases x with
 | non=>cases r;rfl
 | bl _=>cases r;rfl
 | int _=>obtain⟨t,rfl⟩:=r;rfl
 | str _=>obtain⟨t,rfl⟩:=r;rfl
 | Ci _=>obtain⟨t,rfl⟩:=r;rfl
 | flt _=>obtain⟨t,rfl⟩:=r;rfl
 | ref _=>cases r;rfl
 | ty _=>cases r;rfl
theorem RelV.inj{x y:V}{u:Value}(r:RelV x u)(q:RelV y u):x=y:=Option.some.inj (r.abs.symm.trans q.abs)
theorem Vals.inj:∀{xs ys:List V} {us:List Value},Vals xs us->Vals ys us->xs=ys
 | _,_,_,.nil,.nil=>rfl
 | _,_,_,.cons r t,.cons r' t'=>by rw[r.inj r',Vals.inj t t']
section
variable {X:Cx}{kb:List (Addr×Obj)}{σ:St}{H:Hp}{s:Shared}{a:Addr}{xs ys:List V}
theorem aT.of{K:i8}(h:H a=some (.lst xs)):aT K H a xs:=.inl (.inl h)
theorem bh.of{K:i8}(h:H a=some (.tup xs)):bh K H a xs:=.inl (.inl h)
theorem Inv.list(I:Inv X kb σ H s)(h:aT X.K H a xs):∃its:List Value,Vals xs its/\PlainL s.heap a its.toArray/\xs.length<=fw:=by
 rcases h with h | ⟨o,its,n,hk,hc,hd,hs,hz,r⟩
 ·obtain⟨z,its,n,r,e⟩:=h.ok I.hok;exact⟨its,r,⟨_,n,e,rfl,rfl,rfl⟩,z⟩
 ·refine⟨its.toList,r,⟨o,n,I.jF a o hk,hc,hd,by simpa using hs⟩,?_⟩;have e:=r.length;simp only[Array.length_toList]at e;omega
theorem Inv.tuple(I:Inv X kb σ H s)(h:bh X.K H a xs):∃its:List Value,Vals xs its/\IsTup s.heap a its.toArray/\xs.length<=fw:=by
 rcases h with h | ⟨o,its,n,hk,hc,hs,hz,r⟩
 ·obtain⟨z,its,r,p⟩:=h.ok I.hok;exact⟨its,r,p,z⟩
 ·refine⟨its.toList,r,⟨o,I.jF a o hk,hc,n,by simpa using hs⟩,?_⟩;have e:=r.length;simp only[Array.length_toList]at e;omega
theorem Inv.kf(I:Inv X kb σ H s)(h:aT X.K H a xs)(h':aT X.K H a ys):xs=ys:=by
 obtain⟨its,r,⟨o,n,e,_,_,d⟩,_⟩:=I.list h;obtain⟨its',r',⟨o',n',e',_,_,d'⟩,_⟩:=I.list h';rw[e]at e';cases e';rw[d]at d';injection d' with d1 _
 have:its=its':=by simpa using congrArg Array.toList d1
 subst this;exact r.inj r'
theorem Inv.lA(I:Inv X kb σ H s)(h:bh X.K H a xs)(h':bh X.K H a ys):xs=ys:=by
 obtain⟨its,r,⟨o,e,_,n,d⟩,_⟩:=I.tuple h;obtain⟨its',r',⟨o',e',_,n',d'⟩,_⟩:=I.tuple h';rw[e]at e';cases e';rw[d]at d';injection d' with d1 _
 have:its=its':=by simpa using congrArg Array.toList d1
 subst this;exact r.inj r'
abbrev Cx.wish(X:Cx)(E:Value->Shared->Prop):Cx:={X with xe:=E}
abbrev Cx.uY(X:Cx):Cx:=X.wish fun _ _=>False
theorem Cx.Ok.wish{X:Cx}(ok:X.Ok)(E:Value->Shared->Prop):(X.wish E).Ok :=
 ⟨ok.mod,ok.kind,ok.glob,ok.blt,ok.above,ok.inj,ok.has,ok.cab,ok.hd,ok.frames,ok.stk,ok.PJ,ok.bs,ok.Cj,ok.wR,ok.wU,ok.jT,ok.JA⟩
theorem Cx.Ok.gJ{X:Cx}{E:Value->Shared->Prop}(ok:(X.wish E).Ok):X.Ok :=
 ⟨ok.mod,ok.kind,ok.glob,ok.blt,ok.above,ok.inj,ok.has,ok.cab,ok.hd,ok.frames,ok.stk,ok.PJ,ok.bs,ok.Cj,ok.wR,ok.wU,ok.jT,ok.JA⟩
variable {E:Value->Shared->Prop}
theorem Inv.wish(I:Inv X kb σ H s)(E:Value->Shared->Prop):Inv (X.wish E) kb σ H s:=⟨I.ok.wish E,I.os,I.bare,I.base,I.loc,I.cell,I.free,I.e9,I.pin,I.hok,I.len⟩
theorem Inv.gJ(I:Inv (X.wish E) kb σ H s):Inv X kb σ H s:=⟨I.ok.gJ,I.os,I.bare,I.base,I.loc,I.cell,I.free,I.e9,I.pin,I.hok,I.len⟩
theorem SP.gJ{D:Ends}{f:Flow}{s':Shared}(h:SP (X.wish E) kb D f s'):SP X kb D f s':=by
 cases f with
 | next=>obtain⟨σ',H',I,q⟩:=h;exact⟨σ',H',I.gJ,q⟩
 | brk=>obtain⟨σ',H',I,q⟩:=h;exact⟨σ',H',I.gJ,q⟩
 | cont=>obtain⟨σ',H',I,q⟩:=h;exact⟨σ',H',I.gJ,q⟩
 | ret u=>obtain⟨v,σ',H',I,r,q⟩:=h;exact⟨v,σ',H',I.gJ,r,q⟩
theorem qO.uY{st:List Stmt}{t:TS}(h:qO X.uY st t):qO X st t:=fun kb s σ H D I hw=>
 ge (h kb s σ H D (I.wish _) hw) (fun _ _ q=>q.gJ) fun _ _ z=>False.elim z
variable {st:Stmt}{rest:List Stmt}{t u:TS}{e:Expr}{te:TE}{pos:Pos}
def JD:TS:=fun D σ H=>D.nx σ H
def qP(t u:TS):TS:=fun D σ H=>t {D with nx:=u D} σ H
theorem aO:qO X [] JD:=fun _ _ σ H _ I h=>wpAny_execs_nil ⟨σ,H,I,h⟩
theorem bq(h1:PS X st t)(h2:qO X rest u):qO X (st::rest) (qP t u):=by
 intro kb s σ H D I h;refine wpAny_execs_cons (ck (h1 kb s σ H {D with nx:=u D} I h) fun f s1 q=>?_);cases f with
 | next=>
  obtain⟨σ',H',I',q⟩:=q;exact h2 kb s1 σ' H' D I' q
 | ret v=>exact q
 | brk=>exact q
 | cont=>exact q
theorem aA(h1:PS X st t):qO X [st] t:=by
 intro kb s σ H D I h;refine wpAny_execs_cons (ck (h1 kb s σ H D I h) fun f s1 q=>?_);cases f with
 | next=>exact wpAny_execs_nil q
 | ret v=>exact q
 | brk=>exact q
 | cont=>exact q
theorem Inv.quiet{kb:List (Addr×Obj)}{σ:St}{H:Hp}{s:Shared}(I:Inv X kb σ H s):interactive X.env=false:=by simp[interactive,I.ok.kind]
def PR(te:TE):TS:=fun D σ H=>te σ H fun _ H1=>D.nx σ H1
theorem c6(he:PE X e te)(hs:swapsWith e none pos.line X.env=pure false:=by rfl):PS X (.Expr e pos) (PR te):=by intro kb s σ H D I h;exact wpAny_Expr_any (ck (he kb s σ H _ I h) fun v s1 ⟨x,H1,I1,r1,q1⟩=>⟨σ,H1,I1,q1⟩) I.quiet hs
def PU(te:TE):TS:=fun D σ H=>te σ H D.rt
theorem aE(he:PE X e te):PS X (.Return (some e) pos) (PU te):=by intro kb s σ H D I h;exact wpAny_Return_some (ck (he kb s σ H _ I h) fun v s1 ⟨x,H1,I1,r1,q1⟩=>⟨x,σ,H1,I1,r1,q1⟩)
def KR(c:TT)(t u:TS):TS:=fun D σ H=>c σ H fun b H1=>if b=true then t D σ H1 else u D σ H1
theorem dk{c:Expr}{a b:List Stmt}{tc:TT}(hc:PT X c tc)(ha:qO X a t)(hb:qO X b u):PS X (.If c a b pos) (KR tc t u):=by
 intro kb s σ H D I h;refine wpAny_If (ck (hc kb s σ H _ I h) fun d s1 ⟨H1,I1,q1⟩=>?_);cases d with
 | true=>exact ha kb s1 σ H1 D I1 q1
 | false=>exact hb kb s1 σ H1 D I1 q1
def CF:TS:=fun _ _ _=>False
theorem CG:PS X st CF:=fun _ _ _ _ _ _ h=>h.elim
theorem ju{sts:List Stmt}:qO X sts CF:=fun _ _ _ _ _ _ h=>h.elim
end
abbrev TG:=V->St->Hp->(St->Hp->Prop)->Prop
abbrev KS:=List V->St->Hp->(St->Hp->Prop)->Prop
def PG(X:Cx)(target:Expr)(t:TG):Prop :=
 ∀(kb:List (Addr×Obj)) (s:Shared) (σ:St) (H:Hp) (v:V) (u:Value) (Q:St->Hp->Prop),Inv X kb σ H s->RelV v u->t v σ H Q->
  wpAny (model X.prog X.w) X.A (assign target X.env u) (fun _ s'=>∃σ' H',Inv X kb σ' H' s'/\Q σ' H') X.xe s
def Uh(X:Cx)(ts:List Expr)(t:KS):Prop :=
 ∀(kb:List (Addr×Obj)) (s:Shared) (σ:St) (H:Hp) (vs:List V) (us:List Value) (Q:St->Hp->Prop),Inv X kb σ H s->Vals vs us->t vs σ H Q->
  wpAny (model X.prog X.w) X.A (assignInOrder ((assignEach ts X.env).map (·.2)) us) (fun _ s'=>∃σ' H',Inv X kb σ' H' s'/\Q σ' H') X.xe s
abbrev KU:=V->V->V->Hp->(Hp->Prop)->Prop
def PV(X:Cx)(t:KU):Prop :=
 ∀(kb:List (Addr×Obj)) (s:Shared) (σ:St) (H:Hp) (o i v:V) (ov iv u:Value) (Q:Hp->Prop),Inv X kb σ H s->RelV o ov->RelV i iv->RelV v u->t o i v H Q->
  wpAny (model X.prog X.w) X.A (setItem ov iv u) (fun _ s'=>∃H',Inv X kb σ H' s'/\Q H') X.xe s
section
variable {X:Cx}{pos:Pos}
def dC(i:Nat):TG:=fun v σ H Q=>Q (σ.set i (some v)) H
theorem aR{i:Nat}{x:Str}(hN:X.N.Nodup)(hi:X.N[i]? =some x)(hx:Loc X.env.scope x)(hf:X.fn x=true\/X.env.scope.names.lookup x=some .local:=by first | exact .inl rfl | exact .inr rfl | assumption):PG X (.Name x pos) (dC i):=by intro kb s σ H v u Q I r h;exact wpAny_assign_Name (oX I hN hi hx r (fun s' I'=>⟨_,H,I',h⟩) hf)
def PX:KS:=fun vs σ H Q=>vs=[]/\Q σ H
def CH(t:TG)(u:KS):KS:=fun vs σ H Q=>∃v r,vs=v::r/\t v σ H fun σ' H'=>u r σ' H' Q
theorem zm:Uh X [] PX:=by intro kb s σ H vs us Q I r h;obtain⟨e,h⟩:=h;subst e;cases r;exact assignInOrder_nil ⟨σ,H,I,h⟩
theorem kh{e:Expr}{es:List Expr}{t:TG}{u:KS}(h1:PG X e t)(h2:Uh X es u)
  (hs:(assignEach (e::es) X.env).map (·.2)=assign e X.env::(assignEach es X.env).map (·.2):=by rfl):Uh X (e::es) (CH t u):=by
 intro kb s σ H vs us Q I r h;obtain⟨v,vr,e1,h⟩:=h;subst e1;cases r with
 | cons r rr=>
  rw[hs];refine assignInOrder_cons (ck (h1 kb s σ H _ _ _ I r h) fun _ s1 ⟨σ1,H1,I1,q1⟩=>?_);exact h2 kb s1 σ1 H1 _ _ Q I1 rr q1
def PY(K:i8)(n:Nat)(t:KS):TG:=fun v σ H Q=>∃a xs,v=.ref a/\bh K H a xs/\xs.length=n/\t xs σ H Q
theorem CI{es:List Expr}{k:Nat}{t:KS}{n:Nat}(hc:X.calm=true)(h:Uh X es t)
  (hn:(assignEach es X.env).length=n:=by rfl) (hst:(assignEach es X.env).findIdx? (·.1)=none:=by rfl):PG X (.Tuple es k pos) (PY X.K n t):=by
 intro kb s σ H v u Q I r hw;obtain⟨a,xs,e1,hq,hl,hw⟩:=hw;subst e1;cases r;obtain⟨its,rv,ht,hz⟩:=I.tuple hq;refine assign_Tuple_tuple (I.ok.hd hc) ht (by simp[hn,<-hl,rv.length]) hst fun h' hx=>?_;have I1:Inv X kb σ H {s with heap:=h'}:=I.kept (t':=s.toks) fun b o e=>hx b o (mi (ii e)) e;exact h kb _ σ H xs _ Q I1 (by simpa using rv) hw
def Vc(to ti:TE)(t:KU):TG:=fun v σ H Q=>to σ H fun o H1=>ti σ H1 fun i H2=>t o i v H2 fun H3=>Q σ H3
theorem sL{o i:Expr}{to ti:TE}{t:KU}(ho:PE X o to)(hi:PE X i ti)(hs:PV X t)
  (ha:∀v,assign (.Subscript o i pos) X.env v=(do
   let ov <-holding [v] (eval o X.env)
   let iv <-holding [v,ov] (eval i X.env)
   standAt pos
   holding [v,ov,iv] (setItem ov iv v)
   release [v,ov,iv] []):=by intro _;rfl):PG X (.Subscript o i pos) (Vc to ti t):=by
 intro kb s σ H v u Q I r h;rw[ha];refine ff (wpAny_holding (ck (ho kb s σ H _ I h) fun ov s1 ⟨x,H1,I1,r1,q1⟩=>?_));refine ff (wpAny_holding (ck (hi kb s1 σ H1 _ I1 q1) fun iv s2 ⟨y,H2,I2,r2,q2⟩=>?_));refine ff (wpAny_standAt (ff (wpAny_holding (ck (hs kb s2 σ H2 x y v ov iv u _ I2 r1 r2 r q2) fun _ s3 ⟨H3,I3,q3⟩=>?_))));exact wpAny_release ⟨σ,H3,I3,q3⟩
def Ar(te:TE)(g:TG):TS:=fun D σ H=>te σ H fun x H1=>g x σ H1 D.nx
theorem o6{tg e:Expr}{te:TE}{g:TG}(he:PE X e te)(hg:PG X tg g)(hs:swapsWithSole [tg] e pos.line X.env=pure false:=by rfl)(hw:swappedStores [tg] e X.env=pure none:=by rfl)
  (h1:(assignEach [tg] X.env).map (·.2)=[assign tg X.env]:=by rfl):PS X (.Assign [tg] e pos) (Ar te g):=by
 intro kb s σ H D I h;refine wpAny_Assign_stores (ck (he kb s σ H _ I h) fun v s1 ⟨x,H1,I1,r1,q1⟩=>?_) hs hw;rw[h1];exact ck (hg kb s1 σ H1 x v _ I1 r1 q1) fun _ s2 q=>q
theorem aP{i:Nat}{x:Str}{e:Expr}{te:TE}{pos':Pos}(hN:X.N.Nodup)(hi:X.N[i]? =some x)(hx:Loc X.env.scope x)(he:PE X e te)(hs:swapsWith e (some (.Name x pos')) pos.line X.env=pure false:=by rfl)(hf:X.fn x=true\/X.env.scope.names.lookup x=some .local:=by first | exact .inl rfl | exact .inr rfl | assumption):
  PS X (.Assign [.Name x pos'] e pos) (Ar te (dC i)):=by
 intro kb s σ H D I h;refine wpAny_Assign_Name (ck (he kb s σ H _ I h) fun v s1 ⟨y,H1,I1,r1,q1⟩=>?_) hs;exact oX I1 hN hi hx r1 (fun s2 I2=>⟨_,H1,I2,q1⟩) hf
def wW(c:TT)(tb:TS):TS:=fun D σ H=>∃W:Nat->St->Hp->Prop,(∃m,W m σ H)/\∀m σ H,W m σ H->
 c σ H fun b H1=>if b=true then ∃N:St->Hp->Prop,(∀σ' H',N σ' H'->∃m',m'<m/\W m' σ' H')/\tb {D with nx:=N,ct:=N,bk:=D.nx} σ H1 else D.nx σ H1
theorem o7{c:Expr}{body:List Stmt}{tc:TT}{tb:TS}(hp:PassesOwn (model X.prog X.w) X.A X.env X.xe)(hc:PT X c tc)(hb:qO X body tb):PS X (.While c body [] pos) (wW tc tb):=by
 intro kb s σ H D I h;obtain⟨W,⟨m0,w0⟩,turn⟩:=h;refine wpAny_While (codeAny_whileLoop (fun n s'=>∃σ' H',Inv X kb σ' H' s'/\W n σ' H') ?_ m0 ⟨σ,H,I,w0⟩);rintro n s1 ⟨σ1,H1,I1,w1⟩;refine wpAny_passesOwn hp (ck (hc kb s1 σ1 H1 _ I1 (turn n σ1 H1 w1)) fun b s2 ⟨H2,I2,q2⟩=>?_);cases b with
 | true=>
  obtain⟨N,hN,q2⟩:=q2;rw[if_pos rfl];refine wpAny_passesOwn hp (ck (hb kb s2 σ1 H2 _ I2 q2) fun f s3 q3=>?_);cases f with
  | next=>
   obtain⟨σ3,H3,I3,n3⟩:=q3;obtain⟨m',hm,w3⟩:=hN σ3 H3 n3;exact⟨m',hm,σ3,H3,I3,w3⟩
  | cont=>
   obtain⟨σ3,H3,I3,n3⟩:=q3;obtain⟨m',hm,w3⟩:=hN σ3 H3 n3;exact⟨m',hm,σ3,H3,I3,w3⟩
  | brk=>exact q3
  | ret v=>exact q3
 | false=>
  rw[if_neg mx];exact wpAny_execs_nil ⟨σ1,H2,I2,q2⟩
structure It where
 go:Nat->Hp->Prop
 Au:Nat->Hp->V->Hp->Prop
 stop:Nat->Hp->Prop
def kj(X:Cx)(kb:List (Addr×Obj))(H:Hp)(b:Addr):Prop :=
 H b=none/\b≠X.env.locals/\b∉X.fs/\(b∈X.ex\/X.s₀.heap.objs.size<=b)/\(∀x c,X.env.cells.lookup x=some c->c≠b)/\∀p∈X.pn++kb,p.1≠b
theorem Inv.wX{X:Cx}{kb:List (Addr×Obj)}{σ:St}{H H':Hp}{s:Shared}{b:Addr}(I:Inv X kb σ H s)(hb:s.heap.objs.size<=b)(hn:H' b=none):kj X kb H' b:=by
 refine⟨hn,Nat.ne_of_gt (Nat.lt_of_lt_of_le I.lt hb),I.U6 hb,.inr (mv I.sz hb),fun x c e z=>?_,fun p hp z=>?_⟩
 ·obtain⟨v,q⟩:=I.cell x c e;exact absurd (Nat.lt_of_lt_of_le q.lt (by rw[z];exact hb)) (Nat.lt_irrefl _)
 ·exact absurd (Nat.lt_of_lt_of_le (ii (I.pin p hp).1) (by rw[z];exact hb)) (Nat.lt_irrefl _)
structure Turn(P:Program)(w:World)(K:i8)(tg:Expr)(J:It)(fp:List Addr)(it:Addr)(tn:Nat->Heap->Prop):Prop where
 mem:it∈fp
 obj:∀i h,tn i h->∀b∈fp,∃o,h.get? b=some o/\∀v,o.data≠.cell v
 keep:∀i h h',tn i h->(∀b∈fp,∀o,h.get? b=some o->h'.get? b=some o)->tn i h'
 item:∀(X:Cx),X.prog=P->X.w=w->X.K=K->X.calm=true->∀(i:Nat) (kb:List (Addr×Obj)) (s:Shared) (σ:St) (H:Hp) (E:Value->Shared->Prop),Inv X kb σ H s->(∀b∈fp,kj X kb H b)->tn i s.heap->J.go i H->
  wpAny (model P w) X.A (pyNext (.ref it)) (fun r s1=>∃u,r=some u/\
   wpAny (model P w) X.A (letOwnedTupleGo tg (.ref it) u) (fun _ s2=>∃x H',Inv X kb σ H' s2/\RelV x u/\J.Au i H x H'/\tn (i+1) s2.heap/\∀b∈fp,H' b=none) E s1) E s
 done:∀(X:Cx),X.prog=P->X.w=w->X.K=K->X.calm=true->∀(i:Nat) (kb:List (Addr×Obj)) (s:Shared) (σ:St) (H:Hp) (E:Value->Shared->Prop),Inv X kb σ H s->(∀b∈fp,kj X kb H b)->tn i s.heap->J.stop i H->
  wpAny (model P w) X.A (pyNext (.ref it)) (fun r s1=>r=none/\Inv X kb σ H s1) E s
 self:∀(A:Around) (i:Nat) (s:Shared) (Q:Value->Shared->Prop) (E:Value->Shared->Prop),tn i s.heap->Q (.ref it) s->wpAny (model P w) A (pyIter (.ref it)) Q E s
abbrev TI:=St->Hp->(It->Hp->Prop)->Prop
def PIE(X:Cx)(kb:List (Addr×Obj))(σ:St)(tg:Expr)(R:It->Hp->Prop)(itv:Value)(s2:Shared):Prop :=
 ∃(it:Addr) (fp:List Addr) (tn:Nat->Heap->Prop) (J:It) (H':Hp),itv=.ref it/\Inv X kb σ H' s2/\Turn X.prog X.w X.K tg J fp it tn/\tn 0 s2.heap/\(∀b∈fp,kj X kb H' b)/\R J H'
def PI(X:Cx)(tg iter:Expr)(wi:TI):Prop :=
 ∀(kb:List (Addr×Obj)) (s:Shared) (σ:St) (H:Hp) (R:It->Hp->Prop),Inv X kb σ H s->wi σ H R->
  wpAny (model X.prog X.w) X.A (eval iter X.env) (fun v s1=>wpAny (model X.prog X.w) X.A (pyIter v) (PIE X kb σ tg R) X.xe s1) X.xe s
theorem zq{M:Model}{A:Around}{E:Value->Shared->Prop}{s:Shared}{tg:Expr}{it:Addr}{u:Value}{o:Obj}{n:String}{vs:Array Value}{Q:Unit->Shared->Prop}(ho:s.heap.get? it=some o)(hc:o.cls=.type n)(hd:o.data=.fields vs)
  (hn:["enumerate","zip","dict_itemiterator","dict_reverseitemiterator","odict_iterator","itertools.zip_longest","itertools.pairwise"].contains n=false) (hQ:Q () s):wpAny M A (letOwnedTupleGo tg (.ref it) u) Q E s:=by
 unfold letOwnedTupleGo;cases tg<;>first
  | exact fg hQ
  | (cases u<;>first
    | exact fg hQ
    | (refine ff (wpAny_load ho ?_)
       rw[hc,hd];show wpAny M A (if (["enumerate","zip","dict_itemiterator","dict_reverseitemiterator","odict_iterator","itertools.zip_longest","itertools.pairwise"].contains n&&vs[0]? ==some (rawInt _))=true then _ else _) Q E s;rw[if_neg (by intro h;rw[hn,Bool.false_and]at h;cases h)]
       exact fg hQ))
def JE(K:i8)(a:Addr):It :=
 ⟨fun i H=>∃xs x,aT K H a xs/\xs[i]? =some x,fun i H x H'=>H'=H/\∀xs,aT K H a xs->xs[i]? =some x,fun i H=>∃xs,aT K H a xs/\xs.length<=i⟩
def PZ(K:i8)(a:Addr):It :=
 ⟨fun i H=>∃xs x,bh K H a xs/\xs[i]? =some x,fun i H x H'=>H'=H/\∀xs,bh K H a xs->xs[i]? =some x,fun i H=>∃xs,bh K H a xs/\xs.length<=i⟩
def Gk(lo:Int)(n:Nat):It:=⟨fun i _=>i<n,fun i H x H'=>H'=H/\x=.int (lo+i),fun i _=>n<=i⟩
theorem Av{P:Program}{w:World}{K:i8}{tg:Expr}(a it:Addr):Turn P w K tg (JE K a) [it] it (fun i h=>h.IsListIter it a i) where
 mem:=by simp
 obj:=fun i h st b hb=>by
  have e:b=it:=by simpa using hb
  subst e;obtain⟨o,e,c,d⟩:=st;exact⟨o,e,fun v z=>by rw[d]at z;cases z⟩
 keep:=fun i h h' st k=>st.at fun o e=>k it (by simp) o e
 item:=by intro X hP hw hK hc i kb s σ H E I hf st hg;subst hP hw hK;obtain⟨xs,x,hq,hx⟩:=hg;obtain⟨its,rv,p,hz⟩:=I.list hq;obtain⟨u,hu,ru⟩:=rv.get hx;obtain⟨f0,f1,f2,f3,f4,f5⟩:=hf it (by simp);refine wpAny_pyNext_list_item st p.isList (x:=u) (by simpa using hu) fun h' st' sb=>?_;have I1:Inv X kb σ H {s with heap:=h'}:=I.turned (t':=s.toks) (fun b o hb e=>(sb.2 b hb).trans e) f0 f1 f3 f4 f5;obtain⟨o,e,c,d⟩:=id st';exact⟨u,rfl,zq (s:={s with heap:=h'}) e c d (by decide) ⟨x,H,I1,ru,⟨rfl,fun ys hy=>by rw[I.kf hy hq];exact hx⟩,st',fun b hb=>(hf b hb).1⟩⟩
 done:=by intro X hP hw hK hc i kb s σ H E I hf st hg;subst hP hw hK;obtain⟨xs,hq,hx⟩:=hg;obtain⟨its,rv,p,hz⟩:=I.list hq;obtain⟨f0,f1,f2,f3,f4,f5⟩:=hf it (by simp);have hl:=rv.length;exact wpAny_pyNext_list_end (I.ok.hd hc) st p.isList (by simp;omega) fun h' eb=>⟨rfl,I.turned (t':=s.toks) (fun b o hb e=>eb b o hb e) f0 f1 f3 f4 f5⟩
 self:=fun _ _ _ _ _ st h=>wpAny_pyIter_listiter st h
theorem wY{P:Program}{w:World}{K:i8}{tg:Expr}(a it:Addr):Turn P w K tg (PZ K a) [it] it (fun i h=>h.IsTupleIter it a i) where
 mem:=by simp
 obj:=fun i h st b hb=>by
  have e:b=it:=by simpa using hb
  subst e;obtain⟨o,e,c,d⟩:=st;exact⟨o,e,fun v z=>by rw[d]at z;cases z⟩
 keep:=fun i h h' st k=>st.at fun o e=>k it (by simp) o e
 item:=by intro X hP hw hK hc i kb s σ H E I hf st hg;subst hP hw hK;obtain⟨xs,x,hq,hx⟩:=hg;obtain⟨its,rv,p,hz⟩:=I.tuple hq;obtain⟨u,hu,ru⟩:=rv.get hx;obtain⟨f0,f1,f2,f3,f4,f5⟩:=hf it (by simp);refine wpAny_pyNext_tuple_item st (show s.heap.IsTuple a its.toArray from p) (x:=u) (by simpa using hu) fun h' st' sb=>?_;have I1:Inv X kb σ H {s with heap:=h'}:=I.turned (t':=s.toks) (fun b o hb e=>(sb.2 b hb).trans e) f0 f1 f3 f4 f5;obtain⟨o,e,c,d⟩:=id st';exact⟨u,rfl,zq (s:={s with heap:=h'}) e c d (by decide) ⟨x,H,I1,ru,⟨rfl,fun ys hy=>by rw[I.lA hy hq];exact hx⟩,st',fun b hb=>(hf b hb).1⟩⟩
 done:=by intro X hP hw hK hc i kb s σ H E I hf st hg;subst hP hw hK;obtain⟨xs,hq,hx⟩:=hg;obtain⟨its,rv,p,hz⟩:=I.tuple hq;obtain⟨f0,f1,f2,f3,f4,f5⟩:=hf it (by simp);have hl:=rv.length;exact wpAny_pyNext_tuple_end (I.ok.hd hc) st (show s.heap.IsTuple a its.toArray from p) (by simp;omega) fun h' eb=>⟨rfl,I.turned (t':=s.toks) (fun b o hb e=>eb b o hb e) f0 f1 f3 f4 f5⟩
 self:=fun _ _ _ _ _ st h=>wpAny_pyIter_tupleiter st h
theorem wZ{P:Program}{w:World}{K:i8}{tg:Expr}(it:Addr)(lo:Int)(n:Nat):Turn P w K tg (Gk lo n) [it] it (fun i h=>IsRangeIter h it (lo+(i:Nat)*1) ((n:Int)- (i:Nat)) 1) where
 mem:=by simp
 obj:=fun i h st b hb=>by
  have e:b=it:=by simpa using hb
  subst e
  exact⟨_,st,fun v z=>by
   have z':Data.fields _=Data.cell v:=z
   cases z'⟩
 keep:=fun i h h' st k=>k it (by simp) _ st
 item:=by intro X hP hw hK hc i kb s σ H E I hf st hg;subst hP hw hK;obtain⟨f0,f1,f2,f3,f4,f5⟩:=hf it (by simp);have W:=Walks.range (prog:=X.prog) (w:=X.w) (I.ok.hd hc) it lo 1 n;refine W.item i s _ _ hg st fun v h' tk hv st' kk=>?_;obtain⟨t,rfl⟩:=hv;have I1:Inv X kb σ H {s with heap:=h',toks:=tk}:=I.turned (fun b o hb e=>kk b o (by simpa using hb) e) f0 f1 f3 f4 f5;refine⟨_,rfl,zq (s:={s with heap:=h',toks:=tk}) (n :="range_iterator") st' rfl rfl (by decide) ⟨.int (lo+i),H,I1,⟨t,?_⟩,⟨rfl,rfl⟩,st',fun b hb=>(hf b hb).1⟩⟩;rw[Int.mul_one]
 done:=by intro X hP hw hK hc i kb s σ H E I hf st hg;subst hP hw hK;obtain⟨f0,f1,f2,f3,f4,f5⟩:=hf it (by simp);exact wpAny_pyNext_range_end (I.ok.hd hc) st (by have:n<=i:=hg;omega) fun h' eb=>⟨rfl,I.turned (t':=s.toks) (fun b o hb e=>eb b o hb e) f0 f1 f3 f4 f5⟩
 self:=fun _ _ _ _ _ st h=>wpAny_pyIter_rangeiter st h
variable {tg:Expr}
def P0(K:i8)(tl:TE):TI:=fun σ H R=>tl σ H fun x H1=>∃a,x=.ref a/\(∃xs,aT K H1 a xs)/\R (JE K a) H1
def P1(K:i8)(tl:TE):TI:=fun σ H R=>tl σ H fun x H1=>∃a,x=.ref a/\(∃xs,bh K H1 a xs)/\R (PZ K a) H1
theorem cQ{l:Expr}{tl:TE}(hl:PE X l tl):PI X tg l (P0 X.K tl):=by
 intro kb s σ H R I h;refine ck (hl kb s σ H _ I h) fun v s1 ⟨x,H1,I1,r1,q1⟩=>?_;obtain⟨a,e,⟨xs,hq⟩,q⟩:=q1;subst e;cases r1;obtain⟨its,rv,p,hz⟩:=I1.list hq;refine wpAny_pyIter_list p.isList ?_;refine⟨s1.heap.objs.size,[s1.heap.objs.size],_,_,H1,rfl,I1.kept (t':=s1.toks) fun b o e=>gs _ e,Av a _,⟨_,gv _ rfl,rfl,rfl⟩,fun b hb=>?_,q⟩;have e:b=s1.heap.objs.size:=by simpa using hb
 subst e;exact I1.wX (mf _) (I1.hok.fresh (mf _))
theorem iW{l:Expr}{tl:TE}(hl:PE X l tl):PI X tg l (P1 X.K tl):=by
 intro kb s σ H R I h;refine ck (hl kb s σ H _ I h) fun v s1 ⟨x,H1,I1,r1,q1⟩=>?_;obtain⟨a,e,⟨xs,hq⟩,q⟩:=q1;subst e;cases r1;obtain⟨its,rv,p,hz⟩:=I1.tuple hq;refine wpAny_pyIter_tuple (show s1.heap.IsTuple a its.toArray from p) ?_;refine⟨s1.heap.objs.size,[s1.heap.objs.size],_,_,H1,rfl,I1.kept (t':=s1.toks) fun b o e=>gs _ e,wY a _,⟨_,gv _ rfl,rfl,rfl⟩,fun b hb=>?_,q⟩;have e:b=s1.heap.objs.size:=by simpa using hb
 subst e;exact I1.wX (mf _) (I1.hok.fresh (mf _))
theorem CJ{kb:List (Addr×Obj)}{σ:St}{H:Hp}{s:Shared}{R:It->Hp->Prop}{E:Value->Shared->Prop}{lo hi:Int}{t u v:Tok}{tk:Nat}(I:Inv X kb σ H s)(h1:-(2^62)<=lo)(h2:lo<2^62)(h3:-(2^62)<=hi)(h4:hi<2^62)
  (q:R (Gk lo (hi-lo).toNat) H):wpAny (model X.prog X.w) X.A (pyIter (.ref s.heap.objs.size)) (PIE X kb σ tg R) E {s with heap:=s.heap.push {cls:=.type "range",data:=.fields #[.int lo t,.int hi u,.int 1 v]},toks:=tk}:=by
 refine wpAny_pyIter_range (IsRange.new ..) (small_one h1 h2 h3 h4) ?_;have I1:Inv X kb σ H {s with heap:=s.heap.push {cls:=.type "range",data:=.fields #[.int lo t,.int hi u,.int 1 v]},toks:=tk}:=I.kept fun b o e=>gs _ e
 refine⟨(s.heap.push {cls:=.type "range",data:=.fields #[.int lo t,.int hi u,.int 1 v]}).objs.size,[(s.heap.push {cls:=.type "range",data:=.fields #[.int lo t,.int hi u,.int 1 v]}).objs.size],_,_,H,rfl,
  I1.kept (t':=tk) fun b o e=>gs _ e,wZ _ lo (hi-lo).toNat,?_,fun b hb=>?_,q⟩
 ·have e1:lo+((0:Nat):Int)*1=lo:=by simp
  have e2:(((hi-lo).toNat:Nat):Int)- ((0:Nat):Int)=Builtin.Range.rangeSize lo hi 1:=by rw[rangeSize_one];split<;>omega
  show IsRangeIter _ _ (lo+((0:Nat):Int)*1) ((((hi-lo).toNat:Nat):Int)- ((0:Nat):Int)) 1;rw[e1,e2];exact gv _ rfl
 ·have e:b=(s.heap.push {cls:=.type "range",data:=.fields #[.int lo t,.int hi u,.int 1 v]}).objs.size:=by simpa using hb
  subst e;exact I1.wX (mf _) (I1.hok.fresh (mf _))
def P2(ta:TA):TI:=fun σ H R=>ta σ H fun vs H1=>∃j:Int,vs=[.int j]/\-(2^62)<=j/\j<2^62/\R (Gk 0 j.toNat) H1
theorem cy{a:Expr}{ta:TA}{p pos:Pos}(hg:Gl X "range")(hm:X.mg "range"=none)(ha:PA X [a] ta)(hs:starEach [a] X.env=[(false,eval a X.env)]:=by rfl):PI X tg (.Call (.Name "range" p) [a] [] pos) (P2 ta):=by
 intro kb s σ H R I h;refine Call_ (ip I hg hm boot_range (PyProof.Rows.callWith_type1 (ck (ha pos kb s σ H _ I h) fun us s1 ⟨vs,H1,I1,r1,q1⟩=>?_) hs rfl));obtain⟨j,e,q1,q2,q⟩:=q1;subst e;cases r1 with
 | cons r rr=>
  cases rr;obtain⟨t,rfl⟩:=r;exact call_range_1 (CJ I1 (by omega) (by omega) q1 q2 (by simpa using q))
def P4(wi:TI)(g:TG)(tb:TS):TS:=fun D σ H=>wi σ H fun J H1=>∃W:Nat->Nat->St->Hp->Prop,(∃m,W 0 m σ H1)/\∀i m σ H,W i m σ H->
 (J.stop i H/\D.nx σ H)\/(J.go i H/\∃N:St->Hp->Prop,(∀σ' H',N σ' H'->∃m',m'<m/\W (i+1) m' σ' H')/\∀x H',J.Au i H x H'->g x σ H' fun σ2 H2=>tb {D with nx:=N,ct:=N,bk:=D.nx} σ2 H2)
def lC(fp:List Addr)(h:Heap):List (Addr×Obj):=fp.filterMap fun b=>(h.get? b).map fun o=>(b,o)
theorem eQ{fp:List Addr}{h:Heap}{b:Addr}{o:Obj}(hb:b∈fp)(e:h.get? b=some o):(b,o)∈lC fp h:=List.mem_filterMap.mpr ⟨b,hb,by rw[e];rfl⟩
theorem Aw{fp:List Addr}{h:Heap}{p:Addr×Obj}(hp:p∈lC fp h):p.1∈fp/\h.get? p.1=some p.2:=by
 obtain⟨b,hb,e⟩:=List.mem_filterMap.mp hp;cases q:h.get? b with
 | none=>rw[q]at e;cases e
 | some o=>
  rw[q]at e;have e':(b,o)=p:=Option.some.inj e;subst e';exact⟨hb,q⟩
theorem Inv.pinned{kb:List (Addr×Obj)}{σ:St}{H:Hp}{s:Shared}{fp:List Addr}(I:Inv X kb σ H s)(hf:∀b∈fp,kj X kb H b)(ho:∀b∈fp,∃o,s.heap.get? b=some o/\∀v,o.data≠.cell v):Inv X (kb++lC fp s.heap) σ H s :=
 I.zk fun p hp=>(List.mem_append.mp hp).elim (fun z=>I.pin p (List.mem_append_right _ z)) fun z=>by obtain⟨hb,e⟩:=Aw z;obtain⟨f0,f1,f2,_⟩:=hf p.1 hb;obtain⟨o,e',d⟩:=ho p.1 hb;rw[e]at e';cases e';exact⟨e,f0,f1,f2,d⟩
theorem Inv.iX{kb pl:List (Addr×Obj)}{σ:St}{H:Hp}{s:Shared}(I:Inv X (kb++pl) σ H s):Inv X kb σ H s:=I.zk fun p hp=>I.pin p (List.mem_append_right _ (List.mem_append_left _ hp))
theorem cY{iter:Expr}{body:List Stmt}{wi:TI}{g:TG}{tb:TS}{pos:Pos}(hp:PassesOwn (model X.prog X.w) X.A X.env X.xe)(hc:X.calm=true)(hi:PI X tg iter wi)(hg:PG X tg g)(hb:qO X body tb)
  (hs:∀x,foldedSetIterable iter X.env x=pure x:=by intro _;rfl):PS X (.For tg iter body [] pos) (P4 wi g tb):=by
 intro kb s σ H D I h;refine wpAny_For (ck (hi kb s σ H _ I h) fun v s1 h1=>ck h1 fun itv s2 h2=>?_) hs;obtain⟨it,fp,tn,J,H2,e,I2,T,st2,f2,W,⟨m0,w0⟩,turn⟩:=h2;subst e;have stat:∀{H':Hp},(∀b∈fp,H' b=none)->∀b∈fp,kj X kb H' b:=fun hn b hb=>⟨hn b hb,(f2 b hb).2⟩;refine codeAny_forLoop_any (fun n s'=>∃i σ' H',Inv X kb σ' H' s'/\tn i s'.heap/\(∀b∈fp,H' b=none)/\W i n σ' H') ?_ m0 ⟨0,σ,H2,I2,st2,fun b hb=>(f2 b hb).1,w0⟩;rintro n s3 ⟨i,σ3,H3,I3,st3,fr3,w3⟩;rcases turn i n σ3 H3 w3 with ⟨stop,qn⟩ | ⟨go,N,hN,step⟩
 ·refine wpAny_passesOwn hp (ck (T.done X rfl rfl rfl hc i kb s3 σ3 H3 X.xe I3 (stat fr3) st3 stop) fun r s4 ⟨hr,I4⟩=>?_);subst hr;exact wpAny_execs_nil ⟨σ3,H3,I4,qn⟩
 ·refine wpAny_passesOwn hp (ck (T.item X rfl rfl rfl hc i kb s3 σ3 H3 X.xe I3 (stat fr3) st3 go) fun r s4 ⟨u,hr,h4⟩=>?_);subst hr;refine wpAny_passesOwn hp (ck h4 fun _ s5 ⟨x,H5,I5,r5,y5,Gm,KW⟩=>?_);have I5':=I5.pinned (stat KW) (T.obj _ _ Gm);refine wpAny_passesOwn hp (ck (hg _ s5 σ3 H5 x u _ I5' r5 (step x H5 y5)) fun _ s6 ⟨σ6,H6,I6,q6⟩=>?_);refine wpAny_passesOwn hp (ck (hb _ s6 σ6 H6 _ I6 q6) fun f s7 q7=>?_);have again:∀{σ7:St} {H7:Hp},Inv X (kb++lC fp s5.heap) σ7 H7 s7->N σ7 H7->∃m,m<n/\∃i σ' H',Inv X kb σ' H' s7/\tn i s7.heap/\(∀b∈fp,H' b=none)/\W i m σ' H':=fun {σ7 H7} I7 n7=>by obtain⟨m',hm,w7⟩:=hN σ7 H7 n7;refine⟨m',hm,i+1,σ7,H7,I7.iX,T.keep _ _ _ Gm fun b hb o e=>(I7.pin (b,o) (List.mem_append_right _ (List.mem_append_right _ (eQ hb e)))).1,fun b hb=>?_,w7⟩;obtain⟨o,e,d⟩:=T.obj _ _ Gm b hb;exact(I7.pin (b,o) (List.mem_append_right _ (List.mem_append_right _ (eQ hb e)))).2.1
  cases f with
  | next=>obtain⟨σ7,H7,I7,n7⟩:=q7;exact again I7 n7
  | cont=>obtain⟨σ7,H7,I7,n7⟩:=q7;exact again I7 n7
  | brk=>obtain⟨σ7,H7,I7,q7⟩:=q7;exact⟨σ7,H7,I7.iX,q7⟩
  | ret v=>obtain⟨x7,σ7,H7,I7,r7,q7⟩:=q7;exact⟨x7,σ7,H7,I7.iX,r7,q7⟩
theorem ez{K:i8}{a:Addr}{xs:List V}{g:TG}{tb:TS}{D:Ends}{σ:St}{H:Hp}(Pv:Nat->St->Hp->Prop)(h0:Pv 0 σ H)(hl:∀i σ H,i<=xs.length->Pv i σ H->aT K H a xs)
  (hs:∀i x σ H,xs[i]? =some x->Pv i σ H->g x σ H fun σ2 H2=>tb {D with nx:=Pv (i+1),ct:=Pv (i+1),bk:=D.nx} σ2 H2) (hd:∀σ H,Pv xs.length σ H->D.nx σ H):
  ∃W:Nat->Nat->St->Hp->Prop,(∃m,W 0 m σ H)/\∀i m σ H,W i m σ H->
   ((JE K a).stop i H/\D.nx σ H)\/((JE K a).go i H/\∃N:St->Hp->Prop,(∀σ' H',N σ' H'->∃m',m'<m/\W (i+1) m' σ' H')/\∀x H',(JE K a).Au i H x H'->g x σ H' fun σ2 H2=>tb {D with nx:=N,ct:=N,bk:=D.nx} σ2 H2):=by
 refine⟨fun i m σ H=>m=xs.length-i/\i<=xs.length/\Pv i σ H,⟨xs.length,by simp,Nat.zero_le _,h0⟩,?_⟩;rintro i m σ H ⟨rfl,hi,p⟩;have q:=hl i σ H hi p;by_cases hlt:i<xs.length
 ·refine .inr ⟨⟨xs,xs[i],q,by simp[hlt]⟩,Pv (i+1),fun σ' H' p'=>⟨xs.length- (i+1),by omega,rfl,hlt,p'⟩,fun x H' y=>?_⟩;obtain⟨e,y⟩:=y;subst e;exact hs i x σ _ (y xs q) p
 ·have e:i=xs.length:=by omega
  subst e;exact .inl ⟨⟨xs,q,mf _⟩,hd σ H p⟩
theorem ef{lo:Int}{n:Nat}{g:TG}{tb:TS}{D:Ends}{σ:St}{H:Hp}(Pv:Nat->St->Hp->Prop)(h0:Pv 0 σ H)
  (hs:∀i σ H,i<n->Pv i σ H->g (.int (lo+i)) σ H fun σ2 H2=>tb {D with nx:=Pv (i+1),ct:=Pv (i+1),bk:=D.nx} σ2 H2) (hd:∀σ H,Pv n σ H->D.nx σ H):
  ∃W:Nat->Nat->St->Hp->Prop,(∃m,W 0 m σ H)/\∀i m σ H,W i m σ H->
   ((Gk lo n).stop i H/\D.nx σ H)\/((Gk lo n).go i H/\∃N:St->Hp->Prop,(∀σ' H',N σ' H'->∃m',m'<m/\W (i+1) m' σ' H')/\∀x H',(Gk lo n).Au i H x H'->g x σ H' fun σ2 H2=>tb {D with nx:=N,ct:=N,bk:=D.nx} σ2 H2):=by
 refine⟨fun i m σ H=>m=n-i/\i<=n/\Pv i σ H,⟨n,by simp,Nat.zero_le _,h0⟩,?_⟩;rintro i m σ H ⟨rfl,hi,p⟩;by_cases hlt:i<n
 ·refine .inr ⟨hlt,Pv (i+1),fun σ' H' p'=>⟨n- (i+1),by omega,rfl,hlt,p'⟩,fun x H' y=>?_⟩;obtain⟨e,y⟩:=y;subst e y;exact hs i σ _ hlt p
 ·have e:i=n:=by omega
  subst e;exact .inl ⟨mf _,hd σ H p⟩
abbrev R2:=V->V->Hp->VK->Prop
def jU(X:Cx)(f:Value->Value->Sem Value)(r:R2):Prop :=
 ∀(kb:List (Addr×Obj)) (s:Shared) (σ:St) (H:Hp) (x y:V) (v u:Value) (Q:VK),Inv X kb σ H s->RelV x v->RelV y u->r x y H Q->
  wpAny (model X.prog X.w) X.A (f v u) (EP X kb σ Q) X.xe s
def Vd(X:Cx)(f:Value->Sem Value)(r:V->Hp->VK->Prop):Prop :=
 ∀(kb:List (Addr×Obj)) (s:Shared) (σ:St) (H:Hp) (x:V) (v:Value) (Q:VK),Inv X kb σ H s->RelV x v->r x H Q->
  wpAny (model X.prog X.w) X.A (f v) (EP X kb σ Q) X.xe s
def eA(X:Cx)(f:Value)(r:List V->Hp->VK->Prop):Prop :=
 ∀(kb:List (Addr×Obj)) (s:Shared) (σ:St) (H:Hp) (xs:List V) (us:List Value) (Q:VK),Inv X kb σ H s->Vals xs us->r xs H Q->
  wpAny (model X.prog X.w) X.A (call f us) (EP X kb σ Q) X.xe s
def KY(r:R2)(ta tb:TE):TE:=fun σ H Q=>ta σ H fun x H1=>tb σ H1 fun y H2=>r x y H2 Q
def tUn(r:V->Hp->VK->Prop)(ta:TE):TE:=fun σ H Q=>ta σ H fun x H1=>r x H1 Q
def rI(C:Int->Int->Prop)(g:Int->Int->V):R2:=fun x y H Q=>∃i j,x=.int i/\y=.int j/\C i j/\Q (g i j) H
def JF(g:Int->Int->V):R2:=fun x y H Q=>∃i j,x=.int i/\y=.int j/\Q (g i j) H
def rU(g:Int->V):V->Hp->VK->Prop:=fun x H Q=>∃i,x=.int i/\Q (g i) H
variable {a b c:Expr}{ta tb tc:TE}
theorem KZ(ha:PE X a ta)(hb:PE X b tb){kb:List (Addr×Obj)}{s:Shared}{σ:St}{H:Hp}{R:V->V->Hp->Prop}(I:Inv X kb σ H s)
  (h:ta σ H fun x H1=>tb σ H1 fun y H2=>R x y H2) {Q:Value->Shared->Prop} {f:Value->Value->Sem Value}
  (hf:∀v u s2 x y H2,Inv X kb σ H2 s2->RelV x v->RelV y u->R x y H2->wpAny (model X.prog X.w) X.A (f v u) Q X.xe s2):
  wpAny (model X.prog X.w) X.A (eval a X.env) (fun v s₁=>wpAny (model X.prog X.w) X.A (eval b X.env) (fun u s₂=>wpAny (model X.prog X.w) X.A (f v u) Q X.xe s₂) X.xe s₁) X.xe s:=by
 refine ck (ha kb s σ H _ I h) fun v s1 ⟨x,H1,I1,r1,q1⟩=>?_;refine ck (hb kb s1 σ H1 _ I1 q1) fun u s2 ⟨y,H2,I2,r2,q2⟩=>?_;exact hf v u s2 x y H2 I2 r1 r2 q2
theorem aM{op:Operator}{r:R2}(ho:jU X (binaryOp op) r)(ha:PE X a ta)(hb:PE X b tb):PE X (.BinOp a op b pos) (KY r ta tb):=by intro kb s σ H Q I h;exact wpAny_BinOp (KZ ha hb I h fun v u s2 x y H2 I2 rx ry q=>ho kb s2 σ H2 x y v u Q I2 rx ry q)
theorem iQ{op:UnaryOp}{r:V->Hp->VK->Prop}(ho:Vd X (unaryOp op) r)(ha:PE X a ta):PE X (.UnaryOp op a pos) (tUn r ta):=by intro kb s σ H Q I h;exact UnaryOp_ (ck (ha kb s σ H _ I h) fun v s1 ⟨x,H1,I1,r1,q1⟩=>ho kb s1 σ H1 x v Q I1 r1 q1)
theorem Ui{f:Value->Value->Sem Value}{C:Int->Int->Prop}{g:Int->Int->Int}
  (rule:∀(i j:Int) (t u:Tok) (s:Shared) (Q:Value->Shared->Prop) (E:Value->Shared->Prop),C i j->Q (.int (g i j) s.toks) {s with toks:=s.toks+1}->wpAny (model X.prog X.w) X.A (f (.int i t) (.int j u)) Q E s):
  jU X f (rI C fun i j=>.int (g i j)):=by
 intro kb s σ H x y v u Q I rx ry h;obtain⟨i,j,rfl,rfl,hc,q⟩:=h;obtain⟨t,rfl⟩:=rx;obtain⟨t',rfl⟩:=ry;exact rule i j t t' s _ _ hc ⟨.int (g i j),H,I.tok _,⟨_,rfl⟩,q⟩
theorem P5{f:Value->Value->Sem Value}{g:Int->Int->Int}
  (rule:∀(i j:Int) (t u:Tok) (s:Shared) (Q:Value->Shared->Prop) (E:Value->Shared->Prop),Q (.int (g i j) s.toks) {s with toks:=s.toks+1}->wpAny (model X.prog X.w) X.A (f (.int i t) (.int j u)) Q E s):
  jU X f (JF fun i j=>.int (g i j)):=by
 intro kb s σ H x y v u Q I rx ry h;obtain⟨i,j,rfl,rfl,q⟩:=h;obtain⟨t,rfl⟩:=rx;obtain⟨t',rfl⟩:=ry;exact rule i j t t' s _ _ ⟨.int (g i j),H,I.tok _,⟨_,rfl⟩,q⟩
theorem Gn{f:Value->Value->Sem Value}{g:Int->Int->Bool}
  (rule:∀(i j:Int) (t u:Tok) (s:Shared) (Q:Value->Shared->Prop) (E:Value->Shared->Prop),Q (.bool (g i j)) s->wpAny (model X.prog X.w) X.A (f (.int i t) (.int j u)) Q E s):
  jU X f (JF fun i j=>.bl (g i j)):=by
 intro kb s σ H x y v u Q I rx ry h;obtain⟨i,j,rfl,rfl,q⟩:=h;obtain⟨t,rfl⟩:=rx;obtain⟨t',rfl⟩:=ry;exact rule i j t t' s _ _ ⟨.bl (g i j),H,I,rfl,q⟩
def P6(i j:Int):Prop:=0<=j/\j<=1000000/\i.natAbs<2^64
def Gp(i j:Int):Prop:=(-(2^64)<i/\i<2^64)\/(-(2^64)<j/\j<2^64)
theorem Gp.ok{i j:Int}(h:Gp i j):IntMulOk i j:=by
 rcases h with ⟨h1,h2⟩ | ⟨h1,h2⟩
 ·exact .of_left (intBits_le_64 h1 h2)
 ·exact .of_right (intBits_le_64 h1 h2)
theorem c9:jU X (binaryOp .Add) (JF fun i j=>.int (i+j)):=P5 fun _ _ _ _ _ _ _ q=>add_int q
theorem K0:jU X (binaryOp .Sub) (JF fun i j=>.int (i-j)):=P5 fun _ _ _ _ _ _ _ q=>sub_int q
theorem lE:jU X (binaryOp .Mult) (rI Gp fun i j=>.int (i*j)):=Ui fun _ _ _ _ _ _ _ hc q=>mul_int q hc.ok
theorem cL:jU X (binaryOp .Mod) (rI (fun _ j=>0<j) fun i j=>.int (i % j)):=Ui fun i j _ _ _ _ _ hc q=>by have h1:(0:Int)<j:=hc;exact mod_int' (by omega) (by rw[Int.fmod_eq_emod_of_nonneg i (by omega)];exact q)
theorem K5:jU X (binaryOp .Pow) (rI P6 fun i j=>.int (i^j.toNat)):=Ui fun _ _ _ _ _ _ _ hc q=>pow_int_small hc.1 hc.2.1 hc.2.2 q
theorem unI{f:Value->Sem Value}{g:Int->Int}
  (rule:∀(i:Int) (t:Tok) (s:Shared) (Q:Value->Shared->Prop) (E:Value->Shared->Prop),Q (.int (g i) s.toks) {s with toks:=s.toks+1}->wpAny (model X.prog X.w) X.A (f (.int i t)) Q E s):
  Vd X f (rU fun i=>.int (g i)):=by
 intro kb s σ H x v Q I rx h;obtain⟨i,rfl,q⟩:=h;obtain⟨t,rfl⟩:=rx;exact rule i t s _ _ ⟨.int (g i),H,I.tok _,⟨_,rfl⟩,q⟩
theorem ft:Vd X (unaryOp .USub) (rU fun i=>.int (-i)):=unI fun _ _ _ _ _ q=>neg_int q
end
def Gq:V->V->Bool
 | .non,.non=>true | .non,.int _=>true | .int _,.non=>true | .non,.bl _=>true | .bl _,.non=>true | .non,.str _=>true | .str _,.non=>true
 | .int _,.int _=>true | .bl _,.bl _=>true | .str _,.str _=>true | .Ci _,.Ci _=>true
 | .int _,.str _=>true | .str _,.int _=>true | .bl _,.str _=>true | .str _,.bl _=>true
 | _,_=>false
def rEq:R2:=fun x y H Q=>Gq x y=true/\Q (.bl (decide (x=y))) H
def rNe:R2:=fun x y H Q=>Gq x y=true/\Q (.bl (!decide (x=y))) H
theorem sM{i j:Int}:decide (V.int i=V.int j)=(i==j):=by rw[Bool.eq_iff_iff];simp
theorem CK{i j:Bool}:decide (V.bl i=V.bl j)=(i==j):=by rw[Bool.eq_iff_iff];simp
theorem sN{i j:Str}:decide (V.str i=V.str j)=(i==j):=by rw[Bool.eq_iff_iff];simp
theorem zr{i j:Array UInt8}:decide (V.Ci i=V.Ci j)=(i.toList==j.toList):=by rw[Bool.eq_iff_iff];cases i;cases j;simp
section
variable {X:Cx}{a b c:Expr}{ta tb tc:TE}{pos:Pos}
theorem bw{kb:List (Addr×Obj)}{σ:St}{H:Hp}{s:Shared}{Q:VK}{k k':Bool}(I:Inv X kb σ H s)(q:Q (.bl k) H)(e:k=k'):EP X kb σ Q (.bool k') s:=by subst e;exact⟨.bl k,H,I,rfl,q⟩
theorem eP:jU X (compareOp .Eq) rEq:=by
 intro kb s σ H x y v u Q I rx ry h;obtain⟨hs,q⟩:=h;cases x with
 | non=>
  cases rx;cases y with
  | non=>cases ry;exact PySem.EqNone.eq_none_none (bw I q (by simp))
  | bl j=>cases ry;exact PySem.EqNone.eq_none_bool (bw I q (by simp))
  | int j=>obtain⟨t',rfl⟩:=ry;exact PySem.EqNone.eq_none_int (bw I q (by simp))
  | str j=>obtain⟨t',rfl⟩:=ry;exact PySem.EqNone.eq_none_str (bw I q (by simp))
  | _=>exact absurd (show false=true from hs) mx
 | bl i=>
  cases rx;cases y with
  | non=>cases ry;exact PySem.EqNone.eq_bool_none (bw I q (by simp))
  | bl j=>cases ry;exact eq_bool (bw I q CK)
  | str j=>obtain⟨t',rfl⟩:=ry;exact PySem.EqMixed.eq_bool_str (bw I q (by simp))
  | _=>exact absurd (show false=true from hs) mx
 | int i=>
  obtain⟨t,rfl⟩:=rx;cases y with
  | non=>cases ry;exact PySem.EqNone.eq_int_none (bw I q (by simp))
  | int j=>obtain⟨t',rfl⟩:=ry;exact eq_int (bw I q sM)
  | str j=>obtain⟨t',rfl⟩:=ry;exact PySem.EqMixed.eq_int_str (bw I q (by simp))
  | _=>exact absurd (show false=true from hs) mx
 | str i=>
  obtain⟨t,rfl⟩:=rx;cases y with
  | non=>cases ry;exact PySem.EqNone.eq_str_none (bw I q (by simp))
  | bl j=>cases ry;exact PySem.EqMixed.eq_str_bool (bw I q (by simp))
  | int j=>obtain⟨t',rfl⟩:=ry;exact PySem.EqMixed.eq_str_int (bw I q (by simp))
  | str j=>obtain⟨t',rfl⟩:=ry;exact eq_str (bw I q sN)
  | _=>exact absurd (show false=true from hs) mx
 | Ci i=>
  obtain⟨t,rfl⟩:=rx;cases y with
  | Ci j=>obtain⟨t',rfl⟩:=ry;exact PySem.W.eq_bytes (bw I q zr)
  | _=>exact absurd (show false=true from hs) mx
 | _=>cases y<;>exact absurd (show false=true from hs) mx
theorem rL:jU X (compareOp .NotEq) rNe:=by
 intro kb s σ H x y v u Q I rx ry h;obtain⟨hs,q⟩:=h;cases x with
 | non=>
  cases rx;cases y with
  | non=>cases ry;exact PySem.EqNone.ne_none_none (bw I q (by simp))
  | bl j=>cases ry;exact PySem.EqNone.ne_none_bool (bw I q (by simp))
  | int j=>obtain⟨t',rfl⟩:=ry;exact PySem.EqNone.ne_none_int (bw I q (by simp))
  | str j=>obtain⟨t',rfl⟩:=ry;exact PySem.EqNone.ne_none_str (bw I q (by simp))
  | _=>exact absurd (show false=true from hs) mx
 | bl i=>
  cases rx;cases y with
  | non=>cases ry;exact PySem.EqNone.ne_bool_none (bw I q (by simp))
  | bl j=>cases ry;exact ne_bool (bw I q (congrArg not CK))
  | str j=>obtain⟨t',rfl⟩:=ry;exact PySem.EqMixed.ne_bool_str (bw I q (by simp))
  | _=>exact absurd (show false=true from hs) mx
 | int i=>
  obtain⟨t,rfl⟩:=rx;cases y with
  | non=>cases ry;exact PySem.EqNone.ne_int_none (bw I q (by simp))
  | int j=>obtain⟨t',rfl⟩:=ry;exact ne_int (bw I q (congrArg not sM))
  | str j=>obtain⟨t',rfl⟩:=ry;exact PySem.EqMixed.ne_int_str (bw I q (by simp))
  | _=>exact absurd (show false=true from hs) mx
 | str i=>
  obtain⟨t,rfl⟩:=rx;cases y with
  | non=>cases ry;exact PySem.EqNone.ne_str_none (bw I q (by simp))
  | bl j=>cases ry;exact PySem.EqMixed.ne_str_bool (bw I q (by simp))
  | int j=>obtain⟨t',rfl⟩:=ry;exact PySem.EqMixed.ne_str_int (bw I q (by simp))
  | str j=>obtain⟨t',rfl⟩:=ry;exact ne_str (bw I q (congrArg not sN))
  | _=>exact absurd (show false=true from hs) mx
 | Ci i=>
  obtain⟨t,rfl⟩:=rx;cases y with
  | Ci j=>obtain⟨t',rfl⟩:=ry;exact PySem.W.ne_bytes (bw I q (congrArg not zr))
  | _=>exact absurd (show false=true from hs) mx
 | _=>cases y<;>exact absurd (show false=true from hs) mx
theorem P7:jU X (compareOp .Lt) (JF fun i j=>.bl (decide (i<j))):=Gn fun _ _ _ _ _ _ _ q=>lt_int q
theorem JG:jU X (compareOp .LtE) (JF fun i j=>.bl (decide (i<=j))):=Gn fun _ _ _ _ _ _ _ q=>le_int q
theorem rM:jU X (compareOp .Gt) (JF fun i j=>.bl (decide (j<i))):=Gn fun _ _ _ _ _ _ _ q=>gt_int q
theorem JH:jU X (compareOp .GtE) (JF fun i j=>.bl (decide (j<=i))):=Gn fun _ _ _ _ _ _ _ q=>ge_int q
theorem w6:jU X (compareOp .Is) (fun x y H Q=>y=.non/\Q (.bl (decide (x=.non))) H):=by
 intro kb s σ H x y v u Q I rx ry h;obtain⟨rfl,q⟩:=h;cases ry;refine is_none_gen (bw I q ?_);cases x<;>first
  | (cases rx;rfl)
  | (obtain⟨t,rfl⟩:=rx;rfl)
theorem sO:jU X (compareOp .IsNot) (fun x y H Q=>y=.non/\Q (.bl (!decide (x=.non))) H):=by
 intro kb s σ H x y v u Q I rx ry h;obtain⟨rfl,q⟩:=h;cases ry;refine isnot_none_gen (bw I q ?_);cases x<;>first
  | (cases rx;rfl)
  | (obtain⟨t,rfl⟩:=rx;rfl)
theorem aY(b:Expr){op:CmpOp}(h:op≠.In:=by decide)(h2:op≠.NotIn:=by decide):behindInMarks op b=false:=by
 have e1:(op==CmpOp.In)=false:=by cases op<;>first | rfl | exact absurd rfl h
 have e2:(op==CmpOp.NotIn)=false:=by cases op<;>first | rfl | exact absurd rfl h2
 cases b<;>simp[behindInMarks,e1,e2]
theorem cS{op:CmpOp}{r:R2}(ho:jU X (compareOp op) r)(ha:PE X a ta)(hb:PE X b tb)(hm:behindInMarks op b=false):PE X (.Compare a [op] [b] pos) (KY r ta tb):=by intro kb s σ H Q I h;exact wpAny_Compare1 (KZ ha hb I h fun v u s2 x y H2 I2 rx ry q=>ho kb s2 σ H2 x y v u Q I2 rx ry q) hm
def JI(t:TE):TT:=fun σ H Q=>t σ H fun x H'=>∃k,x=.bl k/\Q k H'
theorem aN{op:CmpOp}{r:R2}(ho:jU X (compareOp op) r)(ha:PE X a ta)(hb:PE X b tb)(hm:behindInMarks op b=false):PT X (.Compare a [op] [b] pos) (JI (KY r ta tb)):=by
 intro kb s σ H Q I h
 refine wpAny_isTrue_Compare1 (ck (ha kb s σ H _ I h) fun v s1 ⟨x,H1,I1,r1,q1⟩=>ck (hb kb s1 σ H1 _ I1 q1) fun u s2 ⟨y,H2,I2,r2,q2⟩=>
  ck (ho kb s2 σ H2 x y v u _ I2 r1 r2 q2) fun c s3 ⟨z,H3,I3,r3,k,e,q3⟩=>?_) hm
 subst e;cases r3;exact wpAny_truthy_bool ⟨H3,I3,q3⟩
def K8(r r':R2)(ta tb tc:TE):TE:=fun σ H Q=>ta σ H fun x H1=>tb σ H1 fun y H2=>r x y H2 fun z H3=>∃k,z=.bl k/\
 (if k=true then tc σ H3 fun w' H4=>r' y w' H4 Q else Q (.bl false) H3)
theorem CL{op op':CmpOp}{r r':R2}(ho:jU X (compareOp op) r)(ho':jU X (compareOp op') r')(ha:PE X a ta)(hb:PE X b tb)(hc:PE X c tc)
  (hm:lastMarks [op,op'] [b,c]=false:=by with_unfolding_all rfl):PE X (.Compare a [op,op'] [b,c] pos) (K8 r r' ta tb tc):=by
 intro kb s σ H Q I h
 refine Compare_chain (ck (ha kb s σ H _ I h) fun v s1 ⟨x,H1,I1,r1,q1⟩=>chain_link (ck (hb kb s1 σ H1 _ I1 q1) fun u s2 ⟨y,H2,I2,r2,q2⟩=>
  ck (ho kb s2 σ H2 x y v u _ I2 r1 r2 q2) fun d s3 ⟨z,H3,I3,r3,k,e,q3⟩=>?_)) hm
 subst e;cases r3;refine wpAny_truthy_bool ?_;cases k with
 | false=>exact ite_ff ⟨.bl false,H3,I3,rfl,q3⟩
 | true=>exact ite_tt (chain_last (ck (hc kb s3 σ H3 _ I3 q3) fun w' s4 ⟨z',H4,I4,r4,q4⟩=>ho' kb s4 σ H4 y z' u w' Q I4 r2 r4 q4))
theorem sP:(fw:Nat)<2^63:=by rw[sizeLine_eq];decide
theorem w8:jU X (binaryOp .Add) (fun x y H Q=>∃i j,x=.str i/\y=.str j/\i.length+j.length<=fw/\Q (.str (i++j)) H):=by intro kb s σ H x y v u Q I rx ry h;obtain⟨i,j,rfl,rfl,hz,q⟩:=h;obtain⟨t,rfl⟩:=rx;obtain⟨t',rfl⟩:=ry;exact add_str (fun t' tk=>⟨.str (i++j),H,I.tok _,⟨_,rfl⟩,q⟩) hz
theorem vals1{x:V}{us:List Value}(r:Vals [x] us):∃u,us=[u]/\RelV x u:=by
 cases r with
 | cons r1 r2=>cases r2;exact⟨_,rfl,r1⟩
theorem vals2{x y:V}{us:List Value}(r:Vals [x,y] us):∃u w',us=[u,w']/\RelV x u/\RelV y w':=by
 cases r with
 | cons r1 r2=>
  cases r2 with
  | cons r3 r4=>cases r4;exact⟨_,_,rfl,r1,r3⟩
theorem o8:eA X (.builtin "abs") (fun xs H Q=>∃i,xs=[.int i]/\Q (.int (if i<0 then-i else i)) H):=by intro kb s σ H xs us Q I r h;obtain⟨i,rfl,q⟩:=h;obtain⟨u,rfl,t,rfl⟩:=vals1 r;exact call_abs_int fun u tk=>⟨.int (if i<0 then-i else i),H,I.tok _,⟨_,rfl⟩,q⟩
theorem lF:eA X (.type "int") (fun xs H Q=>(∃i,xs=[.int i]/\Q (.int i) H)\/∃k,xs=[.bl k]/\Q (.int (if k then 1 else 0)) H):=by
 intro kb s σ H xs us Q I r h;rcases h with ⟨i,rfl,q⟩ | ⟨k,rfl,q⟩
 ·obtain⟨u,rfl,t,rfl⟩:=vals1 r;exact call_int_int ⟨.int i,H,I,⟨_,rfl⟩,q⟩
 ·obtain⟨u,rfl,r1⟩:=vals1 r;cases r1;exact call_int_bool ⟨.int (if k then 1 else 0),H,I.tok _,⟨_,rfl⟩,q⟩
end
structure xc(h:Heap)(x dx C:Addr)(mA:Str->Option Value):Prop where
 obj:h.get? x=some (PySem.W.instObj C dx)
 ns:h.Ns1 dx mA
 ne:dx≠x
theorem Ax{h:Heap}{dx:Addr}{mA:Str->Option Value}(n:h.Ns1 dx mA):∃od,h.get? dx=some od/\∀name,PySem.W.lookIn name od=some (mA name):=by
 obtain⟨o,es,ep,ho,hd,hk,_,hm⟩:=n;refine⟨o,ho,fun name=>?_⟩;have e:=hm name;unfold nsFind findBy at e;rw[<-Array.find?_toList]at e;unfold PySem.W.lookIn;rw[hd];dsimp only;split
 ·rename_i y q;rw[q]at e;exact congrArg some e
 ·rename_i q;rw[q]at e;have a:es.toList.any (·.refKey)=false:=by rw[List.any_eq_false];intro y hy;obtain⟨z,t,hkey⟩:=hk y (Array.mem_toList_iff.mp hy);simp[DictEntry.refKey,hkey]
  have a':¬es.toList.any (·.refKey)=true:=by rw[a];exact mx
  rw[if_neg a'];exact congrArg some e
theorem xc.look{h:Heap}{x dx C:Addr}{mA:Str->Option Value}(I:xc h x dx C mA):∃od,PySem.W.InstAt h x (PySem.W.instObj C dx) C (some od)/\∀name,PySem.W.lookIn name od=some (mA name):=
 let ⟨od,ho,hl⟩:=Ax I.ns
 ⟨od,⟨I.obj,rfl,rfl,ho⟩,hl⟩
section
variable {prog:Program}{w:World}{A:Around}{E:Value->Shared->Prop}{s:Shared}{K:i8}{x dx C f:Addr}{mA:Str->Option Value}{name:Str}{v:Value}
theorem get_map{expr:Bool}{Q:Value->Shared->Prop}(X:K.In s.heap)(I:xc s.heap x dx C mA)(hg:PySem.W.plainGet K C name=true)(hh:PySem.W.hasDictIn K C=true)
  (ha:ma K (.ref C) name=some none) (hv:mA name=some v) (hv':PySem.W.handedIn v=true) (h:Q v {s with toks:=s.toks+1}):
  wpAny (model prog w) A (getAttr (.ref x) name expr) Q E s:=by
 obtain⟨od,J,hl⟩:=I.look;exact PySem.W.get_value X J (PySem.W.plainGet_of hg).1 (PySem.W.findObj_own hh ha rfl (by rw[hl,hv])) hv' h
theorem CM{pl:Sem Bool}{Q:Value×List Value->Shared->Prop}(X:K.In s.heap)(I:xc s.heap x dx C mA)(hg:PySem.W.plainGet K C name=true)
  (hf:ma K (.ref C) name=some (some (.ref f))) (ht:PySem.W.isFn K (.ref f)=true) (hv:mA name=none) (h:Q (.ref f,[.ref x]) s):
  wpAny (model prog w) A (getMethod (.ref x) name pl) Q E s:=by
 obtain⟨od,J,hl⟩:=I.look;exact PySem.W.method_fn X J (PySem.W.plainGet_of hg).1 (PySem.W.plainGet_of hg).2 hf (beq_iff_eq.mp ht) (by show(PySem.W.lookIn name od).map (·.isSome)=some false;rw[hl,hv];rfl) h
theorem Gs{ns:List Str}{Q:Unit->Shared->Prop}(X:K.In s.heap)(I:xc s.heap x dx C mA)
  (hs:ma K (.ref C) "__setattr__"=some (some (.builtin "object.__setattr__"))) (hp:PySem.W.plainOver K C=true) (ht:PySem.W.takerIn K C name=some none) (hh:PySem.W.hasDictIn K C=true)
  (hw:PySem.Within mA ns) (hsz:ns.length<=fw)
  (h:∀h',xc h' x dx C (fun y=>if y=name then some v else mA y)->Heap.SameBut dx s.heap h'->Q () {s with heap:=h',toks:=s.toks+2}):
  wpAny (model prog w) A (setAttr (.ref x) name v) Q E s:=by
 obtain⟨od,J,hl⟩:=I.look;refine PySem.W.set_plain X J hs (PySem.W.osa_open (s:={s with toks:=s.toks+1}) (r:=none) X J hp ht fun b=>?_);obtain⟨cd,hc,hd'⟩:=PySem.W.any_some hh;have hx:s.heap.get? x=some ⟨.ref C,some dx,.plain,#[]⟩:=I.obj;refine ff (fg (ff (ff (wpAny_loadPart hx (ff (PySem.W.Looks.here (s:={s with toks:=s.toks+1}) (PySem.W.looks_clsIn X hc) ?_))))));rw[hd'];refine fg (a:=some dx) (ff (fg (ff ?_)));refine wpAny_nsSet1 (s:={s with toks:=s.toks+1}) I.ns fun h' hn2 hs2=>?_;obtain⟨oD,esD,epD,hoD,hdD,hcD⟩:=hn2.count (PySem.Within.cons name v hw);refine ff (wpAny_lookBehind hoD (by rw[hdD];exact pastItsLine_dict (mv hcD (by rw[eh];omega))) ?_);exact fg (h _ ⟨(hs2.2 _ (Ne.symm I.ne)).trans I.obj,hn2,I.ne⟩ hs2)
theorem CN{R:Result->Shared->Prop}{vs:List Value}{kw:List (Str×Value)}(X:K.In s.heap)(hm:PySem.W.makesIn K C=true)
  (hi:ma K (.ref C) "__init__"=some (some (.ref f))) (hf:PySem.W.typeIn K (.ref f)=some (.type "function"))
  (h:codeAny (model prog w) (A.under (.builtin "type.__call__" ⟨.ref C::vs,kw⟩)) (.call (.ref f) ⟨.ref (s.heap.objs.size+1)::vs,kw⟩) (PySem.W.InitBack (s.heap.objs.size+1) R)
   {s with heap:=(s.heap.push PySem.W.emptyDict).push (PySem.W.instObj C s.heap.objs.size)}):
  codeAny (model prog w) A (.call (.ref C) ⟨vs,kw⟩) R s:=by
 obtain⟨hh,g,d,t,os⟩:=s;exact PySem.W.make_core (PySem.W.makes_of X hm) (PySem.W.looks_findIn X hi) (fun self=>PySem.W.bind_fn X self hf) (.inl rfl) h
def gK(f:Str)(v:V):List (Str×V)->List (Str×V)
 | []=>[(f,v)]
 | (g,x)::r=>if g=f then (g,v)::r else (g,x)::gK f v r
theorem mz(f g:Str)(v:V):∀fs:List (Str×V),(gK f v fs).lookup g=if g=f then some v else fs.lookup g
 | []=>by
  show List.lookup g [(f,v)]=_;by_cases h:g=f
  ·have hb:(g==f)=true:=beq_iff_eq.mpr h;simp only[List.lookup,hb,if_pos h]
  ·have hb:(g==f)=false:=beq_eq_false_iff_ne.mpr h;simp only[List.lookup,hb,if_neg h]
 | (k,x)::r=>by
  have ih:=mz f g v r;rw[show gK f v ((k,x)::r)=(if k=f then (k,v)::r else (k,x)::gK f v r)from rfl];by_cases hk:k=f
  ·rw[if_pos hk];by_cases h:g=k
   ·have hb:(g==k)=true:=beq_iff_eq.mpr h;simp only[List.lookup,hb,if_pos (h.trans hk)]
   ·have hb:(g==k)=false:=beq_eq_false_iff_ne.mpr h;simp only[List.lookup,hb,if_neg (fun e:g=f=>h (e.trans hk.symm))]
  ·rw[if_neg hk];by_cases h:g=k
   ·have hb:(g==k)=true:=beq_iff_eq.mpr h;simp only[List.lookup,hb,if_neg (fun e:g=f=>hk (h.symm.trans e))]
   ·have hb:(g==k)=false:=beq_eq_false_iff_ne.mpr h;simp only[List.lookup,hb];exact ih
theorem lG(f:Str)(v:V):∀fs:List (Str×V),f∈(gK f v fs).map (·.1)/\∀g,g∈fs.map (·.1)->g∈(gK f v fs).map (·.1)
 | []=>⟨by simp[gK],fun g h=>by simp at h⟩
 | (k,x)::r=>by
  obtain⟨i1,i2⟩:=lG f v r;rw[show gK f v ((k,x)::r)=(if k=f then (k,v)::r else (k,x)::gK f v r)from rfl];by_cases hk:k=f
  ·rw[if_pos hk];subst hk;exact⟨by simp,fun g h=>by simpa using h⟩
  ·rw[if_neg hk];refine⟨?_,fun g h=>?_⟩
   ·rw[el];exact List.mem_cons_of_mem _ i1
   ·rw[el]at h ⊢;rcases List.mem_cons.mp h with e | e
    ·exact List.mem_cons.mpr (.inl e)
    ·exact List.mem_cons_of_mem _ (i2 g e)
theorem mJ(f:Str)(v:V):∀fs:List (Str×V),(gK f v fs).length<=fs.length+1
 | []=>by simp[gK]
 | (k,x)::r=>by
  have ih:=mJ f v r;rw[show gK f v ((k,x)::r)=(if k=f then (k,v)::r else (k,x)::gK f v r)from rfl];by_cases hk:k=f
  ·rw[if_pos hk,eh,eh];omega
  ·rw[if_neg hk,eh,eh];omega
theorem gU.some_of{v:V}{o:Option Value}(r:gU (some v) o):∃u,o=some u/\RelV v u:=by
 cases o with
 | none=>exact(show False from r).elim
 | some u=>exact⟨u,rfl,r⟩
theorem gU.none_of{o:Option Value}(r:gU none o):o=none:=by
 cases o with
 | none=>rfl
 | some u=>exact(show False from r).elim
theorem Ay{v:V}{u:Value}(r:RelV v u):PySem.W.handedIn u=true:=by
 cases v with
 | non=>cases (show u=Value.none from r);rfl
 | bl b=>cases (show u=Value.bool b from r);rfl
 | int i=>obtain⟨t,e⟩:=(show ∃t,u=Value.int i t from r);cases e;rfl
 | str x=>obtain⟨t,e⟩:=(show ∃t,u=Value.str x t from r);cases e;rfl
 | Ci b=>obtain⟨t,e⟩:=(show ∃t,u=Value.bytes b t from r);cases e;rfl
 | flt b=>obtain⟨t,e⟩:=(show ∃t,u=Value.float b t from r);cases e;rfl
 | ref a=>cases (show u=Value.ref a from r);rfl
 | ty n=>cases (show u=Value.type n from r);rfl
variable {P:Program}{H H':Hp}{h h':Heap}{a:Addr}{fs fs':List (Str×V)}
theorem oy(hok:iT P w H h)(e:H a=some (.ins C dx fs)):∃mA,xc h a dx C mA/\(∀f,gU (fs.lookup f) (mA f))/\PySem.Within mA (fs.map (·.1))/\fs.length<=1000/\H dx=some (.own a):=by obtain⟨d,z,ne,ob,mA,n,r,q⟩:=(show bu P w H h a (.ins C dx fs)from hok a _ e);exact⟨mA,⟨ob,n,ne⟩,r,q,z,d⟩
end
structure Cls(K:i8)(C:Addr):Prop where
 pg:PySem.W.plainGet K C Str.empty=true
 hd:PySem.W.hasDictIn K C=true
 po:PySem.W.plainOver K C=true
 sa:ma K (.ref C) "__setattr__"=some (some (.builtin "object.__setattr__"))
theorem Cls.get{K:i8}{C:Addr}(c:Cls K C)(f:Str):PySem.W.plainGet K C f=true:=c.pg
def eR(K:i8)(C:Addr)(f:Str):Prop:=ma K (.ref C) f=some none
theorem eR.taker{K:i8}{C:Addr}{f:Str}(n:eR K C f):PySem.W.takerIn K C f=some none:=by unfold PySem.W.takerIn;rw[show ma K (.ref C) f=some none from n];rfl
structure Meth(K:i8)(C:Addr)(m:Str)(f:Addr):Prop where
 at_:ma K (.ref C) m=some (some (.ref f))
 fn:PySem.W.isFn K (.ref f)=true
 kp:PySem.W.keepIn K (.ref f)=true
section
variable {X:Cx}{kb:List (Addr×Obj)}{σ:St}{H:Hp}{s:Shared}{a C dx:Addr}{fs:List (Str×V)}{f:Str}{v:V}{A:Around}{E:Value->Shared->Prop}
theorem xg{b:Bool}{Q:Value->Shared->Prop}(I:Inv X kb σ H s)(e:H a=some (.ins C dx fs))(c:Cls X.K C)(n:eR X.K C f)(l:fs.lookup f=some v)
  (h:∀u s',Inv X kb σ H s'->RelV v u->Q u s'):wpAny (model X.prog X.w) A (getAttr (.ref a) f b) Q E s:=by
 obtain⟨mA,O,r,_,_,_⟩:=oy I.hok e;obtain⟨u,hu,ru⟩:=gU.some_of (v:=v) (o:=mA f) (by rw[<-l];exact r f);exact get_map I.jF O (c.get f) c.hd n hu (Ay ru) (h u _ (I.tok _) ru)
theorem o9{m:Str}{g:Addr}{pl:Sem Bool}{Q:Value×List Value->Shared->Prop}(I:Inv X kb σ H s)(e:H a=some (.ins C dx fs))(c:Cls X.K C)(k:Meth X.K C m g)(l:fs.lookup m=none)
  (h:Q (.ref g,[.ref a]) s):wpAny (model X.prog X.w) A (getMethod (.ref a) m pl) Q E s:=by
 obtain⟨mA,O,r,_,_,_⟩:=oy I.hok e;have hn:mA m=none:=gU.none_of (by rw[<-l];exact r m);exact CM I.jF O (c.get m) k.at_ k.fn hn h
theorem xh{y:V}{u:Value}{Q:Unit->Shared->Prop}(I:Inv X kb σ H s)(e:H a=some (.ins C dx fs))(c:Cls X.K C)(n:eR X.K C f)(hl:fs.length<1000)(ry:RelV y u)
  (h:∀s',Inv X kb σ (upd H a (.ins C dx (gK f y fs))) s'->Q () s'):wpAny (model X.prog X.w) A (setAttr (.ref a) f u) Q E s:=by
 obtain⟨mA,O,r,wi,_,ho⟩:=oy I.hok e;have hz:(fs.map (·.1)).length<=fw:=by rw[List.length_map,sizeLine_eq];omega
 refine Gs I.jF O c.sa c.po n.taker c.hd wi hz fun h' O' sb=>h _ ?_;have hd:∃o,h'.get? dx=some o:=let ⟨o,_,_,e',_⟩:=O'.ns;⟨o,e'⟩;refine I.write (x:=a) (e:=dx) (by rw[e];exact True.intro) (.inr ho) (fun b q hb z=>(sb.2 b hb).trans z) hd ?_;refine⟨by rw[aw O.ne];exact ho,?_,O.ne,O'.obj,_,O'.ns,fun g=>?_,fun g hg=>?_⟩
 ·have:=mJ f y fs;omega
 ·show gU ((gK f y fs).lookup g) (if g=f then some u else mA g);rw[mz];by_cases q:g=f
  ·rw[if_pos q,if_pos q];exact ry
  ·rw[if_neg q,if_neg q];exact r g
 ·by_cases q:g=f
  ·rw[q];exact(lG f y fs).1
  ·refine(lG f y fs).2 g (wi g fun z=>hg ?_);show(if g=f then some u else mA g)=none;rw[if_neg q];exact z
theorem Inv.made(I:Inv X kb σ H s):Inv X kb σ (upd (upd H s.heap.objs.size (.own (s.heap.objs.size+1))) (s.heap.objs.size+1) (.ins C s.heap.objs.size []))
  {s with heap:=(s.heap.push PySem.W.emptyDict).push (PySem.W.instObj C s.heap.objs.size)}:=by
 have e1:(s.heap.push PySem.W.emptyDict).get? s.heap.objs.size=some PySem.W.emptyDict:=gv s.heap rfl;have e2:((s.heap.push PySem.W.emptyDict).push (PySem.W.instObj C s.heap.objs.size)).get? (s.heap.objs.size+1)=some (PySem.W.instObj C s.heap.objs.size):=by
  have:=gv (s.heap.push PySem.W.emptyDict) (o:=PySem.W.instObj C s.heap.objs.size) rfl
  rwa [Heap.size_push]at this
 have e3:(s.heap.push PySem.W.emptyDict).Ns s.heap.objs.size (fun _=>none):=⟨PySem.W.emptyDict,#[],_,e1,rfl,(fun e he=>absurd he (by simp)),fun _=>rfl⟩;have I1:=I.laid (a:=s.heap.objs.size) (o:=.own (s.heap.objs.size+1)) (h':=s.heap.push PySem.W.emptyDict) (t':=s.toks) (fun b u q=>gs _ q) (mf _) ⟨_,e1⟩;refine I1.laid (a:=s.heap.objs.size+1) (o:=.ins C s.heap.objs.size []) (t':=s.toks) (fun b u q=>gs _ q) (Nat.le_of_eq (Heap.size_push _ _)) ?_;have ne:s.heap.objs.size≠s.heap.objs.size+1:=mi (Nat.lt_succ_self _);refine⟨by rw[aw ne,ah],Nat.zero_le _,ne,e2,fun _=>none,(Heap.Ns1.of_empty e3).at fun o q=>gs _ q,fun _=>True.intro,fun y hy=>absurd rfl hy⟩
theorem Gu{prog:Program}{w:World}{env:Env}{e:Expr}{f:Str}{pos:Pos}{s:Shared}{Q:Value->Shared->Prop}(hb:attributeBase e f env (eval e env)=eval e env)
  (h:wpAny (model prog w) A (eval e env) (fun o s₁=>wpAny (model prog w) A (getAttr o f true) Q E s₁) E s):wpAny (model prog w) A (eval (.Attribute e f pos) env) Q E s :=
 Attribute_any_ h (by rw[arm_eval_Attribute,hb])
end
def Ve(K:i8)(ta:TE)(f:Str):TE:=fun σ H Q=>ta σ H fun x H1=>∃a C dx fs v,x=.ref a/\H1 a=some (.ins C dx fs)/\Cls K C/\eR K C f/\fs.lookup f=some v/\Q v H1
def Vf(K:i8)(ta tv:TE)(f:Str):TS:=fun D σ H=>tv σ H fun y H1=>ta σ H1 fun x H2=>∃a C dx fs,x=.ref a/\H2 a=some (.ins C dx fs)/\Cls K C/\eR K C f/\fs.length<1000/\
 D.nx σ (upd H2 a (.ins C dx (gK f y fs)))
section
variable {X:Cx}{o e value:Expr}{f:Str}{pos pos' tpos:Pos}{ta tv:TE}
theorem cJ(he:PE X e ta)(hb:attributeBase e f X.env (eval e X.env)=eval e X.env):PE X (.Attribute e f pos) (Ve X.K ta f):=by intro kb s σ H Q I h;refine Gu hb (ck (he kb s σ H _ I h) fun u s1 ⟨x,H1,I1,rx,a,C,dx,fs,v,ex,ea,c,n,l,q⟩=>?_);subst ex;obtain rfl:u=Value.ref a:=rx;exact xg I1 ea c n l fun u' s2 I2 ru=>⟨v,H1,I2,ru,q⟩
theorem gL(ha:PE X o ta)(hv:PE X value tv)(hs:swapsWith value (some (.Attribute o f pos')) pos.line X.env=pure false):PS X (.Assign [.Attribute o f pos'] value pos) (Vf X.K ta tv f):=by intro kb s σ H D I h;refine plainObj_wpAny_Assign_Attribute (ck (hv kb s σ H _ I h) fun u s1 ⟨y,H1,I1,ry,q⟩=>ck (ha kb s1 σ H1 _ I1 q) fun ov s2 ⟨x,H2,I2,rx,a,C,dx,fs,ex,ea,c,n,l,q2⟩=>?_) hs;subst ex;obtain rfl:ov=Value.ref a:=rx;exact xh I2 ea c n l ry fun s3 I3=>⟨σ,_,I3,q2⟩
variable {kb:List (Addr×Obj)}{σ:St}{H:Hp}{s:Shared}{A:Around}{E:Value->Shared->Prop}{Q:Value->Shared->Prop}{c:Value}{b:Bool}
inductive iu(K:i8)(H:Hp):V->Value->Prop where
 | non:iu K H .non (.type "NoneType")
 | bl (x:Bool):iu K H (.bl x) (.type "bool")
 | int (i:Int):iu K H (.int i) (.type "int")
 | str (x:Str):iu K H (.str x) (.type "str")
 | flt (x:UInt64):iu K H (.flt x) (.type "float")
 | lst {a:Addr} {xs:List V} (e:H a=some (.lst xs)):iu K H (.ref a) (.type "list")
 | jr {a:Addr} {o:Obj} {xs:List V} (e:H a=some (.jr o (.lst xs))):iu K H (.ref a) (.type "list")
 | tup {a:Addr} {xs:List V} (e:H a=some (.tup xs)):iu K H (.ref a) (.type "tuple")
 | dK {a:Addr} {kvs:List (Key×V)} (e:H a=some (.dK kvs)):iu K H (.ref a) (.type "dict")
 | dT {a:Addr} {kvs:List (List Key×V)} (e:H a=some (.dT kvs)):iu K H (.ref a) (.type "dict")
 | ins {a C dx:Addr} {fs:List (Str×V)} (e:H a=some (.ins C dx fs)) (cl:Cls K C) (ha:ma K (.ref C) "__class__"=some (some (.builtin "object.__class__")))
   (hn:PySem.W.specialIn K (.builtin "object.__class__") "__get__"=some (some (.builtin "getset_descriptor.__get__"))) (htk:PySem.W.takesIn K (.builtin "object.__class__")=some true)
   (hm:PySem.W.mroIn K C (.type "object")=some true):iu K H (.ref a) (.ref C)
theorem Az{x:V}{u t:Value}(I:Inv X kb σ H s)(rx:RelV x u)(ty:iu X.K H x t)(e:PySem.W.kitOne X.K t c=some b)(h:∀tk,Q (.bool b) {s with toks:=tk}):
  wpAny (model X.prog X.w) A (call (.builtin "isinstance") [u,c]) Q E s:=by
 cases ty with
 | non=>cases (show u=Value.none from rx);exact PySem.W.kia_one PySem.W.kitx_none I.jF True.intro e (fun z=>nomatch z) h
 | bl y=>cases (show u=Value.bool y from rx);exact PySem.W.kia_one PySem.W.kitx_bool I.jF True.intro e (fun z=>nomatch z) h
 | int i=>obtain⟨t,q⟩:=(show ∃t,u=Value.int i t from rx);cases q;exact PySem.W.kia_one PySem.W.kitx_int I.jF True.intro e (fun z=>nomatch z) h
 | str y=>obtain⟨t,q⟩:=(show ∃t,u=Value.str y t from rx);cases q;exact PySem.W.kia_one PySem.W.kitx_str I.jF True.intro e (fun z=>nomatch z) h
 | flt y=>obtain⟨t,q⟩:=(show ∃t,u=Value.float y t from rx);cases q;exact PySem.W.kia_one PySem.W.kitx_float I.jF True.intro e (fun z=>nomatch z) h
 | @lst a xs ea=>
  cases (show u=Value.ref a from rx);obtain⟨_,_,n,_,h1⟩:=(show bu X.prog X.w H s.heap a (.lst xs)from I.hok a _ ea);exact PySem.W.kia_one PySem.W.kitx_list I.jF ⟨_,h1,rfl⟩ e (fun z=>nomatch z) h
 | @jr a ob xs ea=>
  cases (show u=Value.ref a from rx);obtain⟨_,_,_,n,_,h1⟩:=(show bu X.prog X.w H s.heap a (.jr ob (.lst xs))from I.hok a _ ea);exact PySem.W.kia_one PySem.W.kitx_list I.jF ⟨_,h1,rfl⟩ e (fun z=>nomatch z) h
 | @tup a xs ea=>
  cases (show u=Value.ref a from rx);obtain⟨_,_,_,p⟩:=(show bu X.prog X.w H s.heap a (.tup xs)from I.hok a _ ea);obtain⟨o,h1,h2,_⟩:=p;exact PySem.W.kia_one PySem.W.kitx_tuple I.jF ⟨o,h1,h2⟩ e (fun z=>nomatch z) h
 | @dK a kvs ea=>
  cases (show u=Value.ref a from rx);obtain⟨_,_,vs,_,p⟩:=(show bu X.prog X.w H s.heap a (.dK kvs)from I.hok a _ ea);obtain⟨o,es,ep,h1,h2,_⟩:=p;exact PySem.W.kia_one PySem.W.kitx_dict I.jF ⟨o,h1,h2.1⟩ e (fun z=>nomatch z) h
 | @dT a kvs ea=>
  cases (show u=Value.ref a from rx);obtain⟨_,_,xs,_,o,es,ep,h1,h2,_⟩:=(show bu X.prog X.w H s.heap a (.dT kvs)from I.hok a _ ea);exact PySem.W.kia_one PySem.W.kitx_dict I.jF ⟨o,h1,h2.1⟩ e (fun z=>nomatch z) h
 | @ins a C dx fs ea cl ha hn htk hm=>
  cases (show u=Value.ref a from rx);obtain⟨mA,O,_⟩:=oy I.hok ea;obtain⟨od,J,_⟩:=O.look;exact PySem.W.kia_one (PySem.W.kitx_own (cl.get _) cl.hd ha hn htk hm) I.jF J e (fun z=>nomatch z) h
structure dS(k:Nat)(A:Around):Prop where
 hd:A.handled=none
 dp:A.depth+3*k+5<recursionLimit
 un:A.units+16*k+200<cLine
theorem dS.mono{j k:Nat}{A:Around}(r:dS k A)(h:j<=k):dS j A:=⟨r.hd,by have:=r.dp;omega,by have:=r.un;omega⟩
theorem dS.deeper{k:Nat}{A:Around}(r:dS (k+1) A)(env:Env):dS k (A.deeper env):=
 ⟨r.hd,by have:=r.dp;show A.depth+1+3*k+5<_;omega,by have:=r.un;show A.units+3+16*k+200<_;omega⟩
theorem xj{A:Around}{C:Addr}{us:List Value}{kw:List (Str×Value)}:(A.under (.builtin "type.__call__" ⟨.ref C::us,kw⟩)).depth=A.depth+1:=by first | rfl | simp[Around.under,Code.weight,Code.isCreation,Code.isGuard,Code.isCaller,Code.frames,Code.isFrame,guardIds]
theorem xk{A:Around}{C:Addr}{us:List Value}{kw:List (Str×Value)}:(A.under (.builtin "type.__call__" ⟨.ref C::us,kw⟩)).units=A.units+1:=by first | rfl | simp[Around.under,Code.cUnits,Code.frames,Code.isFrame]
theorem dS.make{k:Nat}{A:Around}(r:dS (k+1) A)(C:Addr)(us:List Value)(kw:List (Str×Value)):dS k (A.under (.builtin "type.__call__" ⟨.ref C::us,kw⟩)):=
 ⟨r.hd,by have:=r.dp;rw[xj];omega,by have:=r.un;rw[xk];omega⟩
theorem dS.depth{k:Nat}{A:Around}(r:dS k A):A.depth<recursionLimit:=by have:=r.dp;omega
theorem dS.units{k:Nat}{A:Around}(r:dS k A):A.units+64<cLine:=by have:=r.un;omega
theorem dS.xl{k:Nat}{A:Around}(r:dS k A):A.units<cLine:=by have:=r.un;omega
def CO:TA:=fun _ H Q=>Q [] H
def CP(ta:TE)(tr:TA):TA:=fun σ H Q=>ta σ H fun x H1=>tr σ H1 fun xs H2=>Q (x::xs) H2
variable {es:List Expr}{te:TE}{t:TA}
theorem aj:PA X [] CO:=fun _ _ _ _ H Q I h=>Calls.spliced_nil ⟨[],H,I,.nil,h⟩
theorem ae(ha:PE X e te)(hr:PA X es t)(hs:starEach (e::es) X.env=(false,eval e X.env)::starEach es X.env:=by rfl):PA X (e::es) (CP te t):=by intro pos kb s σ H Q I h;rw[hs];show wpAny _ _ (spliced ((false,eval e X.env)::backTo pos (starEach es X.env))) _ _ s;refine Calls.spliced_cons (ck (ha kb s σ H _ I h) fun u s1 ⟨x,H1,I1,r1,q1⟩=>?_);exact ck (hr pos kb s1 σ H1 _ I1 q1) fun us s2 ⟨xs,H2,I2,r2,q2⟩=>⟨x::xs,H2,I2,.cons r1 r2,q2⟩
def K9(t:TA):TE:=fun σ H Q=>t σ H fun xs H1=>xs.length<=fw/\∀p,H1 p=none->Q (.ref p) (upd H1 p (.tup xs))
def Gv(t:TA):TE:=fun σ H Q=>t σ H fun xs H1=>xs.length<=fw/\∀p,H1 p=none->Q (.ref p) (upd H1 p (.lst xs))
theorem aZ{x1}(h:PA X es t):PE X (.Tuple es x1 pos) (K9 t):=by intro kb s σ H Q I hq;refine wpAny_Tuple_spliced (ck (h pos kb s σ H _ I hq) fun us s1 ⟨xs,H1,I1,r,z,q⟩=>⟨by rw[<-r.length];exact z,?_⟩);have hf:H1 s1.heap.objs.size=none:=I1.hok.fresh (mf _);refine⟨.ref s1.heap.objs.size,upd H1 s1.heap.objs.size (.tup xs),I1.laid (t':=s1.toks) (fun b u e=>gs _ e) (mf _) ?_,rfl,q _ hf⟩;exact⟨z,us,r,⟨_,gv _ rfl,rfl,_,rfl⟩⟩
theorem dD(h:PA X es t):PE X (.List es pos) (Gv t):=by intro kb s σ H Q I hq;refine wpAny_List_spliced (ck (h pos kb s σ H _ I hq) fun us s1 ⟨xs,H1,I1,r,z,q⟩=>⟨by rw[<-r.length];exact z,?_⟩);have hf:H1 s1.heap.objs.size=none:=I1.hok.fresh (mf _);refine⟨.ref s1.heap.objs.size,upd H1 s1.heap.objs.size (.lst xs),I1.laid (t':=s1.toks) (fun b u e=>gs _ e) (mf _) ?_,rfl,q _ hf⟩;exact⟨z,us,0,r,gv _ rfl⟩
end
abbrev Sp:=List V->Hp->VK->XK->Prop
abbrev AA:=List Env->Hp->Shared->XK->Value->Shared->Prop
structure xm(P:Program)(w:World)(K:i8)(mg:Str->Option Value)(base:Heap)(A:Around)(outer:List Env)(s:Shared)(H:Hp):Prop where
 frames:A.frames=some outer
 mod:Mod K mg base
 bs:∀b o,base.get? b=some o->s.heap.get? b=some o/\H b=none
 Cj:base.objs.size<=s.heap.objs.size
 jT:s.heap.FunFrames base outer
 JA:∀b∈frs outer,H b=none
 hok:iT P w H s.heap
 bare:AllBare s.gens
def CE(outer:List Env)(P:Program)(w:World)(H:Hp)(s:Shared)(Q:VK)(u:Value)(s':Shared):Prop :=
 ∃v H',s'.os=s.os/\AllBare s'.gens/\Un (frs outer) [] H H' s.heap s'.heap/\iT P w H' s'.heap/\RelV v u/\Q v H'
def CR(CX:AA)(outer:List Env)(P:Program)(w:World)(H:Hp)(s:Shared)(Q:VK)(E:XK)(r:Result)(s':Shared):Prop :=
 match r with
 | .ok (.ret u)=>CE outer P w H s Q u s'
 | .ok _=>False
 | .error e=>CX outer H s E e s'
structure aL(P:Program)(w:World)(K:i8)(mg:Str->Option Value)(base:Heap)(CX:AA)(k:Nat)(f:Addr)(fd:fo)(ps:List Str)(sp:Sp):Prop where
 len:∀vs H Q E,sp vs H Q E->vs.length=ps.length
 run:∀(A:Around) (outer:List Env) (s:Shared) (H:Hp) (args:Args) (us:List Value) (vs:List V) (Q:VK) (E:XK),dS k A->xm P w K mg base A outer s H->BindsTo s fd args (ps.zip us)->Vals vs us->sp vs H Q E->
  codeAny (model P w) A (.call (.ref f) args) (CR CX outer P w H s Q E) s
theorem xm.make{P:Program}{w:World}{K:i8}{mg:Str->Option Value}{base:Heap}{A:Around}{outer:List Env}{s:Shared}{H:Hp}(e:xm P w K mg base A outer s H)(C:Addr)(us:List Value)(kw:List (Str×Value)):
  xm P w K mg base (A.under (.builtin "type.__call__" ⟨.ref C::us,kw⟩)) outer s H:=⟨by first | exact e.frames | (simpa[Around.under,Code.envs,Code.isFrame,pushEnvs] using e.frames),e.mod,e.bs,e.Cj,e.jT,e.JA,e.hok,e.bare⟩
section
variable {X:Cx}{kb:List (Addr×Obj)}{σ:St}{H:Hp}{s s':Shared}
theorem Inv.env0(I:Inv X kb σ H s):xm X.prog X.w X.K X.mg X.base X.A X.stack s H :=
 ⟨I.ok.frames,I.ok.mod,I.bs,mv I.ok.Cj I.sz,I.stack,I.ke,I.hok,I.bare⟩
theorem Inv.after{Q:VK}{u:Value}(I:Inv X kb σ H s)(h:CE X.stack X.prog X.w H s Q u s'):EP X kb σ Q u s':=by obtain⟨v,H',os,bare,un,hok,r,q⟩:=h;obtain⟨hh,g,d,t,os'⟩:=s';obtain rfl:os'=s.os:=os;exact⟨v,H',I.call (h':=hh) (g':=g) (d':=d) (t':=t) (ch:=[]) un hok bare (fun b z=>absurd z (by simp)),r,q⟩
def P8(sp:Sp)(jv:List V)(E:XK)(t:TA):TE:=fun σ H Q=>t σ H fun vs H1=>sp (vs++jv) H1 Q E
def JJ(C:Addr)(m:Str)(sp:Sp)(jv:List V)(E:XK)(ta:TE)(t:TA):TE:=fun σ H Q=>ta σ H fun x H1=>∃a dx fs,x=.ref a/\H1 a=some (.ins C dx fs)/\fs.lookup m=none/\
 t σ H1 fun vs H2=>sp (x::(vs++jv)) H2 Q E
def JK(C:Addr)(sp:Sp)(jv:List V)(E:XK)(t:TA):TE:=fun σ H Q=>t σ H fun vs H1=>∀x dx,H1 x=none->H1 dx=none->dx≠x->
 sp (.ref x::(vs++jv)) (upd (upd H1 dx (.own x)) x (.ins C dx [])) (fun v H2=>v=.non/\Q (.ref x) H2) E
def Binds(K:i8)(fd:fo)(ps:List Str)(ds:List Value):Prop :=
 ∀(s:Shared) (us:List Value),K.In s.heap->(us++ds).length=ps.length->BindsTo s fd ⟨us,[]⟩ (ps.zip (us++ds))
theorem Binds.all{K:i8}{fd:fo}{ps:List Str}(h:∀us:List Value,us.length=ps.length->bindArgs fd ⟨us,[]⟩=pure (ps.zip us)):Binds K fd ps []:=fun s us _ hl=>by rw[List.append_nil]at hl ⊢;exact .of_eq (h us hl)
def Passes(CX:AA)(X:Cx)(E:XK):Prop:=∀(kb:List (Addr×Obj)) (σ:St) (H:Hp) (s:Shared) (e:Value) (s':Shared),Inv X kb σ H s->CX X.stack H s E e s'->X.xe e s'
variable {CX:AA}{k:Nat}{f C:Addr}{fd:fo}{ps:List Str}{sp:Sp}{jv:List V}{ds:List Value}{E:XK}{x m:Str}{p pos apos:Pos}{e o:Expr}{es:List Expr}{ta:TE}{t:TA}
theorem xq{kb:List (Addr×Obj)}{σ:St}{H:Hp}{s:Shared}{Q:VK}{us:List Value}{vs:List V}(F:aL X.prog X.w X.K X.mg X.base CX k f fd ps sp)(hr:dS k X.A)(hb:Binds X.K fd ps ds)(hd:Vals jv ds)(hx:Passes CX X E)
  (I:Inv X kb σ H s) (r:Vals vs us) (h:sp (vs++jv) H Q E):wpAny (model X.prog X.w) X.A (call (.ref f) us) (EP X kb σ Q) X.xe s:=by
 have r2:Vals (vs++jv) (us++ds):=r.append hd;have hl:(us++ds).length=ps.length:=by rw[<-r2.length];exact F.len _ _ _ _ h
 refine wpAny_call (codeAny_mono (F.run X.A X.stack s H ⟨us,[]⟩ (us++ds) (vs++jv) Q E hr I.env0 (hb s us I.jF hl) r2 h) fun r s' hq=>?_);cases r with
 | error e=>exact hx kb σ H s e s' I hq
 | ok fl=>
  cases fl with
  | ret u=>exact I.after hq
  | next=>exact False.elim hq
  | brk=>exact False.elim hq
  | cont=>exact False.elim hq
theorem aC(F:aL X.prog X.w X.K X.mg X.base CX k f fd ps sp)(hr:dS k X.A)(hg:Gl X x)(hm:X.mg x=some (.ref f))(hk:PySem.W.keepIn X.K (.ref f)=true)(hb:Binds X.K fd ps ds)(hd:Vals jv ds)(hx:Passes CX X E)
  (ha:PA X (e::es) t) (hdb:(x==("__debug__": Str))=false:=by decide) (he:starEach (e::es) X.env=(false,eval e X.env)::starEach es X.env:=by rfl) (hpl:(backTo pos (starEach es X.env)).any (·.1)=false:=by rfl):
  PE X (.Call (.Name x p) (e::es) [] pos) (P8 sp jv E t):=by
 intro kb s σ H Q I h;refine wpAny_Call_Name_kw (il I hg hm ?_ hdb);refine PySem.W.callWith_K (h₀:=X.base) I.ok.mod.KP hk (ck (ha pos kb s σ H _ I h) fun us s1 ⟨vs,H1,I1,r,q⟩=>⟨I1.jF,?_⟩) he hpl;exact xq F hr hb hd hx I1 r q
theorem sQ{pl:Sem Bool}(he:PE X o ta)(c:Cls X.K C)(hm:Meth X.K C m f)(F:aL X.prog X.w X.K X.mg X.base CX k f fd ps sp)(hr:dS k X.A)(hb:Binds X.K fd ps ds)(hd:Vals jv ds)(hx:Passes CX X E)(ha:PA X (e::es) t)
  (hst:starEach (e::es) X.env=(false,eval e X.env)::starEach es X.env:=by rfl) (hpl:(backTo pos (starEach es X.env)).any (·.1)=false:=by rfl)
  (ht:eval (.Call (.Attribute o m apos) (e::es) [] pos) X.env=(do
   let ov <-eval o X.env
   standAt apos.atName
   let (f,first) <-holding [ov] (getMethod ov m pl)
   callWith pos f first (backTo pos (starEach (e::es) X.env)) (backToKw pos (keywordEach [] X.env))):=by rfl):
  PE X (.Call (.Attribute o m apos) (e::es) [] pos) (JJ C m sp jv E ta t):=by
 intro kb s σ H Q I h;refine PySem.W.methodCall_KW (pl:=pl) (ck (he kb s σ H _ I h) fun u s1 ⟨x,H1,I1,rx,a,dx,fs,ex,ea,l,q⟩=>?_) ht;subst ex;obtain rfl:u=Value.ref a:=rx;refine o9 I1 ea c hm l ?_;refine PySem.W.callWith_K (first:=[.ref a]) (h₀:=X.base) I.ok.mod.KP hm.kp (ck (ha pos kb s1 σ H1 _ I1 q) fun us s2 ⟨vs,H2,I2,r,q2⟩=>⟨I2.jF,?_⟩) hst hpl;exact xq (us:=.ref a::us) (vs:=.ref a::vs) F hr hb hd hx I2 (.cons rfl r) q2
theorem CQ{pl:Sem Bool}(he:PE X o ta)(c:Cls X.K C)(hm:Meth X.K C m f)(F:aL X.prog X.w X.K X.mg X.base CX k f fd ps sp)(hr:dS k X.A)(hb:Binds X.K fd ps ds)(hd:Vals jv ds)(hx:Passes CX X E)
  (ht:eval (.Call (.Attribute o m apos) [] [] pos) X.env=(do
   let ov <-eval o X.env
   standAt apos.atName
   let (f,first) <-holding [ov] (getMethod ov m pl)
   callWith pos f first (backTo pos (starEach [] X.env)) (backToKw pos (keywordEach [] X.env))):=by rfl):
  PE X (.Call (.Attribute o m apos) [] [] pos) (JJ C m sp jv E ta CO):=by
 intro kb s σ H Q I h;refine PySem.W.methodCall_KW (pl:=pl) (ck (he kb s σ H _ I h) fun u s1 ⟨x,H1,I1,rx,a,dx,fs,ex,ea,l,q⟩=>?_) ht;subst ex;obtain rfl:u=Value.ref a:=rx;refine o9 I1 ea c hm l ?_;exact PySem.W.callWith_K0 (first:=[.ref a]) I1.jF hm.kp (xq (us:=[.ref a]) (vs:=[.ref a]) F hr hb hd hx I1 (.cons rfl .nil) q)
structure Mk(K:i8)(C f:Addr):Prop where
 makes:PySem.W.makesIn K C=true
 init:ma K (.ref C) "__init__"=some (some (.ref f))
 fn:PySem.W.isFn K (.ref f)=true
 kp:PySem.W.keepIn K (.ref C)=true
theorem uZ{kb:List (Addr×Obj)}{σ:St}{H:Hp}{s:Shared}{Q:VK}{us:List Value}{vs:List V}(M:Mk X.K C f)(F:aL X.prog X.w X.K X.mg X.base CX k f fd ps sp)(hr:dS (k+1) X.A)(hb:Binds X.K fd ps ds)(hd:Vals jv ds)
  (hx:Passes CX X E) (I:Inv X kb σ H s) (r:Vals vs us)
  (h:∀x dx,H x=none->H dx=none->dx≠x->sp (.ref x::(vs++jv)) (upd (upd H dx (.own x)) x (.ins C dx [])) (fun v H2=>v=.non/\Q (.ref x) H2) E):
  wpAny (model X.prog X.w) X.A (call (.ref C) us) (EP X kb σ Q) X.xe s:=by
 have hq:=h (s.heap.objs.size+1) s.heap.objs.size (I.hok.fresh (Nat.le_succ _)) (I.hok.fresh (mf _)) (mi (Nat.lt_succ_self _));have I2:=Inv.made (C:=C) I;have r2:Vals (V.ref (s.heap.objs.size+1)::(vs++jv)) (Value.ref (s.heap.objs.size+1)::(us++ds)):=.cons rfl (r.append hd);have hl:(Value.ref (s.heap.objs.size+1)::us++ds).length=ps.length:=by have e:=r2.length;rw[F.len _ _ _ _ hq]at e;exact e.symm
 refine wpAny_call (CN (f:=f) I.jF M.makes M.init (beq_iff_eq.mp M.fn) (codeAny_mono (F.run _ X.stack _ _ ⟨Value.ref (s.heap.objs.size+1)::us,[]⟩ (Value.ref (s.heap.objs.size+1)::(us++ds)) _ _ E (hr.make C us [])
  (I2.env0.make C us []) (hb _ (Value.ref (s.heap.objs.size+1)::us) I2.jF hl) r2 hq) fun r s' hq'=>?_))
 cases r with
 | error e=>exact hx kb σ _ _ e s' I2 hq'
 | ok fl=>
  cases fl with
  | ret u=>
   obtain⟨v,H',I3,rv,ev,q3⟩:=I2.after hq';subst ev;exact⟨rv,⟨V.ref (s.heap.objs.size+1),H',I3,rfl,q3⟩⟩
  | next=>exact False.elim hq'
  | brk=>exact False.elim hq'
  | cont=>exact False.elim hq'
theorem zt(M:Mk X.K C f)(F:aL X.prog X.w X.K X.mg X.base CX k f fd ps sp)(hr:dS (k+1) X.A)(hg:Gl X x)(hm:X.mg x=some (.ref C))(hb:Binds X.K fd ps ds)(hd:Vals jv ds)(hx:Passes CX X E)
  (ha:PA X (e::es) t) (hdb:(x==("__debug__": Str))=false:=by decide) (he:starEach (e::es) X.env=(false,eval e X.env)::starEach es X.env:=by rfl) (hpl:(backTo pos (starEach es X.env)).any (·.1)=false:=by rfl):
  PE X (.Call (.Name x p) (e::es) [] pos) (JK C sp jv E t):=by
 intro kb s σ H Q I h;refine wpAny_Call_Name_kw (il I hg hm ?_ hdb);refine PySem.W.callWith_K (h₀:=X.base) I.ok.mod.KP M.kp (ck (ha pos kb s σ H _ I h) fun us s1 ⟨vs,H1,I1,r,q⟩=>⟨I1.jF,?_⟩) he hpl;exact uZ M F hr hb hd hx I1 r q
theorem CT(M:Mk X.K C f)(F:aL X.prog X.w X.K X.mg X.base CX k f fd ps sp)(hr:dS (k+1) X.A)(hg:Gl X x)(hm:X.mg x=some (.ref C))(hb:Binds X.K fd ps ds)(hd:Vals jv ds)(hx:Passes CX X E)
  (hdb:(x==("__debug__": Str))=false:=by decide):PE X (.Call (.Name x p) [] [] pos) (JK C sp jv E CO):=by
 intro kb s σ H Q I h;refine wpAny_Call_Name_kw (il I hg hm ?_ hdb);exact PySem.W.callWith_K0 I.jF M.kp (uZ (us:=[]) M F hr hb hd hx I .nil h)
variable {ks:List Str}{kpos:Pos}{kws:List Keyword}{te:TE}{tk:TA}{nm:Option Str}{g:List Value->List Value->List Value}{gV:List V->List V->List V}
end
structure aI(N P:List Str)(sc:Scope):Prop where
 kind:sc.kind=.function
 co:sc.isCoroutine=false
 gen:sc.isGenerator=false
 nd:N.Nodup
 pre:N.take P.length=P
 par:∀x∈P,sc.names.lookup x=some .local\/sc.names.lookup x=some .cell
 La:∀y∈sc.names,y.2≠.free
theorem rN{kindOf:Str->Option NameKind}{x:Str}:∀{binds:List (Str×Value)} {m:Str->Option Value},(∀v,(x,v)∉binds)->bindL kindOf binds m x=m x
 | [],_,_=>rfl
 | (n,v)::r,m,h=>by
  unfold bindL;rw[rN fun w hw=>h w (List.mem_cons_of_mem _ hw)];split
  ·have:x≠n:=by rintro rfl;exact h v List.mem_cons_self
   simp[this]
  ·rfl
theorem rO{kindOf:Str->Option NameKind}{x:Str}:∀{binds:List (Str×Value)} {m:Str->Option Value},(∀v,(x,v)∉binds)->bindC kindOf binds m x=m x
 | [],_,_=>rfl
 | (n,v)::r,m,h=>by
  unfold bindC;rw[rO fun w hw=>h w (List.mem_cons_of_mem _ hw)];split
  ·rfl
  ·have:x≠n:=by rintro rfl;exact h v List.mem_cons_self
   simp[this]
theorem rP{kindOf:Str->Option NameKind}{x:Str}{v:Value}:∀{P:List Str} {vs:List Value} {i:Nat} {m:Str->Option Value},P.Nodup->P[i]? =some x->vs[i]? =some v->kindOf x=some .local->
  bindL kindOf (P.zip vs) m x=some v
 | [],_,_,_,_,h,_,_=>by simp at h
 | _::_,[],_,_,_,_,h,_=>by simp at h
 | p::P,w::vs,0,m,nd,h1,h2,hk=>by
  simp at h1 h2;subst h1;subst h2;show bindL kindOf ((p,w)::P.zip vs) m p=_;unfold bindL;rw[rN fun v hv=>(List.nodup_cons.mp nd).1 (List.of_mem_zip hv).1,if_pos hk];simp
 | p::P,w::vs,i+1,m,nd,h1,h2,hk=>by show bindL kindOf ((p,w)::P.zip vs) m x=_;unfold bindL;exact rP (i:=i) (List.nodup_cons.mp nd).2 (by simpa using h1) (by simpa using h2) hk
theorem rQ{kindOf:Str->Option NameKind}{x:Str}{v:Value}:∀{P:List Str} {vs:List Value} {i:Nat} {m:Str->Option Value},P.Nodup->P[i]? =some x->vs[i]? =some v->kindOf x≠some .local->
  bindC kindOf (P.zip vs) m x=some v
 | [],_,_,_,_,h,_,_=>by simp at h
 | _::_,[],_,_,_,_,h,_=>by simp at h
 | p::P,w::vs,0,m,nd,h1,h2,hk=>by
  simp at h1 h2;subst h1;subst h2;show bindC kindOf ((p,w)::P.zip vs) m p=_;unfold bindC;rw[rO fun v hv=>(List.nodup_cons.mp nd).1 (List.of_mem_zip hv).1,if_neg hk];simp
 | p::P,w::vs,i+1,m,nd,h1,h2,hk=>by show bindC kindOf ((p,w)::P.zip vs) m x=_;unfold bindC;exact rQ (i:=i) (List.nodup_cons.mp nd).2 (by simpa using h1) (by simpa using h2) hk
def start(N:List Str)(vs:List V):St:=vs.map some++List.replicate (N.length-vs.length) none
def gM(CX:AA)(P:Program)(w:World)(K:i8)(mg:Str->Option Value)(base:Heap)(N:List Str)(qual:Str)(scope:Scope)(f:Addr)(cd:Value)(A:Around)(outer:List Env)(s:Shared)(H:Hp)(E:XK):Cx where
 prog:=P
 w:=w
 K:=K
 mg:=mg
 base:=base
 A:=A.deeper (envOfC qual scope s.heap.objs.size f cd)
 N:=N
 s₀:=s
 H₀:=H
 env:=envOfC qual scope s.heap.objs.size f cd
 outer:=outer
 stack:=envOfC qual scope s.heap.objs.size f cd::outer
 ex:=[]
 calm:=true
 fn:=fun _=>true
 pn:=[]
 xe:=fun e s'=>wpAny (model P w) (A.deeper (envOfC qual scope s.heap.objs.size f cd)) (leaving (envOfC qual scope s.heap.objs.size f cd) e) (fun _ s''=>CX outer H s E e s'') (fun e' s''=>CX outer H s E e' s'') s'
theorem u7{sc:Scope}{n:Nat}{x:Str}(h:sc.names.lookup x=some .cell):∃c,(cellsFrom n sc.names []).lookup x=some c:=by have q:=PySem.W.cellsFrom_some sc.names n [] (.inl h);exact Option.isSome_iff_exists.mp q
theorem AB{CX:AA}{P:Program}{w:World}{K:i8}{mg:Str->Option Value}{base:Heap}{N ps:List Str}{qual:Str}{scope:Scope}{f:Addr}{cd:Value}{A:Around}{outer:List Env}{s s1:Shared}{H:Hp}{E:XK}{us:List Value}{vs:List V}
  (S:aI N ps scope) (hd:A.handled=none) (e0:xm P w K mg base A outer s H) (hl:vs.length=ps.length) (r:Vals vs us)
  (x:InCallC s s.heap.objs.size (bindL (envOfC qual scope s.heap.objs.size f cd).kindOf (ps.zip us) fun _=>none) (cellsFrom (s.heap.objs.size+1) scope.names []) (bindC (envOfC qual scope s.heap.objs.size f cd).kindOf (ps.zip us) fun _=>none) s1):
  Inv (gM CX P w K mg base N qual scope f cd A outer s H E) [] (start N vs) H s1:=by
 have hpl:ps.length<=N.length:=by have:=congrArg List.length S.pre;rw[List.length_take]at this;omega
 obtain⟨h1,tk,rfl,hk⟩:=x.done;have P9:∀b:Addr,b∉(gM CX P w K mg base N qual scope f cd A outer s H E).ex:=fun b z=>absurd (show b∈([]:List Addr)from z) (by simp)
 refine⟨⟨e0.mod,S.kind,rfl,rfl,mf _,fun y z c h1 h2=>?_,fun y hy=>?_,fun y c _ h=>?_,fun _=>hd,Around.frames_deeper e0.frames,.inr ⟨rfl,rfl⟩,fun b z=>absurd z (P9 b),e0.bs,e0.Cj,fun b _ _=>P9 b,fun b z=>absurd z (P9 b),e0.jT,e0.JA⟩,
  rfl,e0.bare,Un.kept hk,⟨_,x.toInCall.ns,fun i y v h1 h2 h3=>?_⟩,fun y c h=>⟨_,x.cell y c h⟩,e0.hok.fresh (mf _),fun y c h=>?_,fun p hp=>absurd (show p∈([]:List (Addr×Obj))from hp) (by simp),e0.hok.kept hk,?_⟩
 ·exact name_of_addr x.apart (PySem.mem_of_lookup h1) (PySem.mem_of_lookup h2)
 ·have hy:scope.names.lookup y=some .cell\/scope.names.lookup y=some .free:=hy;rcases hy with hy | hy
  ·exact u7 hy
  ·exact absurd rfl (S.La _ (PySem.mem_of_lookup hy))
 ·exact Nat.le_of_lt (x.above y c (PySem.mem_of_lookup h))
 ·have hi:i<vs.length:=by
   unfold start at h2;by_cases hi:i<vs.length
   ·exact hi
   ·rw[bc (by simpa using hi)]at h2;rw[List.getElem?_replicate]at h2;split at h2<;>cases h2
  have ha:vs[i]? =some v:=by
   unfold start at h2;rw[av (by simpa using hi),ac]at h2;cases e:vs[i]? with
   | none=>rw[e]at h2;cases h2
   | some a=>rw[e]at h2;cases h2;rfl
  obtain⟨u,hu,rv⟩:=r.get ha;have hp:ps[i]? =some y:=by rw[<-S.pre,List.getElem?_take_of_lt (by omega)];exact h1
  have ndP:ps.Nodup:=by rw[<-S.pre];exact S.nd.sublist (List.take_sublist _ _)
  refine⟨u,rv,?_⟩;rcases S.par y (al hp)with k | k
  ·exact .inl ⟨k,rP ndP hp hu k⟩
  ·obtain⟨c,e⟩:=u7 (n:=s.heap.objs.size+1) k;refine .inr ⟨.inl k,c,e,?_⟩;have q:=x.cell y c e;rw[rQ ndP hp hu (by show scope.names.lookup y≠_;rw[k];decide)]at q;exact q
 ·exact e0.hok.fresh (Nat.le_of_lt (x.above y c (PySem.mem_of_lookup h)))
 ·unfold start;show _=N.length;rw[ar,List.length_map,List.length_replicate];omega
theorem JL{CX:AA}{P:Program}{w:World}{K:i8}{mg:Str->Option Value}{base:Heap}{k:Nat}{f:Addr}{name qual:Str}{params:Arguments}{body:List Stmt}{scope:Scope}{dV kV doc pm Lq ct oc:Value}{an od:Option Addr}
  {osl:Array (Option Value)} {N ps:List Str} {sp:Sp} (lk:K.lookup f=some ⟨oc,od,.func (PySem.W.fnOf name qual params body scope dV kV doc pm an Lq ct),osl⟩) (hcd:PySem.W.codeIn K Lq qual=true) (S:aI N ps scope)
  (len:∀vs H Q E,sp vs H Q E->vs.length=ps.length)
  (hbody:∀(A:Around) (outer:List Env) (s:Shared) (H:Hp) (vs:List V) (Q:VK) (E:XK),dS k (A.deeper (envOfC qual scope s.heap.objs.size f Lq))->sp vs H Q E->
   ∃t,qO (gM CX P w K mg base N qual scope f Lq A outer s H E) body t/\t {nx:=fun _ H'=>Q .non H',rt:=Q} (start N vs) H):
  aL P w K mg base CX (k+1) f (PySem.W.fnOf name qual params body scope dV kV doc pm an Lq ct) ps sp:=by
 refine⟨len,fun A outer s H args us vs Q E hr e0 hb r hsp=>?_⟩;have hl:=len _ _ _ _ hsp;have KX:K.In s.heap:=e0.mod.KP.keeps fun b o e=>(e0.bs b o e).1;have lim:s.heap.NoLimit:=e0.mod.nolimit.keeps fun b o e=>(e0.bs b o e).1;have hkind:∀y∈ps.zip us,scope.names.lookup y.1=some .local\/(scope.names.lookup y.1=some .cell/\((cellsFrom (s.heap.objs.size+1) scope.names []).lookup y.1).isSome=true):=fun⟨n,v⟩ hy=>by
  rcases S.par n (List.of_mem_zip hy).1 with q | q
  ·exact .inl q
  ·exact .inr ⟨q,PySem.W.cellsFrom_some _ _ _ (.inl q)⟩
 refine codeAny_call_function hr.depth (KX _ _ lk) rfl S.co S.gen rfl (PySem.W.codeRec_of KX hcd) (hb _ _ _ _ ?_);refine wpAny_newFunctionEnv_cells S.kind hkind fun env he s1 x=>?_;subst he;refine⟨lim.keeps x.toInCall.keep,codeAny_func ?_⟩;obtain⟨t,ht,hq⟩:=hbody A outer s H vs Q E (hr.deeper _) hsp;have I:Inv (gM CX P w K mg base N qual scope f Lq A outer s H E) [] (start N vs) H s1:=AB S hr.hd e0 hl r x;refine ge (ht [] s1 (start N vs) H _ I hq) (fun fl s' hs=>?_) fun e s' hs=>hs;have fin:∀{σ':St} {H':Hp} {v:V} {u:Value},Inv (gM CX P w K mg base N qual scope f Lq A outer s H E) [] σ' H' s'->RelV v u->Q v H'->CE outer P w H s Q u s' :=
  fun {σ' H' v u} J rv q=>⟨v,H',J.os,J.bare,J.base,J.hok,rv,q⟩
 cases fl with
 | ret u=>
  obtain⟨v,σ',H',J,rv,q⟩:=hs;exact fin J rv q
 | next=>
  obtain⟨σ',H',J,q⟩:=hs;exact fin (v:=V.non) (u:=Value.none) J rfl q
 | brk=>
  obtain⟨_,_,_,q⟩:=hs;exact False.elim q
 | cont=>
  obtain⟨_,_,_,q⟩:=hs;exact False.elim q
section
variable {X:Cx}{x:Str}{p pos:Pos}{e:Expr}{es:List Expr}{t:TA}{id T:String}{r:List V->Hp->VK->Prop}
def tCB(r:List V->Hp->VK->Prop)(t:TA):TE:=fun σ H Q=>t σ H fun vs H1=>r vs H1 Q
theorem aG(hc:eA X (.builtin id) r)(hg:Gl X x)(hm:X.mg x=none)(hv:bootBuiltins x=some (.builtin id))(ha:PA X (e::es) t)(hn:x≠ "__name__":=by decide)(hdb:(x==("__debug__": Str))=false:=by decide)
  (he:starEach (e::es) X.env=(false,eval e X.env)::starEach es X.env:=by rfl) (hpl:(backTo pos (starEach es X.env)).any (·.1)=false:=by rfl):PE X (.Call (.Name x p) (e::es) [] pos) (tCB r t):=by
 intro kb s σ H Q I h;refine wpAny_Call_Name_kw (ip I hg hm hv ?_ hn hdb);exact PyProof.Rows.callWith_builtin1 (ck (ha pos kb s σ H _ I h) fun us s1 ⟨vs,H1,I1,r1,q1⟩=>hc kb s1 σ H1 vs us Q I1 r1 q1) he hpl
theorem bf(hc:eA X (.type T) r)(hg:Gl X x)(hm:X.mg x=none)(hv:bootBuiltins x=some (.type T))(ha:PA X (e::es) t)(hn:x≠ "__name__":=by decide)(hdb:(x==("__debug__": Str))=false:=by decide)
  (he:starEach (e::es) X.env=(false,eval e X.env)::starEach es X.env:=by rfl) (hpl:(backTo pos (starEach es X.env)).any (·.1)=false:=by rfl):PE X (.Call (.Name x p) (e::es) [] pos) (tCB r t):=by
 intro kb s σ H Q I h;refine wpAny_Call_Name_kw (ip I hg hm hv ?_ hn hdb);exact PyProof.Rows.callWith_type1 (ck (ha pos kb s σ H _ I h) fun us s1 ⟨vs,H1,I1,r1,q1⟩=>hc kb s1 σ H1 vs us Q I1 r1 q1) he hpl
end
end L2
namespace HT
open PySem PyProof.Rows
section
open PySem.SeqAt
open PySem.AutoSeq1 (wpAny_loadPart')
open PySem.MeetsSeq PySem.MeetsSeq2 PySem.MeetsSeq3
end
section
variable {prog:Program}{w:World}{A:Around}{E:Value->Shared->Prop}{s:Shared}
theorem Gw{t b:Addr}{vs ws:List Value}{Q:Value->Shared->Prop}(ht:IsTup s.heap t vs.toArray)(hb:IsTup s.heap b ws.toArray)(hv:vs≠ [])
  (h1:ws=[]->Q (.ref t) s) (h2:ws≠ []->Q (.ref s.heap.objs.size) {s with heap:=s.heap.push {cls:=.type "tuple",data:=.seq (vs++ws).toArray}})
  (hsz:vs.length+ws.length<=fw):wpAny (model prog w) A (binaryOp .Add (.ref t) (.ref b)) Q E s:=by
 obtain⟨⟨cls,dd,data,sl⟩,ho,hc,n,hd⟩:=id ht;obtain⟨⟨cls2,dd2,data2,sl2⟩,ho2,hc2,n2,hd2⟩:=id hb;simp only at hc hd hc2 hd2;subst hc hd hc2 hd2;have e:vs.toArray++ws.toArray=(vs++ws).toArray:=by simp
 by_cases hw:ws=[]
 ·exact concat_meets ⟨_,ho,rfl⟩ ⟨_,ho2,rfl⟩ noFill_tuple_add seq_tuple_add PySem.F.slot_tuple_add PySem.F.entry_tuple_add (PySem.F.args_tuple_add_2 _ _)
   (tuple_addW1 t b vs.toArray ws.toArray n n2 dd dd2 sl sl2 (by simpa using hv) (by simp[hw])) ⟨ho,ho2,h1 hw⟩
 ·refine concat_meets ⟨_,ho,rfl⟩ ⟨_,ho2,rfl⟩ noFill_tuple_add seq_tuple_add PySem.F.slot_tuple_add PySem.F.entry_tuple_add (PySem.F.args_tuple_add_2 _ _)
   (tuple_addW2 t b vs.toArray ws.toArray n n2 dd dd2 sl sl2 (by simpa using hv) (by simpa using hw) (by rw[am,am];exact hsz)) ⟨ho,ho2,?_⟩
  rw[e];exact h2 hw
def eB(n d:Nat):Option Int->Nat
 | none=>d
 | some v=>if v<0 then (v+(n:Int)).toNat else min v.toNat n
theorem zu(n d k:Nat):eB n d (some (k:Int))=min k n:=by show(if (k:Int)<0 then ((k:Int)+(n:Int)).toNat else min (k:Int).toNat n)=min k n;rw[if_neg (by omega),nn]
theorem Lb(n d:Nat)(hd:d<=n)(o:Option Int):eB n d o<=n:=by
 cases o with
 | none=>exact hd
 | some v=>
  show(if v<0 then (v+(n:Int)).toNat else min v.toNat n)<=n;by_cases hv:v<0
  ·rw[if_pos hv];omega
  ·rw[if_neg hv];exact Nat.min_le_right _ _
theorem zv(v:Int)(n d:Nat):(if v<0 then max (v+(n:Int)) 0 else min v (n:Int))=((eB n d (some v):Nat):Int):=by
 show(if v<0 then max (v+(n:Int)) 0 else min v (n:Int))=(((if v<0 then (v+(n:Int)).toNat else min v.toNat n):Nat):Int);by_cases hv:v<0
 ·simp only[if_pos hv];omega
 ·simp only[if_neg hv];omega
theorem xr(lo hi:Option Int)(n:Nat):Builtin.Slice.sliceAdjust lo hi 1 (n:Int)=(((eB n 0 lo:Nat):Int),((eB n n hi:Nat):Int)):=by
 have h1:¬((1:Int)<0):=by omega
 unfold Builtin.Slice.sliceAdjust;simp only[h1,if_false];refine Prod.ext ?_ ?_
 ·cases lo with
  | none=>rfl
  | some v=>exact zv v n 0
 ·cases hi with
  | none=>rfl
  | some v=>exact zv v n n
theorem xt(i j:Nat):Builtin.Slice.slicePlaces (i:Int) (j:Int) 1=j-i:=by
 unfold Builtin.Slice.slicePlaces;have h1:(1:Int)>0:=by omega
 simp only[h1,if_true,Int.ediv_one];split<;>omega
theorem pe{v:Value}{o:Option Int}{Q:Option Int->Shared->Prop}(p:IsPart v o)(h:Q o s):wpAny (model prog w) A (Builtin.Slice.slicePartIndex v) Q E s:=by
 cases p with
 | none=>exact slicePart_none h
 | int i t=>exact slicePart_int h
theorem lH{sl:Addr}{vl vu:Value}{lo hi:Option Int}{n:Nat}{Q:Int×Int×Nat->Shared->Prop}(hs:s.heap.IsSliceOf sl vl vu .none)(pl:IsPart vl lo)(pu:IsPart vu hi)
  (h:Q (((eB n 0 lo:Nat):Int),1,eB n n hi-eB n 0 lo) s):wpAny (model prog w) A (Builtin.Slice.sliceApplied (.ref sl) (pure (n:Int))) Q E s:=by
 obtain⟨os,hos,hcs,hds⟩:=id hs;unfold Builtin.Slice.sliceApplied Builtin.Slice.sliceFields;refine ff (ff (wpAny_field hos hds (x:=vl) rfl (ff (wpAny_field hos hds (x:=vu) rfl (ff (wpAny_field hos hds (x:=.none) rfl (fg ?_)))))));refine ff (slicePart_none ?_);show wpAny _ _ (if ((1:Int)==0)=true then _ else _) _ _ s;rw[if_neg (by decide)];refine ff (pe pl (ff (pe pu (ff (fg ?_)))));show wpAny _ _ (match Builtin.Slice.sliceAdjust lo hi 1 (n:Int)with | (lo,hi)=>pure (lo,(1:Int),Builtin.Slice.slicePlaces lo hi 1)) _ _ s;rw[xr lo hi n];show wpAny _ _ (pure (((eB n 0 lo:Nat):Int),(1:Int),Builtin.Slice.slicePlaces ((eB n 0 lo:Nat):Int) ((eB n n hi:Nat):Int) 1)) _ _ s;rw[xt];exact fg h
theorem CU(xs:Array Value)(i k:Nat):((List.range k).filterMap fun(m:Nat)=>xs[((i:Int)+(m:Int)*1).toNat]?).toArray=((xs.toList.drop i).take k).toArray:=by
 have e:(fun(m:Nat)=>xs[((i:Int)+(m:Int)*1).toNat]?)=fun m=>xs[i+m]? :=by
  funext m;have:((i:Int)+(m:Int)*1).toNat=i+m:=by omega
  rw[this]
 rw[e];have:=pick_run xs i k;rw[List.filterMap_map]at this;have e2:((fun x=>xs[x]?)∘fun x=>i+x)=fun m=>xs[i+m]? :=rfl;rw[e2]at this;rw[this]
theorem kl{t sl:Addr}{items:Array Value}{vl vu:Value}{lo hi:Option Int}{Q:Value->Shared->Prop}(ht:IsTup s.heap t items)(hs:s.heap.IsSliceOf sl vl vu .none)(pl:IsPart vl lo)(pu:IsPart vu hi)
  (hw:¬(eB items.size 0 lo=0/\eB items.size items.size hi=items.size))
  (h:Q (.ref s.heap.objs.size) {s with heap:=s.heap.push {cls:=.type "tuple",data:=.seq ((items.toList.drop (eB items.size 0 lo)).take (eB items.size items.size hi-eB items.size 0 lo)).toArray}})
  (hsz:items.size<=fw):wpAny (model prog w) A (getItem (.ref t) (.ref sl)) Q E s:=by
 have zx:sizeOk (.seq ((items.toList.drop (eB items.size 0 lo)).take (eB items.size items.size hi-eB items.size 0 lo)).toArray):=by show((items.toList.drop (eB items.size 0 lo)).take (eB items.size items.size hi-eB items.size 0 lo)).toArray.size<=fw;rw[am,List.length_take,List.length_drop,Array.length_toList];omega
 have hj:eB items.size items.size hi<=items.size:=Lb _ _ (mf _) hi;obtain⟨os,hos,hcs,hds⟩:=id hs;have hTs:s.TypeIs (.ref sl) "slice":=⟨os,hos,hcs⟩;unfold getItem
 try with_reducible refine wpAny_holding ?_
 first | refine ff (fg ?_) | skip
 refine ff (wpAny_sequenceKey ht.typeIs (by decide) ?_)
 refine ff (wpAny_callSpecial?_slot (name:=Str.ofString "__getitem__") ht.typeIs PyProof.Rows.slot_tuple_getitem
  (gr PyProof.Rows.slot_tuple_getitem ht.typeIs entry_tuple_getitem ?_ (args_tuple_getitem _ _)))
 show wpAny _ _ (Builtin.Tuple.tupleItemsOf (.ref t)>>=_) _ _ s;refine ff (tupleItemsOf_ ht ?_);refine ff (wpAny_typeOf hTs ?_);rw[if_pos (by decide)];refine ff (lH hs pl pu ?_);have hno:¬((((eB items.size 0 lo:Nat):Int)==0&&(1:Int)==1&&(eB items.size items.size hi-eB items.size 0 lo)==items.size)=true):=by intro q;rw[Bool.and_eq_true,Bool.and_eq_true]at q;have q1:((eB items.size 0 lo:Nat):Int)=0:=eq_of_beq q.1.1;have q2:eB items.size items.size hi-eB items.size 0 lo=items.size:=eq_of_beq q.2;exact hw ⟨by omega,by omega⟩
 show wpAny _ _ (if (((eB items.size 0 lo:Nat):Int)==0&&(1:Int)==1&&(eB items.size items.size hi-eB items.size 0 lo)==items.size)=true then _ else _) _ _ s;rw[if_neg hno,CU]
 first
  | exact ff (m:=Builtin.Tuple.tupleExact _) (wpAny_newObj_type (fg ⟨_,rfl,fg h⟩) zx)
  | exact ff (m:=Builtin.Tuple.tupleExact _) (wpAny_newObj_type (ff (fg (fg ⟨_,rfl,fg h⟩))) zx)
  | exact ff (ff (m:=Builtin.Tuple.tupleExact _) (wpAny_newObj_type (fg (fg ⟨_,rfl,fg h⟩)) zx))
  | exact ff (ff (m:=Builtin.Tuple.tupleExact _) (wpAny_newObj_type (fg ⟨_,rfl,fg h⟩) zx))
end
end HT
namespace L2
open PySem PySem.Spec PyProof.Rows
abbrev TO:=St->Hp->(Option Int->Hp->Prop)->Prop
def PO(X:Cx)(e:Option Expr)(t:TO):Prop :=
 ∀(kb:List (Addr×Obj)) (s:Shared) (σ:St) (H:Hp) (Q:Option Int->Hp->Prop),Inv X kb σ H s->t σ H Q->
  wpAny (model X.prog X.w) X.A (evalPart e X.env) (fun u s'=>∃o H',Inv X kb σ H' s'/\IsPart u o/\Q o H') X.xe s
def Gx:TO:=fun _ H Q=>Q none H
def Qa(t:TE):TO:=fun σ H Q=>t σ H fun x H1=>∃i,x=.int i/\Q (some i) H1
theorem intsAre_of{ns:List Int}:∀{us:List Value},Vals (ns.map V.int) us->IntsAre us ns:=by
 induction ns with
 | nil=>intro us r;rw[List.map_nil]at r;cases r;exact .nil
 | cons n ns ih=>
  intro us r;rw[el]at r;cases r with
  | cons r1 r2=>
   obtain⟨t,e⟩:=r1;subst e;exact .cons n t (ih r2)
section
variable {X:Cx}{e:Expr}{te:TE}{lo hi:Option Expr}{tl th:TO}{pos p2:Pos}
theorem jw:PO X none Gx:=by intro kb s σ H Q I h;rw[evalPart_none];exact fg ⟨none,H,I,.none,h⟩
theorem iw(h:PE X e te):PO X (some e) (Qa te):=by intro kb s σ H Q I hw;rw[evalPart_some];refine ck (h kb s σ H _ I hw) fun u s1 ⟨x,H1,I1,r1,q1⟩=>?_;obtain⟨i,rfl,q⟩:=q1;obtain⟨t,rfl⟩:=r1;exact⟨some i,H1,I1,.int i t,q⟩
def Vg(X:Cx)(r:V->Option Int->Option Int->Hp->VK->Prop):Prop :=
 ∀(kb:List (Addr×Obj)) (s:Shared) (σ:St) (H:Hp) (x:V) (v vl vu:Value) (lo hi:Option Int) (sl:Addr) (Q:VK),Inv X kb σ H s->RelV x v->s.heap.IsSliceOf sl vl vu .none->IsPart vl lo->IsPart vu hi->r x lo hi H Q->
  ∃T id,typeLookup (.type T) "__getitem__"=pure (some (.builtin id))/\s.TypeIs v T/\wpAny (model X.prog X.w) X.A (getItem v (.ref sl)) (EP X kb σ Q) X.xe s
def tSl(r:V->Option Int->Option Int->Hp->VK->Prop)(te:TE)(tl th:TO):TE:=fun σ H Q=>te σ H fun x H1=>tl σ H1 fun l H2=>th σ H2 fun u H3=>r x l u H3 Q
theorem gW{r:V->Option Int->Option Int->Hp->VK->Prop}(hr:Vg X r)(he:PE X e te)(hl:PO X lo tl)(hu:PO X hi th):PE X (.Subscript e (.Slice lo hi none p2) pos) (tSl r te tl th):=by intro kb s σ H Q I h;refine Subscript_ (ck (he kb s σ H _ I h) fun v s1 ⟨x,H1,I1,r1,q1⟩=>?_);refine wpAny_Slice (ck (hl kb s1 σ H1 _ I1 q1) fun vl s2 ⟨l,H2,I2,pl,q2⟩=>ck (hu kb s2 σ H2 _ I2 q2) fun vu s3 ⟨u,H3,I3,pu,q3⟩=>?_);rw[evalPart_none];refine fg ?_;have I4:Inv X kb σ H3 {s3 with heap:=s3.heap.push {cls:=.type "slice",data:=.fields #[vl,vu,.none]}}:=I3.kept (t':=s3.toks) fun b ob q=>gs _ q;obtain⟨T,id,hT,ht,hg⟩:=hr kb {s3 with heap:=s3.heap.push {cls:=.type "slice",data:=.fields #[vl,vu,.none]}} σ H3 x v vl vu l u s3.heap.objs.size Q I4 r1 (Heap.IsSliceOf.new ..) pl pu q3;show wpAny (model X.prog X.w) X.A (subscriptTail e (.Slice lo hi none p2) v (.ref s3.heap.objs.size)) (EP X kb σ Q) X.xe {s3 with heap:=s3.heap.push {cls:=.type "slice",data:=.fields #[vl,vu,.none]}};exact tail_any (ops:=[.ref s3.heap.objs.size,v]) ht hT hg (by with_unfolding_all rfl)
def nr(xs:List V)(lo hi:Option Int):List V:=(xs.drop (HT.eB xs.length 0 lo)).take (HT.eB xs.length xs.length hi-HT.eB xs.length 0 lo)
theorem mO(xs:List V)(lo hi:Option Int):(nr xs lo hi).length<=xs.length:=by unfold nr;rw[List.length_take,List.length_drop];omega
def Vh(K:i8):V->Option Int->Option Int->Hp->VK->Prop:=fun x lo hi H Q=>∃a xs,x=.ref a/\bh K H a xs/\
 ¬(HT.eB xs.length 0 lo=0/\HT.eB xs.length xs.length hi=xs.length)/\∀p,H p=none->Q (.ref p) (upd H p (.tup (nr xs lo hi)))
theorem xu:Vg X (Vh X.K):=by
 intro kb s σ H x v vl vu lo hi sl Q I rx hs pl pu h;obtain⟨a,xs,rfl,hx,hw,q⟩:=h;cases rx;obtain⟨its,r,ht,hz⟩:=I.tuple hx;have hlen:its.toArray.size=xs.length:=by rw[am];exact r.length.symm
 refine⟨"tuple",_,PyProof.Rows.slot_tuple_getitem.lookup,ht.typeIs,?_⟩;refine HT.kl ht hs pl pu (by rw[hlen];exact hw) ?_ (by rw[hlen];exact hz);rw[hlen];refine⟨.ref s.heap.objs.size,_,I.laid (t':=s.toks) (o:=.tup (nr xs lo hi)) (fun b ob q=>gs _ q) (mf _) ?_,rfl,q _ (I.hok.fresh (mf _))⟩;exact⟨mv (mO xs lo hi) hz,_,(r.drop (HT.eB xs.length 0 lo)).take (HT.eB xs.length xs.length hi-HT.eB xs.length 0 lo),IsTup.new _ _⟩
def Qb(K:i8):R2:=fun x y H Q=>∃a b xs ys,x=.ref a/\y=.ref b/\bh K H a xs/\bh K H b ys/\xs≠ []/\xs.length+ys.length<=fw/\
 (ys=[]->Q (.ref a) H)/\(ys≠ []->∀p,H p=none->Q (.ref p) (upd H p (.tup (xs++ys))))
theorem Vals.sR{xs:List V}{us:List Value}(r:Vals xs us):us=[]↔xs=[]:=by
 cases r with
 | nil=>simp
 | cons _ _=>simp
theorem zy:jU X (binaryOp .Add) (Qb X.K):=by intro kb s σ H x y v u Q I rx ry h;obtain⟨a,b,xs,ys,rfl,rfl,ha,hb,hx,hz,q1,q2⟩:=h;cases rx;cases ry;obtain⟨its,r1,p1,_⟩:=I.tuple ha;obtain⟨its2,r2,p2,_⟩:=I.tuple hb;refine HT.Gw p1 p2 (fun z=>hx (r1.sR.mp z)) (fun z=>⟨.ref a,H,I,rfl,q1 (r2.sR.mp z)⟩) (fun z=>?_) (by rw[<-r1.length,<-r2.length];exact hz);refine⟨.ref s.heap.objs.size,_,I.laid (t':=s.toks) (o:=.tup (xs++ys)) (fun b ob q=>gs _ q) (mf _) ?_,rfl,q2 (fun w=>z (r2.sR.mpr w)) _ (I.hok.fresh (mf _))⟩;exact⟨by rw[ar];exact hz,_,r1.append r2,IsTup.new _ _⟩
end
def AF(n:Nat)(i:Int):Option Nat:=if 0<=i then (if i<n then some i.toNat else none)else if-(n:Int)<=i then some (i+n).toNat else none
def mQ{α:Type}(xs:List α)(i:Int):Option α:=(AF xs.length i).bind fun j=>xs[j]?
theorem zA{n:Nat}{i:Int}{j:Nat}(h:AF n i=some j):seqIndex? i n=some j/\j<n/\-(n:Int)<=i/\i<n:=by
 unfold AF at h;by_cases h0:0<=i
 ·rw[if_pos h0]at h;by_cases h1:i<n
  ·rw[if_pos h1]at h;have e:i.toNat=j:=Option.some.inj h;exact⟨by rw[seqIndex_of h0 h1,e],by omega,by omega,h1⟩
  ·rw[if_neg h1]at h;cases h
 ·rw[if_neg h0]at h;by_cases h1:-(n:Int)<=i
  ·rw[if_pos h1]at h;have e:(i+n).toNat=j:=Option.some.inj h;exact⟨by rw[seqIndex_neg (by omega) h1,e],by omega,h1,by omega⟩
  ·rw[if_neg h1]at h;cases h
theorem zB{α:Type}{xs:List α}{i:Int}{v:α}(h:mQ xs i=some v):∃j,seqIndex? i xs.length=some j/\xs[j]? =some v/\j<xs.length/\-(xs.length:Int)<=i/\i<xs.length:=by
 unfold mQ at h;cases e:AF xs.length i with
 | none=>rw[e]at h;cases h
 | some j=>
  rw[e]at h;obtain⟨h1,h2,h3,h4⟩:=zA e;exact⟨j,h1,h,h2,h3,h4⟩
theorem cG{α:Type}{xs:List α}{j:Nat}{v:α}(h:xs[j]? =some v):mQ xs (j:Int)=some v:=by
 have hj:j<xs.length:=(ag.mp h).1;have e:AF xs.length (j:Int)=some j:=by unfold AF;rw[if_pos (by omega),if_pos (by omega)];simp
 unfold mQ;rw[e];exact h
def zC(b:Expr):Prop:=∀o i,subscripted b false o i=operate [o,i] (getItem o i)
def Uj(X:Cx)(r:R2):Prop :=
 ∀(value slice:Expr) (kb:List (Addr×Obj)) (s:Shared) (σ:St) (H:Hp) (x y:V) (v u:Value) (Q:VK),Inv X kb σ H s->RelV x v->RelV y u->r x y H Q->
  subscripted slice false v u=operate [v,u] (getItem v u)->wpAny (model X.prog X.w) X.A (subscriptTail value slice v u) (EP X kb σ Q) X.xe s
def Uk(X:Cx)(id:String)(r:V->List V->Hp->VK->Prop):Prop :=
 ∀(kb:List (Addr×Obj)) (s:Shared) (σ:St) (H:Hp) (x:V) (xs:List V) (v:Value) (us:List Value) (Q:VK),Inv X kb σ H s->RelV x v->Vals xs us->r x xs H Q->
  wpAny (model X.prog X.w) X.A (call (.builtin id) (v::us)) (EP X kb σ Q) X.xe s
section
variable {X:Cx}{a b:Expr}{ta tb:TE}{pos:Pos}
theorem aJ{r:R2}(hr:Uj X r)(ha:PE X a ta)(hb:PE X b tb)(hs:zC b):PE X (.Subscript a b pos) (KY r ta tb):=by intro kb s σ H Q I h;exact Subscript_ (KZ ha hb I h fun v u s2 x y H2 I2 rx ry q=>hr a b kb s2 σ H2 x y v u Q I2 rx ry q (hs _ _))
def CV(K:i8):R2:=fun x y H Q=>∃p xs i v,x=.ref p/\y=.int i/\aT K H p xs/\mQ xs i=some v/\Q v H
def Lc(K:i8):R2:=fun x y H Q=>∃p xs i v,x=.ref p/\y=.int i/\bh K H p xs/\mQ xs i=some v/\Q v H
theorem bp:Uj X (CV X.K):=by
 intro value slice kb s σ H x y v u Q I rx ry h hs;obtain⟨p,xs,i,z,rfl,rfl,hq,he,q⟩:=h;cases rx;obtain⟨t,rfl⟩:=ry;obtain⟨its,r,pl,hz⟩:=I.list hq;obtain⟨j,h1,h2,h3,h4,h5⟩:=zB he;obtain⟨w,ew,AG⟩:=r.get h2;have hl:=r.length;have hn:=sP;have fin:EP X kb σ Q w s:=⟨z,H,I,AG,q⟩;by_cases h0:0<=i
 ·have hj:i.toNat=j:=by rw[seqIndex_of h0 h5]at h1;exact Option.some.inj h1
  exact item_listR pl.isList h0 (by omega) (by rw[hj];simpa using ew) fin hs
 ·have hj:(i+(its.toArray.size:Int)).toNat=j:=by rw[seqIndex_neg (by omega) h4]at h1;rw[am,<-hl];exact Option.some.inj h1
  exact subscriptTail_builtinR (x:=w) pl.isList.typeIs slot_list_getitem.lookup
   (wpAny_getItem_list_neg (Q:=fun r s'=>r=w/\EP X kb σ Q r s') pl.isList (by omega) (by rw[am]<;>omega) (by omega) (by rw[hj];simpa using ew) ⟨rfl,fin⟩) hs
theorem aQ:Uj X (Lc X.K):=by
 intro value slice kb s σ H x y v u Q I rx ry h hs;obtain⟨p,xs,i,z,rfl,rfl,hq,he,q⟩:=h;cases rx;obtain⟨t,rfl⟩:=ry;obtain⟨its,r,pl,hz⟩:=I.tuple hq;obtain⟨j,h1,h2,h3,h4,h5⟩:=zB he;obtain⟨w,ew,AG⟩:=r.get h2;have hl:=r.length;have hn:=sP;have fin:EP X kb σ Q w s:=⟨z,H,I,AG,q⟩;exact subscriptTail_builtinR (x:=w) pl.typeIs slot_tuple_getitem.lookup
  (getItem_tuple (j:=j) (Q:=fun r s'=>r=w/\EP X kb σ Q r s') pl (by omega) (by omega) (by rw[am,<-hl];exact h1) (by simpa using ew) ⟨rfl,fin⟩) hs
theorem xv(its:List Value)(n j:Nat)(u:Value):Obj.mapSeq (·.setIfInBounds j u) {cls:=.type "list",data:=.seq its.toArray n}={cls:=.type "list",data:=.seq (its.set j u).toArray n}:=by simp[Obj.mapSeq]
theorem Inv.lst{kb:List (Addr×Obj)}{σ:St}{H:Hp}{s:Shared}{p:Addr}{xs:List V}(I:Inv X kb σ H s)(h:H p=some (.lst xs)):
  ∃(its:List Value) (n:Nat),Vals xs its/\s.heap.get? p=some {cls:=.type "list",data:=.seq its.toArray n}/\xs.length<=fw:=by
 obtain⟨z,its,n,r,e⟩:=I.hok p _ h;exact⟨its,n,r,e,z⟩
theorem Inv.Ld{kb:List (Addr×Obj)}{σ:St}{H:Hp}{s:Shared}{p:Addr}{xs ys:List V}{its its':List Value}{n n':Nat}{f:Obj->Obj}(I:Inv X kb σ H s)(h:H p=some (.lst xs))
  (ho:s.heap.get? p=some {cls:=.type "list",data:=.seq its.toArray n}) (hf:f {cls:=.type "list",data:=.seq its.toArray n}={cls:=.type "list",data:=.seq its'.toArray n'}) (r:Vals ys its') (hz:ys.length<=fw) (t:Nat):
  Inv X kb σ (upd H p (.lst ys)) {s with heap:=s.heap.update p f,toks:=t}:=by
 have e:(s.heap.update p f).get? p=some {cls:=.type "list",data:=.seq its'.toArray n'}:=by rw[Heap.get?_update_self f ho (by rw[hf]<;>rfl),hf]
 refine I.write (x:=p) (e:=p) (by rw[h];trivial) (.inl rfl) (fun b u hb q=>(Heap.get?_update_other _ _ (Ne.symm hb)).trans q) ⟨_,e⟩ ?_;exact⟨hz,its',n',r,e⟩
def Qc:V->V->V->Hp->(Hp->Prop)->Prop:=fun o i v H Q=>∃p xs k j,o=.ref p/\i=.int k/\H p=some (.lst xs)/\AF xs.length k=some j/\Q (upd H p (.lst (xs.set j v)))
theorem set_list:PV X Qc:=by
 intro kb s σ H o i v ov iv u Q I ro ri rv h;obtain⟨p,xs,k,j,rfl,rfl,hp,hj,q⟩:=h;cases ro;obtain⟨t,rfl⟩:=ri;obtain⟨its,n,r,ho,hz⟩:=I.lst hp;obtain⟨h1,h2,h3,h4⟩:=zA hj;have hl:=r.length;have hn:=sP;have I':Inv X kb σ (upd H p (.lst (xs.set j v))) {s with heap:=s.heap.update p (Obj.mapSeq (·.setIfInBounds j u))}:=
  I.Ld hp ho (xv its n j u) (r.set rv j) (by rw[List.length_set];exact hz) s.toks
 by_cases h0:0<=k
 ·have hk:k.toNat=j:=by rw[seqIndex_of h0 h4]at h1;exact Option.some.inj h1
  exact PySem.W.ki_setAt ho h0 (by omega) (by rw[am,<-hl];exact h4) (by rw[hk];exact⟨_,I',q⟩)
 ·have hk:(k+(its.toArray.size:Int)).toNat=j:=by rw[seqIndex_neg (by omega) h3]at h1;rw[am,<-hl];exact Option.some.inj h1
  exact PySem.W.ki_setBack ho (by omega) (by rw[am,<-hl];exact h3) (by omega) (by rw[hk];exact⟨_,I',q⟩)
theorem sS(lo hi:Option Int)(n:Nat):(sliceBounds lo hi none n).1=((HT.eB n 0 lo:Nat):Int)/\(sliceBounds lo hi none n).2.1=((HT.eB n n hi:Nat):Int)/\(sliceBounds lo hi none n).2.2=1:=by
 refine⟨?_,?_,rfl⟩
 ·cases lo with
  | none=>simp[sliceBounds,HT.eB]
  | some i=>
   simp only[sliceBounds,HT.eB,Option.getD_none,show(1:Int)>0 by decide,if_true];by_cases h:i<0
   ·simp only[h,if_true]<;>omega
   ·simp only[h,if_false]<;>omega
 ·cases hi with
  | none=>simp[sliceBounds,HT.eB]
  | some i=>
   simp only[sliceBounds,HT.eB,Option.getD_none,show(1:Int)>0 by decide,if_true];by_cases h:i<0
   ·simp only[h,if_true]<;>omega
   ·simp only[h,if_false]<;>omega
theorem qQ(its:List Value)(lo hi:Option Int):slicePick its.toArray lo hi none=((its.drop (HT.eB its.length 0 lo)).take (HT.eB its.length its.length hi-HT.eB its.length 0 lo)).toArray:=by obtain⟨h1,h2,h3⟩:=sS lo hi its.toArray.size;unfold slicePick;rw[h1,h2,h3];simp only[sliceRange_one,pick_run,am]<;>rfl
def Vi(K:i8):V->Option Int->Option Int->Hp->VK->Prop:=fun x lo hi H Q=>∃a xs,x=.ref a/\aT K H a xs/\∀p,H p=none->Q (.ref p) (upd H p (.lst (nr xs lo hi)))
theorem sT:Vg X (Vi X.K):=by intro kb s σ H x v vl vu lo hi sl Q I rx hs pl pu h;obtain⟨a,xs,rfl,hx,q⟩:=h;cases rx;obtain⟨its,r,ht,hz⟩:=I.list hx;have hlen:=r.length;refine⟨"list",_,slot_list_getitem.lookup,ht.isList.typeIs,?_⟩;refine wpAny_getItem_list_slice ht.isList hs pl pu .none (by simp) ?_ (by rw[am]<;>omega);rw[qQ,<-hlen];refine⟨.ref s.heap.objs.size,_,I.laid (t':=s.toks) (o:=.lst (nr xs lo hi)) (fun b ob q=>gs _ q) (mf _) ?_,rfl,q _ (I.hok.fresh (mf _))⟩;exact⟨mv (mO xs lo hi) hz,_,0,(r.drop (HT.eB xs.length 0 lo)).take (HT.eB xs.length xs.length hi-HT.eB xs.length 0 lo),gv _ rfl⟩
def km:V->Bool
 | .non=>true
 | .bl _=>true
 | .int _=>true
 | .str _=>true
 | _=>false
def JM:V->V->Bool
 | .non,.non=>true
 | .bl a,.bl b=>a==b
 | .bl a,.int b=>(if a then 1 else 0)==b
 | .int a,.bl b=>a==(if b then 1 else 0)
 | .int a,.int b=>a==b
 | .str a,.str b=>a==b
 | _,_=>false
theorem Le{A:Around}{s:Shared}{y x:V}{u v:Value}(ry:RelV y u)(rx:RelV x v)(fy:km y=true)(fx:km x=true):SeqAt.EqAt A s u v (JM y x):=by
 cases y with
 | non=>
  cases ry;cases x with
  | non=>cases rx;exact SeqAt.EqAt.same _
  | bl b=>cases rx;exact SeqAt.EqAt.none_bool b
  | int b=>obtain⟨t,rfl⟩:=rx;exact SeqAt.EqAt.none_int b t
  | str b=>obtain⟨t,rfl⟩:=rx;exact SeqAt.EqAt.none_str b t
  | _=>exact absurd (show false=true from fx) mx
 | bl a=>
  cases ry;cases x with
  | non=>cases rx;exact SeqAt.EqAt.bool_none a
  | bl b=>cases rx;exact SeqAt.EqAt.bool_bool a b
  | int b=>obtain⟨t,rfl⟩:=rx;exact SeqAt.EqAt.bool_int a b t
  | str b=>obtain⟨t,rfl⟩:=rx;exact SeqAt.EqAt.bool_str a b t
  | _=>exact absurd (show false=true from fx) mx
 | int a=>
  obtain⟨t',rfl⟩:=ry;cases x with
  | non=>cases rx;exact SeqAt.EqAt.int_none a t'
  | bl b=>cases rx;exact SeqAt.EqAt.int_bool a t' b
  | int b=>obtain⟨t,rfl⟩:=rx;exact SeqAt.EqAt.int_int a t' b t
  | str b=>obtain⟨t,rfl⟩:=rx;exact SeqAt.EqAt.int_str a t' b t
  | _=>exact absurd (show false=true from fx) mx
 | str a=>
  obtain⟨t',rfl⟩:=ry;cases x with
  | non=>cases rx;exact SeqAt.EqAt.str_none a t'
  | bl b=>cases rx;exact SeqAt.EqAt.str_bool a t' b
  | int b=>obtain⟨t,rfl⟩:=rx;exact SeqAt.EqAt.str_int a t' b t
  | str b=>obtain⟨t,rfl⟩:=rx;exact SeqAt.EqAt.str_str a t' b t
  | _=>exact absurd (show false=true from fx) mx
 | _=>exact absurd (show false=true from fy) mx
def xA(x:V)(u:Value):Bool:=match u with
 | .none=>JM .non x
 | .bool b=>JM (.bl b) x
 | .int i _=>JM (.int i) x
 | .str z _=>JM (.str z) x
 | _=>false
theorem CW{x y:V}{u:Value}(r:RelV y u)(f:km y=true):xA x u=JM y x:=by
 cases y with
 | non=>cases r;rfl
 | bl b=>cases r;rfl
 | int i=>obtain⟨t,rfl⟩:=r;rfl
 | str z=>obtain⟨t,rfl⟩:=r;rfl
 | _=>exact absurd (show false=true from f) mx
theorem kn{x:V}:∀{xs:List V} {us:List Value},Vals xs us->xs.all km=true->us.any (xA x)=xs.any fun y=>JM y x
 | _,_,.nil,_=>rfl
 | y::xs,u::us,.cons r t,f=>by rw[List.all_cons,Bool.and_eq_true]at f;rw[List.any_cons,List.any_cons,CW r f.1,kn t f.2]
theorem iY{A:Around}{s:Shared}{x:V}{v:Value}(rx:RelV x v)(fx:km x=true):∀{xs:List V} {us:List Value},Vals xs us->xs.all km=true->∀u∈us,SeqAt.EqAt A s u v (xA x u)
 | _,_,.nil,_=>fun u hu=>by cases hu
 | y::xs,u::us,.cons r t,f=>fun u' hu=>by
  rw[List.all_cons,Bool.and_eq_true]at f;rcases List.mem_cons.mp hu with rfl | hu
  ·rw[CW r f.1];exact Le r rx f.1 fx
  ·exact iY rx fx t f.2 u' hu
def inV(x:V)(xs:List V):Bool:=xs.any fun y=>JM y x
def JN(K:i8)(neg:Bool):R2:=fun x y H Q=>∃p xs,y=.ref p/\(aT K H p xs\/bh K H p xs)/\km x=true/\xs.all km=true/\Q (.bl (if neg then !inV x xs else inV x xs)) H
theorem bj:jU X (compareOp .In) (JN X.K false):=by
 intro kb s σ H x y v u Q I rx ry h;obtain⟨p,xs,rfl,hq,fx,fs,q⟩:=h;cases ry;rcases hq with hq | hq
 ·obtain⟨its,r,pl,hz⟩:=I.list hq;refine SeqAt.in_listAt (xA x) pl.isList (fun w hw=>iY rx fx r fs w (by simpa using hw)) ⟨.bl _,H,I,rfl,?_⟩;rw[show its.toArray.any (xA x)=its.any (xA x) by simp,kn r fs];exact q
 ·obtain⟨its,r,pl,hz⟩:=I.tuple hq;refine SeqAt.in_tupleAt (xA x) pl (fun w hw=>iY rx fx r fs w (by simpa using hw)) ⟨.bl _,H,I,rfl,?_⟩;rw[show its.toArray.any (xA x)=its.any (xA x) by simp,kn r fs];exact q
theorem iy:jU X (compareOp .NotIn) (JN X.K true):=by
 intro kb s σ H x y v u Q I rx ry h;obtain⟨p,xs,rfl,hq,fx,fs,q⟩:=h;cases ry;rcases hq with hq | hq
 ·obtain⟨its,r,pl,hz⟩:=I.list hq;refine SeqAt.notIn_listAt (xA x) pl.isList (fun w hw=>iY rx fx r fs w (by simpa using hw)) ⟨.bl _,H,I,rfl,?_⟩;rw[show its.toArray.any (xA x)=its.any (xA x) by simp,kn r fs];exact q
 ·obtain⟨its,r,pl,hz⟩:=I.tuple hq;refine SeqAt.notIn_tupleAt (xA x) pl (fun w hw=>iY rx fx r fs w (by simpa using hw)) ⟨.bl _,H,I,rfl,?_⟩;rw[show its.toArray.any (xA x)=its.any (xA x) by simp,kn r fs];exact q
theorem aS:eA X (.builtin "len") (fun xs H Q=>∃p ys,xs=[.ref p]/\(aT X.K H p ys\/bh X.K H p ys)/\Q (.int ys.length) H):=by
 intro kb s σ H xs us Q I r h;obtain⟨p,ys,rfl,hq,q⟩:=h;obtain⟨u,rfl,rx⟩:=vals1 r;cases rx;have hn:=sP;rcases hq with hq | hq
 ·obtain⟨its,r',pl,hz⟩:=I.list hq;have hlen:=r'.length;exact Calls.call_len_list pl.isList (by simp only[am]<;>omega) ⟨.int ys.length,H,I.tok _,⟨s.toks+1,by rw[am,hlen]⟩,q⟩
 ·obtain⟨its,r',pl,hz⟩:=I.tuple hq;have hlen:=r'.length;exact len_tuple pl (by simp only[am]<;>omega) ⟨.int ys.length,H,I.tok _,⟨s.toks+1,by rw[am,hlen]⟩,q⟩
theorem eC:eA X (.type "list") (fun xs H Q=>∃p ys,xs=[.ref p]/\(aT X.K H p ys\/bh X.K H p ys)/\∀l,H l=none->Q (.ref l) (upd H l (.lst ys))):=by
 intro kb s σ H xs us Q I r h;obtain⟨p,ys,rfl,hq,q⟩:=h;obtain⟨u,rfl,rx⟩:=vals1 r;cases rx;have fin:∀(its:List Value),Vals ys its->ys.length<=fw->∀(h':Heap) (c':Nat),(∀b o',s.heap.get? b=some o'->h'.get? b=some o')->
   h'.get? s.heap.objs.size=some {cls:=.type "list",dict:=none,data:=.seq its.toArray c',slots:=#[]}->EP X kb σ Q (.ref s.heap.objs.size) {s with heap:=h'}:=fun its r' hz h' c' kp e=>
  ⟨.ref s.heap.objs.size,_,I.laid (t':=s.toks) kp (mf _) (show bu X.prog X.w _ h' _ (.lst ys)from⟨hz,its,c',r',e⟩),rfl,q _ (I.hok.fresh (mf _))⟩
 rcases hq with hq | hq
 ·obtain⟨its,r',pl,hz⟩:=I.list hq;have hlen:=r'.length;obtain⟨o,ho,hc,n,hd⟩:=pl.isList;exact call_list_seq p (.inl rfl) ho hc hd (fun h' c' kp e=>fin its r' hz h' c' kp e) (by simp only[am]<;>omega)
 ·obtain⟨its,r',pl,hz⟩:=I.tuple hq;have hlen:=r'.length;obtain⟨o,ho,hc,n,hd⟩:=pl;exact call_list_seq p (.inr rfl) ho hc hd (fun h' c' kp e=>fin its r' hz h' c' kp e) (by simp only[am]<;>omega)
theorem eV:eA X (.type "tuple") (fun xs H Q=>∃p ys,xs=[.ref p]/\((aT X.K H p ys/\∀l,H l=none->Q (.ref l) (upd H l (.tup ys)))\/(bh X.K H p ys/\Q (.ref p) H))):=by
 intro kb s σ H xs us Q I r h;obtain⟨p,ys,rfl,h⟩:=h;obtain⟨u,rfl,rx⟩:=vals1 r;cases rx;rcases h with ⟨hq,q⟩ | ⟨hq,q⟩
 ·obtain⟨its,r',pl,hz⟩:=I.list hq;have hlen:=r'.length;refine call_tuple_list pl.isList (fun h' kp=>?_) (by simp only[am]<;>omega);have I1:Inv X kb σ H {s with heap:=h'}:=I.kept (t':=s.toks) kp;have I2:Inv X kb σ (upd H h'.objs.size (.tup ys)) {s with heap:=h'.push {cls:=.type "tuple",data:=.seq its.toArray}}:=
   I1.laid (t':=s.toks) (fun b o e=>gs _ e) (mf _) (show bu X.prog X.w _ _ _ (.tup ys)from⟨hz,its,r',IsTup.new _ _⟩)
  exact⟨.ref h'.objs.size,_,I2,rfl,q _ (I1.hok.fresh (mf _))⟩
 ·obtain⟨its,r',pl,hz⟩:=I.tuple hq;exact call_tuple_same pl ⟨.ref p,H,I,rfl,q⟩
def Vj(K:i8)(T:String)(x:V)(H:Hp):Prop:=match x with
 | .str _=>T ="str"
 | .int _=>T ="int"
 | .ref p=>(T ="list"/\∃xs,aT K H p xs)\/(T ="tuple"/\∃o,K.lookup p=some o/\o.cls=.type "tuple"/\o.dict=none)\/
   (T ="dict"/\((∃kvs,H p=some (.dK kvs))\/∃kvs,H p=some (.dT kvs)))\/(T ="set"/\∃S n,H p=some (.set S n))
 | _=>False
theorem CY{kb:List (Addr×Obj)}{σ:St}{H:Hp}{s:Shared}{T:String}{x:V}{v:Value}(I:Inv X kb σ H s)(r:RelV x v)(ty:Vj X.K T x H):
  s.TypeIs v T/\∀a,v=.ref a->∃ob,s.heap.get? a=some ob/\ob.dict=none:=by
 cases x with
 | str z=>
  obtain⟨t,rfl⟩:=r;cases (show T ="str"from ty);exact⟨typeIs_str s z t,fun _ e=>nomatch e⟩
 | int i=>
  obtain⟨t,rfl⟩:=r;cases (show T ="int"from ty);exact⟨typeIs_int s i t,fun _ e=>nomatch e⟩
 | ref p=>
  cases r;rcases ty with ⟨rfl,xs,hq⟩ | ⟨rfl,o,hk,hc,hd⟩ | ⟨rfl,hk⟩ | ⟨rfl,S,n,hk⟩
  ·obtain⟨its,_,pl,_⟩:=I.list hq;refine⟨pl.isList.typeIs,fun a e=>?_⟩;cases e;obtain⟨o,n,e,c,hd,_⟩:=pl;exact⟨o,e,hd⟩
  ·refine⟨⟨o,I.jF p o hk,hc⟩,fun a e=>?_⟩;cases e;exact⟨o,I.jF _ o hk,hd⟩
  ·have z:∃o,s.heap.get? p=some o/\o.ExactDict:=by
    rcases hk with ⟨kvs,hk⟩ | ⟨kvs,hk⟩
    ·obtain⟨_,_,_,_,o,_,_,e,ex,_⟩:=I.hok p _ hk;exact⟨o,e,ex⟩
    ·obtain⟨_,_,_,_,o,_,_,e,ex,_⟩:=I.hok p _ hk;exact⟨o,e,ex⟩
   obtain⟨o,e,ex⟩:=z;refine⟨⟨o,e,ex.1⟩,fun a e2=>?_⟩;cases e2;exact⟨o,e,ex.2.1⟩
  ·obtain⟨o,_,_,_,e,ex,_⟩:=I.hok p _ hk;refine⟨⟨o,e,ex.1⟩,fun a e2=>?_⟩;cases e2;exact⟨o,e,ex.2.1⟩
 | _=>exact False.elim ty
def Lf(K:i8)(T:String)(r:V->List V->Hp->VK->Prop)(to:TE):TE:=fun σ H Q=>to σ H fun x H1=>Vj K T x H1/\r x [] H1 Q
def tBM(K:i8)(T:String)(r:V->List V->Hp->VK->Prop)(to:TE)(t:TA):TE:=fun σ H Q=>to σ H fun x H1=>Vj K T x H1/\t σ H1 fun xs H2=>r x xs H2 Q
variable {o e:Expr}{es:List Expr}{to:TE}{t:TA}{name:Str}{apos cpos:Pos}{T id:String}{r:V->List V->Hp->VK->Prop}
theorem dw(pa:PlainAttrs T)(slot:Slot T name id)(hty:typeOf (.builtin id)=pure (.type "method_descriptor"))(hm:Uk X id r)(ho:PE X o to)
  (hbase:attributeBase o name X.env (eval o X.env)=eval o X.env:=by rfl) (hline:(apos.endLine==cpos.line)=true:=by rfl):PE X (.Call (.Attribute o name apos) [] [] cpos) (Lf X.K T r to):=by
 intro kb s σ H Q I h;refine wpAny_Call_method0_late hbase hline (ck (ho kb s σ H _ I h) fun v s1 ⟨x,H1,I1,r1,ty,q1⟩=>?_);obtain⟨h1,h2⟩:=CY I1 r1 ty;exact⟨T,id,pa,slot,hty,h1,h2,Calls.callWith_builtin rfl (PySem.evalArgs_none (hm kb s1 σ H1 x [] v [] Q I1 r1 .nil q1))⟩
theorem iR(pa:PlainAttrs T)(slot:Slot T name id)(hty:typeOf (.builtin id)=pure (.type "method_descriptor"))(hm:Uk X id r)(ho:PE X o to)(ha:PA X (e::es) t)
  (hbase:attributeBase o name X.env (eval o X.env)=eval o X.env:=by rfl)
  (hfew:((backTo cpos (starEach (e::es) X.env)).all (fun x=>!x.1)&&(backToKw cpos (keywordEach [] X.env)).all (fun x=>x.1.isSome)
   &&decide ((e::es).length+([]:List Keyword).length+(if ([]:List Keyword).isEmpty then 0 else 1)<30))=true:=by rfl)
  (hline:(apos.endLine==cpos.line)=true:=by rfl) (hs:starEach (e::es) X.env=(false,eval e X.env)::starEach es X.env:=by rfl) (hplain:(backTo cpos (starEach es X.env)).any (·.1)=false:=by rfl):
  PE X (.Call (.Attribute o name apos) (e::es) [] cpos) (tBM X.K T r to t):=by
 intro kb s σ H Q I h;refine wpAny_Call_method_late hbase hfew hline rfl (ck (ho kb s σ H _ I h) fun v s1 ⟨x,H1,I1,r1,ty,q1⟩=>?_);obtain⟨h1,h2⟩:=CY I1 r1 ty;refine⟨T,id,pa,slot,hty,h1,h2,?_⟩;have hA:=ha cpos kb s1 σ H1 _ I1 q1;rw[hs]at hA ⊢;refine Calls.callWith_builtin (by show(false||(backTo cpos (starEach es X.env)).any (·.1))=false;rw[hplain]<;>rfl) (Calls.evalArgs_plain ?_);exact ck hA fun us s2 ⟨vs,H2,I2,r2,q2⟩=>hm kb s2 σ H2 x vs v us Q I2 r1 r2 q2
end
def Vk(X:Cx)(id:String)(r:V->List V->Hp->VK->Prop):Prop :=
 ∀(kb:List (Addr×Obj)) (s:Shared) (σ:St) (H:Hp) (x:V) (xs:List V) (v:Value) (us:List Value) (Q:VK),Inv X kb σ H s->RelV x v->Vals xs us->r x xs H Q->
  wpAny (model X.prog X.w) X.A (call (.builtin id) (v::us)) (EP X kb σ Q) X.xe s
theorem Vals.one:∀{x:V} {us:List Value},Vals [x] us->∃u,us=[u]/\RelV x u
 | _,_,.cons r .nil=>⟨_,rfl,r⟩
theorem Vals.zero:∀{us:List Value},Vals [] us->us=[]
 | _,.nil=>rfl
theorem Vals.dropLast{xs:List V}{us:List Value}(h:Vals xs us):Vals xs.dropLast us.dropLast:=by
 induction h with
 | nil=>exact .nil
 | cons r t ih=>
  cases t with
  | nil=>exact .nil
  | cons q t'=>exact .cons r ih
theorem Vals.rep{xs:List V}{us:List Value}(h:Vals xs us):∀k:Nat,Vals (List.replicate k xs).flatten (List.replicate k us).flatten
 | 0=>.nil
 | k+1=>by rw[List.replicate_succ,List.replicate_succ,List.flatten_cons,List.flatten_cons];exact Vals.append h (Vals.rep h k)
theorem xB{α:Type}(l:List α):l.eraseIdx (l.length-1)=l.dropLast:=by
 induction l with
 | nil=>rfl
 | cons a r ih=>
  cases r with
  | nil=>rfl
  | cons b r=>
   have e:(a::b::r).length-1=((b::r).length-1)+1:=by have h1:(a::b::r).length=r.length+2:=rfl;have h2:(b::r).length=r.length+1:=rfl;omega
   rw[e,List.eraseIdx_cons_succ,ih]
   all_goals rfl
theorem foldl_rep(its:List Value):∀(k:Nat) (acc:List Value),
  List.foldl (fun x1 x2=>x1++x2) acc.toArray (List.replicate k its.toArray)=(acc++(List.replicate k its).flatten).toArray
 | 0,acc=>by simp
 | k+1,acc=>by
  have e:acc.toArray++its.toArray=(acc++its).toArray:=by simp
  have e2:(acc++its)++(List.replicate k its).flatten=acc++(List.replicate (k+1) its).flatten:=by rw[List.replicate_succ,List.flatten_cons,List.append_assoc]
  rw[<-e2,<-foldl_rep its k (acc++its),<-e,List.replicate_succ,List.foldl_cons]
section
variable {X:Cx}{kb:List (Addr×Obj)}{σ:St}{H:Hp}{s:Shared}{l b:Addr}{xs ys zs:List V}
theorem Inv.Lg{its its':List Value}{n:Nat}{f:Array Value->Array Value}{t':Nat}(I:Inv X kb σ H s)(hH:H l=some (.lst xs))
  (e:s.heap.get? l=some {cls:=.type "list",data:=.seq its.toArray n}) (hf:f its.toArray=its'.toArray) (hv:Vals ys its') (hz:ys.length<=fw):
  Inv X kb σ (upd H l (.lst ys)) {s with heap:=s.heap.update l (Obj.mapSeq f),toks:=t'}:=by
 have q:=PySem.IsL.update e f;rw[hf]at q;refine I.write (x:=l) (e:=l) (by rw[hH];exact trivial) (.inl rfl) (fun b' u hb hu=>(Heap.get?_update_other s.heap (Obj.mapSeq f) (Ne.symm hb)).trans hu) ⟨_,q⟩ ?_;exact⟨hz,its',_,hv,q⟩
theorem Inv.Gy{its:List Value}{t':Nat}(I:Inv X kb σ H s)(hv:Vals ys its)(hz:ys.length<=fw):
  Inv X kb σ (upd H s.heap.objs.size (.lst ys)) {s with heap:=s.heap.push {cls:=.type "list",data:=.seq its.toArray},toks:=t'}:=
 I.laid (fun _ _ q=>gs _ q) (mf _) ⟨hz,its,0,hv,gv _ rfl⟩
theorem Inv.fresh(I:Inv X kb σ H s):H s.heap.objs.size=none:=I.hok.fresh (mf _)
theorem Inv.xC(I:Inv X kb σ H s)(hH:H l=some (.lst xs)):xs.length<=fw/\∃(its:List Value) (n:Nat),Vals xs its/\xs.length=its.length/\s.heap.get? l=some {cls:=.type "list",data:=.seq its.toArray n}:=by obtain⟨z,its,n,r,e⟩:=I.hok l _ hH;exact⟨z,its,n,r,r.length,e⟩
theorem u9{n:Nat}(h:n<=fw):Builtin.List.listTooLong n=false:=by unfold Builtin.List.listTooLong;exact decide_eq_false (by omega)
end
section
variable {X:Cx}
def Gz:V->List V->Hp->VK->Prop:=fun x vs H Q=>∃l xs y,x=.ref l/\vs=[y]/\H l=some (.lst xs)/\xs.length<fw/\Q .non (upd H l (.lst (xs++ [y])))
theorem da:Vk X "list.append" Gz:=by intro kb s σ H x vs v us Q I rx rv h;obtain⟨l,xs,y,rfl,rfl,hH,hz,q⟩:=h;cases rx;obtain⟨u,rfl,ru⟩:=rv.one;obtain⟨z,its,n,r,hl,e⟩:=I.xC hH;refine call_meets im ⟨_,e,rfl⟩ F.entry_list_append (F.args_list_append_2 _ _) (PySem.list_append l its.toArray n u (by rw[am];omega)) ⟨e,?_⟩;refine⟨.non,_,I.Lg (its':=its++ [u]) hH e (by simp) (r.append (.cons ru .nil)) ?_,rfl,q⟩;rw[ar,List.length_singleton];omega
def GJ:V->List V->Hp->VK->Prop:=fun x vs H Q=>∃l b xs zs,x=.ref l/\vs=[.ref b]/\H l=some (.lst xs)/\H b=some (.lst zs)/\xs.length+zs.length<=fw/\Q .non (upd H l (.lst (xs++zs)))
theorem lI:Vk X "list.extend" GJ:=by
 intro kb s σ H x vs v us Q I rx rv h;obtain⟨l,b,xs,zs,rfl,rfl,hH,hB,hz,q⟩:=h;cases rx;obtain⟨u,rfl,ru⟩:=rv.one;cases ru;obtain⟨z,its,n,r,hl,e⟩:=I.xC hH;obtain⟨z2,its2,n2,r2,hl2,e2⟩:=I.xC hB;have hsz:its.toArray.size+its2.toArray.size<=fw:=by rw[am,am];omega
 have CZ:¬(!its.toArray.isEmpty&&Builtin.List.listTooLong (its.toArray.size+its2.toArray.size))=true:=by rw[u9 hsz,Bool.and_false];exact mx
 refine call_meets F.slot_list_extend ⟨_,e,rfl⟩ F.entry_list_extend (F.args_list_extend_2 _ _)
  (AutoSeq1.list_extend_list_list_0 l its.toArray n b its2.toArray n2 CZ (by rw[am];omega) (by omega)) ⟨e,e2,?_⟩
 refine⟨.non,_,I.Lg (its':=its++its2) hH e (by simp) (r.append r2) ?_,rfl,q⟩;rw[ar];omega
def Qd:V->List V->Hp->VK->Prop:=fun x vs H Q=>∃l xs y,x=.ref l/\vs=[]/\H l=some (.lst xs)/\xs[xs.length-1]? =some y/\Q y (upd H l (.lst xs.dropLast))
theorem dy:Vk X "list.pop" Qd:=by
 intro kb s σ H x vs v us Q I rx rv h;obtain⟨l,xs,y,rfl,rfl,hH,hy,q⟩:=h;cases rx;have hus:=rv.zero;subst hus;obtain⟨z,its,n,r,hl,e⟩:=I.xC hH;obtain⟨u,hu,ru⟩:=r.get hy;have hy':its.toArray[its.toArray.size-1]? =some u:=by show its.toArray[its.length-1]? =some u;rw[<-Array.getElem?_toList,<-hl];exact hu
 refine call_meets F.slot_list_pop ⟨_,e,rfl⟩ F.entry_list_pop (F.args_list_pop_1 _) (MeetsSeq.list_pop_last l its.toArray n u hy' (by rw[am];omega)) ⟨e,?_⟩;refine⟨y,_,I.Lg (its':=its.dropLast) hH e ?_ r.dropLast ?_,ru,q⟩
 ·show its.toArray.eraseIdxIfInBounds (its.toArray.size-1)=its.dropLast.toArray;rw[am,List.eraseIdxIfInBounds_toArray,xB]
 ·rw[List.length_dropLast];omega
def Vl:R2:=fun x y H Q=>∃l b xs zs,x=.ref l/\y=.ref b/\H l=some (.lst xs)/\H b=some (.lst zs)/\xs.length+zs.length<=fw/\∀p,H p=none->Q (.ref p) (upd H p (.lst (xs++zs)))
theorem iZ:jU X (binaryOp .Add) Vl:=by
 intro kb s σ H x y v u Q I rx ry h;obtain⟨l,b,xs,zs,rfl,rfl,hH,hB,hz,q⟩:=h;cases rx;cases ry;obtain⟨z,its,n,r,hl,e⟩:=I.xC hH;obtain⟨z2,its2,n2,r2,hl2,e2⟩:=I.xC hB;refine PySem.P.add_list e e2 ?_ (by rw[am,am];omega);have ea:its.toArray++its2.toArray=(its++its2).toArray:=by simp
 rw[ea];exact⟨.ref _,_,I.Gy (t':=s.toks) (r.append r2) (by rw[ar];omega),rfl,q _ I.fresh⟩
def Vm:R2:=fun x y H Q=>∃l k xs,x=.ref l/\y=.int k/\H l=some (.lst xs)/\-(2^63)<=k/\k<2^63/\xs.length*k.toNat<=fw/\
 ∀p,H p=none->Q (.ref p) (upd H p (.lst (List.replicate k.toNat xs).flatten))
theorem len_rep{α:Type}(xs:List α)(k:Nat):(List.replicate k xs).flatten.length=k*xs.length:=by
 induction k with
 | zero=>simp
 | succ k ih=>rw[List.replicate_succ,List.flatten_cons,ar,ih,Nat.succ_mul,Nat.add_comm]
theorem C0:jU X (binaryOp .Mult) Vm:=by
 intro kb s σ H x y v u Q I rx ry h;obtain⟨l,k,xs,rfl,rfl,hH,h1,h2,hz,q⟩:=h;cases rx;obtain⟨t,rfl⟩:=ry;obtain⟨z,its,n,r,hl,e⟩:=I.xC hH;have hlen:its.toArray.size*k.toNat<=fw:=by rw[am,<-hl];exact hz
 have hcap:¬its.toArray.size*k.toNat> (2^63-1)/8:=by
  have:(fw:Nat)<=(2^63-1)/8:=by decide
  omega
 have hfit:¬(!Builtin.List.listFitsIndex k)=true:=by rw[fitsIndex_both h1 h2];exact mx
 have CZ:¬Builtin.List.listTooLong (its.toArray.size*k.toNat)=true:=by rw[u9 hlen];exact mx
 have hnew:List.foldl (fun x1 x2=>x1++x2) #[] (List.replicate (if its.toArray.isEmpty=true then 0 else k.toNat) its.toArray)=(List.replicate k.toNat its).flatten.toArray:=by
  have f0:∀m:Nat,List.foldl (fun x1 x2=>x1++x2) #[] (List.replicate m its.toArray)=(List.replicate m its).flatten.toArray:=fun m=>by have:=foldl_rep its m [];rw[List.nil_append]at this;exact this
  rw[f0];cases its with
  | nil=>simp
  | cons a r'=>rw[if_neg (by simp)]
 refine wpAny_binaryOp_repeat_ref (T :="list") (U :="int") (by decide) ⟨_,e,rfl⟩ (fun s'=>typeIs_int s' k t) noFill_list_mul F.fills_int_mul F.slot_int_rmul repeat_list F.slot_int_index.lookup
  (call_meets F.slot_int_rmul (typeIs_int s k t) F.entry_int_rmul (F.args_int_rmul_2 _ _) (int___rmul___int_list k t l its.toArray n)
   ⟨e,rfl,⟨_,e,rfl⟩,call_meets F.slot_list_mul ⟨_,e,rfl⟩ F.entry_list_mul (F.args_list_mul_2 _ _) (AutoListH.list___mul___list_int_3 l its.toArray n k t hfit hcap CZ) ⟨e,?_⟩⟩)
 rw[hnew];exact⟨.ref _,_,I.Gy (t':=s.toks) (r.rep k.toNat) (by rw[len_rep,Nat.mul_comm];exact hz),rfl,q _ I.fresh⟩
variable {prog:Program}{w:World}{A:Around}{E:Value->Shared->Prop}{s:Shared}
set_option maxRecDepth 100000 in
end
section
variable {κ:Type}[DecidableEq κ]
def cM(kvs:List (κ×V))(k:κ):Option V:=(kvs.find? fun kv=>decide (kv.1=k)).map (·.2)
def putK(kvs:List (κ×V))(k:κ)(v:V):List (κ×V):=
 if (kvs.any fun kv=>decide (kv.1=k))=true then kvs.map (fun kv=>if kv.1=k then (kv.1,v)else kv)else kvs++ [(k,v)]
theorem dt{p:κ×V}{r:List (κ×V)}{k:κ}(e:p.1=k):cM (p::r) k=some p.2:=by simp[cM,List.find?_cons,e]
theorem du{p:κ×V}{r:List (κ×V)}{k:κ}(e:¬p.1=k):cM (p::r) k=cM r k:=by simp[cM,List.find?_cons,e]
theorem i0(k:κ):∀kvs:List (κ×V),(kvs.any fun kv=>decide (kv.1=k))=(cM kvs k).isSome
 | []=>rfl
 | p::r=>by
  rw[List.any_cons];by_cases e:p.1=k
  ·simp only[dt e,decide_eq_true e,Bool.true_or,Option.isSome_some]
  ·rw[du e,decide_eq_false e,Bool.false_or];exact i0 k r
theorem va(k j:κ)(y:V):∀kvs:List (κ×V),cM (kvs.map fun kv=>if kv.1=k then (kv.1,y)else kv) j=(cM kvs j).map fun x=>if j=k then y else x
 | []=>rfl
 | p::r=>by
  have ih:=va k j y r;rw[el];by_cases h:p.1=k
  ·rw[if_pos h];by_cases e:p.1=j
   ·rw[dt (p:=(p.1,y)) e,dt e,Option.map_some,if_pos (e.symm.trans h)]
   ·rw[du (p:=(p.1,y)) e,du e,ih]
  ·rw[if_neg h];by_cases e:p.1=j
   ·rw[dt (p:=p) e,dt e,Option.map_some,if_neg (fun z=>h (e.trans z))]
   ·rw[du (p:=p) e,du e,ih]
theorem rR(k j:κ)(y:V):∀kvs:List (κ×V),cM kvs k=none->cM (kvs++ [(k,y)]) j=if j=k then some y else cM kvs j
 | [],_=>by
  by_cases e:k=j
  ·rw[if_pos e.symm];exact dt (p:=(k,y)) e
  ·rw[if_neg (fun z=>e z.symm)];exact du (p:=(k,y)) e
 | p::r,hn=>by
  rw[List.cons_append];have hk:¬p.1=k:=fun z=>by rw[dt z]at hn;cases hn
  rw[du hk]at hn;have ih:=rR k j y r hn;by_cases e:p.1=j
  ·rw[dt e,dt e,if_neg (fun z=>hk (e.trans z))]
  ·rw[du e,du e,ih]
theorem dE(kvs:List (κ×V))(k j:κ)(y:V):cM (putK kvs k y) j=if j=k then some y else cM kvs j:=by
 unfold putK;by_cases a:(kvs.any fun kv=>decide (kv.1=k))=true
 ·rw[if_pos a,va];rw[i0]at a;by_cases e:j=k
  ·obtain⟨x,hx⟩:=Option.isSome_iff_exists.mp a;rw[if_pos e,e,hx,Option.map_some,if_pos rfl]
  ·rw[if_neg e];cases cM kvs j with
   | none=>rfl
   | some x=>rw[Option.map_some,if_neg e]
 ·rw[if_neg a];refine rR k j y kvs ?_;rw[i0]at a;cases q:cM kvs k with
  | none=>rfl
  | some x=>rw[q]at a;exact(a rfl).elim
theorem bV(kvs:List (κ×V))(k:κ)(v:V):(putK kvs k v).length<=kvs.length+1:=by
 unfold putK;split
 ·rw[List.length_map];omega
 ·rw[ar,eh,List.length_nil];omega
theorem C1{kvs:List (κ×V)}{k:κ}(v:V)(h:cM kvs k=none):putK kvs k v=kvs++ [(k,v)]:=by unfold putK;rw[i0,h];exact if_neg (by decide)
theorem gU.gX{o:Option V}{u:Option Value}(r:gU o u):o.isSome=u.isSome:=by
 cases o with
 | none=>cases u with
  | none=>rfl
  | some _=>exact(show False from r).elim
 | some _=>cases u with
  | none=>exact(show False from r).elim
  | some _=>rfl
theorem gU.getD{o:Option V}{u:Option Value}{d:V}{d':Value}(r:gU o u)(rd:RelV d d'):RelV (o.getD d) (u.getD d'):=by
 cases o with
 | none=>cases u with
  | none=>exact rd
  | some _=>exact(show False from r).elim
 | some _=>cases u with
  | none=>exact(show False from r).elim
  | some _=>exact r
theorem KV.val{kvs:List (κ×V)}{vs:List (κ×Value)}(r:KV kvs vs)(k:κ):gU (cM kvs k) (valueAt vs k):=by
 unfold KV at r
 induction r with
 | nil=>exact True.intro
 | @cons p q ps qs h t ih=>
  obtain⟨h1,h2⟩:=h;by_cases e:p.1=k
  ·have e':q.1=k:=h1.symm.trans e;have b:valueAt (q::qs) k=some q.2:=by simp[valueAt,List.find?_cons,e']
   rw[dt e,b];exact h2
  ·have e':¬q.1=k:=fun z=>e (h1.trans z);have b:valueAt (q::qs) k=valueAt qs k:=by simp[valueAt,List.find?_cons,e']
   rw[du e,b];exact ih
theorem KV.any{kvs:List (κ×V)}{vs:List (κ×Value)}(r:KV kvs vs)(k:κ):(kvs.any fun kv=>decide (kv.1=k))=vs.any fun kv=>decide (kv.1=k):=by
 unfold KV at r
 induction r with
 | nil=>rfl
 | cons h t ih=>rw[List.any_cons,List.any_cons,ih,h.1]
theorem KV.repl{kvs:List (κ×V)}{vs:List (κ×Value)}(r:KV kvs vs)(k:κ){y:V}{u:Value}(ry:RelV y u):
  KV (kvs.map fun kv=>if kv.1=k then (kv.1,y)else kv) (vs.map fun kv=>if kv.1=k then (kv.1,u)else kv):=by
 unfold KV at r ⊢
 induction r with
 | nil=>exact .nil
 | @cons p q ps qs h t ih=>
  rw[el,el];refine .cons ?_ ih;obtain⟨h1,h2⟩:=h;by_cases e:p.1=k
  ·rw[if_pos e,if_pos (h1.symm.trans e)];exact⟨h1,ry⟩
  ·rw[if_neg e,if_neg (fun z=>e (h1.trans z))];exact⟨h1,h2⟩
theorem KV.put{kvs:List (κ×V)}{vs:List (κ×Value)}(r:KV kvs vs)(k:κ){y:V}{u:Value}(ry:RelV y u):KV (putK kvs k y) (stored vs k u):=by
 unfold putK stored;rw[r.any k];by_cases e:(vs.any fun kv=>decide (kv.1=k))=true
 ·rw[if_pos e,if_pos e];exact r.repl k ry
 ·rw[if_neg e,if_neg e];exact Paired.snoc r ⟨rfl,ry⟩
theorem KV.length{kvs:List (κ×V)}{vs:List (κ×Value)}(r:KV kvs vs):kvs.length=vs.length:=Paired.length r
end
theorem ph{P:Program}{w:World}{k:Key}{u:Value}(r:RelV (kV k) u):(cV P w).is k u=true:=by
 cases k with
 | inl i=>obtain⟨t,e⟩:=(show ∃t,u=Value.int i t from r);subst e;exact uV P w i t
 | inr x=>obtain⟨t,e⟩:=(show ∃t,u=Value.str x t from r);subst e;exact uW P w x t
theorem rS{P:Program}{w:World}:∀{ks:List Key} {us:List Value},Vals (ks.map kV) us->ItemsAre (cV P w) ks us
 | [],_,r=>by rw[List.map_nil]at r;cases r;exact .nil
 | k::ks,_,r=>by
  rw[el]at r;cases r with
  | cons h t=>exact .cons (ph h) (rS t)
abbrev KT(H:Hp):List (List Key×V)->List (List Key×Addr×Value)->Prop:=Paired fun p q=>p.1=q.1/\H q.2.1=some (.tup (p.1.map kV))/\RelV p.2 q.2.2
theorem KT.val{H:Hp}{kvs:List (List Key×V)}{xs:List (List Key×Addr×Value)}(r:KT H kvs xs)(k:List Key):gU (cM kvs k) ((atKey xs k).map (·.2)):=by
 induction r with
 | nil=>exact True.intro
 | @cons p q ps qs h t ih=>
  obtain⟨h1,_,h2⟩:=h;by_cases e:p.1=k
  ·have e':q.1=k:=h1.symm.trans e;have b:atKey (q::qs) k=some q.2:=by simp[atKey,List.find?_cons,e']
   rw[dt e,b];exact h2
  ·have e':¬q.1=k:=fun z=>e (h1.trans z);have b:atKey (q::qs) k=atKey qs k:=by simp[atKey,List.find?_cons,e']
   rw[du e,b];exact ih
theorem KT.repl{H:Hp}{kvs:List (List Key×V)}{xs:List (List Key×Addr×Value)}(r:KT H kvs xs)(k:List Key){y:V}{u:Value}(ry:RelV y u):
  KT H (kvs.map fun kv=>if kv.1=k then (kv.1,y)else kv) (xs.map (putAt k u)):=by
 induction r with
 | nil=>exact .nil
 | @cons p q ps qs h t ih=>
  rw[el,el];refine .cons ?_ ih;obtain⟨h1,h2,h3⟩:=h;unfold putAt;by_cases e:p.1=k
  ·rw[if_pos e,if_pos (h1.symm.trans e)];exact⟨h1,h2,ry⟩
  ·rw[if_neg e,if_neg (fun z=>e (h1.trans z))];exact⟨h1,h2,h3⟩
theorem KT.put{H:Hp}{kvs:List (List Key×V)}{xs:List (List Key×Addr×Value)}(r:KT H kvs xs)(k:List Key){b:Addr}{y:V}{u:Value}(hb:H b=some (.tup (k.map kV)))(ry:RelV y u):
  KT H (putK kvs k y) (storedH xs k b u):=by
 have e:(kvs.any fun kv=>decide (kv.1=k))=(atKey xs k).isSome:=by rw[i0,(r.val k).gX,Option.isSome_map]
 unfold putK storedH;rw[e];by_cases q:(atKey xs k).isSome=true
 ·rw[if_pos q,if_pos q];exact r.repl k ry
 ·rw[if_neg q,if_neg q];exact Paired.snoc r ⟨rfl,hb,ry⟩
theorem KT.keeps{H H':Hp}{kvs:List (List Key×V)}{xs:List (List Key×Addr×Value)}(r:KT H kvs xs)(ht:∀b ys,H b=some (.tup ys)->H' b=some (.tup ys)):KT H' kvs xs :=
 Paired.KO r fun _ _ z=>⟨z.1,ht _ _ z.2.1,z.2.2⟩
section
variable {P:Program}{w:World}{H:Hp}{h:Heap}{a:Addr}
theorem JO{u:HO}(ok:iT P w H h)(e:Rd H a u):bu P w H h a u:=e.ok ok
theorem mU{kvs:List (Key×V)}(ok:iT P w H h)(e:Rd H a (.dK kvs)):kvs.length<=fw/\(a==sysModules)=false/\∃vs,KV kvs vs/\h.DictOf (cV P w) a vs :=
 show bu P w H h a (.dK kvs)from JO ok e
theorem JP{kvs:List (Key×V)}(ok:iT P w H h)(e:H a=some (.dK kvs)):kvs.length<=fw/\(a==sysModules)=false/\∃vs,KV kvs vs/\h.DictOf (cV P w) a vs:=mU ok (.inl e)
theorem lJ{ks:List Key}(ok:iT P w H h)(e:H a=some (.tup (ks.map kV))):(tupleKind (cV P w)).is h ks a:=by obtain⟨_,its,r,o,h1,h2,n,h3⟩:=(show bu P w H h a (.tup (ks.map kV))from ok a _ e);exact⟨o,its.toArray,n,h1,h2,h3,by simpa using rS r⟩
theorem pj{kvs:List (List Key×V)}(ok:iT P w H h)(e:Rd H a (.dT kvs)):kvs.length<=fw/\(a==sysModules)=false/\
  ∃xs,KT H kvs xs/\h.DictOfH (tupleKind (cV P w)) a xs:=by
 obtain⟨z,y,xs,r,o,es,ep,h1,h2,h3,h4,h5⟩:=(show bu P w H h a (.dT kvs)from JO ok e);refine⟨z,y,xs,r,o,es,ep,h1,h2,h3,h4,fun x hx=>?_,h5⟩;have all:∀{l:List (List Key×V)} {m:List (List Key×Addr×Value)},KT H l m->∀x∈m,(tupleKind (cV P w)).is h x.1 x.2.1:=by
  intro l m q
  induction q with
  | nil=>intro x hx;exact nomatch hx
  | @cons p q ps qs hq t ih=>
   intro x hx;rcases List.mem_cons.mp hx with e | hx
   ·subst e;exact lJ ok (by rw[<-hq.1];exact hq.2.1)
   ·exact ih x hx
 exact all r x hx
theorem Qe{kvs:List (List Key×V)}(ok:iT P w H h)(e:H a=some (.dT kvs)):kvs.length<=fw/\(a==sysModules)=false/\
  ∃xs,KT H kvs xs/\h.DictOfH (tupleKind (cV P w)) a xs:=pj ok (.inl e)
def eO(H:Hp)(a:Addr)(y:V)(r:Option V):Prop :=
 (∃kvs k,Rd H a (.dK kvs)/\y=kV k/\r=cM kvs k)\/∃kvs k b,Rd H a (.dT kvs)/\y=.ref b/\H b=some (.tup (k.map kV))/\r=cM kvs k
def jV(H:Hp)(a:Addr)(y v:V)(H':Hp):Prop :=
 (∃kvs k,H a=some (.dK kvs)/\y=kV k/\kvs.length<fw/\H'=upd H a (.dK (putK kvs k v)))\/
 ∃kvs k b,H a=some (.dT kvs)/\y=.ref b/\H b=some (.tup (k.map kV))/\kvs.length<fw/\H'=upd H a (.dT (putK kvs k v))
theorem eO.k{H:Hp}{a:Addr}{kvs:List (Key×V)}{k:Key}(e:H a=some (.dK kvs)):eO H a (kV k) (cM kvs k):=.inl ⟨kvs,k,.inl e,rfl,rfl⟩
theorem eO.t{H:Hp}{a b:Addr}{kvs:List (List Key×V)}{k:List Key}(e:H a=some (.dT kvs))(eb:H b=some (.tup (k.map kV))):eO H a (.ref b) (cM kvs k):=.inr ⟨kvs,k,b,.inl e,rfl,eb,rfl⟩
theorem jV.k{H:Hp}{a:Addr}{kvs:List (Key×V)}{k:Key}{v:V}(e:H a=some (.dK kvs))(hl:kvs.length<fw):jV H a (kV k) v (upd H a (.dK (putK kvs k v))):=.inl ⟨kvs,k,e,rfl,hl,rfl⟩
theorem jV.t{H:Hp}{a b:Addr}{kvs:List (List Key×V)}{k:List Key}{v:V}(e:H a=some (.dT kvs))(eb:H b=some (.tup (k.map kV)))(hl:kvs.length<fw):
  jV H a (.ref b) v (upd H a (.dT (putK kvs k v))):=.inr ⟨kvs,k,b,e,rfl,eb,hl,rfl⟩
variable {X:Cx}{kb:List (Addr×Obj)}{σ:St}{s:Shared}{y v:V}{u r:Value}{o:Option V}{A:Around}{E:Value->Shared->Prop}
theorem Inv.big(I:Inv X kb σ H s):sysModules<s.heap.objs.size:=by have h:fm<s.heap.objs.size:=(I.mod.glob.keeps I.bk).lt;exact Nat.lt_trans (by decide) h
theorem AH{Q:Value->Shared->Prop}(hu:A.units+1<cLine)(I:Inv X kb σ H s)(g:eO H a y (some v))(ry:RelV y u)(h:∀w' s',Inv X kb σ H s'->RelV v w'->Q w' s'):
  wpAny (model X.prog X.w) A (getItem (.ref a) u) Q E s:=by
 rcases g with ⟨kvs,k,e,ey,l⟩ | ⟨kvs,k,b,e,ey,eb,l⟩
 ·subst ey;obtain⟨z,hd,vs,rel,dd⟩:=mU I.hok e;obtain⟨w',hw,AG⟩:=gU.some_of (v:=v) (o:=valueAt vs k) (by rw[l];exact rel.val k);exact wpAny_getItem_of (ph ry) dd.mapOf hw (h w' _ (I.tok _) AG)
 ·subst ey;cases (show u=Value.ref b from ry);obtain⟨z,hd,xs,rel,dd⟩:=pj I.hok e;obtain⟨w',hw,AG⟩:=gU.some_of (v:=v) (o:=(atKey xs k).map (·.2)) (by rw[l];exact rel.val k);obtain⟨p,hp,hp2⟩:=Option.map_eq_some_iff.mp hw;refine wpAny_getItem_heap (tupleKind_room_in1 hu) (lJ I.hok eb) dd hp ?_;rw[hp2];exact h w' _ (I.tok _) AG
theorem Vn{Q:Value->Shared->Prop}(hu:A.units+1<cLine)(I:Inv X kb σ H s)(g:eO H a y o)(ry:RelV y u)(h:∀s',Inv X kb σ H s'->Q (.bool o.isSome) s'):
  wpAny (model X.prog X.w) A (compareOp .In u (.ref a)) Q E s:=by
 rcases g with ⟨kvs,k,e,ey,l⟩ | ⟨kvs,k,b,e,ey,eb,l⟩
 ·subst ey;obtain⟨z,hd,vs,rel,dd⟩:=mU I.hok e;refine wpAny_in_of (ph ry) hd dd.mapOf ?_;rw[<-(rel.val k).gX,<-l];exact h _ (I.tok _)
 ·subst ey;cases (show u=Value.ref b from ry);obtain⟨z,hd,xs,rel,dd⟩:=pj I.hok e;refine wpAny_in_heap (tupleKind_room_in1 hu) (lJ I.hok eb) hd dd ?_;have q:=(rel.val k).gX;rw[Option.isSome_map]at q;rw[<-q,<-l];exact h _ (I.tok _)
theorem GO{Q:Value->Shared->Prop}(hu:A.units+1<cLine)(I:Inv X kb σ H s)(g:eO H a y o)(ry:RelV y u)(h:∀s',Inv X kb σ H s'->Q (.bool (!o.isSome)) s'):
  wpAny (model X.prog X.w) A (compareOp .NotIn u (.ref a)) Q E s:=by
 rcases g with ⟨kvs,k,e,ey,l⟩ | ⟨kvs,k,b,e,ey,eb,l⟩
 ·subst ey;obtain⟨z,hd,vs,rel,dd⟩:=mU I.hok e;refine wpAny_notIn_of (ph ry) hd dd.mapOf ?_;rw[<-(rel.val k).gX,<-l];exact h _ (I.tok _)
 ·subst ey;cases (show u=Value.ref b from ry);obtain⟨z,hd,xs,rel,dd⟩:=pj I.hok e;refine wpAny_notIn_heap (tupleKind_room_in1 hu) (lJ I.hok eb) hd dd ?_;have q:=(rel.val k).gX;rw[Option.isSome_map]at q;rw[<-q,<-l];exact h _ (I.tok _)
theorem oz{h':Heap}{t':Nat}{ob:HO}(I:Inv X kb σ H s)(mu:PF (H a))(hs:Heap.SameBut a s.heap h')(he:∃q,h'.get? a=some q)(new:bu X.prog X.w (upd H a ob) h' a ob):
  Inv X kb σ (upd H a ob) {s with heap:=h',toks:=t'}:=
 I.write (x:=a) (e:=a) mu (.inl rfl) (fun b q hb z=>(hs.2 b hb).trans z) he new
theorem xD{P:Program}{w:World}{H':Hp}{h':Heap}{kvs:List (Key×V)}{vs:List (Key×Value)}(z:kvs.length<=fw)(hd:(a==sysModules)=false)(rel:KV kvs vs)(dd:h'.DictOf (cV P w) a vs):
  bu P w H' h' a (.dK kvs):=⟨z,hd,vs,rel,dd⟩
theorem AI{H':Hp}{Q:Unit->Shared->Prop}(hu:A.units+1<cLine)(I:Inv X kb σ H s)(g:jV H a y v H')(ry:RelV y u)(rv:RelV v r)(h:∀s',Inv X kb σ H' s'->Q () s'):
  wpAny (model X.prog X.w) A (setItem (.ref a) u r) Q E s:=by
 rcases g with ⟨kvs,k,e,ey,l,eH⟩ | ⟨kvs,k,b,e,ey,eb,l,eH⟩
 ·subst ey eH;obtain⟨z,hd,vs,rel,dd⟩:=JP I.hok e;have hz:vs.length<=fw:=by rw[<-rel.length];exact z
  have hl:(putK kvs k v).length<=fw:=by have:=bV kvs k v;omega
  refine wpAny_setItem_pairs (hsz:=hz) (ph ry) dd fun h' AJ hs=>h _ ?_;have he:∃q,h'.get? a=some q:=let ⟨q,_,_,hq,_⟩:=AJ;⟨q,hq⟩;exact oz I (by rw[e];exact True.intro) hs he (xD hl hd (rel.put k rv) AJ)
 ·subst ey eH;cases (show u=Value.ref b from ry);obtain⟨z,hd,xs,rel,dd⟩:=Qe I.hok e;have hz:xs.length<=fw:=by rw[<-Paired.length rel];exact z
  have hl:(putK kvs k v).length<=fw:=by have:=bV kvs k v;omega
  refine wpAny_setItem_heap (hsz:=hz) (tupleKind_room_in1 hu) (lJ I.hok eb) dd fun h' AJ hs=>h _ ?_;obtain⟨q,es,ep,hq,h2,h3,h4,_,h5⟩:=AJ;refine oz I (by rw[e];exact True.intro) hs ⟨q,hq⟩ ⟨hl,hd,_,(rel.put k eb rv).keeps fun c ys ec=>?_,q,es,ep,hq,h2,h3,h4,h5⟩;rw[aw (jJ ec e (fun z=>nomatch z))];exact ec
variable {kvs:List (Key×V)}{k:Key}
end
def Lh(i:Expr):Prop:=∀ov iv,subscripted i false ov iv=operate [ov,iv] (getItem ov iv)
theorem zD{prog:Program}{w:World}{A:Around}{E:Value->Shared->Prop}{s:Shared}{env:Env}{value slice:Expr}{pos:Pos}{T id:String}{Q:Value->Shared->Prop}
  (hl:typeLookup (.type T) "__getitem__"=pure (some (.builtin id))) (hs:Lh slice)
  (h:wpAny (model prog w) A (eval value env) (fun o s₁=>wpAny (model prog w) A (eval slice env) (fun i s₂=>s₂.TypeIs o T/\wpAny (model prog w) A (getItem o i) Q E s₂) E s₁) E s):
  wpAny (model prog w) A (eval (.Subscript value slice pos) env) Q E s:=by
 refine Subscript_ (ge h (fun o s₁ h₁=>ge h₁ (fun i s₂ h₂=>?_) fun _ _ x=>x) fun _ _ x=>x);obtain⟨hT,h₂⟩:=h₂;unfold subscriptTail;refine ff ?_;rw[getitemInPython_of_ne hT.not_modules];refine ff (wpAny_specialOf hT hl ?_);have fin:wpAny (model prog w) A (subscripted slice false o i) (fun r s₃=>wpAny (model prog w) A (letTemporaryGo value o r>>=fun _=>pure r) Q E s₃) E s₂:=by rw[hs o i];exact wpAny_operating (ge h₂ (fun r s₃ h₃=>ff (wpAny_letTemporaryGo (fg h₃))) fun _ _ x=>x)
 first
  | exact fg (ff fin)
  | exact ff (fg (ff fin))
  | exact ff fin
theorem vb{X:Cx}{kb:List (Addr×Obj)}{σ:St}{H:Hp}{s:Shared}{a:Addr}{y:V}{o:Option V}(I:Inv X kb σ H s)(g:eO H a y o):s.TypeIs (.ref a) "dict":=by
 rcases g with ⟨kvs,k,e,_,_⟩ | ⟨kvs,k,b,e,_,_,_⟩
 ·obtain⟨_,_,vs,_,dd⟩:=mU I.hok e;exact dd.typeIs
 ·obtain⟨_,_,xs,_,dd⟩:=pj I.hok e;exact dd.typeIs
def Qf(td ty:TE):TE:=fun σ H Q=>td σ H fun x H1=>ty σ H1 fun y H2=>∃a v,x=.ref a/\eO H2 a y (some v)/\Q v H2
def Vo(ty td:TE):TE:=fun σ H Q=>ty σ H fun y H1=>td σ H1 fun x H2=>∃a o,x=.ref a/\eO H2 a y o/\Q (.bl o.isSome) H2
def GQ(ty td:TE):TE:=fun σ H Q=>ty σ H fun y H1=>td σ H1 fun x H2=>∃a o,x=.ref a/\eO H2 a y o/\Q (.bl (!o.isSome)) H2
def Qg(td ty tv:TE):TS:=fun D σ H=>tv σ H fun v H1=>td σ H1 fun x H2=>ty σ H2 fun y H3=>∃a H4,x=.ref a/\jV H3 a y v H4/\D.nx σ H4
section
variable {X:Cx}{o i e value:Expr}{pos pos' tpos:Pos}{td ty tv:TE}
theorem eE(hu:X.A.units+1<cLine)(ho:PE X o td)(hi:PE X i ty)(hs:Lh i):PE X (.Subscript o i pos) (Qf td ty):=by intro kb s σ H Q I h;refine zD PySem.F.slot_dict_getitem.lookup hs (ck (ho kb s σ H _ I h) fun u s1 ⟨x,H1,I1,rx,q1⟩=>ck (hi kb s1 σ H1 _ I1 q1) fun iv s2 ⟨y,H2,I2,ry,a,v,ex,g,q2⟩=>?_);subst ex;obtain rfl:u=Value.ref a:=rx;exact⟨vb I2 g,AH hu I2 g ry fun w' s3 I3 AG=>⟨v,H2,I3,AG,q2⟩⟩
theorem C2(hu:X.A.units+1<cLine)(hi:PE X i ty)(ho:PE X o td):PC X .In i o (Vo ty td):=by intro kb s σ H Q I h;refine ck (hi kb s σ H _ I h) fun iv s1 ⟨y,H1,I1,ry,q1⟩=>ck (ho kb s1 σ H1 _ I1 q1) fun u s2 ⟨x,H2,I2,rx,a,ov,ex,g,q2⟩=>?_;subst ex;obtain rfl:u=Value.ref a:=rx;exact Vn hu I2 g ry fun s3 I3=>⟨.bl ov.isSome,H2,I3,rfl,q2⟩
theorem jx(hu:X.A.units+1<cLine)(hi:PE X i ty)(ho:PE X o td):PC X .NotIn i o (GQ ty td):=by intro kb s σ H Q I h;refine ck (hi kb s σ H _ I h) fun iv s1 ⟨y,H1,I1,ry,q1⟩=>ck (ho kb s1 σ H1 _ I1 q1) fun u s2 ⟨x,H2,I2,rx,a,ov,ex,g,q2⟩=>?_;subst ex;obtain rfl:u=Value.ref a:=rx;exact GO hu I2 g ry fun s3 I3=>⟨.bl (!ov.isSome),H2,I3,rfl,q2⟩
theorem d0(hu:X.A.units+1<cLine)(ho:PE X o td)(hi:PE X i ty)(hv:PE X value tv)(hs:swapsWith value (some (.Subscript o i pos')) pos.line X.env=pure false):
  PS X (.Assign [.Subscript o i pos'] value pos) (Qg td ty tv):=by
 intro kb s σ H D I h;refine wpAny_Assign_Subscript (ck (hv kb s σ H _ I h) fun r s1 ⟨v,H1,I1,rv,q1⟩=>ck (ho kb s1 σ H1 _ I1 q1) fun u s2 ⟨x,H2,I2,rx,q2⟩=>ck (hi kb s2 σ H2 _ I2 q2) fun iv s3 ⟨y,H3,I3,ry,a,H4,ex,g,q3⟩=>?_) hs;subst ex;obtain rfl:u=Value.ref a:=rx;exact AI hu I3 g ry rv fun s4 I4=>⟨σ,H4,I4,q3⟩
theorem vd{P:Program}{w:World}{H:Hp}(h:Heap)(hb:sysModules<h.objs.size):bu P w H (h.push {cls:=.type "dict",data:=.dict #[]}) h.objs.size (.dK []):=
 ⟨Nat.zero_le _,beq_eq_false_iff_ne.mpr (Ne.symm (mi hb)),[],.nil,Heap.DictOf.new h⟩
theorem C3{P:Program}{w:World}{H:Hp}(h:Heap)(hb:sysModules<h.objs.size):bu P w H (h.push {cls:=.type "dict",data:=.dict #[]}) h.objs.size (.dT []):=
 ⟨Nat.zero_le _,beq_eq_false_iff_ne.mpr (Ne.symm (mi hb)),[],.nil,_,#[],0,gv _ rfl,⟨rfl,rfl,rfl⟩,rfl,rfl,List.nodup_nil⟩
def Li:TE:=fun _ H Q=>∀p,H p=none->Q (.ref p) (upd H p (.dK []))
def Lj:TE:=fun _ H Q=>∀p,H p=none->Q (.ref p) (upd H p (.dT []))
theorem gY:PE X (.Dict [] [] pos) Li:=fun kb s σ H Q I h=>
 wpAny_Dict_empty ⟨.ref s.heap.objs.size,_,I.laid (a:=s.heap.objs.size) (o:=.dK []) (t':=s.toks) (fun _ _ q=>gs _ q) (mf _) (vd s.heap I.big),rfl,h _ (I.hok.fresh (mf _))⟩
theorem C4:PE X (.Dict [] [] pos) Lj:=fun kb s σ H Q I h=>
 wpAny_Dict_empty ⟨.ref s.heap.objs.size,_,I.laid (a:=s.heap.objs.size) (o:=.dT []) (t':=s.toks) (fun _ _ q=>gs _ q) (mf _) (C3 s.heap I.big),rfl,h _ (I.hok.fresh (mf _))⟩
end
def xE:List (TE×TE)->St->Hp->(List (V×V)->Hp->Prop)->Prop
 | [],_,H,Q=>Q [] H
 | (tk,tv)::r,σ,H,Q=>tk σ H fun x H1=>tv σ H1 fun y H2=>xE r σ H2 fun ps H3=>Q ((x,y)::ps) H3
abbrev VV:List (V×V)->List (Value×Value)->Prop:=Paired fun p q=>RelV p.1 q.1/\RelV p.2 q.2
def Qh(X:Cx)(pos:Pos)(keys:List (Option Expr))(values:List Expr)(uS:List (TE×TE)):Prop :=
 ∀(kb:List (Addr×Obj)) (s:Shared) (σ:St) (H:Hp) (Q:List (V×V)->Hp->Prop),Inv X kb σ H s->xE uS σ H Q->
  wpAny (model X.prog X.w) X.A (evalPairs (pairTrees keys values X.env pos)) (fun vs s'=>∃ps H',Inv X kb σ H' s'/\VV ps vs/\Q ps H') X.xe s
theorem GU{X:Cx}{pos:Pos}:Qh X pos [] [] []:=fun kb s σ H Q I h=>pairTrees_nil_walk ⟨[],H,I,.nil,h⟩
theorem C5{X:Cx}{pos:Pos}{k v:Expr}{ks:List (Option Expr)}{vs:List Expr}{tk tv:TE}{uS:List (TE×TE)}(hk:PE X k tk)(hv:PE X v tv)(hr:Qh X pos ks vs uS):
  Qh X pos (some k::ks) (v::vs) ((tk,tv)::uS):=fun kb s σ H Q I h=>
 pairTrees_cons_walk (ck (hk kb s σ H _ I h) fun u s1 ⟨x,H1,I1,rx,q1⟩=>ck (hv kb s1 σ H1 _ I1 q1) fun w2 s2 ⟨y,H2,I2,ry,q2⟩=>
  ck (hr kb s2 σ H2 _ I2 q2) fun ws s3 ⟨ps,H3,I3,rel,q3⟩=>⟨(x,y)::ps,H3,I3,.cons ⟨rx,ry⟩ rel,q3⟩)
def lK(kvs more:List (Key×V)):List (Key×V):=more.foldl (fun acc kv=>putK acc kv.1 kv.2) kvs
theorem KV.merge:∀{more:List (Key×V)} {rs:List (Key×Value)} {kvs:List (Key×V)} {vs:List (Key×Value)},KV more rs->KV kvs vs->KV (lK kvs more) (merged vs rs):=by
 intro more rs kvs vs r;unfold KV at r
 induction r generalizing kvs vs with
 | nil=>intro q;exact q
 | @cons p q ps qs h t ih=>
  intro r0;have e:KV (putK kvs p.1 p.2) (stored vs q.1 q.2):=by have:=r0.put p.1 h.2;rw[<-h.1];exact this
  exact ih e
theorem jK:∀(more kvs:List (Key×V)),(lK kvs more).length<=kvs.length+more.length
 | [],kvs=>by show kvs.length<=kvs.length+0;omega
 | p::r,kvs=>by have h1:=jK r (putK kvs p.1 p.2);have h2:=bV kvs p.1 p.2;show(lK (putK kvs p.1 p.2) r).length<=_;rw[eh];omega
theorem pq{P:Program}{w:World}:∀{kvs:List (Key×V)} {ws:List (Value×Value)},VV (kvs.map fun kv=>(kV kv.1,kv.2)) ws->∃rs,Carries (cV P w) ws rs/\KV kvs rs
 | [],_,r=>by rw[List.map_nil]at r;cases r;exact⟨[],True.intro,.nil⟩
 | p::kvs,_,r=>by
  rw[el]at r;cases r with
  | @cons a b as bs h t=>
   obtain⟨rs,c,q⟩:=pq (P:=P) (w:=w) t;obtain⟨b1,b2⟩:=b;exact⟨(p.1,b2)::rs,⟨ph h.1,rfl,c⟩,.cons ⟨rfl,h.2⟩ q⟩
def JQ(uS:List (TE×TE)):TE:=fun σ H Q=>∀p,H p=none->xE uS σ (upd H p (.dK [])) fun ps H2=>H2 p=some (.dK [])/\∃kvs:List (Key×V),ps=kvs.map (fun kv=>(kV kv.1,kv.2))/\kvs.length<=15/\Q (.ref p) (upd H2 p (.dK (lK [] kvs)))
theorem GV{X:Cx}{pos:Pos}{keys:List (Option Expr)}{values:List Expr}{uS:List (TE×TE)}(h:Qh X pos keys values uS)(hall:keys.all (·.isSome)=true)(hl:keys.length=values.length)(h0:keys≠ [])
  (h15:keys.length<=15):PE X (.Dict keys values pos) (JQ uS):=by
 intro kb s σ H Q I q;have hn:=I.hok.fresh (mf s.heap.objs.size);have I1:=I.laid (a:=s.heap.objs.size) (o:=.dK []) (h':=s.heap.push {cls:=.type "dict",data:=.dict #[]}) (t':=s.toks) (fun _ _ q=>gs _ q) (mf _) (vd s.heap I.big);refine wpAny_Dict_walk (knd:=cV X.prog X.w) hall hl h0 h15 (ck (h kb _ σ _ _ I1 (q _ hn)) fun ws s2 ⟨ps,H2,I2,rel,e,kvs,ep,lk,q2⟩=>?_);subst ep;obtain⟨rs,c,rk⟩:=pq (P:=X.prog) (w:=X.w) rel;obtain⟨z,hd,vs0,r0,dd⟩:=JP I2.hok e;cases r0;refine⟨rs,c,dd,fun h' AJ hs=>⟨.ref s.heap.objs.size,_,?_,rfl,q2⟩⟩;have hz:(lK [] kvs).length<=fw:=by have h1:=jK kvs [];rw[List.length_nil]at h1;rw[sizeLine_eq];omega
 have he:∃q,h'.get? s.heap.objs.size=some q:=let ⟨q,_,_,hq,_⟩:=AJ;⟨q,hq⟩;exact oz I2 (by rw[e];exact True.intro) hs he (xD hz hd (rk.merge .nil) AJ)
structure M1(X:Cx)(o:Expr)(m:Str)(apos:Pos)(e:Expr)(cpos:Pos):Prop where
 base:attributeBase o m X.env (eval o X.env)=eval o X.env
 few:((backTo cpos (starEach [e] X.env)).all (fun x=>!x.1)&&(backToKw cpos (keywordEach [] X.env)).all (fun x=>x.1.isSome)
  &&decide (([e]:List Expr).length+([]:List Keyword).length+(if ([]:List Keyword).isEmpty then 0 else 1)<30))=true
 line:(apos.endLine==cpos.line)=true
 trees:backTo cpos (starEach [e] X.env)=[(false,eval e X.env)]
structure M2(X:Cx)(o:Expr)(m:Str)(apos:Pos)(e f:Expr)(cpos:Pos):Prop where
 base:attributeBase o m X.env (eval o X.env)=eval o X.env
 few:((backTo cpos (starEach [e,f] X.env)).all (fun x=>!x.1)&&(backToKw cpos (keywordEach [] X.env)).all (fun x=>x.1.isSome)
  &&decide (([e,f]:List Expr).length+([]:List Keyword).length+(if ([]:List Keyword).isEmpty then 0 else 1)<30))=true
 line:(apos.endLine==cpos.line)=true
 trees:backTo cpos (starEach [e,f] X.env)=[(false,eval e X.env),(false,eval f X.env)]
def IsD(H:Hp)(a:Addr):Prop:=(∃kvs,Rd H a (.dK kvs))\/∃kvs,Rd H a (.dT kvs)
theorem Lk{X:Cx}{kb:List (Addr×Obj)}{σ:St}{H:Hp}{s:Shared}{a:Addr}(I:Inv X kb σ H s)(d:IsD H a):
  s.TypeIs (.ref a) "dict"/\(∀b,Value.ref a=.ref b->∃ob,s.heap.get? b=some ob/\ob.dict=none)/\(a==sysModules)=false:=by
 rcases d with ⟨kvs,e⟩ | ⟨kvs,e⟩
 ·obtain⟨_,hd,vs,_,dd⟩:=mU I.hok e;refine⟨dd.typeIs,fun b q=>?_,hd⟩;cases q;obtain⟨ob,_,_,h1,h2,_⟩:=dd;exact⟨ob,h1,h2.2.1⟩
 ·obtain⟨_,hd,xs,_,dd⟩:=pj I.hok e;refine⟨dd.typeIs,fun b q=>?_,hd⟩;cases q;obtain⟨ob,_,_,h1,h2,_⟩:=dd;exact⟨ob,h1,h2.2.1⟩
section
variable {X:Cx}{kb:List (Addr×Obj)}{σ:St}{H:Hp}{s:Shared}{a:Addr}{y d:V}{u r:Value}{o:Option V}{A:Around}{E:Value->Shared->Prop}
theorem Ln{Q:Value->Shared->Prop}(hu:A.units+1<cLine)(I:Inv X kb σ H s)(g:eO H a y o)(ry:RelV y u)(h:∀w' s',Inv X kb σ H s'->RelV (o.getD .non) w'->Q w' s'):
  wpAny (model X.prog X.w) A (call (.builtin "dict.get") [.ref a,u]) Q E s:=by
 rcases g with ⟨kvs,k,e,ey,l⟩ | ⟨kvs,k,b,e,ey,eb,l⟩
 ·subst ey;obtain⟨z,hd,vs,rel,dd⟩:=mU I.hok e;refine call_meetsIn PySem.F.slot_dict_get dd.typeIs PySem.F.entry_dict_get (PySem.F.args_dict_get_2 _ _) (meets_dict_get (cV X.prog X.w) a (ph ry) hd) ⟨_,dd.mapOf,h _ _ (I.tok _) ?_⟩;rw[l];exact(rel.val k).getD rfl
 ·subst ey;cases (show u=Value.ref b from ry);obtain⟨z,hd,xs,rel,dd⟩:=pj I.hok e;refine call_meetsIn PySem.F.slot_dict_get dd.typeIs PySem.F.entry_dict_get (PySem.F.args_dict_get_2 _ _) (meetsH_dict_get (tupleKind (cV X.prog X.w)) a b hd) ⟨tupleKind_room_in1 hu,k,xs,lJ I.hok eb,dd,h _ _ (I.tok _) ?_⟩;rw[l];exact(rel.val k).getD rfl
end
def Lp(td ty:TE):TE:=fun σ H Q=>td σ H fun x H1=>∃a,x=.ref a/\IsD H1 a/\ty σ H1 fun y H2=>∃o,eO H2 a y o/\Q (o.getD .non) H2
section
variable {X:Cx}{o e f:Expr}{apos cpos:Pos}{td ty tx:TE}
theorem vf(hu:X.A.units+1<cLine)(ho:PE X o td)(he:PE X e ty)(m:M1 X o "get" apos e cpos):PE X (.Call (.Attribute o "get" apos) [e] [] cpos) (Lp td ty):=by intro kb s σ H Q I h;refine wpAny_Call_method m.base m.few m.line PySem.F.plainAttrs_dict PySem.F.slot_dict_get PySem.F.type_dict_get (ck (ho kb s σ H _ I h) fun u s1 ⟨x,H1,I1,rx,a,ex,d,q1⟩=>?_);subst ex;obtain rfl:u=Value.ref a:=rx;obtain⟨t1,t2,_⟩:=Lk I1 d;refine⟨t1,t2,?_⟩;rw[m.trees];refine Calls.callWith_builtin rfl (Calls.evalArgs_plain (Calls.spliced_cons (ck (he kb s1 σ H1 _ I1 q1) fun iv s2 ⟨y,H2,I2,ry,ov,g,q2⟩=>Calls.spliced_nil ?_)));exact Ln hu I2 g ry fun w' s3 I3 AG=>⟨_,H2,I3,AG,q2⟩
variable {kb:List (Addr×Obj)}{σ:St}{H:Hp}{s:Shared}{a:Addr}{kvs:List (Key×V)}{A:Around}{E:Value->Shared->Prop}
theorem C6{Q:Value->Shared->Prop}(I:Inv X kb σ H s)(e:Rd H a (.dK kvs))(h:∀p s',H p=none->Inv X kb σ (upd H p (.dK kvs)) s'->Q (.ref p) s'):wpAny (model X.prog X.w) A (call (.type "dict") [.ref a]) Q E s:=by obtain⟨z,hd,vs,rel,dd⟩:=mU I.hok e;refine kt_call_dict hd dd (by rw[<-rel.length];exact z) fun h' AJ hs=>?_;refine h _ _ (I.hok.fresh (mf _)) (I.laid (a:=s.heap.objs.size) (o:=.dK kvs) (t':=s.toks) (fun b q hq=>?_) (mf _) (xD z (beq_eq_false_iff_ne.mpr (Ne.symm (mi I.big))) rel AJ));exact(hs.2 b (mi (ii hq))).trans (gs _ hq)
variable {y:V}{u:Value}
end
end L2
namespace Att
open PySem PySem.W PySem.Calls PyProof.Rows
theorem ny{P:Params}{h:Heap}:∀(ns:List Int) (vs:List Value),WellAll P h vs (ns.map WData.int)->IntsAre vs ns:=by
 intro ns
 induction ns with
 | nil=>
  intro vs w;rw[List.map_nil]at w;cases w;exact .nil
 | cons n ns ih=>
  intro vs w;rw[el]at w;cases w with
  | cons a b=>
   cases a;exact .cons _ _ (ih _ b)
theorem AK{l:OpenLaw}{n:Nat}(hn:l.most=some n){P:Params}{h:Heap}{args:List WData}{vals:List Value}
  (hpre:l.row.toRowW.claim.pre args=true) (hwl:WellAll P h vals args):
  ∃a vs ns,vals=[Value.ref a]/\args=[WData.list (ns.map WData.int)]/\h.get? a=some {cls:=.type "list",data:=.seq vs.toArray}/\IntsAre vs ns/\ns.length<=n:=by
 have hsh:WShape.hasAll [] args [.list .int]=true:=(pre_splitW hpre).1;have hc:l.pre.holds [] {args:=args}=true:=(pre_splitW hpre).2;obtain⟨d,r,rfl,h1,h2⟩:=hasAllW_cons hsh;obtain rfl:=hasAllW_nil h2;obtain⟨xs,rfl,h3⟩:=hasW_list h1;obtain⟨ns,rfl⟩:=items_int h3;have hlen:ns.length<=n:=by
  unfold OpenLaw.pre at hc;have h4:(WTm.not (.lt (.lit (.int (n:Int))) (.len (.arg 0)))).holds [] {args:=[.list (ns.map .int)]}=true:=by have h4:=(holds_andW hc).1;rw[hn]at h4;exact h4
  have h5:=condW_of h4 (w_not (w_lt w_lit (w_len_list (w_arg rfl))));rw[List.length_map]at h5;refine Nat.le_of_not_lt fun q=>?_;have q':(n:Int)< ((ns.length:Nat):Int):=by omega
  first
   | (rw[decide_eq_true q']at h5;exact absurd h5 (by decide))
   | (simp at h5;omega)
 cases hwl with
 | cons w1 w2=>
  cases w2;cases w1 with
  | list ho hall=>exact⟨_,_,ns,rfl,rfl,ho,ny ns _ hall,hlen⟩
theorem AO(l:OpenLaw)(args:List WData):l.row.toRowW.claim.post args (.bool true) args=true :=
 postW_of (r:=l.row.toRowW) (X:=(true==true))
  (show WShape.has [] (.bool true) .bool=true by first | rfl | decide | simp[WShape.has,WShape.arms,WShape.armsAll])
  (show(WTm.eq .res (.lit (.bool true))).value [] {args:=args,res:=some (.bool true),after:=args}=some (.bool (true==true))from w_eq_bool (w_res rfl) w_lit) rfl
theorem vg{l:OpenLaw}{n:Nat}{q:Program}{loose:List Str}{XP:(Str->Option Value)->Heap->Prop}{YP:World->Heap->Prop}{d:DefRec}
  (hn:l.most=some n) (hdf:d.params.defaults=[])
  (call:∀(w:World) (s₀ s₁:Shared) (mg mb:Str->Option Value) (fa:Addr) (o:Obj) (pm cd doc:Value) (a:Addr) (vs:List Value) (ns:List Int),
   Ground q loose [] XP w s₀ mg mb s₁.heap->YP w s₁.heap->
   s₁.heap.get? fa=some o->o.data=.func (docDef d.name d.params d.body d.scope pm cd doc)->s₁.heap.CodeRec cd d.name->mg d.name=some (.ref fa)->
   s₁.heap.get? a=some {cls:=.type "list",data:=.seq vs.toArray}->IntsAre vs ns->ns.length<=n->s₁.gens=#[]->
   codeAny (model l.prog w) callerA (.call (.ref fa) ⟨[.ref a],[]⟩) (fun r s'=>r=.ok (.ret (.bool true))/\OldK s₁.heap s'.heap/\s'.os=s₁.os/\AllBare s'.gens) s₁):
  WalkO q loose XP YP l.row.toRowW d [] (fun f vs=>PySem.call f vs):=by
 intro w s₀ s₁ mg mb G Y fa o pm cd doc dV kV ho hd hcd hD hmg hg args vals as hpre hlay hrd hwl hlo;obtain rfl:dV=.none:=Dflts.none hD hdf;obtain rfl:kV=.none:=Dflts.noKw hD;obtain⟨a,vs,ns,rfl,rfl,hobj,hints,hlen⟩:=AK hn hpre hwl;refine enter_call (codeAny_mono (call w s₀ s₁ mg mb fa o pm cd doc a vs ns G Y ho (fd_plain hd) hcd hmg hobj hints hlen hg) fun r s' hq=>?_);obtain⟨rfl,h2,h3,h4⟩:=hq;exact⟨.inl ⟨.bool true,.bool true,[],rfl,fun _=>rfl,.bool true,AO l _,fun _=>⟨List.Pairwise.nil,fun _ hm=>(nomatch hm)⟩⟩,h2,h3,h4⟩
section
variable {prog:Program}{w:World}{A:Around}{E:Value->Shared->Prop}{s:Shared}{K:Frag}
end
end Att
namespace L2
open PySem PySem.Spec PyProof.Rows
theorem jy:∀{vs:List Value} {ns:List Int},IntsAre vs ns->Vals (ns.map V.int) vs
 | _,_,.nil=>.nil
 | _,_,.cons n t h=>.cons ⟨t,rfl⟩ (jy h)
def Only(H:Hp):Prop:=∀b,H b=none\/∃o xs,H b=some (.jr o (.lst xs))
theorem C7{P:Program}{w:World}{K:i8}{mg mb:Str->Option Value}{CX:AA}{k:Nat}{fa a:Addr}{fd:fo}{x:Str}{sp:Sp}{s₁:Shared}{vs:List Value}{ns:List Int}
  (KX:K.In s₁.heap) (hns:s₁.heap.Ns fm mg) (hb:s₁.heap.Ns builtinsNs mb) (hbb:∀x:Str,x≠ "__name__"->mb x=bootBuiltins x) (hlim:s₁.heap.NoLimit) (hg:s₁.gens=#[])
  (ha:s₁.heap.get? a=some {cls:=.type "list",data:=.seq vs.toArray}) (hi:IntsAre vs ns) (hl:ns.length<=fw) (hr:dS k callerA)
  (F:∀base:Heap,K.In base->base.Ns fm mg->aL P w K mg base CX k fa fd [x] sp) (hbind:∀(s:Shared) (u:Value),BindsTo s fd ⟨[u],[]⟩ [(x,u)])
  (hsp:∀H:Hp,Only H->aT K H a (ns.map V.int)->sp [.ref a] H (fun v _=>v=.bl true) fun _ _ _=>False)
  (Vp:∀H e s',CX [] H s₁ (fun _ _ _=>False) e s'->False):
  codeAny (model P w) callerA (.call (.ref fa) ⟨[.ref a],[]⟩) (fun r s'=>r=.ok (.ret (.bool true))/\OldK s₁.heap s'.heap/\s'.os=s₁.os/\AllBare s'.gens) s₁:=by
 have rv:=jy hi;have lenV:=hi.length;have core:∀H:Hp,Only H->aT K H a (ns.map V.int)->iT P w H s₁.heap->(∀b,H b≠none->b=a)->(H a≠none->K.lookup a=none)->
   codeAny (model P w) callerA (.call (.ref fa) ⟨[.ref a],[]⟩) (fun r s'=>r=.ok (.ret (.bool true))/\OldK s₁.heap s'.heap/\s'.os=s₁.os/\AllBare s'.gens) s₁:=by
  intro H hO hS hok hA hK;have zE:∀{b:Addr} {o:Obj},s₁.heap.get? b=some o->H b=none->(sG s₁.heap H).get? b=some o:=fun e n=>CA e n;have P9:∀{b:Addr} {o:Obj} {es:Array DictEntry} {ep:Nat},s₁.heap.get? b=some o->o.data=.dict es ep->H b=none:=fun {b o es ep} e d=>by
   cases q:H b with
   | none=>rfl
   | some u=>
    have e':b=a:=hA b (by rw[q];simp);subst e';rw[ha]at e;cases e;have d':Data.seq vs.toArray _=Data.dict es ep:=d;cases d'
  have Ul:∀{b:Addr} {m:Str->Option Value},s₁.heap.Ns b m->(sG s₁.heap H).Ns b m:=fun {b m} ⟨o,es,ep,e,d,r⟩=>⟨o,es,ep,zE e (P9 e d),d,r⟩
  have hKb:K.In (sG s₁.heap H):=fun b o e=>zE (KX b o e) (by
   cases q:H b with
   | none=>rfl
   | some u=>
    have e':b=a:=hA b (by rw[q];simp);subst e'
    rw[hK (by rw[q];simp)]at e;cases e)
  have hM:Mod K mg (sG s₁.heap H):=⟨hKb,Ul hns,⟨mb,Ul hb,hbb⟩,let ⟨mc,h1,h2⟩:=hlim;⟨mc,Ul h1,h2⟩⟩;have e0:xm P w K mg (sG s₁.heap H) callerA [] s₁ H:=⟨rfl,hM,fun b o e=>Gi e,Nat.le_of_eq (Aq _ _),trivial,fun b hb=>absurd (show b∈([]:List Addr)from hb) (by simp),hok,.of_eq hg⟩;refine codeAny_mono ((F _ hKb (Ul hns)).run callerA [] s₁ H ⟨[.ref a],[]⟩ [.ref a] [.ref a] _ _ hr e0 (hbind s₁ (.ref a)) (.cons rfl .nil) (hsp H hO hS)) fun r s' h=>?_;cases r with
  | error e=>exact(Vp H e s' h).elim
  | ok fl=>
   cases fl with
   | next=>exact False.elim h
   | brk=>exact False.elim h
   | cont=>exact False.elim h
   | ret u=>
    obtain⟨v,H',os,bare,un,hok',r',q⟩:=h;have q':v=.bl true:=q;subst q';obtain rfl:u=Value.bool true:=r';refine⟨rfl,OldK.of_keep fun b o e=>?_,os,bare⟩;cases q:H b with
    | none=>exact un.keep b o e q (by intro z;exact absurd (show b∈([]:List Addr)from z) (by simp)) (by simp)
    | some u=>
     rcases hO b with z | ⟨ob,xs,z⟩
     ·rw[q]at z;cases z
     ·have z2:=un.jS b ob _ z;obtain⟨e1,_⟩:=hok b _ z;obtain⟨e2,_⟩:=hok' b _ z2;rw[e]at e1;cases e1;exact e2
 cases hk:K.lookup a with
 | some o=>
  have e:=KX a o hk;rw[ha]at e;cases e;refine core (fun _=>none) (fun _=>.inl rfl) (.inr ⟨_,vs.toArray,_,hk,rfl,rfl,rfl,by rw[am,lenV];exact hl,by simpa using rv⟩) (fun b u z=>by have z':(none:Option HO)=some u:=z;cases z') (fun b z=>absurd rfl z) fun z=>absurd rfl z
 | none=>
  refine core (fun b=>if b=a then some (.jr {cls:=.type "list",data:=.seq vs.toArray} (.lst (ns.map V.int)))else none) (fun b=>?_) (.inl (.inr ⟨{cls:=.type "list",data:=.seq vs.toArray},if_pos rfl⟩)) (fun b u z=>?_) (fun b z=>?_) fun _=>hk
  ·by_cases hb:b=a
   ·exact .inr ⟨_,_,if_pos hb⟩
   ·exact .inl (if_neg hb)
  ·by_cases hb:b=a
   ·have z':=(if_pos hb).symm.trans z;cases z';subst hb;exact⟨ha,by rw[List.length_map];exact hl,vs,_,rv,ha⟩
   ·have z':=(if_neg hb).symm.trans z;cases z'
  ·by_cases hb:b=a
   ·exact hb
   ·exact absurd (if_neg hb) z
theorem ko{l:PySem.W.OpenLaw}{n k:Nat}{q:Program}{loose:List Str}{XP:(Str->Option Value)->Heap->Prop}{YP:World->Heap->Prop}{d:DefRec}{K:Params->i8}{CX:World->AA}{sp:World->Sp}{x:Str}
  (hn:l.most=some n) (hn2:n<=fw) (hdf:d.params.defaults=[]) (hr:dS k callerA)
  (hY:∀(w:World) (h:Heap),YP w h->(K w.params).In h)
  (F:∀(w:World) (mg:Str->Option Value) (fa:Addr) (h:Heap),(K w.params).In h->h.Ns fm mg->mg d.name=some (.ref fa)->
   ∃fd:fo,(∀(s:Shared) (u:Value),BindsTo s fd ⟨[u],[]⟩ [(x,u)])/\
    ∀base:Heap,(K w.params).In base->base.Ns fm mg->aL l.prog w (K w.params) mg base (CX w) k fa fd [x] (sp w))
  (hsp:∀(w:World) (H:Hp) (a:Addr) (ns:List Int),ns.length<=n->Only H->aT (K w.params) H a (ns.map V.int)->sp w [.ref a] H (fun v _=>v=.bl true) fun _ _ _=>False)
  (Vp:∀(w:World) (H:Hp) (s:Shared) (e:Value) (s':Shared),CX w [] H s (fun _ _ _=>False) e s'->False):
  PySem.W.WalkO q loose XP YP l.row.toRowW d [] (fun f vs=>PySem.call f vs):=by
 refine Att.vg hn hdf fun w s₀ s₁ mg mb fa o pm cd doc a vs ns G Y ho hd hcd hmg hobj hints hlen hg=>?_;have KX:=hY w _ Y;obtain⟨fd,hb,hF⟩:=F w mg fa _ KX G.T.g hmg;exact C7 KX G.T.g G.T.b G.T.builtins G.T.nolimit hg hobj hints (mv hlen hn2) hr hF hb (fun H hO hS=>hsp w H a ns hlen hO hS) fun H e s'=>Vp w H s₁ e s'
open PySem PySem.Spec PyProof.Rows
def inClass(s:Stmt)(j:Nat):Stmt:=match s with
 | .ClassDef _ _ _ body _ _ _ _ _ _ _=>body.getD j (.Pass ⟨0,0,0,0⟩)
 | _=>.Pass ⟨0,0,0,0⟩
def cW(s:Stmt):Arguments:=match s with
 | .FunctionDef _ a _ _ _ _ _ _ _ _=>a
 | _=>{posonlyargs:=[],args:=[],vararg:=none,kwonlyargs:=[],kw_defaults:=[],kwarg:=none,defaults:=[]}
def cN(s:Stmt):List Stmt:=match s with
 | .FunctionDef _ _ b _ _ _ _ _ _ _=>b
 | _=>[]
def ao(s:Stmt):Scope:=match s with
 | .FunctionDef _ _ _ _ _ _ sc _ _ _=>sc
 | _=>{kind:=.function,names:=[],isGenerator:=false,isCoroutine:=false}
abbrev bQ:AA:=fun _ _ _ _ _ _=>False
abbrev E0:XK:=fun _ _ _=>False
theorem aU{X:Cx}:Passes bQ X E0:=fun _ _ _ _ _ _ _ h=>h.elim
structure cE(K:i8)(x qual:Str)(st:Stmt)(f:Addr)(fd:fo):Prop where
 ex:∃(oc:Value) (od:Option Addr) (kV doc pm:Value) (an:Option Addr) (Lq ct:Value) (osl:Array (Option Value)),
  fd=PySem.W.fnOf x qual (cW st) (cN st) (ao st) .none kV doc pm an Lq ct/\K.lookup f=some ⟨oc,od,.func fd,osl⟩/\PySem.W.codeIn K Lq qual=true
 kp:PySem.W.keepIn K (.ref f)=true
section
variable {P:Program}{w:World}{K:i8}{mg:Str->Option Value}{base:Heap}
theorem cE.ok{x qual:Str}{st:Stmt}{f:Addr}{fd:fo}{N ps:List Str}{k:Nat}{sp:Sp}(F:cE K x qual st f fd)(S:aI N ps (ao st))(len:∀vs H Q E,sp vs H Q E->vs.length=ps.length)
  (hbody:∀(Lq:Value) (A:Around) (outer:List Env) (s:Shared) (H:Hp) (vs:List V) (Q:VK) (E:XK),dS k (A.deeper (envOfC qual (ao st) s.heap.objs.size f Lq))->sp vs H Q E->
   ∃t,qO (gM bQ P w K mg base N qual (ao st) f Lq A outer s H E).uY (cN st) t/\t {nx:=fun _ H'=>Q .non H',rt:=Q} (start N vs) H):aL P w K mg base bQ (k+1) f fd ps sp:=by
 obtain⟨oc,od,kV,doc,pm,an,Lq,ct,osl,rfl,lk,hcd⟩:=F.ex;refine JL lk hcd S len fun A outer s H vs Q E hr hsp=>?_;obtain⟨t,h,q⟩:=hbody Lq A outer s H vs Q E hr hsp;exact⟨t,h.uY,q⟩
theorem cE.binds{x qual:Str}{st:Stmt}{f:Addr}{fd:fo}{ps:List Str}(F:cE K x qual st f fd)
  (h:∀(kV doc pm:Value) (an:Option Addr) (Lq ct:Value) (us:List Value),us.length=ps.length->bindArgs (PySem.W.fnOf x qual (cW st) (cN st) (ao st) .none kV doc pm an Lq ct) ⟨us,[]⟩=pure (ps.zip us)):Binds K fd ps []:=by
 obtain⟨oc,od,kV,doc,pm,an,Lq,ct,osl,rfl,lk,hcd⟩:=F.ex;exact .all (h kV doc pm an Lq ct)
theorem aV{x qual:Str}{st:Stmt}{f:Addr}{oc:Value}{od an:Option Addr}{osl:Array (Option Value)}{kV doc pm Lq ct:Value}(l:K.lookup f=some ⟨oc,od,.func (PySem.W.fnOf x qual (cW st) (cN st) (ao st) .none kV doc pm an Lq ct),osl⟩)
  (c:PySem.W.codeIn K Lq qual=true) (k:PySem.W.keepIn K (.ref f)=true):cE K x qual st f (PySem.W.fnOf x qual (cW st) (cN st) (ao st) .none kV doc pm an Lq ct):=⟨⟨oc,od,kV,doc,pm,an,Lq,ct,osl,rfl,l,c⟩,k⟩
theorem jL{A:Around}{k:Nat}(hr:dS k A):A.units+1<cLine:=Nat.lt_of_le_of_lt (Nat.add_le_add_left (by decide:1<=64) _) hr.units
theorem jz{n:Nat}(h:n<=1000):n<fw:=Nat.lt_of_le_of_lt h (by decide)
variable {X:Cx}
theorem pv(i:Nat){x:Str}{pos:Pos}(hN:X.N[i]? =some x:=by rfl)(hv:U4 X.env.scope x:=by first | exact Or.inl rfl | exact Or.inr (Or.inl rfl) | exact Or.inr (Or.inr rfl))(hd:(x==("__debug__": Str))=false:=by decide)
  (hcd:(x==("__classdict__": Str))=false:=by decide):PE X (.Name x pos) (Gj i):=KQ hN hv hd hcd
theorem dF{c A B:Prop}[Decidable c](h1:c->A)(h2:¬c->B):if c then A else B:=by
 by_cases h:c
 ·rw[if_pos h];exact h1 h
 ·rw[if_neg h];exact h2 h
def Same(H H':Hp):Prop:=∀b o,H b=some o->H' b=some o
theorem Same.refl(H:Hp):Same H H:=fun _ _ h=>h
theorem Same.trans{H H1 H2:Hp}(a:Same H H1)(b:Same H1 H2):Same H H2:=fun c o h=>b c o (a c o h)
theorem Same.free{H H':Hp}(e:Same H H'){l:Addr}(h:H' l=Option.none):H l=Option.none:=by
 cases q:H l with
 | none=>rfl
 | some o=>
  rw[e l o q]at h;cases h
theorem Same.seq{K:i8}{H H':Hp}{a:Addr}{xs:List V}(e:Same H H')(h:aT K H a xs):aT K H' a xs:=by
 rcases h with (h | ⟨o,h⟩) | h
 ·exact .inl (.inl (e _ _ h))
 ·exact .inl (.inr ⟨o,e _ _ h⟩)
 ·exact .inr h
end
section
variable {κ:Type}[DecidableEq κ]
end
end L2
set_option maxHeartbeats 4000000
namespace L2
open PySem PySem.Spec PyProof.Rows
def d7(env:Env)(cs:List (Str×Addr))(nk:Str×NameKind):List (Str×Addr):=
 if nk.2== .free then (nk.1,(env.cells.lookup nk.1).getD 0)::cs else cs
def iz(scope:Scope)(env:Env):List (Str×Addr):=scope.names.foldl (d7 env) []
theorem zF{scope:Scope}{env:Env}(h:∀y∈scope.names,y.2=.free->∃c,env.cells.lookup y.1=some c):closureFor scope env=pure (iz scope env):=by
 have all:∀(l:List (Str×NameKind)) (cs:List (Str×Addr)),(∀y∈l,y.2=.free->∃c,env.cells.lookup y.1=some c)->
   (forIn l cs (fun x r=>if (x.2==NameKind.free)=true then do let a <-cellOf env x.1;pure (ForInStep.yield ((x.1,a)::r))else pure (ForInStep.yield r)):Sem (List (Str×Addr)))=pure (l.foldl (d7 env) cs):=by
  intro l
  induction l with
  | nil=>intro cs _;rfl
  | cons y r ih=>
   intro cs hy;obtain⟨n,k⟩:=y;rw[List.forIn_cons,List.foldl_cons];by_cases hk:(k==NameKind.free)=true
   ·obtain⟨c,hc⟩:=hy (n,k) List.mem_cons_self (by simpa using hk);have e1:cellOf env n=pure c:=by unfold cellOf;rw[hc]
    have e2:d7 env cs (n,k)=(n,c)::cs:=by unfold d7;rw[if_pos hk,hc];rfl
    rw[e2,<-ih _ fun z hz=>hy z (List.mem_cons_of_mem _ hz)];dsimp only;rw[if_pos hk,e1];rfl
   ·have e2:d7 env cs (n,k)=cs:=by unfold d7;rw[if_neg hk]
    rw[e2,<-ih _ fun z hz=>hy z (List.mem_cons_of_mem _ hz)];dsimp only;rw[if_neg hk];rfl
 have e:=all scope.names [] h;unfold closureFor iz;rw[<-e];simp only[bind_pure]
theorem pw{env:Env}:∀{l:List (Str×NameKind)} {cs:List (Str×Addr)} {n:Str} {c:Addr},(∀y∈l,y.2=.free->∃c,env.cells.lookup y.1=some c)->(n,c)∈l.foldl (d7 env) cs->(n,c)∈cs\/env.cells.lookup n=some c
 | [],cs,n,c,_,m=>.inl m
 | (y,k)::r,cs,n,c,h,m=>by
  rcases pw (fun z hz=>h z (List.mem_cons_of_mem _ hz)) (show(n,c)∈r.foldl (d7 env) (d7 env cs (y,k))from m)with q | q
  ·unfold d7 at q;by_cases hk:(k==NameKind.free)=true
   ·rw[if_pos hk]at q;rcases List.mem_cons.mp q with q | q
    ·obtain⟨d,hd⟩:=h (y,k) List.mem_cons_self (by simpa using hk);have hd:env.cells.lookup y=some d:=hd;injection q with q1 q2
     subst q1;rw[hd]at q2;subst q2;exact .inr hd
    ·exact .inl q
   ·rw[if_neg hk]at q;exact .inl q
  ·exact .inr q
theorem pz{env:Env}:∀{l:List (Str×NameKind)} {cs:List (Str×Addr)} {p:Str×Addr},p∈cs->p∈l.foldl (d7 env) cs
 | [],_,_,m=>m
 | (y,k)::r,cs,p,m=>by
  refine pz (l:=r) (cs:=d7 env cs (y,k)) ?_;unfold d7;split
  ·exact List.mem_cons_of_mem _ m
  ·exact m
theorem pA{env:Env}:∀{l:List (Str×NameKind)} {cs:List (Str×Addr)} {n:Str},(n,NameKind.free)∈l->∃c,(n,c)∈l.foldl (d7 env) cs
 | (y,k)::r,cs,n,m=>by
  rcases List.mem_cons.mp m with q | q
  ·cases q;exact⟨(env.cells.lookup y).getD 0,pz (l:=r) (by simp[d7])⟩
  ·exact pA (l:=r) q
theorem jW{β:Type}:∀{l:List (Str×β)} {n:Str} {c:β},(n,c)∈l->∃d,l.lookup n=some d
 | (k,v)::r,n,c,m=>by
  rw[List.lookup_cons];cases e:n==k with
  | true=>exact⟨v,rfl⟩
  | false=>
   rcases List.mem_cons.mp m with q | q
   ·cases q;simp at e
   ·exact jW q
theorem cK{env:Env}(hf:env.scope.kind=.function):∀{names:List (Str×NameKind)} {x:Str},names.lookup x=some .free->env.kindOf x=some .cell->
  (names.map fun(n,k)=>if (k==NameKind.free&&env.scope.kind== .function&&env.kindOf n==some .cell)then (n,NameKind.cell)else (n,k)).lookup x=some .cell
 | [],_,h,_=>by simp at h
 | (n,k)::r,x,h,hc=>by
  have ih:=@cK env hf r x;show List.lookup x ((if (k==NameKind.free&&env.scope.kind== .function&&env.kindOf n==some .cell)=true then (n,NameKind.cell)else (n,k))::_)=_;cases hx:x==n with
  | true=>
   have e:x=n:=by simpa using hx
   subst e;simp only[List.lookup_cons,hx]at h;cases h;rw[if_pos (by rw[hf,hc];rfl)];simp[List.lookup_cons]
  | false=>
   simp only[List.lookup_cons,hx]at h;by_cases hc':(k==NameKind.free&&env.scope.kind== .function&&env.kindOf n==some .cell)=true
   ·rw[if_pos hc'];simp only[List.lookup_cons,hx];exact ih h hc
   ·rw[if_neg hc'];simp only[List.lookup_cons,hx];exact ih h hc
def lL(sc scope:Scope)(N:List Str):List Str->List (Option Nat)->Bool
 | [],[]=>true
 | _::r,none::f=>lL sc scope N r f
 | y::r,some i::f=>(N[i]? ==some y)&&(scope.names.lookup y==some .free)&&(sc.names.lookup y==some .cell)&&lL sc scope N r f
 | _,_=>false
structure bZ(sc scope:Scope)(N N':List Str)(fr:List (Option Nat)):Prop where
 kind:scope.kind=.function
 C8:∀y∈scope.names,y.2≠.cell
 names:∀y∈scope.names,y.2=.local->scope.names.lookup y.1=some .local
 free:∀y∈scope.names,y.2=.free->sc.names.lookup y.1=some .cell
 nd:N'.Nodup
 fr:lL sc scope N N' fr=true
def pC(fr:List (Option Nat))(σ:St):St:=fr.map fun o=>o.bind fun i=>(σ[i]?).join
theorem kr{sc scope:Scope}{N:List Str}:∀{N':List Str} {fr:List (Option Nat)},lL sc scope N N' fr=true->fr.length=N'.length
 | [],[],_=>rfl
 | _::r,none::f,h=>by simp only[eh];rw[kr (N':=r) (fr:=f) h]
 | y::r,some i::f,h=>by
  unfold lL at h;simp only[Bool.and_eq_true]at h;simp only[eh];rw[kr (N':=r) (fr:=f) h.2]
 | [],_::_,h=>by simp[lL]at h
 | _::_,[],h=>by simp[lL]at h
theorem oA{sc scope:Scope}{N:List Str}:∀{N':List Str} {fr:List (Option Nat)} {j i:Nat} {y:Str},lL sc scope N N' fr=true->N'[j]? =some y->fr[j]? =some (some i)->N[i]? =some y/\scope.names.lookup y=some .free/\sc.names.lookup y=some .cell
 | [],[],_,_,_,_,h,_=>by simp at h
 | _::r,none::f,0,i,y,_,_,h=>by simp at h
 | _::r,none::f,j+1,i,y,h,h1,h2=>oA (N':=r) (fr:=f) (j:=j) h (by simpa using h1) (by simpa using h2)
 | z::r,some k::f,0,i,y,h,h1,h2=>by
  unfold lL at h;simp only[Bool.and_eq_true,beq_iff_eq]at h;have e1:z=y:=by simpa using h1
  have e2:k=i:=by simpa using h2
  subst e1 e2;exact⟨h.1.1.1,h.1.1.2,h.1.2⟩
 | z::r,some k::f,j+1,i,y,h,h1,h2=>by
  unfold lL at h;simp only[Bool.and_eq_true]at h;exact oA (N':=r) (fr:=f) (j:=j) h.2 (by simpa using h1) (by simpa using h2)
 | [],_::_,_,_,_,h,_,_=>by simp[lL]at h
 | _::_,[],_,_,_,h,_,_=>by simp[lL]at h
def eF(X:Cx)(scope:Scope)(C:Addr)(N':List Str)(s₀:Shared)(H₀:Hp)(fp:List Addr):Cx where
 prog:=X.prog
 w:=X.w
 K:=X.K
 mg:=X.mg
 base:=X.base
 A:=X.A
 N:=N'
 s₀:=s₀
 H₀:=H₀
 env:=compEnvC scope (iz scope X.env) C X.env
 outer:=X.stack
 stack:=X.stack
 ex:=fp
 calm:=true
 fn:=fun _=>false
 pn:=[]
 xe:=fun _ _=>False
section
variable {X:Cx}{scope:Scope}{N':List Str}{fr:List (Option Nat)}{kb:List (Addr×Obj)}{σ:St}{H:Hp}{s:Shared}{fp:List Addr}
theorem Inv.block{h1:Heap}{t1:Nat}{m:Str->Option Value}(S:bZ X.env.scope scope X.N N' fr)(hc:X.calm=true)(I:Inv X kb σ H s)(hf:∀b∈fp,kj X kb H b)(hlt:∀b∈fp,b<s.heap.objs.size)
  (hns:h1.Ns s.heap.objs.size m) (old:∀b o,s.heap.get? b=some o->h1.get? b=some o):
  Inv (eF X scope s.heap.objs.size N' s H fp) [] (pC fr σ) H {s with heap:=h1,toks:=t1}:=by
 have hfree:∀y∈scope.names,y.2=.free->∃c,X.env.cells.lookup y.1=some c:=fun y hy e=>I.ok.has y.1 (.inl (S.free y hy e));have cl1:∀y c,(iz scope X.env).lookup y=some c->X.env.cells.lookup y=some c:=fun y c e=>by
  rcases pw (cs:=[]) hfree (PySem.mem_of_lookup e)with q | q
  ·exact absurd q (by simp)
  ·exact q
 have has:∀y,((relabel scope X.env).names.lookup y=some .cell\/(relabel scope X.env).names.lookup y=some .free)->∃c,(iz scope X.env).lookup y=some c:=fun y hy=>by
  have q:(y,NameKind.free)∈scope.names:=by
   have m:∃k,(k=NameKind.cell\/k=NameKind.free)/\(y,k)∈(relabel scope X.env).names:=by
    rcases hy with hy | hy
    ·exact⟨_,.inl rfl,PySem.mem_of_lookup hy⟩
    ·exact⟨_,.inr rfl,PySem.mem_of_lookup hy⟩
   obtain⟨k,hk,m⟩:=m;obtain⟨⟨n,k0⟩,hm,e⟩:=List.mem_map.mp m;dsimp only at e;by_cases hq:(k0==NameKind.free&&X.env.scope.kind== .function&&X.env.kindOf n==some .cell)=true
   ·rw[if_pos hq]at e;simp only[Bool.and_eq_true,beq_iff_eq]at hq;injection e with e1 e2
    rw[<-e1,<-hq.1.1];exact hm
   ·rw[if_neg hq]at e;injection e with e1 e2
    subst e1 e2;rcases hk with hk | hk
    ·exact absurd hk (S.C8 _ hm)
    ·rw[<-hk];exact hm
  obtain⟨c,mc⟩:=pA (env:=X.env) (cs:=[]) q;exact jW mc
 have Vq:∀y c,X.env.cells.lookup y=some c->c<s.heap.objs.size:=fun y c e=>by obtain⟨v,q⟩:=I.cell y c e;exact q.lt
 refine⟨⟨I.ok.mod,S.kind,I.ok.glob,I.ok.blt,mf _,fun x y c e1 e2=>I.ok.inj x y c (cl1 x c e1) (cl1 y c e2),has,fun x c e _=>absurd e (by simp[eF]),fun _=>I.ok.hd hc,I.ok.frames,.inl rfl,
   fun b hb=>⟨mi (hlt b hb),fun x c e=>(hf b hb).2.2.2.2.1 x c (cl1 x c e)⟩,I.bs,mv I.ok.Cj I.sz,fun b o e hb=>?_,fun b hb z=>?_,I.stack,I.ke⟩,
  rfl,I.bare,Un.kept old,⟨m,hns,fun i x v e1 e2 e3=>?_⟩,fun x c e=>?_,I.fresh,fun x c e=>I.e9 x c (cl1 x c e),fun p hp=>absurd hp (by simp[eF]),I.hok.kept old,?_⟩
 ·rcases(hf b hb).2.2.2.1 with z | z
  ·exact I.ok.wR b o e z
  ·exact absurd (Nat.lt_of_lt_of_le (ii e) (mv I.ok.Cj z)) (Nat.lt_irrefl _)
 ·rcases List.mem_cons.mp (I.oU b z)with q | q
  ·exact(hf b hb).2.1 q
  ·exact(hf b hb).2.2.1 q
 ·
  have e2:(pC fr σ)[i]? =some (some v):=e2;unfold pC at e2;rw[ac]at e2;cases q:fr[i]? with
  | none=>rw[q]at e2;cases e2
  | some o=>
   rw[q]at e2;cases o with
   | none=>cases e2
   | some j=>
    have e2:(σ[j]?).join=some v:=Option.some.inj e2;have e4:σ[j]? =some (some v):=by
     cases r:σ[j]? with
     | none=>rw[r]at e2;cases e2
     | some w=>rw[r]at e2;exact congrArg some e2
    obtain⟨f1,f2,f3⟩:=oA S.fr e1 q;obtain⟨m0,_,hl⟩:=I.loc;obtain⟨u,r,l⟩:=hl j x v f1 e4 (.inr (.inl f3));refine⟨u,r,.inr ⟨.inl (cK I.ok.kind f2 f3),?_⟩⟩;obtain⟨c,hc⟩:=has x (.inl (cK I.ok.kind f2 f3));rcases l with ⟨k,_⟩ | ⟨_,c',hc',ho⟩
    ·have k:X.env.scope.names.lookup x=some .local:=k;rw[f3]at k;cases k
    ·have e:c=c':=Option.some.inj ((cl1 x c hc).symm.trans hc');subst e;obtain⟨o,ho,hd⟩:=ho;exact⟨c,hc,o,old c o ho,hd⟩
 ·obtain⟨v,o,ho,hd⟩:=I.cell x c (cl1 x c e);exact⟨v,o,old c o ho,hd⟩
 ·show(pC fr σ).length=N'.length;unfold pC;rw[List.length_map];exact kr S.fr
end
def GY(X:Cx)(ifs:List Expr)(t:TT):Prop :=
 ∀(kb:List (Addr×Obj)) (s:Shared) (σ:St) (H:Hp) (Q:Bool->Hp->Prop),Inv X kb σ H s->t σ H Q->
  wpAny (model X.prog X.w) X.A (forIn ifs true fun c r=>if r=true then do let ok <-isTrue c X.env (eval c X.env);pure (ForInStep.yield ok)else pure (ForInStep.yield r)) (TP X kb σ Q) X.xe s
def Vr:TT:=fun _ H Q=>Q true H
theorem cB{X:Cx}:GY X [] Vr:=fun _ _ _ H _ I q=>wpAny_tests_nil ⟨H,I,q⟩
theorem ku{X:Cx}{c:Expr}{t:TT}(h:PT X c t):GY X [c] t:=fun kb s σ H Q I q=>wpAny_tests_one (h kb s σ H Q I q)
theorem kx{prog:Program}{w:World}{A:Around}{R:Result->Shared->Prop}{s:Shared}{elt target iter:Expr}{ifs:List Expr}{scope:Scope}{pos:Pos}{it acc:Value}{env:Env}(I:Nat->Shared->Prop)
  (turn:∀n s,I n s->wpAny (model prog w) A (pyNext it) (fun r s₁=>match r with
   | none=>R (.ok .next) s₁
   | some v=>wpAny (model prog w) A (letOwnedTupleGo target it v) (fun _ s₀=>wpAny (model prog w) A (assign target env v) (fun _ s₂=>
     wpAny (model prog w) A (forIn ifs true fun c r=>if r=true then do let ok <-isTrue c env (eval c env);pure (ForInStep.yield ok)else pure (ForInStep.yield r)) (fun ok s₃=>
      if ok=true then wpAny (model prog w) A (eval elt env) (fun x s₄=>
       wpAny (model prog w) A (call (.builtin "list.append") [acc,x]) (fun _ s₅=>∃m,m<n/\I m s₅) (fun _ _=>False) s₄) (fun _ _=>False) s₃
      else ∃m,m<n/\I m s₃) (fun _ _=>False) s₂) (fun _ _=>False) s₀) (fun _ _=>False) s₁) (fun _ _=>False) s)
  (n:Nat) (h:I n s):
  codeAny (model prog w) A (.compLoop (.ListComp elt [⟨target,iter,ifs,0⟩] scope pos) 0 it acc env) R s:=by
 refine codeAny_loop rfl I (fun n s hI=>?_) n h;show wpAny _ A ((compTurn (.ListComp elt [⟨target,iter,ifs,0⟩] scope pos) 0 it acc env).onRaise (fun x=>do noteFrame x env;theTreesLotGoes x)) _ _ s;refine wpAny_noted ?_;rw[compTurn_list];refine ff (wpAny_standAt (ff (ge (turn n s hI) (fun r s₁ h₁=>?_) fun _ _ h'=>h'.elim)));cases r with
 | none=>exact fg h₁
 | some v=>
  refine ff (ge h₁ (fun _ s₀ h₀=>?_) fun _ _ h'=>h'.elim);refine ff (ge h₀ (fun _ s₂ h₂=>ff (ge h₂ (fun ok s₃ h₃=>?_) fun _ _ h'=>h'.elim)) fun _ _ h'=>h'.elim);cases ok with
  | false=>exact fg ⟨rfl,h₃⟩
  | true=>
   exact ff (ff (ge h₃ (fun x s₄ h₄=>ff (ge h₄ (fun _ s₅ h₅=>fg (fg ⟨rfl,h₅⟩)) fun _ _ h'=>h'.elim)) fun _ _ h'=>h'.elim))
def vh(fr:List (Option Nat))(wi:TI)(g:TG)(tt:TT)(te:TE):TE:=fun σ H Q=>wi σ H fun J H1=>∀D,H1 D=none->
 ∃W:Nat->Nat->St->List V->Hp->Prop,(∃m,W 0 m (pC fr σ) [] (upd H1 D (.lst [])))/\∀i m σ ys H,W i m σ ys H->
  (J.stop i H/\Q (.ref D) H)\/(J.go i H/\∃N:St->List V->Hp->Prop,(∀σ' ys' H',N σ' ys' H'->∃m',m'<m/\W (i+1) m' σ' ys' H')/\∀x H',J.Au i H x H'->g x σ H' fun σ2 H2=>tt σ2 H2 fun b H3=>
   if b=true then te σ2 H3 fun v H4=>H4 D=some (.lst ys)/\ys.length<fw/\N σ2 (ys++ [v]) (upd H4 D (.lst (ys++ [v])))
   else N σ2 ys H3)
theorem vi{X:Cx}{elt tg iter:Expr}{ifs:List Expr}{scope:Scope}{pos cpos:Pos}{wi:TI}{g:TG}{tt:TT}{te:TE}{N':List Str}{fr:List (Option Nat)}(S:bZ X.env.scope scope X.N N' fr)(hc:X.calm=true)(hi:PI X tg iter wi)
  (hg:∀C s0 H0 fp,PG (eF X scope C N' s0 H0 fp) tg g) (ht:∀C s0 H0 fp,GY (eF X scope C N' s0 H0 fp) ifs tt) (he:∀C s0 H0 fp,PE (eF X scope C N' s0 H0 fp) elt te)
  (hs:∀x,foldedSetIterable iter X.env x=pure x) {kb:List (Addr×Obj)} {s:Shared} {σ:St} {H:Hp} {Q:VK} (I:Inv X kb σ H s) (h:vh fr wi g tt te σ H Q) (use:Option (Value->Sem Unit)) (QQ:Value->Shared->Prop)
  (fin:∀(D C:Addr) (H5:Hp) (s6:Shared),Inv X kb σ H5 s6->Q (.ref D) H5->H5 C=none->C≠X.env.locals->X.s₀.heap.objs.size<=C->(∀x c,X.env.cells.lookup x=some c->c≠C)->(∀p∈X.pn++kb,p.1≠C)->(∃m,s6.heap.Ns C m)->
   compPost (model X.prog X.w) X.A X.xe use QQ (.ref D) C (.ok .next) s6):
  wpAny (model X.prog X.w) X.A (comprehension (.ListComp elt [⟨tg,iter,ifs,0⟩] scope pos) scope X.env cpos (newList []) false (eval iter X.env) use) QQ X.xe s:=by
 have hfree:∀y∈scope.names,y.2=.free->∃c,X.env.cells.lookup y.1=some c:=fun y hy e=>I.ok.has y.1 (.inl (S.free y hy e));refine wpAny_comprehension_free (use:=use) rfl hs (zF hfree) S.kind S.names (ck (hi kb s σ H _ I h) fun v s1 h1=>ck h1 fun itv s2 h2=>?_);obtain⟨it,fp,tn,J,H2,e,I2,T,st2,f2,hD⟩:=h2;subst e;obtain⟨W,⟨m0,w0⟩,turn⟩:=hD s2.heap.objs.size I2.fresh;refine wpAny_newObj_type ?_;have I3:Inv X kb σ (upd H2 s2.heap.objs.size (.lst [])) {s2 with heap:=s2.heap.push {cls:=.type "list",data:=.seq ([]:List Value).toArray},toks:=s2.toks}:=I2.Gy (ys:=[]) .nil (Nat.zero_le _)
 revert I3
 generalize eD:s2.heap.objs.size=D at*;generalize e3:({s2 with heap:=s2.heap.push {cls:=.type "list",data:=.seq ([]:List Value).toArray},toks:=s2.toks}:Shared)=s3;intro I3;have k3:∀b o,s2.heap.get? b=some o->s3.heap.get? b=some o:=fun b o e=>by rw[<-e3];exact gs _ e
 refine wpAny_newFunctionEnv S.C8 (by intro y hy;simp at hy) (fun h4 hns hsb=>?_) S.kind;have old:∀b o,s3.heap.get? b=some o->h4.get? b=some o:=fun b o e=>hsb.extBut b o (mi (ii e)) (gs _ e);have fD:∀b∈fp,b≠D:=fun b hb z=>by obtain⟨o,ho,_⟩:=T.obj _ _ st2 b hb;exact absurd (ii ho) (by rw[z,eD];exact Nat.lt_irrefl _)
 have f3:∀b∈fp,kj X kb (upd H2 D (.lst [])) b:=fun b hb=>⟨by rw[aw (fD b hb)];exact(f2 b hb).1,(f2 b hb).2⟩;have l3:∀b∈fp,b<s3.heap.objs.size:=fun b hb=>by obtain⟨o,ho,_⟩:=T.obj _ _ st2 b hb;exact ii (k3 b o ho)
 have I4:=Inv.block (t1:=s3.toks+([]:List (Str×Value)).length) (scope:=scope) S hc I3 f3 l3 hns old;generalize eX:eF X scope s3.heap.objs.size N' s3 (upd H2 D (.lst [])) fp=X' at I4;have Qi:tn 0 h4:=T.keep _ _ _ st2 fun b hb o e=>old b o (k3 b o e);have stat:∀{H':Hp},(∀b∈fp,H' b=none)->∀b∈fp,kj X' [] H' b:=fun {H'} hn b hb=>by
  subst eX;refine⟨hn b hb,mi (l3 b hb),?_,.inl hb,?_,fun p hp=>absurd hp (by simp[eF])⟩
  ·exact I4.ok.wU b hb
  ·exact(I4.ok.PJ b hb).2
 show codeAny _ _ (.compStart _ 0 (.ref it) (.ref D) (compEnvC scope (iz scope X.env) s3.heap.objs.size X.env)) (compPost _ _ _ use _ (.ref D) s3.heap.objs.size) _;have hX:X'.prog=X.prog/\X'.w=X.w/\X'.K=X.K/\X'.A=X.A/\X'.calm=true/\X'.env=compEnvC scope (iz scope X.env) s3.heap.objs.size X.env/\X'.xe=(fun _ _=>False)/\X'.s₀=s3/\X'.H₀=upd H2 D (.lst [])/\X'.fs=frs X.stack/\X'.ex=fp:=by subst eX;exact⟨rfl,rfl,rfl,rfl,rfl,rfl,rfl,rfl,rfl,rfl,rfl⟩
 have hg':PG X' tg g:=by subst eX;exact hg _ _ _ _
 have ht':GY X' ifs tt:=by subst eX;exact ht _ _ _ _
 have he':PE X' elt te:=by subst eX;exact he _ _ _ _
 clear eX;obtain⟨x1,x2,x3,x4,x5,x6,x7,x8,x9,x10,x11⟩:=hX;have loop:codeAny (model X.prog X.w) X.A (.compLoop (.ListComp elt [⟨tg,iter,ifs,0⟩] scope pos) 0 (.ref it) (.ref D) (compEnvC scope (iz scope X.env) s3.heap.objs.size X.env))
   (compPost (model X.prog X.w) X.A X.xe use QQ (.ref D) s3.heap.objs.size) {s3 with heap:=h4,toks:=s3.toks+([]:List (Str×Value)).length}:=by
  refine kx (fun n s'=>∃i σ' ys H',Inv X' [] σ' H' s'/\tn i s'.heap/\(∀b∈fp,H' b=none)/\W i n σ' ys H') ?_ m0 ⟨0,_,[],_,I4,Qi,fun b hb=>(f3 b hb).1,w0⟩;rintro n s5 ⟨i,σ5,ys,H5,I5,Gm,KW,w5⟩;rcases turn i n σ5 ys H5 w5 with ⟨stop,qn⟩ | ⟨go,N,hN,step⟩
  ·have z:=T.done X' x1 x2 x3 x5 i [] s5 σ5 H5 (fun _ _=>False) I5 (stat KW) Gm stop;rw[x4]at z;refine ck z fun r s6 ⟨hr,I6⟩=>?_;subst hr;obtain⟨mm,Qj,_⟩:=I6.loc;have hL:X'.env.locals=s3.heap.objs.size:=by rw[x6];rfl
   rw[hL]at Qj;have nC:H5 s3.heap.objs.size=none:=by have:=I6.free;rw[hL]at this;exact this
   have base:=I6.base;rw[x8,x9,x10,x11]at base;have hok:iT X.prog X.w H5 s6.heap:=by have q:=I6.hok;rw[x1,x2]at q;exact q
   have os:s6.os=s3.os:=by have:=I6.os;rw[x8]at this;exact this
   have IX:Inv X kb σ H5 s6:=I3.call' os base hok I6.bare fun b hb=>⟨(f3 b hb).2.2.2.1,(f3 b hb).2.1,(f3 b hb).2.2.2.2.1,(f3 b hb).2.2.2.2.2⟩;refine fin D s3.heap.objs.size H5 s6 IX qn nC (Nat.ne_of_gt I3.lt) I3.sz (fun x c e=>?_) (fun p hp=>?_) ⟨mm,Qj⟩
   ·obtain⟨v,q⟩:=I3.cell x c e;exact mi q.lt
   ·exact mi (ii (I3.pin p hp).1)
  ·have z:=T.item X' x1 x2 x3 x5 i [] s5 σ5 H5 (fun _ _=>False) I5 (stat KW) Gm go;rw[x4]at z;refine ck z fun r s6 ⟨u,hr,h6⟩=>?_;subst hr;refine ck h6 fun _ s7 ⟨x,H7,I7,r7,y7,Lr,Vs⟩=>?_;have Vt:=I7.pinned (stat Vs) (T.obj _ _ Lr);have again:∀{σ':St} {H':Hp} {s':Shared},Inv X' ([]++lC fp s7.heap) σ' H' s'->Inv X' [] σ' H' s'/\tn (i+1) s'.heap/\∀b∈fp,H' b=none:=fun {σ' H' s'} J=>by refine⟨J.iX,T.keep _ _ _ Lr fun b hb o e=>(J.pin (b,o) (List.mem_append_right _ (List.mem_append_right _ (eQ hb e)))).1,fun b hb=>?_⟩;obtain⟨o,e,d⟩:=T.obj _ _ Lr b hb;exact(J.pin (b,o) (List.mem_append_right _ (List.mem_append_right _ (eQ hb e)))).2.1
   have z:=hg' _ s7 σ5 H7 x u _ Vt r7 (step x H7 y7);rw[x1,x2,x4,x6,x7]at z;refine ck z fun _ s8 ⟨σ8,H8,I8,q8⟩=>?_;have z:=ht' _ s8 σ8 H8 _ I8 q8;rw[x1,x2,x4,x6,x7]at z;refine ck z fun b s9 ⟨H9,I9,q9⟩=>?_;cases b with
   | false=>
    rw[if_neg mx]at q9 ⊢;obtain⟨m',hm,w9⟩:=hN _ _ _ q9;obtain⟨a1,a2,a3⟩:=again I9;exact⟨m',hm,i+1,σ8,ys,H9,a1,a2,a3,w9⟩
   | true=>
    rw[if_pos rfl]at q9 ⊢;have z:=he' _ s9 σ8 H9 _ I9 q9;rw[x1,x2,x4,x6,x7]at z;refine ck z fun v' xF ⟨y,Um,C9,r10,AQ,hz,w10⟩=>?_;have z:=da (X:=X') _ xF σ8 Um (.ref D) [y] (.ref D) [v'] (fun _ H'=>N σ8 (ys++ [y]) H') C9 rfl (.cons r10 .nil) ⟨D,ys,y,rfl,rfl,AQ,hz,w10⟩;rw[x1,x2,x4,x7]at z;refine ck z fun _ Ck ⟨_,Vu,Vv,_,w11⟩=>?_;obtain⟨m',hm,w11⟩:=hN _ _ _ w11;obtain⟨a1,a2,a3⟩:=again Vv;exact⟨m',hm,i+1,σ8,_,Vu,a1,a2,a3,w11⟩
 exact codeAny_compStart_list loop (T.self _ 0 _ _ _ Qi loop)
theorem cO{X:Cx}{elt tg iter:Expr}{ifs:List Expr}{scope:Scope}{pos:Pos}{wi:TI}{g:TG}{tt:TT}{te:TE}{N':List Str}{fr:List (Option Nat)}(S:bZ X.env.scope scope X.N N' fr)(hc:X.calm=true)(hi:PI X tg iter wi)
  (hg:∀C s0 H0 fp,PG (eF X scope C N' s0 H0 fp) tg g) (ht:∀C s0 H0 fp,GY (eF X scope C N' s0 H0 fp) ifs tt) (he:∀C s0 H0 fp,PE (eF X scope C N' s0 H0 fp) elt te)
  (hs:∀x,foldedSetIterable iter X.env x=pure x:=by intro _;rfl):PE X (.ListComp elt [⟨tg,iter,ifs,0⟩] scope pos) (vh fr wi g tt te):=by
 intro kb s σ H Q I h;rw[eval_ListComp];refine vi S hc hi hg ht he hs I h none _ fun D C H5 s6 IX q nC c1 c2 c3 c4 hm=>?_;obtain⟨m,hm⟩:=hm;refine⟨m,hm,fun h' hs'=>⟨.ref D,H5,IX.turned (t':=s6.toks) (it:=C) (fun b o hb e=>hs'.extBut b o hb e) nC c1 (.inr c2) c3 c4,rfl,q⟩⟩
theorem jA{X:Cx}{elt tg iter:Expr}{ifs:List Expr}{scope:Scope}{pos spos py:Pos}{y:Str}{i:Nat}{wi:TI}{g:TG}{tt:TT}{te:TE}{N':List Str}{fr:List (Option Nat)}(hN:X.N.Nodup)(hy:X.N[i]? =some y)(hl:X.env.scope.names.lookup y=some .local)
  (S:bZ X.env.scope scope X.N N' fr) (hc:X.calm=true) (hi:PI X tg iter wi)
  (hg:∀C s0 H0 fp,PG (eF X scope C N' s0 H0 fp) tg g) (ht:∀C s0 H0 fp,GY (eF X scope C N' s0 H0 fp) ifs tt) (he:∀C s0 H0 fp,PE (eF X scope C N' s0 H0 fp) elt te)
  (hs:∀x,foldedSetIterable iter X.env x=pure x:=by intro _;rfl) (hsw:swapsWith (.ListComp elt [⟨tg,iter,ifs,0⟩] scope pos) (some (.Name y py)) spos.line X.env=pure true:=by rfl):
  PS X (.Assign [.Name y py] (.ListComp elt [⟨tg,iter,ifs,0⟩] scope pos) spos) (Ar (vh fr wi g tt te) (dC i)):=by
 intro kb s σ H D I h;rw[exec_Assign_Name_used _ _ _ _ hsw];refine ff (wpAny_standAt (ff ?_));show wpAny _ X.A (do let _ <-comprehension (.ListComp elt [⟨tg,iter,ifs,0⟩] scope pos) scope X.env _ (newList []) false (eval iter X.env) (some (assign (.Name y py) X.env))) _ _ s;refine ff (ck (vi S hc hi hg ht he hs I h (some (assign (.Name y py) X.env)) (fun _ s'=>SP X kb D .next s') fun L C H5 s6 IX q nC c1 c2 c3 c4 hm=>?_) fun _ s' hq=>fg (fg hq));obtain⟨m,hm⟩:=hm;show wpAny _ X.A (assign (.Name y py) X.env (.ref L)) _ _ _;refine wpAny_assign_Name (rK IX hN hy (.inl hl) (show RelV (.ref L) (Value.ref L)from rfl) (fun s7 I7 hch=>?_) (.inr hl));obtain⟨a,hsb,ha⟩:=hch;have hCa:C≠a:=by
  rcases ha with ha | ha
  ·rw[ha];exact c1
  ·exact(c3 _ _ ha).symm
 refine⟨m,hm.at' (fun o e=>(hsb.2 C hCa).trans e),fun h' hs'=>⟨_,H5,I7.turned (t':=s7.toks) (it:=C) (fun b o hb e=>hs'.extBut b o hb e) nC c1 (.inr c2) c3 c4,q⟩⟩
theorem d8{lo:Int}{n:Nat}{g:TG}{tt:TT}{te:TE}{R:Hp->Prop}{D:Addr}{σ0:St}{H0:Hp}(Pv:Nat->St->List V->Hp->Prop)(h0:Pv 0 σ0 [] H0)
  (hs:∀i σ ys H,i<n->Pv i σ ys H->g (.int (lo+i)) σ H fun σ2 H2=>tt σ2 H2 fun b H3=>
   if b=true then te σ2 H3 fun v H4=>H4 D=some (.lst ys)/\ys.length<fw/\Pv (i+1) σ2 (ys++ [v]) (upd H4 D (.lst (ys++ [v])))else Pv (i+1) σ2 ys H3)
  (hd:∀σ ys H,Pv n σ ys H->R H):
  ∃W:Nat->Nat->St->List V->Hp->Prop,(∃m,W 0 m σ0 [] H0)/\∀i m σ ys H,W i m σ ys H->
   ((Gk lo n).stop i H/\R H)\/((Gk lo n).go i H/\∃N:St->List V->Hp->Prop,(∀σ' ys' H',N σ' ys' H'->∃m',m'<m/\W (i+1) m' σ' ys' H')/\∀x H',(Gk lo n).Au i H x H'->g x σ H' fun σ2 H2=>tt σ2 H2 fun b H3=>
    if b=true then te σ2 H3 fun v H4=>H4 D=some (.lst ys)/\ys.length<fw/\N σ2 (ys++ [v]) (upd H4 D (.lst (ys++ [v])))else N σ2 ys H3):=by
 refine⟨fun i m σ ys H=>m=n-i/\i<=n/\Pv i σ ys H,⟨n,by simp,Nat.zero_le _,h0⟩,?_⟩;rintro i m σ ys H ⟨rfl,hi,p⟩;by_cases hlt:i<n
 ·refine .inr ⟨hlt,Pv (i+1),fun σ' ys' H' p'=>⟨n- (i+1),by omega,rfl,hlt,p'⟩,fun x H' y=>?_⟩;obtain⟨e,y⟩:=y;subst e y;exact hs i σ ys _ hlt p
 ·have e:i=n:=by omega
  subst e;exact .inl ⟨mf _,hd σ ys H p⟩
theorem dO{K:i8}{a:Addr}{xs:List V}{g:TG}{tt:TT}{te:TE}{R:Hp->Prop}{D:Addr}{σ0:St}{H0:Hp}(Pv:Nat->St->List V->Hp->Prop)(h0:Pv 0 σ0 [] H0)(hl:∀i σ ys H,i<=xs.length->Pv i σ ys H->aT K H a xs)
  (hs:∀i x σ ys H,xs[i]? =some x->Pv i σ ys H->g x σ H fun σ2 H2=>tt σ2 H2 fun b H3=>
   if b=true then te σ2 H3 fun v H4=>H4 D=some (.lst ys)/\ys.length<fw/\Pv (i+1) σ2 (ys++ [v]) (upd H4 D (.lst (ys++ [v])))else Pv (i+1) σ2 ys H3)
  (hd:∀σ ys H,Pv xs.length σ ys H->R H):
  ∃W:Nat->Nat->St->List V->Hp->Prop,(∃m,W 0 m σ0 [] H0)/\∀i m σ ys H,W i m σ ys H->
   ((JE K a).stop i H/\R H)\/((JE K a).go i H/\∃N:St->List V->Hp->Prop,(∀σ' ys' H',N σ' ys' H'->∃m',m'<m/\W (i+1) m' σ' ys' H')/\∀x H',(JE K a).Au i H x H'->g x σ H' fun σ2 H2=>tt σ2 H2 fun b H3=>
    if b=true then te σ2 H3 fun v H4=>H4 D=some (.lst ys)/\ys.length<fw/\N σ2 (ys++ [v]) (upd H4 D (.lst (ys++ [v])))else N σ2 ys H3):=by
 refine⟨fun i m σ ys H=>m=xs.length-i/\i<=xs.length/\Pv i σ ys H,⟨xs.length,by simp,Nat.zero_le _,h0⟩,?_⟩;rintro i m σ ys H ⟨rfl,hi,p⟩;have q:=hl i σ ys H hi p;by_cases hlt:i<xs.length
 ·refine .inr ⟨⟨xs,xs[i],q,by simp[hlt]⟩,Pv (i+1),fun σ' ys' H' p'=>⟨xs.length- (i+1),by omega,rfl,hlt,p'⟩,fun x H' y=>?_⟩;obtain⟨e,y⟩:=y;subst e;exact hs i x σ ys _ (y xs q) p
 ·have e:i=xs.length:=by omega
  subst e;exact .inl ⟨⟨xs,q,mf _⟩,hd σ ys H p⟩
end L2
namespace SF
open PySem
def qR(xs:Array Nat):Prop:=∀i k,i<k->k<xs.size->xs.getD i 0<xs.getD k 0
theorem Dc{xs:Array Nat}{i a b:Nat}(h:i<xs.size):xs.getD i a=xs.getD i b:=by simp[Array.getD,h]
theorem GZ{xs:Array Nat}{j:Nat}(hr:qR xs):∀(f lo hi:Nat),lo<=hi->hi<=xs.size->hi-lo<=f->(∀i,i<lo->xs.getD i 0<j)->(∀i,hi<=i->i<xs.size->j<=xs.getD i 0)->
  SetTable.below.go xs j f lo hi<=xs.size/\(∀i,i<SetTable.below.go xs j f lo hi->xs.getD i 0<j)/\∀i,SetTable.below.go xs j f lo hi<=i->i<xs.size->j<=xs.getD i 0:=by
 intro f
 induction f with
 | zero=>
  intro lo hi h1 h2 h3 h4 h5;have e:lo=hi:=by omega
  subst e;exact⟨h2,h4,h5⟩
 | succ f ih=>
  intro lo hi h1 h2 h3 h4 h5;unfold SetTable.below.go;by_cases hlt:lo<hi
  ·rw[if_pos hlt];have m1:(lo+hi)/2<hi:=by omega
   have m2:lo<=(lo+hi)/2:=by omega
   dsimp only;rw[Dc (b:=0) (Nat.lt_of_lt_of_le m1 h2)];by_cases hm:xs.getD ((lo+hi)/2) 0<j
   ·rw[if_pos hm];refine ih _ _ (by omega) h2 (by omega) (fun i hi'=>?_) h5;rcases Nat.lt_or_ge i ((lo+hi)/2)with q | q
    ·exact Nat.lt_trans (hr i _ q (by omega)) hm
    ·have e:i=(lo+hi)/2:=by omega
     rw[e];exact hm
   ·rw[if_neg hm];refine ih _ _ m2 (by omega) (by omega) h4 (fun i hi' hs=>?_);rcases Nat.lt_or_ge ((lo+hi)/2) i with q | q
    ·exact mv (Nat.not_lt.mp hm) (Nat.le_of_lt (hr _ i q hs))
    ·have e:i=(lo+hi)/2:=by omega
     rw[e];exact Nat.not_lt.mp hm
  ·rw[if_neg hlt];have e:lo=hi:=by omega
   subst e;exact⟨h2,h4,h5⟩
theorem pE{xs:Array Nat}{j:Nat}(hr:qR xs):SetTable.below xs j<=xs.size/\(∀i,i<SetTable.below xs j->xs.getD i 0<j)/\∀i,SetTable.below xs j<=i->i<xs.size->j<=xs.getD i 0 :=
 GZ hr xs.size 0 xs.size (Nat.zero_le _) (mf _) (mf _) (fun i h=>absurd h (Nat.not_lt_zero _)) (fun i h1 h2=>absurd (Nat.lt_of_lt_of_le h2 h1) (Nat.lt_irrefl _))
theorem below_at{xs:Array Nat}(hr:qR xs){i s:Nat}(h1:∀k,k<i->xs.getD k 0<s)(h2:i<xs.size->s<=xs.getD i 0)(hi:i<=xs.size):SetTable.below xs s=i:=by
 obtain⟨b1,b2,b3⟩:=pE (j:=s) hr;rcases Nat.lt_trichotomy (SetTable.below xs s) i with q | q | q
 ·have:=b3 _ (mf _) (by omega);have:=h1 _ q;omega
 ·exact q
 ·have:=b2 i q;have:=h2 (by omega);omega
theorem lM{xs:Array Nat}:qR xs↔xs.toList.Pairwise (· < ·):=by
 rw[List.pairwise_iff_getElem];constructor
 ·intro h i k hi hk hik;have h':=h i k hik (by simpa using hk);have hi':i<xs.size:=by simpa using hi
  have hk':k<xs.size:=by simpa using hk
  simpa[Array.getD,hi',hk'] using h'
 ·intro h i k hik hk;have hi:i<xs.size:=Nat.lt_trans hik hk;have h':=h i k (by simpa using hi) (by simpa using hk) hik;simpa[Array.getD,hi,hk] using h'
theorem vj{xs:Array Nat}{j:Nat}(hr:qR xs)(hn:∀i,i<xs.size->xs.getD i 0≠j):qR (SetTable.insertAt xs (SetTable.below xs j) j):=by
 obtain⟨b1,b2,b3⟩:=pE (j:=j) hr;rw[lM,SetTable.toList_insertAt];have hp:=lM.mp hr;have take:∀a∈xs.toList.take (SetTable.below xs j),a<j:=fun a ha=>by
  obtain⟨i,hi,e⟩:=List.getElem_of_mem ha;have hi':i<SetTable.below xs j/\i<xs.size:=by rw[List.length_take]at hi;simp at hi;omega
  have:=b2 i hi'.1;rw[<-e,List.getElem_take];simpa[Array.getD,hi'.2] using this
 have drop:∀a∈xs.toList.drop (SetTable.below xs j),j<a:=fun a ha=>by
  obtain⟨i,hi,e⟩:=List.getElem_of_mem ha;have hi':SetTable.below xs j+i<xs.size:=by rw[List.length_drop]at hi;simp at hi;omega
  have h1:=b3 (SetTable.below xs j+i) (Nat.le_add_right _ _) hi';have h2:=hn _ hi';rw[<-e,List.getElem_drop];have h3:j<xs.getD (SetTable.below xs j+i) 0:=by omega
  simpa[Array.getD,hi'] using h3
 refine List.pairwise_append.mpr ⟨hp.sublist (List.take_sublist _ _),List.pairwise_cons.mpr ⟨drop,hp.sublist (List.drop_sublist _ _)⟩,fun a ha b hb=>?_⟩;rcases List.mem_cons.mp hb with e | hb
 ·rw[e];exact take a ha
 ·exact Nat.lt_trans (take a ha) (drop b hb)
structure pF(t:SetTable):Prop where
 Uo:t.dummies=#[]
 up:t.plain=true->qR t.place
theorem Dd{t:SetTable}(h:t.dummies=#[])(j:Nat):t.slot j≠.dummy:=by
 unfold SetTable.slot;dsimp only;split
 ·intro z;cases z
 ·have e:SetTable.has t.dummies j=false:=by rw[h];simp[SetTable.has]
  rw[if_neg (by rw[e];exact mx)];intro z;cases z
theorem xG{t:SetTable}(h:t.dummies=#[]){f:Nat->Int}{x:Int}:∀(n:Nat) (p:SetTable.Probe) {j:Nat} {d:Option Nat},SetTable.probe.go t f x n p=some (.empty j d)->t.slot j=.empty/\d=p.dummy:=by
 intro n
 induction n with
 | zero=>intro p j d e;cases e
 | succ n ih=>
  intro p j d e;unfold SetTable.probe.go at e;cases q:t.slot p.j with
  | empty=>
   rw[q]at e;cases e;exact⟨q,rfl⟩
  | dummy=>exact absurd q (Dd h _)
  | live i=>
   rw[q]at e;dsimp only at e;have adv:(t.advance p).dummy=p.dummy:=by unfold SetTable.advance;split<;>rfl
   split at e
   ·cases e
   ·have:=ih _ e;rw[adv]at this;exact this
theorem De{t:SetTable}(hr:qR t.place){j:Nat}(h:t.slot j=.empty):∀i,i<t.place.size->t.place.getD i 0≠j:=by
 intro i hi e;have hb:SetTable.below t.place j=i:=below_at hr (fun k hk=>by rw[<-e];exact hr k i hk hi) (fun _=>by rw[e];exact mf _) (Nat.le_of_lt hi);have q:t.place[SetTable.below t.place j]? =some j:=by rw[hb,<-e];simp[Array.getD,hi]
 unfold SetTable.slot at h;dsimp only at h;rw[if_pos (by rw[q];simp)]at h;cases h
theorem fc(t:SetTable)(n:Nat):pF (t.standIn n)/\(t.standIn n).led=t.led:=⟨⟨rfl,fun h=>by cases h⟩,rfl⟩
theorem xH{t:SetTable}(es:Array (Int×Value))(h:Int)(x:Value)(I:pF t):pF (layNew t es h x).2.1/\(layNew t es h x).2.1.led=t.led:=by
 unfold layNew;cases e:t.freeSlot h with
 | none=>exact fc _ _
 | some p=>
  obtain⟨slot,wd⟩:=p;dsimp only;unfold SetTable.freeSlot at e;cases q:t.probe (fun _=>h+1) h (t.probeStart h)with
  | none=>rw[q]at e;cases e
  | some m=>
   rw[q]at e;cases m with
   | candidate a b c=>cases e
   | empty j d=>
    obtain⟨h1,h2⟩:=xG I.Uo _ _ q;have h2:d=none:=h2;subst h2;have e1:j=slot:=by have:=congrArg Prod.fst (Option.some.inj e);exact this
    subst e1;have key:pF (t.put j).1/\(t.put j).1.led=t.led:=by
     refine⟨⟨?_,fun hp=>?_⟩,rfl⟩
     ·show(if SetTable.has t.dummies j then _ else t.dummies)=#[];rw[if_neg (by rw[I.Uo];simp[SetTable.has])];exact I.Uo
     ·exact vj (I.up hp) (De (I.up hp) h1)
    unfold SetTable.orStandIn;split
    ·exact key
    ·exact⟨(fc _ _).1,(fc _ _).2.trans key.2⟩
theorem vk{β:Type}(g:Nat->Option β):∀l:List Nat,(l.filterMap fun j=>(g j).map (j,·)).map (·.1)=l.filter fun j=>(g j).isSome
 | []=>rfl
 | a::r=>by
  have ih:=vk g r;cases e:g a with
  | none=>simp[List.filterMap_cons,e,ih]
  | some b=>simp[List.filterMap_cons,e,ih]
theorem sU{t:SetTable}(es:Array (Int×Value))(n:Nat):pF (relayAll t es n).2.1/\(relayAll t es n).2.1.led=t.led:=by
 unfold relayAll;cases e:t.relaid (es.map (·.1)) n with
 | none=>exact fc _ _
 | some p=>
  obtain⟨t',order⟩:=p;dsimp only;split
  ·unfold SetTable.relaid SetTable.laid at e;cases q:SetTable.layClean (SetTable.sizeAbove n-1) (es.map (·.1))with
   | none=>rw[q]at e;cases e
   | some owner=>
    rw[q]at e;have e:=congrArg Prod.fst (Option.some.inj e);dsimp only at e;subst e;refine⟨⟨rfl,fun _=>?_⟩,rfl⟩;rw[lM];dsimp only;have z:=vk (fun j=>owner.getD j none) (List.range (SetTable.sizeAbove n-1+1));rw[z];exact List.pairwise_lt_range.sublist List.filter_sublist
  ·exact fc _ _
theorem jX{α:Type}:∀(l:List α) (i:Nat) (h:i<l.length),List.Perm (l[i]::l.eraseIdx i) l
 | a::r,0,_=>List.Perm.refl _
 | a::r,i+1,h=>by have q:=jX r i (by simpa using h);show List.Perm (r[i]'(by simpa using h)::a::r.eraseIdx i) (a::r);exact(List.Perm.swap _ _ _).trans (q.cons a)
theorem zG{α:Type}(next:Nat->Nat):∀(n k:Nat) (left:List α) (out:Array α),n=left.length->List.Perm (pickOrder.go next n k left out).toList (out.toList++left)
 | 0,k,left,out,h=>by
  have e:left=[]:=List.eq_nil_of_length_eq_zero h.symm;subst e;simp[pickOrder.go]
 | n+1,k,left,out,h=>by unfold pickOrder.go;have hlt:next k % left.length<left.length:=Nat.mod_lt _ (by omega);have e:left[next k % left.length]? =some left[next k % left.length]:=aa hlt;rw[e];dsimp only;refine(zG next n (k+1) _ _ (by rw[List.length_eraseIdx,if_pos hlt];omega)).trans ?_;rw[Array.toList_push,List.append_assoc];refine List.Perm.append_left _ ?_;show List.Perm (left[next k % left.length]::left.eraseIdx (next k % left.length)) left;exact jX _ _ hlt
theorem AR{α:Type}(next:Nat->Nat)(xs:Array α):List.Perm (pickOrder next xs).toList xs.toList:=by have:=zG next xs.size 0 xs.toList #[] (by simp);simpa[pickOrder] using this
end SF
namespace SF
open PySem PySem.Calls PyProof.Rows
theorem bU:Slot "set_iterator" "__next__" "set_iterator.__next__":=
 .of (owner :="set_iterator") (n :="__next__") (by rw[typeLookup_type,builtinLookup_eq_fast];kernel_rfl) (by decide+kernel) (by decide+kernel) (by decide+kernel)
  (by first | exact .inl (by decide+kernel) | exact .inr (by decide+kernel)) (by rw[isSubtype_type];kernel_rfl)
theorem eW:entryFor table "set_iterator.__next__"=some Builtin.«set_iterator.__next__»:=entryFor_of_tree (by kernel_rfl)
theorem fU(a:Value):argsOk "set_iterator.__next__" ⟨[a],[]⟩:=by unfold argsOk;kernel_rfl
theorem pG:entryFor table "set.__iter__"=some Builtin.«frozenset.__iter__» :=
 entryFor_alias (id' :="frozenset.__iter__") (by kernel_rfl) rfl (by decide+kernel) (by kernel_rfl)
section
variable {prog:Program}{w:World}{A:Around}{E:Value->Shared->Prop}{s:Shared}
def dm(h:Heap)(a:Addr)(es:Array (Int×Value))(ep:Nat)(t:SetTable):Prop:=∃o,h.get? a=some o/\o.ExactSet/\o.data=.set es ep t
def jY(h:Heap)(I:Addr)(first:Value)(i:Nat)(a:Addr)(n ep:Nat):Prop :=
 ∃o,h.get? I=some o/\o.cls=.type "set_iterator"/\o.data=.fields #[first,.int i 0,.ref a,.int n 0,.int ep 0]
theorem jY.typeIs{I:Addr}{first:Value}{i:Nat}{a:Addr}{n ep:Nat}(x:jY s.heap I first i a n ep):s.TypeIs (.ref I) "set_iterator":=let ⟨o,ho,hc,_⟩:=x;⟨o,ho,hc⟩
theorem Df{a I:Addr}{es:Array (Int×Value)}{ep:Nat}{t:SetTable}{sl i:Nat}{v:Value}{sl':Nat}{Q:Option Value->Shared->Prop}
  (hs:dm s.heap a es ep t) (hf:t.fits es.size=true) (hi:jY s.heap I (.int sl 0) i a es.size ep)
  (hN:∀(s:Shared) (A:Around) (E:Value->Shared->Prop) (R:Option (Value×Nat)->Shared->Prop),dm s.heap a es ep t->R (some (v,sl')) s->wpAny (model prog w) A (setNext a sl i ep) R E s)
  (hQ:∀h',jY h' I (.int sl' 0) (i+1) a es.size ep->Heap.SameBut I s.heap h'->Q (some v) {s with heap:=h'}):wpAny (model prog w) A (pyNext (.ref I)) Q E s:=by
 obtain⟨o,ho,hc,hd⟩:=id hi;obtain⟨oa,hoa,hex,hda⟩:=id hs;unfold pyNext
 refine ff (wpAny_attempt (wpAny_callSpecial?_slot (name:=Str.ofString "__next__") hi.typeIs bU
  (gr bU hi.typeIs eW ?_ (fU _))))
 unfold Builtin.«set_iterator.__next__»;refine ff (fg ?_);refine ff (wpAny_fieldsOf ho hd ?_);dsimp only;refine ff (wpAny_setEntries_of hoa hda hf ?_);rw[if_neg (by simp)];simp only[nn];refine ff (hN s _ _ _ hs ?_);dsimp only;refine ff (wpAny_setField ho hd (by simp) ?_);have ho1:=Heap.get?_update_self (Obj.mapFields (·.setIfInBounds 0 (rawInt (sl':Int)))) ho (Obj.isFreed_of_fields (Obj.data_mapFields hd _));have hd1:=Obj.data_mapFields hd (·.setIfInBounds 0 (rawInt (sl':Int)));refine ff (wpAny_setField ho1 hd1 (by simp) ?_);have ho2:=Heap.get?_update_self (Obj.mapFields (·.setIfInBounds 1 (rawInt ((i:Int)+1)))) ho1 (Obj.isFreed_of_fields (Obj.data_mapFields hd1 _));have hd2:=Obj.data_mapFields hd1 (·.setIfInBounds 1 (rawInt ((i:Int)+1)));refine fg ⟨_,rfl,fg (hQ _ ⟨_,ho2,?_,?_⟩ ((Heap.SameBut.update ..).trans (Heap.SameBut.update ..)))⟩
 ·rw[Obj.cls_mapFields,Obj.cls_mapFields];exact hc
 ·rw[hd2];simp[rawInt]
theorem end_int{a I:Addr}{es:Array (Int×Value)}{ep:Nat}{t:SetTable}{sl i:Nat}{Q:Option Value->Shared->Prop}(hh:A.handled=none)
  (hs:dm s.heap a es ep t) (hf:t.fits es.size=true) (hi:jY s.heap I (.int sl 0) i a es.size ep)
  (hN:∀(s:Shared) (A:Around) (E:Value->Shared->Prop) (R:Option (Value×Nat)->Shared->Prop),dm s.heap a es ep t->R none s->wpAny (model prog w) A (setNext a sl i ep) R E s)
  (hQ:∀h',Heap.ExtBut I s.heap h'->Q none {s with heap:=h'}):wpAny (model prog w) A (pyNext (.ref I)) Q E s:=by
 obtain⟨o,ho,hc,hd⟩:=id hi;obtain⟨oa,hoa,hex,hda⟩:=id hs;unfold pyNext
 refine ff (wpAny_attempt (wpAny_callSpecial?_slot (name:=Str.ofString "__next__") hi.typeIs bU
  (gr bU hi.typeIs eW ?_ (fU _))))
 unfold Builtin.«set_iterator.__next__»;refine ff (fg ?_);refine ff (wpAny_fieldsOf ho hd ?_);dsimp only;refine ff (wpAny_setEntries_of hoa hda hf ?_);rw[if_neg (by simp)];simp only[nn];refine ff (hN s _ _ _ hs ?_);dsimp only;refine ff (wpAny_setField ho hd (by simp) ?_);refine ff ?_;simp only[newExc,newTuple];refine ff (wpAny_newObj_type ?_ (by size_fits));refine ff (m:=firstArgMember _ _) (wpAny_of_eq (a:=Value.none) (by first | rfl | (simp only[firstArgMember];rfl)) ?_);refine wpAny_newObj_type ?_ (by size_fits);simp only[raiseNew];refine ff (wpAny_handled ?_);rw[show A.in1.handled=none from hh];refine ff (fg (wpAny_throw ?_));refine ff (wpAny_isInstance (T :="StopIteration") (b:=true) ⟨_,gv _ rfl,rfl⟩ isSubtype_stop ?_);exact fg (hQ _ (((Heap.SameBut.update ..).extBut.push _).push _))
theorem xI{a I T:Addr}{es:Array (Int×Value)}{ep:Nat}{t:SetTable}{i p:Nat}{ps:Array Value}{k:Nat}{tk:Tok}{oT:Obj}{c:Int}{v:Value}{Q:Option Value->Shared->Prop}
  (hs:dm s.heap a es ep t) (hf:t.fits es.size=true) (hi:jY s.heap I (.ref T) i a es.size ep) (hT:s.heap.get? T=some oT) (hTd:oT.data=.seq ps k) (hp:ps[i]? =some (.int p tk)) (hv:es[p]? =some (c,v))
  (hQ:∀h',jY h' I (.ref T) (i+1) a es.size ep->Heap.SameBut I s.heap h'->Q (some v) {s with heap:=h'}):wpAny (model prog w) A (pyNext (.ref I)) Q E s:=by
 obtain⟨o,ho,hc,hd⟩:=id hi;obtain⟨oa,hoa,hex,hda⟩:=id hs;unfold pyNext
 refine ff (wpAny_attempt (wpAny_callSpecial?_slot (name:=Str.ofString "__next__") hi.typeIs bU
  (gr bU hi.typeIs eW ?_ (fU _))))
 unfold Builtin.«set_iterator.__next__»;refine ff (fg ?_);refine ff (wpAny_fieldsOf ho hd ?_);dsimp only;refine ff (wpAny_setEntries_of hoa hda hf ?_);rw[if_neg (by simp)];simp only[nn];refine ff ?_;unfold seqItems?;refine ff (wpAny_load hT ?_);rw[hTd];refine fg ?_;dsimp only;rw[hp];dsimp only;refine ff ?_;unfold setNextDrawn;refine ff (wpAny_setState_of hoa hda hf ?_);dsimp only;rw[if_neg (by simp)];simp only[nn];rw[hv];refine fg ?_;refine ff (wpAny_setField ho hd (by simp) ?_);have ho2:=Heap.get?_update_self (Obj.mapFields (·.setIfInBounds 1 (rawInt ((i:Int)+1)))) ho (Obj.isFreed_of_fields (Obj.data_mapFields hd _));have hd2:=Obj.data_mapFields hd (·.setIfInBounds 1 (rawInt ((i:Int)+1)));refine fg ⟨_,rfl,fg (hQ _ ⟨_,ho2,?_,?_⟩ (Heap.SameBut.update ..))⟩
 ·rw[Obj.cls_mapFields];exact hc
 ·rw[hd2];simp[rawInt]
theorem AT{a I T:Addr}{es:Array (Int×Value)}{ep:Nat}{t:SetTable}{i:Nat}{ps:Array Value}{k:Nat}{oT:Obj}{Q:Option Value->Shared->Prop}(hh:A.handled=none)
  (hs:dm s.heap a es ep t) (hf:t.fits es.size=true) (hi:jY s.heap I (.ref T) i a es.size ep) (hT:s.heap.get? T=some oT) (hTd:oT.data=.seq ps k) (hp:ps[i]? =none)
  (hQ:∀h',Heap.ExtBut I s.heap h'->Q none {s with heap:=h'}):wpAny (model prog w) A (pyNext (.ref I)) Q E s:=by
 obtain⟨o,ho,hc,hd⟩:=id hi;obtain⟨oa,hoa,hex,hda⟩:=id hs;unfold pyNext
 refine ff (wpAny_attempt (wpAny_callSpecial?_slot (name:=Str.ofString "__next__") hi.typeIs bU
  (gr bU hi.typeIs eW ?_ (fU _))))
 unfold Builtin.«set_iterator.__next__»;refine ff (fg ?_);refine ff (wpAny_fieldsOf ho hd ?_);dsimp only;refine ff (wpAny_setEntries_of hoa hda hf ?_);rw[if_neg (by simp)];simp only[nn];refine ff ?_;unfold seqItems?;refine ff (wpAny_load hT ?_);rw[hTd];refine fg ?_;dsimp only;rw[hp];dsimp only;refine ff (wpAny_setField ho hd (by simp) ?_);have ho1:=Heap.get?_update_self (Obj.mapFields (·.setIfInBounds 0 (rawInt 0))) ho (Obj.isFreed_of_fields (Obj.data_mapFields hd _));have hd1:=Obj.data_mapFields hd (·.setIfInBounds 0 (rawInt 0));refine ff (wpAny_setField ho1 hd1 (by simp) ?_);refine ff ?_;simp only[newExc,newTuple];refine ff (wpAny_newObj_type ?_ (by size_fits));refine ff (m:=firstArgMember _ _) (wpAny_of_eq (a:=Value.none) (by first | rfl | (simp only[firstArgMember];rfl)) ?_);refine wpAny_newObj_type ?_ (by size_fits);simp only[raiseNew];refine ff (wpAny_handled ?_);rw[show A.in1.handled=none from hh];refine ff (fg (wpAny_throw ?_));refine ff (wpAny_isInstance (T :="StopIteration") (b:=true) ⟨_,gv _ rfl,rfl⟩ isSubtype_stop ?_);exact fg (hQ _ ((((Heap.SameBut.update ..).trans (Heap.SameBut.update ..)).extBut.push _).push _))
theorem ky{a:Addr}{es:Array (Int×Value)}{ep:Nat}{t:SetTable}{sl i:Nat}{R:Option (Value×Nat)->Shared->Prop}(hb:w.params.followText "set-order"=true)
  (hs:dm s.heap a es ep t) (hf:t.fits es.size=true) (h:R (((pickOrder (w.params.setOrder a ep) es)[i]?).map fun e=>(e.2,sl)) s):wpAny (model prog w) A (setNext a sl i ep) R E s:=by
 obtain⟨o,ho,hex,hd⟩:=id hs;unfold setNext setsByText;refine ff (wpAny_setState_of ho hd hf ?_);dsimp only;refine ff (ff (wpAny_askSetting (fg ?_)));rw[if_pos (show(⟨(model prog w).prog,(model prog w).w.params⟩:Setting).params.followText "set-order"=true from hb),if_neg (by simp)];refine ff ?_;unfold setWalk setsByText;refine ff (wpAny_setState_of ho hd hf ?_);dsimp only;refine ff (ff (wpAny_askSetting (fg ?_)));rw[if_pos (show(⟨(model prog w).prog,(model prog w).w.params⟩:Setting).params.followText "set-order"=true from hb)];exact ff (wpAny_askSetting (fg (fg h)))
theorem jM{a:Addr}{es:Array (Int×Value)}{ep:Nat}{t:SetTable}{sl i:Nat}{R:Option (Value×Nat)->Shared->Prop}(hb:w.params.followText "set-order"=false)(hp:(!t.plain&&decide (es.size>1))=false)(hl:t.led=true)
  (hs:dm s.heap a es ep t) (hf:t.fits es.size=true)
  (h:R (match es[SetTable.below t.place sl]?,t.place[SetTable.below t.place sl]? with | some (_,x),some j=>some (x,j+1) | _,_=>none) s):wpAny (model prog w) A (setNext a sl i ep) R E s:=by
 obtain⟨o,ho,hex,hd⟩:=id hs;unfold setNext setsByText;refine ff (wpAny_setState_of ho hd hf ?_);dsimp only;refine ff (ff (wpAny_askSetting (fg ?_)));rw[if_neg (show ¬(⟨(model prog w).prog,(model prog w).w.params⟩:Setting).params.followText "set-order"=true from by show ¬w.params.followText "set-order"=true;rw[hb];exact mx)];refine wpAny_ite_split (fun hab=>absurd (show(!t.plain&&decide (es.size>1))=true from hab) (by rw[hp];exact mx)) (fun _=>?_);refine ff ?_;show wpAny (model prog w) A (if (!t.led&& !es.isEmpty)=true then unsupported "set:maker-not-led"else pure ()) _ _ s;rw[if_neg (by rw[hl];simp)];exact fg (fg h)
theorem sV{src:Source}{n:Nat}{Q:Nat->Shared->Prop}(hn:0<n)(h:∀i d,i<n->Q i {s with drawn:=d}):wpAny (model prog w) A (choose src n) Q E s:=fun _ _ _=>
 ⟨Nat.ne_of_gt hn,h _ _ (Nat.mod_lt _ hn)⟩
theorem i5:∀(n:Nat) (l:List Nat) (s:Shared) {Q:List Nat->Shared->Prop},n=l.length->(∀r d,List.Perm r l->Q r {s with drawn:=d})->wpAny (model prog w) A (drawOrder n l) Q E s
 | 0,l,s,Q,hn,h=>by
  have e:l=[]:=List.eq_nil_of_length_eq_zero hn.symm;subst e;exact fg (h [] s.drawn (List.Perm.refl _))
 | n+1,[],s,Q,hn,h=>by cases hn
 | n+1,x::r,s,Q,hn,h=>by unfold drawOrder;refine ff (sV (by simp) fun i d hi=>?_);have e:(x::r)[i]? =some (x::r)[i]:=aa hi;rw[e];dsimp only;refine ff (i5 n _ _ (by rw[List.length_eraseIdx,if_pos hi];omega) fun q d' hq=>fg ?_);exact h _ d' ((hq.cons _).trans (jX _ _ hi))
structure SI(prog:Program)(w:World)(s:Shared)(a:Addr)(es:Array (Int×Value))(ep:Nat)(t:SetTable):Prop where
 hs:dm s.heap a es ep t
 fit:t.fits es.size=true
 inv:pF t
 led:w.params.followText "set-order"=true\/t.led=true
theorem dm.typeIs{a:Addr}{es:Array (Int×Value)}{ep:Nat}{t:SetTable}(x:dm s.heap a es ep t):s.TypeIs (.ref a) "set":=let ⟨o,ho,hc,_⟩:=x;⟨o,ho,hc.1⟩
theorem dm.lt{h:Heap}{a:Addr}{es:Array (Int×Value)}{ep:Nat}{t:SetTable}(x:dm h a es ep t):a<h.objs.size:=let ⟨o,ho,_⟩:=x;ii ho
theorem dm.at{h h':Heap}{a:Addr}{es:Array (Int×Value)}{ep:Nat}{t:SetTable}(x:dm h a es ep t)(e:∀o,h.get? a=some o->h'.get? a=some o):dm h' a es ep t:=let ⟨o,ho,r⟩:=x;⟨o,e _ ho,r⟩
theorem jY.at{h h':Heap}{I:Addr}{first:Value}{i:Nat}{a:Addr}{n ep:Nat}(x:jY h I first i a n ep)(e:∀o,h.get? I=some o->h'.get? I=some o):jY h' I first i a n ep:=let ⟨o,ho,r⟩:=x;⟨o,e _ ho,r⟩
theorem kz:Slot "set_iterator" "__iter__" "set_iterator.__iter__":=
 .of (owner :="set_iterator") (n :="__iter__") (by rw[typeLookup_type,builtinLookup_eq_fast];kernel_rfl) (by decide+kernel) (by decide+kernel) (by decide+kernel)
  (by first | exact .inl (by decide+kernel) | exact .inr (by decide+kernel)) (by rw[isSubtype_type];kernel_rfl)
theorem Dg{a:Addr}{es:Array (Int×Value)}{ep:Nat}{t:SetTable}{Q:Value->Shared->Prop}(S:SI prog w s a es ep t)(hsz:es.size<=fw)
  (h1:(w.params.followText "set-order"=true\/(!t.plain&&decide (es.size>1))=false)->Q (.ref s.heap.objs.size) {s with heap:=s.heap.push {cls:=.type "set_iterator",data:=.fields #[.int 0 0,.int 0 0,.ref a,.int es.size 0,.int ep 0]}})
  (h2:∀(r:List Nat) (d:Drawn),List.Perm r (List.range es.size)->Q (.ref (s.heap.objs.size+1)) {s with drawn:=d,heap:=(s.heap.push {cls:=.type "tuple",data:=.seq ((r.map fun(i:Nat)=>rawInt i).toArray)}).push {cls:=.type "set_iterator",data:=.fields #[.ref s.heap.objs.size,.int 0 0,.ref a,.int es.size 0,.int ep 0]}}):
  wpAny (model prog w) A (pyIter (.ref a)) Q E s:=by
 obtain⟨o,ho,hex,hd⟩:=id S.hs;refine wpAny_pyIter_slot S.hs.typeIs PySem.F.slot_set_iter (gr PySem.F.slot_set_iter S.hs.typeIs pG ?_ (PySem.F.args_set_iter_1 _));unfold Builtin.«frozenset.__iter__» Builtin.Frozenset.slot0;refine ff (ff (fg (fg ?_)));refine ff ?_;unfold Builtin.Frozenset.sizeOf;refine ff (wpAny_setEntries_of ho hd S.fit (fg ?_));refine ff ?_;unfold setDrawn setsByText;refine ff (wpAny_setState_of ho hd S.fit ?_);dsimp only;refine ff (ff (wpAny_askSetting (fg ?_)));refine fg ?_;dsimp only;by_cases hb:w.params.followText "set-order"=true
 ·refine wpAny_ite_split (fun hab=>?_) (fun _=>?_)
  ·have hab:(!w.params.followText "set-order"&&_)=true:=hab;rw[hb]at hab;exact absurd hab (by simp)
  ·refine ff (fg ?_);refine ff (wpAny_setEpoch_of ho hd S.fit ?_);refine ff (wpAny_newObj_type ?_);exact fg ⟨_,rfl,"set_iterator",_,⟨_,gv _ rfl,rfl⟩,bU.lookup,h1 (.inl hb)⟩
 ·have hb':w.params.followText "set-order"=false:=by simpa using hb
  refine wpAny_ite_split (fun hab=>?_) (fun hab=>?_)
  ·refine ff (i5 _ _ _ (by simp) fun r d hr=>?_);refine ff (wpAny_newObj_type ?_ ?_)
   ·refine ff (wpAny_setEpoch_of (gs _ ho) hd S.fit ?_);refine ff (wpAny_newObj_type ?_);have hz:=h2 r d hr;rw[<-size_push' s.heap {cls:=.type "tuple",data:=.seq ((r.map fun(i:Nat)=>rawInt i).toArray)}]at hz;exact fg ⟨_,rfl,"set_iterator",_,⟨_,gv _ rfl,rfl⟩,bU.lookup,hz⟩
   ·have hl:r.length=es.size:=by rw[hr.length_eq,List.length_range]
    show(List.map _ r).toArray.size<=_;rw[am,List.length_map,hl];omega
  ·refine ff (fg ?_);refine ff (wpAny_setEpoch_of ho hd S.fit ?_);refine ff (wpAny_newObj_type ?_);refine fg ⟨_,rfl,"set_iterator",_,⟨_,gv _ rfl,rfl⟩,bU.lookup,h1 (.inr ?_)⟩;have hab:¬((!w.params.followText "set-order"&&(!t.plain&&decide (es.size>1)))=true):=hab;rw[hb']at hab;simpa using hab
theorem qS:entryFor table "set_iterator.__iter__"=some Builtin.«dict_keyiterator.__iter__» :=
 entryFor_alias (id' :="dict_keyiterator.__iter__") (by kernel_rfl) rfl (by decide+kernel) (by kernel_rfl)
theorem sW(a:Value):argsOk "set_iterator.__iter__" ⟨[a],[]⟩:=by unfold argsOk;kernel_rfl
theorem zH{I:Addr}{first:Value}{i:Nat}{a:Addr}{n ep:Nat}{Q:Value->Shared->Prop}(hi:jY s.heap I first i a n ep)(h:Q (.ref I) s):wpAny (model prog w) A (pyIter (.ref I)) Q E s:=by refine wpAny_pyIter_slot hi.typeIs kz (gr kz hi.typeIs qS ?_ (sW _));show wpAny _ _ (ret (.ref I)) _ _ s;exact fg ⟨_,rfl,"set_iterator",_,hi.typeIs,bU.lookup,h⟩
theorem rT(hh:A.handled=none){a I:Addr}(hne:a≠I){es:Array (Int×Value)}{ep:Nat}{t:SetTable}(hf:t.fits es.size=true)(order:List Value)(hl:order.length=es.size)(sl:Nat->Nat)
  (hN:∀(i:Nat) (v:Value),order[i]? =some v->∀(s:Shared) (A:Around) (E:Value->Shared->Prop) (R:Option (Value×Nat)->Shared->Prop),dm s.heap a es ep t->R (some (v,sl (i+1))) s->wpAny (model prog w) A (setNext a (sl i) i ep) R E s)
  (hE:∀(s:Shared) (A:Around) (E:Value->Shared->Prop) (R:Option (Value×Nat)->Shared->Prop),dm s.heap a es ep t->R none s->wpAny (model prog w) A (setNext a (sl es.size) es.size ep) R E s):
  Walks prog w A I [I,a] [I] es.size (fun i v=>order[i]? =some v) (fun i h=>dm h a es ep t/\jY h I (.int (sl i) 0) i a es.size ep) where
 sub:=fun b hb=>by simp at hb;simp[hb]
 frame:=fun _ _ _ st hk=>⟨st.1.at fun o e=>hk a (by simp) o e,st.2.at fun o e=>hk I (by simp) o e⟩
 item:=fun i s Q E hi st hQ=>by obtain⟨v,hv⟩:∃v,order[i]? =some v:=⟨order[i]'(by omega),by simp[hl,hi]⟩;refine Df st.1 hf st.2 (hN i v hv) fun h' h1 h2=>?_;exact hQ v h' s.toks hv ⟨st.1.at fun o e=>h2.extBut a o hne e,h1⟩ fun b o hb e=>h2.extBut b o (fun z=>hb (by simp[z])) e
 done:=fun s Q E st hQ=>end_int hh st.1 hf st.2 hE fun h' he=>hQ h' s.toks fun b o hb e=>he b o (fun z=>hb (by simp[z])) e
 self:=fun _ _ _ _ st hQ=>zH st.2 hQ
theorem vm(hh:A.handled=none){a I T:Addr}(hne:a≠I)(hnT:T≠I){es:Array (Int×Value)}{ep:Nat}{t:SetTable}(hf:t.fits es.size=true)(r:List Nat)(hr:List.Perm r (List.range es.size)){oT:Obj}(hTd:oT.data=.seq ((r.map fun(i:Nat)=>rawInt i).toArray)):
  Walks prog w A I [I,a,T] [I] es.size (fun i v=>(r.map fun p=>((es[p]?).getD default).2)[i]? =some v) (fun i h=>dm h a es ep t/\jY h I (.ref T) i a es.size ep/\h.get? T=some oT) where
 sub:=fun b hb=>by simp at hb;simp[hb]
 frame:=fun _ _ _ st hk=>⟨st.1.at fun o e=>hk a (by simp) o e,st.2.1.at fun o e=>hk I (by simp) o e,hk T (by simp) _ st.2.2⟩
 item:=fun i s Q E hi st hQ=>by
  have hl:r.length=es.size:=by rw[hr.length_eq,List.length_range]
  have hi':i<r.length:=by omega
  have hp:r[i] <es.size:=List.mem_range.mp (hr.mem_iff.mp (bn hi'));have e1:r[i]? =some r[i]:=aa hi';have e2:es[r[i]]? =some (es[r[i]].1,es[r[i]].2):=by simp[hp]
  have hv:(r.map fun p=>((es[p]?).getD default).2)[i]? =some es[r[i]].2:=by rw[ac,e1];show some ((es[r[i]]?).getD default).2=_;rw[e2];rfl
  refine xI (p:=r[i]) (tk:=0) st.1 hf st.2.1 st.2.2 hTd (by simp[rawInt,e1]) e2 fun h' h1 h2=>?_;exact hQ _ h' s.toks hv ⟨st.1.at fun o e=>h2.extBut a o hne e,h1,h2.extBut T _ hnT st.2.2⟩ fun b o hb e=>h2.extBut b o (fun z=>hb (by simp[z])) e
 done:=fun s Q E st hQ=>by
  have hl:r.length=es.size:=by rw[hr.length_eq,List.length_range]
  exact AT hh st.1 hf st.2.1 st.2.2 hTd (by simp[hl]) fun h' he=>hQ h' s.toks fun b o hb e=>he b o (fun z=>hb (by simp[z])) e
 self:=fun _ _ _ _ st hQ=>zH st.2.1 hQ
def Ls(t:SetTable)(i:Nat):Nat:=if i=0 then 0 else t.place.getD (i-1) 0+1
theorem vn{t:SetTable}(hr:qR t.place){i:Nat}(hi:i<=t.place.size):SetTable.below t.place (Ls t i)=i:=by
 unfold Ls;cases i with
 | zero=>exact below_at hr (fun k hk=>absurd hk (Nat.not_lt_zero _)) (fun _=>by simp) (Nat.zero_le _)
 | succ i=>
  rw[if_neg (by omega)];show SetTable.below t.place (t.place.getD i 0+1)=i+1;refine below_at hr (fun k hk=>?_) (fun h=>hr i (i+1) (Nat.lt_succ_self _) h) hi;rcases Nat.lt_or_ge k i with q | q
  ·have:=hr k i q (by omega);omega
  ·have e:k=i:=by omega
   rw[e];omega
theorem xJ(hh:A.handled=none){a:Addr}{es:Array (Int×Value)}{ep:Nat}{t:SetTable}{Q:Value->Shared->Prop}(S:SI prog w s a es ep t)(hsz:es.size<=fw)
  (h:∀(I:Addr) (fp:List Addr) (order:List Value) (St:Nat->Heap->Prop) (h':Heap) (d:Drawn),List.Perm order (es.toList.map (·.2))->(∀b∈fp,b<h'.objs.size)->s.heap.objs.size<=I->I∈fp->(∀b∈fp,b=a\/s.heap.objs.size<=b)->Walks prog w A I fp [I] es.size (fun i v=>order[i]? =some v) St->St 0 h'->
   (∀b o,s.heap.get? b=some o->h'.get? b=some o)->Q (.ref I) {s with heap:=h',drawn:=d}):wpAny (model prog w) A (pyIter (.ref a)) Q E s:=by
 have hlt:@LT.lt Nat _ a s.heap.objs.size:=S.hs.lt;have hpl:t.place.size=es.size:=by have:=S.fit;simp only[SetTable.fits,Bool.and_eq_true,beq_iff_eq]at this;exact this.1
 refine Dg S hsz (fun hm=>?_) (fun r d hr=>?_)
 ·have hI:a≠s.heap.objs.size:=mi hlt;have fpl:∀b∈ [s.heap.objs.size,a],b< (s.heap.push {cls:=.type "set_iterator",data:=.fields #[.int 0 0,.int 0 0,.ref a,.int es.size 0,.int ep 0]}).objs.size:=fun b hb=>by
   rw[size_push'];simp at hb;rcases hb with e | e
   ·rw[e];exact Nat.lt_succ_self _
   ·rw[e];exact Nat.lt_succ_of_lt hlt
  have st0:dm (s.heap.push {cls:=.type "set_iterator",data:=.fields #[.int 0 0,.int 0 0,.ref a,.int es.size 0,.int ep 0]}) a es ep t:=S.hs.at fun o e=>gs _ e;have si0:jY (s.heap.push {cls:=.type "set_iterator",data:=.fields #[.int 0 0,.int 0 0,.ref a,.int es.size 0,.int ep 0]}) s.heap.objs.size (.int (0:Nat) 0) 0 a es.size ep:=⟨_,gv _ rfl,rfl,rfl⟩;by_cases hb:w.params.followText "set-order"=true
  ·have hp:=AR (w.params.setOrder a ep) es;have hpl':(pickOrder (w.params.setOrder a ep) es).size=es.size:=by rw[<-Array.length_toList,hp.length_eq,Array.length_toList]
   refine h s.heap.objs.size _ ((pickOrder (w.params.setOrder a ep) es).toList.map (·.2)) _ _ s.drawn (hp.map _) fpl (mf _) (by simp) (fun b hb=>by simp at hb;rcases hb with e | e<;>subst e<;>simp)
    (rT hh hI S.fit _ (by rw[List.length_map,Array.length_toList];exact hpl') (fun _=>0) (fun i v hv s' A' E' R hs' hR=>?_) (fun s' A' E' R hs' hR=>?_)) ⟨st0,si0⟩ (fun b o e=>gs _ e)
   ·refine ky hb hs' S.fit ?_;rw[ac,Array.getElem?_toList]at hv;cases q:(pickOrder (w.params.setOrder a ep) es)[i]? with
    | none=>rw[q]at hv;cases hv
    | some x=>rw[q]at hv;cases hv;exact hR
   ·refine ky hb hs' S.fit ?_;rw[Array.getElem?_eq_none (by omega)];exact hR
  ·have hb':w.params.followText "set-order"=false:=by simpa using hb
   have hp:(!t.plain&&decide (es.size>1))=false:=hm.resolve_left hb;have qT:t.led=true:=S.led.resolve_left hb;have hr:qR t.place:=by
    cases q:t.plain with
    | true=>exact S.inv.up q
    | false=>
     rw[q]at hp;intro i k hik hk;have:¬es.size>1:=by simpa using hp
     omega
   refine h s.heap.objs.size _ (es.toList.map (·.2)) _ _ s.drawn (List.Perm.refl _) fpl (mf _) (by simp) (fun b hb=>by simp at hb;rcases hb with e | e<;>subst e<;>simp)
    (rT hh hI S.fit _ (by rw[List.length_map,Array.length_toList]) (Ls t) (fun i v hv s' A' E' R hs' hR=>?_) (fun s' A' E' R hs' hR=>?_)) ⟨st0,si0⟩ (fun b o e=>gs _ e)
   ·refine jM hb' hp qT hs' S.fit ?_;rw[ac,Array.getElem?_toList]at hv;cases q:es[i]? with
    | none=>rw[q]at hv;cases hv
    | some x=>
     rw[q]at hv;cases hv;have hi:i<es.size:=by
      rcases Nat.lt_or_ge i es.size with z | z
      ·exact z
      ·rw[Array.getElem?_eq_none z]at q;cases q
     have e2:t.place[i]? =some (t.place.getD i 0):=by simp[Array.getD,hpl,hi]
     rw[vn hr (by omega),q,e2];exact hR
   ·refine jM hb' hp qT hs' S.fit ?_;rw[vn hr (by omega),Array.getElem?_eq_none (mf _)];exact hR
 ·have hl:r.length=es.size:=by rw[hr.length_eq,List.length_range]
  have k1:∀b o,s.heap.get? b=some o->((s.heap.push {cls:=.type "tuple",data:=.seq ((r.map fun(i:Nat)=>rawInt i).toArray)}).push {cls:=.type "set_iterator",data:=.fields #[.ref s.heap.objs.size,.int 0 0,.ref a,.int es.size 0,.int ep 0]}).get? b=some o:=fun b o e=>
   gs _ (gs _ e)
  have hs2:(s.heap.push {cls:=.type "tuple",data:=.seq ((r.map fun(i:Nat)=>rawInt i).toArray)}).objs.size=s.heap.objs.size+1:=size_push' _ _;have e1:(r.map fun p=>((es[p]?).getD default).2).Perm (es.toList.map (·.2)):=by
   refine(hr.map _).trans ?_;have:(List.range es.size).map (fun p=>((es[p]?).getD default).2)=es.toList.map (·.2):=by
    apply List.ext_getElem
    ·simp
    ·intro i h1 h2;simp at h1 h2;simp[h1]
   rw[this]
  refine h (s.heap.objs.size+1) _ _ _ _ d e1 (fun b hb=>?_) (Nat.le_succ _) ?_ (fun b hb=>?_) (vm (T:=s.heap.objs.size) (oT:={cls:=.type "tuple",data:=.seq ((r.map fun(i:Nat)=>rawInt i).toArray)}) hh (mi (Nat.lt_succ_of_lt hlt)) (mi (Nat.lt_succ_self _)) S.fit r hr rfl)
   ⟨S.hs.at fun o e=>k1 a o e,⟨{cls:=.type "set_iterator",data:=.fields #[.ref s.heap.objs.size,.int 0 0,.ref a,.int es.size 0,.int ep 0]},?_,rfl,rfl⟩,?_⟩ k1
  ·rw[size_push',hs2];simp at hb;rcases hb with e | e | e
   ·rw[e];exact Nat.lt_succ_self _
   ·rw[e];exact Nat.lt_succ_of_lt (Nat.lt_succ_of_lt hlt)
   ·rw[e];exact Nat.lt_succ_of_lt (Nat.lt_succ_self _)
  ·simp
  ·simp at hb;rcases hb with e | e | e
   ·exact .inr (by rw[e];exact Nat.le_succ _)
   ·exact .inl e
   ·exact .inr (by rw[e];exact mf _)
  ·rw[show s.heap.objs.size.succ=_ from hs2.symm];exact gv _ rfl
  ·exact gs _ (gv _ rfl)
theorem Dh(hT:s.TypeIs (.ref r) "set"){Q:Bool->Shared->Prop}(h:Q false s):wpAny (model prog w) A (Builtin.List.listLengthHint (.ref r)) Q E s:=by
 unfold Builtin.List.listLengthHint;refine ff (wpAny_specialOf hT PySem.F.slot_set_len.lookup ?_);generalize hid:("set.__len__": String)=id0
 wp_delta
 rw[show splitId id0=some ("set","__len__")from by subst hid;decide+kernel];subst hid;refine ff (wpAny_isInstance (T :="set") (b:=true) hT (by rw[isSubtype_type];kernel_rfl) ?_);refine wpAny_ite_split (fun hab=>absurd hab (by decide)) (fun _=>?_);refine wpAny_ite_split (fun _=>?_) (fun hab=>absurd (by decide+kernel) hab);refine ff (wpAny_typeOf hT ?_);exact fg h
theorem xK(hh:A.handled=none){a S:Addr}{es:Array (Int×Value)}{ep:Nat}{t:SetTable}{R:Result->Shared->Prop}(hS:SI prog w s a es ep t)(hsz:es.size<=fw)(hne:S≠a)(res:Value)(c0:Nat)
  (hL:s.heap.get? S=some {cls:=.type "list",data:=.seq #[] c0})
  (hR:∀h' d tk (acc:Array Value) (order:List Value) c',(∀b o,b≠S->s.heap.get? b=some o->h'.get? b=some o)->h'.get? S=some {cls:=.type "list",dict:=none,data:=.seq acc c',slots:=#[]}->
   List.Perm order (es.toList.map (·.2))->acc.toList=order->R (.ok (.ret res)) {s with heap:=h',toks:=tk,drawn:=d}):
  wpAny (model prog w) A.in1 (Builtin.List.listExtendWith (.ref S) (.ref a) res)
   (fun fin s'=>match fin with | .done f=>R (.ok f) s' | .again c'=>c'.quiet=true/\codeAny (model prog w) A c' R s') (fun e s'=>R (.error e) s') s:=by
 unfold Builtin.List.listExtendWith;refine ff (wpAny_typeOf (T :="set") hS.hs.typeIs ?_);have h1:Builtin.List.listSameRef (.ref S) (.ref a)=false:=by simp[Builtin.List.listSameRef,hne]
 rw[if_neg (by rw[h1];decide)];refine ff (xJ (A:=A.in1) hh hS hsz fun I fp order St h' d hp hfl hI hIm hfp W st hk=>?_);have Vw:=ii hL;have hSf:S∉fp:=fun hm=>by
  rcases hfp S hm with e | e
  ·exact hne e
  ·exact absurd (Nat.lt_of_lt_of_le Vw e) (Nat.lt_irrefl _)
 have hol:order.length=es.size:=by rw[hp.length_eq,List.length_map,Array.length_toList]
 have key:∀(h2:Heap) (c1 tk:Nat),St 0 h2->(∀b o,b≠S->s.heap.get? b=some o->h2.get? b=some o)->h2.get? S=some {cls:=.type "list",data:=.seq #[] c1}->
   codeAny (model prog w) A (.builtin "list.extend.loop" ⟨[.ref S,.ref I,res],[]⟩) R {s with heap:=h2,toks:=tk,drawn:=d}:=by
  intro h2 c1 tk hst hk2 hS1;refine codeAny_extend_loopS W.toS hsz S hSf res es.size 0 _ #[] c1 rfl (Nat.zero_le _) hst hS1 (ItemsOf.nil _) fun s' acc' c' hm hS' hacc=>?_;rw[Moved.eq_with hm];refine hR s'.heap d s'.toks acc' order c' (fun b o hb e=>hm.heap b o (fun hmem=>?_) (hk2 b o hb e)) hS' hp ?_
  ·rcases List.mem_cons.mp hmem with e' | hmem
   ·exact hb e'
   ·rw[bd.mp hmem]at e;exact absurd (ii e) (Nat.not_lt.mpr hI)
  ·apply List.ext_getElem?;intro i;rw[Array.getElem?_toList];cases q:acc'[i]? with
   | none=>
    have:acc'.size<=i:=by
     rcases Nat.lt_or_ge i acc'.size with z | z
     ·rw[Array.getElem?_eq_getElem z]at q;cases q
     ·exact z
    rw[hacc.1]at this;rw[List.getElem?_eq_none (by omega)]
   | some v=>exact(hacc.2 i v q).symm
 refine ff (wpAny_holding (Dh (s:={s with heap:=h',drawn:=d}) (dm.typeIs (s:={s with heap:=h',drawn:=d}) (hS.hs.at fun o e=>hk a o e)) ?_));have hS1:=hk _ _ hL;refine wpAny_ite_split (fun _=>?_) (fun _=>fg ⟨plainId_quiet PySem.F.plain_extend_loop _,key _ c0 _ st (fun b o _ e=>hk b o e) hS1⟩);refine ff (wpAny_rule ?_);refine ff ?_;show wpAny _ _ (updateSeq S (·.push .none)>>=fun _=>updateSeq S (·.pop)) _ _ _;refine ff (wpAny_updateSeq hS1 rfl ?_);have hS2:=Heap.get?_update_self (Obj.mapSeq (·.push Value.none)) hS1 rfl;refine wpAny_updateSeq (hz:=by seq_fits) hS2 rfl ?_;have JR:=Heap.get?_update_self (Obj.mapSeq (·.pop)) hS2 rfl;refine fg ⟨plainId_quiet PySem.F.plain_extend_loop _,key _ _ _ ?_ (fun b o hb e=>?_) JR⟩
 ·refine W.frame 0 _ _ st fun b hb o e=>?_;have hbS:b≠S:=fun h=>hSf (h▸hb);exact(Heap.get?_update_other _ _ (Ne.symm hbS)).trans ((Heap.get?_update_other _ _ (Ne.symm hbS)).trans e)
 ·exact(Heap.get?_update_other _ _ (Ne.symm hb)).trans ((Heap.get?_update_other _ _ (Ne.symm hb)).trans (hk b o e))
theorem vo(hh:A.handled=none){a:Addr}{es:Array (Int×Value)}{ep:Nat}{t:SetTable}{R:List Value->Shared->Prop}(hS:SI prog w s a es ep t)(hsz:es.size<=fw)
  (h:∀h' d tk (order:List Value),s.heap.objs.size<h'.objs.size->(∀b o,s.heap.get? b=some o->h'.get? b=some o)->List.Perm order (es.toList.map (·.2))->R order {s with heap:=h',toks:=tk,drawn:=d}):
  wpAny (model prog w) A (collect (.ref a)) R E s:=by
 have hlt:@LT.lt Nat _ a s.heap.objs.size:=hS.hs.lt;unfold collect;refine ff (wpAny_runValue (codeAny_builtin entry_proto_collect' ?_));rw[Around.under_plainId PySem.F.plain_proto_collect _];show wpAny _ A.in1 (newList [] >>=fun l=>again (.builtin "list.__iadd__" ⟨[l,.ref a],[]⟩)) _ _ s;refine ff (wpAny_newObj_type ?_);refine fg ⟨plainId_quiet PySem.F.plain_list_iadd _,codeAny_builtin entry_list_iadd' ?_⟩;rw[Around.under_plainId PySem.F.plain_list_iadd _];have hS1:(s.heap.push {cls:=.type "list",data:=.seq ([]:List Value).toArray}).get? s.heap.objs.size=some {cls:=.type "list",data:=.seq #[]}:=gv _ rfl;show wpAny _ A.in1 (Builtin.List.listExtendWith (.ref s.heap.objs.size) (.ref a) (.ref s.heap.objs.size)) _ _ _;have S':SI prog w {s with heap:=s.heap.push {cls:=.type "list",data:=.seq ([]:List Value).toArray}} a es ep t:=⟨hS.hs.at fun o e=>gs _ e,hS.fit,hS.inv,hS.led⟩
 have key:=xK (A:=A) (R:=fun(q:Result) (s':Shared)=>∃(h':Heap) (d:Drawn) (tk:Nat) (acc:Array Value) (order:List Value) (c':Nat),q=.ok (.ret (.ref s.heap.objs.size))/\s'={s with heap:=h',toks:=tk,drawn:=d}/\
   (∀b o,s.heap.get? b=some o->h'.get? b=some o)/\h'.get? s.heap.objs.size=some {cls:=.type "list",dict:=none,data:=.seq acc c',slots:=#[]}/\List.Perm order (es.toList.map (·.2))/\acc.toList=order)
  hh S' hsz (Nat.ne_of_gt hlt) (.ref s.heap.objs.size) 0 hS1
  (fun h' d tk acc order c' hk hL hp ha=>⟨h',d,tk,acc,order,c',rfl,rfl,fun b o e=>hk b o (mi (ii e)) (gs _ e),hL,hp,ha⟩)
 refine ge key (fun fin s' x=>?_) fun e s' x=>?_
 ·cases fin with
  | done f=>
   obtain⟨h',d,tk,acc,order,c',e,rfl,hk,hL,hp,ha⟩:=x;cases e;show wpAny _ A (load s.heap.objs.size>>=_) _ _ _;refine ff (wpAny_load hL ?_);refine fg ?_;rw[ha];exact h h' d tk order (ii hL) hk hp
  | again c1=>
   refine⟨x.1,codeAny_mono x.2 fun q s2 y=>?_⟩;obtain⟨h',d,tk,acc,order,c',rfl,rfl,hk,hL,hp,ha⟩:=y;show wpAny _ A (load s.heap.objs.size>>=_) _ _ _;refine ff (wpAny_load hL ?_);refine fg ?_;rw[ha];exact h h' d tk order (ii hL) hk hp
 ·obtain⟨_,_,_,_,_,_,e',_⟩:=x;cases e'
theorem lN:∀{us vs:List Value},List.Perm us vs->∀{ns:List Int},IntsAre vs ns->∃ms,IntsAre us ms/\List.Perm ms ns:=by
 intro us vs hp
 induction hp with
 | nil=>intro ns h;cases h;exact⟨[],.nil,.nil⟩
 | cons x _ ih=>
  intro ns h;cases h with
  | cons n t r=>
   obtain⟨ms,h1,h2⟩:=ih r;exact⟨n::ms,.cons n t h1,h2.cons _⟩
 | swap x y l=>
  intro ns h;cases h with
  | cons n t r=>
   cases r with
   | cons n' t' r'=>exact⟨_,.cons _ _ (.cons _ _ r'),List.Perm.swap _ _ _⟩
 | trans _ _ ih1 ih2=>
  intro ns h;obtain⟨ms,h1,h2⟩:=ih2 h;obtain⟨pH,h3,h4⟩:=ih1 h1;exact⟨pH,h3,h4.trans h2⟩
theorem xM(hh:A.handled=none){a:Addr}{es:Array (Int×Value)}{ep:Nat}{t:SetTable}{ns:List Int}{Q:Value->Shared->Prop}(hS:SI prog w s a es ep t)(hI:IntsAre (es.toList.map (·.2)) ns)(h64:ns.length<64)
  (h:∀(D:Addr) (h':Heap) (d:Drawn) (tk:Nat) (out:Array Value) (ms:List Int) (c:Nat),s.heap.objs.size<=D->(∀b o,s.heap.get? b=some o->h'.get? b=some o)->h'.get? D=some {cls:=.type "list",data:=.seq out c}->IntsAre out.toList ms->ms.Perm ns->ms.Pairwise (· <= ·)->
   Q (.ref D) {s with heap:=h',toks:=tk,drawn:=d}):
  wpAny (model prog w) A (call (.builtin "sorted") [.ref a]) Q E s:=by
 have hl:es.size=ns.length:=by rw[<-IntsAre.length hI,List.length_map,Array.length_toList]
 have hsz:es.size<=fw:=by rw[hl,sizeLine_eq];omega
 refine call_function_entry kind_sorted plain_sorted entry_sorted (args_sorted1 _) ?_;unfold Builtin.«sorted»;refine ff (m:=checkCount "sorted" 1 1 _) (fg ?_);refine ff (vo (A:=A.in1) hh hS hsz fun h' d tk order hlt hk hp=>?_);obtain⟨ms,hms,hmp⟩:=lN hp hI;have hol:order.length=ns.length:=by rw[IntsAre.length hms,hmp.length_eq]
 refine ff (wpAny_newList ?_ (by rw[hol,<-hl];exact hsz));have hD:(h'.push (seqObj "list" order.toArray 0)).get? h'.objs.size=some (seqObj "list" order.toArray 0):=gv _ rfl;refine ff (wpAny_holding (gr slot_list_sort ⟨_,hD,rfl⟩ entry_list_sort (list_sort_tree hD hms (by omega) fun out pH a1 a2 a3=>⟨_,rfl,?_⟩) (args_list_sort _)));obtain⟨c,hc⟩:=sortedHeap_at (out:=out) hD;refine fg ⟨_,rfl,h h'.objs.size _ d tk out pH c (Nat.le_of_lt hlt) (fun b o e=>?_) hc a1 (a2.trans hmp) a3⟩;have hb:=ii (hk b o e);rw[sortedHeap_old (mi hb) (by rw[size_push'];exact Nat.lt_succ_of_lt hb)];exact gs _ (hk b o e)
def iA(prog:Program)(w:World)(h:Heap)(a:Addr)(us:List Int):Prop :=
 ∃es ep t,dm h a es ep t/\t.fits es.size=true/\pF t/\(w.params.followText "set-order"=true\/t.led=true)/\ElemsOf (intKind prog w) es.toList/\IntsAre (es.toList.map (·.2)) us/\us.Nodup
theorem iA.at{prog:Program}{w:World}{h h':Heap}{a:Addr}{us:List Int}(x:iA prog w h a us)(e:∀o,h.get? a=some o->h'.get? a=some o):iA prog w h' a us:=by obtain⟨es,ep,t,hs,r⟩:=x;exact⟨es,ep,t,hs.at e,r⟩
theorem vp:∀{vs:List Value} {us:List Int} {k:Int},IntsAre vs us->(k∈us↔∃v∈vs,Value.isInt k v=true)
 | _,_,k,.nil=>by simp
 | _,_,k,.cons n t r=>by
  have ih:=vp (k:=k) r;rw[List.mem_cons,ih];constructor
  ·rintro(e | ⟨v,hv,e⟩)
   ·subst e;exact⟨_,List.mem_cons_self,by simp[Value.isInt]⟩
   ·exact⟨v,List.mem_cons_of_mem _ hv,e⟩
  ·rintro⟨v,hv,e⟩;rcases List.mem_cons.mp hv with z | z
   ·subst z;exact .inl (by have q:n=k:=(by simpa[Value.isInt] using e);exact q.symm)
   ·exact .inr ⟨v,z,e⟩
theorem ints_snoc:∀{vs:List Value} {us:List Int} (k:Int) (t:Tok),IntsAre vs us->IntsAre (vs++ [.int k t]) (us++ [k])
 | _,_,k,t,.nil=>.cons k t .nil
 | _,_,k,t,.cons n t' r=>.cons n t' (ints_snoc k t r)
theorem zI{h:Heap}{a:Addr}{es es':Array (Int×Value)}{ep:Nat}{t t':SetTable}{us:List Int}(hs:dm h a es ep t)(hf:t'.fits es'.size=true)(hi:pF t')(hl:w.params.followText "set-order"=true\/t'.led=true)
  (hel:ElemsOf (intKind prog w) es'.toList) (hI:IntsAre (es'.toList.map (·.2)) us) (hn:us.Nodup):dm (h.update a (Obj.putSet es' t')) a es' (ep+1) t'/\iA prog w (h.update a (Obj.putSet es' t')) a us:=by
 obtain⟨o,ho,hex,hd⟩:=hs;have hg:(h.update a (Obj.putSet es' t')).get? a=some {o with data:=.set es' (ep+1) t'}:=by have z:=Heap.get?_update_self (Obj.putSet es' t') ho (by rw[putSet_of es' t' hd];rfl);rw[putSet_of es' t' hd]at z;exact z
 have q:dm (h.update a (Obj.putSet es' t')) a es' (ep+1) t':=⟨_,hg,hex,rfl⟩;exact⟨q,es',ep+1,t',q,hf,hi,hl,hel,hI,hn⟩
theorem AU{es es':Array (Int×Value)}{c:Int}{x:Value}(hp:List.Perm es'.toList (es.push (c,x)).toList):List.Perm (es'.toList.map (·.2)) (es.toList.map (·.2)++ [x]):=by refine(hp.map _).trans ?_;rw[Array.toList_push,List.map_append];exact List.Perm.refl _
theorem Ha{t:SetTable}(h:pF t):pF {t with plain:=false}:=⟨h.Uo,fun z=>by cases z⟩
theorem add_int{a:Addr}{us:List Int}{k:Int}{tk:Tok}{Q:Bool->Shared->Prop}(hS:iA prog w s.heap a us)(hroom:us.length+1<scanBound)
  (h:∀(b:Bool) (h':Heap) (us':List Int),Heap.SameBut a s.heap h'->iA prog w h' a us'->(∀j,j∈us'↔j∈us\/j=k)->us'.length<=us.length+1->Q b {s with heap:=h'}):
  wpAny (model prog w) A (setAddHashed a (.int k tk) ((intKind prog w).hash k)) Q E s:=by
 obtain⟨es,ep,t,hs,hf,hi,hl,hel,hI,hn⟩:=id hS;obtain⟨o,ho,hex,hd⟩:=id hs;have hsz:es.size=us.length:=by rw[<-IntsAre.length hI,List.length_map,Array.length_toList]
 have hmem:k∈us↔∃e∈es.toList,(intKind prog w).is k e.2=true:=by
  rw[vp hI];constructor
  ·rintro⟨v,hv,e⟩;obtain⟨p,hp,rfl⟩:=List.mem_map.mp hv;exact⟨p,hp,e⟩
  ·rintro⟨p,hp,e⟩;exact⟨p.2,List.mem_map.mpr ⟨p,hp,rfl⟩,e⟩
 unfold setAddHashed setAddHashedIn;refine wpAny_holding (ff (wpAny_setState_of ho hd hf ?_));dsimp only;rw[byScan_of (knd:=intKind prog w) (x:=.int k tk) rfl (by omega) hel];simp only[↓reduceIte];unfold setAddByScan;refine ff ?_;refine ff (wpAny_rule ?_);refine ff (wpAny_setScan_of (knd:=intKind prog w) (intKind_is _ _ _ _) ho hd hf hel ?_);cases hr:List.findIdx? (fun e=>(intKind prog w).is k e.2) es.toList with
 | some j=>
  dsimp only;obtain⟨hj,hpj,_⟩:=List.findIdx?_eq_some_iff_getElem.mp hr;have hk:k∈us:=hmem.mpr ⟨es.toList[j],bn hj,hpj⟩;refine fg (fg ?_);exact h false s.heap us (Heap.SameBut.refl a s.heap) hS (fun i=>⟨.inl,fun z=>z.elim id fun e=>e▸hk⟩) (Nat.le_succ _)
 | none=>
  dsimp only;have hk:k∉us:=fun z=>by obtain⟨e,he,q⟩:=hmem.mp z;have:=List.findIdx?_eq_none_iff.mp hr e he;rw[q]at this;cases this
  have hperm:=layNew_perm t es ((intKind prog w).hash k) (.int k tk);have hfits:=layNew_fits t es ((intKind prog w).hash k) (.int k tk);have hinv:=xH es ((intKind prog w).hash k) (.int k tk) hi;generalize hL:layNew t es ((intKind prog w).hash k) (.int k tk)=L at hperm hfits hinv ⊢;obtain⟨es1,t1,wd,gave⟩:=L;dsimp only at hperm hfits hinv ⊢;have hel1:ElemsOf (intKind prog w) es1.toList:=by have z:=hperm;rw[Array.toList_push]at z;exact(hel.push (intKind_is _ _ _ _) rfl).perm z
  obtain⟨Lv,Vx,hp1⟩:=lN (AU hperm) (ints_snoc k tk hI)
  have hn1:Lv.Nodup:=hp1.nodup_iff.mpr (by
   rw[List.nodup_append]
   exact⟨hn,by simp,fun x hx y hy=>by rw[bd.mp hy];rintro rfl;exact hk hx⟩)
  have hl1:Lv.length=us.length+1:=by rw[hp1.length_eq,ar];rfl
  have hm1:∀j,j∈Lv↔j∈us\/j=k:=fun j=>by rw[hp1.mem_iff,List.mem_append,bd]
  have hsz1:es1.size=Lv.length:=by rw[<-IntsAre.length Vx,List.length_map,Array.length_toList]
  have hb1:es1.size<scanBound:=by omega
  have hgw:∀(b:Bool) {s₁:Shared} {Q':Unit->Shared->Prop},Q' () s₁->wpAny (model prog w) A (match b with | true=>rule "set.scan.the-table-gave-way" | false=>pure ()) Q' E s₁ :=
   fun b s₁ Q' hq=>by cases b<;>first | exact fg hq | exact wpAny_rule hq
  refine ff (hgw _ ?_);have tail:∀t2:SetTable,t2.fits es1.size=true->pF t2->(w.params.followText "set-order"=true\/t2.led=true)->∀(g:Bool->Sem Unit) (wd':Bool) (R:Option Bool->Shared->Prop),
    (∀(b:Bool) (s₁:Shared) (Q':Unit->Shared->Prop),Q' () s₁->wpAny (model prog w) A (g b) Q' E s₁)->(∀h' us',Heap.SameBut a s.heap h'->iA prog w h' a us'->us'.Perm Lv->R (some true) {s with heap:=h'})->
    wpAny (model prog w) A (storeSet a es1 t2>>=fun _=>if (!wd'&&t2.tooFull)=true then (g (relayAll t2 es1 (SetTable.grown es1.size)).2.2>>=fun _=>storeSet a (relayAll t2 es1 (SetTable.grown es1.size)).1 (relayAll t2 es1 (SetTable.grown es1.size)).2.1>>=fun _=>pure (some true))else pure (some true)) R E s:=by
   intro t2 f2 i2 l2 g wd' R hg hR;refine ff (wpAny_storeSet_of ho hd ?_ (fits_of_scanBound hb1));obtain⟨q1,q2⟩:=zI (prog:=prog) (w:=w) hs f2 i2 l2 hel1 Vx hn1;have sb1:=Heap.SameBut.update s.heap a (Obj.putSet es1 t2);split
   ·have rp:=relayAll_perm t2 es1 (SetTable.grown es1.size);have rf:=relayAll_fits t2 es1 (SetTable.grown es1.size);have ri:=sU (t:=t2) es1 (SetTable.grown es1.size);generalize relayAll t2 es1 (SetTable.grown es1.size)=Rl at rp rf ri ⊢;obtain⟨es2,t3,gave2⟩:=Rl;dsimp only at rp rf ri ⊢;obtain⟨Qk,hI2,hp2⟩:=lN (rp.map (·.2)) Vx;refine ff (hg _ _ _ ?_);obtain⟨o1,ho1,hex1,hd1⟩:=id q1;have e2:es2.size=es1.size:=by rw[<-Array.length_toList,rp.length_eq,Array.length_toList]
    refine ff (wpAny_storeSet_of ho1 hd1 ?_ (fits_of_scanBound (by rw[e2];exact hb1)));obtain⟨_,q3⟩:=zI (prog:=prog) (w:=w) q1 rf ri.1 (l2.imp id fun z=>ri.2.trans z) (hel1.perm rp) hI2 (hp2.nodup_iff.mpr hn1);exact fg (hR _ Qk (sb1.trans (Heap.SameBut.update _ a _)) q3 hp2)
   ·exact fg (hR _ Lv sb1 q2 (List.Perm.refl _))
  have fin:∀h' us',Heap.SameBut a s.heap h'->iA prog w h' a us'->us'.Perm Lv->Q true {s with heap:=h'}:=fun h' us' x1 x2 x3=>
   h true h' us' x1 x2 (fun j=>by rw[x3.mem_iff];exact hm1 j) (by rw[x3.length_eq,hl1];exact mf _)
  have Lw:w.params.followText "set-order"=true\/t1.led=true:=hl.imp id fun z=>hinv.2.trans z;split
  ·refine ff ?_;rw[hashByValue_scannable 8 (x:=.int k tk) rfl];refine fg ?_;refine tail _ ?_ ?_ ?_ _ wd _ ?_ fun h' us' x1 x2 x3=>?_
   ·split
    ·exact hfits
    ·exact SetTable.fits_plain_off hfits
   ·split
    ·exact hinv.1
    ·exact Ha hinv.1
   ·split
    ·exact Lw
    ·exact Lw
   ·intro b s₁ Q' hq;cases b<;>first | exact fg hq | exact wpAny_rule hq
   ·exact fg (fin h' us' x1 x2 x3)
  ·refine ff (fg ?_);simp only[↓reduceIte];refine tail _ hfits hinv.1 Lw _ wd _ ?_ fun h' us' x1 x2 x3=>?_
   ·intro b s₁ Q' hq;cases b<;>first | exact fg hq | exact wpAny_rule hq
   ·exact fg (fin h' us' x1 x2 x3)
theorem mV{R:Result->Shared->Prop}{I:Addr}{fp wr:List Addr}{G:Array GenState->Array GenState->Prop}{n:Nat}{P:Nat->Value->Prop}{St:Nat->Shared->Prop}(W:WalksS prog w A.in1 I fp wr G n P St)(S:Addr)(hSf:S∉fp)
  (val:Nat->Int) (hval:∀i v,P i v->∃t,v=.int (val i) t) (hb:n+1<scanBound):
  ∀(k i:Nat) (s:Shared) (us:List Int),n-i=k->i<=n->St i s->iA prog w s.heap S us->us.length<=i->(∀j,j∈us↔∃m,m<i/\val m=j)->
   (∀s' us',Moved (S::wr) G s s'->iA prog w s'.heap S us'->us'.length<=n->(∀j,j∈us'↔∃m,m<n/\val m=j)->R (.ok (.ret .none)) s')->
   codeAny (model prog w) A (.builtin "set.update.loop" ⟨[.ref S,.ref I],[]⟩) R s:=by
 have hSw:S∉wr:=fun h=>hSf (W.sub _ h);have hsub:∀b∈wr,b∈S::wr:=fun b hb=>List.mem_cons_of_mem _ hb;intro k
 induction k with
 | zero=>
  intro i s us hk hi hst hS hlen hmem hR;have hin:i=n:=by omega
  subst hin;refine codeAny_builtin PyProof.Rows.F.entry_set_update_loop ?_;rw[Around.under_plainId PyProof.Rows.F.plain_set_update_loop _];show wpAny _ A.in1 (pyNext (.ref I)>>=_) _ _ s;refine ff (W.done s _ _ hst fun s' hm=>?_);show wpAny _ A.in1 (ret Value.none) _ _ s';exact fg (hR s' us (hm.mono hsub) (hS.at fun o e=>hm.heap S o hSw e) hlen hmem)
 | succ k ih=>
  intro i s us hk hi hst hS hlen hmem hR;have hlt:i<n:=by omega
  refine codeAny_builtin PyProof.Rows.F.entry_set_update_loop ?_;rw[Around.under_plainId PyProof.Rows.F.plain_set_update_loop _];show wpAny _ A.in1 (pyNext (.ref I)>>=_) _ _ s;refine ff (W.item i s _ _ hlt hst fun v s' hP hst' hm=>?_);obtain⟨t,rfl⟩:=hval i v hP;have hS':iA prog w s'.heap S us:=hS.at fun o e=>hm.heap S o hSw e;show wpAny _ A.in1 (holding [Value.int (val i) t] (setAdd S (.int (val i) t))>>=_) _ _ s';refine ff (wpAny_holding ?_);unfold setAdd;refine wpAny_holding ?_;refine ff ((intKind prog w).pyHash (k:=val i) (intKind_is _ _ _ _) ?_);refine add_int (s:={s' with toks:=s'.toks+1}) hS' (by omega) fun b h' us' hsb hS2 hm2 hl2=>?_;refine fg ⟨plainId_quiet PyProof.Rows.F.plain_set_update_loop _,ih (i+1) _ us' (by omega) hlt (W.frame _ s' _ _ hst' (Nat.le_succ _) fun b hb o e=>?_) hS2 (by omega) (fun j=>?_) fun s'' Vy hm'' hS'' hl'' hmem''=>?_⟩
  ·rw[hsb.2 b (fun h:b=S=>hSf (by rw[<-h];exact hb))];exact e
  ·rw[hm2,hmem];constructor
   ·rintro(⟨m,h1,h2⟩ | e)
    ·exact⟨m,by omega,h2⟩
    ·exact⟨i,by omega,e.symm⟩
   ·rintro⟨m,h1,h2⟩;rcases Nat.lt_or_ge m i with q | q
    ·exact .inl ⟨m,q,h2⟩
    ·have e:m=i:=by omega
     subst e;exact .inr h2.symm
  ·refine hR s'' Vy (Moved.trans W.gtrans ((hm.mono hsub).then_heap (Nat.le_succ _) fun b o hb e=>?_) hm'') hS'' hl'' hmem'';rw[hsb.2 b (fun h:b=S=>hb (by rw[h];exact List.mem_cons_self))];exact e
theorem zJ(a:Value){Q₁:Value->Shared->Prop}
  (h:Q₁ (.ref s.heap.objs.size) {s with heap:=s.heap.push {cls:=.type "set",dict:=none,data:=.set #[] 0 (.fresh 0 0 (!w.params.followText "set-order"))}}):
  codeAny (model prog w) A (.call (.builtin "set.__new__") ⟨[.type "set",a],[]⟩) (wants Q₁ E) s:=by
 refine codeAny_of_tree ?_;show wpAny _ A.in1 (do checkBuiltinCall "set.__new__" ⟨[.type "set",a],[]⟩;again (.builtin "set.__new__" ⟨[.type "set",a],[]⟩)) _ _ s;refine ff (wpAny_of_eq (PySem.F.newCall_set_1 a) (fg ⟨plainId_quiet PySem.F.plain_set_new _,codeAny_builtin PySem.F.entry_set_new ?_⟩));rw[Around.under_plainId PySem.F.plain_set_new _];unfold Builtin.«set.__new__» Builtin.Frozenset.newClass;have hsub:=sub_set_self;obtain⟨hp,g,d,tk,os⟩:=s;dsimp only
 wp_walk
 refine wpAny_askSetting (fg ?_);dsimp only;simp only[newObj];refine ff (wpAny_alloc (fg ?_));exact fg h
set_option maxHeartbeats 8000000 in
theorem Di{l:Addr}{items:Array Value}{ns:List Int}{Q:Value->Shared->Prop}(hh:A.handled=none)(hl:s.heap.IsList l items)(hi:IntsAre items.toList ns)(hb:items.size+1<scanBound)
  (h:∀(h':Heap) (tk:Nat) (us:List Int),iA prog w h' s.heap.objs.size us->us.length<=ns.length->(∀j,j∈us↔j∈ns)->(∀b o,b<s.heap.objs.size->s.heap.get? b=some o->h'.get? b=some o)->Q (.ref s.heap.objs.size) {s with heap:=h',toks:=tk}):
  wpAny (model prog w) A (call (.type "set") [.ref l]) Q E s:=by
 obtain⟨c,tl,hmro⟩:=PySem.F.called_set.mro;have hmade:=PySem.F.called_set.made;have hsub:=PySem.F.called_set.sub;refine wpAny_call (codeAny_of_tree ?_);show wpAny _ _ (callAny (.type "set") _) _ _ _;refine fg ⟨Code.quiet_builtin _ (by decide+kernel),codeAny_builtin PySem.F.entry_type_call ?_⟩;rw[Around.under_plain (weight_type_call_type "set" [.ref l] []) rfl];have h1:=PySem.F.called_set.notType;have h2:=PySem.F.called_set.canCreate;have hct:=PySem.F.typeCall_set_1 (.ref l);generalize qT:(!w.params.followText "set-order")=led
 repeat (any_goals (first | assumption | wp_step))
 refine codeAny_mono (zJ (prog:=prog) (w:=w) (.ref l) (E:=E) (Q₁:=fun obj s₁=>obj=.ref s.heap.objs.size/\s₁={s with heap:=s.heap.push {cls:=.type "set",dict:=none,data:=.set #[] 0 (.fresh 0 0 led)}}) (by rw[qT];exact⟨rfl,rfl⟩)) fun r s₁ hr=>?_;have kJ:w.params.followText "set-order"=true\/led=true:=by
  cases q:w.params.followText "set-order"with
  | true=>exact .inl rfl
  | false=>rw[q]at qT;exact .inr qT.symm
 cases r with
 | error e=>exact hr
 | ok fl=>
  cases fl with
  | next=>exact hr.elim
  | brk=>exact hr.elim
  | cont=>exact hr.elim
  | ret obj=>
   obtain⟨rfl,rfl⟩:=hr;have hS:(s.heap.push {cls:=.type "set",dict:=none,data:=.set #[] 0 (.fresh 0 0 led)}).get? s.heap.objs.size=some {cls:=.type "set",dict:=none,data:=.set #[] 0 (.fresh 0 0 led)}:=gv _ rfl;have hT:Shared.TypeIs {s with heap:=s.heap.push {cls:=.type "set",dict:=none,data:=.set #[] 0 (.fresh 0 0 led)}} (.ref s.heap.objs.size) "set":=⟨_,hS,rfl⟩;have hli:=PySem.F.called_set.init.lookup;have hbi:=PySem.F.called_set.init.bind (.ref s.heap.objs.size)
   repeat (any_goals (first | assumption | wp_step))
   refine codeAny_mono (codeAny_call_builtin (R:=wants (fun r s₂=>r=.none/\∃h' tk us,s₂={s with heap:=h',toks:=tk}/\iA prog w h' s.heap.objs.size us/\us.length<=ns.length/\(∀j,j∈us↔j∈ns)/\
     (∀b o,b<s.heap.objs.size->s.heap.get? b=some o->h'.get? b=some o)) E) PySem.F.called_set.init.plain PySem.F.entry_set_init (check_set_init_1 hT ?_)) fun r₂ s₂ hr₂=>?_
   ·obtain⟨ol,hol,hcl,nl,hdl⟩:=hl;obtain⟨ocls,odict,odata,oslots⟩:=ol;simp only at hcl hdl;subst hcl;subst hdl;have hol':(s.heap.push {cls:=.type "set",dict:=none,data:=.set #[] 0 (.fresh 0 0 led)}).get? l=some {cls:=.type "list",dict:=odict,data:=.seq items nl,slots:=oslots}:=gs _ hol;have hsls:=PySem.F.sub_list_set;have hslf:=PySem.F.sub_list_frozenset;have hne:(Value.type "list"==Value.type "dict")=false:=by decide
    have hl1:(s.heap.push {cls:=.type "set",dict:=none,data:=.set #[] 0 (.fresh 0 0 led)}).IsList l items:=⟨_,hol',rfl,nl,rfl⟩;unfold Builtin.«set.__init__» noKeywords Builtin.Frozenset.updateFrom;generalize hPI:pyIter=PI
    wp_walk
    subst hPI;refine wpAny_pyIter_list hl1 ?_;refine ff (wpAny_runValue ?_);have hlS:l<s.heap.objs.size:=ii hol;have hh3:A.in1.in1.in1.handled=none:=by simp[hh]
    have hneI:l≠(s.heap.push {cls:=.type "set",dict:=none,data:=.set #[] 0 (.fresh 0 0 led)}).objs.size:=by rw[Heap.size_push];exact mi (Nat.lt_succ_of_lt hlS)
    have hSf:s.heap.objs.size∉ [(s.heap.push {cls:=.type "set",dict:=none,data:=.set #[] 0 (.fresh 0 0 led)}).objs.size,l]:=by rw[Heap.size_push];simp only[List.mem_cons,bd,List.not_mem_nil,or_false,not_or];exact⟨mi (Nat.lt_succ_self _),Nat.ne_of_gt hlS⟩
    have hval:∀(i:Nat) (v:Value),items[i]? =some v->∃t,v=.int ((fun i=>ns.getD i 0) i) t:=fun i v hv=>
     IntsAre.int_at hi i v (by rw[Array.getElem?_toList];exact hv)
    have hnl:ns.length=items.size:=by rw[<-IntsAre.length hi,Array.length_toList]
    refine mV ((Walks.list hh3 _ l hneI items).toS) s.heap.objs.size hSf (fun i=>ns.getD i 0) hval hb (items.size-0) 0 _ [] (by omega) (Nat.zero_le _)
     ⟨⟨_,gv _ rfl,rfl,rfl⟩,(hl1.push _)⟩ ?hS0 (Nat.zero_le _) (fun j=>by simp) ?hR
    case hS0=>
     have hget:((s.heap.push {cls:=.type "set",dict:=none,data:=.set #[] 0 (.fresh 0 0 led)}).push {cls:=.type "list_iterator",data:=.fields #[.ref l,.int 0 0]}).get? s.heap.objs.size
       =some {cls:=.type "set",dict:=none,data:=.set #[] 0 (.fresh 0 0 led)}:=gs _ hS
     exact⟨#[],0,.fresh 0 0 led,⟨_,hget,⟨rfl,rfl,rfl⟩,rfl⟩,by rfl,⟨rfl,fun _ i k _ hk=>by simp[SetTable.fresh]at hk⟩,kJ,fun e he=>by simp at he,.nil,List.nodup_nil⟩
    case hR=>
     intro s' us hm hS' hlen hmem;obtain⟨h',g',d',tk',os'⟩:=s';have eg:g'=s.gens:=hm.gens;have ed:d'=s.drawn:=hm.drawn;have eo:os'=s.os:=hm.os;subst eg;subst ed;subst eo;show wpAny _ _ _ _ _ _;refine fg ?_;show wpAny _ _ (ret Value.none) _ _ _;refine fg ⟨rfl,h',tk',us,rfl,hS',by omega,fun j=>?_,fun b o hb e=>?_⟩
     ·rw[hmem];constructor
      ·rintro⟨m,h1,h2⟩;have hm':m<ns.length:=by omega
       rw[<-h2];show ns.getD m 0∈ns;rw[List.getD_eq_getElem?_getD,aa hm'];exact bn hm'
      ·intro hj;obtain⟨m,hm',e⟩:=List.getElem_of_mem hj;refine⟨m,by omega,?_⟩;show ns.getD m 0=j;rw[List.getD_eq_getElem?_getD,aa hm'];exact e
     have hb1:b≠s.heap.objs.size:=mi hb;have hb2:b≠(s.heap.push {cls:=.type "set",dict:=none,data:=.set #[] 0 (.fresh 0 0 led)}).objs.size:=by rw[Heap.size_push];exact mi (Nat.lt_succ_of_lt hb)
     exact hm.heap b o (by simp only[List.mem_cons,bd,List.not_mem_nil,or_false,not_or];exact⟨hb1,hb2⟩) (gs _ (gs _ e))
   ·cases r₂ with
    | error e=>exact hr₂
    | ok fl₂=>
     cases fl₂ with
     | ret r=>
      obtain⟨rfl,h',tk,us,rfl,hS',h1',h2',hk'⟩:=hr₂
      repeat (any_goals (first | assumption | wp_step))
      exact h _ _ us hS' h1' h2' hk'
     | _=>exact hr₂.elim
end
end SF
namespace L2
open PySem PySem.Spec PyProof.Rows
def jZ(P:Program)(w:World)(l:Addr)(us:List Int):HO:=.ext fun h=>SF.iA P w h l us
theorem pJ{P:Program}{w:World}{h:Heap}{l:Addr}{us:List Int}(x:SF.iA P w h l us):∃o,h.get? l=some o:=by obtain⟨_,_,_,⟨o,ho,_⟩,_⟩:=x;exact⟨o,ho⟩
section
variable {X:Cx}
theorem i6(hc:X.calm=true):eA X (.type "set") (fun xs H Q=>∃(p:Addr) (ns:List Int),xs=[.ref p]/\aT X.K H p (ns.map V.int)/\ns.length<4000/\∀(l:Addr) (us:List Int),H l=none->us.length<=ns.length->us.Nodup->(∀j,j∈us↔j∈ns)->Q (.ref l) (upd H l (jZ X.prog X.w l us))):=by
 intro kb s σ H xs Up Q I r h;obtain⟨p,ns,rfl,hp,hz,q⟩:=h;obtain⟨u,rfl,ru⟩:=vals1 r;cases ru;obtain⟨its,hv,pl,_⟩:=I.list hp;have hi:=intsAre_of hv;have hl:its.length=ns.length:=IntsAre.length hi;refine SF.Di (I.ok.hd hc) (items:=its.toArray) (ns:=ns) pl.isList (by simpa using hi) (by rw[am,hl];unfold scanBound;omega) fun h' tk us hS h1 h2 hk=>?_;have hn:us.Nodup:=by obtain⟨_,_,_,_,_,_,_,_,_,hn⟩:=hS;exact hn
 refine⟨.ref s.heap.objs.size,upd H s.heap.objs.size (jZ X.prog X.w s.heap.objs.size us),I.laid (fun b o e=>hk b o (ii e) e) (mf _) ?_,rfl,q _ us I.fresh h1 hn h2⟩;exact⟨hS,pJ hS,fun h1 h2 x e=>SF.iA.at x e⟩
theorem eG(hc:X.calm=true):eA X (.builtin "sorted") (fun xs H Q=>∃(p:Addr) (us:List Int),xs=[.ref p]/\H p=some (jZ X.prog X.w p us)/\us.length<64/\∀(l:Addr) (ms:List Int),H l=none->ms.Perm us->ms.Pairwise (· <= ·)->Q (.ref l) (upd H l (.lst (ms.map V.int)))):=by
 intro kb s σ H xs Up Q I r h;obtain⟨p,us,rfl,hp,hz,q⟩:=h;obtain⟨u,rfl,ru⟩:=vals1 r;cases ru;obtain⟨hS,_,_⟩:=(show bu X.prog X.w H s.heap p (jZ X.prog X.w p us)from I.hok p _ hp);obtain⟨es,ep,t,a1,a2,a3,a4,a5,a6,a7⟩:=hS;refine SF.xM (I.ok.hd hc) (ns:=us) ⟨a1,a2,a3,a4⟩ a6 hz fun D h' d tk out ms c hD hk hg hI hperm Dj=>?_;have hl:ms.length<64:=by rw[hperm.length_eq];exact hz
 have nD:H D=none:=I.hok.fresh hD;have new:bu X.prog X.w (upd H D (.lst (ms.map V.int))) h' D (.lst (ms.map V.int)):=⟨by rw[List.length_map,sizeLine_eq];omega,out.toList,c,jy hI,by rw[hg]⟩;refine⟨.ref D,upd H D (.lst (ms.map V.int)),I.call (g':=s.gens) (d':=d) (t':=tk) (ch:=[]) (Un.laid hk hD nD) (I.hok.laid hk hD new) I.bare (fun b z=>absurd z (by simp)),rfl,q D ms nD hperm Dj⟩
theorem dG:eA X (.builtin "isinstance") (fun xs H Q=>∃(x:V) (n:String) (t:Value) (b:Bool),xs=[x,.ty n]/\iu X.K H x t/\PySem.W.kitOne X.K t (.type n)=some b/\Q (.bl b) H):=by intro kb s σ H xs us Q I r h;obtain⟨x,n,t,b,rfl,ht,hk,q⟩:=h;obtain⟨u,v,rfl,ru,rv⟩:=vals2 r;cases rv;exact Az I ru ht hk fun tk=>⟨.bl b,H,I.tok tk,rfl,q⟩
def Hb(a b:V):Prop:=(∃p,a=.ref p/\b=.ref p)\/(∃i j,a=.int i/\b=.int j)\/∃i j,a=.str i/\b=.str j
theorem Hc{A:Around}{s:Shared}{a b:V}{u v:Value}(h:Hb a b)(ra:RelV a u)(rb:RelV b v):SeqAt.EqAt A s u v (decide (a=b)):=by
 rcases h with ⟨p,rfl,rfl⟩ | ⟨i,j,rfl,rfl⟩ | ⟨i,j,rfl,rfl⟩
 ·cases ra;cases rb;rw[decide_eq_true rfl];exact SeqAt.EqAt.same _
 ·obtain⟨t,rfl⟩:=ra;obtain⟨t',rfl⟩:=rb;rw[sM];exact SeqAt.EqAt.int_int _ _ _ _
 ·obtain⟨t,rfl⟩:=ra;obtain⟨t',rfl⟩:=rb;rw[sN];exact SeqAt.EqAt.str_str _ _ _ _
theorem all_eq{xs ys:List V}(h:xs.length=ys.length):((List.range xs.length).all fun i=>decide (xs[i]? =ys[i]?))=decide (xs=ys):=by
 rw[Bool.eq_iff_iff,List.all_eq_true,decide_eq_true_iff];constructor
 ·intro q;apply List.ext_getElem?;intro i;rcases Nat.lt_or_ge i xs.length with z | z
  ·exact of_decide_eq_true (q i (List.mem_range.mpr z))
  ·rw[List.getElem?_eq_none z,List.getElem?_eq_none (by omega)]
 ·rintro rfl i _;simp
theorem mY:eA X (.type "range") (fun xs H Q=>∃(n:Int),xs=[.int n]/\∀p,H p=none->Q (.ref p) (upd H p (.rng 0 n))):=by intro kb s σ H xs us Q I r h;obtain⟨n,rfl,q⟩:=h;obtain⟨u,rfl,ru⟩:=vals1 r;obtain⟨t,rfl⟩:=ru;refine call_range_1 ⟨.ref s.heap.objs.size,upd H s.heap.objs.size (.rng 0 n),I.laid (fun b o e=>gs _ e) (mf _) ⟨_,_,_,gv _ rfl⟩,rfl,q _ I.fresh⟩
theorem xN{n:Nat}:∀{acc:List Value},acc.length=n->(∀(j:Nat) (v:Value),acc[j]? =some v->∃t,v=.int (j:Int) t)->Vals ((List.range n).map fun(j:Nat)=>V.int (j:Int)) acc:=by
 intro acc hl hv;subst hl;have key:∀(l:List Value) (k:Nat),(∀(j:Nat) (v:Value),l[j]? =some v->∃t,v=.int ((k+j:Nat):Int) t)->Vals ((List.range' k l.length).map fun(j:Nat)=>V.int (j:Int)) l:=by
  intro l
  induction l with
  | nil=>intro k _;exact .nil
  | cons a r ih=>
   intro k h;rw[eh,List.range'_succ,el];obtain⟨t,ht⟩:=h 0 a rfl;refine .cons ⟨t,by simpa using ht⟩ (ih (k+1) fun j v e=>?_);obtain⟨t,ht⟩:=h (j+1) v (by simpa using e);exact⟨t,by rw[ht];congr 2;omega⟩
 rw[List.range_eq_range'];exact key acc 0 (fun j v e=>by simpa using hv j v e)
theorem jN(hc:X.calm=true):eA X (.type "list") (fun xs H Q=>∃(p:Addr) (n:Nat),xs=[.ref p]/\H p=some (.rng 0 n)/\n<=1000/\∀l,H l=none->Q (.ref l) (upd H l (.lst ((List.range n).map fun(j:Nat)=>V.int (j:Int))))):=by
 intro kb s σ H xs us Q I r h;obtain⟨p,n,rfl,hp,hn,q⟩:=h;obtain⟨u,rfl,ru⟩:=vals1 r;cases ru;obtain⟨t,u,v,hr⟩:=(show bu X.prog X.w H s.heap p (.rng 0 n)from I.hok p _ hp);refine call_list_range (a:=0) (b:=n) (c:=1) (n:=n) (I.ok.hd hc) hr (small_one (by decide) (by decide) (by omega) (by omega)) ?_ (by omega) fun h' tk acc c' hk hg hacc=>?_
 ·unfold Builtin.Range.rangeSize;simp;omega
 ·have hl:acc.toList.length=n:=by rw[Array.length_toList];exact hacc.1
  have hv:=xN (acc:=acc.toList) hl (fun j v e=>by
   obtain⟨t,ht⟩:=hacc.2 j v (by rw[<-Array.getElem?_toList];exact e)
   exact⟨t,by rw[ht];congr 1;omega⟩)
  refine⟨.ref s.heap.objs.size,_,I.laid (t':=tk) hk (mf _) (show bu X.prog X.w _ h' _ (.lst ((List.range n).map fun(j:Nat)=>V.int (j:Int)))from⟨by rw[List.length_map,List.length_range,sizeLine_eq];omega,acc.toList,c',hv,by rw[hg]⟩),rfl,q _ I.fresh⟩
end
open PySem PySem.W PySem.Spec PySem.Calls PyProof.Rows
def Dk:Option Int->Value->Bool
 | none,v=>match v with
  | .none=>true
  | _=>false
 | some i,v=>Value.isInt i v
theorem dP{k:Option Int}{v:Value}(h:Dk k v=true):(k=none/\v=.none)\/∃i t,k=some i/\v=.int i t:=by
 cases k with
 | none=>cases v<;>simp_all [Dk]
 | some i=>
  obtain⟨t,e⟩:=Value.isInt_shape (show Value.isInt i v=true from h);exact .inr ⟨i,t,rfl,e⟩
def Ql:Option Int->Int
 | none=>0xFCA86420
 | some i=>hashInt i
def oV:Option Int->V
 | none=>.non
 | some i=>.int i
theorem Qm{k:Option Int}{u:Value}(r:RelV (oV k) u):Dk k u=true:=by
 cases k with
 | none=>
  have e:u=Value.none:=r;subst e;rfl
 | some i=>
  obtain⟨t,e⟩:=(show ∃t,u=Value.int i t from r);subst e;simp[Dk,Value.isInt]
def optKind(prog:Program)(w:World):KeyKind prog w (Option Int) where
 is:=Dk
 hash:=Ql
 inj:=fun v a b ha hb=>by
  rcases dP ha with ⟨rfl,rfl⟩ | ⟨i,t,rfl,rfl⟩
  ·rcases dP hb with ⟨rfl,_⟩ | ⟨j,u,rfl,e⟩
   ·rfl
   ·exact nomatch e
  ·rcases dP hb with ⟨rfl,e⟩ | ⟨j,u,rfl,e⟩
   ·exact nomatch e
   ·injection e with e1 _
    rw[e1]
 byValue:=fun k v h=>by rcases dP h with ⟨rfl,rfl⟩ | ⟨i,t,rfl,rfl⟩<;>rfl
 pyHash:=fun hv h=>by
  rcases dP hv with ⟨rfl,rfl⟩ | ⟨i,t,rfl,rfl⟩
  ·exact pyHash_slot (T :="NoneType") rfl PySem.F.slot_NoneType_hash PySem.F.entry_NoneType_hash (PySem.F.args_NoneType_hash_1 _) (beq_builtin_none _) (.inl rfl) (ff (fg (ff (wpAny_mkInt (fg ⟨_,_,rfl,h⟩)))))
  ·exact wpAny_pyHash_int h
 eqBool:=fun hu hv h=>by
  rcases dP hu with ⟨rfl,rfl⟩ | ⟨i,t,rfl,rfl⟩
  ·rcases dP hv with ⟨rfl,rfl⟩ | ⟨j,u,rfl,rfl⟩
   ·exact SeqAt.EqAt.same _ _ _ _ _ (by simpa using h)
   ·exact SeqAt.EqAt.none_int _ _ _ _ _ _ (by simpa using h)
  ·rcases dP hv with ⟨rfl,rfl⟩ | ⟨j,u,rfl,rfl⟩
   ·exact SeqAt.EqAt.int_none _ _ _ _ _ _ (by simpa using h)
   ·have e:decide (some i=some j)=(i==j):=by by_cases z:i=j<;>simp[z]
    rw[e]at h;exact wpAny_eqBool_int h
 «strs»:=fun k x t v h=>by rcases dP h with ⟨_,e⟩ | ⟨i,u,_,e⟩<;>exact nomatch e
section
variable {X:Cx}{pos pos':Pos}{o i value:Expr}{td ty tv:TE}
def Vz(K:i8):R2:=fun x y H Q=>∃(p q:Addr) (xs ys:List V),x=.ref p/\y=.ref q/\aT K H p xs/\aT K H q ys/\(∀(i:Nat) a b,xs[i]? =some a->ys[i]? =some b->Hb a b\/(a=.non/\b=.non))/\Q (.bl (decide (xs=ys))) H
theorem sX(hu:X.A.units<cLine):jU X (compareOp .Eq) (Vz X.K):=by
 intro kb s σ H x y v u Q I rx ry h;obtain⟨p,q,xs,ys,rfl,rfl,hp,hq,hc,k⟩:=h;cases rx;cases ry;obtain⟨its,hv,pl,_⟩:=I.list hp;obtain⟨its2,hv2,pl2,_⟩:=I.list hq;have e1:=hv.length;have e2:=hv2.length;by_cases hl:xs.length=ys.length
 ·have key:SeqAt.RcAt X.A s (.ref p) (.ref q) ((List.range its.toArray.size).all fun i=>decide (xs[i]? =ys[i]?)):=by
   refine SeqAt.RcAt.lists pl.isList pl2.isList (by simp;omega) hu fun j h1 h2=>?_;have j1:j<xs.length:=by simp at h1;omega
   have j2:j<ys.length:=by simp at h2;omega
   have z1:xs[j]? =some xs[j]:=aa j1;have z2:ys[j]? =some ys[j]:=aa j2;obtain⟨u1,w1,r1⟩:=hv.get z1;obtain⟨u2,w2,r2⟩:=hv2.get z2;have i1:its.toArray[j]=u1:=by have:its[j]? =some its[j]:=aa (by omega);rw[this]at w1;simpa using w1
   have i2:its2.toArray[j]=u2:=by have:its2[j]? =some its2[j]:=aa (by omega);rw[this]at w2;simpa using w2
   rw[i1,i2,z1,z2];have e:decide (some xs[j]=some ys[j])=decide (xs[j]=ys[j]):=by simp
   rw[e];rcases hc j _ _ z1 z2 with hc | ⟨ha,hb⟩
   ·exact Hc hc r1 r2
   ·rw[ha]at r1 ⊢;rw[hb]at r2 ⊢;have q1:u1=Value.none:=r1;have q2:u2=Value.none:=r2;subst q1 q2;rw[decide_eq_true rfl];exact SeqAt.EqAt.same _
  rw[am,<-e1,all_eq hl]at key;exact key _ _ _ _ ⟨.bl (decide (xs=ys)),H,I,rfl,k⟩
 ·have key:SeqAt.RcAt X.A s (.ref p) (.ref q) false:=SeqAt.RcAt.lists_lengths pl.isList pl2.isList (by simp;omega) hu;rw[decide_eq_false (fun z=>hl (by rw[z]))]at k;exact key _ _ _ _ ⟨.bl false,H,I,rfl,k⟩
end
open PySem PySem.Spec PyProof.Rows
section
variable {X:Cx}{kb:List (Addr×Obj)}{σ:St}{H:Hp}{s:Shared}{h':Heap}
theorem Inv.lO{t':Nat}{its:List Addr}{a:Addr}{o:HO}(I:Inv X kb σ H s)(k:∀b u,b∉its->s.heap.get? b=some u->h'.get? b=some u)(hf:∀b∈its,kj X kb H b)
  (hp:s.heap.objs.size<=a) (new:bu X.prog X.w (upd H a o) h' a o):Inv X kb σ (upd H a o) {s with heap:=h',toks:=t'}:=by
 have hn:H a=none:=I.hok.fresh hp;have JB:∀b u,H b=some u->b∉its:=fun b u e z=>by rw[(hf b z).1]at e;cases e
 have Lx:∀b u,s.heap.get? b=some u->b≠a:=fun b u e=>mi (Nat.lt_of_lt_of_le (ii e) hp);refine I.step (g':=s.gens) (d':=s.drawn) (ch:=its) (fun b hb=>?_) (fun b o _ _ hc e _=>k b o hc e) (fun b o _ _ hc e _=>⟨o.slots,k b o hc e⟩) (fun b u _ e n=>?_)
  (fun b o hc e=>⟨o,k b o hc e⟩) (fun b xs e=>?_) (fun b u v e=>?_) (fun b ps e=>⟨#[],?_⟩) (fun m hm=>?_) (fun b u e=>?_) I.bare
 ·obtain⟨_,f1,f2,f3,f4,f5⟩:=hf b hb;exact⟨f3,f1,f4,f5⟩
 ·rw[aw (Lx b u e)];exact n
 ·rw[aw (bt e hn)];exact e
 ·rw[aw (bt e hn)];exact e
 ·rw[aw (bt e hn),e];simp
 ·obtain⟨o,es,ep,ho,r⟩:=hm;exact⟨o,es,ep,k _ o (fun z=>(hf _ z).2.1 rfl) ho,r⟩
 ·by_cases hb:b=a
  ·subst hb;rw[ah]at e;cases e;exact new
  ·rw[aw hb]at e;refine(I.hok b u e).stay (fun c v hc q=>k c v ?_ q) (fun c q=>by rw[aw (bt q hn)];exact q) fun c xs q=>by rw[aw (bt q hn)];exact q
   rcases hc with z | z
   ·rw[z];exact JB b u e
   ·exact JB c _ z
theorem Inv.zK{t':Nat}{its:List Addr}(I:Inv X kb σ H s)(k:∀b u,b∉its->s.heap.get? b=some u->h'.get? b=some u)(hf:∀b∈its,kj X kb H b):Inv X kb σ H {s with heap:=h',toks:=t'}:=by
 have JB:∀b u,H b=some u->b∉its:=fun b u e z=>by rw[(hf b z).1]at e;cases e
 refine I.step (g':=s.gens) (d':=s.drawn) (ch:=its) (fun b hb=>?_) (fun b o _ _ hc e _=>k b o hc e) (fun b o _ _ hc e _=>⟨o.slots,k b o hc e⟩) (fun b u _ e n=>n)
  (fun b o hc e=>⟨o,k b o hc e⟩) (fun b xs e=>e) (fun b u v e=>e) (fun b ps e=>⟨#[],by rw[e];simp⟩) (fun m hm=>?_) (fun b u e=>?_) I.bare
 ·obtain⟨_,f1,f2,f3,f4,f5⟩:=hf b hb;exact⟨f3,f1,f4,f5⟩
 ·obtain⟨o,es,ep,ho,r⟩:=hm;exact⟨o,es,ep,k _ o (fun z=>(hf _ z).2.1 rfl) ho,r⟩
 ·refine(I.hok b u e).stay (fun c v hc q=>k c v ?_ q) (fun _ q=>q) fun _ _ q=>q;rcases hc with z | z
  ·rw[z];exact JB b u e
  ·exact JB c _ z
def Ite(K:i8)(a:Addr):It :=
 ⟨fun i H=>∃xs x,aT K H a xs/\xs[i]? =some x,
   fun i H x H'=>∃t y,H t=none/\x=.ref t/\H'=upd H t (.tup [.int i,y])/\∀xs,aT K H a xs->xs[i]? =some y,
   fun i H=>∃xs,aT K H a xs/\xs.length<=i⟩
theorem AV{P:Program}{w:World}{K:i8}{elts:List Expr}{x1}{pos:Pos}(a e it:Addr)(hne:e≠it):
  Turn P w K (.Tuple elts x1 pos) (Ite K a) [e,it] e (fun i h=>(∃old,IsEnum h e it i old)/\h.IsListIter it a i) where
 mem:=by simp
 obj:=fun i h st b hb=>by
  obtain⟨⟨old,he⟩,o,eo,c,d⟩:=st;rcases List.mem_cons.mp hb with rfl | hb
  ·exact⟨_,he,fun v z=>by
    have z':Data.fields _=Data.cell v:=z
    cases z'⟩
  ·rw[bd.mp hb];exact⟨o,eo,fun v z=>by rw[d]at z;cases z⟩
 keep:=fun i h h' st k=>⟨st.1.elim fun old he=>⟨old,k e (by simp) _ he⟩,st.2.at fun o eo=>k it (by simp) o eo⟩
 item:=by
  intro X hP hw hK hc i kb s σ H E I hf st hg;subst hP hw hK;obtain⟨xs,x,hq,hx⟩:=hg;obtain⟨⟨old,he⟩,hit⟩:=st;obtain⟨its,rv,p,hz⟩:=I.list hq;obtain⟨u,hu,ru⟩:=rv.get hx;refine wpAny_pyNext_enum_item he hit p.isList (x:=u) (by simpa using hu) hne fun h1 FX hit1 ht1 hz1 k1=>?_;refine⟨_,rfl,wpAny_letOwnedTupleGo_enum FX fun h2 he2 hs2=>?_⟩;have Qn:s.heap.objs.size≠e:=Nat.ne_of_gt (ii he);have oC:=(hs2.2 s.heap.objs.size Qn).trans ht1;have hk:∀b o,b∉ [e,it]->s.heap.get? b=some o->h2.get? b=some o:=fun b o hb e'=>by
   have hb':b≠e/\b≠it:=by simpa using hb
   exact(hs2.2 b hb'.1).trans (k1 b o hb'.1 hb'.2 e')
  have hfr:H s.heap.objs.size=none:=I.hok.fresh (mf _);refine⟨.ref s.heap.objs.size,upd H s.heap.objs.size (.tup [.int i,x]),I.lO (t':=s.toks+1) hk hf (mf _) ?_,rfl,⟨_,x,hfr,rfl,rfl,fun ys hy=>by rw[I.kf hy hq];exact hx⟩,⟨⟨u,?_⟩,?_⟩,fun b hb=>?_⟩
  ·exact⟨by show 2<=fw;decide,[.int i s.toks,u],.cons ⟨_,rfl⟩ (.cons ru .nil),⟨_,oC,rfl,_,rfl⟩⟩
  ·exact he2
  ·obtain⟨o,e1,e2⟩:=hit1;exact⟨o,(hs2.2 it (Ne.symm hne)).trans e1,e2⟩
  ·have:b≠s.heap.objs.size:=by
    rcases List.mem_cons.mp hb with rfl | hb
    ·exact Ne.symm Qn
    ·rw[bd.mp hb];obtain⟨o,e1,_⟩:=hit;exact mi (ii e1)
   rw[aw this];exact(hf b hb).1
 done:=by intro X hP hw hK hc i kb s σ H E I hf st hg;subst hP hw hK;obtain⟨xs,hq,hx⟩:=hg;obtain⟨⟨old,he⟩,hit⟩:=st;obtain⟨its,rv,p,hz⟩:=I.list hq;obtain⟨f0,f1,f2,f3,f4,f5⟩:=hf it (by simp);have hl:=rv.length;exact wpAny_pyNext_enum_end (I.ok.hd hc) he hit p.isList (by simp;omega) fun h' eb=>⟨rfl,I.turned (t':=s.toks) (fun b o hb e=>eb b o hb e) f0 f1 f3 f4 f5⟩
 self:=fun _ _ _ _ _ st h=>st.1.elim fun _ he=>wpAny_pyIter_enum he h
def Qo(K:i8)(ta:TA):TI:=fun σ H R=>ta σ H fun vs H1=>∃a,vs=[.ref a]/\(∃xs,aT K H1 a xs)/\R (Ite K a) H1
theorem Hd:bootBuiltins "enumerate"=some (.type "enumerate"):=by decide+kernel
theorem oE{a:Expr}{ta:TA}{p pos:Pos}{elts:List Expr}{x1}{tpos:Pos}(hg:Gl X "enumerate")(hm:X.mg "enumerate"=none)(ha:PA X [a] ta)(hs:starEach [a] X.env=[(false,eval a X.env)]:=by rfl):
  PI X (.Tuple elts x1 tpos) (.Call (.Name "enumerate" p) [a] [] pos) (Qo X.K ta):=by
 intro kb s σ H R I h;refine Call_ (ip I hg hm Hd (PyProof.Rows.callWith_type1 (ck (ha pos kb s σ H _ I h) fun us s1 ⟨vs,H1,I1,r1,q1⟩=>?_) hs rfl));obtain⟨a,e,⟨xs,hq⟩,q⟩:=q1;subst e;obtain⟨u,rfl,ru⟩:=vals1 r1;cases ru;obtain⟨its,rv,p,hz⟩:=I1.list hq;refine call_enumerate_list p.isList fun h' he hit hsz hk=>?_;refine wpAny_pyIter_enum he ?_;refine⟨s1.heap.objs.size+1,[s1.heap.objs.size+1,s1.heap.objs.size],_,_,H1,rfl,I1.kept (t':=s1.toks) hk,AV a _ _ (Nat.succ_ne_self _),⟨⟨_,he⟩,hit⟩,fun b hb=>?_,q⟩;have hb':s1.heap.objs.size<=b:=by
  rcases List.mem_cons.mp hb with rfl | hb
  ·exact Nat.le_succ _
  ·rw[bd.mp hb];exact mf _
 exact I1.wX hb' (I1.hok.fresh hb')
theorem pK{K:i8}{a:Addr}{xs:List V}{g:TG}{tb:TS}{D:Ends}{σ:St}{H:Hp}(Pv:Nat->St->Hp->Prop)(h0:Pv 0 σ H)(hl:∀i σ H,i<=xs.length->Pv i σ H->aT K H a xs)
  (hs:∀i x σ H t,xs[i]? =some x->H t=none->Pv i σ H->g (.ref t) σ (upd H t (.tup [.int i,x])) fun σ2 H2=>tb {D with nx:=Pv (i+1),ct:=Pv (i+1),bk:=D.nx} σ2 H2) (hd:∀σ H,Pv xs.length σ H->D.nx σ H):
  ∃W:Nat->Nat->St->Hp->Prop,(∃m,W 0 m σ H)/\∀i m σ H,W i m σ H->
   ((Ite K a).stop i H/\D.nx σ H)\/((Ite K a).go i H/\∃N:St->Hp->Prop,(∀σ' H',N σ' H'->∃m',m'<m/\W (i+1) m' σ' H')/\∀x H',(Ite K a).Au i H x H'->g x σ H' fun σ2 H2=>tb {D with nx:=N,ct:=N,bk:=D.nx} σ2 H2):=by
 refine⟨fun i m σ H=>m=xs.length-i/\i<=xs.length/\Pv i σ H,⟨xs.length,by simp,Nat.zero_le _,h0⟩,?_⟩;rintro i m σ H ⟨rfl,hi,p⟩;have q:=hl i σ H hi p;by_cases hlt:i<xs.length
 ·refine .inr ⟨⟨xs,xs[i],q,by simp[hlt]⟩,Pv (i+1),fun σ' H' p'=>⟨xs.length- (i+1),by omega,rfl,hlt,p'⟩,fun x H' y=>?_⟩;obtain⟨t,y,hn,e1,e2,hy⟩:=y;subst e1 e2;exact hs i y σ _ t (hy xs q) hn p
 ·have e:i=xs.length:=by omega
  subst e;exact .inl ⟨⟨xs,q,mf _⟩,hd σ H p⟩
end
open PySem PySem.W PySem.Spec PySem.Calls PyProof.Rows
def NF(X:Cx)(a:Addr):Prop:=∀o u,X.H₀ a≠some (.jr o u)
section
variable {X:Cx}{kb:List (Addr×Obj)}{σ:St}{H:Hp}{s:Shared}{a:Addr}{kvs:List (Key×V)}
variable {A:Around}
end
section
variable {prog:Program}{w:World}{K:Type}[DecidableEq K]{knd:KeyKind prog w K}{A:Around}{R:Result->Shared->Prop}
end
open PySem PySem.Spec PyProof.Rows
section
variable {X:Cx}{k:Nat}{e a:Expr}{es:List Expr}{pos:Pos}{te:TE}{t:TA}
end
def eS(K:i8)(P:Params)(a:Addr)(x:Str)(r:Option V):Prop :=
 ∃(es:Array DictEntry) (n:Nat),K.lookup a=some ⟨.type "dict",none,.dict es n,#[]⟩/\PySem.W.KeysLit P es.toList/\(a==sysModules)=false/\∃q,PySem.W.nsIn K a x=some q/\gU r q
def Qp(K:i8)(P:Params)(td ty:TE):TE:=fun σ H Q=>td σ H fun x H1=>ty σ H1 fun y H2=>∃a k v,x=.ref a/\y=.str k/\eS K P a k (some v)/\Q v H2
section
variable {X:Cx}{o i:Expr}{pos:Pos}{td ty:TE}
theorem oF(ho:PE X o td)(hi:PE X i ty)(hs:Lh i):PE X (.Subscript o i pos) (Qp X.K X.w.params td ty):=by intro kb s σ H Q I h;refine zD PySem.F.slot_dict_getitem.lookup hs (ck (ho kb s σ H _ I h) fun u s1 ⟨x,H1,I1,rx,q1⟩=>ck (hi kb s1 σ H1 _ I1 q1) fun iv s2 ⟨y,H2,I2,ry,a,k,v,ex,ey,g,q2⟩=>?_);subst ex ey;obtain rfl:u=Value.ref a:=rx;obtain⟨t,rfl⟩:=ry;obtain⟨es,n,hl,hk,hm,q,hq,rq⟩:=g;obtain⟨w',hw,AG⟩:=gU.some_of (v:=v) (o:=q) rq;subst hw;have mo:=PySem.W.mapOf_K (prog:=X.prog) (w:=X.w) I2.jF hl hk;exact⟨mo.typeIs,wpAny_getItem_of (strKind_is X.prog X.w k t) mo (PySem.W.find_K hl hq) ⟨v,H2,I2.tok _,AG,q2⟩⟩
end
open PySem PySem.W PySem.Spec PySem.Calls PyProof.Rows
def VA(K:i8)(P:Params)(a:Addr):Prop:=∃(es:Array DictEntry) (n:Nat),K.lookup a=some ⟨.type "dict",none,.dict es n,#[]⟩/\PySem.W.KeysLit P es.toList/\(a==sysModules)=false
section
variable {X:Cx}{o i:Expr}{pos:Pos}{td ty:TE}
end
open PySem PySem.Spec PyProof.Rows
def Ly(K:i8)(P:Params)(td ty tx:TE):TE:=fun σ H Q=>td σ H fun x H1=>∃a,x=.ref a/\(∃es n,K.lookup a=some ⟨.type "dict",none,.dict es n,#[]⟩)/\ty σ H1 fun y H2=>tx σ H2 fun z H3=>∃k r,y=.str k/\eS K P a k r/\Q (r.getD z) H3
section
variable {X:Cx}{o e f:Expr}{apos cpos:Pos}{td ty tx:TE}
theorem Dl(ho:PE X o td)(he:PE X e ty)(hf:PE X f tx)(m:M2 X o "get" apos e f cpos):PE X (.Call (.Attribute o "get" apos) [e,f] [] cpos) (Ly X.K X.w.params td ty tx):=by
 intro kb s σ H Q I h;refine wpAny_Call_method m.base m.few m.line PySem.F.plainAttrs_dict PySem.F.slot_dict_get PySem.F.type_dict_get (ck (ho kb s σ H _ I h) fun u s1 ⟨x,H1,I1,rx,a,ex,⟨es,n,hl⟩,q1⟩=>?_);subst ex;obtain rfl:u=Value.ref a:=rx;have ga:=I1.jF _ _ hl;refine⟨⟨_,ga,rfl⟩,fun b q=>?_,?_⟩
 ·cases q;exact⟨_,ga,rfl⟩
 rw[m.trees]
 refine Calls.callWith_builtin rfl (Calls.evalArgs_plain (Calls.spliced_cons (ck (he kb s1 σ H1 _ I1 q1) fun iv s2 ⟨y,H2,I2,ry,q2⟩=>
  Calls.spliced_cons (ck (hf kb s2 σ H2 _ I2 q2) fun fv s3 ⟨z,H3,I3,rz,k,r,ey,g,q3⟩=>Calls.spliced_nil ?_))))
 subst ey;obtain⟨t,rfl⟩:=ry;obtain⟨es,n,hl,hk,hm,q,hq,rq⟩:=g;have mo:=PySem.W.mapOf_K (prog:=X.prog) (w:=X.w) I3.jF hl hk;refine call_meetsIn PySem.F.slot_dict_get mo.typeIs PySem.F.entry_dict_get (PySem.F.args_dict_get_3 _ _ _) (meets_dict_get_default (strKind X.prog X.w) a (strKind_is X.prog X.w k t) hm fv) ⟨_,mo,?_⟩;rw[PySem.W.find_K hl hq];exact⟨r.getD z,H3,I3.tok _,rq.getD rz,q3⟩
theorem AW{K:i8}{a:Addr}{xs:List V}{g:TG}{tt:TT}{te:TE}{R:Hp->Prop}{D:Addr}{σ0:St}{H0:Hp}(Pv:Nat->St->List V->Hp->Prop)(h0:Pv 0 σ0 [] H0)(hl:∀i σ ys H,i<=xs.length->Pv i σ ys H->aT K H a xs)
  (hs:∀i x σ ys H t,xs[i]? =some x->H t=none->Pv i σ ys H->g (.ref t) σ (upd H t (.tup [.int i,x])) fun σ2 H2=>tt σ2 H2 fun b H3=>
   if b=true then te σ2 H3 fun v H4=>H4 D=some (.lst ys)/\ys.length<fw/\Pv (i+1) σ2 (ys++ [v]) (upd H4 D (.lst (ys++ [v])))else Pv (i+1) σ2 ys H3)
  (hd:∀σ ys H,Pv xs.length σ ys H->R H):
  ∃W:Nat->Nat->St->List V->Hp->Prop,(∃m,W 0 m σ0 [] H0)/\∀i m σ ys H,W i m σ ys H->
   ((Ite K a).stop i H/\R H)\/((Ite K a).go i H/\∃N:St->List V->Hp->Prop,(∀σ' ys' H',N σ' ys' H'->∃m',m'<m/\W (i+1) m' σ' ys' H')/\∀x H',(Ite K a).Au i H x H'->g x σ H' fun σ2 H2=>tt σ2 H2 fun b H3=>
    if b=true then te σ2 H3 fun v H4=>H4 D=some (.lst ys)/\ys.length<fw/\N σ2 (ys++ [v]) (upd H4 D (.lst (ys++ [v])))else N σ2 ys H3):=by
 refine⟨fun i m σ ys H=>m=xs.length-i/\i<=xs.length/\Pv i σ ys H,⟨xs.length,by simp,Nat.zero_le _,h0⟩,?_⟩;rintro i m σ ys H ⟨rfl,hi,p⟩;have q:=hl i σ ys H hi p;by_cases hlt:i<xs.length
 ·refine .inr ⟨⟨xs,xs[i],q,by simp[hlt]⟩,Pv (i+1),fun σ' ys' H' p'=>⟨xs.length- (i+1),by omega,rfl,hlt,p'⟩,fun x H' y=>?_⟩;obtain⟨t,y,hn,e1,e2,hy⟩:=y;subst e1 e2;exact hs i y σ ys _ t (hy xs q) hn p
 ·have e:i=xs.length:=by omega
  subst e;exact .inl ⟨⟨xs,q,mf _⟩,hd σ ys H p⟩
def Qq(t u:TS):TS:=fun D σ H=>∃J:St->Hp->Prop,t {D with nx:=J} σ H/\∀σ' H',J σ' H'->u D σ' H'
theorem sY{X:Cx}{st:Stmt}{rest:List Stmt}{t u:TS}(h1:PS X st t)(h2:qO X rest u):qO X (st::rest) (Qq t u):=by
 intro kb s σ H D I h;obtain⟨J,h,hJ⟩:=h;refine wpAny_execs_cons (ck (h1 kb s σ H {D with nx:=J} I h) fun f s1 q=>?_);cases f with
 | next=>
  obtain⟨σ',H',I',q⟩:=q;exact h2 kb s1 σ' H' D I' (hJ _ _ q)
 | ret v=>exact q
 | brk=>exact q
 | cont=>exact q
theorem He:jU X (binaryOp .Mult) (fun x y H Q=>∃i n,x=.str i/\y=.int n/\MulOk i n/\Q (.str (Txt.mul i n)) H):=by intro kb s σ H x y v u Q I rx ry h;obtain⟨i,n,rfl,rfl,hm,q⟩:=h;obtain⟨t,rfl⟩:=rx;obtain⟨t',rfl⟩:=ry;exact SB.mul hm fun t' k=>⟨.str _,H,I.tok k,⟨_,rfl⟩,q⟩
theorem Lz{x:Str}{n:Int}(h0:0<=n)(h1:n<=10000)(hx:x.length<=1000):MulOk x n:=by
 refine⟨?_,fun h2 _=>?_,fun _ _=>?_⟩
 ·rw[decide_eq_false (by omega),decide_eq_false (by omega)];rfl
 ·have h3:(0:Int)<n:=by omega
  have:(1000:Int)*n<=2^63-1:=by omega
  have:(1000:Int)<=(2^63-1)/n:=(Int.le_ediv_iff_mul_le h3).mpr this;omega
 ·have h4:x.length*n.toNat<=1000*10000:=Nat.mul_le_mul hx (by omega);unfold Builtin.Str.tooLong;exact decide_eq_false (by have:fw=16777216:=(by decide);omega)
variable {σ:St}
structure LA(X:Cx)(st:Stmt)(t:TS):Prop where
 ps:PS X st t
structure qU(X:Cx)(b:List Stmt)(t:TS):Prop where
 ps:qO X b t
theorem au{st:Stmt}{t:TS}(h:PS X st t):LA X st t:=⟨h⟩
theorem bz{c:Expr}{a b:List Stmt}{tc:TT}{t u:TS}{pos:Pos}(hc:PT X c tc)(ha:qU X a t)(hb:qU X b u):LA X (.If c a b pos) (KR tc t u):=⟨dk hc ha.ps hb.ps⟩
theorem bg{t:TS}(h:qO X [] t):qU X [] t:=⟨h⟩
theorem ak{st:Stmt}{b:List Stmt}{t u:TS}(h:LA X st t)(k:qU X b u):qU X (st::b) (qP t u):=⟨bq h.ps k.ps⟩
theorem kO{st:Stmt}{b:List Stmt}{t u:TS}(h:LA X st t)(k:qU X b u):qU X (st::b) (Qq t u):=⟨sY h.ps k.ps⟩
theorem az{st:Stmt}{t:TS}(h:LA X st t):qU X [st] t:=⟨aA h.ps⟩
theorem cu{b:List Stmt}{t:TS}{R:TS->Prop}(h:qU X b t)(hr:R t):∃t,qO X b t/\R t:=⟨t,h.ps,hr⟩
theorem vq:eA X (.type "range") (fun xs H Q=>∃(m n:Int),xs=[.int m,.int n]/\∀p,H p=none->Q (.ref p) (upd H p (.rng m n))):=by
 intro kb s σ H xs us Q I r h;obtain⟨m,n,rfl,q⟩:=h;cases r with
 | cons r1 r=>
  cases r with
  | cons r2 r=>
   cases r;obtain⟨t,rfl⟩:=r1;obtain⟨t2,rfl⟩:=r2;exact call_range_2 ⟨.ref s.heap.objs.size,upd H s.heap.objs.size (.rng m n),I.laid (fun b o e=>gs _ e) (mf _) ⟨_,_,_,gv _ rfl⟩,rfl,q _ I.fresh⟩
theorem vt{k n:Nat}:∀{acc:List Value},acc.length=n->(∀(j:Nat) (v:Value),acc[j]? =some v->∃t,v=.int ((k+j:Nat):Int) t)->Vals ((List.range' k n).map fun(j:Nat)=>V.int (j:Int)) acc:=by
 intro acc hl hv;subst hl;have key:∀(l:List Value) (k:Nat),(∀(j:Nat) (v:Value),l[j]? =some v->∃t,v=.int ((k+j:Nat):Int) t)->Vals ((List.range' k l.length).map fun(j:Nat)=>V.int (j:Int)) l:=by
  intro l
  induction l with
  | nil=>intro k _;exact .nil
  | cons a r ih=>
   intro k h;rw[eh,List.range'_succ,el];obtain⟨t,ht⟩:=h 0 a rfl;refine .cons ⟨t,by simpa using ht⟩ (ih (k+1) fun j v e=>?_);obtain⟨t,ht⟩:=h (j+1) v (by simpa using e);exact⟨t,by rw[ht];congr 2;omega⟩
 exact key acc k hv
theorem pL(hc:X.calm=true):eA X (.type "list") (fun xs H Q=>∃(p:Addr) (k n:Nat),xs=[.ref p]/\H p=some (.rng k ((k+n:Nat):Int))/\k+n<=1000/\∀l,H l=none->Q (.ref l) (upd H l (.lst ((List.range' k n).map fun(j:Nat)=>V.int (j:Int))))):=by
 intro kb s σ H xs us Q I r h;obtain⟨p,k,n,rfl,hp,hn,q⟩:=h;obtain⟨u,rfl,ru⟩:=vals1 r;cases ru;obtain⟨t,u,v,hr⟩:=(show bu X.prog X.w H s.heap p (.rng k ((k+n:Nat):Int))from I.hok p _ hp);refine call_list_range (a:=k) (b:=((k+n:Nat):Int)) (c:=1) (n:=n) (I.ok.hd hc) hr (small_one (by omega) (by omega) (by omega) (by omega)) ?_ (by omega) fun h' tk acc c' hk hg hacc=>?_
 ·unfold Builtin.Range.rangeSize;simp;omega
 ·have hl:acc.toList.length=n:=by rw[Array.length_toList];exact hacc.1
  have hv:=vt (k:=k) (acc:=acc.toList) hl (fun j v e=>by
   obtain⟨t,ht⟩:=hacc.2 j v (by rw[<-Array.getElem?_toList];exact e)
   exact⟨t,by rw[ht];congr 1;omega⟩)
  refine⟨.ref s.heap.objs.size,_,I.laid (t':=tk) hk (mf _) (show bu X.prog X.w _ h' _ (.lst ((List.range' k n).map fun(j:Nat)=>V.int (j:Int)))from⟨by rw[List.length_map,List.length_range',sizeLine_eq];omega,acc.toList,c',hv,by rw[hg]⟩),rfl,q _ I.fresh⟩
inductive Da where
 | non | bl (b:Bool) | int (i:Int) | str (s:Str) | tup (l:List Da) | lst (l:List Da)
variable {kb:List (Addr×Obj)}{H:Hp}{s:Shared}
theorem qV:eA X (.builtin "sorted") (fun xs H Q=>∃(p:Addr) (ns:List Int),xs=[.ref p]/\aT X.K H p (ns.map V.int)/\ns.length<64/\∀(l:Addr) (ms:List Int),H l=none->ms.Perm ns->ms.Pairwise (· <= ·)->Q (.ref l) (upd H l (.lst (ms.map V.int)))):=by
 intro kb s σ H xs Up Q I r h;obtain⟨p,ns,rfl,hp,hz,q⟩:=h;obtain⟨u,rfl,ru⟩:=vals1 r;cases ru;obtain⟨its,hv,pl,_⟩:=I.list hp;have hi:=intsAre_of hv;have hl:its.length=ns.length:=IntsAre.length hi;refine sorted_ints pl.isList hi (by omega) fun out ms a1 a2 a3=>?_;obtain⟨e,he⟩:=sortedAll_at s.heap its out;have nD:H (s.heap.objs.size+1)=none:=I.hok.fresh (Nat.le_succ _);have LB:ms.length<64:=by rw[a2.length_eq];exact hz
 refine⟨.ref (s.heap.objs.size+1),upd H (s.heap.objs.size+1) (.lst (ms.map V.int)),I.laid (fun b o e=>sortedAll_old e) (Nat.le_succ _) ?_,rfl,q _ ms nD a2 a3⟩;exact⟨by rw[List.length_map,sizeLine_eq];omega,out.toList,e,jy a1,he⟩
end
open PySem PySem.W PySem.Spec PySem.Calls PyProof.Rows
def sZ(S:List Addr)(i:Nat)(o:Obj):Obj:=if i∈S then {o with data:=.freed}else o
def less(h:Heap)(S:List Addr):Heap:={h with objs:=h.objs.mapIdx (sZ S)}
theorem oG{h:Heap}{S:List Addr}{b:Addr}(hb:b∈S):(less h S).get? b=none:=by
 unfold Heap.get? less;simp only[Array.getElem?_mapIdx];cases e:h.objs[b]? with
 | none=>rfl
 | some o=>
  simp only[Option.map_some,sZ,if_pos hb]
theorem gg{h:Heap}{S:List Addr}{b:Addr}(hb:b∉S):(less h S).get? b=h.get? b:=by
 unfold Heap.get? less;simp only[Array.getElem?_mapIdx];cases e:h.objs[b]? with
 | none=>rfl
 | some o=>
  simp only[Option.map_some,sZ,if_neg hb]
theorem j0{h:Heap}{S:List Addr}:(less h S).StaysIn h:=fun b o e=>by
 by_cases hb:b∈S
 ·rw[oG hb]at e;cases e
 ·rwa [gg hb]at e
theorem lP{h base:Heap}{S:List Addr}:∀{l:List Env},h.FunFrames base l->(∀b∈frs l,b∈S)->h.FunFrames (less h S) l
 | [],_,_=>trivial
 | env::r,⟨hk,⟨L,o,hf,hn,ho,hd⟩,hr⟩,hs=>by
  have e:frs (env::r)=L::frs r:=by unfold frs;rw[List.filterMap_cons,hf]
  rw[e]at hs;exact⟨hk,⟨L,o,hf,oG (hs L (by simp)),ho,hd⟩,lP hr fun b hb=>hs b (by simp[hb])⟩
theorem bu.some_{P:Program}{w:World}{H:Hp}{h:Heap}{a:Addr}{o:HO}(x:bu P w H h a o):∃u,h.get? a=some u:=by
 cases o with
 | lst xs=>obtain⟨_,_,_,_,e⟩:=x;exact⟨_,e⟩
 | tup xs=>obtain⟨_,_,_,ob,e,_⟩:=x;exact⟨_,e⟩
 | dK kvs=>obtain⟨_,_,_,_,o,_,_,e,_⟩:=x;exact⟨_,e⟩
 | dT kvs=>obtain⟨_,_,_,_,o,_,_,e,_⟩:=x;exact⟨_,e⟩
 | set S n=>obtain⟨o,_,_,_,e,_⟩:=x;exact⟨_,e⟩
 | ins C dx fs=>obtain⟨_,_,_,e,_⟩:=x;exact⟨_,e⟩
 | own y=>exact x
 | xd fs=>obtain⟨_,⟨_,_,_,e,_⟩,_⟩:=x;exact⟨_,e⟩
 | rng lo hi=>obtain⟨_,_,_,e⟩:=x;exact⟨_,e⟩
 | jr ob u=>obtain⟨e,_⟩:=x;exact⟨_,e⟩
 | Jz ps=>exact⟨_,(show h.get? a=some _ from x)⟩
 | met f y=>exact⟨_,(show h.get? a=some _ from x)⟩
 | ext φ=>exact x.2.1
structure Hf(K:i8)(C:Addr)(bmB:List Value)(newId:String):Prop where
 isIn:excIn K C bmB newId=true
theorem Hf.obj{K:i8}{C:Addr}{bmB:List Value}{newId:String}{h₀:Heap}(c:Hf K C bmB newId)(X:K.In h₀):∃bm N nm q bs hdct sn sub ab col dd k0 k1 k2 k3 k5 mN,
   h₀.get? C=some (excClassObj nm q C N bs bm hdct sn sub ab col dd k0 k1 k2 k3 k5 newId)/\h₀.Ns N mN/\mN (Str.ofString "__init__")=none/\OwnTail h₀ bmB bm:=by
 have q:=c.isIn;unfold excIn at q;split at q
 ·rename_i dd cd sl ho;split at q
  ·rename_i C' bm k0 k1 k2 k3 n k5 hm hs;simp only[Bool.and_eq_true,beq_iff_eq,Bool.not_eq_true']at q;obtain⟨⟨⟨⟨⟨rfl,rfl⟩,hdel⟩,ht⟩,hok⟩,hni⟩:=q;obtain⟨nm,bs,mro,ns,qn,hd,sn,sub,ab,col,del⟩:=cd;dsimp only at hm hdel hok hni;subst hm hdel;have hsl:sl=#[k0,k1,k2,k3,some (.builtin n),k5]:=by obtain⟨l⟩:=sl;simp only at hs;rw[hs]
   subst hsl;exact⟨bm,ns,nm,qn,bs,hd,sn,sub,ab,col,dd,k0,k1,k2,k3,k5,_,X _ _ ho,.of_isNs (isNs_of_in X hok),nsMap_none_of_in X hok hni,tail_of_in X ht⟩
  ·cases q
 ·cases q
section
variable {P:Program}{w:World}{K:i8}{mg:Str->Option Value}{base:Heap}{N:List Str}{qual:Str}{scope:Scope}{f:Addr}{cd:Value}{A:Around}{outer:List Env}{s₀:Shared}{H₀:Hp}{E:XK}
theorem cE.okX{P:Program}{w:World}{K:i8}{mg:Str->Option Value}{base:Heap}{CX:AA}{x qual:Str}{st:Stmt}{f:Addr}{fd:fo}{N ps:List Str}{k:Nat}{sp:Sp}(F:cE K x qual st f fd)(S:aI N ps (ao st))(len:∀vs H Q E,sp vs H Q E->vs.length=ps.length)
  (hbody:∀(Lq:Value) (A:Around) (outer:List Env) (s:Shared) (H:Hp) (vs:List V) (Q:VK) (E:XK),dS k (A.deeper (envOfC qual (ao st) s.heap.objs.size f Lq))->sp vs H Q E->
   ∃t,qO (gM CX P w K mg base N qual (ao st) f Lq A outer s H E) (cN st) t/\t {nx:=fun _ H'=>Q .non H',rt:=Q} (start N vs) H):aL P w K mg base CX (k+1) f fd ps sp:=by
 obtain⟨oc,od,kV,doc,pm,an,Lq,ct,osl,rfl,lk,hcd⟩:=F.ex;exact JL lk hcd S len fun A outer s H vs Q E hr hsp=>hbody Lq A outer s H vs Q E hr hsp
variable {X:Cx}{kb:List (Addr×Obj)}{σ:St}
theorem Hg{body:List Stmt}{h₀:ExceptHandler}{hs:List ExceptHandler}{pos:Pos}{t:TS}(hb:qO X.uY body t):PS X (.Try body (h₀::hs) [] [] pos) t:=by
 intro kb s σ H D I h;refine wpAny_Try_except (ge (hb kb s σ H D (I.wish _) h) (fun fl s1 q=>?_) fun _ _ z=>False.elim z);have q:=q.gJ;cases fl with
 | next=>exact wpAny_execs_nil q
 | ret v=>exact q
 | brk=>exact q
 | cont=>exact q
theorem Dm{B h:Heap}{l:List Env}{ea:Addr}{cls a0:Value}(fly:B.FlyingW l ea cls a0 h):∃T,B.get? ea=none/\B.get? T=none/\(less h (frs l++ [ea,T])).FlyingW l ea cls a0 h:=by obtain⟨f1,f2,f3,oe,vs,T,oT,ts,g1,g2,g3,g4,g5,g6,g7,g8,g9⟩:=fly;exact⟨T,f2,g5,j0,oG (by simp),lP f3 (fun b hb=>by simp[hb]),oe,vs,T,oT,ts,g1,g2,g3,g4,oG (by simp),g6,g7,g8,g9⟩
variable {H:Hp}{s:Shared}
theorem jB{M:Model}{A:Around}{E:Value->Shared->Prop}{i:Nat}{x:Str}{pos:Pos}{Q:Unit->Shared->Prop}(I:Inv X kb σ H s)(hN:X.N.Nodup)(hi:X.N[i]? =some x)(hk:X.env.kindOf x=some .local)
  (h:∀s',Inv X kb (σ.set i none) H s'->Q () s'):wpAny M A (do bindName X.env x .none;unbindBehindTheSuite X.env x pos) Q E s:=by
 obtain⟨m,hn,hl⟩:=id I.loc;have hcls:(X.env.scope.kind== .class||(X.env.scope.kind== .module&&X.env.locals !=X.env.globals))=false:=by rw[I.ok.kind];rfl
 have hiσ:i<σ.length:=by rw[I.len];exact(ag.mp hi).1
 have CB:=I.CB;have tracked:∀{a:Addr} {h':Heap},(∃o,s.heap.get? a=some o/\H a=none)->Heap.SameBut a s.heap h'->iT X.prog X.w H h':=fun {a h'} ha hs b ob e=>by
  obtain⟨_,_,hfree⟩:=ha;refine(I.hok b ob e).stay (fun c w' hc q=>(hs.2 c ?_).trans q) (fun _ q=>q) fun _ _ q=>q;rintro rfl;rcases hc with rfl | hc
  ·rw[hfree]at e;cases e
  ·rw[hfree]at hc;cases hc
 refine wpAny_nameGoes_keeps hk hn hcls fun h' v hn' hs=>?_;obtain⟨oL,_,_,hoL,_⟩:=id hn;refine h _ ⟨I.ok,I.os,I.bare,⟨fun b o e n hb hx=>?_,fun b o e n hb hx=>?_,I.base.free,fun b o e hx=>?_,I.base.tups,I.base.jS,I.base.ly⟩,⟨_,hn',fun j y v' e1 e2 e3=>?_⟩,fun y c e=>?_,I.free,I.e9,fun p hp=>?_,tracked ⟨oL,hoL,I.free⟩ hs,by simpa using I.len⟩
 ·exact(hs.2 b (mi (Nat.lt_of_lt_of_le (ii e) I.ok.above))).trans (I.base.keep b o e n hb hx)
 ·obtain⟨sl,e1⟩:=I.base.slot b o e n hb hx;exact⟨sl,(hs.2 b (mi (Nat.lt_of_lt_of_le (ii e) I.ok.above))).trans e1⟩
 ·obtain⟨o',e1⟩:=I.base.there b o e hx;exact⟨o',(hs.2 b (mi (Nat.lt_of_lt_of_le (ii e) I.ok.above))).trans e1⟩
 ·by_cases hj:j=i
  ·subst hj;rw[List.getElem?_set_self hiσ]at e2;cases e2
  ·rw[List.getElem?_set_ne (Ne.symm hj)]at e2;obtain⟨u',r',q⟩:=hl j y v' e1 e2 e3;refine⟨u',r',?_⟩;rcases q with ⟨k,e⟩ | ⟨k,c,e,z⟩
   ·refine .inl ⟨k,?_⟩;have:y≠x:=fun e=>hj (oW hN e1 (e▸hi));simp[this,e]
   ·exact .inr ⟨k,c,e,z.sameBut hs (CB y c e)⟩
 ·obtain⟨w',z⟩:=I.cell y c e;exact⟨w',z.sameBut hs (CB y c e)⟩
 ·obtain⟨e,n,ne,nf,d⟩:=I.pin p hp;exact⟨(hs.2 p.1 ne).trans e,n,ne,nf,d⟩
abbrev Cx.tf(X:Cx)(ea:Addr):Cx:={X with A:=X.A.mark (some (.ref ea)),calm:=false,xe:=fun _ _=>False}
theorem Inv.suite(I:Inv X kb σ H s)(ea:Addr):Inv (X.tf ea) kb σ H s :=
 ⟨⟨I.ok.mod,I.ok.kind,I.ok.glob,I.ok.blt,I.ok.above,I.ok.inj,I.ok.has,I.ok.cab,(fun z=>by cases z),I.ok.frames,I.ok.stk,I.ok.PJ,I.ok.bs,I.ok.Cj,I.ok.wR,I.ok.wU,I.ok.jT,I.ok.JA⟩,I.os,I.bare,I.base,I.loc,I.cell,I.free,I.e9,I.pin,I.hok,I.len⟩
theorem Inv.oH{ea:Addr}(ok:X.Ok)(I:Inv (X.tf ea) kb σ H s):Inv X kb σ H s:=⟨ok,I.os,I.bare,I.base,I.loc,I.cell,I.free,I.e9,I.pin,I.hok,I.len⟩
def Ends.less(D:Ends)(i:Nat):Ends:={nx:=fun σ H=>D.nx (σ.set i none) H,rt:=D.rt,bk:=fun σ H=>D.bk (σ.set i none) H,ct:=fun σ H=>D.ct (σ.set i none) H}
variable {k:Nat}{C cR:Addr}{fd:fo}{ps:List Str}{sp:Sp}{jv:List V}{ds:List Value}{x m n:Str}{np pos apos p2 p3 p4:Pos}{o:Expr}{ta:TE}{ts:TS}{i:Nat}{b₀:Stmt}{suite:List Stmt}{L:Addr}
end
open PySem PySem.W PySem.Spec PySem.Calls PyProof.Rows PySem.Builtin PySem.Builtin.ObjectAttr PySem.Builtin.Getset_descriptor
section
variable {prog:Program}{w:World}{A:Around}{E:Value->Shared->Prop}{s:Shared}{K:i8}{x C:Addr}
theorem xO{R:Result->Shared->Prop}{tp:Value}(X:K.In s.heap)(L0:Looks (model prog w) s.heap (typeOf (.ref x)) (.ref C))(hm:mroIn K C (.type "object")=some true)
  (h:R (.ok (.ret (.ref C))) s):codeAny (model prog w) A (.call (.builtin "getset_descriptor.__get__") ⟨[.builtin "object.__class__",.ref x,tp],[]⟩) R s:=by
 obtain⟨hh,g,dr,t,os⟩:=s;have L1:=looks_mroIn (M:=model prog w) X hm;refine codeAny_call_builtin KF.slot_gs.plain KF.entry_gs (KF.slot_gs.check _ _ _ _ _ _ _ _ KF.type_class (KF.args_gs _ _ _) ?_);unfold Builtin.«getset_descriptor.__get__» descrGet;rw[dga_obj];refine ff (fg ?_);unfold descrGetter descrCheckInstance descrNameAndClass isInstance;simp only[KF.owner_class]
 repeat lk
 refine⟨Code.quiet_builtin _ (by decide+kernel),codeAny_builtin KF.entry_class ?_⟩;unfold Builtin.«object.__class__» shownTypeOf
 repeat lk
 exact h
structure vv(K:i8)(C:Addr):Prop where
 ga:findIn K (.ref C) "__getattribute__"=some (some (.builtin "BaseException.__getattribute__"))
 gh:findIn K (.ref C) "__getattr__"=some none
 cl:findIn K (.ref C) "__class__"=some (some (.builtin "object.__class__"))
 gt:specialIn K (.builtin "object.__class__") "__get__"=some (some (.builtin "getset_descriptor.__get__"))
 tk:takesIn K (.builtin "object.__class__")=some true
 ob:mroIn K C (.type "object")=some true
 bx:mroIn K C (.type "BaseException")=some true
 ci:(clsIn K C).isSome=true
theorem mZ{M:Model}{h:Heap}(X:K.In h){self:Value}{name:Str}{a g:Value}(ha:findIn K (.ref C) name=some (some a))(hg:specialIn K a "__get__"=some (some g))(ht:takesIn K a=some true):Looks M h (find self (.ref C) name) (.bind g a):=by have L1:=looks_findIn (M:=M) X ha;have L2:Looks M h (getOf (some a)) (some g):=looks_specialIn X hg;have L3:=looks_takesIn (M:=M) X ht;exact L1.andThen (L2.andThen ((show Looks M h (dataDescriptor? (some a) (some g)) (some (g,a))from L3.andThen .now).andThen (Looks.tag .now)))
theorem AX{M:Model}{nameV:Value}{Q:Unit->Shared->Prop}(L0:Looks M s.heap (typeOf (.ref x)) (.ref C))(L3:Looks M s.heap (isSubtype (.ref C) (.type "BaseException")) true)(hq:Q () s):wpAny M A (checkBuiltinCall "BaseException.__getattribute__" ⟨[.ref x,nameV],[]⟩) Q E s:=by
 have hk:builtinKind "BaseException.__getattribute__"=some .slot:=by decide+kernel
 have hsplit:splitId "BaseException.__getattribute__"=some ("BaseException","__getattribute__"):=by decide+kernel
 have ha:=F.args_bexc_ga (.ref x) nameV;obtain⟨hh,g,d,t,os⟩:=s;simp only[checkBuiltinCall,hk,hsplit];refine ff ?_
 ·unfold isInstance
  repeat (first | lk | wp_step)
  exact hq
theorem AY{Q:Fin->Shared->Prop}{tk:Tok}(X:K.In s.heap)(R:vv K C)(L0:Looks (model prog w) s.heap (typeOf (.ref x)) (.ref C))(hq:Q (.done (.ret (.ref C))) s):wpAny (model prog w) A (Builtin.«object.__getattribute__» ⟨[.ref x,.str "__class__" tk],[]⟩) Q E s:=by
 have L4:=mZ (M:=model prog w) X (self:=.ref x) R.cl R.gt R.tk;have hc:=fun(R':Result->Shared->Prop) (h:R' (.ok (.ret (.ref C))) s)=>xO (prog:=prog) (w:=w) (A:=A) (tp:=.ref C) X L0 R.ob h;unfold Builtin.«object.__getattribute__»;refine ff (fg (ff (fg (ff (L0.here (ff (L4.here ?_)))))));show wpAny _ _ (bindTo _ _ _ _) _ _ _;unfold bindTo;dsimp only
 first
  | exact ff (wpAny_holding (wpAny_call (hc _ (fg hq))))
  | exact ff (wpAny_call (hc _ (fg hq)))
  | exact ff (ff (wpAny_holding (wpAny_call (hc _ (fg hq)))))
theorem AZ{Q:Option Value->Shared->Prop}{Bn:String}(FB:ExcAttrFacts Bn)(X:K.In s.heap)(R:vv K C)(L0:Looks (model prog w) s.heap (typeOf (.ref x)) (.ref C))(h:Q (some (.ref C)) {s with toks:=s.toks+1}):wpAny (model prog w) A (getAttr? (.ref x) "__class__") Q E s:=by
 obtain⟨hh,g,d,t,os⟩:=s;have L1:=looks_findIn (M:=model prog w) X R.ga;have L2:=looks_findIn (M:=model prog w) X R.gh;have L3:=looks_mroIn (M:=model prog w) X R.bx;have L4:=mZ (M:=model prog w) X (self:=.ref x) R.cl R.gt R.tk;have hk:builtinKind "BaseException.__getattribute__"=some .slot:=by decide+kernel
 have hsplit:splitId "BaseException.__getattribute__"=some ("BaseException","__getattribute__"):=by decide+kernel
 unfold getAttr? getAttrBy? getAttrBy;refine ff (wpAny_mkText (ff (wpAny_attempt (wpAny_holding (ff (L0.at (ff (L1.at ?_))))))));show wpAny _ _ (getAttrByItsOwn _ _ _ _ _ _) _ _ _;unfold getAttrByItsOwn hookBefore;rw[if_pos (show onTheHeap (Value.ref C)=true from rfl)];refine ff (L2.at (ff (wpAny_attempt (wpAny_holding ?_))));unfold callGetattribute;rw[if_neg (show ¬(false&&onTheHeap (Value.builtin "BaseException.__getattribute__"))=true from by decide)];unfold boundAndCalled;rw[FB.ga.bind (.ref x)];refine ff (fg (wpAny_call ?_));refine codeAny_call_builtin FB.ga.plain F.entry_bexc_ga ?_;refine AX L0 L3 (AY X R L0 ?_);exact fg (fg h)
end
open PySem PySem.W PySem.Spec PySem.Calls PyProof.Rows
theorem Dn{K:i8}{C ea:Addr}{Bn:String}(R:vv K C)(FB:ExcAttrFacts Bn):KitX K (.ref ea) (.ref C) (fun h=>∃o,h.get? ea=some o/\o.cls=.ref C) where
 ty:=fun M h _ ⟨o,h1,h2⟩=>h2▸(Looks.ld h1).andThen .now
 it:=fun _ _ X _=>by
  obtain⟨cdD,hcD⟩:=Option.isSome_iff_exists.mp R.ci;unfold clsIn at hcD;split at hcD
  ·rename_i c' d' cd' sl' ho;intro A' Q' E' s' k q;unfold isType loadHead;exact ff (wpAny_loadPart (k _ _ (X _ _ ho)) (fg q))
  ·cases hcD
 ne:=fun h tp dd its n sl X htp=>by
  obtain⟨cdD,hcD⟩:=Option.isSome_iff_exists.mp R.ci;refine Bool.eq_false_iff.mpr fun q=>?_;have e:C=tp:=Value.ref.inj (beq_iff_eq.mp q);subst e;unfold clsIn at hcD;split at hcD
  ·rename_i c' d' cd' sl' ho;have z:=(X _ _ ho).symm.trans htp;cases z
  ·cases hcD
 ca:=fun X p k=>by obtain⟨o,h1,h2⟩:=p;exact AZ FB X R (h2▸(Looks.ld h1).andThen .now) k
section
variable {X:Cx}{C:Addr}{Bn:String}
def xP(h:Heap)(e:Addr)(od:Option Addr):Prop:=∃o,h.get? e=some o/\o.dict=od
theorem pM(o:Obj)(f:Array Value->Array Value):(Obj.mapFields f o).dict=o.dict:=by unfold Obj.mapFields;split<;>rfl
variable {M:Model}{A:Around}{XE:Value->Shared->Prop}{s:Shared}{B:Heap}{env:Env}{outer l:List Env}{L e:Addr}{cls a0 fl:Value}{od:Option Addr}{Q:Unit->Shared->Prop}
theorem rV{h:Heap}{e b:Addr}{oe o:Obj}{vs:Array Value}(he:h.get? e=some oe)(hd:oe.data=.fields vs)(hb:h.get? b=some o)(n:∀vs,o.data≠.fields vs):b≠e:=fun z=>by subst z;cases he.symm.trans hb;exact n vs hd
theorem Dp{oe:Obj}{vs:Array Value}{head:Value}{hn:Bool}(fr:A.frames=some (env::outer))(fu:s.heap.FunFrames B (env::outer))(hf:env.frame=some L)(he:s.heap.get? e=some oe)(st:B.StaysIn s.heap)(ne:B.get? e=none)
  (hd:oe.data=.fields vs) (sz:1<vs.size) (h0:vs[0]? =some a0) (k:∀h',Heap.NotedW B (env::outer) e oe.cls a0 (rawInt L) s.heap h'->xP h' e oe.dict->Q () {s with heap:=h'}):
  wpAny M A (do
   let a <-frameOf env
   let pl <-entryPlaceOf L hn
   let b <-EntryCells.newEntry head a .none (rawInt L) .none pl
   setField (.ref e) 1 b) Q XE s:=by
 have nf:e∉frs (env::outer):=fun z=>by obtain⟨_,o,ho,n⟩:=fu.mem z;cases he.symm.trans ho;exact n vs hd
 refine ff (wpAny_frameOf_fun fr fu hf fun g kg=>?_);have e1:g.get? e=some oe:=(kg.2.1 e nf).trans he;have key:∀(tb:Obj) (ts:Array Value),tb.data=.fields ts->ts[3]? =some (rawInt L)->wpAny M A (setField (.ref e) 1 (.ref g.objs.size)) Q XE {s with heap:=g.push tb}:=fun tb ts td t3=>by
  have e2:=gs tb e1;have nT:g.objs.size≠e:=Nat.ne_of_gt (ii e1);have d3:=Obj.data_mapFields hd (·.setIfInBounds 1 (Value.ref g.objs.size));have e3:=Heap.get?_update_self (Obj.mapFields (·.setIfInBounds 1 (Value.ref g.objs.size))) e2 (Obj.isFreed_of_fields d3);have hT:(g.push tb).get? g.objs.size=some tb:=gv g (Obj.isFreed_of_fields td);have hT3:=(Heap.get?_update_other (g.push tb) (Obj.mapFields (·.setIfInBounds 1 (Value.ref g.objs.size))) nT.symm).trans hT;have keep:∀b o,b≠e->g.get? b=some o->((g.push tb).update e (Obj.mapFields (·.setIfInBounds 1 (Value.ref g.objs.size)))).get? b=some o:=fun b o n hb=>(Heap.get?_update_other _ _ n.symm).trans (gs _ hb)
  have stg:B.StaysIn g:=fun b o hb=>(kg.2.1 b fun z=>by
   have:=(fu.mem z).1;rw[hb]at this
   cases this).trans (st b o hb)
  refine wpAny_setField e2 hd sz (k _ ⟨fun b o hb=>keep b o (fun z=>by rw[z,ne]at hb;cases hb) (stg b o hb),fu.of_keeps fun b o hb n=>?_,?_,fun b o hb n=>?_⟩ ⟨_,e3,pM _ _⟩)
  ·obtain⟨sl,hs⟩:=kg.2.2 b o hb;exact⟨_,keep b _ (rV he hd hb n) hs,rfl⟩
  ·exact⟨_,_,g.objs.size,_,_,e3,⟨Obj.cls_mapFields _ _,by rw[Array.getElem?_setIfInBounds_ne (by decide)];exact h0⟩,d3,by simp[sz],stg.fresh,nT,hT3,td,t3⟩
  ·obtain⟨sl,hs⟩:=kg.2.2 b o hb;exact⟨sl,keep b _ (rV he hd hb n) hs⟩
 refine ff (wpAny_entryPlaceOf fun pl hp=>?_);unfold EntryCells.newEntry newFields;refine ff (wpAny_newObj_type ?_ (hp.sizeOk5 _ _ _ _ _));exact key _ _ rfl (by first | (simp;done) | (rcases hp with rfl | ⟨_,_,_,_,_,_,_,rfl⟩<;>simp))
theorem xQ{oe:Obj}{vs:Array Value}(fr:A.frames=some (env::outer))(fu:s.heap.FunFrames B (env::outer))(hf:env.frame=some L)(he:s.heap.get? e=some oe)(st:B.StaysIn s.heap)(ne:B.get? e=none)
  (hd:oe.data=.fields vs) (h1:vs[1]? =some .none) (h0:vs[0]? =some a0) (k:∀h',Heap.NotedW B (env::outer) e oe.cls a0 (rawInt L) s.heap h'->xP h' e oe.dict->Q () {s with heap:=h'}):
  wpAny M A (noteFrame (.ref e) env) Q XE s:=by
 unfold noteFrame;simp only[hf];refine ff (wpAny_field he hd h1 ?_);rw[if_neg (by decide)];exact Dp fr fu hf he st ne hd (Array.getElem?_eq_some_iff.mp h1).1 h0 k
theorem A0(fr:A.frames=some (env::outer))(hf:env.frame=some L)(fly:B.FlyingW (env::outer) e cls a0 s.heap)(dc:xP s.heap e od)
  (k:∀h',Heap.NotedW B (env::outer) e cls a0 (rawInt L) s.heap h'->xP h' e od->Q () {s with heap:=h'}):wpAny M A (noteFrame (.ref e) env) Q XE s:=by
 obtain⟨st,ne,fu,oe,vs,T,oT,ts,he,⟨hc,h0⟩,hd,h1,nT,Te,hT,dT,h3⟩:=fly;subst hc;obtain⟨oe',he',hod⟩:=dc;cases he.symm.trans he';subst hod;unfold noteFrame;simp only[hf];refine ff (wpAny_field he hd h1 ?_);rw[if_pos (by simp)];refine ff (wpAny_field hT dT h3 ?_);rw[if_neg (by simp[rawInt])];refine ff (wpAny_setField hT dT (Array.getElem?_eq_some_iff.mp h3).1 ?_);have oth:∀b,b≠T->(s.heap.update T (Obj.mapFields (·.setIfInBounds 3 Value.none))).get? b=s.heap.get? b:=fun b n=>Heap.get?_update_other _ _ n.symm
 refine Dp fr (fu.of_keeps fun b o hb n=>⟨o,(oth b (rV hT dT hb n)).trans hb,rfl⟩) hf ((oth e Te.symm).trans he) (fun b o hb=>(oth b fun z=>by
  rw[z,nT]at hb
  cases hb).trans (st b o hb)) ne hd (Array.getElem?_eq_some_iff.mp h1).1 h0 fun h' q q2=>k h' ⟨q.1,q.2.1,q.2.2.1,fun b o hb n=>q.2.2.2 b o ((oth b (rV hT dT hb n)).trans hb) n⟩ q2
theorem tj(st:B.StaysIn s.heap)(fu:s.heap.FunFrames B l)(tr:s.heap.TracedAtW B e cls a0 fl)(dc:xP s.heap e od)
  (k:∀h',B.StaysIn h'->h'.FunFrames B l->h'.TracedW B e cls a0->(∀b o,s.heap.get? b=some o->(∀vs,o.data≠.fields vs)->h'.get? b=some o)->xP h' e od->Q () {s with heap:=h'}):wpAny M A (setFlight (.ref e) none) Q XE s:=by
 obtain⟨oe,vs,T,oT,ts,he,hc,hd,h1,nT,Te,hT,dT,h3⟩:=tr;obtain⟨oe',he',hod⟩:=dc;cases he.symm.trans he';have sz:3<ts.size:=(Array.getElem?_eq_some_iff.mp h3).1;have oth:∀b,b≠T->(s.heap.update T (Obj.mapFields (·.setIfInBounds 3 ((none:Option Addr).elim Value.none fun f=>rawInt f)))).get? b=s.heap.get? b:=fun b n=>Heap.get?_update_other _ _ n.symm;unfold setFlight;refine ff (wpAny_field he hd h1 ?_);rw[if_pos (by simp)]
 refine wpAny_setField hT dT sz (k _ (fun b o hb=>(oth b fun z=>by
  rw[z,nT]at hb
  cases hb).trans (st b o hb)) (fu.of_keeps fun b o hb n=>⟨o,(oth b (rV hT dT hb n)).trans hb,rfl⟩) ?_ (fun b o hb n=>(oth b (rV hT dT hb n)).trans hb) ⟨oe,(oth e Te.symm).trans he,hod⟩)
 exact⟨oe,vs,T,_,_,(oth e Te.symm).trans he,hc,hd,h1,nT,Te,Heap.get?_update_self _ hT (Obj.isFreed_of_fields (Obj.data_mapFields dT _)),Obj.data_mapFields dT _,by simp[sz]⟩
theorem Hh{oe:Obj}{vs:Array Value}(fr:A.frames=some (env::outer))(fu:s.heap.FunFrames B (env::outer))(hf:env.frame=some L)(he:s.heap.get? e=some oe)(st:B.StaysIn s.heap)(ne:B.get? e=none)
  (hd:oe.data=.fields vs) (h1:vs[1]? =some .none) (h0:vs[0]? =some a0) (k:∀h',B.FlyingW outer e oe.cls a0 h'->s.heap.UpToSlots h'->xP h' e oe.dict->Q () {s with heap:=h'}):wpAny M A (leaving env (.ref e)) Q XE s:=by
 unfold leaving;refine ff (xQ fr fu hf he st ne hd h1 h0 fun h1 q dc=>?_);exact tj (s:={s with heap:=h1}) q.1 q.2.1 q.2.2.1 dc fun h2 a b c d Qr=>k h2 ⟨a,ne,b.2.2,c⟩ (Heap.UpToSlots.trans q.2.2.2 fun b o hb n=>⟨o.slots,d b o hb n⟩) Qr
theorem LC(fr:A.frames=some (env::outer))(hf:env.frame=some L)(fly:B.FlyingW (env::outer) e cls a0 s.heap)(dc:xP s.heap e od)
  (k:∀h',B.HeldW (env::outer) e cls a0 L h'->s.heap.UpToSlots h'->xP h' e od->Q () {s with heap:=h'}):wpAny M A (noteFrame (.ref e) env) Q XE s :=
 A0 fr hf fly dc fun h1 q dc=>k h1 ⟨q.1,fly.2.1,q.2.1,q.2.2.1⟩ q.2.2.2 dc
theorem LD(h:B.HeldW l e cls a0 L s.heap)(dc:xP s.heap e od)(k:∀h',B.FlyingW l e cls a0 h'->s.heap.UpToSlots h'->xP h' e od->Q () {s with heap:=h'}):wpAny M A (setFlight (.ref e) none) Q XE s :=
 tj h.1 h.2.2.1 h.2.2.2 dc fun h2 a b c d Qr=>k h2 ⟨a,h.2.1,b,c⟩ (fun b o hb n=>⟨o.slots,d b o hb n⟩) Qr
theorem LG(h:B.FlyingW l e cls a0 s.heap)(dc:xP s.heap e od)(k:∀h',B.FlyingW l e cls a0 h'->s.heap.UpToSlots h'->xP h' e od->Q () {s with heap:=h'}):wpAny M A (setFlight (.ref e) none) Q XE s :=
 tj h.1 h.2.2.1 h.2.2.2.at dc fun h2 a b c d Qr=>k h2 ⟨a,h.2.1,b,c⟩ (fun b o hb n=>⟨o.slots,d b o hb n⟩) Qr
end
abbrev Qs:List Value:=[.type "ValueError",.type "Exception",.type "BaseException",.type "object"]
section
variable {K:i8}{C R fI:Addr}{h:Heap}
variable {prog:Program}{w:World}{A:Around}{XE:Value->Shared->Prop}{s:Shared}
variable {X:Cx}{x:Str}{e v2:Expr}{es:List Expr}{t:TA}{te:TE}{np apos pos p1 p2 p3:Pos}{cc:Str}{j:Nat}
end
def Hi(P:Program)(w:World):AA:=fun outer H s E e s'=>∃(ea:Addr) (cls a0:Value) (od:Option Addr) (H':Hp) (B:Heap),e=.ref ea/\B.FlyingW outer ea cls a0 s'.heap/\xP s'.heap ea od/\
 (∀b o,s.heap.get? b=some o->b∉frs outer->∃o',B.get? b=some o')/\(∀b o,H' b=some o->∃o',B.get? b=some o')/\
 s'.os=s.os/\AllBare s'.gens/\Un (frs outer) [] H H' s.heap s'.heap/\iT P w H' s'.heap/\E cls od H'
section
variable {X:Cx}{C R f:Addr}{fd:fo}{k:Nat}
end
section
variable {P:Program}{w:World}{K:i8}{mg:Str->Option Value}{base:Heap}{N:List Str}{qual:Str}{scope:Scope}{f:Addr}{cd:Value}{A:Around}{outer:List Env}{s₀:Shared}{H₀:Hp}{E:XK}
def xR(ea:Addr)(cls:Value)(od:Option Addr):HO:=.ext fun h=>∃o,h.get? ea=some o/\o.cls=cls/\notCls o=true/\o.dict=od
variable {X:Cx}{kb:List (Addr×Obj)}{σ:St}{H:Hp}{s:Shared}
theorem Inv.LH{ea:Addr}{cls:Value}{od:Option Addr}(I:Inv X kb σ H s)(hn:H ea=none)(hs₀:X.s₀.heap.get? ea=none)(hne:ea≠X.env.locals)(hc:∀x c,X.env.cells.lookup x=some c->c≠ea)(hp:∀p∈X.pn++kb,p.1≠ea)(ho:∃o,s.heap.get? ea=some o/\o.cls=cls/\notCls o=true/\o.dict=od):
  Inv X kb σ (upd H ea (xR ea cls od)) s:=by
 have ne:∀{b},b≠ea->upd H ea (xR ea cls od) b=H b:=fun h=>aw h;have old:∀{b o},X.s₀.heap.get? b=some o->b≠ea:=fun {b o} h z=>by rw[z,hs₀]at h;cases h
 refine⟨I.ok,I.os,I.bare,⟨I.base.keep,I.base.slot,fun b o e n hx=>?_,I.base.there,fun b xs e=>?_,fun b o u e=>?_,fun b ps e=>?_⟩,I.loc,I.cell,?_,fun x c e=>?_,fun p hp'=>?_,fun b o e=>?_,I.len⟩
 ·rw[ne (old e)];exact I.base.free b o e n hx
 ·have:=I.base.tups b xs e;rw[ne (bt this hn)];exact this
 ·have:=I.base.jS b o u e;rw[ne (bt this hn)];exact this
 ·obtain⟨more,this⟩:=I.base.ly b ps e;exact⟨more,by rw[ne (bt this hn)];exact this⟩
 ·rw[ne hne.symm];exact I.free
 ·rw[ne (hc x c e)];exact I.e9 x c e
 ·obtain⟨a1,a2,a3⟩:=I.pin p hp';exact⟨a1,by rw[ne (hp p hp')];exact a2,a3⟩
 ·by_cases hb:b=ea
  ·subst hb;rw[ah]at e;cases e;obtain⟨o,h1,h2⟩:=ho;exact⟨⟨o,h1,h2⟩,⟨o,h1⟩,fun h1 h2 ⟨o,a,b⟩ k=>⟨o,k o a,b⟩⟩
  ·rw[ne hb]at e;exact(I.hok b o e).stay (fun c u _ q=>q) (fun c q=>by rw[ne (bt q hn)];exact q) (fun c xs q=>by rw[ne (bt q hn)];exact q)
theorem Hj{H:Hp}{s s':Shared}{e:Value}{E:XK}{L:Addr}{hs:List ExceptHandler}{Q:Flow->Shared->Prop}{XE:Value->Shared->Prop}(I:Inv X kb σ H s)(hst:X.stack=X.env::X.outer)(hL:X.env.frame=some L)(cx:Hi X.prog X.w X.stack H s E e s')
  (k:∀(ea:Addr) (cls a0:Value) (od:Option Addr) (H':Hp) (B:Heap) (s2:Shared),e=.ref ea->E cls od H'->xP s2.heap ea od->Inv X kb σ H' s2->B.FlyingW X.stack ea cls a0 s2.heap->(∀b o,H' b=some o->∃o',B.get? b=some o')->(∀b o,s.heap.get? b=some o->b∉frs X.stack->∃o',B.get? b=some o')->
   (∀h6,B.FlyingW X.stack ea cls a0 h6->s2.heap.UpToSlots h6->Inv X kb σ H' {s2 with heap:=h6})->wpAny (model X.prog X.w) X.A (handleBy e X.env hs) Q XE s2):
  wpAny (model X.prog X.w) X.A (noteFrame e X.env) (fun _ s2=>wpAny (model X.prog X.w) X.A (setFlight e none) (fun _ s3=>wpAny (model X.prog X.w) X.A (handleBy e X.env hs) Q XE s3) XE s2) XE s':=by
 obtain⟨ea,cls,a0,od,H',B,rfl,fly,dc,hB,hH,os,bare,un,hok,hE⟩:=cx;obtain⟨T,be,bT,VB⟩:=Dm fly;have Dq:=VB;rw[hst]at Dq;have apart:∀{b o},B.get? b=some o->b∉frs X.stack->b∉frs X.stack++ [ea,T]:=fun {b o} hb nf hx=>by
  rcases List.mem_append.mp hx with h | h
  ·exact nf h
  ·rcases(show b=ea\/b=T by simpa using h)with rfl | rfl
   ·rw[be]at hb;cases hb
   ·rw[bT]at hb;cases hb
 have fr':∀b∈frs X.stack,H' b=none:=fun b hb=>by obtain⟨_,o,ho,_⟩:=I.stack.mem hb;exact un.free b o ho (I.ke b hb) (by simp)
 refine LC (B:=less s'.heap (frs (X.env::X.outer)++ [ea,T])) (by rw[I.ok.frames,hst]) hL (by rw[<-hst]at Dq ⊢;exact Dq) dc fun h4 Qt up4 dc4=>?_;refine LD (s:={s' with heap:=h4}) Qt dc4 fun h5 Dr up5 dc5=>?_;have up:=up4.trans up5;rw[<-hst]at Dr;have kH:∀{b o},H' b=some o->b∉frs X.stack++ [ea,T]:=fun {b o} hb=>by obtain⟨o',h1⟩:=hH b o hb;exact apart h1 fun z=>by rw[fr' b z]at hb;cases hb
 have inv:∀h5,(less s'.heap (frs X.stack++ [ea,T])).FlyingW X.stack ea cls a0 h5->s'.heap.UpToSlots h5->Inv X kb σ H' {s' with heap:=h5}:=fun h5 Dr up=>by
  have stay:∀{b u},b∉frs X.stack++ [ea,T]->s'.heap.get? b=some u->h5.get? b=some u:=fun {b u} hb hu=>Dr.1 b u (by rw[gg hb];exact hu);have up1:∀b o,s'.heap.get? b=some o->b∈frs X.stack->∃sl,h5.get? b=some {o with slots:=sl}:=fun b o ho hb=>by obtain⟨_,o2,e2,nf⟩:=fly.2.2.1.mem hb;rw[ho]at e2;cases e2;exact up b o ho nf
  have un5:Un (frs X.stack) [] H H' s.heap h5:=by
   refine⟨fun b o e n nf nx=>?_,fun b o e n hb nx=>?_,un.free,fun b o e nx=>?_,un.tups,un.jS,un.ly⟩
   ·obtain⟨o',hb⟩:=hB b o e nf;exact stay (apart hb nf) (un.keep b o e n nf nx)
   ·obtain⟨sl,e1⟩:=un.slot b o e n hb nx;obtain⟨sl',e2⟩:=up1 b _ e1 hb;exact⟨sl',e2⟩
   ·obtain⟨o',e1⟩:=un.there b o e nx;by_cases hb:b∈frs X.stack
    ·obtain⟨sl',e2⟩:=up1 b _ e1 hb;exact⟨_,e2⟩
    ·obtain⟨o2,h2⟩:=hB b o e hb;exact⟨o',stay (apart h2 hb) e1⟩
  have VC:iT X.prog X.w H' h5:=fun a o e=>(hok a o e).stay (fun b u hc q=>by
   rcases hc with rfl | hc
   ·exact stay (kH e) q
   ·exact stay (kH hc) q) (fun _ q=>q) fun _ _ q=>q
  exact I.call' (s':={s' with heap:=h5}) (ch:=[]) os un5 VC bare (fun b z=>absurd z (by simp))
 refine k ea cls a0 od H' (less s'.heap (frs X.stack++ [ea,T])) _ rfl hE dc5 (inv h5 Dr up) Dr (fun b o hb=>?_) (fun b o hb nf=>?_) (fun h6 f6 u6=>inv h6 f6 (up.trans u6))
 ·obtain⟨u,hu⟩:=(hok b o hb).some_;exact⟨u,by rw[gg (kH hb)];exact hu⟩
 ·obtain⟨o2,h2⟩:=hB b o hb nf;obtain⟨o',e1⟩:=un.there b o hb (by simp);exact⟨o',by rw[gg (apart h2 nf)];exact e1⟩
def Qu(K:i8)(sp:Sp)(jv:List V)(t:TA)(i:Nat)(cR:Value)(ts:TS):TS:=fun D σ H=>t σ H fun vs H1=>
 sp (vs++jv) H1 (fun _ H2=>D.nx σ H2) fun cls od H2=>exmOne K cls cR=some true/\∀ea,H2 ea=none->ts (D.less i) (σ.set i (some (.ref ea))) (upd H2 ea (xR ea cls od))
variable {k:Nat}{cR:Addr}{fd:fo}{ps:List Str}{sp:Sp}{jv:List V}{ds:List Value}{x g n:Str}{np gp pos p2 p3 p4:Pos}{a:Expr}{as:List Expr}{t:TA}{ts:TS}{i:Nat}{b₀:Stmt}{suite:List Stmt}{L:Addr}
theorem Hk{kb:List (Addr×Obj)}{σ:St}{H:Hp}{s:Shared}{Q:VK}{E:XK}{us:List Value}{vs:List V}{XE:Value->Shared->Prop}(F:aL X.prog X.w X.K X.mg X.base (Hi X.prog X.w) k f fd ps sp)(hr:dS k X.A)(hb:Binds X.K fd ps ds)(hd:Vals jv ds)
  (I:Inv X kb σ H s) (r:Vals vs us) (h:sp (vs++jv) H Q E) (hx:∀e s',Hi X.prog X.w X.stack H s E e s'->XE e s'):wpAny (model X.prog X.w) X.A (call (.ref f) us) (EP X kb σ Q) XE s:=by
 have r2:Vals (vs++jv) (us++ds):=r.append hd;have hl:(us++ds).length=ps.length:=by rw[<-r2.length];exact F.len _ _ _ _ h
 refine wpAny_call (codeAny_mono (F.run X.A X.stack s H ⟨us,[]⟩ (us++ds) (vs++jv) Q E hr I.env0 (hb s us I.jF hl) r2 h) fun r s' hq=>?_);cases r with
 | error e=>exact hx e s' hq
 | ok fl=>
  cases fl with
  | ret u=>exact I.after hq
  | next=>exact False.elim hq
  | brk=>exact False.elim hq
  | cont=>exact False.elim hq
theorem Hl{hs2:List ExceptHandler}(ha:PA X.uY (a::as) t)(hgg:Gl X g)(VD:X.mg g=some (.ref f))(kp:keepIn X.K (.ref f)=true)(F:aL X.prog X.w X.K X.mg X.base (Hi X.prog X.w) k f fd ps sp)(hr:dS k X.A)(hb:Binds X.K fd ps ds)(hd:Vals jv ds)
  (hst:X.stack=X.env::X.outer) (hL:X.env.frame=some L) (hLl:X.env.locals=L) (hex:X.ex=[]) (hg:Gl X x) (hmg:X.mg x=some (.ref cR)) (hN:X.N.Nodup) (hi:X.N[i]? =some n) (hn:X.env.kindOf n=some .local)
  (hs:∀ea,qO (X.tf ea) (b₀::suite) ts) (hdg:(g==("__debug__": Str))=false:=by decide)
  (he:starEach (a::as) X.env=(false,eval a X.env)::starEach as X.env:=by rfl) (hpl:(backTo pos (starEach as X.env)).any (·.1)=false:=by rfl)
  (hsw:swapsWith (.Call (.Name g gp) (a::as) [] pos) none p2.line X.env=pure false:=by rfl) (hdb:(x==("__debug__": Str))=false:=by decide):
  PS X (.Try [.Expr (.Call (.Name g gp) (a::as) [] pos) p2] (.ExceptHandler (some (.Name x np)) (some n) (b₀::suite) p3::hs2) [] [] p4) (Qu X.K sp jv t i (.ref cR) ts):=by
 intro kb s σ H D I h;refine wpAny_Try_except (wpAny_execs_cons (wpAny_Expr_any (?_) I.quiet hsw));refine wpAny_Call_Name_kw (il I hgg VD (callWith_K (h₀:=X.base) I.ok.mod.KP kp (ge (ha pos kb s σ H _ (I.wish _) h) (fun us s1 hu=>?_) fun _ _ z=>False.elim z) he hpl) hdg);obtain⟨vs,H1,I1',r,q⟩:=hu;have I1:Inv X kb σ H1 s1:=I1'.gJ;refine⟨I1.jF,?_⟩;refine ge (Hk F hr hb hd I1 r q fun e s' cx=>?_) (fun v s2 hv=>?_) fun e s' hx=>hx
 ·
  refine Hj I1 hst hL cx fun ex cls a0 od H' B s2 ee hE dc I2 fly hH hB again=>?_;subst ee;obtain⟨hcls,hsuite⟩:=hE;obtain⟨oe,vs,T,oT,tss,g1,g2,g3,g4,g5,g6,g7,g8,g9⟩:=fly.2.2.2;have nfr:ex∉frs X.stack:=fun z=>by obtain⟨_,o2,e2,nf⟩:=fly.2.2.1.mem z;rw[g1]at e2;cases e2;exact nf _ g3
  have apart:∀{b o},s1.heap.get? b=some o->b≠ex:=fun {b o} hb z=>by subst z;obtain⟨o',h'⟩:=hB b o hb nfr;rw[fly.2.1]at h';cases h'
  have hnone:H' ex=none:=by
   cases e:H' ex with
   | none=>rfl
   | some o'=>
    obtain⟨o2,h2⟩:=hH ex o' e;rw[fly.2.1]at h2;cases h2
  have IS:=I2.suite ex;refine wpAny_handleBy_cons (codeAny_handlers_test (il IS hg hmg ?_ hdb)) (by intro z;cases z);have LT:Looks (model X.prog X.w) s2.heap (typeOf (.ref ex)) cls:=by have this:Looks (model X.prog X.w) s2.heap (typeOf (.ref ex)) oe.cls:=(Looks.ld g1).andThen .now;rw[g2.1]at this;exact this
  refine(exm_one I2.jF LT hcls).here ?_;refine codeAny_handlers_suite_as (LG fly dc fun h6 Qv up6 dc6=>?_);have I6:=again h6 Qv up6;obtain⟨oe6,vs6,T6,oT6,O5,k1,k2,k3,_⟩:=Qv.2.2.2;obtain⟨oe7,k4,k5⟩:=dc6;cases k1.symm.trans k4
  have I7:=I6.LH (cls:=cls) (od:=od) hnone (by
   cases e:X.s₀.heap.get? ex with
   | none=>rfl
   | some o'=>
    obtain⟨o2,h2⟩:=I1.base.there ex o' e (by rw[hex];simp)
    exact absurd rfl (apart h2)) (fun z=>nfr (by
     rw[hst,z,hLl];unfold frs;rw[List.filterMap_cons,hL]
     simp)) (fun y c e=>by
    obtain⟨v,oc,hc,_⟩:=I1.cell y c e
    exact apart hc) (fun p hp=>apart (I1.pin p hp).1) ⟨oe6,k1,k2.1,by unfold notCls;rw[k3],k5⟩
  refine oX I7 hN hi (.inl hn) (v:=.ref ex) (u:=.ref ex) rfl (fun s8 I8=>?_) (.inr hn);refine ge (hs ex kb s8 _ _ _ (I8.suite ex) (hsuite ex hnone)) (fun fl s9 q9=>?_) fun _ _ z=>False.elim z;show wpAny _ _ _ _ _ _;cases fl with
  | next=>
   obtain⟨σ9,H9,I9,q⟩:=q9;exact jB (I9.oH I.ok) hN hi hn fun xF C9=>⟨_,H9,C9,q⟩
  | brk=>
   obtain⟨σ9,H9,I9,q⟩:=q9;exact jB (I9.oH I.ok) hN hi hn fun xF C9=>⟨_,H9,C9,q⟩
  | cont=>
   obtain⟨σ9,H9,I9,q⟩:=q9;exact jB (I9.oH I.ok) hN hi hn fun xF C9=>⟨_,H9,C9,q⟩
  | ret u=>
   obtain⟨v,σ9,H9,I9,r,q⟩:=q9;exact jB (I9.oH I.ok) hN hi hn fun xF C9=>⟨v,_,H9,C9,r,q⟩
 ·
  obtain⟨v',H2,I2,r2,q2⟩:=hv;exact wpAny_execs_nil (wpAny_execs_nil ⟨σ,H2,I2,q2⟩)
end
section
variable {X:Cx}{C R fI:Addr}{Bn:String}
def LI(K:i8)(C:Addr):List V->Hp->VK->Prop:=fun xs H Q=>∃(ea:Addr) (od:Option Addr) (c:V) (b:Bool),xs=[.ref ea,c]/\H ea=some (xR ea (.ref C) od)/\(∀cv,RelV c cv->kitOne K (.ref C) cv=some b)/\Q (.bl b) H
theorem vw(R:vv X.K C)(FB:ExcAttrFacts Bn):eA X (.builtin "isinstance") (LI X.K C):=by
 intro kb s σ H xs us Q I r h;obtain⟨ea,od,c,b,rfl,he,hk,q⟩:=h;cases r with
 | cons r1 r=>
  cases r with
  | cons r2 r=>
   cases r;cases r1;obtain⟨o,h1,h2,_⟩:=(I.hok ea _ he).1;exact kia_one (Dn (ea:=ea) R FB) I.jF ⟨o,h1,h2⟩ (hk _ r2) (by intro z;cases z) fun tk=>⟨.bl b,H,I.tok tk,rfl,q⟩
variable {k:Nat}{f cR:Addr}{fd:fo}{ps:List Str}{sp:Sp}{jv:List V}{ds:List Value}{x n:Str}{np p3 p4:Pos}{t:TA}{ts:TS}{i:Nat}{st b₀:Stmt}{suite:List Stmt}{L:Addr}{r:V->TS}
end
open PySem PySem.Spec PyProof.Rows
theorem Hm{f:Nat->Bool}:∀(bs:List Bool),(∀i b,bs[i]? =some b->f i=b)->(List.range bs.length).all f=bs.all id:=by
 intro bs h;rw[Bool.eq_iff_iff,List.all_eq_true,List.all_eq_true];constructor
 ·intro k b hb;obtain⟨i,hi,e⟩:=List.getElem_of_mem hb;have:=k i (List.mem_range.mpr hi);rw[h i b (by rw[aa hi,e])]at this;exact this
 ·intro k i hi;have hi:=List.mem_range.mp hi;rw[h i bs[i] (aa hi)];exact k _ (bn hi)
section
variable {X:Cx}
theorem Qw{bs:List Bool}{its:List Value}(rv:Vals (bs.map V.bl) its){i:Nat}{v:Value}(h:its.toArray[i]? =some v):∃b,bs[i]? =some b/\v=.bool b:=by
 have h:its[i]? =some v:=by simpa using h
 have hl:=rv.length;rw[List.length_map]at hl;have hi:i<bs.length:=by rw[hl];exact(ag.mp h).1
 obtain⟨u,hu,ru⟩:=rv.get (i:=i) (x:=V.bl bs[i]) (by rw[ac,aa hi];rfl);rw[h]at hu;cases hu;exact⟨bs[i],aa hi,ru⟩
theorem ei(hc:X.calm=true):eA X (.builtin "all") (fun xs H Q=>∃(a:Addr) (bs:List Bool),xs=[.ref a]/\aT X.K H a (bs.map V.bl)/\Q (.bl (bs.all id)) H):=by
 intro kb s σ H xs us Q I r h;obtain⟨a,bs,rfl,hq,q⟩:=h;obtain⟨u,rfl,ru⟩:=vals1 r;cases ru;obtain⟨its,rv,p,hz⟩:=I.list hq;have hl:=p.isList;have hlt:a<s.heap.objs.size:=by obtain⟨_,e,_⟩:=hl;exact ii e
 have hlen:=rv.length;rw[List.length_map]at hlen;refine call_all_walk (wpAny_pyIter_list hl ?_)
 refine⟨s.heap.objs.size,[s.heap.objs.size,a],[s.heap.objs.size],its.toArray.size,_,_,fun i=>(bs[i]?).getD true,rfl,Walks.list (A:=X.A.in1) (I.ok.hd hc) _ a (mi hlt) its.toArray,
  ⟨⟨_,gv _ rfl,rfl,rfl⟩,hl.push _⟩,fun i v s' Q' E' hP hQ=>?_,fun h' tk hk=>?_⟩
 ·obtain⟨b,e,rfl⟩:=Qw rv hP;simp only[e,Option.getD_some]at hQ;exact wpAny_truthy_bool hQ
 ·rw[am,<-hlen,Hm bs (fun i b e=>by rw[e];rfl)];exact⟨.bl _,H,I.kept (t':=tk) (fun b x e=>hk b x (fun hm=>by rw[bd.mp hm]at e;exact Nat.lt_irrefl _ (ii e)) (gs _ e)),rfl,q⟩
variable {prog:Program}{w:World}{A:Around}{E:Value->Shared->Prop}{s:Shared}
theorem vx{it t:Addr}{i:Nat}{els:Array Value}{x:Value}{Q:Value->Shared->Prop}(ti:s.heap.IsTupleIter it t i)(tt:s.heap.IsTuple t els)(gx:els[i]? =some x)
  (k:∀h',h'.IsTupleIter it t (i+1)->Heap.SameBut it s.heap h'->Q x {s with heap:=h'}):wpAny (model prog w) A (Builtin.SmallTypes.nextOf (.ref it)) Q E s:=by
 obtain⟨o,go,gc,gd⟩:=id ti;obtain⟨ol,VE,_,nl,VF⟩:=tt;unfold Builtin.SmallTypes.nextOf;refine ff (wpAny_callSpecial?_slot (name:=Str.ofString "__next__") ti.typeIs F.slot_tuple_iterator_next (gr F.slot_tuple_iterator_next ti.typeIs F.entry_tuple_iterator_next ?_ (F.args_tuple_iterator_next_1 _)));show wpAny _ _ (field (.ref it) 0>>=_) _ _ s;refine ff (wpAny_field go gd (x:=.ref t) rfl ?_);show wpAny _ _ (if (Value.ref t==Value.none)=true then _ else _) _ _ s;rw[if_neg (show ¬((Value.ref t==Value.none)=true)from mx)];show wpAny _ _ (field (.ref it) 1>>=_) _ _ s;refine ff (wpAny_field go gd (x:=.int i 0) rfl ?_);show wpAny _ _ (seqItems? (.ref t)>>=_) _ _ s;refine ff (wpAny_seqItems VE VF ?_);simp only[nn,gx];refine ff (wpAny_setField go gd (by simp) (fg ⟨x,rfl,fg (k _ ?_ (Heap.SameBut.update ..))⟩));exact⟨_,Heap.get?_update_self _ go (Obj.isFreed_of_fields (Obj.data_mapFields gd _)),(Obj.cls_mapFields ..).trans gc,by rw[Obj.data_mapFields gd];simp[rawInt]⟩
theorem Hn{it t:Addr}{i:Nat}{els:Array Value}{Q:Value->Shared->Prop}(hh:A.handled=none)(ti:s.heap.IsTupleIter it t i)(tt:s.heap.IsTuple t els)(gx:els[i]? =none)
  (k:∀h' e,Heap.ExtBut it s.heap h'->(∃o,h'.get? e=some o/\o.cls=.type "StopIteration")->E (.ref e) {s with heap:=h'}):wpAny (model prog w) A (Builtin.SmallTypes.nextOf (.ref it)) Q E s:=by
 obtain⟨o,go,gc,gd⟩:=id ti;obtain⟨ol,VE,_,nl,VF⟩:=tt;unfold Builtin.SmallTypes.nextOf;refine ff (wpAny_callSpecial?_slot (name:=Str.ofString "__next__") ti.typeIs F.slot_tuple_iterator_next (gr F.slot_tuple_iterator_next ti.typeIs F.entry_tuple_iterator_next ?_ (F.args_tuple_iterator_next_1 _)));show wpAny _ _ (field (.ref it) 0>>=_) _ _ s;refine ff (wpAny_field go gd (x:=.ref t) rfl ?_);show wpAny _ _ (if (Value.ref t==Value.none)=true then _ else _) _ _ s;rw[if_neg (show ¬((Value.ref t==Value.none)=true)from mx)];show wpAny _ _ (field (.ref it) 1>>=_) _ _ s;refine ff (wpAny_field go gd (x:=.int i 0) rfl ?_);show wpAny _ _ (seqItems? (.ref t)>>=_) _ _ s;refine ff (wpAny_seqItems VE VF ?_);simp only[nn,gx];refine ff (wpAny_rule (ff (wpAny_setField go gd (by simp) ?_)));show wpAny _ _ (newExc (.type "StopIteration") [] >>=_) _ _ _;refine ff ?_;simp only[newExc,newTuple];refine ff (wpAny_newObj_type ?_ (by size_fits));refine ff (m:=firstArgMember _ _) (wpAny_of_eq (a:=Value.none) (by first | rfl | (simp only[firstArgMember];rfl)) ?_);refine wpAny_newObj_type ?_ (by size_fits);simp only[raiseNew];refine ff (wpAny_handled ?_);(first | rw[show A.in1.handled=none from hh] | rw[hh]);refine ff (fg (wpAny_throw ?_));exact k _ _ (((Heap.SameBut.update ..).extBut.push _).push _) ⟨_,gv _ rfl,rfl⟩
theorem A1{z TI TO i1 i2 l1 l2:Addr}{k:Nat}{xs ys:Array Value}{x y a b:Value}{Q:Option Value->Shared->Prop}(D:ZipApart z TI TO i1 i2 l1 l2)
  (gz:IsZip s.heap z TI TO .none) (gI:IsPair s.heap TI (.ref i1) (.ref i2)) (gO:IsPair s.heap TO a b)
  (t1:s.heap.IsTupleIter i1 l1 k) (t2:s.heap.IsTupleIter i2 l2 k) (m1:s.heap.IsTuple l1 xs) (m2:s.heap.IsTuple l2 ys) (gx:xs[k]? =some x) (gy:ys[k]? =some y)
  (q:∀h',IsZip h' z TI TO (rawInt s.heap.objs.size)->IsPair h' TO x y->h'.IsTupleIter i1 l1 (k+1)->h'.IsTupleIter i2 l2 (k+1)->IsPair h' s.heap.objs.size x y->h'.objs.size=s.heap.objs.size+1->
   (∀c o,c≠z->c≠TO->c≠i1->c≠i2->s.heap.get? c=some o->h'.get? c=some o)->Q (some (.ref s.heap.objs.size)) {s with heap:=h'}):wpAny (model prog w) A (pyNext (.ref z)) Q E s:=by
 have hT:s.TypeIs (.ref z) "zip":=⟨_,gz,rfl⟩;unfold pyNext;refine ff (wpAny_attempt (wpAny_callSpecial?_slot (name:=Str.ofString "__next__") hT F.slot_zip_next (gr F.slot_zip_next hT F.entry_zip_next ?_ (F.args_zip_next_1 _))));show wpAny _ _ (field (.ref z) 2>>=_) _ _ _;refine ff (wpAny_field gz rfl (x:=.bool false) rfl ?_);show wpAny _ _ (field (.ref z) 3>>=_) _ _ _;refine ff (wpAny_field gz rfl (x:=.ref TI) rfl ?_);refine ff (wpAny_seqItems gI rfl ?_);show wpAny _ _ (Builtin.SmallTypes.ownedTupleIsFree (.ref z)>>=_) _ _ _;refine ff ?_;unfold Builtin.SmallTypes.ownedTupleIsFree;refine ff (wpAny_field gz rfl (x:=.none) rfl (fg ?_));simp only[if_true];refine ff (wpAny_rule ?_);refine ff (wpAny_field gz rfl (x:=.ref TO) rfl ?_);refine ff (wpAny_setField_rec gz (by simp) fun g1 z1 e1=>?_);replace z1:IsZip g1 z TI TO .ellipsis:=z1;refine ff ?_;simp only[List.zipIdx_cons,List.zipIdx_nil,List.forIn_cons,List.forIn_nil];refine ff (ff (wpAny_onRaise ?_));show wpAny _ _ (Builtin.SmallTypes.nextOf (.ref i1)>>=_) _ _ _;refine ff (vx (t1.extBut e1.extBut D.i1z) (m1.extBut e1.extBut D.l1z) gx fun g2 VG e2=>fg ?_);have o2:IsPair g2 TO a b:=e2.extBut _ _ D.TOi1 (e1.extBut _ _ D.TOz gO);refine ff (wpAny_seqItems o2 rfl ?_);refine ff (wpAny_updateSeq_pair o2 fun g3 o3 e3=>?_);replace o3:IsPair g3 TO x b:=o3;refine ff (wpAny_letGo (fg ?_));refine ff (ff (wpAny_onRaise ?_));show wpAny _ _ (Builtin.SmallTypes.nextOf (.ref i2)>>=_) _ _ _;refine ff (vx (((t2.extBut e1.extBut D.i2z).extBut e2.extBut D.i12.symm).extBut e3.extBut D.TOi2.symm) (((m2.extBut e1.extBut D.l2z).extBut e2.extBut D.l2i1).extBut e3.extBut D.l2TO) gy fun g4 VH e4=>fg ?_);have o4:IsPair g4 TO x b:=e4.extBut _ _ D.TOi2 o3;refine ff (wpAny_seqItems o4 rfl ?_);refine ff (wpAny_updateSeq_pair o4 fun g5 o5 e5=>?_);replace o5:IsPair g5 TO x y:=o5;refine ff (wpAny_letGo (fg (fg ?_)));refine ff (wpAny_seqItems o5 rfl ?_);refine ff (wpAny_newTuple ?_);have sz:g5.objs.size=s.heap.objs.size:=by rw[e5.1,e4.1,e3.1,e2.1,e1.1]
 have z5:IsZip g5 z TI TO .ellipsis:=e5.extBut _ _ D.TOz.symm (e4.extBut _ _ D.i2z.symm (e3.extBut _ _ D.TOz.symm (e2.extBut _ _ D.i1z.symm z1)));have kp:∀c o,c≠z->c≠TO->c≠i1->c≠i2->s.heap.get? c=some o->g5.get? c=some o:=fun c o c1 c2 c3 c4 e=>e5.extBut _ _ c2 (e4.extBut _ _ c4 (e3.extBut _ _ c2 (e2.extBut _ _ c3 (e1.extBut _ _ c1 e))));have u1:g5.IsTupleIter i1 l1 (k+1):=((VG.extBut e3.extBut D.TOi1.symm).extBut e4.extBut D.i12).extBut e5.extBut D.TOi1.symm;have u2:g5.IsTupleIter i2 l2 (k+1):=VH.extBut e5.extBut D.TOi2.symm;have zl:z<g5.objs.size:=ii z5;show wpAny _ _ (Builtin.SmallTypes.ownedTupleHandOut (.ref z) (.ref g5.objs.size)>>=_) _ _ _;refine ff ?_;unfold Builtin.SmallTypes.ownedTupleHandOut;have z6:IsZip (g5.push {cls:=.type "tuple",data:=.seq #[x,y]}) z TI TO .ellipsis:=gs _ z5;refine ff (wpAny_setField_rec z6 (by simp) fun g7 z7 e7=>?_);replace z7:IsZip g7 z TI TO (rawInt g5.objs.size):=z7;refine wpAny_setField_rec z7 (by simp) fun g8 z8 e8=>?_;replace z8:IsZip g8 z TI TO (rawInt g5.objs.size):=z8;have up:∀c o,c≠z->g5.get? c=some o->g8.get? c=some o:=fun c o c1 e=>e8.extBut _ _ c1 (e7.extBut _ _ c1 (gs _ e));have n8:IsPair g8 g5.objs.size x y:=e8.extBut _ _ (Nat.ne_of_gt zl) (e7.extBut _ _ (Nat.ne_of_gt zl) (gv _ rfl));have s8:g8.objs.size=g5.objs.size+1:=by rw[e8.1,e7.1,Heap.size_push]
 rw[sz]at z8 n8 s8;refine fg ⟨.ref g5.objs.size,rfl,fg ?_⟩;rw[sz];exact q g8 z8 (up _ _ D.TOz o5) (u1.at fun o e=>up _ o D.i1z e) (u2.at fun o e=>up _ o D.i2z e) n8 s8 fun c o c1 c2 c3 c4 e=>up c o c1 (kp c o c1 c2 c3 c4 e)
theorem Ds{z TI TO i1 i2 l1 l2:Addr}{k:Nat}{xs:Array Value}{Q:Option Value->Shared->Prop}(hh:A.handled=none)(D:ZipApart z TI TO i1 i2 l1 l2)
  (gz:IsZip s.heap z TI TO .none) (gI:IsPair s.heap TI (.ref i1) (.ref i2)) (t1:s.heap.IsTupleIter i1 l1 k) (m1:s.heap.IsTuple l1 xs) (gx:xs[k]? =none)
  (q:∀h',(∀c o,c≠z->c≠TO->c≠i1->c≠i2->s.heap.get? c=some o->h'.get? c=some o)->Q none {s with heap:=h'}):wpAny (model prog w) A (pyNext (.ref z)) Q E s:=by
 have hT:s.TypeIs (.ref z) "zip":=⟨_,gz,rfl⟩;unfold pyNext;refine ff (wpAny_attempt (wpAny_callSpecial?_slot (name:=Str.ofString "__next__") hT F.slot_zip_next (gr F.slot_zip_next hT F.entry_zip_next ?_ (F.args_zip_next_1 _))));show wpAny _ _ (field (.ref z) 2>>=_) _ _ _;refine ff (wpAny_field gz rfl (x:=.bool false) rfl ?_);show wpAny _ _ (field (.ref z) 3>>=_) _ _ _;refine ff (wpAny_field gz rfl (x:=.ref TI) rfl ?_);refine ff (wpAny_seqItems gI rfl ?_);show wpAny _ _ (Builtin.SmallTypes.ownedTupleIsFree (.ref z)>>=_) _ _ _;refine ff ?_;unfold Builtin.SmallTypes.ownedTupleIsFree;refine ff (wpAny_field gz rfl (x:=.none) rfl (fg ?_));simp only[if_true];refine ff (wpAny_rule ?_);refine ff (wpAny_field gz rfl (x:=.ref TO) rfl ?_);refine ff (wpAny_setField_rec gz (by simp) fun g1 z1 e1=>?_);replace z1:IsZip g1 z TI TO .ellipsis:=z1;refine ff ?_;simp only[List.zipIdx_cons,List.zipIdx_nil,List.forIn_cons,List.forIn_nil];refine ff (ff (wpAny_onRaise ?_));show wpAny _ _ (Builtin.SmallTypes.nextOf (.ref i1)>>=_) _ _ _;refine ff (Hn hh (t1.extBut e1.extBut D.i1z) (m1.extBut e1.extBut D.l1z) gx fun g2 e e2 he=>?_);obtain⟨oe,hoe,hce⟩:=he;have z2:IsZip g2 z TI TO .ellipsis:=e2 _ _ D.i1z.symm z1;have ne:e≠z:=fun x=>by subst x;rw[z2]at hoe;cases hoe;simp at hce
 refine wpAny_setField_rec z2 (by simp) fun g3 _ e3=>?_;refine ff (wpAny_isInstance (T :="StopIteration") (b:=true) ⟨oe,e3.extBut _ _ ne hoe,hce⟩ isSubtype_stop ?_);exact fg (q g3 fun c o c1 _ c3 _ x=>e3.extBut _ _ c1 (e2 _ _ c3 (e1.extBut _ _ c1 x)))
abbrev Uq(h:Heap)(a:Addr):Heap:=h.push {cls:=.type "tuple_iterator",data:=.fields #[.ref a,.int 0 0]}
abbrev Ur(h:Heap)(a b:Addr):Heap:=(Uq h a).push {cls:=.type "tuple_iterator",data:=.fields #[.ref b,.int 0 0]}
abbrev Us(h:Heap)(a b:Addr):Heap:=(Ur h a b).push {cls:=.type "tuple",data:=.seq #[.ref h.objs.size,.ref (Uq h a).objs.size]}
abbrev Ut(h:Heap)(a b:Addr):Heap:=(Us h a b).push {cls:=.type "tuple",data:=.seq #[.none,.none]}
abbrev O6(h:Heap)(a b:Addr):Heap:=(Ut h a b).push {cls:=.type "zip",data:=.fields #[.none,.bool false,.bool false,.ref (Ur h a b).objs.size,.ref (Us h a b).objs.size]}
theorem mzT(a b:Addr)(xs ys:Array Value):Meets (Builtin.«zip.__new__» ⟨[.type "zip",.ref a,.ref b],[]⟩) (fun _ R s=>s.heap.IsTuple a xs/\s.heap.IsTuple b ys/\R (.ok (.ret (.ref (Ut s.heap a b).objs.size))) {s with heap:=O6 s.heap a b}):=
 .of_wp fun prog w A R s h=>by
  obtain⟨hp,g,d,tk,os⟩:=s;obtain⟨m1,m2,h⟩:=h;have hsub:=sub_zip;have n1:Heap.IsTuple (Shared.heap ⟨hp,g,d,tk,os⟩) a xs:=m1;have n2:Heap.IsTuple (Shared.heap ⟨hp.push {cls:=.type "tuple_iterator",data:=.fields #[.ref a,.int 0 0]},g,d,tk,os⟩) b ys:=Heap.IsTuple.push m2 _
  wp_walk using wpAny_pyIter_tuple n1,wpAny_pyIter_tuple n2
  exact⟨_,rfl,h⟩
theorem A2{a b:Addr}{xs ys:Array Value}{Q:Value->Shared->Prop}(m1:s.heap.IsTuple a xs)(m2:s.heap.IsTuple b ys)
  (h:∀h',IsZip h' (s.heap.objs.size+4) (s.heap.objs.size+2) (s.heap.objs.size+3) .none->IsPair h' (s.heap.objs.size+2) (.ref s.heap.objs.size) (.ref (s.heap.objs.size+1))->
   IsPair h' (s.heap.objs.size+3) .none .none->h'.IsTupleIter s.heap.objs.size a 0->h'.IsTupleIter (s.heap.objs.size+1) b 0->(∀c o,s.heap.get? c=some o->h'.get? c=some o)->Q (.ref (s.heap.objs.size+4)) {s with heap:=h'}):
  wpAny (model prog w) A (call (.type "zip") [.ref a,.ref b]) Q E s:=by
 refine callType_new F.called_zip (by decide) (F.typeCall_zip_2 _ _) (F.newCall_zip_2 _ _) (fun obj=>F.args_object_init_3 obj _ _) F.entry_zip_new (mzT a b xs ys) ⟨m1,m2,?_⟩;have z1:(Uq s.heap a).objs.size=s.heap.objs.size+1:=Heap.size_push ..;have z2:(Ur s.heap a b).objs.size=s.heap.objs.size+2:=by rw[Heap.size_push,z1]
 have z3:(Us s.heap a b).objs.size=s.heap.objs.size+3:=by rw[Heap.size_push,z2]
 have z4:(Ut s.heap a b).objs.size=s.heap.objs.size+4:=by rw[Heap.size_push,z3]
 have g5:(O6 s.heap a b).get? (Ut s.heap a b).objs.size=some _:=gv _ rfl;have g4:(O6 s.heap a b).get? (Us s.heap a b).objs.size=some _:=gs _ (gv _ rfl);have g3:(O6 s.heap a b).get? (Ur s.heap a b).objs.size=some _:=gs _ (gs _ (gv _ rfl));have g2:(O6 s.heap a b).get? (Uq s.heap a).objs.size=some _:=gs _ (gs _ (gs _ (gv _ rfl)));have g1:(O6 s.heap a b).get? s.heap.objs.size=some _:=gs _ (gs _ (gs _ (gs _ (gv _ rfl))));show _/\_;rw[z2,z3,z4]at g5;rw[z1,z2]at g3;rw[z3]at g4;rw[z1]at g2;rw[z4];refine⟨⟨_,g5,rfl⟩,h _ g5 g3 g4 ⟨_,g1,rfl,rfl⟩ ⟨_,g2,rfl,rfl⟩ fun c o x=>?_⟩;exact gs _ (gs _ (gs _ (gs _ (gs _ x))))
def Qx(K:i8)(a b:Addr):It :=
 ⟨fun i H=>∃xs x ys y,bh K H a xs/\xs[i]? =some x/\bh K H b ys/\ys[i]? =some y,
   fun i H v H'=>∃t x y,H t=none/\v=.ref t/\H'=upd H t (.tup [x,y])/\(∀xs,bh K H a xs->xs[i]? =some x)/\∀ys,bh K H b ys->ys[i]? =some y,
   fun i H=>∃xs,bh K H a xs/\xs.length<=i⟩
theorem Dt{P:Program}{w:World}{K:i8}{elts:List Expr}{x1}{pos:Pos}(a b z TI TO i1 i2:Addr)(D:ZipApart z TI TO i1 i2 a b):
  Turn P w K (.Tuple elts x1 pos) (Qx K a b) [z,TI,TO,i1,i2] z (fun i h=>IsZip h z TI TO .none/\IsPair h TI (.ref i1) (.ref i2)/\(∃u v,IsPair h TO u v)/\h.IsTupleIter i1 a i/\h.IsTupleIter i2 b i) where
 mem:=by simp
 obj:=fun i h st c hc=>by
  obtain⟨s1,s2,⟨u,v,s3⟩,⟨o4,s4,_,d4⟩,⟨o5,s5,_,d5⟩⟩:=st;have hc':c=z\/c=TI\/c=TO\/c=i1\/c=i2:=by simpa using hc
  rcases hc' with rfl | rfl | rfl | rfl | rfl
  ·exact⟨_,s1,fun v q=>by have q':Data.fields _=Data.cell v:=q;cases q'⟩
  ·exact⟨_,s2,fun v q=>by have q':Data.seq _ _=Data.cell v:=q;cases q'⟩
  ·exact⟨_,s3,fun v q=>by have q':Data.seq _ _=Data.cell v:=q;cases q'⟩
  ·exact⟨o4,s4,fun v q=>by rw[d4]at q;cases q⟩
  ·exact⟨o5,s5,fun v q=>by rw[d5]at q;cases q⟩
 keep:=fun i h h' st k=>⟨k z (by simp) _ st.1,k TI (by simp) _ st.2.1,st.2.2.1.elim fun u q=>q.elim fun v q=>⟨u,v,k TO (by simp) _ q⟩,st.2.2.2.1.at fun o e=>k i1 (by simp) o e,st.2.2.2.2.at fun o e=>k i2 (by simp) o e⟩
 item:=by
  intro X hP hw hK hc i kb s σ H E I hf st hg;subst hP hw hK;obtain⟨xs,x,ys,y,hq,hx,hq2,hy⟩:=hg;obtain⟨s1,s2,⟨u,v,s3⟩,s4,s5⟩:=st;obtain⟨its,rv,p,hz⟩:=I.tuple hq;obtain⟨its2,FY,p2,hz2⟩:=I.tuple hq2;obtain⟨ux,hux,VI⟩:=rv.get hx;obtain⟨uy,VJ,VL⟩:=FY.get hy;refine A1 D s1 s2 s3 s4 s5 (show s.heap.IsTuple a its.toArray from p) (show s.heap.IsTuple b its2.toArray from p2) (x:=ux) (y:=uy) (by simpa using hux) (by simpa using VJ) fun h1 a1 a2 a3 a4 a5 a6 k1=>?_;refine⟨_,rfl,wpAny_letOwnedTupleGo_zip a1 fun h2 b1 b2=>?_⟩;have nz:s.heap.objs.size≠z:=Nat.ne_of_gt (ii s1);have oC:=(b2.2 s.heap.objs.size nz).trans a5;have hk:∀c o,c∉ [z,TO,i1,i2]->s.heap.get? c=some o->h2.get? c=some o:=fun c o hb e'=>by
   have hb':c≠z/\c≠TO/\c≠i1/\c≠i2:=by simpa using hb
   exact(b2.2 c hb'.1).trans (k1 c o hb'.1 hb'.2.1 hb'.2.2.1 hb'.2.2.2 e')
  have hfr:H s.heap.objs.size=none:=I.hok.fresh (mf _)
  refine⟨.ref s.heap.objs.size,upd H s.heap.objs.size (.tup [x,y]),I.lO (t':=s.toks) hk (fun c hc=>hf c (by simp at hc ⊢;rcases hc with q | q | q | q<;>simp[q])) (mf _) ?_,rfl,
   ⟨_,x,y,hfr,rfl,rfl,fun zs hy'=>by rw[I.lA hy' hq];exact hx,fun zs hy'=>by rw[I.lA hy' hq2];exact hy⟩,⟨b1,?_,⟨ux,uy,?_⟩,a3.at fun o e=>(b2.2 i1 D.i1z).trans e,a4.at fun o e=>(b2.2 i2 D.i2z).trans e⟩,fun c hc=>?_⟩
  ·exact⟨by show 2<=fw;decide,[ux,uy],.cons VI (.cons VL .nil),⟨_,oC,rfl,_,rfl⟩⟩
  ·exact hk TI _ (by simp[D.TIz,D.TITO,D.TIi1,D.TIi2]) s2
  ·exact(b2.2 TO D.TOz).trans a2
  ·have:c≠s.heap.objs.size:=by
    have hc':c=z\/c=TI\/c=TO\/c=i1\/c=i2:=by simpa using hc
    rcases hc' with rfl | rfl | rfl | rfl | rfl
    ·exact Ne.symm nz
    ·exact mi (ii s2)
    ·exact mi (ii s3)
    ·obtain⟨o,e1,_⟩:=s4;exact mi (ii e1)
    ·obtain⟨o,e1,_⟩:=s5;exact mi (ii e1)
   rw[aw this];exact(hf c hc).1
 done:=by
  intro X hP hw hK hc i kb s σ H E I hf st hg;subst hP hw hK;obtain⟨xs,hq,hx⟩:=hg;obtain⟨s1,s2,s3,s4,s5⟩:=st;obtain⟨its,rv,p,hz⟩:=I.tuple hq;have hl:=rv.length
  exact Ds (I.ok.hd hc) D s1 s2 s4 (show s.heap.IsTuple a its.toArray from p) (by simp;omega) fun h' eb=>⟨rfl,I.zK (t':=s.toks) (its:=[z,TO,i1,i2]) (fun c o hb e=>by
   have hb':c≠z/\c≠TO/\c≠i1/\c≠i2:=by simpa using hb
   exact eb c o hb'.1 hb'.2.1 hb'.2.2.1 hb'.2.2.2 e) (fun c hc=>hf c (by simp at hc ⊢;rcases hc with q | q | q | q<;>simp[q]))⟩
 self:=fun _ _ _ _ _ st h=>wpAny_pyIter_zip st.1 h
def VM(K:i8)(ta:TA):TI:=fun σ H R=>ta σ H fun vs H1=>∃a b,vs=[.ref a,.ref b]/\(∃xs,bh K H1 a xs)/\(∃ys,bh K H1 b ys)/\R (Qx K a b) H1
theorem xS:bootBuiltins "zip"=some (.type "zip"):=by decide+kernel
theorem LJ{a b:Expr}{ta:TA}{p pos:Pos}{elts:List Expr}{x1}{tpos:Pos}(hg:Gl X "zip")(hm:X.mg "zip"=none)(ha:PA X [a,b] ta)
  (hs:starEach [a,b] X.env=[(false,eval a X.env),(false,eval b X.env)]:=by rfl) (hs2:starEach [b] X.env=[(false,eval b X.env)]:=by rfl):PI X (.Tuple elts x1 tpos) (.Call (.Name "zip" p) [a,b] [] pos) (VM X.K ta):=by
 intro kb s σ H R I h;refine Call_ (ip I hg hm xS (PyProof.Rows.callWith_type1 (ck (ha pos kb s σ H _ I h) fun us s1 ⟨vs,H1,I1,r1,q1⟩=>?_) (by rw[hs,hs2]) (by rw[hs2];rfl)));obtain⟨a,b,e,⟨xs,hq⟩,⟨ys,hq2⟩,q⟩:=q1;subst e;obtain⟨u,v,rfl,ru,rv⟩:=vals2 r1;cases ru;cases rv;obtain⟨its,rv,p,hz⟩:=I1.tuple hq;obtain⟨its2,FY,p2,hz2⟩:=I1.tuple hq2;have la:a<s1.heap.objs.size:=by obtain⟨o,e,_⟩:=p;exact ii e
 have lb:b<s1.heap.objs.size:=by obtain⟨o,e,_⟩:=p2;exact ii e
 refine A2 (show s1.heap.IsTuple a its.toArray from p) (show s1.heap.IsTuple b its2.toArray from p2) fun h' g1 g2 g3 g4 g5 hk=>?_;refine wpAny_pyIter_zip g1 ?_;have D:ZipApart (s1.heap.objs.size+4) (s1.heap.objs.size+2) (s1.heap.objs.size+3) s1.heap.objs.size (s1.heap.objs.size+1) a b:=PySem.W.ktu_apart _ _ _ la lb;refine⟨s1.heap.objs.size+4,[s1.heap.objs.size+4,s1.heap.objs.size+2,s1.heap.objs.size+3,s1.heap.objs.size,s1.heap.objs.size+1],_,_,H1,rfl,I1.kept (t':=s1.toks) hk,Dt a b _ _ _ _ _ D,⟨g1,g2,⟨_,_,g3⟩,g4,g5⟩,fun c hc=>?_,q⟩;have hc':s1.heap.objs.size<=c:=by
  have hc':c=s1.heap.objs.size+4\/c=s1.heap.objs.size+2\/c=s1.heap.objs.size+3\/c=s1.heap.objs.size\/c=s1.heap.objs.size+1:=by simpa using hc
  rcases hc' with q | q | q | q | q<;>rw[q]
  ·exact Nat.le_add_right _ _
  ·exact Nat.le_add_right _ _
  ·exact Nat.le_add_right _ _
  ·exact mf _
  ·exact Nat.le_add_right _ _
 exact I1.wX hc' (I1.hok.fresh hc')
end
theorem fe{K:i8}{a:Addr}{xs:List V}{g:TG}{tt:TT}{te:TE}{R:Hp->Prop}{D:Addr}{σ0:St}{H0:Hp}(Pv:Nat->St->List V->Hp->Prop)(h0:Pv 0 σ0 [] H0)(hl:∀i σ ys H,i<=xs.length->Pv i σ ys H->bh K H a xs)
  (hs:∀i x σ ys H,xs[i]? =some x->Pv i σ ys H->g x σ H fun σ2 H2=>tt σ2 H2 fun b H3=>
   if b=true then te σ2 H3 fun v H4=>H4 D=some (.lst ys)/\ys.length<fw/\Pv (i+1) σ2 (ys++ [v]) (upd H4 D (.lst (ys++ [v])))else Pv (i+1) σ2 ys H3)
  (hd:∀σ ys H,Pv xs.length σ ys H->R H):
  ∃W:Nat->Nat->St->List V->Hp->Prop,(∃m,W 0 m σ0 [] H0)/\∀i m σ ys H,W i m σ ys H->
   ((PZ K a).stop i H/\R H)\/((PZ K a).go i H/\∃N:St->List V->Hp->Prop,(∀σ' ys' H',N σ' ys' H'->∃m',m'<m/\W (i+1) m' σ' ys' H')/\∀x H',(PZ K a).Au i H x H'->g x σ H' fun σ2 H2=>tt σ2 H2 fun b H3=>
    if b=true then te σ2 H3 fun v H4=>H4 D=some (.lst ys)/\ys.length<fw/\N σ2 (ys++ [v]) (upd H4 D (.lst (ys++ [v])))else N σ2 ys H3):=by
 refine⟨fun i m σ ys H=>m=xs.length-i/\i<=xs.length/\Pv i σ ys H,⟨xs.length,by simp,Nat.zero_le _,h0⟩,?_⟩;rintro i m σ ys H ⟨rfl,hi,p⟩;have q:=hl i σ ys H hi p;by_cases hlt:i<xs.length
 ·refine .inr ⟨⟨xs,xs[i],q,by simp[hlt]⟩,Pv (i+1),fun σ' ys' H' p'=>⟨xs.length- (i+1),by omega,rfl,hlt,p'⟩,fun x H' y=>?_⟩;obtain⟨e,y⟩:=y;subst e;exact hs i x σ ys _ (y xs q) p
 ·have e:i=xs.length:=by omega
  subst e;exact .inl ⟨⟨xs,q,mf _⟩,hd σ ys H p⟩
theorem Du{K:i8}{a b:Addr}{xs zs:List V}{g:TG}{tt:TT}{te:TE}{R:Hp->Prop}{D:Addr}{σ0:St}{H0:Hp}(hlen:xs.length=zs.length)(Pv:Nat->St->List V->Hp->Prop)(h0:Pv 0 σ0 [] H0)
  (hl:∀i σ ys H,i<=xs.length->Pv i σ ys H->bh K H a xs/\bh K H b zs)
  (hs:∀i x z σ ys H t,xs[i]? =some x->zs[i]? =some z->H t=none->Pv i σ ys H->g (.ref t) σ (upd H t (.tup [x,z])) fun σ2 H2=>tt σ2 H2 fun c H3=>
   if c=true then te σ2 H3 fun v H4=>H4 D=some (.lst ys)/\ys.length<fw/\Pv (i+1) σ2 (ys++ [v]) (upd H4 D (.lst (ys++ [v])))else Pv (i+1) σ2 ys H3)
  (hd:∀σ ys H,Pv xs.length σ ys H->R H):
  ∃W:Nat->Nat->St->List V->Hp->Prop,(∃m,W 0 m σ0 [] H0)/\∀i m σ ys H,W i m σ ys H->
   ((Qx K a b).stop i H/\R H)\/((Qx K a b).go i H/\∃N:St->List V->Hp->Prop,(∀σ' ys' H',N σ' ys' H'->∃m',m'<m/\W (i+1) m' σ' ys' H')/\∀x H',(Qx K a b).Au i H x H'->g x σ H' fun σ2 H2=>tt σ2 H2 fun c H3=>
    if c=true then te σ2 H3 fun v H4=>H4 D=some (.lst ys)/\ys.length<fw/\N σ2 (ys++ [v]) (upd H4 D (.lst (ys++ [v])))else N σ2 ys H3):=by
 refine⟨fun i m σ ys H=>m=xs.length-i/\i<=xs.length/\Pv i σ ys H,⟨xs.length,by simp,Nat.zero_le _,h0⟩,?_⟩;rintro i m σ ys H ⟨rfl,hi,p⟩;obtain⟨q,q2⟩:=hl i σ ys H hi p;by_cases hlt:i<xs.length
 ·refine .inr ⟨⟨xs,xs[i],zs,zs[i]'(by omega),q,aa hlt,q2,aa _⟩,Pv (i+1),fun σ' ys' H' p'=>⟨xs.length- (i+1),by omega,rfl,hlt,p'⟩,fun v H' y=>?_⟩;obtain⟨t,x,z,hn,e1,e2,y1,y2⟩:=y;subst e1 e2;exact hs i x z σ ys _ t (y1 xs q) (y2 zs q2) hn p
 ·have e:i=xs.length:=by omega
  subst e;exact .inl ⟨⟨xs,q,mf _⟩,hd σ ys H p⟩
end L2
namespace SF
open PySem PySem.Calls PyProof.Rows
section
variable {prog:Program}{w:World}{A:Around}{E:Value->Shared->Prop}{s:Shared}
set_option maxHeartbeats 8000000 in
theorem A3{l:Addr}{items:Array Value}{ns:List Int}{Q:Value->Shared->Prop}(hh:A.handled=none)(hl:s.heap.IsTuple l items)(hi:IntsAre items.toList ns)(hb:items.size+1<scanBound)
  (h:∀(h':Heap) (tk:Nat) (us:List Int),iA prog w h' s.heap.objs.size us->us.length<=ns.length->(∀j,j∈us↔j∈ns)->(∀b o,b<s.heap.objs.size->s.heap.get? b=some o->h'.get? b=some o)->Q (.ref s.heap.objs.size) {s with heap:=h',toks:=tk}):
  wpAny (model prog w) A (call (.type "set") [.ref l]) Q E s:=by
 obtain⟨c,tl,hmro⟩:=PySem.F.called_set.mro;have hmade:=PySem.F.called_set.made;have hsub:=PySem.F.called_set.sub;refine wpAny_call (codeAny_of_tree ?_);show wpAny _ _ (callAny (.type "set") _) _ _ _;refine fg ⟨Code.quiet_builtin _ (by decide+kernel),codeAny_builtin PySem.F.entry_type_call ?_⟩;rw[Around.under_plain (weight_type_call_type "set" [.ref l] []) rfl];have h1:=PySem.F.called_set.notType;have h2:=PySem.F.called_set.canCreate;have hct:=PySem.F.typeCall_set_1 (.ref l);generalize qT:(!w.params.followText "set-order")=led
 repeat (any_goals (first | assumption | wp_step))
 refine codeAny_mono (zJ (prog:=prog) (w:=w) (.ref l) (E:=E) (Q₁:=fun obj s₁=>obj=.ref s.heap.objs.size/\s₁={s with heap:=s.heap.push {cls:=.type "set",dict:=none,data:=.set #[] 0 (.fresh 0 0 led)}}) (by rw[qT];exact⟨rfl,rfl⟩)) fun r s₁ hr=>?_;have kJ:w.params.followText "set-order"=true\/led=true:=by
  cases q:w.params.followText "set-order"with
  | true=>exact .inl rfl
  | false=>rw[q]at qT;exact .inr qT.symm
 cases r with
 | error e=>exact hr
 | ok fl=>
  cases fl with
  | next=>exact hr.elim
  | brk=>exact hr.elim
  | cont=>exact hr.elim
  | ret obj=>
   obtain⟨rfl,rfl⟩:=hr;have hS:(s.heap.push {cls:=.type "set",dict:=none,data:=.set #[] 0 (.fresh 0 0 led)}).get? s.heap.objs.size=some {cls:=.type "set",dict:=none,data:=.set #[] 0 (.fresh 0 0 led)}:=gv _ rfl;have hT:Shared.TypeIs {s with heap:=s.heap.push {cls:=.type "set",dict:=none,data:=.set #[] 0 (.fresh 0 0 led)}} (.ref s.heap.objs.size) "set":=⟨_,hS,rfl⟩;have hli:=PySem.F.called_set.init.lookup;have hbi:=PySem.F.called_set.init.bind (.ref s.heap.objs.size)
   repeat (any_goals (first | assumption | wp_step))
   refine codeAny_mono (codeAny_call_builtin (R:=wants (fun r s₂=>r=.none/\∃h' tk us,s₂={s with heap:=h',toks:=tk}/\iA prog w h' s.heap.objs.size us/\us.length<=ns.length/\(∀j,j∈us↔j∈ns)/\
     (∀b o,b<s.heap.objs.size->s.heap.get? b=some o->h'.get? b=some o)) E) PySem.F.called_set.init.plain PySem.F.entry_set_init (check_set_init_1 hT ?_)) fun r₂ s₂ hr₂=>?_
   ·obtain⟨ol,hol,hcl,nl,hdl⟩:=hl;obtain⟨ocls,odict,odata,oslots⟩:=ol;simp only at hcl hdl;subst hcl;subst hdl;have hol':(s.heap.push {cls:=.type "set",dict:=none,data:=.set #[] 0 (.fresh 0 0 led)}).get? l=some {cls:=.type "tuple",dict:=odict,data:=.seq items nl,slots:=oslots}:=gs _ hol;have hsls:=PySem.F.sub_tuple_set;have hslf:=PySem.F.sub_tuple_frozenset;have hne:(Value.type "tuple"==Value.type "dict")=false:=by decide
    have hl1:(s.heap.push {cls:=.type "set",dict:=none,data:=.set #[] 0 (.fresh 0 0 led)}).IsTuple l items:=⟨_,hol',rfl,nl,rfl⟩;unfold Builtin.«set.__init__» noKeywords Builtin.Frozenset.updateFrom;generalize hPI:pyIter=PI
    wp_walk
    subst hPI;refine wpAny_pyIter_tuple hl1 ?_;refine ff (wpAny_runValue ?_);have hlS:l<s.heap.objs.size:=ii hol;have hh3:A.in1.in1.in1.handled=none:=by simp[hh]
    have hneI:l≠(s.heap.push {cls:=.type "set",dict:=none,data:=.set #[] 0 (.fresh 0 0 led)}).objs.size:=by rw[Heap.size_push];exact mi (Nat.lt_succ_of_lt hlS)
    have hSf:s.heap.objs.size∉ [(s.heap.push {cls:=.type "set",dict:=none,data:=.set #[] 0 (.fresh 0 0 led)}).objs.size,l]:=by rw[Heap.size_push];simp only[List.mem_cons,bd,List.not_mem_nil,or_false,not_or];exact⟨mi (Nat.lt_succ_self _),Nat.ne_of_gt hlS⟩
    have hval:∀(i:Nat) (v:Value),items[i]? =some v->∃t,v=.int ((fun i=>ns.getD i 0) i) t:=fun i v hv=>
     IntsAre.int_at hi i v (by rw[Array.getElem?_toList];exact hv)
    have hnl:ns.length=items.size:=by rw[<-IntsAre.length hi,Array.length_toList]
    refine mV ((Walks.tuple hh3 _ l hneI items).toS) s.heap.objs.size hSf (fun i=>ns.getD i 0) hval hb (items.size-0) 0 _ [] (by omega) (Nat.zero_le _)
     ⟨⟨_,gv _ rfl,rfl,rfl⟩,(hl1.push _)⟩ ?hS0 (Nat.zero_le _) (fun j=>by simp) ?hR
    case hS0=>
     have hget:((s.heap.push {cls:=.type "set",dict:=none,data:=.set #[] 0 (.fresh 0 0 led)}).push {cls:=.type "tuple_iterator",data:=.fields #[.ref l,.int 0 0]}).get? s.heap.objs.size
       =some {cls:=.type "set",dict:=none,data:=.set #[] 0 (.fresh 0 0 led)}:=gs _ hS
     exact⟨#[],0,.fresh 0 0 led,⟨_,hget,⟨rfl,rfl,rfl⟩,rfl⟩,by rfl,⟨rfl,fun _ i k _ hk=>by simp[SetTable.fresh]at hk⟩,kJ,fun e he=>by simp at he,.nil,List.nodup_nil⟩
    case hR=>
     intro s' us hm hS' hlen hmem;obtain⟨h',g',d',tk',os'⟩:=s';have eg:g'=s.gens:=hm.gens;have ed:d'=s.drawn:=hm.drawn;have eo:os'=s.os:=hm.os;subst eg;subst ed;subst eo;show wpAny _ _ _ _ _ _;refine fg ?_;show wpAny _ _ (ret Value.none) _ _ _;refine fg ⟨rfl,h',tk',us,rfl,hS',by omega,fun j=>?_,fun b o hb e=>?_⟩
     ·rw[hmem];constructor
      ·rintro⟨m,h1,h2⟩;have hm':m<ns.length:=by omega
       rw[<-h2];show ns.getD m 0∈ns;rw[List.getD_eq_getElem?_getD,aa hm'];exact bn hm'
      ·intro hj;obtain⟨m,hm',e⟩:=List.getElem_of_mem hj;refine⟨m,by omega,?_⟩;show ns.getD m 0=j;rw[List.getD_eq_getElem?_getD,aa hm'];exact e
     have hb1:b≠s.heap.objs.size:=mi hb;have hb2:b≠(s.heap.push {cls:=.type "set",dict:=none,data:=.set #[] 0 (.fresh 0 0 led)}).objs.size:=by rw[Heap.size_push];exact mi (Nat.lt_succ_of_lt hb)
     exact hm.heap b o (by simp only[List.mem_cons,bd,List.not_mem_nil,or_false,not_or];exact⟨hb1,hb2⟩) (gs _ (gs _ e))
   ·cases r₂ with
    | error e=>exact hr₂
    | ok fl₂=>
     cases fl₂ with
     | ret r=>
      obtain⟨rfl,h',tk,us,rfl,hS',h1',h2',hk'⟩:=hr₂
      repeat (any_goals (first | assumption | wp_step))
      exact h _ _ us hS' h1' h2' hk'
     | _=>exact hr₂.elim
end
end SF
namespace L2
theorem _root_.zle{a b:Nat}(h:Nat.ble a b=true:=by rfl):a<=b:=Nat.le_of_ble_eq_true h
open PySem PySem.Spec PyProof.Rows
section
variable {X:Cx}
theorem Dv{h:Heap}{a:Addr}{its:Array Value}(x:IsTup h a its):h.IsTuple a its:=by obtain⟨o,ho,hc,n,hd⟩:=x;exact⟨o,ho,hc,n,hd⟩
theorem tq(hc:X.calm=true):eA X (.type "set") (fun xs H Q=>∃(p:Addr) (ns:List Int),xs=[.ref p]/\bh X.K H p (ns.map V.int)/\ns.length<4000/\∀(l:Addr) (us:List Int),H l=none->us.length<=ns.length->us.Nodup->(∀j,j∈us↔j∈ns)->Q (.ref l) (upd H l (jZ X.prog X.w l us))):=by
 intro kb s σ H xs Up Q I r h;obtain⟨p,ns,rfl,hp,hz,q⟩:=h;obtain⟨u,rfl,ru⟩:=vals1 r;cases ru;obtain⟨its,hv,pl,_⟩:=I.tuple hp;have hi:=intsAre_of hv;have hl:its.length=ns.length:=IntsAre.length hi;refine SF.A3 (I.ok.hd hc) (items:=its.toArray) (ns:=ns) (Dv pl) (by simpa using hi) (by rw[am,hl];unfold scanBound;omega) fun h' tk us hS h1 h2 hk=>?_;have hn:us.Nodup:=by obtain⟨_,_,_,_,_,_,_,_,_,hn⟩:=hS;exact hn
 refine⟨.ref s.heap.objs.size,upd H s.heap.objs.size (jZ X.prog X.w s.heap.objs.size us),I.laid (fun b o e=>hk b o (ii e) e) (mf _) ?_,rfl,q _ us I.fresh h1 hn h2⟩;exact⟨hS,pJ hS,fun h1 h2 x e=>SF.iA.at x e⟩
structure oI(sc scope:Scope)(N N':List Str)(fr:List (Option Nat))(y0:Str):Prop where
 kind:scope.kind=.function
 cf:∀n acc,cellsFrom n scope.names acc=(y0,n)::acc
 pc:∀h:Heap,pushCells h scope.names=h.push {cls:=.type "cell",data:=.cell none}
 only:∀z∈scope.names,z.2=.cell->z.1=y0
 isc:scope.names.lookup y0=some .cell
 names:∀y∈scope.names,y.2=.local->scope.names.lookup y.1=some .local
 free:∀y∈scope.names,y.2=.free->sc.names.lookup y.1=some .cell
 nd:N'.Nodup
 fr:lL sc scope N N' fr=true
def eY(X:Cx)(scope:Scope)(C:Addr)(N':List Str)(s₀:Shared)(H₀:Hp)(fp:List Addr)(y0:Str):Cx where
 prog:=X.prog
 w:=X.w
 K:=X.K
 mg:=X.mg
 base:=X.base
 A:=X.A
 N:=N'
 s₀:=s₀
 H₀:=H₀
 env:=compEnvC scope ((y0,C+1)::iz scope X.env) C X.env
 outer:=X.stack
 stack:=X.stack
 ex:=fp
 calm:=true
 fn:=fun x=>x==y0
 pn:=[]
 xe:=fun _ _=>False
theorem Ho{M:Model}{A:Around}{E:Value->Shared->Prop}{s:Shared}{scope:Scope}{globals:Addr}{closure:List (Str×Addr)}{qual:Str}{outer:Env}{code:Value}{builtins:Addr}{Q:Env->Shared->Prop}{y0:Str}
  (cf:∀n acc,cellsFrom n scope.names acc=(y0,n)::acc) (pc:∀h:Heap,pushCells h scope.names=h.push {cls:=.type "cell",data:=.cell none})
  (hQ:∀h':Heap,h'=(s.heap.push {cls:=.type "dict",data:=.dict #[]}).push {cls:=.type "cell",data:=.cell none}->h'.Ns s.heap.objs.size (fun _=>none)->h'.IsCell (s.heap.objs.size+1) none->(∀b o,s.heap.get? b=some o->h'.get? b=some o)->
   Q {scope,locals:=s.heap.objs.size,globals,cells:=(y0,s.heap.objs.size+1)::closure,qual,func:=none,code:=outer.code,frame:=outer.frame,builtins:=outer.builtins} {s with heap:=h'}):
  wpAny M A (newFunctionEnv scope globals closure [] qual none code (some outer) builtins) Q E s:=by
 simp only[newFunctionEnv,Option.isSome_some,if_true];refine ff (wpAny_alloc ?_);refine ff (wpAny_layCells _ (fun name kind cells=>by cases hkc:kind==NameKind.cell<;>simp[hkc]) _ _ _ _ ?_);rw[cf,pc];rw[show({s with heap:=s.heap.push {cls:=.type "dict",data:=.dict #[]}}:Shared).heap.objs.size=s.heap.objs.size+1 from Heap.size_push ..];refine ff ?_;rw[List.forIn_nil];refine fg (fg (hQ _ rfl ?_ ?_ ?_))
 ·exact(Heap.Ns.new s.heap (.type "dict")).keeps fun b o e=>gs _ e
 ·have:=gv (s.heap.push {cls:=.type "dict",data:=.dict #[]}) (o:={cls:=.type "cell",data:=.cell none}) rfl;rw[Heap.size_push]at this;exact⟨_,this,rfl⟩
 ·intro b o e;exact gs _ (gs _ e)
variable {scope:Scope}{N':List Str}{fr:List (Option Nat)}{kb:List (Addr×Obj)}{σ:St}{H:Hp}{s:Shared}{fp:List Addr}{y0:Str}
theorem Inv.LK{h1:Heap}{t1:Nat}{m:Str->Option Value}(S:oI X.env.scope scope X.N N' fr y0)(hc:X.calm=true)(I:Inv X kb σ H s)(hf:∀b∈fp,kj X kb H b)(hlt:∀b∈fp,b<s.heap.objs.size)
  (hns:h1.Ns s.heap.objs.size m) (old:∀b o,s.heap.get? b=some o->h1.get? b=some o) (hcell:h1.IsCell (s.heap.objs.size+1) none):
  Inv (eY X scope s.heap.objs.size N' s H fp y0) [] (pC fr σ) H {s with heap:=h1,toks:=t1}:=by
 have hfree:∀y∈scope.names,y.2=.free->∃c,X.env.cells.lookup y.1=some c:=fun y hy e=>I.ok.has y.1 (.inl (S.free y hy e));have cl1:∀y c,(iz scope X.env).lookup y=some c->X.env.cells.lookup y=some c:=fun y c e=>by
  rcases pw (cs:=[]) hfree (PySem.mem_of_lookup e)with q | q
  ·exact absurd q (by simp)
  ·exact q
 have Qy:∀y,y≠y0->((relabel scope X.env).names.lookup y=some .cell\/(relabel scope X.env).names.lookup y=some .free)->∃c,(iz scope X.env).lookup y=some c:=fun y hne hy=>by
  have q:(y,NameKind.free)∈scope.names:=by
   have m:∃k,(k=NameKind.cell\/k=NameKind.free)/\(y,k)∈(relabel scope X.env).names:=by
    rcases hy with hy | hy
    ·exact⟨_,.inl rfl,PySem.mem_of_lookup hy⟩
    ·exact⟨_,.inr rfl,PySem.mem_of_lookup hy⟩
   obtain⟨k,hk,m⟩:=m;obtain⟨⟨n,k0⟩,hm,e⟩:=List.mem_map.mp m;dsimp only at e;by_cases hq:(k0==NameKind.free&&X.env.scope.kind== .function&&X.env.kindOf n==some .cell)=true
   ·rw[if_pos hq]at e;simp only[Bool.and_eq_true,beq_iff_eq]at hq;injection e with e1 e2
    rw[<-e1,<-hq.1.1];exact hm
   ·rw[if_neg hq]at e;injection e with e1 e2
    subst e1 e2;rcases hk with hk | hk
    ·exact absurd (S.only _ hm hk) hne
    ·rw[<-hk];exact hm
  obtain⟨c,mc⟩:=pA (env:=X.env) (cs:=[]) q;exact jW mc
 have lk:∀{y c},List.lookup y ((y0,s.heap.objs.size+1)::iz scope X.env)=some c->(y=y0/\c=s.heap.objs.size+1)\/(y≠y0/\(iz scope X.env).lookup y=some c):=fun {y c} e=>by
  rw[List.lookup_cons]at e;cases hy:y==y0 with
  | true=>rw[hy]at e;exact .inl ⟨by simpa using hy,(Option.some.inj e).symm⟩
  | false=>rw[hy]at e;exact .inr ⟨by simpa using hy,e⟩
 have lk1:∀{y},y≠y0->List.lookup y ((y0,s.heap.objs.size+1)::iz scope X.env)=(iz scope X.env).lookup y:=fun {y} hne=>by
  rw[List.lookup_cons];have:(y==y0)=false:=by simpa using hne
  rw[this]
 have has:∀y,((relabel scope X.env).names.lookup y=some .cell\/(relabel scope X.env).names.lookup y=some .free)->∃c,List.lookup y ((y0,s.heap.objs.size+1)::iz scope X.env)=some c:=fun y hy=>by
  by_cases hne:y=y0
  ·subst hne;exact⟨s.heap.objs.size+1,by rw[List.lookup_cons];simp⟩
  ·rw[lk1 hne];exact Qy y hne hy
 have Vq:∀y c,X.env.cells.lookup y=some c->c<s.heap.objs.size:=fun y c e=>by obtain⟨v,q⟩:=I.cell y c e;exact q.lt
 refine⟨⟨I.ok.mod,S.kind,I.ok.glob,I.ok.blt,mf _,fun x y c e1 e2=>(by
    rcases lk e1 with ⟨a1,b1⟩ | ⟨a1,b1⟩<;>rcases lk e2 with ⟨a2,b2⟩ | ⟨a2,b2⟩
    ·rw[a1,a2]
    ·exact absurd (Vq _ _ (cl1 _ _ b2)) (by rw[b1];exact Nat.not_lt.mpr (Nat.le_succ _))
    ·exact absurd (Vq _ _ (cl1 _ _ b1)) (by rw[b2];exact Nat.not_lt.mpr (Nat.le_succ _))
    ·exact I.ok.inj x y c (cl1 x c b1) (cl1 y c b2)),has,fun x c e z=>(by
    rcases lk z with ⟨a1,b1⟩ | ⟨a1,b1⟩
    ·rw[b1];exact Nat.le_succ _
    ·have e:(x==y0)=true:=e
     exact absurd (by simpa using e) a1),fun _=>I.ok.hd hc,I.ok.frames,.inl rfl,
   fun b hb=>⟨mi (hlt b hb),fun x c e=>(by
    rcases lk e with ⟨a1,b1⟩ | ⟨a1,b1⟩
    ·rw[b1];exact Nat.ne_of_gt (Nat.lt_succ_of_lt (hlt b hb))
    ·exact(hf b hb).2.2.2.2.1 x c (cl1 x c b1))⟩,I.bs,mv I.ok.Cj I.sz,fun b o e hb=>?_,fun b hb z=>?_,I.stack,I.ke⟩,
  rfl,I.bare,Un.kept old,⟨m,hns,fun i x v e1 e2 e3=>?_⟩,fun x c e=>?_,I.fresh,fun x c e=>(by
    rcases lk e with ⟨a1,b1⟩ | ⟨a1,b1⟩
    ·rw[b1];exact I.hok.fresh (Nat.le_succ _)
    ·exact I.e9 x c (cl1 x c b1)),fun p hp=>absurd hp (by simp[eY]),I.hok.kept old,?_⟩
 ·rcases(hf b hb).2.2.2.1 with z | z
  ·exact I.ok.wR b o e z
  ·exact absurd (Nat.lt_of_lt_of_le (ii e) (mv I.ok.Cj z)) (Nat.lt_irrefl _)
 ·rcases List.mem_cons.mp (I.oU b z)with q | q
  ·exact(hf b hb).2.1 q
  ·exact(hf b hb).2.2.1 q
 ·
  have e2:(pC fr σ)[i]? =some (some v):=e2;unfold pC at e2;rw[ac]at e2;cases q:fr[i]? with
  | none=>rw[q]at e2;cases e2
  | some o=>
   rw[q]at e2;cases o with
   | none=>cases e2
   | some j=>
    have e2:(σ[j]?).join=some v:=Option.some.inj e2;have e4:σ[j]? =some (some v):=by
     cases r:σ[j]? with
     | none=>rw[r]at e2;cases e2
     | some w=>rw[r]at e2;exact congrArg some e2
    obtain⟨f1,f2,f3⟩:=oA S.fr e1 q;obtain⟨m0,_,hl⟩:=I.loc;obtain⟨u,r,l⟩:=hl j x v f1 e4 (.inr (.inl f3));refine⟨u,r,.inr ⟨.inl (cK I.ok.kind f2 f3),?_⟩⟩;have hxy:x≠y0:=fun z=>by rw[z,S.isc]at f2;cases f2
    obtain⟨c,hc⟩:=Qy x hxy (.inl (cK I.ok.kind f2 f3));rcases l with ⟨k,_⟩ | ⟨_,c',hc',ho⟩
    ·have k:X.env.scope.names.lookup x=some .local:=k;rw[f3]at k;cases k
    ·have e:c=c':=Option.some.inj ((cl1 x c hc).symm.trans hc');subst e;obtain⟨o,ho,hd⟩:=ho;exact⟨c,(lk1 hxy).trans hc,o,old c o ho,hd⟩
 ·rcases lk e with ⟨a1,b1⟩ | ⟨a1,b1⟩
  ·rw[b1];exact⟨none,hcell⟩
  ·obtain⟨v,o,ho,hd⟩:=I.cell x c (cl1 x c b1);exact⟨v,o,old c o ho,hd⟩
 ·show(pC fr σ).length=N'.length;unfold pC;rw[List.length_map];exact kr S.fr
end
theorem A4{X:Cx}{elt tg iter:Expr}{ifs:List Expr}{scope:Scope}{pos cpos:Pos}{wi:TI}{g:TG}{tt:TT}{te:TE}{N':List Str}{fr:List (Option Nat)}{y0:Str}(S:oI X.env.scope scope X.N N' fr y0)(hc:X.calm=true)(hi:PI X tg iter wi)
  (hg:∀C s0 H0 fp,PG (eY X scope C N' s0 H0 fp y0) tg g) (ht:∀C s0 H0 fp,GY (eY X scope C N' s0 H0 fp y0) ifs tt) (he:∀C s0 H0 fp,PE (eY X scope C N' s0 H0 fp y0) elt te)
  (hs:∀x,foldedSetIterable iter X.env x=pure x) {kb:List (Addr×Obj)} {s:Shared} {σ:St} {H:Hp} {Q:VK} (I:Inv X kb σ H s) (h:vh fr wi g tt te σ H Q) (use:Option (Value->Sem Unit)) (QQ:Value->Shared->Prop)
  (fin:∀(D C:Addr) (H5:Hp) (s6:Shared),Inv X kb σ H5 s6->Q (.ref D) H5->H5 C=none->C≠X.env.locals->X.s₀.heap.objs.size<=C->(∀x c,X.env.cells.lookup x=some c->c≠C)->(∀p∈X.pn++kb,p.1≠C)->(∃m,s6.heap.Ns C m)->
   compPost (model X.prog X.w) X.A X.xe use QQ (.ref D) C (.ok .next) s6):
  wpAny (model X.prog X.w) X.A (comprehension (.ListComp elt [⟨tg,iter,ifs,0⟩] scope pos) scope X.env cpos (newList []) false (eval iter X.env) use) QQ X.xe s:=by
 have hfree:∀y∈scope.names,y.2=.free->∃c,X.env.cells.lookup y.1=some c:=fun y hy e=>I.ok.has y.1 (.inl (S.free y hy e));refine wpAny_comprehension_free (use:=use) rfl hs (zF hfree) S.kind S.names (ck (hi kb s σ H _ I h) fun v s1 h1=>ck h1 fun itv s2 h2=>?_);obtain⟨it,fp,tn,J,H2,e,I2,T,st2,f2,hD⟩:=h2;subst e;obtain⟨W,⟨m0,w0⟩,turn⟩:=hD s2.heap.objs.size I2.fresh;refine wpAny_newObj_type ?_;have I3:Inv X kb σ (upd H2 s2.heap.objs.size (.lst [])) {s2 with heap:=s2.heap.push {cls:=.type "list",data:=.seq ([]:List Value).toArray},toks:=s2.toks}:=I2.Gy (ys:=[]) .nil (Nat.zero_le _)
 revert I3
 generalize eD:s2.heap.objs.size=D at*;generalize e3:({s2 with heap:=s2.heap.push {cls:=.type "list",data:=.seq ([]:List Value).toArray},toks:=s2.toks}:Shared)=s3;intro I3;have k3:∀b o,s2.heap.get? b=some o->s3.heap.get? b=some o:=fun b o e=>by rw[<-e3];exact gs _ e
 refine Ho S.cf S.pc (fun h4 eh4 hns VN old=>?_);have fD:∀b∈fp,b≠D:=fun b hb z=>by obtain⟨o,ho,_⟩:=T.obj _ _ st2 b hb;exact absurd (ii ho) (by rw[z,eD];exact Nat.lt_irrefl _)
 have f3:∀b∈fp,kj X kb (upd H2 D (.lst [])) b:=fun b hb=>⟨by rw[aw (fD b hb)];exact(f2 b hb).1,(f2 b hb).2⟩;have l3:∀b∈fp,b<s3.heap.objs.size:=fun b hb=>by obtain⟨o,ho,_⟩:=T.obj _ _ st2 b hb;exact ii (k3 b o ho)
 have I4:=Inv.LK (t1:=s3.toks) (scope:=scope) S hc I3 f3 l3 hns old VN;generalize eX:eY X scope s3.heap.objs.size N' s3 (upd H2 D (.lst [])) fp y0=X' at I4;have Qi:tn 0 h4:=T.keep _ _ _ st2 fun b hb o e=>old b o (k3 b o e);have stat:∀{H':Hp},(∀b∈fp,H' b=none)->∀b∈fp,kj X' [] H' b:=fun {H'} hn b hb=>by
  subst eX;refine⟨hn b hb,mi (l3 b hb),?_,.inl hb,?_,fun p hp=>absurd hp (by simp[eY])⟩
  ·exact I4.ok.wU b hb
  ·exact(I4.ok.PJ b hb).2
 show codeAny _ _ (.compStart _ 0 (.ref it) (.ref D) (compEnvC scope ((y0,s3.heap.objs.size+1)::iz scope X.env) s3.heap.objs.size X.env)) (compPost _ _ _ use _ (.ref D) s3.heap.objs.size) _;have hX:X'.prog=X.prog/\X'.w=X.w/\X'.K=X.K/\X'.A=X.A/\X'.calm=true/\X'.env=compEnvC scope ((y0,s3.heap.objs.size+1)::iz scope X.env) s3.heap.objs.size X.env/\X'.xe=(fun _ _=>False)/\X'.s₀=s3/\X'.H₀=upd H2 D (.lst [])/\X'.fs=frs X.stack/\X'.ex=fp:=by subst eX;exact⟨rfl,rfl,rfl,rfl,rfl,rfl,rfl,rfl,rfl,rfl,rfl⟩
 have hg':PG X' tg g:=by subst eX;exact hg _ _ _ _
 have ht':GY X' ifs tt:=by subst eX;exact ht _ _ _ _
 have he':PE X' elt te:=by subst eX;exact he _ _ _ _
 clear eX;obtain⟨x1,x2,x3,x4,x5,x6,x7,x8,x9,x10,x11⟩:=hX;have loop:codeAny (model X.prog X.w) X.A (.compLoop (.ListComp elt [⟨tg,iter,ifs,0⟩] scope pos) 0 (.ref it) (.ref D) (compEnvC scope ((y0,s3.heap.objs.size+1)::iz scope X.env) s3.heap.objs.size X.env))
   (compPost (model X.prog X.w) X.A X.xe use QQ (.ref D) s3.heap.objs.size) {s3 with heap:=h4,toks:=s3.toks}:=by
  refine kx (fun n s'=>∃i σ' ys H',Inv X' [] σ' H' s'/\tn i s'.heap/\(∀b∈fp,H' b=none)/\W i n σ' ys H') ?_ m0 ⟨0,_,[],_,I4,Qi,fun b hb=>(f3 b hb).1,w0⟩;rintro n s5 ⟨i,σ5,ys,H5,I5,Gm,KW,w5⟩;rcases turn i n σ5 ys H5 w5 with ⟨stop,qn⟩ | ⟨go,N,hN,step⟩
  ·have z:=T.done X' x1 x2 x3 x5 i [] s5 σ5 H5 (fun _ _=>False) I5 (stat KW) Gm stop;rw[x4]at z;refine ck z fun r s6 ⟨hr,I6⟩=>?_;subst hr;obtain⟨mm,Qj,_⟩:=I6.loc;have hL:X'.env.locals=s3.heap.objs.size:=by rw[x6];rfl
   rw[hL]at Qj;have nC:H5 s3.heap.objs.size=none:=by have:=I6.free;rw[hL]at this;exact this
   have base:=I6.base;rw[x8,x9,x10,x11]at base;have hok:iT X.prog X.w H5 s6.heap:=by have q:=I6.hok;rw[x1,x2]at q;exact q
   have os:s6.os=s3.os:=by have:=I6.os;rw[x8]at this;exact this
   have IX:Inv X kb σ H5 s6:=I3.call' os base hok I6.bare fun b hb=>⟨(f3 b hb).2.2.2.1,(f3 b hb).2.1,(f3 b hb).2.2.2.2.1,(f3 b hb).2.2.2.2.2⟩;refine fin D s3.heap.objs.size H5 s6 IX qn nC (Nat.ne_of_gt I3.lt) I3.sz (fun x c e=>?_) (fun p hp=>?_) ⟨mm,Qj⟩
   ·obtain⟨v,q⟩:=I3.cell x c e;exact mi q.lt
   ·exact mi (ii (I3.pin p hp).1)
  ·have z:=T.item X' x1 x2 x3 x5 i [] s5 σ5 H5 (fun _ _=>False) I5 (stat KW) Gm go;rw[x4]at z;refine ck z fun r s6 ⟨u,hr,h6⟩=>?_;subst hr;refine ck h6 fun _ s7 ⟨x,H7,I7,r7,y7,Lr,Vs⟩=>?_;have Vt:=I7.pinned (stat Vs) (T.obj _ _ Lr);have again:∀{σ':St} {H':Hp} {s':Shared},Inv X' ([]++lC fp s7.heap) σ' H' s'->Inv X' [] σ' H' s'/\tn (i+1) s'.heap/\∀b∈fp,H' b=none:=fun {σ' H' s'} J=>by refine⟨J.iX,T.keep _ _ _ Lr fun b hb o e=>(J.pin (b,o) (List.mem_append_right _ (List.mem_append_right _ (eQ hb e)))).1,fun b hb=>?_⟩;obtain⟨o,e,d⟩:=T.obj _ _ Lr b hb;exact(J.pin (b,o) (List.mem_append_right _ (List.mem_append_right _ (eQ hb e)))).2.1
   have z:=hg' _ s7 σ5 H7 x u _ Vt r7 (step x H7 y7);rw[x1,x2,x4,x6,x7]at z;refine ck z fun _ s8 ⟨σ8,H8,I8,q8⟩=>?_;have z:=ht' _ s8 σ8 H8 _ I8 q8;rw[x1,x2,x4,x6,x7]at z;refine ck z fun b s9 ⟨H9,I9,q9⟩=>?_;cases b with
   | false=>
    rw[if_neg mx]at q9 ⊢;obtain⟨m',hm,w9⟩:=hN _ _ _ q9;obtain⟨a1,a2,a3⟩:=again I9;exact⟨m',hm,i+1,σ8,ys,H9,a1,a2,a3,w9⟩
   | true=>
    rw[if_pos rfl]at q9 ⊢;have z:=he' _ s9 σ8 H9 _ I9 q9;rw[x1,x2,x4,x6,x7]at z;refine ck z fun v' xF ⟨y,Um,C9,r10,AQ,hz,w10⟩=>?_;have z:=da (X:=X') _ xF σ8 Um (.ref D) [y] (.ref D) [v'] (fun _ H'=>N σ8 (ys++ [y]) H') C9 rfl (.cons r10 .nil) ⟨D,ys,y,rfl,rfl,AQ,hz,w10⟩;rw[x1,x2,x4,x7]at z;refine ck z fun _ Ck ⟨_,Vu,Vv,_,w11⟩=>?_;obtain⟨m',hm,w11⟩:=hN _ _ _ w11;obtain⟨a1,a2,a3⟩:=again Vv;exact⟨m',hm,i+1,σ8,_,Vu,a1,a2,a3,w11⟩
 exact codeAny_compStart_list loop (T.self _ 0 _ _ _ Qi loop)
theorem Dw{X:Cx}{elt tg iter:Expr}{ifs:List Expr}{scope:Scope}{pos:Pos}{wi:TI}{g:TG}{tt:TT}{te:TE}{N':List Str}{fr:List (Option Nat)}{y0:Str}(S:oI X.env.scope scope X.N N' fr y0)(hc:X.calm=true)(hi:PI X tg iter wi)
  (hg:∀C s0 H0 fp,PG (eY X scope C N' s0 H0 fp y0) tg g) (ht:∀C s0 H0 fp,GY (eY X scope C N' s0 H0 fp y0) ifs tt) (he:∀C s0 H0 fp,PE (eY X scope C N' s0 H0 fp y0) elt te)
  (hs:∀x,foldedSetIterable iter X.env x=pure x:=by intro _;rfl):PE X (.ListComp elt [⟨tg,iter,ifs,0⟩] scope pos) (vh fr wi g tt te):=by
 intro kb s σ H Q I h;rw[eval_ListComp];refine A4 S hc hi hg ht he hs I h none _ fun D C H5 s6 IX q nC c1 c2 c3 c4 hm=>?_;obtain⟨m,hm⟩:=hm;refine⟨m,hm,fun h' hs'=>⟨.ref D,H5,IX.turned (t':=s6.toks) (it:=C) (fun b o hb e=>hs'.extBut b o hb e) nC c1 (.inr c2) c3 c4,rfl,q⟩⟩
open PySem PySem.W PySem.Spec PySem.Calls PyProof.Rows
abbrev NK:=Int×List (Option Int)
section
variable {P:Program}{w:World}
def jG(P:Program)(w:World)(h:Heap)(k:NK)(a:Addr):Prop:=∃o t b n,h.get? a=some o/\o.cls=.type "tuple"/\o.data=.seq #[.int k.1 t,.ref b] n/\IsTupleKey (optKind P w) h k.2 b
def xT(P:Program)(w:World)(k:NK):Int:=reduceHash (Builtin.Tuple.tupleHashOf [(optKind P w).hash (some k.1),tupleKeyHash (optKind P w) k.2])
theorem jG.typeIs{s:Shared}{k:NK}{a:Addr}(x:jG P w s.heap k a):s.TypeIs (.ref a) "tuple":=let ⟨o,_,_,_,ho,hc,_⟩:=x;⟨o,ho,hc⟩
theorem jG.inj{h:Heap}{a:Addr}{x y:NK}(hx:jG P w h x a)(hy:jG P w h y a):x=y:=by
 obtain⟨o,t,b,n,ho,_,hd,hi⟩:=hx;obtain⟨o',t',b',n',ho',_,hd',hi'⟩:=hy;obtain rfl:o=o':=Option.some.inj (ho.symm.trans ho');rw[hd]at hd';injection hd' with h1 _
 have h2:=congrArg Array.toList h1;simp at h2;obtain⟨⟨e1,_⟩,e2⟩:=h2;subst e2;exact Prod.ext e1 (hi.inj hi')
theorem jG.keeps{h h':Heap}{k:NK}{a d:Addr}{o:Obj}{es ep}(x:jG P w h k a)(ho:h.get? d=some o)(hd:o.data=.dict es ep)(hs:Heap.SameBut d h h'):jG P w h' k a:=by
 obtain⟨o',t,b,n,ho',hc,hd',hi⟩:=x;have hne:a≠d:=by rintro rfl;obtain rfl:o'=o:=Option.some.inj (ho'.symm.trans ho);rw[hd]at hd';exact nomatch hd'
 exact⟨o',t,b,n,(hs.2 a hne).trans ho',hc,hd',hi.keeps ho hd hs⟩
variable {A:Around}{E:Value->Shared->Prop}{s:Shared}
theorem A5{k:NK}{a:Addr}{Q:Int->Shared->Prop}(hu:A.units+1<cLine)(hk:jG P w s.heap k a)(h:Q (xT P w k) {s with toks:=s.toks+(k.2.length+3)}):wpAny (model P w) A (pyHash (.ref a)) Q E s:=by
 have hT:=hk.typeIs;obtain⟨o,t,b,n,ho,_,hd,hi⟩:=hk;have hu':A.units<cLine:=by omega
 unfold pyHash
 first | unfold pyHashByItsType | skip
 first | refine ff (wpAny_cRoomFor_or (.inr hu') ?_) | skip
 refine ff (wpAny_specialOf hT PySem.F.slot_tuple_hash.lookup ?_);show wpAny _ _ (if (some (Value.builtin "tuple.__hash__")==some Value.none)=true then _ else _) Q E s;rw[if_neg (by rw[beq_builtin_none];exact mx)];refine ff (wpAny_specialOf hT PySem.F.slot_tuple_hash.lookup ?_);show wpAny _ _ (callSpecialIfBoundUnlessNone? (.ref a) "__hash__" _>>=_) Q E s;refine ff (wpAny_callSpecialIfBoundUnlessNone?_slot hT PySem.F.slot_tuple_hash (gr PySem.F.slot_tuple_hash hT PySem.F.entry_tuple_hash ?_ (PySem.F.args_tuple_hash_1 _)));show wpAny _ _ (Builtin.Tuple.tupleItemsOf (.ref a)>>=_) _ _ s;refine ff (wpAny_tupleItemsOf ho hd ?_);refine ff ?_;rw[<-Array.forIn_toList];refine wpAny_forIn_list _
  (fun rest (c:Array Int) s'=>(rest=[Value.int k.1 t,.ref b]/\c.toList=[]/\s'=s)\/(rest=[Value.ref b]/\c.toList=[(optKind P w).hash (some k.1)]/\s'={s with toks:=s.toks+1})\/(rest=[]/\c.toList=[(optKind P w).hash (some k.1),tupleKeyHash (optKind P w) k.2]/\s'={s with toks:=s.toks+1+(k.2.length+1)}))
  _ ?_ ?_ _ _ (.inl ⟨rfl,rfl,rfl⟩)
 ·rintro x rest c s' (⟨e,hc,rfl⟩ | ⟨e,hc,rfl⟩ | ⟨e,_⟩)
  ·obtain⟨rfl,rfl⟩:=List.cons.inj e;have h1:(optKind P w).is (some k.1) (Value.int k.1 t)=true:=by show Dk (some k.1) (Value.int k.1 t)=true;simp[Dk,Value.isInt]
   refine ff ((optKind P w).pyHash h1 ?_)
   first
    | exact fg (.inr (.inl ⟨rfl,by simp[hc],rfl⟩))
    | exact ff (fg (fg (.inr (.inl ⟨rfl,by simp[hc],rfl⟩))))
  ·obtain⟨rfl,rfl⟩:=List.cons.inj e;refine ff (wpAny_pyHash_tuple (knd:=optKind P w) (by show A.units+1<cLine;exact hu) hi ?_)
   first
    | exact fg (.inr (.inr ⟨rfl,by simp[hc],rfl⟩))
    | exact ff (fg (fg (.inr (.inr ⟨rfl,by simp[hc],rfl⟩))))
  ·cases e
 ·rintro c s' (⟨e,_⟩ | ⟨e,_⟩ | ⟨_,hc,rfl⟩)
  ·cases e
  ·cases e
  show wpAny _ _ (retInt (Builtin.Tuple.tupleHashOf c.toList)) _ _ _;rw[hc];refine wpAny_ret_mkInt ?_;generalize hx:Builtin.Tuple.tupleHashOf [(optKind P w).hash (some k.1),tupleKeyHash (optKind P w) k.2]=x;show wpAny _ _ (if (decide (-(2:Int)^63<=x)&&decide (x<2^63))=true then _ else _) Q E _;unfold xT reduceHash at h;rw[hx]at h;have et:s.toks+1+(k.2.length+1)+1=s.toks+(k.2.length+3):=by omega
  by_cases hr:(decide (-(2:Int)^63<=x)&&decide (x<2^63))=true
  ·rw[if_pos hr];rw[if_pos hr]at h;exact fg (by rw[<-et]at h;exact h)
  ·rw[if_neg hr];rw[if_neg hr]at h;exact ff (wpAny_rule (fg (by rw[<-et]at h;exact h)))
theorem xU{x y:NK}{a b:Addr}{R:Fin->Shared->Prop}(hu:A.units<cLine)(hx:jG P w s.heap x a)(hy:jG P w s.heap y b)(h:R (.done (.ret (.bool (decide (x=y))))) s):
  wpAny (model P w) A (Builtin.«tuple.__eq__» ⟨[.ref a,.ref b],[]⟩) R E s:=by
 have hTb:=hy.typeIs;obtain⟨oa,ta,ba,na,hoa,_,hda,hia⟩:=hx;obtain⟨ob,tb,bb,nb,hob,_,hdb,hib⟩:=hy;show wpAny _ _ (isInstance (.ref b) (.type "tuple")>>=_) _ _ s;refine ff (wpAny_isInstance hTb isSubtype_tuple_tuple ?_);simp only[Bool.not_true,Bool.false_eq_true,if_false];refine ff (wpAny_tupleItemsOf hoa hda ?_);refine ff (wpAny_tupleItemsOf hob hdb ?_);refine ff ?_;refine wpAny_forIn_list _
  (fun rest r s'=>r.1=none/\s'=s/\((rest=[(Value.int x.1 ta,Value.int y.1 tb),(.ref ba,.ref bb)])\/(rest=[(Value.ref ba,Value.ref bb)]/\x.1=y.1)\/(rest=[]/\x=y)))
  _ ?_ ?_ _ _ ⟨rfl,rfl,.inl rfl⟩
 ·rintro⟨u,v⟩ rest r s' ⟨hr,rfl,(e | ⟨e,e1⟩ | ⟨e,_⟩)⟩
  ·obtain⟨e1,rfl⟩:=List.cons.inj e;obtain⟨rfl,rfl⟩:=Prod.mk.inj e1;have h1:(optKind P w).is (some x.1) (Value.int x.1 ta)=true:=by show Dk (some x.1) (Value.int x.1 ta)=true;simp[Dk,Value.isInt]
   have h2:(optKind P w).is (some y.1) (Value.int y.1 tb)=true:=by show Dk (some y.1) (Value.int y.1 tb)=true;simp[Dk,Value.isInt]
   refine ff ((optKind P w).eqBool (a:=some x.1) (b:=some y.1) h1 h2 ?_);by_cases hk:x.1=y.1
   ·rw[decide_eq_true (by rw[hk])];simp only[Bool.not_true,Bool.false_eq_true,if_false];exact fg ⟨rfl,rfl,.inr (.inl ⟨by trivial,hk⟩)⟩
   ·rw[decide_eq_false (fun z=>hk (Option.some.inj z))];simp only[Bool.not_false,if_true];rw[decide_eq_false (fun z=>hk (by rw[z]))]at h;exact ff (fg (fg (fg h)))
  ·obtain⟨e2,rfl⟩:=List.cons.inj e;obtain⟨rfl,rfl⟩:=Prod.mk.inj e2;refine ff (wpAny_eqBool_tuple (knd:=optKind P w) hu hia hib ?_);by_cases hk:x.2=y.2
   ·rw[decide_eq_true hk];simp only[Bool.not_true,Bool.false_eq_true,if_false];exact fg ⟨rfl,rfl,.inr (.inr ⟨by trivial,Prod.ext e1 hk⟩)⟩
   ·rw[decide_eq_false hk];simp only[Bool.not_false,if_true];rw[decide_eq_false (fun z=>hk (by rw[z]))]at h;exact ff (fg (fg (fg h)))
  ·cases e
 ·rintro⟨r1,r2⟩ s' ⟨hr,rfl,(e | ⟨e,_⟩ | ⟨_,e⟩)⟩
  ·cases e
  ·cases e
  simp only at hr;subst hr;refine fg ?_;show R (.done (.ret (.bool true))) s';rw[decide_eq_true e]at h;exact h
theorem A6{x y:NK}{a b:Addr}{Q:Bool->Shared->Prop}(hu:A.units+1<cLine)(hx:jG P w s.heap x a)(hy:jG P w s.heap y b)(h:Q (decide (x=y)) s):wpAny (model P w) A (eqBool (.ref a) (.ref b)) Q E s:=by
 unfold eqBool
 try with_reducible refine wpAny_holding ?_
 show wpAny _ _ (if (Value.ref a==Value.ref b)=true then _ else _) Q E s;by_cases hab:(Value.ref a==Value.ref b)=true
 ·rw[if_pos hab];have e:a=b:=by have:=eq_of_beq hab;injection this
  subst e;obtain rfl:=hx.inj hy;exact ff (wpAny_rule (fg (by simpa using h)))
 ·rw[if_neg hab]
  exact ff (wpAny_richCompare_same_room (op:=.Eq) hx.typeIs hy.typeIs PySem.F.slot_tuple_eq
   (gr PySem.F.slot_tuple_eq hx.typeIs PySem.F.entry_tuple_eq (xU (by show A.units+1<cLine;exact hu) hx hy ⟨_,rfl,(fun e=>nomatch e),wpAny_truthy_bool h⟩) (PySem.F.args_tuple_eq_2 _ _)) (by omega))
theorem LL{ks:List (Option Int)}{a:Addr}{Q:Bool->Shared->Prop}(hk:IsTupleKey (optKind P w) s.heap ks a)(h:Q true s):wpAny (model P w) A (eqIsQuiet 7 (.ref a)) Q E s:=by
 have hT:=hk.typeIs;obtain⟨o,items,n,ho,_,hd,hi⟩:=hk;unfold eqIsQuiet;refine ff (wpAny_specialOf hT PySem.F.slot_tuple_eq.lookup ?_);show wpAny _ _ (isInstance (.ref a) (.type "tuple")>>=_) _ _ s;refine ff (wpAny_isInstance hT isSubtype_tuple_tuple ?_);simp only[Bool.not_true,Bool.false_eq_true,if_false];refine ff (wpAny_seqItems ho hd ?_);refine ff ?_;show wpAny _ _ (forIn items _ _) _ _ s;rw[<-Array.forIn_toList];refine wpAny_forIn_list _ (fun rest r s'=>r.1=none/\s'=s/\∀v∈rest,carriedByValue v=true) _ ?_ ?_ _ _ ⟨rfl,rfl,hi.byValue⟩
 ·rintro v rest r s' ⟨hr,rfl,hall⟩;rw[eqIsQuiet_byValue _ (hall v List.mem_cons_self)];refine ff (fg ?_);simp only[Bool.not_true,Bool.false_eq_true,if_false];exact fg ⟨rfl,rfl,fun u hu'=>hall u (List.mem_cons_of_mem _ hu')⟩
 ·rintro⟨r1,r2⟩ s' ⟨hr,rfl,_⟩;simp only at hr;subst hr;exact fg h
theorem Dx{k:NK}{a:Addr}{Q:Bool->Shared->Prop}(hk:jG P w s.heap k a)(h:Q true s):wpAny (model P w) A (eqIsQuiet 8 (.ref a)) Q E s:=by
 have hT:=hk.typeIs;obtain⟨o,t,b,n,ho,_,hd,hi⟩:=hk;unfold eqIsQuiet;refine ff (wpAny_specialOf hT PySem.F.slot_tuple_eq.lookup ?_);show wpAny _ _ (isInstance (.ref a) (.type "tuple")>>=_) _ _ s;refine ff (wpAny_isInstance hT isSubtype_tuple_tuple ?_);simp only[Bool.not_true,Bool.false_eq_true,if_false];refine ff (wpAny_seqItems ho hd ?_);refine ff ?_;show wpAny _ _ (forIn #[Value.int k.1 t,Value.ref b] _ _) _ _ s;rw[<-Array.forIn_toList];refine wpAny_forIn_list _ (fun rest r s'=>r.1=none/\s'=s/\(rest=[Value.int k.1 t,Value.ref b]\/rest=[Value.ref b]\/rest=[])) _ ?_ ?_ _ _ ⟨rfl,rfl,.inl rfl⟩
 ·rintro v rest r s' ⟨hr,rfl,(e | e | e)⟩
  ·obtain⟨rfl,rfl⟩:=List.cons.inj e;rw[eqIsQuiet_byValue _ (show carriedByValue (Value.int k.1 t)=true from rfl)];refine ff (fg ?_);simp only[Bool.not_true,Bool.false_eq_true,if_false];exact fg ⟨rfl,rfl,.inr (.inl (by trivial))⟩
  ·obtain⟨rfl,rfl⟩:=List.cons.inj e;refine ff (LL hi ?_);simp only[Bool.not_true,Bool.false_eq_true,if_false];exact fg ⟨rfl,rfl,.inr (.inr (by trivial))⟩
  ·cases e
 ·rintro⟨r1,r2⟩ s' ⟨hr,rfl,_⟩;simp only at hr;subst hr;exact fg h
end
def j3(P:Program)(w:World):HeapKind P w NK where
 is:=jG P w
 hash:=xT P w
 draws:=fun k=>k.2.length+3
 room:=fun A=>A.units+1<cLine
 inj:=fun hx hy=>hx.inj hy
 keeps:=fun x ho hd hs=>x.keeps ho hd hs
 pyHash:=fun hu hk h=>A5 hu hk h
 eqBool:=fun hu hx hy h=>A6 hu hx hy h
 quiet:=fun hk h=>Dx hk h
def tu(H:Hp)(k:NK)(a:Addr):Prop:=∃b,H a=some (.tup [.int k.1,.ref b])/\H b=some (.tup (k.2.map oV))
theorem Dy{P:Program}{w:World}:∀{ks:List (Option Int)} {us:List Value},Vals (ks.map oV) us->ItemsAre (optKind P w) ks us
 | [],_,r=>by rw[List.map_nil]at r;cases r;exact .nil
 | k::ks,_,r=>by
  rw[el]at r;cases r with
  | cons h t=>exact .cons (Qm h) (Dy t)
theorem tu.is{P:Program}{w:World}{H:Hp}{h:Heap}{k:NK}{a:Addr}(ok:iT P w H h)(e:tu H k a):jG P w h k a:=by obtain⟨b,e1,e2⟩:=e;obtain⟨_,its,r,o,h1,h2,n,h3⟩:=(show bu P w H h a (.tup [.int k.1,.ref b])from ok a _ e1);obtain⟨_,its',r',o',g1,g2,n',g3⟩:=(show bu P w H h b (.tup (k.2.map oV))from ok b _ e2);obtain⟨u,v,rfl,ru,rv⟩:=vals2 r;obtain⟨t,rfl⟩:=(show ∃t,u=Value.int k.1 t from ru);obtain rfl:v=Value.ref b:=rv;exact⟨o,t,b,n,h1,h2,h3,o',its'.toArray,n',g1,g2,g3,by simpa using Dy r'⟩
abbrev A7(x:NK×Addr):NK×Addr×Value:=(x.1,x.2,Value.bool true)
def dN(P:Program)(w:World)(l:Addr)(xs:List (NK×Addr)):HO:=.ext fun h=>(l==sysModules)=false/\xs.length<=fw/\∃o es ep,h.get? l=some o/\o.ExactDict/\o.data=.dict es ep/\es.toList=(xs.map A7).map (entryOfKey (j3 P w))/\(xs.map (·.1)).Nodup
def fz(P:Program)(w:World)(H:Hp)(l:Addr)(xs:List (NK×Addr)):Prop:=H l=some (dN P w l xs)/\∀x∈xs,tu H x.1 x.2
def putN(xs:List (NK×Addr))(k:NK)(a:Addr):List (NK×Addr):=if k∈xs.map (·.1)then xs else xs++ [(k,a)]
theorem Dz(xs:List (NK×Addr))(k:NK):(atKey (xs.map A7) k).isSome=decide (k∈xs.map (·.1)):=by
 unfold atKey;rw[Option.isSome_map,Bool.eq_iff_iff,List.find?_isSome,decide_eq_true_iff];constructor
 ·rintro⟨x,hx,e⟩;obtain⟨y,hy,rfl⟩:=List.mem_map.mp hx;rw[<-of_decide_eq_true e];exact List.mem_map.mpr ⟨y,hy,rfl⟩
 ·intro hk;obtain⟨y,hy,rfl⟩:=List.mem_map.mp hk;exact⟨A7 y,List.mem_map.mpr ⟨y,hy,rfl⟩,decide_eq_true rfl⟩
theorem A8(xs:List (NK×Addr))(k:NK)(a:Addr):storedH (xs.map A7) k a (Value.bool true)=(putN xs k a).map A7:=by
 unfold storedH putN;rw[Dz];by_cases h:k∈xs.map (·.1)
 ·rw[if_pos (decide_eq_true h),if_pos h,List.map_map];refine List.map_congr_left fun x _=>?_;show(if x.1=k then (x.1,x.2,Value.bool true)else A7 x)=A7 x;split<;>rfl
 ·rw[if_neg (by simpa using h),if_neg h,List.map_append];rfl
theorem zL(xs:List (NK×Addr)):(xs.map A7).map (·.1)=xs.map (·.1):=by rw[List.map_map];rfl
theorem JT{P:Program}{w:World}{H:Hp}{h:Heap}{l:Addr}{xs:List (NK×Addr)}(a:(l==sysModules)=false)(b:xs.length<=fw)(d:h.DictOfH (j3 P w) l (xs.map A7)):bu P w H h l (dN P w l xs):=by obtain⟨o,es,ep,g,g2,g3,g4,_,g5⟩:=d;refine⟨⟨a,b,o,es,ep,g,g2,g3,g4,by rw[<-zL];exact g5⟩,⟨o,g⟩,?_⟩;rintro h1 h2 ⟨a',b',o,es,ep,g,r⟩ e;exact⟨a',b',o,es,ep,e _ g,r⟩
theorem Qz{P:Program}{w:World}{H:Hp}{h:Heap}{a:Addr}{xs:List (NK×Addr)}(ok:iT P w H h)(e:fz P w H a xs):(a==sysModules)=false/\xs.length<=fw/\h.DictOfH (j3 P w) a (xs.map A7):=by obtain⟨a1,a2,o,es,ep,g,g2,g3,g4,g5⟩:=(show bu P w H h a (dN P w a xs)from ok a _ e.1).1;refine⟨a1,a2,o,es,ep,g,g2,g3,g4,fun x hx=>?_,by rw[zL];exact g5⟩;obtain⟨y,hy,rfl⟩:=List.mem_map.mp hx;exact(e.2 y hy).is ok
theorem tu.upd{H:Hp}{k:NK}{a p:Addr}{o o':HO}(e:tu H k a)(h:H p=some o)(n:∀xs,o≠.tup xs):tu (upd H p o') k a:=by obtain⟨b,e1,e2⟩:=e;exact⟨b,by rw[aw (jJ e1 h (fun z=>n _ z.symm))];exact e1,by rw[aw (jJ e2 h (fun z=>n _ z.symm))];exact e2⟩
section
variable {X:Cx}{pos pos':Pos}{o i value:Expr}{td ty tv:TE}
def QA(P:Program)(w:World):TE:=fun _ H Q=>∀p,H p=none->Q (.ref p) (upd H p (dN P w p []))
theorem Hq:PE X (.Dict [] [] pos) (QA X.prog X.w):=fun kb s σ H Q I h=>
 wpAny_Dict_empty ⟨.ref s.heap.objs.size,_,I.laid (a:=s.heap.objs.size) (o:=dN X.prog X.w s.heap.objs.size []) (t':=s.toks) (fun _ _ q=>gs _ q) (mf _)
  (JT (beq_eq_false_iff_ne.mpr (Ne.symm (mi I.big))) (Nat.zero_le _) (Heap.DictOfH.new s.heap)),rfl,h _ (I.hok.fresh (mf _))⟩
def QB(P:Program)(w:World)(td ty tv:TE):TS:=fun D σ H=>tv σ H fun v H1=>td σ H1 fun x H2=>ty σ H2 fun y H3=>∃a b xs k,v=.bl true/\x=.ref a/\y=.ref b/\fz P w H3 a xs/\tu H3 k b/\xs.length<fw/\D.nx σ (upd H3 a (dN P w a (putN xs k b)))
theorem Hr(hu:X.A.units+2<cLine)(ho:PE X o td)(hi:PE X i ty)(hv:PE X value tv)(hs:swapsWith value (some (.Subscript o i pos')) pos.line X.env=pure false):PS X (.Assign [.Subscript o i pos'] value pos) (QB X.prog X.w td ty tv):=by
 intro kb s σ H D I h;refine wpAny_Assign_Subscript (ck (hv kb s σ H _ I h) fun r s1 ⟨v,H1,I1,rv,q1⟩=>ck (ho kb s1 σ H1 _ I1 q1) fun u s2 ⟨x,H2,I2,rx,q2⟩=>ck (hi kb s2 σ H2 _ I2 q2) fun iv s3 ⟨y,H3,I3,ry,a,b,xs,k,ev,ex,ey,e,ek,l,q3⟩=>?_) hs;subst ev ex ey;obtain rfl:u=Value.ref a:=rx;obtain rfl:iv=Value.ref b:=ry;obtain rfl:r=Value.bool true:=rv;obtain⟨z1,z2,dd⟩:=Qz I3.hok e;refine wpAny_setItem_heap (knd:=j3 X.prog X.w) (hsz:=by rw[List.length_map];exact z2) (by show X.A.units+1+1<cLine;exact hu) (ek.is I3.hok) dd fun h' AJ hs=>?_;have he:∃q,h'.get? a=some q:=by obtain⟨q,_,_,hq,_⟩:=AJ;exact⟨q,hq⟩
 rw[A8]at AJ;have hl:(putN xs k b).length<=fw:=by
  unfold putN;split
  ·exact z2
  ·rw[ar];exact l
 exact⟨σ,_,oz I3 (by rw[e.1];exact True.intro) hs he (JT z1 hl AJ),q3⟩
variable {A:Around}{E:Value->Shared->Prop}{s:Shared}{P:Program}{w:World}
theorem DA{it d:Addr}{i ep:Nat}{od:Obj}{es:Array DictEntry}{Q:Option Value->Shared->Prop}(hit:s.heap.IsKeyIter it d i es.size ep)(g:s.heap.get? d=some od)(g2:od.data=.dict es ep)(hi:i<es.size)
  (q:∀h',h'.IsKeyIter it d (i+1) es.size ep->Heap.SameBut it s.heap h'->Q (some es[i].key) {s with heap:=h'}):wpAny (model P w) A (pyNext (.ref it)) Q E s:=by
 have T:=hit.typeIs;obtain⟨o,e1,e2,e3⟩:=id hit;unfold pyNext;refine ff (wpAny_attempt (wpAny_callSpecial?_slot (name:=Str.ofString "__next__") T F.slot_dict_keyiterator_next (gr F.slot_dict_keyiterator_next T F.entry_dict_keyiterator_next ?_ (F.args_dict_keyiterator_next_1 _))));refine ff (fg (ff (ff ?_)))
 first | refine ff (wpAny_typeNameOfWhole_keyiter T (fg ?_)) | refine ff (wpAny_typeNameOf_keyiter T (fg ?_))
 refine ff (wpAny_fieldsOf e1 e3 ?_);simp only[show Builtin.Dict_items.ownsTuple "dict_keyiterator"=false from by decide,Bool.false_eq_true,if_false];show wpAny _ _ (if (Value.ref d==Value.none)=true then _ else _) _ _ s;rw[if_neg (c:=(Value.ref d==Value.none)=true) (fun z=>mx z)];refine ff (fg (ff (wpAny_dictEntries g g2 ?_)));rw[if_neg (by simp)];refine ff (fg (ff (wpAny_dictEpoch g g2 ?_)));rw[if_neg (by simp)];refine fg ?_;have hn:¬((i:Int)<0):=by omega
 simp only[hn,if_false,nn,Array.getElem?_eq_getElem hi];refine ff ?_
 first | refine ff (wpAny_typeNameOfWhole_keyiter T (fg ?_)) | refine ff (wpAny_typeNameOf_keyiter T (fg ?_))
 refine ff (wpAny_isOneOf_keyiter T ?_);show wpAny _ _ (setField (.ref it) 1 (rawInt ((i:Int)+1))>>=_) _ _ s;refine ff (wpAny_setField e1 e3 (by simp) ?_);have n:(s.heap.update it (Obj.mapFields (·.setIfInBounds 1 (rawInt ((i:Int)+1))))).IsKeyIter it d (i+1) es.size ep :=
  ⟨_,Heap.get?_update_self _ e1 (Obj.isFreed_of_fields (Obj.data_mapFields e3 _)),(Obj.cls_mapFields ..).trans e2,by rw[Obj.data_mapFields e3];simp[rawInt]⟩
 refine ff (wpAny_holding (ff (wpAny_isOneOf_keyiter (s:={s with heap:=s.heap.update it (Obj.mapFields (·.setIfInBounds 1 (rawInt ((i:Int)+1))))}) n.typeIs ?_)));show wpAny _ _ (pure es[i].key) _ _ _;exact fg (fg ⟨_,rfl,fg (q _ n (Heap.SameBut.update ..))⟩)
theorem Hs{it d:Addr}{i ep:Nat}{od:Obj}{es:Array DictEntry}{Q:Option Value->Shared->Prop}(hh:A.handled=none)(hit:s.heap.IsKeyIter it d i es.size ep)(g:s.heap.get? d=some od)(g2:od.data=.dict es ep)(hi:es.size<=i)
  (q:∀h',Heap.ExtBut it s.heap h'->Q none {s with heap:=h'}):wpAny (model P w) A (pyNext (.ref it)) Q E s:=by
 have T:=hit.typeIs;obtain⟨o,e1,e2,e3⟩:=id hit;unfold pyNext;refine ff (wpAny_attempt (wpAny_callSpecial?_slot (name:=Str.ofString "__next__") T F.slot_dict_keyiterator_next (gr F.slot_dict_keyiterator_next T F.entry_dict_keyiterator_next ?_ (F.args_dict_keyiterator_next_1 _))));refine ff (fg (ff (ff ?_)))
 first | refine ff (wpAny_typeNameOfWhole_keyiter T (fg ?_)) | refine ff (wpAny_typeNameOf_keyiter T (fg ?_))
 refine ff (wpAny_fieldsOf e1 e3 ?_);simp only[show Builtin.Dict_items.ownsTuple "dict_keyiterator"=false from by decide,Bool.false_eq_true,if_false];show wpAny _ _ (if (Value.ref d==Value.none)=true then _ else _) _ _ s;rw[if_neg (c:=(Value.ref d==Value.none)=true) (fun z=>mx z)];refine ff (fg (ff (wpAny_dictEntries g g2 ?_)));rw[if_neg (by simp)];refine ff (fg (ff (wpAny_dictEpoch g g2 ?_)));rw[if_neg (by simp)];refine fg ?_;have hn:¬((i:Int)<0):=by omega
 simp only[hn,if_false,nn,Array.getElem?_eq_none hi];refine ff ?_
 first | refine ff (wpAny_typeNameOfWhole_keyiter T (fg ?_)) | refine ff (wpAny_typeNameOf_keyiter T (fg ?_))
 show wpAny _ _ (setField (.ref it) 0 .none>>=_) _ _ s;refine ff (wpAny_setField e1 e3 (by simp) ?_);show wpAny _ _ (newExc (.type "StopIteration") [] >>=_) _ _ _;refine ff ?_;simp only[newExc,newTuple];refine ff (wpAny_newObj_type (ff (m:=firstArgMember _ _) (wpAny_of_eq (a:=Value.none) (by first | rfl | (simp only[firstArgMember];rfl)) (wpAny_newObj_type ?_ (by size_fits)))) (by size_fits));simp only[raiseNew];refine ff (wpAny_handled ?_);rw[show A.in1.handled=none from hh];refine ff (fg (wpAny_throw ?_));refine ff (wpAny_isInstance (b:=true) (T :="StopIteration") ⟨_,gv _ rfl,rfl⟩ isSubtype_stop ?_);exact fg (q _ (((Heap.SameBut.update ..).extBut.push _).push _))
theorem DB{d:Addr}{ep:Nat}{od:Obj}{es:Array DictEntry}{Q:Value->Shared->Prop}(hd:(d==sysModules)=false)(g:s.heap.get? d=some od)(gc:od.ExactDict)(g2:od.data=.dict es ep)
  (q:Q (.ref s.heap.objs.size) {s with heap:=s.heap.push {cls:=.type "dict_keyiterator",data:=.fields #[.ref d,.int 0 0,.int es.size 0,.int ep 0]}}):wpAny (model P w) A (pyIter (.ref d)) Q E s:=by
 have T:s.TypeIs (.ref d) "dict":=⟨od,g,gc.1⟩;refine wpAny_pyIter_slot T F.slot_dict_iter (gr F.slot_dict_iter T F.entry_dict_iter ?_ (F.args_dict_iter_1 _));unfold Builtin.«dict.__iter__»;refine ff ?_;unfold Builtin.Dict.dictSlotNone;refine ff (wpAny_notOrdered_dict T ?_);show wpAny _ _ (pure (Value.ref d)) _ _ s;refine fg ?_;show wpAny _ _ (Builtin.Dict.showsAll d>>=_) _ _ s;unfold Builtin.Dict.showsAll;rw[if_neg (c:=(d==sysModules)=true) (fun z=>by rw[hd]at z;cases z)];refine ff (fg (ff (wpAny_dictEntries g g2 (ff (wpAny_dictEpoch g g2 ?_)))));refine ff (wpAny_newObj_type (fg ⟨_,rfl,"dict_keyiterator",_,⟨_,gv _ rfl,rfl⟩,F.slot_dict_keyiterator_next.lookup,?_⟩));simpa[rawInt] using q
variable {kb:List (Addr×Obj)}{σ:St}{H:Hp}{a:Addr}
theorem Inv.Ht{φ:Heap->Prop}(I:Inv X kb σ H s)(e:H a=some (.ext φ)):NF X a/\∃o,s.heap.get? a=some o/\Inv X kb σ (upd H a (.jr o (.ext φ))) s:=by
 obtain⟨z,⟨ob,g⟩,y⟩:=(show bu X.prog X.w H s.heap a (.ext φ)from I.hok a _ e);refine⟨fun o u h=>?_,ob,g,?_⟩
 ·have:=I.base.jS a o u h;rw[e]at this;cases this
 ·exact I.write (x:=a) (e:=a) (h':=s.heap) (t':=s.toks) (by rw[e];exact True.intro) (.inl rfl) (fun b u _ q=>q) ⟨ob,g⟩ ⟨g,z,⟨ob,g⟩,y⟩
theorem Inv.QC{o:Obj}{φ:Heap->Prop}(I:Inv X kb σ H s)(e:H a=some (.jr o (.ext φ)))(n:NF X a):Inv X kb σ (upd H a (.ext φ)) s:=by
 have x:bu X.prog X.w H s.heap a (.jr o (.ext φ)):=I.hok a _ e;have ne:∀b u,H b=some u->(∀o' u',u≠.jr o' u')->b≠a:=fun b u h hn=>jJ h e (hn _ _);refine⟨I.ok,I.os,I.bare,⟨I.base.keep,I.base.slot,fun b ob q nb hx=>?_,I.base.there,fun b xs q=>?_,fun b ob u q=>?_,fun b ps q=>?_⟩,I.loc,I.cell,?_,fun y c hc=>?_,fun p hp=>?_,fun b u q=>?_,I.len⟩
 ·have h:=I.base.free b ob q nb hx;rw[aw (fun z=>by rw[z,e]at h;cases h)];exact h
 ·have h:=I.base.tups b xs q;rw[aw (ne b _ h (by intro _ _ z;cases z))];exact h
 ·have h:=I.base.jS b ob u q;have hb:b≠a:=fun z=>n ob u (by rw[<-z];exact q);rw[aw hb];exact h
 ·obtain⟨more,h⟩:=I.base.ly b ps q;refine⟨more,?_⟩;rw[aw (ne b _ h (by intro _ _ z;cases z))];exact h
 ·rw[aw (fun z=>by have:=I.free;rw[z,e]at this;cases this)];exact I.free
 ·rw[aw (fun z=>by have:=I.e9 y c hc;rw[z,e]at this;cases this)];exact I.e9 y c hc
 ·obtain⟨p1,p2,p3⟩:=I.pin p hp;refine⟨p1,?_,p3⟩;rw[aw (fun z=>by rw[z,e]at p2;cases p2)];exact p2
 ·by_cases hb:b=a
  ·subst hb;rw[ah]at q;cases q;exact x.2.stay (fun c v _ q=>q) (fun c q=>by rw[aw (ne c _ q (by intro _ _ z;cases z))];exact q) fun c xs q=>by rw[aw (ne c _ q (by intro _ _ z;cases z))];exact q
  ·rw[aw hb]at q;exact(I.hok b u q).stay (fun c v _ q=>q) (fun c q=>by rw[aw (ne c _ q (by intro _ _ z;cases z))];exact q) fun c xs q=>by rw[aw (ne c _ q (by intro _ _ z;cases z))];exact q
end
def LM(X:Cx)(t:TS):TS:=fun D σ H=>t {D with nx:=fun σ' H'=>∃a o φ,H' a=some (.jr o (.ext φ))/\NF X a/\D.nx σ' (upd H' a (.ext φ))} σ H
theorem DC{X:Cx}{st:Stmt}{t:TS}(h:PS X st t):PS X st (LM X t):=fun kb s σ H D I hw=>
 ge (h kb s σ H _ I hw) (fun f s' q=>by
  cases f with
  | next=>
   obtain⟨σ',H',I',a,o,kvs,ea,n,q⟩:=q;exact⟨σ',_,I'.QC ea n,q⟩
  | brk=>exact q
  | cont=>exact q
  | ret u=>exact q) fun _ _ z=>z
def QD(P:Program)(w:World)(a:Addr)(o:Obj)(xs:List (NK×Addr)):It :=
 ⟨fun i H=>H a=some (.jr o (dN P w a xs))/\i<xs.length,fun i H x H'=>H'=H/\∃y,xs[i]? =some y/\x=.ref y.2,fun i H=>H a=some (.jr o (dN P w a xs))/\xs.length<=i⟩
theorem LN{X:Cx}{kb:List (Addr×Obj)}{σ:St}{H:Hp}{s:Shared}{a:Addr}{o:Obj}{xs:List (NK×Addr)}(I:Inv X kb σ H s)(e:H a=some (.jr o (dN X.prog X.w a xs))):
  (a==sysModules)=false/\s.heap.get? a=some o/\o.ExactDict/\∃es ep,o.data=.dict es ep/\es.toList=(xs.map A7).map (entryOfKey (j3 X.prog X.w)):=by
 obtain⟨g,⟨y,z,ob,es,ep,g',c1,c2,c3,_⟩,_⟩:=(show bu X.prog X.w H s.heap a (.jr o (dN X.prog X.w a xs))from I.hok a _ e);rw[g]at g';cases g';exact⟨y,g,c1,es,ep,c2,c3⟩
theorem zM{P:Program}{w:World}{es:Array DictEntry}{xs:List (NK×Addr)}(h:es.toList=(xs.map A7).map (entryOfKey (j3 P w))):es.size=xs.length:=by rw[<-Array.length_toList,h,List.length_map,List.length_map]
theorem LO{P:Program}{w:World}{es:Array DictEntry}{xs:List (NK×Addr)}(h:es.toList=(xs.map A7).map (entryOfKey (j3 P w))){i:Nat}{y:NK×Addr}(hy:xs[i]? =some y)(hi:i<es.size):es[i].key=Value.ref y.2:=by
 have e1:es.toList[i]? =some es[i]:=by rw[Array.getElem?_toList,Array.getElem?_eq_getElem hi]
 rw[h,ac,ac,hy]at e1;have e2:=Option.some.inj e1;rw[<-e2];rfl
theorem xV{P:Program}{w:World}{K:i8}{tg:Expr}(a it:Addr)(o:Obj)(xs:List (NK×Addr)){es:Array DictEntry}{ep:Nat}(ho:o.data=.dict es ep):
  Turn P w K tg (QD P w a o xs) [it] it (fun i h=>h.IsKeyIter it a i es.size ep) where
 mem:=by simp
 obj:=fun i h st b hb=>by obtain⟨ob,eo,c,d⟩:=st;rw[bd.mp hb];exact⟨ob,eo,fun v z=>by rw[d]at z;cases z⟩
 keep:=fun i h h' st k=>st.at fun ob eo=>k it (by simp) ob eo
 item:=by intro X hP hw hK hc i kb s σ H E I hf st hg;subst hP hw hK;obtain⟨ha,hi⟩:=hg;obtain⟨y,g,gc,es',ep',ho',r⟩:=LN I ha;rw[ho]at ho';cases ho';have hl:=zM r;have hk1:xs[i]? =some xs[i]:=aa hi;refine DA st g ho (by rw[hl];exact hi) fun h' hit' hs'=>?_;rw[LO r hk1];refine⟨_,rfl,?_⟩;obtain⟨ob',eo',c',d'⟩:=id hit';obtain⟨f0,f1,f2,f3,f4,f5⟩:=hf it (by simp);refine zq (n :="dict_keyiterator") eo' c' d' (by decide) ?_;exact⟨.ref xs[i].2,H,I.turned (t':=s.toks) (fun b o hb e=>(hs'.2 b hb).trans e) f0 f1 f3 f4 f5,rfl,⟨rfl,xs[i],hk1,rfl⟩,hit',fun b hb=>(hf b hb).1⟩
 done:=by intro X hP hw hK hc i kb s σ H E I hf st hg;subst hP hw hK;obtain⟨ha,hi⟩:=hg;obtain⟨y,g,gc,es',ep',ho',r⟩:=LN I ha;rw[ho]at ho';cases ho';have hl:=zM r;obtain⟨f0,f1,f2,f3,f4,f5⟩:=hf it (by simp);exact Hs (I.ok.hd hc) st g ho (by rw[hl];exact hi) fun h' eb=>⟨rfl,I.turned (t':=s.toks) (fun b o hb e=>eb b o hb e) f0 f1 f3 f4 f5⟩
 self:=fun _ _ _ _ _ st h=>wpAny_pyIter_keyiter st h
def LP(X:Cx)(td:TE):TI:=fun σ H R=>td σ H fun x H1=>∃a xs,x=.ref a/\H1 a=some (dN X.prog X.w a xs)/\∀o,NF X a->R (QD X.prog X.w a o xs) (upd H1 a (.jr o (dN X.prog X.w a xs)))
theorem DE{X:Cx}{tg e:Expr}{td:TE}(hd:PE X e td):PI X tg e (LP X td):=by
 intro kb s σ H R I h;refine ck (hd kb s σ H _ I h) fun u s1 ⟨x,H1,I1,rx,a,xs,ex,ea,q⟩=>?_;subst ex;obtain rfl:u=Value.ref a:=rx;obtain⟨nf,o,ho,I2⟩:=I1.Ht ea;obtain⟨y,g,gc,es,ep,hod,r⟩:=LN I2 (ah (H:=H1) (a:=a));refine DB y g gc hod ?_;have hn:=I2.hok.fresh (mf s1.heap.objs.size);refine⟨s1.heap.objs.size,[s1.heap.objs.size],_,_,_,rfl,I2.kept (t':=s1.toks) (fun b o e=>gs _ e),xV a _ o xs hod,?_,fun b hb=>?_,q o nf⟩
 ·exact⟨_,gv _ rfl,rfl,rfl⟩
 ·rw[bd.mp hb];exact I2.wX (mf _) hn
theorem A9{P:Program}{w:World}{a:Addr}{o:Obj}{xs:List (NK×Addr)}{g:TG}{tb:TS}{D:Ends}{σ:St}{H:Hp}(Pv:Nat->St->Hp->Prop)(h0:Pv 0 σ H)(hl:∀i σ H,i<=xs.length->Pv i σ H->H a=some (.jr o (dN P w a xs)))
  (hs:∀i y σ H,xs[i]? =some y->Pv i σ H->g (.ref y.2) σ H fun σ2 H2=>tb {D with nx:=Pv (i+1),ct:=Pv (i+1),bk:=D.nx} σ2 H2) (hd:∀σ H,Pv xs.length σ H->D.nx σ H):
  ∃W:Nat->Nat->St->Hp->Prop,(∃m,W 0 m σ H)/\∀i m σ H,W i m σ H->
   ((QD P w a o xs).stop i H/\D.nx σ H)\/((QD P w a o xs).go i H/\∃N:St->Hp->Prop,(∀σ' H',N σ' H'->∃m',m'<m/\W (i+1) m' σ' H')/\∀x H',(QD P w a o xs).Au i H x H'->g x σ H' fun σ2 H2=>tb {D with nx:=N,ct:=N,bk:=D.nx} σ2 H2):=by
 refine⟨fun i m σ H=>m=xs.length-i/\i<=xs.length/\Pv i σ H,⟨xs.length,by simp,Nat.zero_le _,h0⟩,?_⟩;rintro i m σ H ⟨rfl,hi,p⟩;have q:=hl i σ H hi p;by_cases hlt:i<xs.length
 ·refine .inr ⟨⟨q,hlt⟩,Pv (i+1),fun σ' H' p'=>⟨xs.length- (i+1),by omega,rfl,hlt,p'⟩,fun x H' y=>?_⟩;obtain⟨rfl,v,e,rfl⟩:=y;exact hs i v σ _ e p
 ·have e:i=xs.length:=by omega
  subst e;exact .inl ⟨⟨q,mf _⟩,hd σ H p⟩
open PySem PySem.Spec PyProof.Rows
def DF(K:i8)(a b:Addr):It :=
 ⟨fun i H=>∃xs x ys y,aT K H a xs/\xs[i]? =some x/\aT K H b ys/\ys[i]? =some y,
   fun i H v H'=>∃t x y,H t=none/\v=.ref t/\H'=upd H t (.tup [x,y])/\(∀xs,aT K H a xs->xs[i]? =some x)/\∀ys,aT K H b ys->ys[i]? =some y,
   fun i H=>∃xs ys,aT K H a xs/\aT K H b ys/\(xs.length<=i\/ys.length<=i)⟩
theorem Ba{P:Program}{w:World}{K:i8}{elts:List Expr}{x1}{pos:Pos}(a b z TI TO i1 i2:Addr)(D:ZipApart z TI TO i1 i2 a b):
  Turn P w K (.Tuple elts x1 pos) (DF K a b) [z,TI,TO,i1,i2] z (fun i h=>IsZip h z TI TO .none/\IsPair h TI (.ref i1) (.ref i2)/\(∃u v,IsPair h TO u v)/\h.IsListIter i1 a i/\h.IsListIter i2 b i) where
 mem:=by simp
 obj:=fun i h st c hc=>by
  obtain⟨s1,s2,⟨u,v,s3⟩,⟨o4,s4,_,d4⟩,⟨o5,s5,_,d5⟩⟩:=st;have hc':c=z\/c=TI\/c=TO\/c=i1\/c=i2:=by simpa using hc
  rcases hc' with rfl | rfl | rfl | rfl | rfl
  ·exact⟨_,s1,fun v q=>by have q':Data.fields _=Data.cell v:=q;cases q'⟩
  ·exact⟨_,s2,fun v q=>by have q':Data.seq _ _=Data.cell v:=q;cases q'⟩
  ·exact⟨_,s3,fun v q=>by have q':Data.seq _ _=Data.cell v:=q;cases q'⟩
  ·exact⟨o4,s4,fun v q=>by rw[d4]at q;cases q⟩
  ·exact⟨o5,s5,fun v q=>by rw[d5]at q;cases q⟩
 keep:=fun i h h' st k=>⟨k z (by simp) _ st.1,k TI (by simp) _ st.2.1,st.2.2.1.elim fun u q=>q.elim fun v q=>⟨u,v,k TO (by simp) _ q⟩,st.2.2.2.1.at fun o e=>k i1 (by simp) o e,st.2.2.2.2.at fun o e=>k i2 (by simp) o e⟩
 item:=by
  intro X hP hw hK hc i kb s σ H E I hf st hg;subst hP hw hK;obtain⟨xs,x,ys,y,hq,hx,hq2,hy⟩:=hg;obtain⟨s1,s2,⟨u,v,s3⟩,s4,s5⟩:=st;obtain⟨its,rv,p,hz⟩:=I.list hq;obtain⟨its2,FY,p2,hz2⟩:=I.list hq2;obtain⟨ux,hux,VI⟩:=rv.get hx;obtain⟨uy,VJ,VL⟩:=FY.get hy;refine wpAny_pyNext_zip_item D s1 s2 s3 s4 s5 p.isList p2.isList (x:=ux) (y:=uy) (by simpa using hux) (by simpa using VJ) fun h1 a1 a2 a3 a4 a5 a6 k1=>?_;refine⟨_,rfl,wpAny_letOwnedTupleGo_zip a1 fun h2 b1 b2=>?_⟩;have nz:s.heap.objs.size≠z:=Nat.ne_of_gt (ii s1);have oC:=(b2.2 s.heap.objs.size nz).trans a5;have hk:∀c o,c∉ [z,TO,i1,i2]->s.heap.get? c=some o->h2.get? c=some o:=fun c o hb e'=>by
   have hb':c≠z/\c≠TO/\c≠i1/\c≠i2:=by simpa using hb
   exact(b2.2 c hb'.1).trans (k1 c o hb'.1 hb'.2.1 hb'.2.2.1 hb'.2.2.2 e')
  have hfr:H s.heap.objs.size=none:=I.hok.fresh (mf _)
  refine⟨.ref s.heap.objs.size,upd H s.heap.objs.size (.tup [x,y]),I.lO (t':=s.toks) hk (fun c hc=>hf c (by simp at hc ⊢;rcases hc with q | q | q | q<;>simp[q])) (mf _) ?_,rfl,
   ⟨_,x,y,hfr,rfl,rfl,fun zs hy'=>by rw[I.kf hy' hq];exact hx,fun zs hy'=>by rw[I.kf hy' hq2];exact hy⟩,⟨b1,?_,⟨ux,uy,?_⟩,a3.at fun o e=>(b2.2 i1 D.i1z).trans e,a4.at fun o e=>(b2.2 i2 D.i2z).trans e⟩,fun c hc=>?_⟩
  ·exact⟨by show 2<=fw;decide,[ux,uy],.cons VI (.cons VL .nil),⟨_,oC,rfl,_,rfl⟩⟩
  ·exact hk TI _ (by simp[D.TIz,D.TITO,D.TIi1,D.TIi2]) s2
  ·exact(b2.2 TO D.TOz).trans a2
  ·have:c≠s.heap.objs.size:=by
    have hc':c=z\/c=TI\/c=TO\/c=i1\/c=i2:=by simpa using hc
    rcases hc' with rfl | rfl | rfl | rfl | rfl
    ·exact Ne.symm nz
    ·exact mi (ii s2)
    ·exact mi (ii s3)
    ·obtain⟨o,e1,_⟩:=s4;exact mi (ii e1)
    ·obtain⟨o,e1,_⟩:=s5;exact mi (ii e1)
   rw[aw this];exact(hf c hc).1
 done:=by
  intro X hP hw hK hc i kb s σ H E I hf st hg;subst hP hw hK;obtain⟨xs,ys,hq,hq2,hx⟩:=hg;obtain⟨s1,s2,⟨u,v,s3⟩,s4,s5⟩:=st;obtain⟨its,rv,p,hz⟩:=I.list hq;obtain⟨its2,FY,p2,hz2⟩:=I.list hq2;have hl:=rv.length;have hl2:=FY.length
  exact wpAny_pyNext_zip_end (I.ok.hd hc) D s1 s2 s3 s4 s5 p.isList p2.isList (hx.imp (fun z=>by simp;omega) (fun z=>by simp;omega)) fun h' eb=>⟨rfl,I.zK (t':=s.toks) (its:=[z,TO,i1,i2]) (fun c o hb e=>by
   have hb':c≠z/\c≠TO/\c≠i1/\c≠i2:=by simpa using hb
   exact eb c o hb'.1 hb'.2.1 hb'.2.2.1 hb'.2.2.2 e) (fun c hc=>hf c (by simp at hc ⊢;rcases hc with q | q | q | q<;>simp[q]))⟩
 self:=fun _ _ _ _ _ st h=>wpAny_pyIter_zip st.1 h
section
variable {X:Cx}
def QE(K:i8)(ta:TA):TI:=fun σ H R=>ta σ H fun vs H1=>∃a b,vs=[.ref a,.ref b]/\(∃xs,aT K H1 a xs)/\(∃ys,aT K H1 b ys)/\R (DF K a b) H1
theorem Hu{a b:Expr}{ta:TA}{p pos:Pos}{elts:List Expr}{x1}{tpos:Pos}(hg:Gl X "zip")(hm:X.mg "zip"=none)(ha:PA X [a,b] ta)
  (hs:starEach [a,b] X.env=[(false,eval a X.env),(false,eval b X.env)]:=by rfl) (hs2:starEach [b] X.env=[(false,eval b X.env)]:=by rfl):PI X (.Tuple elts x1 tpos) (.Call (.Name "zip" p) [a,b] [] pos) (QE X.K ta):=by
 intro kb s σ H R I h;refine Call_ (ip I hg hm xS (PyProof.Rows.callWith_type1 (ck (ha pos kb s σ H _ I h) fun us s1 ⟨vs,H1,I1,r1,q1⟩=>?_) (by rw[hs,hs2]) (by rw[hs2];rfl)));obtain⟨a,b,e,⟨xs,hq⟩,⟨ys,hq2⟩,q⟩:=q1;subst e;obtain⟨u,v,rfl,ru,rv⟩:=vals2 r1;cases ru;cases rv;obtain⟨its,rv,p,hz⟩:=I1.list hq;obtain⟨its2,FY,p2,hz2⟩:=I1.list hq2;have la:a<s1.heap.objs.size:=by obtain⟨o,e,_⟩:=p.isList;exact ii e
 have lb:b<s1.heap.objs.size:=by obtain⟨o,e,_⟩:=p2.isList;exact ii e
 refine call_zip_2 p.isList p2.isList fun h' g1 g2 g3 g4 g5 g6 hk=>?_;refine wpAny_pyIter_zip g1 ?_;have D:ZipApart (s1.heap.objs.size+4) (s1.heap.objs.size+2) (s1.heap.objs.size+3) s1.heap.objs.size (s1.heap.objs.size+1) a b:=PySem.W.ktu_apart _ _ _ la lb;refine⟨s1.heap.objs.size+4,[s1.heap.objs.size+4,s1.heap.objs.size+2,s1.heap.objs.size+3,s1.heap.objs.size,s1.heap.objs.size+1],_,_,H1,rfl,I1.kept (t':=s1.toks) hk,Ba a b _ _ _ _ _ D,⟨g1,g2,⟨_,_,g3⟩,g4,g5⟩,fun c hc=>?_,q⟩;have hc':s1.heap.objs.size<=c:=by
  have hc':c=s1.heap.objs.size+4\/c=s1.heap.objs.size+2\/c=s1.heap.objs.size+3\/c=s1.heap.objs.size\/c=s1.heap.objs.size+1:=by simpa using hc
  rcases hc' with q | q | q | q | q<;>rw[q]
  ·exact Nat.le_add_right _ _
  ·exact Nat.le_add_right _ _
  ·exact Nat.le_add_right _ _
  ·exact mf _
  ·exact Nat.le_add_right _ _
 exact I1.wX hc' (I1.hok.fresh hc')
theorem DG{K:i8}{a b:Addr}{xs ys:List V}(hlen:xs.length=ys.length){g:TG}{tb:TS}{D:Ends}{σ:St}{H:Hp}(Pv:Nat->St->Hp->Prop)(h0:Pv 0 σ H)(hl:∀i σ H,i<=xs.length->Pv i σ H->aT K H a xs/\aT K H b ys)
  (hs:∀i x y σ H t,xs[i]? =some x->ys[i]? =some y->H t=none->Pv i σ H->g (.ref t) σ (upd H t (.tup [x,y])) fun σ2 H2=>tb {D with nx:=Pv (i+1),ct:=Pv (i+1),bk:=D.nx} σ2 H2) (hd:∀σ H,Pv xs.length σ H->D.nx σ H):
  ∃W:Nat->Nat->St->Hp->Prop,(∃m,W 0 m σ H)/\∀i m σ H,W i m σ H->
   ((DF K a b).stop i H/\D.nx σ H)\/((DF K a b).go i H/\∃N:St->Hp->Prop,(∀σ' H',N σ' H'->∃m',m'<m/\W (i+1) m' σ' H')/\∀x H',(DF K a b).Au i H x H'->g x σ H' fun σ2 H2=>tb {D with nx:=N,ct:=N,bk:=D.nx} σ2 H2):=by
 refine⟨fun i m σ H=>m=xs.length-i/\i<=xs.length/\Pv i σ H,⟨xs.length,by simp,Nat.zero_le _,h0⟩,?_⟩;rintro i m σ H ⟨rfl,hi,p⟩;obtain⟨q,q2⟩:=hl i σ H hi p;by_cases hlt:i<xs.length
 ·have h1:xs[i]? =some xs[i]:=aa hlt;have h2:ys[i]? =some (ys[i]'(by omega)):=aa _;refine .inr ⟨⟨xs,_,ys,_,q,h1,q2,h2⟩,Pv (i+1),fun σ' H' p'=>⟨xs.length- (i+1),by omega,rfl,hlt,p'⟩,fun v H' y=>?_⟩;obtain⟨t,x,y,ht,rfl,rfl,e1,e2⟩:=y;exact hs i x y σ H t (e1 _ q) (e2 _ q2) ht p
 ·have e:i=xs.length:=by omega
  subst e;exact .inl ⟨⟨xs,ys,q,q2,.inl (mf _)⟩,hd σ H p⟩
abbrev xW(h:Heap)(z TI TO:Addr)(f0 f1:Value):Prop :=
 h.get? z=some {cls:=.type "zip",dict:=none,data:=.fields #[f0,f1,.bool false,.ref TI,.ref TO],slots:=#[]}
variable {prog:Program}{w:World}{A:Around}{E:Value->Shared->Prop}{s:Shared}
theorem lia{M:Model}{a:Addr}{o:Obj}{Q:Option Obj->Shared->Prop}(ho:s.heap.get? a=some o)(h:Q (some o) s):wpAny M A (loadIfAlive a) Q E s:=fun Γ p _=>by show Sem.wp _ _ (.loadIfAlive a _) _ _ _ _;rw[Sem.wp_loadIfAlive,ho];simpa using h
theorem zN{z TI TO T:Addr}{f1:Value}{o:Obj}{Q:Bool->Shared->Prop}(hf:f1=.bool false\/f1=.bool true)(g:xW s.heap z TI TO (rawInt T) f1)(gT:s.heap.get? T=some o)
  (q:∀h',xW h' z TI TO (rawInt T) (.bool true)->Heap.SameBut z s.heap h'->Q false {s with heap:=h'}):wpAny (model prog w) A (Builtin.SmallTypes.ownedTupleIsFree (.ref z)) Q E s:=by
 unfold Builtin.SmallTypes.ownedTupleIsFree;refine ff (wpAny_field g rfl (x:=rawInt T) rfl ?_);show wpAny _ _ (loadIfAlive (T:Int).toNat>>=_) _ _ _;rw[nn];refine ff (lia gT ?_);simp only[Option.isNone_some,Bool.false_eq_true,if_false];refine ff (wpAny_field g rfl (x:=f1) rfl ?_);rcases hf with rfl | rfl
 ·rw[if_pos (show(Value.bool false !=Value.bool true)=true from by decide)];exact ff (wpAny_setField_rec g (by simp) fun h' g' s'=>fg (q h' g' s'))
 ·rw[if_neg (show ¬(Value.bool true !=Value.bool true)=true from by decide)];exact fg (q s.heap g ⟨rfl,fun _ _=>rfl⟩)
theorem DI{z TI TO i1 i2 l1 l2 T:Addr}{k:Nat}{xs ys:Array Value}{x y f1:Value}{o:Obj}{Q:Option Value->Shared->Prop}(D:ZipApart z TI TO i1 i2 l1 l2)(hf:f1=.bool false\/f1=.bool true)
  (g:xW s.heap z TI TO (rawInt T) f1) (gT:s.heap.get? T=some o) (gI:IsPair s.heap TI (.ref i1) (.ref i2))
  (t1:s.heap.IsListIter i1 l1 k) (t2:s.heap.IsListIter i2 l2 k) (m1:s.heap.IsList l1 xs) (m2:s.heap.IsList l2 ys) (gx:xs[k]? =some x) (gy:ys[k]? =some y)
  (q:∀h',xW h' z TI TO (rawInt T) (.bool true)->h'.IsListIter i1 l1 (k+1)->h'.IsListIter i2 l2 (k+1)->IsPair h' s.heap.objs.size x y->h'.objs.size=s.heap.objs.size+1->
   (∀c o,c≠z->c≠i1->c≠i2->s.heap.get? c=some o->h'.get? c=some o)->Q (some (.ref s.heap.objs.size)) {s with heap:=h'}):wpAny (model prog w) A (pyNext (.ref z)) Q E s:=by
 have hT:s.TypeIs (.ref z) "zip":=⟨_,g,rfl⟩;unfold pyNext;refine ff (wpAny_attempt (wpAny_callSpecial?_slot (name:=Str.ofString "__next__") hT F.slot_zip_next (gr F.slot_zip_next hT F.entry_zip_next ?_ (F.args_zip_next_1 _))));show wpAny _ _ (field (.ref z) 2>>=_) _ _ _;refine ff (wpAny_field g rfl (x:=.bool false) rfl ?_);show wpAny _ _ (field (.ref z) 3>>=_) _ _ _;refine ff (wpAny_field g rfl (x:=.ref TI) rfl ?_);refine ff (wpAny_seqItems gI rfl ?_);show wpAny _ _ (Builtin.SmallTypes.ownedTupleIsFree (.ref z)>>=_) _ _ _;refine ff (zN hf g gT fun g1 z1 e1=>?_);simp only[Bool.false_eq_true,if_false];refine ff ?_;show wpAny _ _ (forIn (#[Value.ref i1,Value.ref i2]:Array Value) _ _) _ _ _;rw[<-Array.forIn_toList];simp only[List.forIn_cons,List.forIn_nil];refine ff (ff (wpAny_holding ?_));show wpAny _ _ (Builtin.SmallTypes.nextOf (.ref i1)>>=_) _ _ _;refine ff (wpAny_nextOf_list_item (t1.extBut e1.extBut D.i1z) (m1.extBut e1.extBut D.l1z) gx fun g2 VG e2=>fg (fg ?_));refine ff (ff (wpAny_holding ?_));show wpAny _ _ (Builtin.SmallTypes.nextOf (.ref i2)>>=_) _ _ _;refine ff (wpAny_nextOf_list_item ((t2.extBut e1.extBut D.i2z).extBut e2.extBut D.i12.symm) ((m2.extBut e1.extBut D.l2z).extBut e2.extBut D.l2i1) gy fun g3 VH e3=>fg (fg (fg ?_)));have hsz:g3.objs.size=s.heap.objs.size:=by rw[e3.1,e2.1,e1.1]
 refine ff (wpAny_newTuple ?_ (by show 2<=fw;decide));have hk:∀c o,c≠z->c≠i1->c≠i2->s.heap.get? c=some o->g3.get? c=some o:=fun c o c1 c2 c3 e=>e3.extBut _ _ c3 (e2.extBut _ _ c2 (e1.extBut _ _ c1 e));refine fg ⟨_,rfl,fg ?_⟩;show Q (some (.ref g3.objs.size)) _;rw[hsz];refine q _ (gs _ (e3.extBut _ _ D.i2z.symm (e2.extBut _ _ D.i1z.symm z1))) ((VG.extBut e3.extBut D.i12).at fun o e=>gs _ e) (VH.at fun o e=>gs _ e) ?_ (by rw[Heap.size_push,hsz]) fun c o c1 c2 c3 e=>gs _ (hk c o c1 c2 c3 e);rw[<-hsz];exact gv _ rfl
theorem Hv{z TI TO i1 i2 l1 l2 T:Addr}{k:Nat}{xs:Array Value}{f1:Value}{o:Obj}{Q:Option Value->Shared->Prop}(hh:A.handled=none)(D:ZipApart z TI TO i1 i2 l1 l2)(hf:f1=.bool false\/f1=.bool true)
  (g:xW s.heap z TI TO (rawInt T) f1) (gT:s.heap.get? T=some o) (gI:IsPair s.heap TI (.ref i1) (.ref i2))
  (t1:s.heap.IsListIter i1 l1 k) (m1:s.heap.IsList l1 xs) (gx:xs[k]? =none)
  (q:∀h',(∀c o,c≠z->c≠i1->c≠i2->s.heap.get? c=some o->h'.get? c=some o)->Q none {s with heap:=h'}):wpAny (model prog w) A (pyNext (.ref z)) Q E s:=by
 have hT:s.TypeIs (.ref z) "zip":=⟨_,g,rfl⟩;unfold pyNext;refine ff (wpAny_attempt (wpAny_callSpecial?_slot (name:=Str.ofString "__next__") hT F.slot_zip_next (gr F.slot_zip_next hT F.entry_zip_next ?_ (F.args_zip_next_1 _))));show wpAny _ _ (field (.ref z) 2>>=_) _ _ _;refine ff (wpAny_field g rfl (x:=.bool false) rfl ?_);show wpAny _ _ (field (.ref z) 3>>=_) _ _ _;refine ff (wpAny_field g rfl (x:=.ref TI) rfl ?_);refine ff (wpAny_seqItems gI rfl ?_);show wpAny _ _ (Builtin.SmallTypes.ownedTupleIsFree (.ref z)>>=_) _ _ _;refine ff (zN hf g gT fun g1 z1 e1=>?_);simp only[Bool.false_eq_true,if_false];refine ff ?_;show wpAny _ _ (forIn (#[Value.ref i1,Value.ref i2]:Array Value) _ _) _ _ _;rw[<-Array.forIn_toList];simp only[List.forIn_cons,List.forIn_nil];refine ff (ff (wpAny_holding ?_));show wpAny _ _ (Builtin.SmallTypes.nextOf (.ref i1)>>=_) _ _ _;refine ff (wpAny_nextOf_list_end (A:=A.in1) hh (t1.extBut e1.extBut D.i1z) (m1.extBut e1.extBut D.l1z) gx fun h' e eb he=>?_);obtain⟨oe,hoe,hc⟩:=he;refine ff (wpAny_isInstance (b:=true) (T :="StopIteration") ⟨oe,hoe,hc⟩ isSubtype_stop ?_);exact fg (q h' fun c o c1 c2 c3 e=>eb _ _ c2 (e1.extBut _ _ c1 e))
structure FZ(h:Heap)(z TI TO i1 i2 l1 l2:Addr)(xs ys:Array Value)(Ts:List Addr)(i:Nat):Prop where
 zp:(i=0/\IsZip h z TI TO .none)\/∃(T:Addr) (f1:Value),(f1=.bool false\/f1=.bool true)/\xW h z TI TO (rawInt T) f1/\T∈Ts
 pO:∃a b,IsPair h TO a b
 pI:IsPair h TI (.ref i1) (.ref i2)
 t1:h.IsListIter i1 l1 i
 t2:h.IsListIter i2 l2 i
 m1:h.IsList l1 xs
 m2:h.IsList l2 ys
 len:Ts.length=i
 prs:∀(j:Nat) T,Ts[j]? =some T->∃x y,xs[j]? =some x/\ys[j]? =some y/\IsPair h T x y/\T≠z/\T≠TO/\T≠i1/\T≠i2
theorem FZ.keep{h h':Heap}{z TI TO i1 i2 l1 l2 S:Addr}{xs ys:Array Value}{Ts:List Addr}{i:Nat}(st:FZ h z TI TO i1 i2 l1 l2 xs ys Ts i)(k:∀b o,b≠S->h.get? b=some o->h'.get? b=some o)
  (n:S≠z/\S≠TI/\S≠TO/\S≠i1/\S≠i2/\S≠l1/\S≠l2) (hT:∀T o,h.get? T=some o->o.cls=.type "tuple"->T≠S):FZ h' z TI TO i1 i2 l1 l2 xs ys Ts i:=by
 obtain⟨n1,n2,n3,n4,n5,n6,n7⟩:=n;refine⟨?_,st.pO.imp fun a z=>z.imp fun b z=>k _ _ (Ne.symm n3) z,k _ _ (Ne.symm n2) st.pI,st.t1.at fun o e=>k _ _ (Ne.symm n4) e,st.t2.at fun o e=>k _ _ (Ne.symm n5) e,st.m1.at fun o e=>k _ _ (Ne.symm n6) e,st.m2.at fun o e=>k _ _ (Ne.symm n7) e,st.len,fun j T e=>?_⟩
 ·rcases st.zp with ⟨e,a⟩ | ⟨T,f1,hf,a,b⟩
  ·exact .inl ⟨e,k _ _ (Ne.symm n1) a⟩
  ·exact .inr ⟨T,f1,hf,k _ _ (Ne.symm n1) a,b⟩
 ·obtain⟨x,y,hx,hy,hp,r⟩:=st.prs j T e;exact⟨x,y,hx,hy,k _ _ (hT T _ hp rfl) hp,r⟩
theorem DJ{z TI TO i1 i2 l1 l2:Addr}{xs ys:Array Value}{Ts:List Addr}{i:Nat}{Q:Option Value->Shared->Prop}(D:ZipApart z TI TO i1 i2 l1 l2)(hlen:xs.size=ys.size)(hi:i<xs.size)(st:FZ s.heap z TI TO i1 i2 l1 l2 xs ys Ts i)
  (q:∀h',FZ h' z TI TO i1 i2 l1 l2 xs ys (Ts++ [s.heap.objs.size]) (i+1)->(∀c o,c≠z->c≠TO->c≠i1->c≠i2->s.heap.get? c=some o->h'.get? c=some o)->Q (some (.ref s.heap.objs.size)) {s with heap:=h'}):wpAny (model prog w) A (pyNext (.ref z)) Q E s:=by
 have gx:xs[i]? =some xs[i]:=Array.getElem?_eq_getElem hi;have gy:ys[i]? =some (ys[i]'(by omega)):=Array.getElem?_eq_getElem _;have lt:∀{c o},s.heap.get? c=some o->s.heap.objs.size≠c:=fun e=>Nat.ne_of_gt (ii e);have hz:s.heap.objs.size≠z:=by
  rcases st.zp with ⟨_,a⟩ | ⟨_,_,_,a,_⟩
  ·exact lt a
  ·exact lt a
 obtain⟨u,v,hO⟩:=st.pO;have nTO:=lt hO;have h1:s.heap.objs.size≠i1:=by obtain⟨_,e,_⟩:=st.t1;exact lt e
 have h2:s.heap.objs.size≠i2:=by obtain⟨_,e,_⟩:=st.t2;exact lt e
 have fin:∀h' (T:Addr) f1,(f1=.bool false\/f1=.bool true)->xW h' z TI TO (rawInt T) f1->T∈Ts++ [s.heap.objs.size]->(∃a b,IsPair h' TO a b)->h'.IsListIter i1 l1 (i+1)->h'.IsListIter i2 l2 (i+1)->IsPair h' s.heap.objs.size xs[i] (ys[i]'(by omega))->
   (∀c o,c≠z->c≠TO->c≠i1->c≠i2->s.heap.get? c=some o->h'.get? c=some o)->Q (some (.ref s.heap.objs.size)) {s with heap:=h'}:=fun h' T f1 hf gz gT gO j1 j2 gp hk=>by
  refine q h' ⟨.inr ⟨T,f1,hf,gz,gT⟩,gO,hk _ _ D.TIz D.TITO D.TIi1 D.TIi2 st.pI,j1,j2,st.m1.at fun o e=>hk _ _ D.l1z D.l1TO D.l1i1 D.l1i2 e,st.m2.at fun o e=>hk _ _ D.l2z D.l2TO D.l2i1 D.l2i2 e,by rw[ar,st.len];rfl,fun j T' e=>?_⟩ hk;by_cases c:j<Ts.length
  ·rw[av c]at e;obtain⟨x,y,a,b,p,n1,n2,n3,n4⟩:=st.prs j T' e;exact⟨x,y,a,b,hk _ _ n1 n2 n3 n4 p,n1,n2,n3,n4⟩
  ·have c':j=i:=by have:=(ag.mp e).1;rw[ar,st.len]at this;have hl:=st.len;simp at this;omega
   subst c';rw[bc (by rw[st.len];exact mf _),st.len,Nat.sub_self]at e;cases e;exact⟨_,_,gx,gy,gp,hz,nTO,h1,h2⟩
 rcases st.zp with ⟨rfl,a⟩ | ⟨T,f1,hf,a,b⟩
 ·refine wpAny_pyNext_zip_item D a st.pI hO st.t1 st.t2 st.m1 st.m2 gx gy fun h' a1 a2 a3 a4 a5 a6 hk=>?_;exact fin h' _ (.bool false) (.inl rfl) a1 (List.mem_append_right _ List.mem_cons_self) ⟨_,_,a2⟩ a3 a4 a5 hk
 ·obtain⟨j,hj⟩:=List.getElem?_of_mem b;obtain⟨x,y,_,_,gT,_⟩:=st.prs j T hj;refine DI D hf a gT st.pI st.t1 st.t2 st.m1 st.m2 gx gy fun h' a1 a3 a4 a5 a6 hk=>?_;exact fin h' T (.bool true) (.inr rfl) a1 (List.mem_append_left _ b) ⟨u,v,hk _ _ D.TOz D.TOi1 D.TOi2 hO⟩ a3 a4 a5 fun c o c1 c2 c3 c4 e=>hk c o c1 c3 c4 e
theorem Hw{z TI TO i1 i2 l1 l2:Addr}{xs ys:Array Value}{Ts:List Addr}{Q:Option Value->Shared->Prop}(hh:A.handled=none)(D:ZipApart z TI TO i1 i2 l1 l2)(st:FZ s.heap z TI TO i1 i2 l1 l2 xs ys Ts xs.size)
  (q:∀h',(∀c o,c≠z->c≠TO->c≠i1->c≠i2->s.heap.get? c=some o->h'.get? c=some o)->Q none {s with heap:=h'}):wpAny (model prog w) A (pyNext (.ref z)) Q E s:=by
 have gx:xs[xs.size]? =none:=by simp
 obtain⟨u,v,hO⟩:=st.pO;rcases st.zp with ⟨e,a⟩ | ⟨T,f1,hf,a,b⟩
 ·exact wpAny_pyNext_zip_end hh D a st.pI hO st.t1 st.t2 st.m1 st.m2 (.inl gx) q
 ·obtain⟨j,hj⟩:=List.getElem?_of_mem b;obtain⟨x,y,_,_,gT,_⟩:=st.prs j T hj;exact Hv hh D hf a gT st.pI st.t1 st.m1 gx fun h' k=>q h' fun c o c1 c2 c3 c4 e=>k c o c1 c3 c4 e
theorem xX:typeLookup (.type "zip") "__len__"=pure none:=by rw[typeLookup_type,builtinLookup_eq_fast];kernel_rfl
theorem vy:typeLookup (.type "zip") "__length_hint__"=pure none:=by rw[typeLookup_type,builtinLookup_eq_fast];kernel_rfl
abbrev lobj(acc:Array Value)(c:Nat):Obj:={cls:=.type "list",dict:=none,data:=.seq acc c,slots:=#[]}
theorem QF{R:Result->Shared->Prop}{z TI TO i1 i2 l1 l2 S:Addr}{xs ys:Array Value}(hh:A.handled=none)(D:ZipApart z TI TO i1 i2 l1 l2)(hlen:xs.size=ys.size)(hn:xs.size<=fw)(nS:S≠z/\S≠TI/\S≠TO/\S≠i1/\S≠i2/\S≠l1/\S≠l2)(res:Value):
  ∀(k i:Nat) (s:Shared) (Ts:List Addr) (acc:Array Value) (c:Nat),xs.size-i=k->i<=xs.size->FZ s.heap z TI TO i1 i2 l1 l2 xs ys Ts i->s.heap.get? S=some (lobj acc c)->acc.toList=Ts.map Value.ref->Ts.Nodup->(∀b∈Ts,b<s.heap.objs.size)->
  (∀(h':Heap) (LQ:List Addr) (acc':Array Value) (c':Nat),LQ.Nodup->LQ.length=xs.size->acc'.toList=LQ.map Value.ref->(∀(j:Nat) T,LQ[j]? =some T->∃x y,xs[j]? =some x/\ys[j]? =some y/\IsPair h' T x y)->(∀b∈LQ,b∈Ts\/s.heap.objs.size<=b)->(∀c o,c≠S->c≠z->c≠TO->c≠i1->c≠i2->s.heap.get? c=some o->h'.get? c=some o)->h'.get? S=some (lobj acc' c')->R (.ok (.ret res)) {s with heap:=h'})->
  codeAny (model prog w) A (.builtin "list.extend.loop" ⟨[.ref S,.ref z,res],[]⟩) R s:=by
 intro k
 induction k with
 | zero=>
  intro i s Ts acc c hk hi st hS hacc hnd LR hR;obtain rfl:i=xs.size:=by omega
  refine codeAny_builtin F.entry_extend_loop ?_;rw[Around.under_plainId F.plain_extend_loop _];show wpAny _ A.in1 (pyNext (.ref z)>>=_) _ _ s;refine ff (Hw (A:=A.in1) hh D st fun h' hk'=>fg ?_);refine hR h' Ts acc c hnd st.len hacc (fun j T e=>?_) (fun b hb=>.inl hb) (fun c o _ c1 c2 c3 c4 e=>hk' c o c1 c2 c3 c4 e) (hk' _ _ nS.1 nS.2.2.1 nS.2.2.2.1 nS.2.2.2.2.1 hS);obtain⟨x,y,a,b,p,n1,n2,n3,n4⟩:=st.prs j T e;exact⟨x,y,a,b,hk' _ _ n1 n2 n3 n4 p⟩
 | succ k ih=>
  intro i s Ts acc c hk hi st hS hacc hnd LR hR;have hlt:i<xs.size:=by omega
  have hal:acc.size=i:=by rw[<-Array.length_toList,hacc,List.length_map,st.len]
  refine codeAny_builtin F.entry_extend_loop ?_;rw[Around.under_plainId F.plain_extend_loop _];show wpAny _ A.in1 (pyNext (.ref z)>>=_) _ _ s;refine ff (DJ D hlen hlt st fun h' st' hk'=>?_);have hS':h'.get? S=some (lobj acc c):=hk' _ _ nS.1 nS.2.2.1 nS.2.2.2.1 nS.2.2.2.2.1 hS;have hsz:s.heap.objs.size<h'.objs.size:=by obtain⟨x,y,_,_,p,_⟩:=st'.prs i s.heap.objs.size (by rw[bc (by rw[st.len];exact mf _),st.len,Nat.sub_self];rfl);exact ii p
  show wpAny _ A.in1 (updateSeq S (·.push (.ref s.heap.objs.size))>>=_) _ _ _;have oth:∀b o,b≠S->h'.get? b=some o->(h'.update S (Obj.mapSeq (·.push (Value.ref s.heap.objs.size)))).get? b=some o:=fun b o hb e=>(Heap.get?_update_other _ _ (Ne.symm hb)).trans e
  refine ff (wpAny_updateSeq hS' rfl (fg ⟨plainId_quiet F.plain_extend_loop _,ih (i+1) _ (Ts++ [s.heap.objs.size]) (acc.push (.ref s.heap.objs.size)) _ (by omega) hlt (st'.keep (S:=S) oth nS fun T o e hc z=>?_) (Heap.get?_update_self _ hS' rfl) ?_ ?_ ?_ fun h2 LQ acc' c' e0 e1 e2 e3 e5 e4=>?_⟩)
   (by rw[hal];omega) (by show(acc.push _).size<=fw+1;rw[Array.size_push,hal];omega))
  ·rw[z,hS']at e;cases e;have hc:Value.type "list"=Value.type "tuple":=hc;simp at hc
  ·rw[Array.toList_push,hacc,List.map_append];rfl
  ·refine List.nodup_append.mpr ⟨hnd,by simp,fun a ha b hb z=>?_⟩;rw[bd.mp hb]at z;exact Nat.lt_irrefl _ (z▸LR a ha)
  ·intro b hb;have e6:(h'.update S (Obj.mapSeq (·.push (Value.ref s.heap.objs.size)))).objs.size=h'.objs.size:=(Heap.SameBut.update ..).1;show b< (h'.update S (Obj.mapSeq (·.push (Value.ref s.heap.objs.size)))).objs.size;rcases List.mem_append.mp hb with z | z
   ·exact Nat.lt_trans (LR b z) (by rw[e6];exact hsz)
   ·rw[bd.mp z,e6];exact hsz
  ·refine hR h2 LQ acc' c' e0 e1 e2 e3 (fun b hb=>?_) fun c o n0 n1 n2 n3 n4 e=>e4 c o n0 n1 n2 n3 n4 (oth c o n0 (hk' c o n1 n2 n3 n4 e));rcases e5 b hb with z | z
   ·rcases List.mem_append.mp z with z | z
    ·exact .inl z
    ·rw[bd.mp z];exact .inr (mf _)
   ·have e6:(h'.update S (Obj.mapSeq (·.push (Value.ref s.heap.objs.size)))).objs.size=h'.objs.size:=(Heap.SameBut.update ..).1;have z:(h'.update S (Obj.mapSeq (·.push (Value.ref s.heap.objs.size)))).objs.size<=b:=z;exact .inr (by omega)
theorem qW{z TI TO i1 i2 l1 l2:Addr}{xs ys:Array Value}{Q:Value->Shared->Prop}(hh:A.handled=none)(D:ZipApart z TI TO i1 i2 l1 l2)(hlen:xs.size=ys.size)(hn:xs.size<=fw)(st:FZ s.heap z TI TO i1 i2 l1 l2 xs ys [] 0)(g0:IsZip s.heap z TI TO .none)
  (q:∀(h':Heap) (Ts:List Addr) (acc:Array Value) (c:Nat),Ts.Nodup->Ts.length=xs.size->acc.toList=Ts.map Value.ref->(∀(j:Nat) T,Ts[j]? =some T->∃x y,xs[j]? =some x/\ys[j]? =some y/\IsPair h' T x y)->(∀b∈Ts,s.heap.objs.size<b)->(∀c o,c≠z->c≠TO->c≠i1->c≠i2->s.heap.get? c=some o->h'.get? c=some o)->h'.get? s.heap.objs.size=some (lobj acc c)->Q (.ref s.heap.objs.size) {s with heap:=h'}):
  wpAny (model prog w) A (call (.type "list") [.ref z]) Q E s:=by
 have lt:∀{c o},s.heap.get? c=some o->s.heap.objs.size≠c:=fun e=>Nat.ne_of_gt (ii e);have nS:s.heap.objs.size≠z/\s.heap.objs.size≠TI/\s.heap.objs.size≠TO/\s.heap.objs.size≠i1/\s.heap.objs.size≠i2/\s.heap.objs.size≠l1/\s.heap.objs.size≠l2:=by obtain⟨u,v,hO⟩:=st.pO;obtain⟨_,e1,_⟩:=st.t1;obtain⟨_,e2,_⟩:=st.t2;obtain⟨_,e3,_⟩:=st.m1;obtain⟨_,e4,_⟩:=st.m2;exact⟨lt g0,lt st.pI,lt hO,lt e1,lt e2,lt e3,lt e4⟩
 refine callType_codes (Q₁:=fun obj s₁=>obj=.ref s.heap.objs.size/\s₁={s with heap:=s.heap.push {cls:=.type "list",data:=.seq #[]}}) F.called_list (F.typeCall_list_1 _) F.entry_list_init (code_list_new _ ⟨rfl,rfl⟩) fun obj s₁ h₁=>?_;obtain⟨rfl,rfl⟩:=h₁;have hS:(s.heap.push {cls:=.type "list",data:=.seq #[]}).get? s.heap.objs.size=some (lobj #[] 0):=gv _ rfl;refine⟨⟨_,hS,rfl⟩,F.args_list_init_2 _ _,?_⟩;show wpAny _ A.in1.in1 (do let old <-Builtin.List.listItems (.ref s.heap.objs.size);Builtin.List.listUpdate (.ref s.heap.objs.size) (fun _=>#[]);letGo old.toList.reverse;Builtin.List.listExtendWith (.ref s.heap.objs.size) (.ref z) .none) _ _ _;refine ff ?_;unfold Builtin.List.listItems;refine ff (wpAny_seqItems hS rfl (fg ?_));show wpAny _ A.in1.in1 (updateSeq s.heap.objs.size (fun _=>#[])>>=fun _=>letGo (#[]:Array Value).toList.reverse>>=fun _=>Builtin.List.listExtendWith (.ref s.heap.objs.size) (.ref z) .none) _ _ _;refine ff (wpAny_updateSeq hS rfl (ff (wpAny_letGo ?_)));have hS1:=Heap.get?_update_self (Obj.mapSeq (fun _=>(#[]:Array Value))) hS rfl;have k1:∀b o,b≠s.heap.objs.size->(s.heap.push {cls:=.type "list",data:=.seq #[]}).get? b=some o->((s.heap.push {cls:=.type "list",data:=.seq #[]}).update s.heap.objs.size (Obj.mapSeq (fun _=>(#[]:Array Value)))).get? b=some o:=fun b o hb e=>(Heap.get?_update_other _ _ (Ne.symm hb)).trans e;have z1:((s.heap.push {cls:=.type "list",data:=.seq #[]}).update s.heap.objs.size (Obj.mapSeq (fun _=>(#[]:Array Value)))).objs.size=s.heap.objs.size+1:=by rw[(Heap.SameBut.update ..).1,Heap.size_push]
 have k0:∀b o,s.heap.get? b=some o->((s.heap.push {cls:=.type "list",data:=.seq #[]}).update s.heap.objs.size (Obj.mapSeq (fun _=>(#[]:Array Value)))).get? b=some o:=fun b o e=>k1 b o (Ne.symm (lt e)) (gs _ e);generalize ((s.heap.push {cls:=.type "list",data:=.seq #[]}).update s.heap.objs.size (Obj.mapSeq (fun _=>(#[]:Array Value))))=g1 at hS1 k0 z1 ⊢
 replace hS1:∃c,g1.get? s.heap.objs.size=some (lobj #[] c):=⟨_,hS1⟩
 obtain⟨c1,hS1⟩:=hS1;have hz1:=k0 _ _ g0;have hT:Shared.TypeIs {s with heap:=g1} (.ref z) "zip":=⟨_,hz1,rfl⟩;unfold Builtin.List.listExtendWith;refine ff (wpAny_typeOf hT ?_);have b1:Builtin.List.listSameRef (.ref s.heap.objs.size) (.ref z)=false:=by simp[Builtin.List.listSameRef,nS.1]
 simp only[b1,show(Value.type "zip"==Value.type "list")=false from by decide,show(Value.type "zip"==Value.type "tuple")=false from by decide,Bool.or_false,Bool.false_eq_true,if_false];refine ff (wpAny_pyIter_zip hz1 (ff (wpAny_holding ?_)));unfold Builtin.List.listLengthHint;refine ff (wpAny_specialOf hT xX ?_);show wpAny _ A.in1.in1 (specialOf (Value.ref z) (Str.ofString "__length_hint__")>>=_) _ _ _;refine ff (wpAny_specialOf hT vy (fg ?_));show wpAny _ A.in1.in1 (rule "list.extend.makes-room">>=fun _=>Builtin.List.listTouch (.ref s.heap.objs.size)>>=fun _=>again (.builtin "list.extend.loop" ⟨[.ref s.heap.objs.size,.ref z,.none],[]⟩)) _ _ _;refine ff (wpAny_rule (ff ?_));show wpAny _ A.in1.in1 (updateSeq s.heap.objs.size (·.push .none)>>=fun _=>updateSeq s.heap.objs.size (·.pop)) _ _ _;refine ff (wpAny_updateSeq hS1 rfl ?_);have hS2:=Heap.get?_update_self (Obj.mapSeq (·.push Value.none)) hS1 rfl;refine wpAny_updateSeq (hz:=by seq_fits) hS2 rfl ?_;have JR:=Heap.get?_update_self (Obj.mapSeq (·.pop)) hS2 rfl;have k3:∀b o,b≠s.heap.objs.size->g1.get? b=some o->((g1.update s.heap.objs.size (Obj.mapSeq (·.push Value.none))).update s.heap.objs.size (Obj.mapSeq (·.pop))).get? b=some o:=fun b o hb e=>(Heap.get?_update_other _ _ (Ne.symm hb)).trans ((Heap.get?_update_other _ _ (Ne.symm hb)).trans e);have z3:((g1.update s.heap.objs.size (Obj.mapSeq (·.push Value.none))).update s.heap.objs.size (Obj.mapSeq (·.pop))).objs.size=s.heap.objs.size+1:=by rw[(Heap.SameBut.update ..).1,(Heap.SameBut.update ..).1,z1]
 have k4:∀b o,s.heap.get? b=some o->((g1.update s.heap.objs.size (Obj.mapSeq (·.push Value.none))).update s.heap.objs.size (Obj.mapSeq (·.pop))).get? b=some o:=fun b o e=>k3 b o (Ne.symm (lt e)) (k0 b o e);generalize ((g1.update s.heap.objs.size (Obj.mapSeq (·.push Value.none))).update s.heap.objs.size (Obj.mapSeq (·.pop)))=g3 at JR k4 z3 ⊢
 replace JR:∃c,g3.get? s.heap.objs.size=some (lobj #[] c):=⟨_,JR⟩
 obtain⟨c3,JR⟩:=JR;have st3:FZ g3 z TI TO i1 i2 l1 l2 xs ys [] 0:=⟨.inl ⟨rfl,k4 _ _ g0⟩,st.pO.imp fun a y=>y.imp fun b y=>k4 _ _ y,k4 _ _ st.pI,st.t1.at fun o e=>k4 _ _ e,st.t2.at fun o e=>k4 _ _ e,st.m1.at fun o e=>k4 _ _ e,st.m2.at fun o e=>k4 _ _ e,rfl,fun j T e=>by simp at e⟩;refine fg ⟨plainId_quiet F.plain_extend_loop _,QF (A:=A.in1) hh D hlen hn nS .none xs.size 0 {s with heap:=g3} [] #[] c3 rfl (Nat.zero_le _) st3 JR rfl List.nodup_nil (fun b hb=>nomatch hb) fun h' Ts acc c' e0 e1 e2 e3 e4 e5 e6=>?_⟩;refine⟨rfl,q h' Ts acc c' e0 e1 e2 e3 (fun b hb=>?_) (fun c o n1 n2 n3 n4 e=>e5 c o (Ne.symm (lt e)) n1 n2 n3 n4 (k4 c o e)) e6⟩;rcases e4 b hb with y | y
 ·exact nomatch y
 ·have y:g3.objs.size<=b:=y;omega
def Hx(H f:Hp):Hp:=fun b=>match f b with
 | some o=>some o
 | none=>H b
variable {kb:List (Addr×Obj)}{σ:St}{H f:Hp}{h':Heap}
theorem jC{b:Addr}{o:HO}(hn:∀b o,f b=some o->H b=none)(e:H b=some o):Hx H f b=some o:=by
 unfold Hx;cases q:f b with
 | none=>exact e
 | some u=>rw[hn b u q]at e;cases e
theorem tD{b:Addr}{o:HO}(e:f b=some o):Hx H f b=some o:=by unfold Hx;rw[e]
theorem Inv.QG{t':Nat}(I:Inv X kb σ H s)(k:∀b u,s.heap.get? b=some u->h'.get? b=some u)(hp:∀b o,f b=some o->s.heap.objs.size<=b)(new:∀b o,f b=some o->bu X.prog X.w (Hx H f) h' b o):Inv X kb σ (Hx H f) {s with heap:=h',toks:=t'}:=by
 have hn:∀b o,f b=some o->H b=none:=fun b o e=>I.hok.fresh (hp b o e);refine I.un ⟨fun b u q _ _ _=>k b u q,fun b u q _ _ _=>⟨u.slots,k b u q⟩,fun b u q n _=>?_,fun b u q _=>⟨u,k b u q⟩,fun b xs q=>jC hn q,fun b u xs q=>jC hn q,fun b ps q=>⟨#[],by rw[jC hn q];simp⟩⟩ fun b u e=>?_
 ·unfold Hx;cases z:f b with
  | none=>exact n
  | some o=>exact absurd (Nat.lt_of_lt_of_le (ii q) (hp b o z)) (Nat.lt_irrefl _)
 ·cases z:f b with
  | some o=>
   rw[tD z]at e;have e':=Option.some.inj e;subst e';exact new b _ z
  | none=>
   have e:H b=some u:=by unfold Hx at e;rw[z]at e;exact e
   exact(I.hok b u e).stay (fun c v _ q=>k c v q) (fun c q=>jC hn q) fun c xs q=>jC hn q
def Hy(H:Hp)(ts:List Addr)(xs ys:List V):Prop:=∀(j:Nat) t x y,ts[j]? =some t->xs[j]? =some x->ys[j]? =some y->H t=some (.tup [x,y])
def tLZ(K:i8)(ta:TA):TE:=fun σ H Q=>ta σ H fun vs H1=>∃a b xs ys,vs=[.ref a,.ref b]/\aT K H1 a xs/\aT K H1 b ys/\xs.length=ys.length/\
 ∀(l:Addr) (ts:List Addr) (H2:Hp),Same H1 H2->H1 l=none->H2 l=some (.lst (ts.map V.ref))->ts.length=xs.length->Hy H2 ts xs ys->Q (.ref l) H2
theorem rW:∀ts:List Addr,Vals (ts.map V.ref) (ts.map Value.ref)
 | []=>.nil
 | t::ts=>.cons rfl (rW ts)
theorem Hz{X:Cx}{a b:Expr}{ta:TA}{p1 p2 pos1 pos2:Pos}(hc:X.calm=true)(hgl:Gl X "list")(hml:X.mg "list"=none)(hbl:bootBuiltins "list"=some (.type "list"))(hgz:Gl X "zip")(hmz:X.mg "zip"=none)(ha:PA X [a,b] ta)
  (hs:starEach [a,b] X.env=[(false,eval a X.env),(false,eval b X.env)]:=by rfl) (hs2:starEach [b] X.env=[(false,eval b X.env)]:=by rfl)
  (he:starEach [.Call (.Name "zip" p2) [a,b] [] pos2] X.env=[(false,eval (.Call (.Name "zip" p2) [a,b] [] pos2) X.env)]:=by rfl):
  PE X (.Call (.Name "list" p1) [.Call (.Name "zip" p2) [a,b] [] pos2] [] pos1) (tLZ X.K ta):=by
 intro kb s σ H Q I h;refine wpAny_Call_Name_kw (ip I hgl hml hbl ?_);refine PyProof.Rows.callWith_type1 ?_ (by rw[he];rfl) rfl;rw[he];show wpAny _ _ (spliced [(false,eval (.Call (.Name "zip" p2) [a,b] [] pos2) X.env)]) _ _ s;refine Calls.spliced_cons ?_;refine wpAny_Call_Name_kw (ip I hgz hmz xS (PyProof.Rows.callWith_type1 (ck (ha pos2 kb s σ H _ I h) fun us s1 ⟨vs,H1,I1,r1,q1⟩=>?_) (by rw[hs,hs2]) (by rw[hs2];rfl)));obtain⟨a,b,xs,ys,e,hq,hq2,hl,q⟩:=q1;subst e;obtain⟨u,v,rfl,ru,rv⟩:=vals2 r1;cases ru;cases rv;obtain⟨its,rv,p,hz⟩:=I1.list hq;obtain⟨its2,FY,p2,hz2⟩:=I1.list hq2;have hl1:=rv.length;have hl2:=FY.length;have la:a<s1.heap.objs.size:=by obtain⟨o,e,_⟩:=p.isList;exact ii e
 have lb:b<s1.heap.objs.size:=by obtain⟨o,e,_⟩:=p2.isList;exact ii e
 refine call_zip_2 p.isList p2.isList fun h1 g1 g2 g3 g4 g5 g6 hk=>Calls.spliced_nil ?_;have D:ZipApart (s1.heap.objs.size+4) (s1.heap.objs.size+2) (s1.heap.objs.size+3) s1.heap.objs.size (s1.heap.objs.size+1) a b:=PySem.W.ktu_apart _ _ _ la lb;have st:FZ h1 (s1.heap.objs.size+4) (s1.heap.objs.size+2) (s1.heap.objs.size+3) s1.heap.objs.size (s1.heap.objs.size+1) a b its.toArray its2.toArray [] 0:=⟨.inl ⟨rfl,g1⟩,⟨_,_,g3⟩,g2,g4,g5,p.isList.at fun o e=>hk _ _ e,p2.isList.at fun o e=>hk _ _ e,rfl,fun j T e=>by simp at e⟩;refine qW (s:={s1 with heap:=h1}) (I.ok.hd hc) D (by simp;omega) (by simp;omega) st g1 fun h' Ts acc c e0 e1 e2 e3 e4 e5 e6=>?_;have e1:Ts.length=xs.length:=by simp at e1;omega
 have e4:∀t∈Ts,h1.objs.size<t:=e4;have e6:h'.get? h1.objs.size=some (lobj acc c):=e6;have hk2:∀b u,s1.heap.get? b=some u->h'.get? b=some u:=fun b u e=>e5 b u (mi (Nat.lt_of_lt_of_le (ii e) (Nat.le_add_right _ _))) (mi (Nat.lt_of_lt_of_le (ii e) (Nat.le_add_right _ _))) (mi (ii e)) (mi (Nat.lt_of_lt_of_le (ii e) (Nat.le_add_right _ _))) (hk b u e)
 let N:Addr->HO->Prop:=fun t o=>∃(j:Nat) (x y:V),Ts[j]? =some t/\xs[j]? =some x/\ys[j]? =some y/\o=.tup [x,y]
 have nu:∀t o o',N t o->N t o'->o=o':=fun t o o' ⟨j,x,y,a1,a2,a3,a4⟩ ⟨j',x',y',b1,b2,b3,b4⟩=>by have ej:j=j':=(List.getElem?_inj (ag.mp a1).1 e0).mp (a1.trans b1.symm);subst ej;rw[a2]at b2;rw[a3]at b3;cases b2;cases b3;rw[a4,b4]
 have hS0:s1.heap.objs.size<=h1.objs.size:=by rw[g6];exact Nat.le_add_right _ _
 have nS:∀t o,N t o->h1.objs.size<t:=fun t o ⟨j,x,y,a1,_⟩=>e4 t (al a1)
 classical
 let f:Hp:=fun t=>if t=h1.objs.size then some (.lst (Ts.map V.ref))else if h:∃o,N t o then some (Classical.choose h)else none
 have fS:f h1.objs.size=some (.lst (Ts.map V.ref)):=if_pos rfl;have fN:∀t o,N t o->f t=some o:=fun t o h=>by show(if t=h1.objs.size then _ else _)=_;have h':∃o,N t o:=⟨o,h⟩;rw[if_neg (Nat.ne_of_gt (nS t o h)),dif_pos h',nu t _ _ (Classical.choose_spec h') h]
 have fi:∀t o,f t=some o->(t=h1.objs.size/\o=.lst (Ts.map V.ref))\/N t o:=fun t o e=>by
  have e:(if t=h1.objs.size then some (HO.lst (Ts.map V.ref))else if h:∃o,N t o then some (Classical.choose h)else none)=some o:=e;by_cases c:t=h1.objs.size
  ·rw[if_pos c]at e;exact .inl ⟨c,(Option.some.inj e).symm⟩
  ·rw[if_neg c]at e;by_cases h:∃o,N t o
   ·rw[dif_pos h]at e;have z:=Classical.choose_spec h;rw[Option.some.inj e]at z;exact .inr z
   ·rw[dif_neg h]at e;cases e
 have I2:Inv X kb σ (Hx H1 f) {s1 with heap:=h',toks:=s1.toks}:=by
  refine I1.QG hk2 (fun t o e=>?_) fun t o e=>?_
  ·rcases fi t o e with ⟨z,_⟩ | z
   ·rw[z];exact hS0
   ·exact Nat.le_of_lt (Nat.lt_of_le_of_lt hS0 (nS t o z))
  ·rcases fi t o e with ⟨rfl,rfl⟩ | ⟨j,x,y,a1,a2,a3,rfl⟩
   ·exact⟨by rw[List.length_map];omega,Ts.map Value.ref,c,rW Ts,by rw[e6,<-e2]⟩
   ·obtain⟨ux,uy,b1,b2,b3⟩:=e3 j t a1;obtain⟨ux',c1,c2⟩:=rv.get a2;obtain⟨uy',d1,d2⟩:=FY.get a3;have b1:its[j]? =some ux:=by simpa using b1
    have b2:its2[j]? =some uy:=by simpa using b2
    rw[c1]at b1;rw[d1]at b2;rw[Option.some.inj b1]at c2;rw[Option.some.inj b2]at d2;exact⟨by show 2<=fw;decide,[ux,uy],.cons c2 (.cons d2 .nil),⟨_,b3,rfl,_,rfl⟩⟩
 have hn:∀b o,f b=some o->H1 b=none:=fun b o e=>by
  rcases fi b o e with ⟨z,_⟩ | z
  ·rw[z];exact I1.hok.fresh hS0
  ·exact I1.hok.fresh (Nat.le_of_lt (Nat.lt_of_le_of_lt hS0 (nS b o z)))
 refine⟨.ref h1.objs.size,_,I2,rfl,q _ Ts _ (fun b o e=>jC hn e) (I1.hok.fresh hS0) (tD fS) e1 fun j t x y a1 a2 a3=>tD (fN t _ ⟨j,x,y,a1,a2,a3,rfl⟩)⟩
inductive HD(H:Hp):V->Da->Prop
 | non:HD H .non .non
 | bl (b:Bool):HD H (.bl b) (.bl b)
 | int (i:Int):HD H (.int i) (.int i)
 | str (s:Str):HD H (.str s) (.str s)
 | tup {p:Addr} {xs:List V} {ds:List Da} (h:H p=some (.tup xs)) (l:xs.length=ds.length) (e:∀(i:Nat) x d,xs[i]? =some x->ds[i]? =some d->HD H x d):HD H (.ref p) (.tup ds)
 | lst {p:Addr} {xs:List V} {ds:List Da} (h:H p=some (.lst xs)) (l:xs.length=ds.length) (e:∀(i:Nat) x d,xs[i]? =some x->ds[i]? =some d->HD H x d):HD H (.ref p) (.lst ds)
theorem HD.same{H H':Hp}{v:V}{d:Da}(h:HD H v d)(s:Same H H'):HD H' v d:=by
 induction h with
 | non=>exact .non
 | bl b=>exact .bl b
 | int i=>exact .int i
 | str x=>exact .str x
 | tup h l e ih=>exact .tup (s _ _ h) l ih
 | lst h l e ih=>exact .lst (s _ _ h) l ih
inductive uT(H:Hp):List V->List Da->Prop
 | nil:uT H [] []
 | cons {x:V} {d:Da} {xs:List V} {ds:List Da} (h:HD H x d) (r:uT H xs ds):uT H (x::xs) (d::ds)
theorem uT.len{H:Hp}{xs:List V}{ds:List Da}(h:uT H xs ds):xs.length=ds.length:=by
 induction h with
 | nil=>rfl
 | cons h r ih=>rw[eh,eh,ih]
theorem uT.get{H:Hp}{xs:List V}{ds:List Da}(h:uT H xs ds):∀(i:Nat) x d,xs[i]? =some x->ds[i]? =some d->HD H x d:=by
 induction h with
 | nil=>intro i x d h;simp at h
 | cons h r ih=>
  intro i x d h1 h2;cases i with
  | zero=>cases h1;cases h2;exact h
  | succ i=>exact ih i x d (by simpa using h1) (by simpa using h2)
theorem uT.same{H H':Hp}{xs:List V}{ds:List Da}(h:uT H xs ds)(s:Same H H'):uT H' xs ds:=by
 induction h with
 | nil=>exact .nil
 | cons h r ih=>exact .cons (h.same s) ih
theorem uT.cons_inv{H:Hp}{xs:List V}{d:Da}{ds:List Da}(h:uT H xs (d::ds)):∃x r,xs=x::r/\HD H x d/\uT H r ds:=by
 cases h with
 | cons h r=>exact⟨_,_,rfl,h,r⟩
theorem uT.nil_inv{H:Hp}{xs:List V}(h:uT H xs []):xs=[]:=by
 cases h;rfl
theorem Same.new{H:Hp}{l:Addr}{o:HO}(h:H l=none):Same H (upd H l o):=fun b u e=>by rw[aw (bt e h)];exact e
def HT(t:TE)(σ:St)(H:Hp)(d:Da):Prop:=∀(G:Hp) (Q:VK),Same H G->(∀(v:V) (G':Hp),Same G G'->HD G' v d->Q v G')->t σ G Q
def HA(t:TA)(σ:St)(H:Hp)(ds:List Da):Prop:=∀(G:Hp) (Q:List V->Hp->Prop),Same H G->(∀(xs:List V) (G':Hp),Same G G'->uT G' xs ds->Q xs G')->t σ G Q
theorem oJ{σ:St}{H:Hp}{te:TE}{g:TG}{u:TS}{D:Ends}(h:te σ H fun x H1=>g x σ H1 (u D)):qP (Ar te g) u D σ H:=h
theorem HB{σ:St}{H:Hp}{te:TE}{D:Ends}(h:te σ H D.rt):PU te D σ H:=h
theorem dX{i:Nat}{v:V}{σ:St}{H:Hp}{Q:St->Hp->Prop}(h:Q (σ.set i (some v)) H):dC i v σ H Q:=h
theorem i7{i:Int}:HT (tC (.int i)) σ H (.int i):=fun G Q _ k=>k _ _ (.refl _) (.int i)
theorem LS{s:Str}:HT (tC (.str s)) σ H (.str s):=fun G Q _ k=>k _ _ (.refl _) (.str s)
theorem DK:HA CO σ H []:=fun G Q _ k=>k _ _ (.refl _) .nil
theorem fV{t:TE}{ta:TA}{d:Da}{ds:List Da}(h:HT t σ H d)(r:HA ta σ H ds):HA (CP t ta) σ H (d::ds):=fun G Q s k=>
 h G _ s fun v G1 s1 hv=>r G1 _ (s.trans s1) fun xs G2 s2 hx=>k _ _ (s1.trans s2) (.cons (hv.same s2) hx)
theorem oK{ta:TA}{ds:List Da}{Q:VK}(h:HA ta σ H ds)(k:∀(p:Addr) (xs:List V) (G:Hp),Same H G->H p=none->G p=some (.lst xs)->uT G xs ds->Q (.ref p) G)(hl:ds.length<=1000:=by exact zle):Gv ta σ H Q :=
 h H _ (.refl _) fun xs G1 s1 hx=>⟨by rw[hx.len];exact Nat.le_of_lt (jz hl),fun p np=>k p xs _ (s1.trans (.new np)) (s1.free np) ah (hx.same (.new np))⟩
theorem vz{α:Type}{f:Nat->Option α}{h:Nat->α}:∀(n:Nat),(∀k,k<n->f k=some (h k))->(List.range n).filterMap f=(List.range n).map h
 | 0,_=>rfl
 | n+1,q=>by rw[List.range_succ,List.filterMap_append,List.map_append,vz n (fun k hk=>q k (by omega))];simp[q n (by omega)]
theorem DL(its:List Value):slicePick its.toArray none none (some (-1))=its.reverse.toArray:=by
 unfold slicePick;congr 1;have hb:sliceBounds none none (some (-1)) its.toArray.size=((its.length:Int)-1,-1,-1):=by simp[sliceBounds]
 rw[hb];have hr:sliceRange ((its.length:Int)-1) (-1) (-1)=(List.range its.length).map fun k=>its.length-1-k:=by
  unfold sliceRange;have hc:(if (-1:Int)>0 then if (its.length:Int)-1< -1 then (-1- ((its.length:Int)-1)+ -1-1)/ -1 else 0 else if (its.length:Int)-1> -1 then ((its.length:Int)-1- -1- -1-1)/ - -1 else 0).toNat=its.length:=by
   rw[if_neg (by decide)];split
   ·rw[show(- -1:Int)=1 by decide,Int.ediv_one];omega
   ·omega
  simp only[];rw[hc];refine List.map_congr_left fun k hk=>?_;have:=List.mem_range.mp hk;omega
 simp only[];rw[hr,List.filterMap_map];rcases its with _ | ⟨z,zs⟩
 ·rfl
 ·have q:∀k,k< (z::zs).length->((fun x=>(z::zs).toArray[x]?)∘fun k=>(z::zs).length-1-k) k=some ((z::zs).reverse.getD k z):=fun k hk=>by
   show(z::zs).toArray[(z::zs).length-1-k]? =_;rw[List.getElem?_toArray];have h1:(z::zs).length-1-k< (z::zs).length:=by omega
   rw[aa h1,List.getD_eq_getElem?_getD,List.getElem?_reverse hk,aa h1];rfl
  rw[vz _ q];refine List.ext_getElem (by simp) fun i h1 h2=>?_;rw[List.getElem_map,List.getElem_range,List.getD_eq_getElem?_getD,aa h2];rfl
theorem tE{xs:List V}{its:List Value}(r:Vals xs its):∀{ys:List V} {jts:List Value},Vals ys jts->Vals (xs.reverseAux ys) (its.reverseAux jts):=by
 induction r with
 | nil=>intro ys jts h;exact h
 | cons a _ ih=>intro ys jts h;exact ih (.cons a h)
variable {e st:Expr}{te:TE}{ts:TO}{pos p2:Pos}
def VO(K:i8)(te:TE)(ts:TO):TE:=fun σ H Q=>te σ H fun x H1=>ts σ H1 fun k H2=>k=some (-1)/\∃a xs,x=.ref a/\aT K H2 a xs/\∀p,H2 p=none->Q (.ref p) (upd H2 p (.lst xs.reverse))
theorem LU(he:PE X e te)(hs:PO X (some st) ts):PE X (.Subscript e (.Slice none none (some st) p2) pos) (VO X.K te ts):=by intro kb s σ H Q I h;refine Subscript_ (ck (he kb s σ H _ I h) fun v s1 ⟨x,H1,I1,r1,q1⟩=>?_);refine wpAny_Slice ?_;rw[evalPart_none];refine fg ?_;refine fg ?_;refine ck (hs kb s1 σ H1 _ I1 q1) fun vs s3 ⟨u,H3,I3,pu,q3⟩=>?_;obtain⟨rfl,a,xs,rfl,hx,q⟩:=q3;cases r1;have I4:Inv X kb σ H3 {s3 with heap:=s3.heap.push {cls:=.type "slice",data:=.fields #[.none,.none,vs]}}:=I3.kept (t':=s3.toks) fun b ob q=>gs _ q;obtain⟨its,r,ht,hz⟩:=I4.list hx;have hlen:=r.length;show wpAny (model X.prog X.w) X.A (subscriptTail e (.Slice none none (some st) p2) (.ref a) (.ref s3.heap.objs.size)) (EP X kb σ Q) X.xe {s3 with heap:=s3.heap.push {cls:=.type "slice",data:=.fields #[.none,.none,vs]}};refine tail_any (ops:=[.ref a,.ref s3.heap.objs.size]) ht.isList.typeIs slot_list_getitem.lookup ?_ (by with_unfolding_all rfl);refine wpAny_getItem_list_slice ht.isList (Heap.IsSliceOf.new ..) .none .none pu (by simp) ?_ (by rw[am]<;>omega);rw[DL];refine⟨.ref _,_,I4.laid (t':=s3.toks) (o:=.lst xs.reverse) (fun b ob q=>gs _ q) (mf _) ?_,rfl,q _ (I4.hok.fresh (mf _))⟩;exact⟨by rw[List.length_reverse];exact hz,_,0,tE r .nil,gv _ rfl⟩
end
open PySem PySem.W PySem.Spec PySem.Calls PyProof.Rows
section
variable {X:Cx}{kb:List (Addr×Obj)}{σ:St}{H:Hp}{s:Shared}
theorem kY{X:Cx}:eA X (.type "dict") (fun xs H Q=>∃(p:Addr) (kvs:List (Key×V)),xs=[.ref p]/\H p=some (.dK kvs)/\∀l,H l=none->Q (.ref l) (upd H l (.dK kvs))):=by intro kb s σ H xs Up Q I r h;obtain⟨p,kvs,rfl,hp,q⟩:=h;obtain⟨u,rfl,ru⟩:=vals1 r;cases ru;exact C6 I (.of hp) fun l s' hl I'=>⟨.ref l,_,I',rfl,q l hl⟩
variable {P:Program}{w:World}{K:i8}{mg:Str->Option Value}{base:Heap}{N:List Str}{qual:Str}{scope:Scope}{f:Addr}{cd:Value}{A:Around}{outer:List Env}{s₀:Shared}{H₀:Hp}{E:XK}
theorem lQ{C:Addr}{bmB:List Value}{newId initId Bn:String}{x:Str}{np cpos pos:Pos}(c:Hf K C bmB newId)(FB:ExcBaseFacts Bn newId initId bmB)(hm:mg x=some (.ref C))
  (hg:Gl (gM (Hi P w) P w K mg base N qual scope f cd A outer s₀ H₀ E) x) (hd:(x==("__debug__": Str))=false:=by decide):
  PS (gM (Hi P w) P w K mg base N qual scope f cd A outer s₀ H₀ E) (.Raise (some (.Call (.Name x np) [] [] cpos)) none pos) (fun _ _ H=>E (.ref C) none H):=by
 intro kb s σ H D I h;obtain⟨bm,N',nm,q,bs,hdct,sn,sub,ab,col,dd,k0,k1,k2,k3,k5,mN,hC,hN,hni,T⟩:=c.obj I.mod.KP;have bk:=I.bk;refine wpAny_Raise_call_subT (C:=C) (nm:=nm) (q:=q) (N:=N') (bs:=bs) (bm:=bm) (hdct:=hdct) (sn:=sn) (sub:=sub) (ab:=ab) (col:=col) (dd:=dd) (k0:=k0) (k1:=k1) (k2:=k2) (k3:=k3) (k5:=k5)
  FB (mN:=mN) (T.hasType FB.hasBase) (I.ok.hd rfl) rfl hni (il I hg hm ⟨rfl,evalArgs_empty ⟨rfl,Nat.zero_le _,bk _ _ hC,hN.keeps bk,T.keeps bk,fun h' e made=>?_⟩⟩ hd)
 have stk:∀{b o},s₀.heap.get? b=some o->b∉frs outer->b∉frs ((envOfC qual scope s₀.heap.objs.size f cd)::outer):=fun {b o} hb nf hx=>by
  rcases List.mem_cons.mp (I.oU b hx)with e | e
  ·have h1:=ii hb;have h2:s₀.heap.objs.size<=(envOfC qual scope s₀.heap.objs.size f cd).locals:=I.ok.above;have e:b=(envOfC qual scope s₀.heap.objs.size f cd).locals:=e;rw[e]at h1;exact absurd h1 (Nat.not_lt.mpr h2)
  ·exact nf e
 obtain⟨t,he,htn,ht⟩:=made.there;have DM:(less s.heap (frs ((envOfC qual scope s₀.heap.objs.size f cd)::outer))).get? e=none:=by
  cases hq:(less s.heap (frs ((envOfC qual scope s₀.heap.objs.size f cd)::outer))).get? e with
  | none=>rfl
  | some o'=>have:=j0 e o' hq;rw[made.new]at this;cases this
 have fu:Heap.FunFrames h' (less s.heap (frs ((envOfC qual scope s₀.heap.objs.size f cd)::outer))) ((envOfC qual scope s₀.heap.objs.size f cd)::outer):=(lP I.stack fun b h=>h).of_keeps fun b o hb _=>⟨o,made.keeps b o hb,rfl⟩;refine Hh (s:={s with heap:=h'}) (B:=less s.heap (frs ((envOfC qual scope s₀.heap.objs.size f cd)::outer))) (L:=(envOfC qual scope s₀.heap.objs.size f cd).locals) I.ok.frames fu rfl he (fun b o hb=>made.keeps b o (j0 b o hb)) DM rfl rfl rfl fun h'' fly up dc=>?_;have hk:∀{b o},H b=some o->b∉frs ((envOfC qual scope s₀.heap.objs.size f cd)::outer):=fun {b o} hb hx=>by have:=I.ke b hx;rw[hb]at this;cases this
 have stay:∀{b u},b∉frs ((envOfC qual scope s₀.heap.objs.size f cd)::outer)->s.heap.get? b=some u->h''.get? b=some u:=fun {b u} hb hu=>fly.1 b u (by rw[gg hb];exact hu);have ub:Un (frs outer) [] H₀ H s₀.heap s.heap:=I.base;have slots:∀b o,s₀.heap.get? b=some o->H₀ b=none->b∈frs outer->∃sl,h''.get? b=some {o with slots:=sl}:=fun b o e n hb=>by obtain⟨sl,e1⟩:=ub.slot b o e n hb (by simp);obtain⟨_,o2,e2,nf⟩:=I.jT.mem hb;rw[e1]at e2;cases e2;obtain⟨sl',e3⟩:=up b _ (made.keeps _ _ e1) nf;exact⟨sl',e3⟩
 refine⟨e,.ref C,.ref t,none,H,_,rfl,fly,dc,fun b o hb nf=>?_,fun b o hb=>?_,I.os,I.bare,⟨fun b o e n nf nx=>stay (stk e nf) (ub.keep b o e n nf nx),fun b o e n hb _=>slots b o e n hb,ub.free,fun b o e nx=>?_,ub.tups,ub.jS,ub.ly⟩,fun a o e=>(I.hok a o e).stay (fun b u hc q=>?_) (fun _ q=>q) (fun _ _ q=>q),h⟩
 ·obtain⟨o',e'⟩:=ub.there b o hb (by simp);exact⟨o',by rw[gg (stk hb nf)];exact e'⟩
 ·obtain⟨o',e'⟩:=(I.hok b o hb).some_;exact⟨o',by rw[gg (hk hb)];exact e'⟩
 ·by_cases hb:b∈frs outer
  ·obtain⟨_,o2,e2,nf⟩:=I.jT.mem hb;obtain⟨sl',e3⟩:=up b _ (made.keeps _ _ e2) nf;exact⟨_,e3⟩
  ·obtain⟨o',e'⟩:=ub.there b o e nx;exact⟨o',stay (stk e hb) e'⟩
 ·rcases hc with rfl | hc
  ·exact stay (hk e) q
  ·exact stay (hk hc) q
end
end L2
namespace PySem.W.Fast
def tw8315314588057760566:Nat:=0
def tw16537925992022254306:Nat:=0
def tw874227074771688125:Nat:=0
def tw4131432458166012299:Nat:=0
def tw5522837801520858311:Nat:=0
def tw9338081684284394874:Nat:=0
def tw8186270064332219089:Nat:=0
def tw2983705912700370698:Nat:=0
def tw8079690367290958926:Nat:=0
def tw2620171438486075160:Nat:=0
def tw2717677577834739742:Nat:=0
def tw10512506939994878171:Nat:=0
def tw7774016011808816168:Nat:=0
def tw9294102603384604907:Nat:=0
def tw1736030544271447418:Nat:=0
def tw11134907013193883006:Nat:=0
def tw628652488411001922:Nat:=0
def tw7400484245950893888:Nat:=0
def tw11068621868977239351:Nat:=0
def tw9594948298864961026:Nat:=0
def tw2874828465486122005:Nat:=0
def tw14087527618215250730:Nat:=0
def tw4262260166516112274:Nat:=0
def tw3414206044203372989:Nat:=0
def tw5356241900987449636:Nat:=0
def tw850867458578560878:Nat:=0
def tw11215040395690120737:Nat:=0
def tw15539077490390333561:Nat:=0
def tw632044455886932930:Nat:=0
def tw13984656789358797416:Nat:=0
def tw8756075307910187586:Nat:=0
def tw11884252253125808722:Nat:=0
def tw3700849791686488568:Nat:=0
def tw18154349107756116166:Nat:=0
def tw13945160551544240663:Nat:=0
def tw7458005632371437666:Nat:=0
def tw11036585835979895092:Nat:=0
def tw13090419235546903676:Nat:=0
def tw5291808599734475560:Nat:=0
def tw6069653560456972719:Nat:=0
def tw7315187998995881519:Nat:=0
def tw7134261706988822973:Nat:=0
def tw13299149123723481623:Nat:=0
def tw7538118245904239135:Nat:=0
def tw13379814622567637543:Nat:=0
def tw9647404946733835621:Nat:=0
def tw6809777448719822254:Nat:=0
def tw3035147064680348619:Nat:=0
def tw12805615834046022071:Nat:=0
def tw14364257241145374121:Nat:=0
def tw4287796370426730929:Nat:=0
def tw16352339198954174071:Nat:=0
def tw160569157872529983:Nat:=0
def tw9646814530361070544:Nat:=0
def tw18120880154332302369:Nat:=0
def tw2917809182044365963:Nat:=0
def tw4549755081685137788:Nat:=0
def tw9772013448801684502:Nat:=0
def tw5337463942185121094:Nat:=0
def tw11087968897445295351:Nat:=0
def tw10927374507340152899:Nat:=0
def tw14920970200034246882:Nat:=0
def tw916602426093214942:Nat:=0
def tw4218713612553027369:Nat:=0
def tw17113021986097044620:Nat:=0
def tw5022025622597995484:Nat:=0
def tw6918370852729595125:Nat:=0
def tw7052410856472702963:Nat:=0
def tw17911009188639930871:Nat:=0
def tw10461181273156155256:Nat:=0
def tw9018930016156897110:Nat:=0
def tw16975704022641783596:Nat:=0
def tw17861118056740753570:Nat:=0
def tw1849711730707103299:Nat:=0
def tw574699338759541290:Nat:=0
def tw11140997012793930976:Nat:=0
def tw13791367132649691454:Nat:=0
def tw6374676864670579816:Nat:=0
def tw941212117919661059:Nat:=0
def tw4797284684127020075:Nat:=0
def tw14682685932567622872:Nat:=0
def tw9175159866654823:Nat:=0
def tw16555823338311166475:Nat:=0
def tw3247854687408303103:Nat:=0
def tw1429063789447514660:Nat:=0
def tw16717390175278295895:Nat:=0
def tw10239432702663490711:Nat:=0
def tw12314601027194024206:Nat:=0
def tw16532655268425342156:Nat:=0
def tw5421835167466712541:Nat:=0
def tw5221035612859206422:Nat:=0
def tw1049378093620768966:Nat:=0
def tw17136255875125305382:Nat:=0
def tw15902993611954240651:Nat:=0
def tw12877597061800235899:Nat:=0
def tw7574046397626063216:Nat:=0
def tw4255264891782046002:Nat:=0
def tw6170208492795712108:Nat:=0
def tw6335544184368667040:Nat:=0
def tw14558136938375753472:Nat:=0
def tw16480039802791865206:Nat:=0
def tw15477008447855062404:Nat:=0
def tw14799642637455346061:Nat:=0
def tw14188147920065364586:Nat:=0
def tw7684816614049268625:Nat:=0
def tw13705192366647052033:Nat:=0
def tw12146073983199883729:Nat:=0
def tw12124214379753428038:Nat:=0
def tw8075680850884277705:Nat:=0
def tw2201280313498123878:Nat:=0
def tw2087337102371294071:Nat:=0
def tw6583109115584751944:Nat:=0
def tw45363024186275858:Nat:=0
def tw3000656553559381767:Nat:=0
def tw3648398135873525940:Nat:=0
def tw8934591176407305734:Nat:=0
def tw18324566255415282295:Nat:=0
def tw13354452480709720014:Nat:=0
def tw18445089962026262830:Nat:=0
def tw8759553326349601440:Nat:=0
def tw17285037617136442161:Nat:=0
def tw16675747095982833235:Nat:=0
def tw13428473862157712754:Nat:=0
def tw15311548535150883108:Nat:=0
def tw6344074675279103103:Nat:=0
def tw7584484937841256659:Nat:=0
def tw4902751690580450914:Nat:=0
def tw10072750895067782266:Nat:=0
def tw14453485766971553630:Nat:=0
def tw3470379341583237941:Nat:=0
def tw4690487103859607817:Nat:=0
def tw10096650442494465516:Nat:=0
def tw18431642247850942742:Nat:=0
def tw8891269672809472807:Nat:=0
def tw5449772490547527477:Nat:=0
def tw12620588580818834680:Nat:=0
def tw2423153455893104:Nat:=0
def tw3902358196700448363:Nat:=0
def tw10790591709866246532:Nat:=0
def tw3458905889375050491:Nat:=0
end PySem.W.Fast
namespace My
open PySem L2
abbrev zL0:List Str:=["zero","below"]
abbrev zL1:List Str:=["put","take","see"]
abbrev zL2:List Str:=["jump","call","mark"]
abbrev zL3:List Str:=["back","stop"]
abbrev zL4:List Str:=["set","more"]
abbrev zL5:List Str:=["put","take"]
abbrev zL6:List Str:=["box","box"]
abbrev zL7:List Str:=["box","aside"]
abbrev zL8:List Str:=["copy","take","put","set","more","add","less"]
abbrev zL9:List Str:=["target","far"]
abbrev zL10:List Str:=["copy","add","less","load","keep"]
abbrev zL11:List Str:=["box","target","far"]
abbrev zL13:List Str:=["stop","back","halt","jump"]
theorem _root_.L2.dS.u{n:Nat}{A:Around}(hr:dS n A)(k:Nat)(h:k<=64:=by decide):A.units+k<cLine:=Nat.lt_of_le_of_lt (Nat.add_le_add_left h _) hr.units
abbrev KI(K:i8)(f:Addr):Prop:=PySem.W.keepIn K (.ref f)=true
theorem LV:0<=fw:=by decide
theorem lR:1<=fw:=by decide
theorem iB:2<=fw:=by decide
theorem DN:3<=fw:=by decide
theorem LW:4<=fw:=by decide
theorem VP:7<=fw:=by decide
theorem VQ:8<=fw:=by decide
theorem QH:12<=fw:=by decide
theorem QI:(0:Int)<2:=by decide
theorem QJ:(0:Int)<3:=by decide
theorem LX:(0:Int)<4:=by decide
theorem VR:(0:Int)<7:=by decide
theorem QK:(0:Int)<8:=by decide
theorem QL:(0:Int)<10:=by decide
theorem xY:(0:Int)<1000003:=by decide
theorem vA:(0:Int)<10000019:=by decide
theorem jO:(0:Int)<2147483629:=by decide
theorem gN:(0:Int)<2147483647:=by decide
open List (all_cons all_eq_true all_map all_nil any_cons append_assoc append_nil cons_ne_nil dropLast_subset filterMap_append filter_append filter_cons length_append length_cons length_drop length_dropLast length_filter_le length_map length_range length_replicate length_set length_singleton length_take length_zip map_append map_cons map_inj_right map_map map_set mem_append mem_append_left mem_append_right mem_cons_self mem_filter mem_filterMap mem_map mem_range mem_singleton nodup_append nodup_cons not_mem_nil pairwise_append range' replicate replicate_succ take_add_one take_length take_of_length_le take_succ zip_cons_cons)
open PySem.W (Frag KeysLit OpenLaw WalkO clsIn codeIn excIn exmOne findIn fnOf hasDictIn isFn kIn_of keepIn kitMeta kitOne makesIn mg_none_of mg_of mroIn nsIn plainGet plainOver)
open Option (map_eq_some_iff toList_some)
open Nat (le_of_ble_eq_true le_refl le_trans lt_of_le_of_lt sub_self zero_le)
def top(i:Nat):Stmt:=PySem.Challenge.pw_widenrows_k63_what_boxes_hold.main.body.getD i (.Pass ⟨0,0,0,0⟩)
abbrev JU:Stmt:=top 7
abbrev vB:Stmt:=top 8
abbrev JV:Stmt:=top 9
abbrev DO:Stmt:=top 13
abbrev QM:Stmt:=top 14
abbrev xZ:Stmt:=top 24
abbrev zO:Stmt:=top 25
abbrev DP:Stmt:=top 26
abbrev DQ:Stmt:=top 27
abbrev pN:Stmt:=top 28
abbrev ya:Stmt:=top 29
abbrev zP:Stmt:=top 30
abbrev tF:Stmt:=top 31
abbrev yb:Stmt:=top 32
abbrev vC:Stmt:=top 33
abbrev Bb:Stmt:=top 7
abbrev tG:Stmt:=top 8
abbrev Bc:Stmt:=top 9
abbrev yc:Stmt:=top 13
abbrev pP:Stmt:=top 14
abbrev lS:Stmt:=top 15
abbrev pQ:Stmt:=top 16
abbrev iC:Stmt:=top 17
abbrev gi:Stmt:=top 18
abbrev yd:Stmt:=top 24
abbrev vD:Stmt:=top 25
abbrev nA:Stmt:=top 26
abbrev tH:Stmt:=top 27
abbrev ye:Stmt:=top 28
abbrev yf:Stmt:=top 29
abbrev tI:Stmt:=top 30
abbrev nE:Stmt:=top 31
abbrev lT:Stmt:=top 32
abbrev tJ:Stmt:=top 33
abbrev i9:Stmt:=top 35
abbrev ja:Stmt:=top 36
abbrev jb:Stmt:=top 45
abbrev dH:Stmt:=top 46
abbrev fJ:Stmt:=top 47
abbrev dI:Stmt:=top 48
abbrev j4:Stmt:=top 49
abbrev fO:Stmt:=top 50
abbrev gP:Stmt:=top 51
abbrev gj:Stmt:=top 52
abbrev eI:Stmt:=top 53
abbrev dY:Stmt:=top 54
abbrev gQ:Stmt:=top 56
abbrev iD:Stmt:=top 57
abbrev lU:Stmt:=top 58
abbrev jD:Stmt:=top 59
abbrev iE:Stmt:=top 60
abbrev jE:Stmt:=top 62
abbrev lV:Stmt:=top 63
abbrev dn:Stmt:=top 64
abbrev j5:Stmt:=top 65
abbrev fh:Stmt:=top 66
abbrev iF:Stmt:=top 67
abbrev j6:Stmt:=top 68
abbrev jc:Stmt:=top 69
theorem d6:bootBuiltins "list"=some (.type "list"):=by decide+kernel
theorem jd:bootBuiltins "tuple"=some (.type "tuple"):=by decide+kernel
theorem tK:bootBuiltins "set"=some (.type "set"):=by decide+kernel
theorem HC:bootBuiltins "bool"=some (.type "bool"):=by decide+kernel
theorem cZ:bootBuiltins "len"=some (.builtin "len"):=by decide+kernel
theorem gZ:bootBuiltins "sorted"=some (.builtin "sorted"):=by decide+kernel
theorem iG:bootBuiltins "isinstance"=some (.builtin "isinstance"):=by decide+kernel
theorem at0{α:Type}(a:α)(r:List α):mQ (a::r) 0=some a:=cG (j:=0) rfl
theorem at1{α:Type}(a b:α)(r:List α):mQ (a::b::r) 1=some b:=cG (j:=1) rfl
theorem at2{α:Type}(a b c:α)(r:List α):mQ (a::b::c::r) 2=some c:=cG (j:=2) rfl
theorem strEq{a b:Str}(h:decide (V.str a=V.str b)=true):a=b:=V.str.inj (of_decide_eq_true h)
theorem rX{a b:Str}(h:¬decide (V.str a=V.str b)=true):¬a=b:=fun e=>h (by rw[e];exact decide_eq_true rfl)
theorem dz(w:Str):∀ss:List Str,inV (.str w) (ss.map V.str)=decide (w∈ss)
 | []=>rfl
 | x::r=>by
  have ih:=dz w r;unfold inV at ih ⊢;rw[map_cons,any_cons,ih];show((x==w)||_)=_;by_cases h:x=w
  ·subst h;simp
  ·have h':¬w=x:=fun e=>h e.symm;simp[h,h']
theorem ai{H:Hp}{l:Addr}{o:HO}(h:H l=none):Same H (upd H l o):=fun b u e=>by rw[aw (bt e h)];exact e
theorem tL:bootBuiltins "int"=some (.type "int"):=by decide+kernel
theorem je:bootBuiltins "all"=some (.builtin "all"):=by decide+kernel
theorem aF{H H1:Hp}{l:Addr}{o:HO}(e:Same H H1)(h:H l=none):Same H (upd H1 l o):=fun b u z=>by rw[aw (bt z h)];exact e b u z
def eu:List Str:=["stop","back","halt","set","more","copy","add","less","load","keep","tell","see","put","take","jump","zero","below","call","mark","table"]
def w2:List Str:=["copy","add","less","load","keep"]
def w1:List Str:=["set","more","tell","see","put","take","zero","below","table"]
def w7:List Str:=["set","more","copy","add","less","load","take"]
def fA:List Str:=["copy","load"]
def fB:List Str:=["add","less","keep"]
def fC:List Str:=["more","tell","see","put","zero","below","table"]
def fD:List Str:=["stop","back","halt","set","take","jump","call","mark"]
def places:List (Str×List Int):=[("more",[1]),("copy",[2]),("add",[1,2]),("less",[1,2]),("load",[2]),("keep",[1,2]),("tell",[1]),("see",[1]),("put",[1]),("zero",[1]),("below",[1]),("table",[1])]
def fY(u:Str)(items:List V):Prop:=(u∈w2->∃b c:Int,items=[.int b,.int c])/\(u∈w1->∃(b:Int) (r:List V),items=.int b::r)
theorem fY.one{u:Str}{b:Int}{r:List V}(h:¬u∈w2):fY u (.int b::r):=⟨fun z=>absurd z h,fun _=>⟨b,r,rfl⟩⟩
theorem DR{K:Frag}{a b:String}{r:Bool}(h1:(Value.type a==Value.type b)=false)(h2:kitMeta b=true)(h3:(fastBuiltinMro a).map (·.contains (Value.type b))=some r):kitOne K (.type a) (.type b)=some r:=by unfold kitOne;rw[if_neg (by rw[h1];decide)];show(if kitMeta b=true then (fastBuiltinMro a).map (·.contains (Value.type b))else none)=some r;rw[if_pos h2];exact h3
theorem pR{K:Frag}{a:String}(h:(Value.type a==Value.type a)=true):kitOne K (.type a) (.type a)=some true:=by unfold kitOne;rw[if_pos h]
theorem yg{K:Frag}:kitOne K (.type "int") (.type "bool")=some false:=DR (by decide) (by decide+kernel) (by decide+kernel)
theorem yh{K:Frag}:kitOne K (.type "bool") (.type "int")=some true:=DR (by decide) (by decide+kernel) (by decide+kernel)
theorem Be{K:Frag}:kitOne K (.type "int") (.type "int")=some true:=pR (by decide)
theorem vE{K:Frag}:kitOne K (.type "bool") (.type "bool")=some true:=pR (by decide)
theorem qX{K:Frag}:kitOne K (.type "tuple") (.type "tuple")=some true:=pR (by decide)
theorem jf{K:Frag}:kitOne K (.type "list") (.type "list")=some true:=pR (by decide)
def dA:List Str:=["stop","back","halt","jump"]
def oM:List Str:=["jump","call","mark"]
def zb:List Str:=["zero","below"]
def Parts(H:Hp)(w:Str)(items:List V)(ts:List Int):Prop :=
 if w ="table"then ∃(b:V) (q:Addr),items=[b,.ref q]/\H q=some (.tup (ts.map V.int))
 else if w∈oM then ∃(t:Int) (f:V),items=[.int t,f]/\ts=[t]
 else if w∈zb then ∃(b:V) (t:Int) (f:V),items=[b,.int t,f]/\ts=[t]else ts=[]
def rY(H:Hp)(r:Addr)(w:Str)(ts:List Int):Prop:=∃items,H r=some (.tup (.str w::items))/\Parts H w items ts
theorem Parts.same{H H':Hp}{w:Str}{items:List V}{ts:List Int}(e:Same H H')(h:Parts H w items ts):Parts H' w items ts:=by
 unfold Parts at h ⊢;split
 ·rename_i h1;rw[if_pos h1]at h;obtain⟨b,q,h2,h3⟩:=h;exact⟨b,q,h2,e _ _ h3⟩
 ·rename_i h1;rw[if_neg h1]at h;exact h
theorem rY.same{H H':Hp}{r:Addr}{w:Str}{ts:List Int}(e:Same H H')(h:rY H r w ts):rY H' r w ts:=by obtain⟨items,h1,h2⟩:=h;exact⟨items,e _ _ h1,h2.same e⟩
def rZ:List Str:=["stop","back","halt"]
structure Txt(K:Frag)(pr:Params)(mg:Str->Option Value):Prop where
 rat:∃p,mg "READ_AT"=some (.ref p)/\(∃es n,K.lookup p=some ⟨.type "dict",none,.dict es n,#[]⟩)/\(∀x∈places,∃q,eS K pr p x.1 (some (.ref q))/\∀H,bh K H q (x.2.map V.int))/\∀u∈fD,eS K pr p u none
 wr:∃p,mg "WRITING"=some (.ref p)/\∀H,bh K H p (w7.map V.str)
 ends:∃ p,mg "ENDS" = some (.ref p)/\∀ H,bh K H p (rZ.map V.str)
 non:∃p,mg "NOT_GOING_ON"=some (.ref p)/\∀H,bh K H p (dA.map V.str)
 LY:∃p,mg "ALL_BOXES"=some (.ref p)/\∀H,bh K H p ([0,1,2,3,4,5,6,7].map V.int)
 bnd:∃p,mg "BOUNDS"=some (.ref p)/\∃q,eS K pr p "box" (some (.ref q))/\∀H,bh K H q [.int 0,.int 7]
 set:mg "set"=none
 sorted:mg "sorted"=none
 list:mg "list"=none
 int:mg "int"=none
 bool:mg "bool"=none
 tuple:mg "tuple"=none
 HE:mg "isinstance"=none
 min:mg "min"=none
 range:mg "range"=none
 len:mg "len"=none
 all:mg "all"=none
 enum:mg "enumerate"=none
 max:mg "max"=none
 HF:∃p,mg "PARTS"=some (.ref p)/\VA K pr p/\(∃q,eS K pr p "stop" (some (.ref q))/\∀H,bh K H q [])/\(∃q,eS K pr p "back" (some (.ref q))/\∀H,bh K H q [])/\(∃q,eS K pr p "halt" (some (.ref q))/\∀H,bh K H q [.str "number"])/\(∃q,eS K pr p "set" (some (.ref q))/\∀H,bh K H q [.str "box",.str "value"])/\(∃q,eS K pr p "more" (some (.ref q))/\∀H,bh K H q [.str "box",.str "value"])/\(∃q,eS K pr p "copy" (some (.ref q))/\∀H,bh K H q [.str "box",.str "box"])/\(∃q,eS K pr p "add" (some (.ref q))/\∀H,bh K H q [.str "box",.str "box"])/\(∃q,eS K pr p "less" (some (.ref q))/\∀H,bh K H q [.str "box",.str "box"])/\(∃q,eS K pr p "load" (some (.ref q))/\∀H,bh K H q [.str "box",.str "box"])/\(∃q,eS K pr p "keep" (some (.ref q))/\∀H,bh K H q [.str "box",.str "box"])/\(∃q,eS K pr p "tell" (some (.ref q))/\∀H,bh K H q [.str "box"])/\(∃q,eS K pr p "see" (some (.ref q))/\∀H,bh K H q [.str "box",.str "number"])/\(∃q,eS K pr p "put" (some (.ref q))/\∀H,bh K H q [.str "box",.str "aside"])/\(∃q,eS K pr p "take" (some (.ref q))/\∀H,bh K H q [.str "box",.str "aside"])/\(∃q,eS K pr p "jump" (some (.ref q))/\∀H,bh K H q [.str "target",.str "far"])/\(∃q,eS K pr p "zero" (some (.ref q))/\∀H,bh K H q [.str "box",.str "target",.str "far"])/\(∃q,eS K pr p "below" (some (.ref q))/\∀H,bh K H q [.str "box",.str "target",.str "far"])/\(∃q,eS K pr p "call" (some (.ref q))/\∀H,bh K H q [.str "target",.str "far"])/\(∃q,eS K pr p "mark" (some (.ref q))/\∀H,bh K H q [.str "target",.str "far"])/\(∃q,eS K pr p "table" (some (.ref q))/\∀H,bh K H q [.str "box",.str "targets"])
 qY:∃t,mg "MOST_WALKED"=some (.int (2000) t)
 qZ:∃p,mg "NEEDED_KEYS"=some (.ref p)/\∀H,bh K H p [.str "leads",.str "forms",.str "free"]
 nF:∃p,mg "STAYING_PARTS"=some (.ref p)/\∀H,bh K H p [.str "box",.str "aside",.str "number",.str "value"]
 nG:∃p,mg "MAY_BE_PUT_IN"=some (.ref p)/\∀H,bh K H p [.str "set",.str "more",.str "copy",.str "add",.str "less",.str "put",.str "take",.str "see",.str "jump",.str "zero",.str "below",.str "halt"]
 yi:∃p,mg "SPOILING"=some (.ref p)/\∀H,bh K H p [.str "set",.str "more",.str "add",.str "less"]
 dict:mg "dict"=none
 zip:mg "zip"=none
 abs:mg "abs"=none
 str:mg "str"=none
def iH(ms:List Int)(p:Int->Prop):Prop:=ms.Pairwise (· <= ·)/\ms.Nodup/\∀j,j∈ms↔p j
theorem iH.eq{p:Int->Prop}:∀{ms ns:List Int},iH ms p->iH ns p->ms=ns:=by intro ms ns a b;have hp:ms.Perm ns:=(List.perm_ext_iff_of_nodup a.2.1 b.2.1).mpr fun j=>(a.2.2 j).trans (b.2.2 j).symm;exact hp.eq_of_pairwise (le:=(· <= ·)) (fun x y _ _ h1 h2=>Int.le_antisymm h1 h2) a.1 b.1
def Need(u:Str)(items:List V)(j:Int):Prop:=(u∈fA/\items[1]? =some (.int j))\/(u∈fB/\(items[0]? =some (.int j)\/items[1]? =some (.int j)))\/(u∈fC/\items[0]? =some (.int j))
def zQ(u:Str)(items:List V)(ms:List Int):Prop:=(u∈w7/\∃b r,items=.int b::r/\ms=[b])\/(¬u∈w7/\ms=[])
theorem DS{u:Str}{items:List V}(h:fY u items)(hu:u∈w7):∃b r,items=V.int b::r:=by
 rcases(by decide+kernel:∀u∈w7,u∈w1\/u∈w2) u hu with z | z
 ·exact h.2 z
 ·obtain⟨b,c,e⟩:=h.1 z;exact⟨b,_,e⟩
section
variable {P:Program}{w:World}{K:Frag}{mg:Str->Option Value}{base:Heap}
local macro_rules | `(tactic| walk_at "hp")=>`(tactic| first | assumption | exact ah | (refine at_new (by assumption) ?_; walk_at "hp") | (refine at_same (by assumption) ?_; walk_at "hp"))
local macro_rules | `(tactic| walk_at "sq")=>`(tactic| first | exact aT.of (by walk_at "hp") | exact bh.of (by walk_at "hp") | assumption | exact .inl (by walk_at "sq") | exact .inr (by walk_at "sq") | exact ⟨_,by walk_at "sq"⟩)
local macro_rules | `(tactic| walk_at "ix")=>`(tactic| first | exact at0 _ _ | exact at1 _ _ _ | exact at2 _ _ _ _ | assumption)
local macro_rules | `(tactic| walk_at "sz")=>`(tactic| exact le_of_ble_eq_true rfl)
local macro_rules | `(tactic| walk_at "c")=>`(tactic| first | assumption | (refine ⟨by decide,by decide⟩) | (refine ⟨by decide,by decide,by decide⟩) | (refine .inl ⟨by decide,by decide⟩) | (refine .inr ⟨by decide,by decide⟩) | (exact (by decide)) | omega)
local macro_rules | `(tactic| walk_at "r1")=>`(tactic| first
 | (refine⟨_,rfl,?_⟩)
 | (refine⟨_,_,rfl,rfl,?_⟩)
 | (refine⟨_,?_,_,?_,rfl,rfl,?sq,?ix,?k⟩;rotate_left 2;(case sq=>walk_at "sq");(case ix=>walk_at "ix"))
 | (refine⟨_,?_,rfl,?sq,?k⟩;rotate_left 1;(case sq=>walk_at "sq"))
 | (refine⟨_,?_,rfl,?sq,rfl,rfl,?k⟩;rotate_left 1;(case sq=>walk_at "sq"))
 | (refine⟨by walk_at "sz",fun _ _=>?_⟩)
 | (refine iteT ?_) | (refine iteF ?_)
 | (refine⟨rfl,_,rfl,?_⟩)
 | (refine⟨rfl,?_⟩)
 | (refine⟨by walk_at "c",?_⟩))
local macro_rules | `(tactic| walk_at "rd")=>`(tactic| repeat walk_at "r1")
inductive pS(vs:List V)(H:Hp)(Q:VK)(E_:XK):Prop
 | mk (r:Addr) (u:Str) (items:List V) (_:vs=[.ref r]) (_:H r=some (.tup (.str u::items))) (_:fY u items) (_:∀(l:Addr) (ms:List Int) (H':Hp),Same H H'->H l=none->H' l=some (.lst (ms.map V.int))->zQ u items ms->Q (.ref l) H')
theorem DT:aI ["row"] ["row"] (ao zO):=by walk_at "sc1"
theorem Bf{f:Addr}{fd:fo}(F:cE K "writes_of" "writes_of" zO f fd)(T:Txt K w.params mg):aL P w K mg base bQ 1 f fd ["row"] pS:=by
 refine F.ok DT (by walk_at "ln") (fun Lq A outer s H vs Q E hr h=>?_)
 ·obtain⟨r,u,items,rfl,hR,hI,k⟩:=h;obtain⟨p,hp,hq⟩:=T.wr;have hq:=hq H;refine⟨_,(aA (aE (oZ (aN bj (aJ aQ (pv 0) aq (fun _ _=>rfl)) (cF (v:=.ref p) rfl hp rfl) rfl) (dD (ae (aJ aQ (pv 0) aq (fun _ _=>rfl)) aj)) (dD aj)))),?_⟩
  walk_at "rd"
  rw[show inV (.str u) (w7.map V.str)=decide (u∈w7)from dz _ _];refine dF (fun e=>?_) (fun e=>?_)
  ·have e:=of_decide_eq_true e;obtain⟨b,r',rfl⟩:=DS hI e
   walk_at "rd"
   exact k _ [b] _ (ai (by assumption)) (by assumption) ah (.inl ⟨e,b,r',rfl,rfl⟩)
  ·have e:¬u∈w7:=fun z=>e (decide_eq_true z)
   walk_at "rd"
   exact k _ [] _ (ai (by assumption)) (by assumption) ah (.inr ⟨e,rfl⟩)
inductive zR(vs:List V)(H:Hp)(Q:VK)(E_:XK):Prop
 | mk (r:Addr) (u:Str) (items:List V) (_:vs=[.ref r]) (_:H r=some (.tup (.str u::items))) (_:u∈eu) (_:fY u items) (_:∀(l:Addr) (ms:List Int) (H':Hp),Same H H'->H l=none->H' l=some (.lst (ms.map V.int))->ms.length<=2->iH ms (Need u items)->Q (.ref l) H')
theorem Bg{u:Str}{items:List V}(hu:u∈eu)(hI:fY u items):∃(ps ns:List Int),ps.length=ns.length/\ns.length<=2/\((u,ps)∈places\/(u∈fD/\ps=[]))/\(∀(i:Nat) p n,ps[i]? =some p->ns[i]? =some n->mQ (.str u::items) p=some (.int n))/\∀j,j∈ns↔Need u items j:=by
 rcases(by decide+kernel:∀u∈eu,u∈fA\/u∈fB\/u∈fC\/u∈fD) u hu with h | h | h | h
 ·obtain⟨b,c,rfl⟩:=hI.1 ((by decide+kernel:∀u∈fA,u∈w2) u h);refine⟨[2],[c],rfl,by simp,.inl ((by decide+kernel:∀u∈fA,(u,([2]:List Int))∈places) u h),fun i p n a b=>?_,fun j=>?_⟩
  ·cases i with
   | zero=>simp at a b;subst a;subst b;exact at2 _ _ _ _
   | succ i=>simp at a
  ·have n1:=(by decide+kernel:∀u∈fA,¬u∈fB/\¬u∈fC) u h;simp[Need,h,n1.1,n1.2,eq_comm]
 ·obtain⟨b,c,rfl⟩:=hI.1 ((by decide+kernel:∀u∈fB,u∈w2) u h);refine⟨[1,2],[b,c],rfl,by simp,.inl ((by decide+kernel:∀u∈fB,(u,([1,2]:List Int))∈places) u h),fun i p n a b=>?_,fun j=>?_⟩
  ·cases i with
   | zero=>simp at a b;subst a;subst b;exact at1 _ _ _
   | succ i=>cases i with
    | zero=>simp at a b;subst a;subst b;exact at2 _ _ _ _
    | succ i=>simp at a
  ·have n1:=(by decide+kernel:∀u∈fB,¬u∈fA/\¬u∈fC) u h;simp[Need,h,n1.1,n1.2,eq_comm]
 ·obtain⟨b,r,rfl⟩:∃(b:Int) (r:List V),items=.int b::r:=hI.2 ((by decide+kernel:∀u∈fC,u∈w1) u h);refine⟨[1],[b],rfl,by simp,.inl ((by decide+kernel:∀u∈fC,(u,([1]:List Int))∈places) u h),fun i p n a b=>?_,fun j=>?_⟩
  ·cases i with
   | zero=>simp at a b;subst a;subst b;exact at1 _ _ _
   | succ i=>simp at a
  ·have n1:=(by decide+kernel:∀u∈fC,¬u∈fA/\¬u∈fB) u h;simp[Need,h,n1.1,n1.2,eq_comm]
 ·refine⟨[],[],rfl,by simp,.inr ⟨h,rfl⟩,fun i p n a=>by simp at a,fun j=>?_⟩;have n1:=(by decide+kernel:∀u∈fD,¬u∈fA/\¬u∈fB/\¬u∈fC) u h;simp[Need,n1.1,n1.2.1,n1.2.2]
theorem HG:aI ["row"] ["row"] (ao xZ):=by walk_at "sc1"
def Bh:Scope:={kind:=.function,names:=[(".0",.local),("place",.local),("row",.free)],isGenerator:=false,isCoroutine:=false,more:=[]}
theorem sd:bZ (ao xZ) Bh ["row"] ["place","row"] [none,some 0]:=by walk_at "sc2"
theorem DU{f:Addr}{fd:fo}(F:cE K "reads_of" "reads_of" xZ f fd)(T:Txt K w.params mg):aL P w K mg base bQ 1 f fd ["row"] zR:=by
 refine F.ok HG (by walk_at "ln") (fun Lq A outer s H vs Q E hr h=>?_)
 ·obtain⟨r,u,items,rfl,hR,hu,hI,k⟩:=h;obtain⟨p,hp,hd,h1,h2⟩:=T.rat;obtain⟨ps,ns,hl,h2n,hps,hat,hmem⟩:=Bg hu hI;obtain⟨rr,hk,hrr⟩:∃rr,eS K w.params p u rr/\((∃q,rr=some (.ref q)/\∀H,bh K H q (ps.map V.int))\/(rr=none/\ps=[])):=by
   rcases hps with h | ⟨h,e⟩
   ·obtain⟨q,a,b⟩:=h1 _ h;exact⟨_,a,.inl ⟨q,rfl,b⟩⟩
   ·exact⟨none,h2 u h,.inr ⟨rfl,e⟩⟩
  refine⟨_,(aA (aE (aG (eG rfl) (by rfl) T.sorted gZ (ae (bf (i6 rfl) (by rfl) T.set tK (ae (cO (N':=["place","row"]) (fr:=[none,some 0]) sd rfl (iW (Dl (cF (v:=.ref p) (by rfl) hp rfl) (aJ aQ (pv 0) aq (fun _ _=>rfl)) (aZ aj) ⟨rfl,rfl,rfl,rfl⟩)) (fun C s0 H0 fp=>(aR (i:=0) sd.nd rfl (Or.inl rfl))) (fun C s0 H0 fp=>cB) (fun C s0 H0 fp=>(aJ (r:=Lc K) aQ (pv 1) (pv 0) (fun _ _=>rfl)))) aj)) aj)))),?_⟩;refine⟨p,rfl,hd,_,rfl,r,_,_,_,rfl,rfl,bh.of hR,at0 _ _,(by walk_at "sz"),fun t nt=>⟨u,rr,rfl,hk,?_⟩⟩;have s0:=ai (o:=.tup []) nt;obtain⟨a,ha,hsq⟩:∃a,rr.getD (.ref t)=.ref a/\∀H',Same (upd H t (.tup [])) H'->bh K H' a (ps.map V.int):=by
   rcases hrr with ⟨q,rfl,b⟩ | ⟨rfl,rfl⟩
   ·exact⟨q,rfl,fun H' _=>b H'⟩
   ·exact⟨t,rfl,fun H' s'=>bh.of (s' _ _ ah)⟩
  rw[ha];refine⟨a,rfl,⟨_,hsq _ (Same.refl _)⟩,fun D nD=>fe (K:=K) (a:=a) (xs:=ps.map V.int) (fun i σ ys H2=>∃v,σ=[v,some (.ref r)]/\ys=(ns.take i).map V.int/\Same (upd H t (.tup [])) H2/\H2 D=some (.lst ys)) ?_ ?_ ?_ ?_⟩
  ·exact⟨none,rfl,rfl,ai nD,ah⟩
  ·rintro i σ ys H2 _ ⟨v,rfl,rfl,s2,_⟩;exact hsq _ s2
  ·rintro i x σ ys H2 hx ⟨v,rfl,rfl,s2,hD⟩;rw[ac]at hx;obtain⟨pp,hpp,rfl⟩:=map_eq_some_iff.mp hx;have hil:=(ag.mp hpp).1;have hnn:ns[i]? =some ns[i]:=aa (by omega);refine⟨_,rfl,_,rfl,r,_,_,.int ns[i],rfl,rfl,bh.of (s2 _ _ (s0 _ _ hR)),hat i pp _ hpp hnn,hD,?_,?_⟩
   ·rw[length_map];exact jz (by rw[length_take];omega)
   ·refine⟨_,rfl,?_,aF s2 nD,ah⟩;rw[take_succ,hnn,map_append];rfl
  ·rintro σ ys H2 ⟨v,rfl,rfl,s2,hD⟩;have e:ns.take (ps.map V.int).length=ns:=by rw[length_map,hl,take_length]
   rw[e]at hD;have sH:=s0.trans s2;refine⟨D,ns,rfl,aT.of hD,by omega,fun l' us VT hus hnd JW=>⟨l',us,rfl,ah,by omega,fun l2 ms lu hpm Dj=>?_⟩⟩;have s3:=sH.trans (ai (o:=jZ P w l' us) VT);exact k l2 ms _ (s3.trans (ai lu)) (s3.free lu) ah (by rw[hpm.length_eq];omega) ⟨Dj,hpm.nodup_iff.mpr hnd,fun j=>by rw[hpm.mem_iff,JW,hmem]⟩
theorem df{c A B:Prop}[Decidable c](h:c)(a:A):if c then A else B:=by rw[if_pos h];exact a
theorem cC{c A B:Prop}[Decidable c](h:¬c)(b:B):if c then A else B:=by rw[if_neg h];exact b
theorem pT:bootBuiltins "range"=some (.type "range"):=by decide+kernel
theorem Bi{K:Frag}{H H':Hp}{x:V}{t:Value}(s:Same H H')(h:iu K H x t):iu K H' x t:=by
 cases h with
 | non=>exact .non
 | bl x=>exact .bl x
 | int i=>exact .int i
 | str x=>exact .str x
 | flt x=>exact .flt x
 | lst e=>exact .lst (s _ _ e)
 | jr e=>exact .jr (s _ _ e)
 | tup e=>exact .tup (s _ _ e)
 | dK e=>exact .dK (s _ _ e)
 | dT e=>exact .dT (s _ _ e)
 | ins e a b c d f=>exact .ins (s _ _ e) a b c d f
def pU(K:Frag)(H:Hp)(x:V)(b:Bool):Prop:=(∃i:Int,x=.int i/\b=decide (0<=i/\i<=7))\/(b=false/\((∃y,x=.bl y)\/∃t,iu K H x t/\kitOne K t (.type "int")=some false))
theorem pU.same{K:Frag}{H H':Hp}{x:V}{b:Bool}(s:Same H H')(h:pU K H x b):pU K H' x b:=by
 rcases h with h | ⟨h,h2 | ⟨t,h3,h4⟩⟩
 ·exact .inl h
 ·exact .inr ⟨h,.inl h2⟩
 ·exact .inr ⟨h,.inr ⟨t,Bi s h3,h4⟩⟩
inductive oN(vs:List V)(H:Hp)(Q:VK)(E_:XK):Prop
 | mk (x:V) (b:Bool) (_:vs=[x]) (_:((b=true/\∃i,x=.int i)\/(b=false/\((∃y,x=.bl y)\/∃t,iu K H x t/\kitOne K t (.type "int")=some false)))) (_:Q (.bl b) H)
theorem HI:aI ["thing"] ["thing"] (ao DO):=by walk_at "sc1"
theorem DV{f:Addr}{fd:fo}(F:cE K "is_whole" "is_whole" DO f fd)(T:Txt K w.params mg):aL P w K mg base bQ 1 f fd ["thing"] (oN (K:=K)):=by
 refine F.ok HI (by walk_at "ln") (fun Lq A outer s H vs Q E hr h=>?_)
 ·obtain⟨x,b,rfl,h,k⟩:=h;refine⟨_,(aA (aE (oY (aG dG (by rfl) T.HE iG (ae (pv 0) (ae (iq (v:=.ty "int") (by rfl) T.int tL rfl) aj))) (gH (wV (aG dG (by rfl) T.HE iG (ae (pv 0) (ae (iq (v:=.ty "bool") (by rfl) T.bool HC rfl) aj)))))))),?_⟩;rcases h with ⟨rfl,i,rfl⟩ | ⟨rfl,⟨y,rfl⟩ | ⟨t,ht,hk⟩⟩
  ·refine⟨_,rfl,_,_,_,_,rfl,.int _,Be,true,rfl,df rfl ?_⟩;exact⟨_,rfl,_,_,_,_,rfl,.int _,yg,false,rfl,k⟩
  ·refine⟨_,rfl,_,_,_,_,rfl,.bl _,yh,true,rfl,df rfl ?_⟩;exact⟨_,rfl,_,_,_,_,rfl,.bl _,vE,true,rfl,k⟩
  ·exact⟨_,rfl,_,_,_,_,rfl,ht,hk,false,rfl,cC (by decide) k⟩
inductive JX(vs:List V)(H:Hp)(Q:VK)(E_:XK):Prop
 | mk (x:V) (b:Bool) (_:vs=[.str "box",x]) (_:pU K H x b) (_:Q (.bl b) H)
theorem QN:aI ["kind","thing"] ["kind","thing"] (ao QM):=by walk_at "sc1"
theorem LZ{f fW:Addr}{fd kZ:fo}(F:cE K "is_number_of" "is_number_of" QM f fd)(T:Txt K w.params mg)(GW:aL P w K mg base bQ 1 fW kZ ["thing"] (oN (K:=K)))(kW:KI K fW)(bW:Binds K kZ ["thing"] [])(mW:mg "is_whole"=some (.ref fW)):aL P w K mg base bQ 2 f fd ["kind","thing"] (JX (K:=K)):=by
 refine F.ok QN (by walk_at "ln") (fun Lq A outer s H vs Q E hr h=>?_)
 ·obtain⟨x,b,rfl,h,k⟩:=h;obtain⟨p,hp,q,hk,hq⟩:=T.bnd;refine⟨_,(aA (aE (oY (aC GW hr (by rfl) mW kW bW .nil aU (ae (pv 1) aj)) (gH (CL JG JG (aJ aQ (oF (cF (v:=.ref p) (by rfl) hp rfl) (pv 0) (fun _ _=>rfl)) aq (fun _ _=>rfl)) (pv 1) (aJ aQ (oF (cF (v:=.ref p) (by rfl) hp rfl) (pv 0) (fun _ _=>rfl)) aq (fun _ _=>rfl))))))),?_⟩;rcases h with ⟨i,rfl,rfl⟩ | ⟨rfl,h⟩
  ·refine⟨_,rfl,_,true,rfl,.inl ⟨rfl,i,rfl⟩,true,rfl,df rfl ?_⟩;refine⟨_,rfl,p,_,_,rfl,rfl,hk,q,_,0,_,rfl,rfl,hq _,at0 _ _,_,rfl,_,_,rfl,rfl,_,rfl,?_⟩;by_cases h0:0<=i
   ·refine df (decide_eq_true h0) ?_;refine⟨_,rfl,p,_,_,rfl,rfl,hk,q,_,1,_,rfl,rfl,hq _,at1 _ _ _,_,_,rfl,rfl,?_⟩;have e:decide (0<=i/\i<=7)=decide (i<=7):=decide_eq_decide.mpr ⟨fun z=>z.2,fun z=>⟨h0,z⟩⟩;rw[e]at k;exact k
   ·refine cC (fun z=>h0 (of_decide_eq_true z)) ?_;rw[decide_eq_false (fun z=>h0 z.1)]at k;exact k
  ·exact⟨_,rfl,_,false,rfl,.inr ⟨rfl,h⟩,false,rfl,cC (by decide) k⟩
def jg(H:Hp)(v:V)(ms:List Int):Prop:=∃q,v=.ref q/\H q=some (.tup (ms.map V.int))/\(∀b∈ms,0<=b/\b<=7)/\ms.Pairwise (· <= ·)/\ms.Nodup/\ms.length<64
def QO(K:Frag)(H:Hp)(v:V):Prop:=(∃t,iu K H v t/\kitOne K t (.type "tuple")=some false)\/
 (∃(q:Addr) (xs:List V) (bs:List Bool),v=.ref q/\H q=some (.tup xs)/\bs.length=xs.length/\(∀(i:Nat) x b,xs[i]? =some x->bs[i]? =some b->pU K H x b)/\bs.all id=false/\xs.length<64)\/
 (∃(q:Addr) (ms:List Int),v=.ref q/\H q=some (.tup (ms.map V.int))/\(∀b∈ms,0<=b/\b<=7)/\ms.length<64/\¬(ms.Pairwise (· <= ·)/\ms.Nodup))
theorem jg.same{H H':Hp}{v:V}{ms:List Int}(s:Same H H')(h:jg H v ms):jg H' v ms:=by obtain⟨q,a,b,c⟩:=h;exact⟨q,a,s _ _ b,c⟩
inductive zS(vs:List V)(H:Hp)(Q:VK)(E_:XK):Prop
 | mk (v:V) (b:Bool) (_:vs=[v]) (_:((b=true/\∃ms,jg H v ms)\/(b=false/\QO K H v))) (_:∀H',Same H H'->Q (.bl b) H')
theorem HJ:aI ["thing"] ["thing"] (ao pN):=by walk_at "sc1"
def Bj:Scope:={kind:=.function,names:=[(".0",.local),("box",.local),("is_number_of",.globalImplicit)],isGenerator:=false,isCoroutine:=false,more:=[]}
theorem sg:bZ (ao pN) Bj ["thing"] ["box"] [none]:=by walk_at "sc2"
theorem DW{f fN:Addr}{fd vF:fo}(F:cE K "is_claim" "is_claim" pN f fd)(T:Txt K w.params mg)(GN:aL P w K mg base bQ 2 fN vF ["kind","thing"] (JX (K:=K)))(kN:KI K fN)(bN:Binds K vF ["kind","thing"] [])(mN:mg "is_number_of"=some (.ref fN)):aL P w K mg base bQ 3 f fd ["thing"] (zS (K:=K)):=by
 refine F.ok HJ (by walk_at "ln") (fun Lq A outer s H vs Q E hr h=>?_)
 ·obtain⟨v,b,rfl,h,k⟩:=h;have hu:(A.deeper (PyProof.Rows.envOfC "is_claim" (ao pN) s.heap.objs.size f Lq)).units<cLine:=Nat.lt_of_succ_lt (jL hr)
  refine⟨_,(bq (dk (my (dB (cI (aG dG (by rfl) T.HE iG (ae (pv 0) (ae (iq (v:=.ty "tuple") (by rfl) T.tuple jd rfl) aj))))) (iV (dB (cI (aG (ei rfl) (by rfl) T.all je (ae (cO (X:=(gM bQ P w K mg base ["thing"] "is_claim" (ao pN) f Lq A outer s H E).uY) (N':=["box"]) (fr:=[none]) sg rfl (iW (pv 0)) (fun C s0 H0 fp=>(aR (i:=0) sg.nd rfl (Or.inl rfl))) (fun C s0 H0 fp=>cB) (fun C s0 H0 fp=>(aC GN hr (by rfl) mN kN bN .nil aU (ae ay (ae (pv 0) aj))))) aj)))))).pt (aA (aE dW)) aO)
   (aA (aE (cS (sX hu) (bf eC (by rfl) T.list d6 (ae (pv 0) aj)) (aG (eG rfl) (by rfl) T.sorted gZ (ae (bf (tq rfl) (by rfl) T.set tK (ae (pv 0) aj)) aj)) (aY _))))),?_⟩
  rcases(show(∃t,b=false/\iu K H v t/\kitOne K t (.type "tuple")=some false)\/(∃(q:Addr) (xs:List V) (bs:List Bool),v=.ref q/\H q=some (.tup xs)/\bs.length=xs.length/\(∀(i:Nat) x b,xs[i]? =some x->bs[i]? =some b->pU K H x b)/\xs.length<64/\((bs.all id=false/\b=false)\/∃ms:List Int,xs=ms.map V.int/\bs.all id=true/\b=decide (ms.Pairwise (· <= ·)/\ms.Nodup))) by
   have QP:∀(q:Addr) (ms:List Int),H q=some (.tup (ms.map V.int))->(∀b∈ms,0<=b/\b<=7)->(∀(i:Nat) x b,(ms.map V.int)[i]? =some x->(ms.map fun _=>true)[i]? =some b->pU K H x b):=fun q ms _ hr i x b hx hb=>by
    rw[ac]at hx hb;cases hm:ms[i]? with
    | none=>rw[hm]at hx;cases hx
    | some z=>
     rw[hm]at hx hb;cases hx;cases hb;exact .inl ⟨z,rfl,(decide_eq_true (hr z (al hm))).symm⟩
   have QR:∀ms:List Int,(ms.map fun _=>true).all id=true:=fun ms=>by simp
   rcases h with ⟨rfl,ms,q,hv,hq,hr,hp,hn,hl⟩ | ⟨rfl,hb⟩
   ·exact .inr ⟨q,_,_,hv,hq,by simp,QP q ms hq hr,by rw[length_map];exact hl,.inr ⟨ms,rfl,QR ms,(decide_eq_true ⟨hp,hn⟩).symm⟩⟩
   ·rcases hb with ⟨t,ht,hk⟩ | ⟨q,xs,bs,hv,hq,hl,hbx,hf,h64⟩ | ⟨q,ms,hv,hq,hr,hl,hn⟩
    ·exact .inl ⟨t,rfl,ht,hk⟩
    ·exact .inr ⟨q,xs,bs,hv,hq,hl,hbx,h64,.inl ⟨hf,rfl⟩⟩
    ·exact .inr ⟨q,_,_,hv,hq,by simp,QP q ms hq hr,by rw[length_map];exact hl,.inr ⟨ms,rfl,QR ms,(decide_eq_false hn).symm⟩⟩)with ⟨t,rfl,ht,hk⟩ | ⟨q,xs,bs,rfl,hq,hl,hbx,h64,fin⟩
  ·refine⟨_,rfl,_,_,_,_,rfl,ht,hk,_,rfl,df rfl ?_⟩;exact k _ (.refl _)
  ·refine⟨_,rfl,_,_,_,_,rfl,.tup hq,qX,_,rfl,cC (by decide) ?_⟩;refine⟨_,rfl,q,rfl,⟨_,bh.of hq⟩,fun D nD=>fe (K:=K) (a:=q) (xs:=xs) (fun i σ ys H1=>∃(v:Option V),σ=[v]/\ys=(bs.take i).map V.bl/\Same H H1/\H1 D=some (.lst ys)) ?_ ?_ ?_ ?_⟩
   ·exact⟨none,rfl,rfl,ai nD,ah⟩
   ·rintro i σ ys H1 _ ⟨v,rfl,rfl,s1,_⟩;exact bh.of (s1 _ _ hq)
   ·rintro i x σ ys H1 hx ⟨v,rfl,rfl,s1,hD⟩;have hil:=(ag.mp hx).1;have hbb:bs[i]? =some bs[i]:=aa (by omega);refine⟨_,rfl,x,bs[i],rfl,(hbx i x _ hx hbb).same s1,hD,?_,?_⟩
    ·rw[length_map,length_take];exact jz (by omega)
    ·refine⟨_,rfl,?_,aF s1 nD,ah⟩;rw[take_succ,hbb,map_append];rfl
   ·rintro σ ys H1 ⟨v,rfl,rfl,s1,hD⟩;rw[show bs.take xs.length=bs by rw[<-hl,take_length]]at hD;refine⟨D,bs,rfl,aT.of hD,_,rfl,?_⟩;rcases fin with ⟨hf,rfl⟩ | ⟨ms,rfl,ht,rfl⟩
    ·rw[hf];exact df rfl (k H1 s1)
    ·rw[ht];refine cC (by decide) ?_;refine⟨_,rfl,q,_,rfl,.inr (bh.of (s1 _ _ hq)),fun l nl=>?_⟩;have s2:=s1.trans (ai (o:=.lst (ms.map V.int)) nl);have hll:upd H1 l (.lst (ms.map V.int)) l=_:=ah;generalize upd H1 l (.lst (ms.map V.int))=H2 at s2 hll ⊢;rw[length_map]at h64;refine⟨_,rfl,q,ms,rfl,bh.of (s2 _ _ hq),by omega,fun l2 us lu hlen hnd hmem=>?_⟩;have z3:=ai (o:=jZ P w l2 us) lu;have h3:upd H2 l2 (jZ P w l2 us) l2=_:=ah;have VU:=z3 _ _ hll;have s3:=s2.trans z3;refine⟨l2,us,rfl,h3,by omega,fun l3 ss wK hperm Dj=>?_⟩;have z4:=ai (o:=.lst (ss.map V.int)) wK;refine⟨l,l3,_,_,rfl,rfl,aT.of (z4 _ _ VU),aT.of ah,fun i a b ha hb=>?_,?_⟩
     ·rw[ac]at ha hb;cases h1:ms[i]? with
      | none=>rw[h1]at ha;cases ha
      | some x=>
       cases h2:ss[i]? with
       | none=>rw[h2]at hb;cases hb
       | some y=>
        rw[h1]at ha;rw[h2]at hb;cases ha;cases hb;exact .inl (.inr (.inl ⟨_,_,rfl,rfl⟩))
     ·have e:decide (ms.map V.int=ss.map V.int)=decide (ms.Pairwise (· <= ·)/\ms.Nodup):=by
       refine decide_eq_decide.mpr ⟨fun z=>?_,fun z=>?_⟩
       ·have z2:ms=ss:=(map_inj_right (fun _ _ h=>V.int.inj h)).mp z;rw[z2];exact⟨Dj,hperm.nodup_iff.mpr hnd⟩
       ·have r1:iH ms (· ∈ms):=⟨z.1,z.2,fun j=>Iff.rfl⟩;have r2:iH ss (· ∈ms):=⟨Dj,hperm.nodup_iff.mpr hnd,fun j=>by rw[hperm.mem_iff,hmem]⟩;rw[iH.eq r1 r2]
      have kk:=k _ (s3.trans z4);rw[<-e]at kk;exact kk
inductive tM(vs:List V)(H:Hp)(Q:VK)(E_:XK):Prop
 | mk (r:Addr) (w:Str) (items:List V) (_:vs=[.ref r]) (_:H r=some (.tup (.str w::items))) (_:Q (.bl (!decide (w∈dA))) H)
theorem L5:aI ["row"] ["row"] (ao JU):=by walk_at "sc1"
theorem HK{f:Addr}{fd:fo}(F:cE K "goes_on" "goes_on" JU f fd)(T:Txt K w.params mg):aL P w K mg base bQ 1 f fd ["row"] tM:=by
 refine F.ok L5 (by walk_at "ln") (fun Lq A outer s H vs Q E hr h=>?_)
 ·obtain⟨r,w',items,rfl,hR,k⟩:=h;obtain⟨p,hp,hq⟩:=T.non;refine⟨_,aA (aE (cS iy (aJ aQ (pv 0) aq (fun _ _=>rfl)) (cF (v:=.ref p) rfl hp rfl) rfl)),?_⟩;refine⟨_,rfl,r,_,0,.str w',rfl,rfl,bh.of hR,at0 _ _,p,_,rfl,.inr (hq _),rfl,rfl,?_⟩;show Q (.bl (!inV (.str w') (dA.map V.str))) H;rw[dz];exact k
inductive gb(vs:List V)(H:Hp)(Q:VK)(E_:XK):Prop
 | mk (r:Addr) (w:Str) (ts:List Int) (_:vs=[.ref r]) (_:rY H r w ts) (_:∀(l:Addr) (H':Hp),Same H H'->H l=none->H' l=some (.lst (ts.map V.int))->Q (.ref l) H')
theorem sh:aI ["row","word"] ["row"] (ao vB):=by walk_at "sc1"
theorem yj{f:Addr}{fd:fo}(F:cE K "targets_of" "targets_of" vB f fd)(T:Txt K w.params mg):aL P w K mg base bQ 1 f fd ["row"] gb:=by
 refine F.ok sh (by walk_at "ln") (fun Lq A outer s H vs Q E hr h=>?_)
 ·obtain⟨r,w',ts,rfl,⟨items,hR,hP⟩,k⟩:=h
  refine⟨_,bq (aP (i:=1) sh.nd rfl (Or.inl rfl) (aJ aQ (pv 0) aq (fun _ _=>rfl)))
   (bq (dk (aN eP (pv 1) ay (aY _)) (aA (aE (bf eC (by rfl) T.list d6 (ae (aJ aQ (pv 0) aq (fun _ _=>rfl)) aj)))) aO)
   (bq (dk (aN bj (pv 1) (aZ (ae ay (ae ay (ae ay aj)))) rfl) (aA (aE (dD (ae (aJ aQ (pv 0) aq (fun _ _=>rfl)) aj)))) aO)
   (bq (dk (aN bj (pv 1) (aZ (ae ay (ae ay aj))) rfl) (aA (aE (dD (ae (aJ aQ (pv 0) aq (fun _ _=>rfl)) aj)))) aO)
   (aA (aE (dD aj)))))),?_⟩
  refine⟨_,rfl,r,_,0,.str w',rfl,rfl,bh.of hR,at0 _ _,_,rfl,rfl,_,rfl,?_⟩;refine dF (fun h1=>?_) (fun h1=>?_)
  ·have h1:=strEq h1;unfold Parts at hP;rw[if_pos h1]at hP;obtain⟨b,q,rfl,hq⟩:=hP;refine⟨_,rfl,r,_,2,.ref q,rfl,rfl,bh.of hR,at2 _ _ _ _,q,_,rfl,.inr (bh.of hq),fun l hl=>?_⟩;exact k l _ (ai hl) hl ah
  ·have h1:=rX h1;unfold Parts at hP;rw[if_neg h1]at hP;refine⟨_,rfl,DN,fun t ht=>⟨t,oM.map V.str,rfl,.inr (bh.of ah),rfl,rfl,_,rfl,?_⟩⟩;have s1:=ai (o:=.tup (oM.map V.str)) ht;have k7:=s1 _ _ hR;rw[show inV (.str w') (oM.map V.str)=decide (w'∈oM)from dz _ _];refine dF (fun h2=>?_) (fun h2=>?_)
   ·have h2:=of_decide_eq_true h2;rw[if_pos h2]at hP;obtain⟨t',f',rfl,rfl⟩:=hP;refine⟨_,rfl,r,_,1,.int t',rfl,rfl,bh.of k7,at1 _ _ _,lR,fun l hl=>?_⟩;exact k l _ (s1.trans (ai hl)) (s1.free hl) ah
   ·have h2:¬w'∈oM:=fun e=>h2 (decide_eq_true e);rw[if_neg h2]at hP;refine⟨_,rfl,iB,fun t2 oC=>⟨t2,zb.map V.str,rfl,.inr (bh.of ah),rfl,rfl,_,rfl,?_⟩⟩;have s2:=s1.trans (ai (o:=.tup (zb.map V.str)) oC);have Gc:=s2 _ _ hR;rw[show inV (.str w') (zb.map V.str)=decide (w'∈zb)from dz _ _];refine dF (fun h3=>?_) (fun h3=>?_)
    ·have h3:=of_decide_eq_true h3;rw[if_pos h3]at hP;obtain⟨b,t',f',rfl,rfl⟩:=hP;refine⟨_,rfl,r,_,2,.int t',rfl,rfl,bh.of Gc,at2 _ _ _ _,lR,fun l hl=>?_⟩;exact k l _ (s2.trans (ai hl)) (s2.free hl) ah
    ·have h3:¬w'∈zb:=fun e=>h3 (decide_eq_true e);rw[if_neg h3]at hP;subst hP;refine⟨LV,fun l hl=>?_⟩;exact k l _ (s2.trans (ai hl)) (s2.free hl) ah
inductive yk(vs:List V)(H:Hp)(Q:VK)(E_:XK):Prop
 | mk (p q:Addr) (rows:List V) (r:Nat) (w:Str) (ts:List Int) (_:vs=[.ref p,.int r]) (_:aT K H p rows) (_:rows[r]? =some (.ref q)) (_:rY H q w ts) (_:ts.length<=16) (_:∀(l:Addr) (ms:List Int) (H':Hp),Same H H'->H l=none->H' l=some (.lst (ms.map V.int))->ms.Pairwise (· <= ·)->ms.Nodup->(∀j,j∈ms↔j∈ts\/(¬w∈dA/\j=r+1))->Q (.ref l) H')
theorem DX:aI ["rows","r","ways"] ["rows","r"] (ao JV):=by walk_at "sc1"
theorem HL{f fG fT:Addr}{fd JY zT:fo}(F:cE K "ways_of" "ways_of" JV f fd)(T:Txt K w.params mg)(GG:aL P w K mg base bQ 1 fG JY ["row"] tM)(kG:KI K fG)(bG:Binds K JY ["row"] [])(mG:mg "goes_on"=some (.ref fG))(GT:aL P w K mg base bQ 1 fT zT ["row"] gb)(kT:KI K fT)(bT:Binds K zT ["row"] [])(mT:mg "targets_of"=some (.ref fT)):aL P w K mg base bQ 2 f fd ["rows","r"] (yk (K:=K)):=by
 refine F.ok DX (by walk_at "ln") (fun Lq A outer s H vs Q E hr h=>?_)
 ·obtain⟨p,q,rows,r,w',ts,rfl,hS,hq,hR,hlen,k⟩:=h
  refine⟨_,bq (aP (i:=2) DX.nd rfl (Or.inl rfl) (aC GT hr (by rfl) mT kT bT .nil aU (ae (aJ bp (pv 0) (pv 1) (fun _ _=>rfl)) aj)))
   (bq (dk (cI (aC GG hr (by rfl) mG kG bG .nil aU (ae (aJ bp (pv 0) (pv 1) (fun _ _=>rfl)) aj)))
    (aA (c6 (iR ij im io da (pv 2) (ae (aM c9 (pv 1) aq) aj)))) aO)
   (aA (aE (aG (eG rfl) (by rfl) T.sorted gZ (ae (bf (i6 rfl) (by rfl) T.set tK (ae (pv 2) aj)) aj))))),?_⟩
  refine⟨_,rfl,_,rfl,p,rows,r,.ref q,rfl,rfl,hS,cG hq,q,w',ts,rfl,hR,fun l H1 s1 nl hl=>?_⟩;have hS1:=s1.seq hS;obtain⟨items,hq1,_⟩:=hR.same s1;refine⟨_,rfl,_,rfl,p,rows,r,.ref q,rfl,rfl,hS1,cG hq,q,w',items,rfl,hq1,_,rfl,?_⟩;have fin:∀(ns:List Int) (H2:Hp),Same H H2->H2 l=some (.lst (ns.map V.int))->ns.length<=17->(∀j,j∈ns↔j∈ts\/(¬w'∈dA/\j=r+1))->
    ∃v,[some (V.ref p),some (V.int r),some (V.ref l)][2]? =some (some v)/\∃(p':Addr) (ns':List Int),[v]=[V.ref p']/\aT K H2 p' (ns'.map V.int)/\ns'.length<4000/\∀(l':Addr) (us:List Int),H2 l'=none->us.length<=ns'.length->us.Nodup->(∀j,j∈us↔j∈ns')->
     ∃(p2:Addr) (Qk:List Int),[V.ref l']=[V.ref p2]/\(upd H2 l' (jZ P w l' us)) p2=some (jZ P w p2 Qk)/\Qk.length<64/\∀(l2:Addr) (ms:List Int),(upd H2 l' (jZ P w l' us)) l2=none->ms.Perm Qk->ms.Pairwise (· <= ·)->Q (.ref l2) (upd (upd H2 l' (jZ P w l' us)) l2 (.lst (ms.map V.int))):=by
   intro ns H2 s2 h2 hl2 hm;refine⟨_,rfl,l,ns,rfl,aT.of h2,by omega,fun l' us VT hu hnd JW=>⟨l',us,rfl,ah,by omega,fun l2 ms lu hp Dj=>?_⟩⟩;have s3:=s2.trans (ai (o:=jZ P w l' us) VT);exact k l2 ms _ (s3.trans (ai lu)) (s3.free lu) ah Dj (hp.nodup_iff.mpr hnd) (fun j=>by rw[hp.mem_iff,JW,hm])
  refine dF (fun h1=>?_) (fun h1=>?_)
  ·have h1:¬w'∈dA:=by simpa using h1
   refine⟨_,rfl,.inl ⟨rfl,_,aT.of hl⟩,_,rfl,_,_,rfl,rfl,l,_,_,rfl,rfl,hl,?_,?_⟩
   ·rw[length_map];exact jz (by omega)
   ·have e:(ts.map V.int++ [V.int ((r:Int)+1)])=(ts++ [(r:Int)+1]).map V.int:=by simp
    rw[e];refine fin (ts++ [(r:Int)+1]) _ ?_ ah (by simp;omega) (fun j=>?_)
    ·intro b o z;rw[aw (bt z nl)];exact s1 b o z
    ·rw[mem_append,mem_singleton];exact⟨fun z=>z.imp id fun e=>⟨h1,e⟩,fun z=>z.imp id fun e=>e.2⟩
  ·have h1:w'∈dA:=by simpa using h1
   refine fin ts _ s1 hl (by omega) (fun j=>⟨.inl,fun z=>z.elim id fun e=>absurd h1 e.1⟩)
theorem gC(w:Int):∀ss:List Int,inV (.int w) (ss.map V.int)=decide (w∈ss)
 | []=>rfl
 | x::r=>by
  have ih:=gC w r;unfold inV at ih ⊢;rw[map_cons,any_cons,ih];show((x==w)||_)=_;by_cases h:x=w
  ·subst h;simp
  ·have h':¬w=x:=fun e=>h e.symm;simp[h,h']
theorem eT(ms:List Int):(ms.map V.int).all km=true:=by rw[all_eq_true];intro x hx;obtain⟨i,_,rfl⟩:=mem_map.mp hx;rfl
theorem lW:∀{ms xs:List Int},ms.Nodup->(∀j∈ms,j∈xs)->ms.length<=xs.length
 | [],_,_,_=>zero_le _
 | m::ms,xs,hn,h=>by have hm:m∈xs:=h m (by simp);have:=lW (ms:=ms) (xs:=xs.erase m) (nodup_cons.mp hn).2 (fun j hj=>(List.mem_erase_of_ne (fun(e:j=m)=>(nodup_cons.mp hn).1 (by rw[<-e];exact hj))).mpr (h j (by simp[hj])));rw[List.length_erase_of_mem hm]at this;have:0<xs.length:=List.length_pos_of_mem hm;simp;omega
theorem dg{n:Nat}(h:n<=1000000):n<=fw:=le_trans h (by decide)
theorem aK{n:Nat}(h:n<=1000000):n<fw:=lt_of_le_of_lt h (by decide)
structure FR where
 u:Str
 is:List Int
 ts:List Int
def FR.Ok(d:FR):Prop:=d.u∈eu/\(d.u ="table"->∃b,d.is=[b])/\(d.u∈oM->∃t f,d.is=[t,f]/\d.ts=[t])/\(d.u∈zb->∃b t f,d.is=[b,t,f]/\d.ts=[t])/\
 (¬d.u ="table"->¬d.u∈oM->¬d.u∈zb->d.ts=[])/\(d.u∈w2->∃b c,d.is=[b,c])/\(d.u∈w1->∃b r,d.is=b::r)
def HM(H:Hp)(q:Addr)(d:FR):Prop:=(d.u ="table"/\∃b p,d.is=[b]/\H q=some (.tup [.str d.u,.int b,.ref p])/\H p=some (.tup (d.ts.map V.int)))\/(¬d.u ="table"/\H q=some (.tup (.str d.u::d.is.map V.int)))
def dj(H:Hp)(q:Addr)(d:FR):Prop:=d.Ok/\HM H q d
theorem dj.same{H H':Hp}{q:Addr}{d:FR}(s:Same H H')(h:dj H q d):dj H' q d:=by
 obtain⟨o,h⟩:=h;refine⟨o,?_⟩;rcases h with ⟨a,b,p,e,h1,h2⟩ | ⟨a,h1⟩
 ·exact .inl ⟨a,b,p,e,s _ _ h1,s _ _ h2⟩
 ·exact .inr ⟨a,s _ _ h1⟩
theorem dj.parts{H:Hp}{q:Addr}{d:FR}(h:dj H q d):∃items,H q=some (.tup (.str d.u::items))/\fY d.u items/\Parts H d.u items d.ts/\∀(i:Nat) (b:Int),(d.u∈w1\/d.u∈w2)->i<2->(d.u∈w1->i=0)->(items[i]? =some (.int b)↔d.is[i]? =some b):=by
 obtain⟨⟨hu,h1,h2,h3,h4,h5,h6⟩,h⟩:=h;rcases h with ⟨a,b,p,e,g1,g2⟩ | ⟨a,g1⟩
 ·refine⟨_,g1,fY.one (by rw[a];decide),?_,fun i b' _ hi hw=>?_⟩
  ·unfold Parts;rw[if_pos a];exact⟨_,p,rfl,g2⟩
  ·have:i=0:=hw (by rw[a];decide);subst this;rw[e];simp
 ·refine⟨_,g1,⟨fun z=>?_,fun z=>?_⟩,?_,fun i b' _ hi hw=>?_⟩
  ·obtain⟨b,c,e⟩:=h5 z;exact⟨b,c,by rw[e];rfl⟩
  ·obtain⟨b,r,e⟩:=h6 z;exact⟨b,r.map V.int,by rw[e];rfl⟩
  ·unfold Parts;rw[if_neg a];split
   ·rename_i z;obtain⟨t,f,e1,e2⟩:=h2 z;exact⟨t,.int f,by rw[e1];rfl,e2⟩
   ·rename_i z1;split
    ·rename_i z;obtain⟨b,t,f,e1,e2⟩:=h3 z;exact⟨.int b,t,.int f,by rw[e1];rfl,e2⟩
    ·rename_i z2;exact h4 a z1 z2
  ·rw[ac,map_eq_some_iff];exact⟨fun⟨y,e1,e2⟩=>by cases e2;exact e1,fun e=>⟨b',e,rfl⟩⟩
def hU(d:FR)(b:Int):Bool:=decide (d.u∈rZ)||((decide (d.u∈fA)&&decide (d.is[1]? =some b))||((decide (d.u∈fB)&&(decide (d.is[0]? =some b)||decide (d.is[1]? =some b)))||(decide (d.u∈fC)&&decide (d.is[0]? =some b))))
def Bk(d:FR)(b:Int):Bool:=decide (d.u∈w7)&&decide (d.is[0]? =some b)
def zU(d:FR)(r:Nat):List Int:=if d.u ="call"\/d.u∈dA then d.ts else d.ts++ [(r:Int)+1]
def vG(cl:List (List Int))(b s:Int):Bool:=match cl[s.toNat]? with
 | some c=>decide (b∈c)
 | none=>false
def gR(d:FR)(cl:List (List Int))(r:Nat)(b:Int):Bool:=!hU d b&&(Bk d b||(zU d r).all (vG cl b))
theorem vH{H:Hp}{q:Addr}{d:FR}{items:List V}(h:dj H q d)(hi:∀(i:Nat) (b:Int),(d.u∈w1\/d.u∈w2)->i<2->(d.u∈w1->i=0)->(items[i]? =some (.int b)↔d.is[i]? =some b))(b:Int):hU d b=true↔(d.u∈rZ\/Need d.u items b):=by
 have hA:d.u∈fA->(items[1]? =some (.int b)↔d.is[1]? =some b):=fun z=>by have:=(by decide+kernel:∀u∈fA,u∈w2/\¬u∈w1) _ z;exact hi 1 b (.inr this.1) (by decide) (fun y=>absurd y this.2)
 have hB0:d.u∈fB->(items[0]? =some (.int b)↔d.is[0]? =some b):=fun z=>by have:=(by decide+kernel:∀u∈fB,u∈w2/\¬u∈w1) _ z;exact hi 0 b (.inr this.1) (by decide) (fun y=>absurd y this.2)
 have jH:d.u∈fB->(items[1]? =some (.int b)↔d.is[1]? =some b):=fun z=>by have:=(by decide+kernel:∀u∈fB,u∈w2/\¬u∈w1) _ z;exact hi 1 b (.inr this.1) (by decide) (fun y=>absurd y this.2)
 have hC:d.u∈fC->(items[0]? =some (.int b)↔d.is[0]? =some b):=fun z=>by have:=(by decide+kernel:∀u∈fC,u∈w1) _ z;exact hi 0 b (.inl this) (by decide) (fun _=>rfl)
 unfold hU Need;simp only[Bool.or_eq_true,Bool.and_eq_true,decide_eq_true_iff];refine or_congr_right (or_congr (and_congr_right fun z=>(hA z).symm) (or_congr (and_congr_right fun z=>or_congr (hB0 z).symm (jH z).symm) (and_congr_right fun z=>(hC z).symm)))
theorem si{d:FR}{items:List V}(hu:fY d.u items)(hi:∀(i:Nat) (b:Int),(d.u∈w1\/d.u∈w2)->i<2->(d.u∈w1->i=0)->(items[i]? =some (.int b)↔d.is[i]? =some b)){ms:List Int}(h:zQ d.u items ms)(b:Int):decide (b∈ms)=Bk d b:=by
 unfold Bk;rcases h with ⟨a,b0,r,e,rfl⟩ | ⟨a,rfl⟩
 ·rw[decide_eq_true a,Bool.true_and];refine decide_eq_decide.mpr ?_;have hw:=(by decide+kernel:∀u∈w7,u∈w1\/u∈w2) _ a;rw[<-hi 0 b hw (by decide) (fun _=>rfl),e];simp[eq_comm]
 ·rw[decide_eq_false a];simp
inductive tN(vs:List V)(H:Hp)(Q:VK)(E_:XK):Prop
 | mk (q:Addr) (b:Int) (d:FR) (_:vs=[.ref q,.int b]) (_:dj H q d) (_:∀H',Same H H'->Q (.bl (hU d b)) H')
theorem HN:aI ["row","box"] ["row","box"] (ao DP):=by walk_at "sc1"
theorem DY{f fR:Addr}{fd DZ:fo}(F:cE K "needs_at_once" "needs_at_once" DP f fd)(T:Txt K w.params mg)(GR:aL P w K mg base bQ 1 fR DZ ["row"] zR)(kR:KI K fR)(bR:Binds K DZ ["row"] [])(mR:mg "reads_of"=some (.ref fR)):aL P w K mg base bQ 2 f fd ["row","box"] tN:=by
 refine F.ok HN (by walk_at "ln") (fun Lq A outer s H vs Q E hr h=>?_)
 ·obtain⟨q,b,d,rfl,hR,k⟩:=h;obtain⟨p,hp,hq⟩:=T.ends;obtain⟨items,g1,g2,g3,g4⟩:=hR.parts;refine⟨_,(aA (aE (uX (cS bj (aJ aQ (pv 0) aq (fun _ _=>rfl)) (cF (v:=.ref p) (by rfl) hp rfl) rfl) (gH (cS bj (pv 1) (aC GR hr (by rfl) mR kR bR .nil aU (ae (pv 0) aj)) rfl))))),?_⟩;refine⟨_,rfl,q,_,0,_,rfl,rfl,bh.of g1,at0 _ _,p,_,rfl,.inr (hq _),rfl,rfl,_,rfl,?_⟩;rw[show inV (.str d.u) (rZ.map V.str)=decide (d.u∈rZ)from dz _ _];refine dF (fun e=>?_) (fun e=>?_)
  ·have:hU d b=true:=(vH hR g4 b).mpr (.inl (of_decide_eq_true e));have kk:=k H (.refl _);rw[this]at kk;exact kk
  ·have e:¬d.u∈rZ:=fun z=>e (decide_eq_true z);refine⟨_,rfl,_,rfl,q,d.u,_,rfl,g1,hR.1.1,g2,fun l ms H' s' nl hl hlen hrt=>?_⟩;refine⟨l,_,rfl,.inl (aT.of hl),rfl,eT ms,?_⟩;have kk:=k H' s';have e2:hU d b=decide (b∈ms):=by rw[Bool.eq_iff_iff,decide_eq_true_iff,vH hR g4 b,hrt.2.2 b];exact⟨fun z=>z.elim (fun y=>absurd y e) id,.inr⟩
   rw[e2,<-gC]at kk;exact kk
def cw(H:Hp)(lr:Addr)(ds:List FR):Prop:=∃qs:List Addr,H lr=some (.lst (qs.map V.ref))/\qs.length=ds.length/\∀(i:Nat) q d,qs[i]? =some q->ds[i]? =some d->dj H q d
theorem cw.same{H H':Hp}{lr:Addr}{ds:List FR}(s:Same H H')(h:cw H lr ds):cw H' lr ds:=by obtain⟨qs,a,b,c⟩:=h;exact⟨qs,s _ _ a,b,fun i q d h1 h2=>(c i q d h1 h2).same s⟩
theorem cw.get{H:Hp}{lr:Addr}{ds:List FR}{r:Nat}{d:FR}(h:cw H lr ds)(hd:ds[r]? =some d):∃(qs:List Addr) (q:Addr),H lr=some (.lst (qs.map V.ref))/\mQ (qs.map V.ref) (r:Int)=some (.ref q)/\(qs.map V.ref)[r]? =some (.ref q)/\dj H q d:=by
 obtain⟨qs,a,b,c⟩:=h;have hr:=(ag.mp hd).1;have hq:qs[r]? =some (qs[r]'(by omega)):=aa _;have hq':(qs.map V.ref)[r]? =some (.ref (qs[r]'(by omega))):=by rw[ac,hq];rfl
 exact⟨qs,_,a,cG hq',hq',c r _ d hq hd⟩
inductive tO(vs:List V)(H:Hp)(Q:VK)(E_:XK):Prop
 | mk (lr:Addr) (ds:List FR) (r:Nat) (d:FR) (_:vs=[.ref lr,.int (r:Int)]) (_:cw H lr ds) (_:ds[r]? =some d) (_:d.ts.length<=16) (_:∀(l:Addr) (ms:List Int) (H':Hp),Same H H'->H l=none->H' l=some (.lst (ms.map V.int))->ms.length<=1000->(∀j,j∈ms↔j∈zU d r)->Q (.ref l) H')
theorem HP:aI ["rows","r"] ["rows","r"] (ao DQ):=by walk_at "sc1"
theorem D0{f fT fW:Addr}{fd zT kZ:fo}(F:cE K "ways_ahead" "ways_ahead" DQ f fd)(T:Txt K w.params mg)(GT:aL P w K mg base bQ 1 fT zT ["row"] gb)(kT:KI K fT)(bT:Binds K zT ["row"] [])(mT:mg "targets_of"=some (.ref fT))(GW:aL P w K mg base bQ 2 fW kZ ["rows","r"] (yk (K:=K)))(kW:KI K fW)(bW:Binds K kZ ["rows","r"] [])(mW:mg "ways_of"=some (.ref fW)):aL P w K mg base bQ 3 f fd ["rows","r"] tO:=by
 refine F.ok HP (by walk_at "ln") (fun Lq A outer s H vs Q E hr h=>?_)
 ·obtain⟨lr,ds,r,d,rfl,hR,hd,ht,k⟩:=h;have hr1:=hr.mono (show 1<=2 by decide);obtain⟨qs,q,g1,g2,g2',g3⟩:=hR.get hd;obtain⟨items,i1,i2,i3,i4⟩:=g3.parts;refine⟨_,(aA (aE (oZ (aN eP (aJ aQ (aJ bp (pv 0) (pv 1) (fun _ _=>rfl)) aq (fun _ _=>rfl)) ay (aY _)) (aC GT hr1 (by rfl) mT kT bT .nil aU (ae (aJ bp (pv 0) (pv 1) (fun _ _=>rfl)) aj)) (aC GW hr (by rfl) mW kW bW .nil aU (ae (pv 0) (ae (pv 1) aj)))))),?_⟩;refine⟨_,rfl,_,rfl,lr,_,_,_,rfl,rfl,aT.of g1,g2,q,_,0,_,rfl,rfl,bh.of i1,at0 _ _,rfl,_,rfl,?_⟩;refine dF (fun e=>?_) (fun e=>?_)
  ·have e:=strEq e;refine⟨_,rfl,_,rfl,lr,_,_,_,rfl,rfl,aT.of g1,g2,q,d.u,d.ts,rfl,⟨items,i1,i3⟩,fun l H' s' nl hl=>?_⟩;refine k l d.ts H' s' nl hl (by omega) fun j=>?_;unfold zU;rw[if_pos (.inl e)]
  ·have e:=rX e;refine⟨_,rfl,_,rfl,lr,q,_,r,d.u,d.ts,rfl,aT.of g1,g2',⟨items,i1,i3⟩,ht,fun l ms H' s' nl hl hp hn hm=>?_⟩;have hms:ms.length<=17:=by
    have hsub:ms ⊆ d.ts++ [(r:Int)+1]:=fun j hj=>by rw[mem_append,mem_singleton];exact((hm j).mp hj).imp id fun z=>z.2
    have:=lW hn hsub;rw[length_append,length_singleton]at this;omega
   refine k l ms H' s' nl hl (by omega) fun j=>?_;rw[hm j];unfold zU;by_cases hn:d.u∈dA
   ·rw[if_pos (.inr hn)];exact⟨fun z=>z.elim id fun y=>absurd hn y.1,.inl⟩
   ·rw[if_neg (fun z=>z.elim e hn),mem_append,mem_singleton];exact⟨fun z=>z.imp id fun y=>y.2,fun z=>z.imp id fun y=>⟨hn,y⟩⟩
def cq(H:Hp)(lc:Addr)(cl:List (List Int)):Prop:=∃cs:List V,H lc=some (.lst cs)/\cs.length=cl.length/\∀(i:Nat) c ms,cs[i]? =some c->cl[i]? =some ms->jg H c ms
theorem cq.same{H H':Hp}{lc:Addr}{cl:List (List Int)}(s:Same H H')(h:cq H lc cl):cq H' lc cl:=by obtain⟨cs,a,b,c⟩:=h;exact⟨cs,s _ _ a,b,fun i x ms h1 h2=>(c i x ms h1 h2).same s⟩
inductive zV(vs:List V)(H:Hp)(Q:VK)(E_:XK):Prop
 | mk (lr lc:Addr) (ds:List FR) (cl:List (List Int)) (r:Nat) (d:FR) (b:Int) (_:vs=[.ref lr,.ref lc,.int (r:Int),.int b]) (_:cw H lr ds) (_:cq H lc cl) (_:ds[r]? =some d) (_:d.ts.length<=16) (_:(∀s∈zU d r,0<=s/\s<cl.length)) (_:∀H',Same H H'->Q (.bl (gR d cl r b)) H')
theorem HQ:aI ["rows","claims","r","box"] ["rows","claims","r","box"] (ao ya):=by walk_at "sc1"
def Bl:Scope:={kind:=.function,names:=[(".0",.local),("s",.local),("box",.free),("claims",.free)],isGenerator:=false,isCoroutine:=false,more:=[]}
theorem sj:bZ (ao ya) Bl ["rows","claims","r","box"] ["s","box","claims"] [none,some 3,some 1]:=by walk_at "sc2"
theorem D4{f fN fW fA:Addr}{fd vF kZ D5:fo}(F:cE K "is_right" "is_right" ya f fd)(T:Txt K w.params mg)(GN:aL P w K mg base bQ 2 fN vF ["row","box"] tN)(kN:KI K fN)(bN:Binds K vF ["row","box"] [])(mN:mg "needs_at_once"=some (.ref fN))(GW:aL P w K mg base bQ 1 fW kZ ["row"] pS)(kW:KI K fW)(bW:Binds K kZ ["row"] [])(mW:mg "writes_of"=some (.ref fW))(GA:aL P w K mg base bQ 3 fA D5 ["rows","r"] tO)(kA:KI K fA)(bA:Binds K D5 ["rows","r"] [])(mA:mg "ways_ahead"=some (.ref fA)):aL P w K mg base bQ 4 f fd ["rows","claims","r","box"] zV:=by
 refine F.ok HQ (by walk_at "ln") (fun Lq A outer s H vs Q E hr h=>?_)
 ·obtain⟨lr,lc,ds,cl,r,d,b,rfl,hR,hC,hd,ht,hin,k⟩:=h;have hr1:=hr.mono (show 1<=_ by decide);have VW:=hr.mono (show 2<=_ by decide);obtain⟨qs,q,g1,g2,g2',g3⟩:=hR.get hd
  refine⟨_,(bq (dk (cI (aC GN VW (by rfl) mN kN bN .nil aU (ae (aJ bp (pv 0) (pv 2) (fun _ _=>rfl)) (ae (pv 3) aj)))) (aA (aE dW)) aO)
   (aA (aE (uX (cS bj (pv 3) (aC GW hr1 (by rfl) mW kW bW .nil aU (ae (aJ bp (pv 0) (pv 2) (fun _ _=>rfl)) aj)) rfl) (gH (aG (ei rfl) (by rfl) T.all je (ae (cO (N':=["s","box","claims"]) (fr:=[none,some 3,some 1]) sj rfl (cQ (aC GA hr (by rfl) mA kA bA .nil aU (ae (pv 0) (ae (pv 2) aj)))) (fun C s0 H0 fp=>(aR (i:=0) sj.nd rfl (Or.inl rfl))) (fun C s0 H0 fp=>cB) (fun C s0 H0 fp=>(cS (r:=JN K false) bj (pv 1) (aJ (r:=CV K) bp (pv 2) (pv 0) (fun _ _=>rfl)) rfl))) aj))))))),?_⟩
  refine⟨_,rfl,_,rfl,lr,_,_,_,rfl,rfl,aT.of g1,g2,_,rfl,q,b,d,rfl,g3,fun H1 s1=>⟨_,rfl,?_⟩⟩;refine dF (fun e=>?_) (fun e=>?_)
  ·have kk:=k H1 s1;unfold gR at kk;rw[e]at kk;exact kk
  ·have e:hU d b=false:=by simpa using e
   unfold gR at k;rw[e]at k;obtain⟨items,i1,i2,i3,i4⟩:=(g3.same s1).parts;refine⟨_,rfl,_,rfl,_,rfl,lr,_,_,_,rfl,rfl,aT.of (s1 _ _ g1),g2,q,d.u,items,rfl,i1,i2,fun l ms H2 s2 nl hl hw=>?_⟩;refine⟨l,_,rfl,.inl (aT.of hl),rfl,eT ms,_,rfl,?_⟩;have s12:=s1.trans s2;rw[show inV (.int b) (ms.map V.int)=Bk d b from(gC _ _).trans (si i2 i4 hw b)];refine dF (fun e2=>?_) (fun e2=>?_)
   ·have e2:Bk d b=true:=e2;have kk:=k H2 s12;rw[e2]at kk;exact kk
   ·have e2:Bk d b=false:=by simpa using e2
    rw[e2]at k;obtain⟨cs,c1,c2,c3⟩:=hC;refine⟨_,rfl,_,rfl,lr,ds,r,d,rfl,hR.same s12,hd,ht,fun la as H3 s3 VX hla hal ham=>?_⟩;have tP:=s12.trans s3;have h3c:=tP _ _ c1;refine⟨la,rfl,⟨_,aT.of hla⟩,fun D nD=>dO (K:=K) (a:=la) (xs:=as.map V.int) (fun i σ ys H4=>∃v:Option V,σ=[v,some (.int b),some (.ref lc)]/\ys=((as.take i).map (vG cl b)).map V.bl/\Same H3 H4/\H4 D=some (.lst ys)) ?_ ?_ ?_ ?_⟩
    ·exact⟨none,rfl,rfl,ai nD,ah⟩
    ·rintro i σ ys H4 _ ⟨v,rfl,rfl,s4,_⟩;exact aT.of (s4 _ _ hla)
    ·rintro i x σ ys H4 hx ⟨v,rfl,rfl,s4,hD⟩;rw[ac]at hx;obtain⟨j,hj,rfl⟩:=map_eq_some_iff.mp hx;have hil:=(ag.mp hj).1;obtain⟨h0,h1⟩:=hin j ((ham j).mp (al hj));obtain⟨jn,rfl⟩:=Int.eq_ofNat_of_zero_le h0;have hjn:jn<cl.length:=by omega
     have hcl:cl[jn]? =some cl[jn]:=aa hjn;have hcs:cs[jn]? =some (cs[jn]'(by omega)):=aa _;obtain⟨qc,hqc,hq1,_⟩:=c3 jn _ _ hcs hcl;rw[hqc]at hcs;have VY:vG cl b ((jn:Nat):Int)=decide (b∈cl[jn]):=by unfold vG;rw[nn,hcl]
     refine⟨_,rfl,_,rfl,_,rfl,lc,_,_,_,rfl,rfl,aT.of (s4 _ _ h3c),cG (j:=jn) hcs,qc,_,rfl,.inr (bh.of (s4 _ _ (tP _ _ hq1))),rfl,eT _,hD,?_,_,rfl,?_,aF s4 nD,ah⟩
     ·rw[length_map,length_map,length_take];exact aK (by omega)
     ·rw[take_add_one,hj,map_append,map_append];show _=_++ [V.bl (vG cl b ((jn:Nat):Int))];rw[VY,<-gC];rfl
    ·rintro σ ys H4 ⟨v,rfl,rfl,s4,hD⟩;rw[length_map,take_length]at hD;refine⟨D,_,rfl,aT.of hD,?_⟩;have kk:=k H4 (tP.trans s4);have e3:(zU d r).all (vG cl b)=(as.map (vG cl b)).all id:=by rw[Bool.eq_iff_iff,all_eq_true,all_eq_true];exact⟨fun z y hy=>by obtain⟨j,hj,rfl⟩:=mem_map.mp hy;exact z j ((ham j).mp hj),fun z j hj=>z _ (mem_map.mpr ⟨j,(ham j).mpr hj,rfl⟩)⟩
     rw[e3]at kk;exact kk
theorem iI{X:Cx}{K:Frag}(hK:X.K=K){i j:Nat}{x y:Str}{px py pt:Pos}{k:Nat}(hc:X.calm=true)(hN:X.N.Nodup)(hi:X.N[i]? =some x)(hx:Loc X.env.scope x)(hj:X.N[j]? =some y)(hy:Loc X.env.scope y)
  (hf:X.fn x=true\/X.env.scope.names.lookup x=some .local:=by first | exact .inl rfl | exact .inr rfl) (hf2:X.fn y=true\/X.env.scope.names.lookup y=some .local:=by first | exact .inl rfl | exact .inr rfl):
  PG X (.Tuple [.Name x px,.Name y py] k pt) (PY K 2 (CH (dC i) (CH (dC j) PX))):=hK▸CI (n:=2) hc (kh (aR hN hi hx hf) (kh (aR hN hj hy hf2) zm))
def pW(ds:List FR)(cl:List (List Int))(r:Nat):Bool:=match ds[r]?,cl[r]? with
 | some d,some c=>c.any fun b=>!gR d cl r b
 | _,_=>false
def firstBad(ds:List FR)(cl:List (List Int)):Option Nat:=(List.range ds.length).find? (pW ds cl)
def nc(ds:List FR):Prop:=∀(r:Nat) d,ds[r]? =some d->d.ts.length<=16/\∀s∈zU d r,0<=s/\s<ds.length
theorem Bm{ds:List FR}{cl:List (List Int)}{r:Nat}(hr:r<ds.length)(h:pW ds cl r=true)(hlt:∀j,j<r->pW ds cl j=false):firstBad ds cl=some r:=by unfold firstBad;rw[List.find?_range_eq_some];exact⟨h,mem_range.mpr hr,fun j hj=>by rw[hlt j hj];rfl⟩
theorem vI{ds:List FR}{cl:List (List Int)}(h:∀j,j<ds.length->pW ds cl j=false):firstBad ds cl=none:=by unfold firstBad;rw[List.find?_eq_none];intro j hj;rw[h j (mem_range.mp hj)];decide
inductive yl(vs:List V)(H:Hp)(Q:VK)(E_:XK):Prop
 | mk (lr lc:Addr) (ds:List FR) (cl:List (List Int)) (_:vs=[.ref lr,.ref lc]) (_:cw H lr ds) (_:cq H lc cl) (_:cl.length=ds.length) (_:ds.length<=3000) (_:nc ds) (_:firstBad ds cl=none) (_:∀H',Same H H'->Q .non H')
theorem ym:aI ["rows","claims","r","claim"] ["rows","claims"] (ao zP):=by walk_at "sc1"
def D6:Scope:={kind:=.function,names:=[(".0",.local),("box",.local),("is_right",.globalImplicit),("claims",.free),("r",.free),("rows",.free)],isGenerator:=false,isCoroutine:=false,more:=[]}
theorem vJ:bZ (ao zP) D6 ["rows","claims","r","claim"] ["box","rows","claims","r"] [none,some 0,some 1,some 2]:=by walk_at "sc2"
theorem HR{f fL fR:Addr}{fd D7 DZ:fo}(F:cE K "check_free" "check_free" zP f fd)(T:Txt K w.params mg)(GL:aL P w K mg base bQ 3 fL D7 ["thing"] (zS (K:=K)))(kL:KI K fL)(bL:Binds K D7 ["thing"] [])(mL:mg "is_claim"=some (.ref fL))(GR:aL P w K mg base bQ 4 fR DZ ["rows","claims","r","box"] zV)(kR:KI K fR)(bR:Binds K DZ ["rows","claims","r","box"] [])(mR:mg "is_right"=some (.ref fR)):aL P w K mg base bQ 5 f fd ["rows","claims"] yl:=by
 refine F.ok ym (by walk_at "ln") (fun Lq A outer s H vs Q E hr h=>?_)
 ·obtain⟨lr,l,ds,cl,rfl,hR,hC,hlen,hn,hP,hfb,hq⟩:=h;have VZ:=hr.mono (show 3<=4 by decide)
  refine⟨_,(bq (dk (dB (cI (aG dG (by rfl) T.HE iG (ae (pv 1) (ae (iq (v:=.ty "list") (by rfl) T.list d6 rfl) aj))))) ju aO)
   (bq (cY PassesOwn.never rfl (cy rfl T.range (ae (aG aS (by rfl) T.len cZ (ae (pv 0) aj)) aj)) (aR (i:=2) ym.nd rfl (Or.inr rfl)) (aA (dk (my (aN JH (pv 2) (aG aS (by rfl) T.len cZ (ae (pv 1) aj)) (aY _)) (iV (dB (cI (aC GL VZ (by rfl) mL kL bL .nil aU (ae (aJ bp (pv 1) (pv 2) (fun _ _=>rfl)) aj)))))).pt ju aO)))
   (bq (dk (aN rM (aG aS (by rfl) T.len cZ (ae (pv 1) aj)) (aG aS (by rfl) T.len cZ (ae (pv 0) aj)) (aY _)) ju aO)
   (aA (cY PassesOwn.never rfl (oE rfl T.enum (ae (pv 1) aj)) (iI (K:=K) (i:=2) (j:=3) rfl rfl ym.nd rfl (Or.inr rfl) rfl (Or.inl rfl)) (aA (dk (dB (cI (aG (ei rfl) (by rfl) T.all je (ae (cO (X:=(gM bQ P w K mg base ["rows","claims","r","claim"] "check_free" (ao zP) f Lq A outer s H E).uY) (N':=["box","rows","claims","r"]) (fr:=[none,some 0,some 1,some 2]) vJ rfl (iW (pv 3)) (fun C s0 H0 fp=>(aR (i:=0) vJ.nd rfl (Or.inl rfl))) (fun C s0 H0 fp=>cB) (fun C s0 H0 fp=>(aC GR hr (by rfl) mR kR bR .nil aU (ae (pv 1) (ae (pv 2) (ae (pv 3) (ae (pv 0) aj))))))) aj)))) ju aO))))))),?_⟩
  obtain⟨qs,g1,g2,g3⟩:=id hR;obtain⟨cs,c1,c2,c3⟩:=id hC;have gd:∀j,j<ds.length->∃x ms,cs[j]? =some x/\cl[j]? =some ms/\jg H x ms:=fun j hj=>by have h1:cs[j]? =some (cs[j]'(by omega)):=aa _;have h2:cl[j]? =some (cl[j]'(by omega)):=aa _;exact⟨_,_,h1,h2,c3 j _ _ h1 h2⟩
  refine⟨_,rfl,_,_,_,_,rfl,.lst c1,jf,_,rfl,cC (by decide) ?_⟩;refine⟨_,rfl,lr,_,rfl,.inl (aT.of g1),_,rfl,by rw[length_map];omega,by rw[length_map];omega,ef (n:=(((qs.map V.ref).length:Nat):Int).toNat) (fun i σ H6=>∃v2:Option V,σ=[some (.ref lr),some (.ref l),v2,none]/\Same H H6) ?_ ?_ ?_⟩
  ·exact⟨none,rfl,.refl _⟩
  ·rintro i σ H6 hi ⟨v2,rfl,s6⟩;have hin:i<ds.length:=by rw[nn,length_map,g2]at hi;exact hi
   obtain⟨x,ms,hx,_,hg⟩:=gd i hin;refine⟨_,rfl,_,rfl,l,_,rfl,.inl (aT.of (s6 _ _ c1)),_,_,rfl,rfl,_,rfl,?_⟩;refine cC (fun z=>absurd (of_decide_eq_true z) (by omega)) ?_;refine⟨_,rfl,_,rfl,l,_,_,x,rfl,rfl,aT.of (s6 _ _ c1),(by rw[Int.zero_add];exact cG hx),x,true,rfl,.inl ⟨rfl,ms,hg.same s6⟩,fun H7 s7=>⟨_,rfl,cC (by decide) ?_⟩⟩;exact⟨_,rfl,s6.trans s7⟩
  ·rintro σ H6 ⟨v2,rfl,s6⟩;have h6:=s6 _ _ c1;have hr6:=s6 _ _ g1;refine⟨_,rfl,l,_,rfl,.inl (aT.of h6),_,rfl,lr,_,rfl,.inl (aT.of hr6),_,_,rfl,rfl,_,rfl,?_⟩;refine cC (fun z=>absurd (of_decide_eq_true z) (by rw[length_map];omega)) ?_;refine⟨_,rfl,l,rfl,⟨_,aT.of h6⟩,pK (xs:=cs) (fun i σ H7=>i<=ds.length/\(∀j,j<i->pW ds cl j=false)/\∃v2 v3:Option V,σ=[some (.ref lr),some (.ref l),v2,v3]/\Same H H7) ?_ ?_ ?_ ?_⟩
   ·exact⟨zero_le _,fun j hj=>absurd hj (by omega),_,_,rfl,s6⟩
   ·rintro i σ H7 hi ⟨_,_,v2,v3,rfl,s7⟩;exact aT.of (s7 _ _ c1)
   ·rintro i x σ H7 tt hx Cm ⟨_,hlt,v2,v3,rfl,s7⟩;have hic:=(ag.mp hx).1;have hid:i<ds.length:=by omega
    obtain⟨x',ms,hx',hms,hg⟩:=gd i hid;rw[hx]at hx';cases hx';have hd:ds[i]? =some ds[i]:=aa hid;generalize ds[i]=d at hd;obtain⟨p1,p2⟩:=hP i d hd;have QS:=s7.trans (ai (o:=.tup [V.int i,x]) Cm);have htt:upd H7 tt (.tup [V.int i,x]) tt=_:=ah;generalize upd H7 tt (.tup [V.int i,x])=H8 at QS htt ⊢;refine⟨tt,_,rfl,bh.of htt,rfl,_,_,rfl,_,_,rfl,rfl,?_⟩;obtain⟨q,rfl,L6,hr8,_,_,h64⟩:=hg;refine⟨_,rfl,q,rfl,⟨_,bh.of (QS _ _ L6)⟩,fun D nD=>fe (K:=K) (a:=q) (xs:=ms.map V.int) (fun j σ ys H9=>∃v:Option V,σ=[v,some (.ref lr),some (.ref l),some (.int (i:Int))]/\ys=((ms.take j).map (gR d cl i)).map V.bl/\Same H8 H9/\H9 D=some (.lst ys)) ?_ ?_ ?_ ?_⟩
    ·exact⟨none,rfl,rfl,ai nD,ah⟩
    ·rintro j σ ys H9 _ ⟨v,rfl,rfl,s9,_⟩;exact bh.of (s9 _ _ (QS _ _ L6))
    ·rintro j y σ ys H9 hy ⟨v,rfl,rfl,s9,hD⟩;rw[ac]at hy;obtain⟨b,hb1,rfl⟩:=map_eq_some_iff.mp hy;have hjl:=(ag.mp hb1).1;have t9:=QS.trans s9;refine⟨_,rfl,_,rfl,_,rfl,_,rfl,lr,l,ds,cl,i,d,b,rfl,hR.same t9,hC.same t9,hd,p1,fun s hs=>by rw[hlen];exact p2 s hs,fun Um xF=>⟨xF _ _ hD,?_,_,rfl,?_,aF (s9.trans xF) nD,ah⟩⟩
     ·rw[length_map,length_map,length_take];exact aK (by omega)
     ·rw[take_add_one,hb1,map_append,map_append];rfl
    ·rintro σ ys H9 ⟨v,rfl,rfl,s9,hD⟩;rw[length_map,take_length]at hD;refine⟨D,_,rfl,aT.of hD,_,rfl,?_⟩;have hbad:pW ds cl i=!((ms.map (gR d cl i)).all id):=by unfold pW;rw[hd,hms];show(ms.any fun b=>!gR d cl i b)=_;rw[all_map,Bool.eq_iff_iff,List.any_eq_true];simp
     refine dF (fun e=>?_) (fun e=>?_)
     ·have hb:pW ds cl i=true:=by rw[hbad];exact e
      have z:=Bm hid hb hlt;rw[hfb]at z;cases z
     ·have hb:pW ds cl i=false:=by rw[hbad];exact Bool.eq_false_iff.mpr e
      refine⟨hid,fun j hj=>?_,_,_,rfl,QS.trans s9⟩;rcases Nat.lt_or_eq_of_le (Nat.le_of_lt_succ hj)with z | z
      ·exact hlt j z
      ·rw[z];exact hb
   ·rintro σ H7 ⟨_,hlt,v2,v3,rfl,s7⟩;exact hq _ s7
theorem D8{H:Hp}{a lc:Addr}{as:List Addr}{ms:List Int}(h1:H lc=some (.lst (as.map V.ref)))(h2:H a=some (.lst (ms.map V.int)))(hm:as≠ []):a≠lc:=fun z=>by
 rw[z,h1]at h2;cases as with
 | nil=>exact hm rfl
 | cons x r=>
  cases ms with
  | nil=>cases h2
  | cons y r'=>cases h2
def nats(rs:List Nat):List V:=rs.map (fun r:Nat=>V.int (r:Int))
theorem Bo(rs:List Nat):nats rs=(rs.map fun r:Nat=>(r:Int)).map V.int:=by unfold nats;rw[map_map];rfl
theorem vK{rs:List Nat}{i:Nat}{x:V}(h:(nats rs)[i]? =some x):∃r,rs[i]? =some r/\x=.int (r:Int):=by unfold nats at h;rw[ac]at h;obtain⟨r,hr,rfl⟩:=map_eq_some_iff.mp h;exact⟨r,hr,rfl⟩
theorem hV(rs:List Nat)(r:Nat):nats rs++ [V.int (r:Int)]=nats (rs++ [r]):=by unfold nats;rw[map_append];rfl
theorem gk(rs:List Nat):(nats rs).length=rs.length:=by unfold nats;rw[length_map]
def pX(H:Hp)(la:Addr)(as:List Addr)(ds:List FR):Prop:=H la=some (.lst (as.map V.ref))/\as.length=ds.length/\∀(s:Nat) a,as[s]? =some a->∃rs:List Nat,H a=some (.lst (nats rs))/\∀r:Nat,r∈rs↔∃d,ds[r]? =some d/\(s:Int)∈zU d r
theorem pX.same{H H':Hp}{la:Addr}{as:List Addr}{ds:List FR}(s:Same H H')(h:pX H la as ds):pX H' la as ds :=
 ⟨s _ _ h.1,h.2.1,fun i a e=>(h.2.2 i a e).imp fun rs z=>⟨s _ _ z.1,z.2⟩⟩
def Cp(G:Hp)(as:List Addr)(ds:List FR)(r:Nat)(ms:List Int):Prop:=∀(s:Nat) a,as[s]? =some a->∃rs:List Nat,G a=some (.lst (nats rs))/\rs.length<=1000*r+ms.length/\∀x:Nat,x∈rs↔(x<r/\∃d,ds[x]? =some d/\(s:Int)∈zU d x)\/(x=r/\(s:Int)∈ms)
theorem D9{as:List Addr}(h:as.Nodup){i j:Nat}{a:Addr}(h1:as[i]? =some a)(h2:as[j]? =some a):i=j:=by obtain⟨l1,e1⟩:=ag.mp h1;obtain⟨l2,e2⟩:=ag.mp h2;exact(List.getElem_inj h).mp (e1.trans e2.symm)
theorem Cp.put{G:Hp}{as:List Addr}{ds:List FR}{r s:Nat}{ms:List Int}{a:Addr}{rs:List Nat}(h:Cp G as ds r ms)(hn:as.Nodup)(ha:as[s]? =some a)(hrs:G a=some (.lst (nats rs))):Cp (upd G a (.lst (nats (rs++ [r])))) as ds r (ms++ [(s:Int)]):=fun s' a' e=>by
 obtain⟨rs',g1,g2,g3⟩:=h s' a' e;by_cases z:a'=a
 ·subst z;have es:=D9 hn e ha;subst es;rw[hrs]at g1;have er:rs'=rs:=by have:nats rs'=nats rs:=(HO.lst.inj (Option.some.inj g1)).symm;unfold nats at this;exact(map_inj_right (fun x y e=>by injection e with e;exact Int.ofNat.inj e)).mp this
  subst er;refine⟨_,ah,by simp;omega,fun x=>?_⟩;rw[mem_append,g3 x,mem_singleton,mem_append,mem_singleton];constructor
  ·rintro((z | z) | z)
   ·exact .inl z
   ·exact .inr ⟨z.1,.inl z.2⟩
   ·exact .inr ⟨z,.inr rfl⟩
  ·rintro(z | ⟨z,y | y⟩)
   ·exact .inl (.inl z)
   ·exact .inl (.inr ⟨z,y⟩)
   ·exact .inr z
 ·refine⟨rs',by rw[aw z];exact g1,by simp;omega,fun x=>?_⟩;rw[g3 x,mem_append,mem_singleton];have hne:¬(s':Int)=(s:Int):=fun y=>z (by have:s'=s:=(by omega);subst this;rw[e]at ha;cases ha;rfl);constructor
  ·rintro(y | y)
   ·exact .inl y
   ·exact .inr ⟨y.1,.inl y.2⟩
  ·rintro(y | ⟨y,x1 | x1⟩)
   ·exact .inl y
   ·exact .inr ⟨y,x1⟩
   ·exact absurd x1 hne
theorem Cp.next{G:Hp}{as:List Addr}{ds:List FR}{r:Nat}{ms:List Int}{d:FR}(h:Cp G as ds r ms)(hd:ds[r]? =some d)(hm:∀j,j∈ms↔j∈zU d r)(hl:ms.length<=1000):Cp G as ds (r+1) []:=fun s a e=>by
 obtain⟨rs,g1,g2,g3⟩:=h s a e;refine⟨rs,g1,by simp;omega,fun x=>?_⟩;rw[g3 x];constructor
 ·rintro(⟨y,z⟩ | ⟨y,z⟩)
  ·exact .inl ⟨by omega,z⟩
  ·exact .inl ⟨by omega,d,by rw[y];exact hd,by rw[y];exact(hm _).mp z⟩
 ·rintro(⟨y,d',z1,z2⟩ | ⟨_,z⟩)
  ·by_cases q:x=r
   ·subst q;rw[hd]at z1;cases z1;exact .inr ⟨rfl,(hm _).mpr z2⟩
   ·exact .inl ⟨by omega,d',z1,z2⟩
  ·exact(not_mem_nil z).elim
theorem Cp.same{G G':Hp}{as:List Addr}{ds:List FR}{r:Nat}{ms:List Int}(s:Same G G')(h:Cp G as ds r ms):Cp G' as ds r ms:=fun i a e=>(h i a e).imp fun rs z=>⟨s _ _ z.1,z.2⟩
inductive vL(vs:List V)(H:Hp)(Q:VK)(E_:XK):Prop
 | mk (lr:Addr) (ds:List FR) (_:vs=[.ref lr]) (_:cw H lr ds) (_:nc ds) (_:ds.length<=3000) (_:∀(l:Addr) (as:List Addr) (H':Hp),Same H H'->pX H' l as ds->Q (.ref l) H')
theorem HS:aI ["rows","ahead","r","s"] ["rows"] (ao tF):=by walk_at "sc1"
def L7:Scope:={kind:=.function,names:=[(".0",.local),("row",.local)],isGenerator:=false,isCoroutine:=false,more:=[]}
theorem Ea:bZ (ao tF) L7 ["rows","ahead","r","s"] ["row"] [none]:=by walk_at "sc2"
theorem Bp{f fA:Addr}{fd D5:fo}(F:cE K "rows_ahead_of" "rows_ahead_of" tF f fd)(T:Txt K w.params mg)(GA:aL P w K mg base bQ 3 fA D5 ["rows","r"] tO)(kA:KI K fA)(bA:Binds K D5 ["rows","r"] [])(mA:mg "ways_ahead"=some (.ref fA)):aL P w K mg base bQ 4 f fd ["rows"] vL:=by
 refine F.ok HS (by walk_at "ln") (fun Lq A outer s H vs Q E hr h=>?_)
 ·obtain⟨lr,ds,rfl,hR,hP,hn,k⟩:=h
  refine cu (ak (au (jA (i:=1) (N':=["row"]) (fr:=[none]) HS.nd rfl rfl Ea rfl (cQ (pv 0)) (fun C s0 H0 fp=>(aR (i:=0) Ea.nd rfl (Or.inl rfl))) (fun C s0 H0 fp=>cB) (fun C s0 H0 fp=>(dD aj))))
   (ak (au (cY PassesOwn.never rfl (cy rfl T.range (ae (aG aS (by rfl) T.len cZ (ae (pv 0) aj)) aj)) (aR (i:=2) HS.nd rfl (Or.inl rfl)) (aA (cY PassesOwn.never rfl (cQ (aC GA hr (by rfl) mA kA bA .nil aU (ae (pv 0) (ae (pv 2) aj)))) (aR (i:=3) HS.nd rfl (Or.inl rfl)) (aA (c6 (iR ij im io da (aJ bp (pv 1) (pv 3) (fun _ _=>rfl)) (ae (pv 2) aj))))))))
   (az (au (aE (pv 1)))))) ?_
  have hlr:=hR;obtain⟨qs,r1,r2,r3⟩:=hR;refine⟨_,rfl,lr,rfl,⟨_,aT.of r1⟩,fun D nD=>dO (K:=K) (a:=lr) (xs:=qs.map V.ref) (fun i σ ys G=>∃(v:Option V) (as:List Addr),σ=[v]/\ys=as.map V.ref/\as.length=i/\as.Nodup/\(∀a∈as,H a=none/\G a=some (.lst (([]:List Int).map V.int)))/\Same H G/\G D=some (.lst ys)) ?_ ?_ ?_ ?_⟩
  ·exact⟨none,[],rfl,rfl,rfl,List.nodup_nil,fun a h=>(not_mem_nil h).elim,ai nD,ah⟩
  ·rintro i σ ys G _ ⟨v,as,rfl,rfl,_,_,_,s1,_⟩;exact aT.of (s1 _ _ r1)
  ·rintro i x σ ys G hx ⟨v,as,rfl,rfl,hl,hnd,ha,s1,hD⟩;have hil:=(ag.mp hx).1;rw[length_map]at hil;refine⟨zle,fun b nb=>⟨ai nb _ _ hD,aK (by rw[length_map];omega),_,as++ [b],rfl,by simp,by simp[hl],?_,fun y hy=>?_,aF (s1.trans (ai nb)) nD,ah⟩⟩
   ·rw[nodup_append];refine⟨hnd,by simp,fun x hx y hy e=>?_⟩;rw[mem_singleton.mp hy]at e;have:=(ha x hx).2;rw[e,nb]at this;cases this
   ·rcases mem_append.mp hy with hy | hy
    ·obtain⟨y0,y1⟩:=ha y hy;exact⟨y0,by rw[aw (D8 hD y1 (List.ne_nil_of_mem hy))];exact ai nb _ _ y1⟩
    ·rw[mem_singleton.mp hy];exact⟨s1.free nb,by rw[aw (fun z=>by rw[z,hD]at nb;cases nb)];exact ah⟩
  ·rintro σ ys G ⟨v,as,rfl,rfl,hl,hnd,ha,s1,hD⟩;rw[length_map]at hl;have h0:Cp G as ds 0 []:=fun s a e=>⟨[],(ha a (al e)).2,by simp,fun x=>by simp⟩;have hna:∀a∈as,H a=none:=fun a h=>(ha a h).1;refine⟨_,rfl,lr,_,rfl,.inl (aT.of (s1 _ _ r1)),_,rfl,by rw[length_map];omega,by rw[length_map];omega,?_⟩;refine ef (lo:=0) (n:=(((qs.map V.ref).length:Nat):Int).toNat) (fun i σ G1=>∃v2 v3:Option V,σ=[some (.ref lr),some (.ref D),v2,v3]/\Same H G1/\G1 D=some (.lst (as.map V.ref))/\Cp G1 as ds i []) ?_ ?_ ?_
   ·exact⟨_,_,rfl,s1,hD,h0⟩
   ·rintro i σ G1 hi ⟨v2,v3,rfl,s2,hD1,hA⟩;have hin:i<ds.length:=by rw[nn,length_map,r2]at hi;exact hi
    have e0:(0:Int)+(i:Int)=(i:Int):=by omega
    rw[e0];have hd:ds[i]? =some ds[i]:=aa hin;generalize ds[i]=d at hd;obtain⟨p1,p2⟩:=hP i d hd;refine⟨_,rfl,_,rfl,lr,ds,i,d,rfl,hlr.same s2,hd,p1,fun lw ms G2 s3 Eb Cq hml hmm=>?_⟩;have glw:∀a∈as,a≠lw:=fun a ha z=>by obtain⟨j,hj,e⟩:=List.getElem_of_mem ha;obtain⟨rs,g1,_⟩:=hA j a (by rw[aa hj,e]);rw[z,Eb]at g1;cases g1
    refine⟨lw,rfl,⟨_,aT.of Cq⟩,ez (K:=K) (a:=lw) (xs:=ms.map V.int) (fun j σ G3=>∃v3:Option V,σ=[some (.ref lr),some (.ref D),some (.int (i:Int)),v3]/\Same H G3/\G3 D=some (.lst (as.map V.ref))/\G3 lw=some (.lst (ms.map V.int))/\Cp G3 as ds i (ms.take j)) ?_ ?_ ?_ ?_⟩
    ·exact⟨_,rfl,s2.trans s3,s3 _ _ hD1,Cq,hA.same s3⟩
    ·rintro j σ G3 _ ⟨v3,rfl,_,_,h3,_⟩;exact aT.of h3
    ·rintro j x σ G3 hx ⟨v3,rfl,s4,wL,QT,QU⟩;rw[ac]at hx;obtain⟨t,ht,rfl⟩:=map_eq_some_iff.mp hx;have hjl:=(ag.mp ht).1;obtain⟨t0,t1⟩:=p2 t ((hmm t).mp (al ht));obtain⟨tn,rfl⟩:=Int.eq_ofNat_of_zero_le t0;have hat:as[tn]? =some (as[tn]'(by omega)):=aa _;generalize as[tn]'(by omega)=at_ at hat;obtain⟨rs,g1,g2,g3⟩:=QU tn at_ hat;have hmem:=al hat;refine⟨_,rfl,_,rfl,D,_,_,.ref at_,rfl,rfl,aT.of wL,cG (j:=tn) (by rw[ac,hat];rfl),.inl ⟨rfl,_,aT.of g1⟩,_,rfl,at_,_,_,rfl,rfl,g1,lt_of_le_of_lt (show(nats rs).length<=10000000 by rw[gk];rw[length_take]at g2;omega) (by decide),?_⟩;rw[hV];have ne1:at_≠D:=D8 wL (by rw[g1,Bo]) (List.ne_nil_of_mem hmem);refine⟨_,rfl,aF s4 (hna _ hmem),by rw[aw (Ne.symm ne1)];exact wL,by rw[aw (Ne.symm (glw _ hmem))];exact QT,?_⟩;rw[take_add_one,ht];exact QU.put hnd hat g1
    ·rintro σ G3 ⟨v3,rfl,s4,wL,QT,QU⟩;rw[length_map,take_length]at QU;exact⟨_,_,rfl,s4,wL,QU.next hd hmm hml⟩
   ·rintro σ G1 ⟨v2,v3,rfl,s2,hD1,hA⟩;rw[nn,length_map,r2]at hA;refine⟨_,rfl,k D as G1 s2 ⟨hD1,by omega,fun s a e=>?_⟩⟩;obtain⟨rs,g1,_,g3⟩:=hA s a e;refine⟨rs,g1,fun r=>?_⟩;rw[g3 r];constructor
    ·rintro(⟨_,z⟩ | ⟨_,z⟩)
     ·exact z
     ·exact(not_mem_nil z).elim
    ·rintro⟨d,z1,z2⟩;exact .inl ⟨(ag.mp z1).1,d,z1,z2⟩
inductive eJ(ds:List FR)(b:Int):Nat->Prop
 | now {r:Nat} {d:FR}:ds[r]? =some d->hU d b=true->eJ ds b r
 | later {r s:Nat} {d:FR}:ds[r]? =some d->Bk d b=false->(s:Int)∈zU d r->eJ ds b s->eJ ds b r
theorem eJ.lt{ds:List FR}{b:Int}{r:Nat}(h:eJ ds b r):r<ds.length:=by
 cases h with
 | now h _=>exact(ag.mp h).1
 | later h _ _ _=>exact(ag.mp h).1
def iS(ds:List FR)(b:Int)(r:Nat):Bool:=match ds[r]? with
 | some d=>hU d b
 | none=>false
def nD(ks:List Nat):List (Key×V):=ks.map (fun r:Nat=>((Sum.inl (r:Int):Key),V.bl true))
theorem yn(ks:List Nat)(r:Nat):cM (nD ks) (Sum.inl (r:Int))=if r∈ks then some (.bl true)else none:=by
 induction ks with
 | nil=>rfl
 | cons x t ih=>
  show cM ((Sum.inl (x:Int),V.bl true)::nD t) _=_;by_cases e:x=r
  ·subst e;rw[dt rfl,if_pos (by simp)]
  ·have ne:¬((Sum.inl (x:Int):Key)=Sum.inl (r:Int)):=fun z=>e (by have:=Sum.inl.inj z;omega);rw[du ne,ih];by_cases h:r∈t
   ·rw[if_pos h,if_pos (by simp[h])]
   ·rw[if_neg h,if_neg (by simp[h];omega)]
theorem Ec{ks:List Nat}{r:Nat}(h:¬r∈ks):putK (nD ks) (Sum.inl (r:Int)) (.bl true)=nD (ks++ [r]):=by rw[C1 _ (by rw[yn,if_neg h])];unfold nD;rw[map_append];rfl
theorem Ed(ks:List Nat):(nD ks).length=ks.length:=by unfold nD;rw[length_map]
theorem iJ:∀{ms:List Nat} {n:Nat},ms.Nodup->(∀j∈ms,j<n)->ms.length<=n:=fun {ms n} hn h=>by
 have h2:=lW (ms:=ms.map fun r:Nat=>(r:Int)) (xs:=(List.range n).map fun r:Nat=>(r:Int)) (by
  rw[List.nodup_iff_pairwise_ne,List.pairwise_map];exact(List.nodup_iff_pairwise_ne.mp hn).imp fun hne e=>hne (by omega)) (fun j hj=>by
  obtain⟨r,hr,rfl⟩:=mem_map.mp hj
  exact mem_map.mpr ⟨r,mem_range.mpr (h r hr),rfl⟩)
 simpa using h2
structure Wl(ds:List FR)(b:Int)(ks ws:List Nat):Prop where
 nd:ks.Nodup
 wd:ws.Nodup
 sub:∀x∈ws,x∈ks
 need:∀x∈ks,eJ ds b x
 base:∀r,iS ds b r=true->r∈ks
def HU(ds:List FR)(b:Int)(ks ws:List Nat):Prop:=∀s∈ks,¬s∈ws->∀(r:Nat) d,ds[r]? =some d->Bk d b=false->(s:Int)∈zU d r->r∈ks
theorem Wl.all{ds:List FR}{b:Int}{ks:List Nat}(h:Wl ds b ks [])(hs:HU ds b ks [])(r:Nat):r∈ks↔eJ ds b r:=by
 refine⟨h.need r,fun z=>?_⟩
 induction z with
 | now h1 h2=>exact h.base _ (by unfold iS;rw[h1];exact h2)
 | later h1 h2 h3 _ ih=>exact hs _ ih (by simp) _ _ h1 h2 h3
theorem Wl.len{ds:List FR}{b:Int}{ks ws:List Nat}(h:Wl ds b ks ws):ks.length<=ds.length:=iJ h.nd fun x hx=>(h.need x hx).lt
theorem Wl.QV{ds:List FR}{b:Int}{ks ws:List Nat}(h:Wl ds b ks ws):ws.length<=ds.length:=iJ h.wd fun x hx=>(h.need x (h.sub x hx)).lt
theorem L8{t u:TS}{D:Ends}{σ:St}{H:Hp}(h:∀v:TS,v=u->qP t v D σ H):qP t u D σ H:=h u rfl
theorem j7{t u v:TS}{D:Ends}{σ:St}{H:Hp}(e:v=qP t u)(h:∀x:TS,x=u->qP t x D σ H):v D σ H:=e▸h u rfl
theorem cutE{t v:TS}{D:Ends}{σ:St}{H:Hp}(e:v=t)(h:t D σ H):v D σ H:=e▸h
theorem QW{c:TT}{tb u v:TS}{D:Ends}{σ:St}{H:Hp}(e:v=qP (wW c tb) u)(h:∀x y:TS,x=tb->y=u->qP (wW c x) y D σ H):v D σ H:=e▸h tb u rfl rfl
inductive zW(vs:List V)(H:Hp)(Q:VK)(E_:XK):Prop
 | mk (lr la:Addr) (as:List Addr) (b:Int) (ds:List FR) (_:vs=[.ref lr,.ref la,.int b]) (_:cw H lr ds) (_:pX H la as ds) (_:ds.length<=3000) (_:∀(p:Addr) (ks:List Nat) (H':Hp),Same H H'->H p=none->H' p=some (.dK (nD ks))->(∀r,r∈ks↔eJ ds b r)->Q (.ref p) H')
theorem Bq:aI ["rows","ahead","box","waiting","needing","r","s"] ["rows","ahead","box"] (ao yb):=by walk_at "sc1"
def Ma:Scope:={kind:=.function,names:=[(".0",.local),("r",.local),("row",.local),("needs_at_once",.globalImplicit),("box",.free)],isGenerator:=false,isCoroutine:=false,more:=[]}
theorem Ee:bZ (ao yb) Ma ["rows","ahead","box","waiting","needing","r","s"] ["r","row","box"] [none,none,some 2]:=by walk_at "sc2"
theorem Ef{f fN fW:Addr}{fd vF kZ:fo}(F:cE K "rows_that_need" "rows_that_need" yb f fd)(T:Txt K w.params mg)(GN:aL P w K mg base bQ 2 fN vF ["row","box"] tN)(kN:KI K fN)(bN:Binds K vF ["row","box"] [])(mN:mg "needs_at_once"=some (.ref fN))(GW:aL P w K mg base bQ 1 fW kZ ["row"] pS)(kW:KI K fW)(bW:Binds K kZ ["row"] [])(mW:mg "writes_of"=some (.ref fW)):aL P w K mg base bQ 3 f fd ["rows","ahead","box"] zW:=by
 refine F.ok Bq (by walk_at "ln") (fun Lq A outer s H vs Q E hr h=>?_)
 ·obtain⟨lr,la,as,b,ds,rfl,hR,hA,hn,k⟩:=h;have hr1:=hr.mono (show 1<=_ by decide);have hu:=hr.u 1
  refine cu (ak (au (jA (i:=3) (N':=["r","row","box"]) (fr:=[none,none,some 2]) Bq.nd rfl rfl Ee rfl (oE rfl T.enum (ae (pv 0) aj)) (fun C s0 H0 fp=>(iI (K:=K) (i:=0) (j:=1) rfl rfl Ee.nd rfl (Or.inl rfl) rfl (Or.inl rfl))) (fun C s0 H0 fp=>(ku (cI (aC GN hr (by rfl) mN kN bN .nil aU (ae (pv 1) (ae (pv 2) aj)))))) (fun C s0 H0 fp=>(pv 0))))
   (ak (au (aP (i:=4) Bq.nd rfl (Or.inl rfl) gY))
   (ak (au (cY PassesOwn.never rfl (cQ (pv 3)) (aR (i:=5) Bq.nd rfl (Or.inl rfl)) (aA (d0 hu (pv 4) (pv 5) dW rfl))))
   (ak (au (o7 PassesOwn.never (aN rM (aG aS (by rfl) T.len cZ (ae (pv 3) aj)) aq (aY _)) (bq (aP (i:=6) Bq.nd rfl (Or.inl rfl) (dw ij PySem.F.slot_list_pop PySem.F.type_list_pop dy (pv 3)))
   (aA (cY PassesOwn.never rfl (cQ (aJ bp (pv 1) (pv 6) (fun _ _=>rfl))) (aR (i:=5) Bq.nd rfl (Or.inl rfl)) (aA (dk (sJ (sI (jx hu (pv 5) (pv 4))) (ox (aN iy (pv 2) (aC GW hr1 (by rfl) mW kW bW .nil aU (ae (aJ bp (pv 0) (pv 5) (fun _ _=>rfl)) aj)) rfl))).pt (bq (d0 hu (pv 4) (pv 5) dW rfl)
   (aA (c6 (iR ij im io da (pv 3) (ae (pv 5) aj))))) aO)))))))
   (az (au (aE (pv 4)))))))) ?_
  have hlr:=hR;obtain⟨qs,r1,r2,r3⟩:=hR;refine L8 fun u1 V0=>?_;refine⟨_,rfl,lr,rfl,⟨_,aT.of r1⟩,fun D nD'=>AW (K:=K) (a:=lr) (xs:=qs.map V.ref) (fun i σ ys G=>∃(v1 v2:Option V),σ=[v1,v2,some (.int b)]/\ys=nats ((List.range i).filter (iS ds b))/\Same H G/\G D=some (.lst ys)) ?_ ?_ ?_ ?_⟩
  ·exact⟨none,none,rfl,rfl,ai nD',ah⟩
  ·rintro i σ ys G _ ⟨v1,v2,rfl,rfl,s1,_⟩;exact aT.of (s1 _ _ r1)
  ·rintro i x σ ys G t hx nt ⟨v1,v2,rfl,rfl,s1,hD⟩;rw[ac]at hx;obtain⟨q,hq,rfl⟩:=map_eq_some_iff.mp hx;have hil:=(ag.mp hq).1;have hd:ds[i]? =some (ds[i]'(by omega)):=aa _;generalize ds[i]'(by omega)=d at hd;have s2:=ai (o:=.tup [V.int i,V.ref q]) nt;have ht:upd G t (.tup [V.int i,V.ref q]) t=_:=ah;have hD2:=s2 _ _ hD;generalize upd G t (.tup [V.int i,V.ref q])=G1 at s2 ht hD2 ⊢;have s12:=s1.trans s2;have hrg:(List.range (i+1)).filter (iS ds b)=if hU d b=true then (List.range i).filter (iS ds b)++ [i]else (List.range i).filter (iS ds b):=by
    have e:iS ds b i=hU d b:=by unfold iS;rw[hd]
    rw[List.range_succ,filter_append];cases h:hU d b
    ·rw[List.filter_cons_of_neg (by rw[e,h];decide)];simp
    ·rw[List.filter_cons_of_pos (by rw[e,h])];simp
   refine⟨t,_,rfl,bh.of ht,rfl,_,_,rfl,_,_,rfl,rfl,?_⟩;refine⟨_,rfl,_,rfl,q,b,d,rfl,(r3 i q d hq hd).same s12,fun G2 s3=>⟨_,rfl,?_⟩⟩;refine dF (fun e=>?_) (fun e=>?_)
   ·refine⟨_,rfl,s3 _ _ hD2,?_,_,_,rfl,?_,aF (s12.trans s3) nD',ah⟩
    ·rw[gk];exact aK (le_trans (length_filter_le _ _) (by rw[length_range];omega))
    ·rw[hrg,if_pos e,<-hV]
   ·refine⟨_,_,rfl,?_,s12.trans s3,s3 _ _ hD2⟩;rw[hrg,if_neg e]
  ·rintro σ ys G ⟨v1,v2,rfl,rfl,s1,hD⟩;rw[length_map,r2]at hD;obtain⟨w0,hw0⟩:∃w0,w0=(List.range ds.length).filter (iS ds b):=⟨_,rfl⟩;rw[<-hw0]at hD;have JZ:∀r,r∈w0↔iS ds b r=true:=fun r=>by
    rw[hw0,mem_filter,mem_range];refine⟨fun z=>z.2,fun z=>⟨?_,z⟩⟩;unfold iS at z;cases e:ds[r]? with
    | none=>rw[e]at z;cases z
    | some d=>exact(ag.mp e).1
   have HV:w0.Nodup:=by rw[hw0];exact List.nodup_range.sublist List.filter_sublist
   have Eg:∀r∈w0,eJ ds b r:=fun r hr=>by
    have z:=(JZ r).mp hr;unfold iS at z;cases e:ds[r]? with
    | none=>rw[e]at z;cases z
    | some d=>rw[e]at z;exact .now e z
   refine j7 (v:=u1) V0 fun u2 V1=>?_;refine fun p np=>?_;have hp0:H p=none:=s1.free np;have HW:D≠p:=fun z=>by rw[<-z,hD]at np;cases np
   have s2:=s1.trans (ai (o:=.dK []) np);have hp:upd G p (.dK []) p=some (.dK (nD ([]:List Nat))):=ah;have hD2:=ai (o:=.dK []) np _ _ hD;generalize upd G p (.dK [])=G1 at s2 hp hD2 ⊢;refine j7 (v:=u2) V1 fun u3 V2=>?_;refine⟨_,rfl,D,rfl,⟨_,aT.of hD2⟩,ez (K:=K) (a:=D) (xs:=nats w0) (fun j σ G2=>∃v5:Option V,σ=[some (.ref lr),some (.ref la),some (.int b),some (.ref D),some (.ref p),v5,none]/\Same H G2/\G2 D=some (.lst (nats w0))/\G2 p=some (.dK (nD (w0.take j)))) ?_ ?_ ?_ ?_⟩
   ·exact⟨_,rfl,s2,hD2,hp⟩
   ·rintro j σ G2 _ ⟨v5,rfl,_,h,_⟩;exact aT.of h
   ·rintro j x σ G2 hx ⟨v5,rfl,s3,wL,hp3⟩;obtain⟨r,hr',rfl⟩:=vK hx;have hj:=(ag.mp hr').1;have hnot:¬r∈w0.take j:=fun z=>by have:=List.take_append_drop j w0;have h2:=HV;rw[<-this,nodup_append]at h2;refine h2.2.2 r z r ?_ rfl;rw[List.drop_eq_getElem_cons hj];have e:=(ag.mp hr').2;rw[e];simp
    refine⟨_,rfl,_,rfl,p,_,rfl,jV.k (k:=Sum.inl (r:Int)) hp3 (by rw[Ed];exact aK (by rw[length_take];have:=iJ HV (fun x hx=>(Eg x hx).lt);omega)),?_⟩;rw[Ec hnot];refine⟨_,rfl,aF s3 hp0,by rw[aw HW];exact wL,?_⟩;rw[take_add_one,hr'];exact ah
   ·rintro σ G2 ⟨v5,rfl,s3,wL,hp3⟩;rw[gk,take_length]at hp3;have QX:Wl ds b w0 w0:=⟨HV,HV,fun x hx=>hx,Eg,fun r hr=>(JZ r).mpr hr⟩;have V3:HU ds b w0 w0:=fun s hs hns=>absurd hs hns;refine QW (v:=u3) V2 fun tb u4 etb V4=>?_;refine⟨fun mm σ G3=>∃(ks ws:List Nat) (v5 v6:Option V),σ=[some (.ref lr),some (.ref la),some (.int b),some (.ref D),some (.ref p),v5,v6]/\Same H G3/\G3 D=some (.lst (nats ws))/\G3 p=some (.dK (nD ks))/\Wl ds b ks ws/\HU ds b ks ws/\mm=2*(ds.length-ks.length)+ws.length,⟨_,w0,w0,v5,none,rfl,s3,wL,hp3,QX,V3,rfl⟩,?_⟩;rintro mm σ G3 ⟨ks,ws,v5',v6,rfl,s4,V5,hp4,hwl,hsh,rfl⟩;refine⟨_,rfl,D,_,rfl,.inl (aT.of V5),_,_,rfl,rfl,_,rfl,?_⟩;rw[gk];refine dF (fun e=>?_) (fun e=>?_)
    ·have e:(0:Int)< (ws.length:Int):=of_decide_eq_true e;obtain⟨Cr,sx,rfl⟩:∃ys x,ws=ys++ [x]:=⟨_,_,(List.dropLast_concat_getLast (fun z=>by rw[z]at e;simp at e)).symm⟩;refine⟨fun σ G4=>∃(ks' ws':List Nat) (v5 v6:Option V),σ=[some (.ref lr),some (.ref la),some (.int b),some (.ref D),some (.ref p),v5,v6]/\Same H G4/\G4 D=some (.lst (nats ws'))/\G4 p=some (.dK (nD ks'))/\Wl ds b ks' ws'/\HU ds b ks' ws'/\2*(ds.length-ks'.length)+ws'.length<2*(ds.length-ks.length)+(Cr++ [sx]).length,fun σ' H' ⟨ks',ws',v5,v6,a1,a2,a3,a4,a5,a6,a7⟩=>⟨_,a7,ks',ws',v5,v6,a1,a2,a3,a4,a5,a6,rfl⟩,?_⟩;refine j7 (v:=tb) etb fun u5 V6=>?_;have hsx:sx∈ks:=hwl.sub sx (by simp);have hsn:¬sx∈Cr:=fun z=>by have:=hwl.wd;rw[nodup_append]at this;exact this.2.2 sx z sx (by simp) rfl
     refine⟨_,rfl,.inl ⟨rfl,_,aT.of V5⟩,D,nats (Cr++ [sx]),.int (sx:Int),rfl,rfl,V5,(by rw[gk,<-hV];simp[nats]),?_⟩;have ed:(nats (Cr++ [sx])).dropLast=nats Cr:=by rw[<-hV];simp
     rw[ed];have s5:Same H (upd G3 D (.lst (nats Cr))):=aF s4 nD';have hD5:upd G3 D (.lst (nats Cr)) D=_:=ah;have hp5:upd G3 D (.lst (nats Cr)) p=some (.dK (nD ks)):=by rw[aw (Ne.symm HW)];exact hp4
     generalize upd G3 D (.lst (nats Cr))=G4 at s5 hD5 hp5 ⊢;have V7:Wl ds b ks Cr:=⟨hwl.nd,by have:=hwl.wd;rw[nodup_append]at this;exact this.1,fun x hx=>hwl.sub x (by simp[hx]),hwl.need,hwl.base⟩;refine cutE (v:=u5) V6 ?_;obtain⟨q1,q2,q3⟩:=hA;have hsl:sx<ds.length:=(hwl.need sx hsx).lt;have has:as[sx]? =some (as[sx]'(by omega)):=aa _;generalize as[sx]'(by omega)=ax at has;obtain⟨rs,g1,g2⟩:=q3 sx ax has;have neaD:ax≠D:=fun z=>by rw[z,nD']at g1;cases g1
     refine⟨_,rfl,_,rfl,la,_,_,.ref ax,rfl,rfl,aT.of (s5 _ _ q1),cG (j:=sx) (by rw[ac,has];rfl),ax,rfl,⟨_,aT.of (s5 _ _ g1)⟩,?_⟩;refine ez (K:=K) (a:=ax) (xs:=nats rs) (fun j σ G5=>∃(ks' ws':List Nat) (v5:Option V),σ=[some (.ref lr),some (.ref la),some (.int b),some (.ref D),some (.ref p),v5,some (.int (sx:Int))]/\Same H G5/\G5 D=some (.lst (nats ws'))/\G5 p=some (.dK (nD ks'))/\Wl ds b ks' ws'/\(∀x∈ks,x∈ks')/\¬sx∈ws'/\(∀s∈ks',s≠sx->¬s∈ws'->∀(r:Nat) d,ds[r]? =some d->Bk d b=false->(s:Int)∈zU d r->r∈ks')/\(∀r∈rs.take j,∀d,ds[r]? =some d->Bk d b=false->r∈ks')/\2*(ds.length-ks'.length)+ws'.length<=2*(ds.length-ks.length)+Cr.length) ?_ ?_ ?_ ?_
     ·refine⟨ks,Cr,_,rfl,s5,hD5,hp5,V7,fun x hx=>hx,hsn,fun s hs hne hnw r d h1 h2 h3=>hsh s hs (fun z=>?_) r d h1 h2 h3,fun r hr=>by simp at hr,le_refl _⟩;rcases mem_append.mp z with z | z
      ·exact hnw z
      ·exact hne (mem_singleton.mp z)
     ·rintro j σ G5 _ ⟨ks',ws',v5,rfl,s6,_⟩;exact aT.of (s6 _ _ g1)
     ·rintro j x σ G5 hx ⟨ks',ws',v5,rfl,s6,wM,QY,k8,hkk,HX,Eh,Br,V8⟩;obtain⟨r,hr',rfl⟩:=vK hx;obtain⟨d,hd,hsd⟩:=(g2 r).mp (al hr');have tk:rs.take (j+1)=rs.take j++ [r]:=by rw[take_add_one,hr'];rfl
      refine⟨_,rfl,_,rfl,p,_,rfl,eO.k (k:=Sum.inl (r:Int)) QY,_,rfl,?_⟩;rw[yn];by_cases hin:r∈ks'
      ·rw[if_pos hin];refine cC (by decide) ?_;refine⟨ks',ws',_,rfl,s6,wM,QY,k8,hkk,HX,Eh,fun r' hr'' d' h1 h2=>?_,V8⟩;rw[tk]at hr'';rcases mem_append.mp hr'' with z | z
       ·exact Br r' z d' h1 h2
       ·rw[mem_singleton.mp z];exact hin
      ·rw[if_neg hin];refine df (by decide) ?_;obtain⟨qs',q,y1,y2,y2',y3⟩:=(hlr.same s6).get hd;obtain⟨items,i1,i2,_,i4⟩:=y3.parts;refine⟨_,rfl,_,rfl,_,rfl,lr,_,_,_,rfl,rfl,aT.of y1,y2,q,d.u,items,rfl,i1,i2,fun l ms G6 s7 nl hl hw=>?_⟩;refine⟨l,_,rfl,.inl (aT.of hl),rfl,eT ms,_,rfl,?_⟩;rw[show(if true=true then !inV (.int b) (ms.map V.int)else inV (.int b) (ms.map V.int))=!Bk d b by rw[if_pos rfl,gC,si i2 i4 hw b]];have s67:=s6.trans s7;have Ei:=s7 _ _ wM;have hp7:=s7 _ _ QY;refine dF (fun ew=>?_) (fun ew=>?_)
       ·have ew:Bk d b=false:=by simpa using ew
        have J0:eJ ds b r:=.later hd ew hsd (hwl.need sx hsx);have hnew:¬r∈ws':=fun z=>hin (k8.sub r z);have hl1:=k8.len;have hl2:=k8.QV;have hlt:ks'.length<ds.length:=by
         have:=iJ (ms:=ks'++ [r]) (n:=ds.length) (by
          rw[nodup_append];exact⟨k8.nd,by simp,fun x hx y hy e=>hin (by rw[<-mem_singleton.mp hy,<-e];exact hx)⟩) (fun x hx=>by
          rcases mem_append.mp hx with z | z
          ·exact(k8.need x z).lt
          ·rw[mem_singleton.mp z];exact J0.lt)
         rw[length_append,length_singleton]at this;omega
        refine⟨_,rfl,_,rfl,p,_,rfl,jV.k (k:=Sum.inl (r:Int)) hp7 (by rw[Ed];exact aK (by omega)),?_⟩;rw[Ec hin];have s8:Same H (upd G6 p (.dK (nD (ks'++ [r])))):=aF s67 hp0;have O7:upd G6 p (.dK (nD (ks'++ [r]))) D=some (.lst (nats ws')):=by rw[aw HW];exact Ei
        have hp8:upd G6 p (.dK (nD (ks'++ [r]))) p=_:=ah;generalize upd G6 p (.dK (nD (ks'++ [r])))=G7 at s8 O7 hp8 ⊢;refine⟨_,rfl,.inl ⟨rfl,_,aT.of O7⟩,_,rfl,D,_,_,rfl,rfl,O7,aK (by rw[gk];omega),?_⟩;rw[hV];refine⟨ks'++ [r],ws'++ [r],_,rfl,aF s8 nD',ah,by rw[aw (Ne.symm HW)];exact hp8,⟨?_,?_,fun x hx=>?_,fun x hx=>?_,fun x hx=>by simp[k8.base x hx]⟩,fun x hx=>by simp[hkk x hx],fun z=>?_,fun s hs hne hnw r' d' h1 h2 h3=>?_,fun r' hr'' d' h1 h2=>?_,by simp;omega⟩
        ·rw[nodup_append];exact⟨k8.nd,by simp,fun x hx y hy e=>hin (by rw[<-mem_singleton.mp hy,<-e];exact hx)⟩
        ·rw[nodup_append];exact⟨k8.wd,by simp,fun x hx y hy e=>hnew (by rw[<-mem_singleton.mp hy,<-e];exact hx)⟩
        ·rcases mem_append.mp hx with z | z
         ·simp[k8.sub x z]
         ·simp[mem_singleton.mp z]
        ·rcases mem_append.mp hx with z | z
         ·exact k8.need x z
         ·rw[mem_singleton.mp z];exact J0
        ·rcases mem_append.mp z with z | z
         ·exact HX z
         ·exact hin (by rw[<-mem_singleton.mp z];exact hkk sx hsx)
        ·rcases mem_append.mp hs with z | z
         ·have:=Eh s z hne (fun y=>hnw (by simp[y])) r' d' h1 h2 h3;simp[this]
         ·exact absurd (by rw[mem_singleton.mp z];simp) hnw
        ·rw[tk]at hr'';rcases mem_append.mp hr'' with z | z
         ·have:=Br r' z d' h1 h2;simp[this]
         ·simp[mem_singleton.mp z]
       ·refine⟨ks',ws',_,rfl,s67,Ei,hp7,k8,hkk,HX,Eh,fun r' hr'' d' h1 h2=>?_,V8⟩;rw[tk]at hr'';rcases mem_append.mp hr'' with z | z
        ·exact Br r' z d' h1 h2
        ·have er:=mem_singleton.mp z;subst er;rw[hd]at h1;cases h1;rw[h2]at ew;exact absurd rfl ew
     ·rintro σ G5 ⟨ks',ws',v5,rfl,s6,wM,QY,k8,hkk,HX,Eh,Br,V8⟩;rw[gk,take_length]at Br;refine⟨ks',ws',_,_,rfl,s6,wM,QY,k8,fun s hs hnw r d h1 h2 h3=>?_,by simp;omega⟩;by_cases hne:s=sx
      ·subst hne;exact Br r ((g2 r).mpr ⟨d,h1,h3⟩) d h1 h2
      ·exact Eh s hs hne hnw r d h1 h2 h3
    ·have e:ws=[]:=by
      cases ws with
      | nil=>rfl
      | cons x t=>exact absurd (decide_eq_true (by simp;try omega)) e
     subst e;refine cutE (v:=u4) V4 ?_;exact⟨_,rfl,k p ks G3 s4 hp0 hp4 (hwl.all hsh)⟩
def V9(cs s:Scope):Scope:={cs with names:=cs.names.map fun(n,k)=>if (k==NameKind.free&&s.kind== .function&&s.names.lookup n==some .cell)then (n,NameKind.cell)else (n,k)}
def Ej(K:Frag):List V->Hp->VK->Prop:=fun xs H Q=>∃p ys,xs=[.ref p]/\((aT K H p ys/\∀l,H l=none->Q (.ref l) (upd H l (.tup ys)))\/(bh K H p ys/\Q (.ref p) H))
def Wa(ks:List Nat):List (Key×V):=nD ks
noncomputable def pY(ds:List FR)(b:Int)(r:Nat):Bool:=@decide (eJ ds b r) (Classical.propDecidable _)
theorem sk{ds:List FR}{b:Int}{r:Nat}:pY ds b r=true↔eJ ds b r:=by unfold pY;exact @decide_eq_true_iff _ (Classical.propDecidable _)
noncomputable def eK(ds:List FR)(r:Nat):List Int:=([0,1,2,3,4,5,6,7]:List Int).filter fun b=>!pY ds b r
noncomputable def iK(ds:List FR):List (List Int):=(List.range ds.length).map (eK ds)
theorem vM(ds:List FR):(iK ds).length=ds.length:=by unfold iK;rw[length_map,length_range]
theorem tQ{ds:List FR}{r:Nat}(h:r<ds.length):(iK ds)[r]? =some (eK ds r):=by unfold iK;rw[ac,List.getElem?_range h];rfl
theorem pZ{ds:List FR}{r:Nat}{b:Int}:b∈eK ds r↔(0<=b/\b<=7)/\¬eJ ds b r:=by
 unfold eK;rw[mem_filter];refine and_congr ?_ ?_
 ·constructor
  ·intro h;simp at h;omega
  ·intro h;have:b=0\/b=1\/b=2\/b=3\/b=4\/b=5\/b=6\/b=7:=by omega
   simp;exact this
 ·rw[Bool.not_eq_true',<-sk,Bool.not_eq_true]
theorem Bs(ds:List FR)(r:Nat):(∀b∈eK ds r,0<=b/\b<=7)/\(eK ds r).Pairwise (· <= ·)/\(eK ds r).Nodup/\(eK ds r).length<=8 :=
 ⟨fun b hb=>(pZ.mp hb).1,(show([0,1,2,3,4,5,6,7]:List Int).Pairwise (· <= ·) by decide).sublist List.filter_sublist,(show([0,1,2,3,4,5,6,7]:List Int).Nodup by decide).sublist List.filter_sublist,length_filter_le _ _⟩
theorem yo{ds:List FR}(hP:nc ds):firstBad ds (iK ds)=none:=vI fun r hr=>by
 unfold pW;have hd:ds[r]? =some ds[r]:=aa hr;rw[hd,tQ hr];show((eK ds r).any fun b=>!gR ds[r] (iK ds) r b)=false;generalize ds[r]=d at hd;rw[Bool.eq_false_iff];intro z;obtain⟨b,hb,hz⟩:=List.any_eq_true.mp z;obtain⟨hb7,hn⟩:=pZ.mp hb;have h1:hU d b=false:=Bool.eq_false_iff.mpr fun y=>hn (.now hd y);have:gR d (iK ds) r b=true:=by
  unfold gR;rw[h1,Bool.not_false,Bool.true_and,Bool.or_eq_true];cases hw:Bk d b with
  | true=>exact .inl rfl
  | false=>
   refine .inr (all_eq_true.mpr fun s hs=>?_);obtain⟨s0,s1⟩:=(hP r d hd).2 s hs;obtain⟨sn,rfl⟩:=Int.eq_ofNat_of_zero_le s0;unfold vG;rw[nn,tQ (by omega)];exact decide_eq_true (pZ.mpr ⟨hb7,fun y=>hn (.later hd hw hs y)⟩)
 rw[this]at hz;cases hz
inductive Ek(vs:List V)(H:Hp)(Q:VK)(E_:XK):Prop
 | mk (lr:Addr) (ds:List FR) (_:vs=[.ref lr]) (_:cw H lr ds) (_:nc ds) (_:ds.length<=3000) (_:∀(l:Addr) (H':Hp),Same H H'->H l=none->cq H' l (iK ds)->Q (.ref l) H')
theorem Mb:aI ["rows","ahead","needing"] ["rows"] (ao vC):=by walk_at "sc1"
def Md:Scope:={kind:=.function,names:=[(".0",.local),("box",.local),("rows_that_need",.globalImplicit),("ahead",.free),("rows",.free)],isGenerator:=false,isCoroutine:=false,more:=[]}
theorem El:bZ (ao vC) Md ["rows","ahead","needing"] ["box","rows","ahead"] [none,some 0,some 1]:=by walk_at "sc2"
def Em:Scope:={kind:=.function,names:=[(".0",.local),("r",.cell),("tuple",.globalImplicit),("ALL_BOXES",.globalImplicit),("needing",.free)],isGenerator:=false,isCoroutine:=false,more:=[]}
theorem En:oI (ao vC) Em ["rows","ahead","needing"] ["r","needing"] [none,some 2] "r":=⟨rfl,fun _ _=>rfl,fun _=>rfl,by decide+kernel,by decide+kernel,by decide+kernel,by decide+kernel,by decide+kernel,by decide+kernel⟩
def Mf:Scope:={kind:=.function,names:=[(".0",.local),("box",.local),("needing",.free),("r",.free)],isGenerator:=false,isCoroutine:=false,more:=[]}
theorem Eo:bZ (V9 Em (ao vC)) Mf ["r","needing"] ["box","r","needing"] [none,some 0,some 1]:=by walk_at "sc2"
theorem HY{f fA fN:Addr}{fd D5 vF:fo}(F:cE K "free_boxes" "free_boxes" vC f fd)(T:Txt K w.params mg)(GA:aL P w K mg base bQ 4 fA D5 ["rows"] vL)(kA:KI K fA)(bA:Binds K D5 ["rows"] [])(mA:mg "rows_ahead_of"=some (.ref fA))(GN:aL P w K mg base bQ 3 fN vF ["rows","ahead","box"] zW)(kN:KI K fN)(bN:Binds K vF ["rows","ahead","box"] [])(mN:mg "rows_that_need"=some (.ref fN)):aL P w K mg base bQ 5 f fd ["rows"] Ek:=by
 refine F.ok Mb (by walk_at "ln") (fun Lq A outer s H vs Q E hr h=>?_)
 ·obtain⟨lr,ds,rfl,hR,hP,hn,k⟩:=h;have VW:=hr.mono (show 3<=_ by decide);have hu:=hr.u 1;obtain⟨p8,hp8,L6⟩:=T.LY
  refine cu (ak (au (aP (i:=1) Mb.nd rfl (Or.inr rfl) (aC GA hr (by rfl) mA kA bA .nil aU (ae (pv 0) aj))))
   (ak (au (aP (i:=2) Mb.nd rfl (Or.inr rfl) (cO (N':=["box","rows","ahead"]) (fr:=[none,some 0,some 1]) El rfl (iW (cF (v:=.ref p8) (by rfl) hp8 rfl)) (fun C s0 H0 fp=>(aR (i:=0) El.nd rfl (Or.inl rfl))) (fun C s0 H0 fp=>cB) (fun C s0 H0 fp=>(aC GN VW (by rfl) mN kN bN .nil aU (ae (pv 1) (ae (pv 2) (ae (pv 0) aj))))))))
   (az (au (aE (Dw (y0 :="r") (N':=["r","needing"]) (fr:=[none,some 2]) En rfl (cy rfl T.range (ae (aG aS (by rfl) T.len cZ (ae (pv 0) aj)) aj)) (fun C s0 H0 fp=>(aR (i:=0) En.nd rfl (Or.inr rfl))) (fun C s0 H0 fp=>cB) (fun C s0 H0 fp=>(bf (r:=Ej K) eV (by rfl) T.tuple jd (ae (cO (wi:=P1 K (tC (V.ref p8))) (N':=["box","r","needing"]) (fr:=[none,some 0,some 1]) Eo rfl (iW (cF (v:=.ref p8) (by rfl) hp8 rfl)) (fun C s0 H0 fp=>(aR (i:=0) Eo.nd rfl (Or.inl rfl))) (fun C s0 H0 fp=>(ku (sI (jx hu (pv 1) (aJ (r:=CV K) bp (pv 2) (pv 0) (fun _ _=>rfl)))))) (fun C s0 H0 fp=>(pv 0))) aj))))))))) ?_
  refine⟨_,rfl,lr,ds,rfl,hR,hP,hn,fun la as G1 s1 hA=>?_⟩;have Uu:∀(i:Nat) x,(([0,1,2,3,4,5,6,7]:List Int).map V.int)[i]? =some x->x=.int (i:Int)/\i<8:=fun i x h=>by
   match i,h with
   | 0,h=>cases h;exact⟨rfl,by decide⟩
   | 1,h=>cases h;exact⟨rfl,by decide⟩
   | 2,h=>cases h;exact⟨rfl,by decide⟩
   | 3,h=>cases h;exact⟨rfl,by decide⟩
   | 4,h=>cases h;exact⟨rfl,by decide⟩
   | 5,h=>cases h;exact⟨rfl,by decide⟩
   | 6,h=>cases h;exact⟨rfl,by decide⟩
   | 7,h=>cases h;exact⟨rfl,by decide⟩
  have QZ:=hR.same s1;refine⟨p8,rfl,⟨_,L6 _⟩,fun D nD=>fe (K:=K) (a:=p8) (xs:=([0,1,2,3,4,5,6,7]:List Int).map V.int) (fun i σ ys G=>∃(v:Option V) (es:List Addr),σ=[v,some (.ref lr),some (.ref la)]/\ys=es.map V.ref/\es.length=i/\(∀(j:Nat) a,es[j]? =some a->∃ks,G a=some (.dK (Wa ks))/\∀r,r∈ks↔eJ ds (j:Int) r)/\Same G1 G/\G D=some (.lst ys)) ?_ ?_ ?_ ?_⟩
  ·exact⟨none,[],rfl,rfl,rfl,fun j a h=>by simp at h,ai nD,ah⟩
  ·rintro i σ ys G _ ⟨v,es,rfl,rfl,_,_,s2,_⟩;exact L6 _
  ·rintro i x σ ys G hx ⟨v,es,rfl,rfl,hl,hes,s2,hD⟩;obtain⟨rfl,hi⟩:=Uu i x hx;refine⟨_,rfl,_,rfl,_,rfl,lr,la,as,(i:Int),ds,rfl,QZ.same s2,hA.same s2,hn,fun pd ks G2 s3 np hp hks=>⟨s3 _ _ hD,aK (by rw[length_map];omega),_,es++ [pd],rfl,by simp,by simp[hl],fun j a h=>?_,aF (s2.trans s3) nD,ah⟩⟩;by_cases hj:j<es.length
   ·rw[av hj]at h;obtain⟨ks',y1,y2⟩:=hes j a h;exact⟨ks',by rw[aw (fun z=>by rw[z,hD]at y1;cases y1)];exact s3 _ _ y1,y2⟩
   ·have h3:=(ag.mp h).1;rw[length_append,length_singleton]at h3;have ej:j=es.length:=by omega
    subst ej;rw[show(es++ [pd])[es.length]? =some pd by simp]at h;cases h;rw[hl];exact⟨ks,by rw[aw (fun z=>by rw[z,hD]at np;cases np)];exact hp,hks⟩
  ·rintro σ ys G ⟨v,es,rfl,rfl,hl,hes,s2,hD⟩;have hl8:es.length=8:=hl;obtain⟨qs,r1,r2,r3⟩:=QZ.same s2;have s12:=s1.trans s2;refine⟨_,rfl,lr,_,rfl,.inl (aT.of r1),_,rfl,by rw[length_map];omega,by rw[length_map];omega,fun D2 zX=>?_⟩;refine d8 (n:=(((qs.map V.ref).length:Nat):Int).toNat) (fun i σ ys G2=>∃(v:Option V) (ts:List Addr),σ=[v,some (.ref D)]/\ys=ts.map V.ref/\ts.length=i/\(∀(j:Nat) t,ts[j]? =some t->G2 t=some (.tup ((eK ds j).map V.int)))/\Same G G2/\G2 D2=some (.lst ys)) ?_ ?_ ?_
   ·exact⟨none,[],rfl,rfl,rfl,fun j a h=>by simp at h,ai zX,ah⟩
   ·rintro i σ ys G2 hi ⟨v,ts,rfl,rfl,hlt,hts,s3,hD2⟩;have hin:i<ds.length:=by rw[nn,length_map,r2]at hi;exact hi
    have e0:(0:Int)+(i:Int)=(i:Int):=by omega
    rw[e0];refine⟨p8,rfl,⟨_,L6 _⟩,fun D3 nD3=>fe (K:=K) (a:=p8) (xs:=([0,1,2,3,4,5,6,7]:List Int).map V.int) (fun j σ zs G3=>∃v:Option V,σ=[v,some (.int (i:Int)),some (.ref D)]/\zs=((([0,1,2,3,4,5,6,7]:List Int).take j).filter fun b=>!pY ds b i).map V.int/\Same G2 G3/\G3 D3=some (.lst zs)) ?_ ?_ ?_ ?_⟩
    ·exact⟨none,rfl,rfl,ai nD3,ah⟩
    ·rintro j σ zs G3 _ ⟨v,rfl,rfl,_,_⟩;exact L6 _
    ·rintro j x σ zs G3 hx ⟨v,rfl,rfl,s4,wL⟩;obtain⟨rfl,hj⟩:=Uu j x hx;have J1:es[j]? =some (es[j]'(by omega)):=aa _;generalize es[j]'(by omega)=ej at J1;obtain⟨ks,y1,y2⟩:=hes j ej J1;have y3:=s4 _ _ (s3 _ _ y1);have h8:([0,1,2,3,4,5,6,7]:List Int)[j]? =some (j:Int):=by rw[ac]at hx;obtain⟨y,hy,e⟩:=map_eq_some_iff.mp hx;rw[hy];exact congrArg some (V.int.inj e)
     have tk:([0,1,2,3,4,5,6,7]:List Int).take (j+1)=([0,1,2,3,4,5,6,7]:List Int).take j++ [(j:Int)]:=by rw[take_add_one,h8];rfl
     refine⟨_,rfl,_,rfl,_,rfl,D,_,_,.ref ej,rfl,rfl,aT.of (s4 _ _ (s3 _ _ hD)),cG (j:=j) (by rw[ac,J1];rfl),ej,_,rfl,eO.k (k:=Sum.inl (i:Int)) y3,_,rfl,?_⟩;have hb:(!(cM (Wa ks) (Sum.inl (i:Int))).isSome)=!pY ds (j:Int) i:=by
      refine congrArg _ ?_;unfold Wa;rw[yn,Bool.eq_iff_iff,sk,<-y2 i];by_cases z:i∈ks
      ·rw[if_pos z];exact⟨fun _=>z,fun _=>rfl⟩
      ·rw[if_neg z];exact⟨fun y=>(by cases y),fun y=>absurd y z⟩
     rw[hb];refine dF (fun e=>?_) (fun e=>?_)
     ·refine⟨_,rfl,wL,aK ?_,_,rfl,?_,aF s4 nD3,ah⟩
      ·rw[length_map];exact le_trans (length_filter_le _ _) (by rw[length_take];simp;omega)
      ·rw[tk,filter_append,map_append,List.filter_cons_of_pos (p:=fun b=>!pY ds b i) e];rfl
     ·refine⟨_,rfl,?_,s4,wL⟩;rw[tk,filter_append,List.filter_cons_of_neg (p:=fun b=>!pY ds b i) e];simp
    ·rintro σ zs G3 ⟨v,rfl,rfl,s4,wL⟩;have wL:G3 D3=some (.lst ((eK ds i).map V.int)):=wL;have Q0:=s4 _ _ hD2;refine⟨D3,_,rfl,.inl ⟨aT.of wL,fun t nt=>⟨ai nt _ _ Q0,aK (by rw[length_map];omega),_,ts++ [t],rfl,by simp,by simp[hlt],fun j a h=>?_,aF (s3.trans (s4.trans (ai nt))) zX,ah⟩⟩⟩;by_cases hj:j<ts.length
     ·rw[av hj]at h;have y1:=hts j a h;rw[aw (fun z=>by rw[z,hD2]at y1;cases y1)];exact ai nt _ _ (s4 _ _ y1)
     ·have h3:=(ag.mp h).1;rw[length_append,length_singleton]at h3;have ej:j=ts.length:=by omega
      subst ej;rw[show(ts++ [t])[ts.length]? =some t by simp]at h;cases h;rw[aw (fun z=>by rw[z,Q0]at nt;cases nt),hlt];exact ah
   ·rintro σ ys G2 ⟨v,ts,rfl,rfl,hlt,hts,s3,hD2⟩;rw[nn,length_map,r2]at hlt;refine k D2 G2 (s12.trans s3) (s12.free zX) ⟨_,hD2,by rw[length_map,vM];exact hlt,fun i c ms h1 h2=>?_⟩;rw[ac]at h1;obtain⟨t,ht,rfl⟩:=map_eq_some_iff.mp h1;have hi:=(ag.mp ht).1;rw[tQ (by omega)]at h2;cases h2;obtain⟨f1,f2,f3,f4⟩:=Bs ds i;exact⟨t,rfl,hts i t ht,f1,f2,f3,by omega⟩
def isStar:Expr->Bool
 | .Starred _ _=>true
 | _=>false
theorem HZ{e:Expr}{es:List Expr}{env:Env}(h:isStar e=false):starEach (e::es) env=(false,eval e env)::starEach es env:=starEach.eq_3 _ _ _ (fun e1 p h1=>by rw[h1]at h;cases h)
inductive J2(X:Cx):List Expr->List TE->Prop where
 | nil:J2 X [] []
 | cons {e:Expr} {te:TE} {es:List Expr} {ts:List TE} (h:PE X e te) (r:J2 X es ts) (hs:isStar e=false:=by rfl):J2 X (e::es) (te::ts)
def yp:List TE->TA
 | []=>CO
 | te::ts=>CP te (yp ts)
theorem J2.pa{X:Cx}{es:List Expr}{ts:List TE}(h:J2 X es ts):PA X es (yp ts):=by
 induction h with
 | nil=>exact aj
 | cons h r hs ih=>exact ae h ih (HZ hs)
theorem Ia{X:Cx}{es:List Expr}{ts:List TE}{pos:Pos}(h:J2 X es ts):PE X (.List es pos) (Gv (yp ts)):=dD h.pa
theorem oO{X:Cx}{es:List Expr}{ts:List TE}{pos:Pos}{x1}(h:J2 X es ts):PE X (.Tuple es x1 pos) (K9 (yp ts)):=aZ h.pa
@[irreducible] def zY(X:Cx)(e:Expr)(t:TE):Prop:=PE X e t
@[irreducible] def O8(X:Cx)(e:Stmt)(t:TS):Prop:=PS X e t
theorem oP{X:Cx}{es:List Expr}{ts:List TE}{pos:Pos}(h:J2 X es ts):zY X (.List es pos) (Gv (yp ts)):=by unfold zY;exact dD h.pa
theorem oQ{X:Cx}{pos:Pos}{i:Nat}{x:Str}{e:Expr}{te:TE}{pos':Pos}(hN:X.N.Nodup)(hi:X.N[i]? =some x)(hx:Loc X.env.scope x)(he:zY X e te)(hs:swapsWith e (some (.Name x pos')) pos.line X.env=pure false:=by rfl)(hf:X.fn x=true\/X.env.scope.names.lookup x=some .local:=by first | exact .inl rfl | exact .inr rfl | assumption):
  O8 X (.Assign [.Name x pos'] e pos) (Ar te (dC i)):=by
 unfold zY at he;unfold O8;exact aP hN hi hx he hs hf
theorem jh{X:Cx}{st:Stmt}{t:TS}(h:O8 X st t):LA X st t:=by unfold O8 at h;exact au h
theorem tR:bootBuiltins "dict"=some (.type "dict"):=by decide+kernel
theorem yr:bootBuiltins "abs"=some (.builtin "abs"):=by decide+kernel
theorem fj:∀(ns:List Str) (vs:List V) (i:Nat) (x:Str),ns.Nodup->ns[i]? =some x->(ns.zip vs).lookup x=vs[i]?
 | [],_,i,x,_,h=>by simp at h
 | n::ns,[],i,x,_,h=>by simp
 | n::ns,v::vs,0,x,_,h=>by
  have e:n=x:=by simpa using h
  subst e;rw[zip_cons_cons,List.lookup_cons_self];rfl
 | n::ns,v::vs,i+1,x,hn,h=>by have hn':=nodup_cons.mp hn;have hm:x∈ns:=al (by simpa using h);have ne:¬x=n:=fun e=>hn'.1 (e▸hm);rw[zip_cons_cons,List.lookup_cons,show(x==n)=false from beq_eq_false_iff_ne.mpr ne];exact fj ns vs i x hn'.2 (by simpa using h)
theorem tS:∀(ns:List Str) (vs:List V) (x:Str),¬x∈ns->(ns.zip vs).lookup x=none
 | [],_,_,_=>by simp
 | _::_,[],_,_=>by simp
 | n::ns,v::vs,x,h=>by have ne:¬x=n:=fun e=>h (by simp[e]);rw[zip_cons_cons,List.lookup_cons,show(x==n)=false from beq_eq_false_iff_ne.mpr ne];exact tS ns vs x fun z=>h (by simp[z])
theorem oR(y:V):∀(ns:List Str) (vs:List V) (i:Nat) (x:Str),ns.Nodup->ns[i]? =some x->i<vs.length->gK x y (ns.zip vs)=ns.zip (vs.set i y)
 | [],_,i,x,_,h,_=>by simp at h
 | n::ns,[],i,x,_,h,l=>by simp at l
 | n::ns,v::vs,0,x,_,h,_=>by
  have e:n=x:=by simpa using h
  subst e;show(if n=n then _ else _)=_;rw[if_pos rfl];rfl
 | n::ns,v::vs,i+1,x,hn,h,l=>by have hn':=nodup_cons.mp hn;have hm:x∈ns:=al (by simpa using h);have ne:¬n=x:=fun e=>hn'.1 (e▸hm);show(if n=x then _ else (n,v)::gK x y (ns.zip vs))=_;rw[if_neg ne,oR y ns vs i x hn'.2 (by simpa using h) (by simpa using l)];rfl
def eU(H H':Hp):Prop:=∀b xs,H b=some (.tup xs)->H' b=some (.tup xs)
theorem eU.of{H H':Hp}(e:Same H H'):eU H H':=fun b xs h=>e b _ h
theorem eU.upd{H:Hp}{p:Addr}{o o':HO}(h:H p=some o)(n:∀xs,o≠.tup xs):eU H (upd H p o'):=fun b xs e=>by rw[aw (jJ e h (fun z=>n xs z.symm))];exact e
def Keeps(R:Addr->Prop)(H H':Hp):Prop:=∀c o,H c=some o->(¬R c\/∃xs,o=.tup xs)->H' c=some o
theorem Keeps.refl{R:Addr->Prop}{H:Hp}:Keeps R H H:=fun _ _ e _=>e
theorem Keeps.trans{R:Addr->Prop}{H H1 H2:Hp}(a:Keeps R H H1)(b:Keeps R H1 H2):Keeps R H H2:=fun c o e n=>b c o (a c o e n) n
theorem Keeps.same{R:Addr->Prop}{H H':Hp}(s:Same H H'):Keeps R H H':=fun c o e _=>s c o e
theorem Keeps.more{R R':Addr->Prop}{H H':Hp}(a:Keeps R H H')(h:∀c,R c->R' c):Keeps R' H H':=fun c o e n=>a c o e (n.imp (fun z y=>z (h c y)) id)
theorem Keeps.tups{R:Addr->Prop}{H H':Hp}(a:Keeps R H H'):eU H H':=fun b xs e=>a b _ e (.inr ⟨xs,rfl⟩)
theorem Keeps.upd{R:Addr->Prop}{H H':Hp}{p:Addr}{o o':HO}(a:Keeps R H H')(h:H' p=some o)(hn:∀xs,o≠.tup xs)(hp:R p):Keeps R H (L2.upd H' p o'):=fun c u e n=>by
 have e':=a c u e n;have:c≠p:=fun z=>by
  rw[z,h]at e';have e':=Option.some.inj e';rcases n with n | ⟨xs,rfl⟩
  ·exact n (z▸hp)
  ·exact hn xs e'
 rw[aw this];exact e'
def Uv:List (Str×List Str):=[("stop",[]),("back",[]),("halt",["number"]),("set",["box","value"]),("more",["box","value"]),("copy",["box","box"]),("add",["box","box"]),("less",["box","box"]),("load",["box","box"]),("keep",["box","box"]),("tell",["box"]),("see",["box","number"]),("put",["box","aside"]),("take",["box","aside"]),("jump",["target","far"]),("zero",["box","target","far"]),("below",["box","target","far"]),("call",["target","far"]),("mark",["target","far"]),("table",["box","targets"])]
def aX(u:Str):List Str:=(Uv.lookup u).getD []
def dU:List Str:=["jump","zero","below","call","mark"]
inductive GF(n:Int):FR->Prop
 | val {u:Str} {b c:Int} (h:u∈zL4) (hb:0<=b/\b<=7):GF n ⟨u,[b,c],[]⟩
 | two {u:Str} {b c:Int} (h:u∈w2) (hb:0<=b/\b<=7) (hc:0<=c/\c<=7):GF n ⟨u,[b,c],[]⟩
 | uU {u:Str} {b c:Int} (h:u∈zL1) (hb:0<=b/\b<=7) (hc:0<=c):GF n ⟨u,[b,c],[]⟩
 | tell {b:Int} (hb:0<=b/\b<=7):GF n ⟨"tell",[b],[]⟩
 | halt {c:Int}:GF n ⟨"halt",[c],[]⟩
 | non {u:Str} (h:u∈zL3):GF n ⟨u,[],[]⟩
 | jmp {u:Str} {t c:Int} (h:u∈zL2) (ht:0<=t/\t<n):GF n ⟨u,[t,c],[t]⟩
 | Cu {u:Str} {b t c:Int} (h:u∈zL0) (hb:0<=b/\b<=7) (ht:0<=t/\t<n):GF n ⟨u,[b,t,c],[t]⟩
 | tab {b:Int} {ts:List Int} (hb:0<=b/\b<=7) (hl:1<=ts.length/\ts.length<=16) (ht:∀t∈ts,0<=t/\t<n):GF n ⟨"table",[b],ts⟩
theorem GF.ok{n:Int}{d:FR}(h:GF n d):d.Ok:=by
 cases h with
 | @val u b c h hb=>
  obtain⟨h1,h2,h3,h4,h5⟩:=(by decide+kernel:∀u∈zL4,u∈eu/\¬u ="table"/\¬u∈oM/\¬u∈zb/\¬u∈w2) u h;exact⟨h1,fun z=>absurd z h2,fun z=>absurd z h3,fun z=>absurd z h4,fun _ _ _=>rfl,fun z=>absurd z h5,fun _=>⟨b,_,rfl⟩⟩
 | @two u b c h hb hc=>
  obtain⟨h1,h2,h3,h4,h5⟩:=(by decide+kernel:∀u∈w2,u∈eu/\¬u ="table"/\¬u∈oM/\¬u∈zb/\¬u∈w1) u h;exact⟨h1,fun z=>absurd z h2,fun z=>absurd z h3,fun z=>absurd z h4,fun _ _ _=>rfl,fun _=>⟨b,c,rfl⟩,fun z=>absurd z h5⟩
 | @uU u b c h hb hc=>
  obtain⟨h1,h2,h3,h4,h5⟩:=(by decide+kernel:∀u∈zL1,u∈eu/\¬u ="table"/\¬u∈oM/\¬u∈zb/\¬u∈w2) u h;exact⟨h1,fun z=>absurd z h2,fun z=>absurd z h3,fun z=>absurd z h4,fun _ _ _=>rfl,fun z=>absurd z h5,fun _=>⟨b,_,rfl⟩⟩
 | @tell b hb=>
  obtain⟨h1,h2,h3,h4,h5⟩:=(by decide+kernel:("tell": Str)∈eu/\¬("tell": Str)="table"/\¬("tell": Str)∈oM/\¬("tell": Str)∈zb/\¬("tell": Str)∈w2);exact⟨h1,fun z=>absurd z h2,fun z=>absurd z h3,fun z=>absurd z h4,fun _ _ _=>rfl,fun z=>absurd z h5,fun _=>⟨b,_,rfl⟩⟩
 | @halt c=>
  obtain⟨h1,h2,h3,h4,h5,h6⟩:=(by decide+kernel:("halt": Str)∈eu/\¬("halt": Str)="table"/\¬("halt": Str)∈oM/\¬("halt": Str)∈zb/\¬("halt": Str)∈w2/\¬("halt": Str)∈w1);exact⟨h1,fun z=>absurd z h2,fun z=>absurd z h3,fun z=>absurd z h4,fun _ _ _=>rfl,fun z=>absurd z h5,fun z=>absurd z h6⟩
 | @non u h=>
  obtain⟨h1,h2,h3,h4,h5,h6⟩:=(by decide+kernel:∀u∈zL3,u∈eu/\¬u ="table"/\¬u∈oM/\¬u∈zb/\¬u∈w2/\¬u∈w1) u h;exact⟨h1,fun z=>absurd z h2,fun z=>absurd z h3,fun z=>absurd z h4,fun _ _ _=>rfl,fun z=>absurd z h5,fun z=>absurd z h6⟩
 | @jmp u t c h ht=>
  obtain⟨h1,h2,h3,h4,h5,h6⟩:=(by decide+kernel:∀u∈zL2,u∈eu/\¬u ="table"/\u∈oM/\¬u∈zb/\¬u∈w2/\¬u∈w1) u h;exact⟨h1,fun z=>absurd z h2,fun _=>⟨t,c,rfl,rfl⟩,fun z=>absurd z h4,fun _ z=>absurd h3 z,fun z=>absurd z h5,fun z=>absurd z h6⟩
 | @Cu u b t c h hb ht=>
  obtain⟨h1,h2,h3,h4,h5⟩:=(by decide+kernel:∀u∈zL0,u∈eu/\¬u ="table"/\¬u∈oM/\u∈zb/\¬u∈w2) u h;exact⟨h1,fun z=>absurd z h2,fun z=>absurd z h3,fun _=>⟨b,t,c,rfl,rfl⟩,fun _ _ z=>absurd h4 z,fun z=>absurd z h5,fun _=>⟨b,_,rfl⟩⟩
 | @tab b ts hb hl ht=>
  obtain⟨h1,h3,h4,h5⟩:=(by decide+kernel:("table": Str)∈eu/\¬("table": Str)∈oM/\¬("table": Str)∈zb/\¬("table": Str)∈w2);exact⟨h1,fun _=>⟨b,rfl⟩,fun z=>absurd z h3,fun z=>absurd z h4,fun z=>absurd rfl z,fun z=>absurd z h5,fun _=>⟨b,_,rfl⟩⟩
theorem GF.ts{n:Int}{d:FR}(h:GF n d):d.ts.length<=16/\∀t∈d.ts,0<=t/\t<n:=by
 cases h with
 | jmp h ht=>exact⟨zle,fun t z=>by rw[mem_singleton.mp z];exact ht⟩
 | Cu h hb ht=>exact⟨zle,fun t z=>by rw[mem_singleton.mp z];exact ht⟩
 | tab hb hl ht=>exact⟨hl.2,ht⟩
 | _=>exact⟨zero_le _,fun t z=>nomatch z⟩
theorem GF.mono{n m:Int}{d:FR}(h:GF n d)(l:n<=m):GF m d:=by
 cases h with
 | val h hb=>exact .val h hb
 | two h hb hc=>exact .two h hb hc
 | uU h hb hc=>exact .uU h hb hc
 | tell hb=>exact .tell hb
 | halt=>exact .halt
 | non h=>exact .non h
 | jmp h ht=>exact .jmp h ⟨ht.1,by omega⟩
 | Cu h hb ht=>exact .Cu h hb ⟨ht.1,by omega⟩
 | tab hb hl ht=>exact .tab hb hl fun t z=>⟨(ht t z).1,by have:=(ht t z).2;omega⟩
theorem HM.tups{H H':Hp}{q:Addr}{d:FR}(h:HM H q d)(s:eU H H'):HM H' q d:=by
 rcases h with ⟨a,b,p,e,h1,h2⟩ | ⟨a,h1⟩
 ·exact .inl ⟨a,b,p,e,s _ _ h1,s _ _ h2⟩
 ·exact .inr ⟨a,s _ _ h1⟩
theorem dj.tups{H H':Hp}{q:Addr}{d:FR}(h:dj H q d)(s:eU H H'):dj H' q d:=⟨h.1,h.2.tups s⟩
def bJ(H:Hp)(xs:List V)(ds:List FR):Prop:=∃qs:List Addr,xs=qs.map V.ref/\qs.length=ds.length/\∀(i:Nat) q d,qs[i]? =some q->ds[i]? =some d->dj H q d
theorem bJ.tups{H H':Hp}{xs:List V}{ds:List FR}(h:bJ H xs ds)(s:eU H H'):bJ H' xs ds:=h.imp fun qs z=>⟨z.1,z.2.1,fun i q d a b=>(z.2.2 i q d a b).tups s⟩
theorem bJ.rows{H:Hp}{lr:Addr}{xs:List V}{ds:List FR}(h:bJ H xs ds)(e:H lr=some (.lst xs)):cw H lr ds:=by obtain⟨qs,rfl,a,b⟩:=h;exact⟨qs,e,a,b⟩
theorem cw.l{H:Hp}{lr:Addr}{ds:List FR}(h:cw H lr ds):∃xs,H lr=some (.lst xs)/\bJ H xs ds:=h.elim fun qs z=>⟨_,z.1,qs,rfl,z.2⟩
theorem Txt.Uv{pr:Params}(T:Txt K pr mg):∃p,mg "PARTS"=some (.ref p)/\∀u∈eu,∃q,eS K pr p u (some (.ref q))/\∀H,bh K H q ((aX u).map V.str):=by obtain⟨p,hp,_,h0,h1,h2,h3,h4,h5,h6,h7,h8,h9,h10,h11,h12,h13,h14,h15,Bt,h17,h18,h19⟩:=T.HF;refine⟨p,hp,fun u hu=>?_⟩;rcases(by decide+kernel:∀u:Str,u∈eu->(u=("stop": Str)/\aX u=([]:List Str))\/(u=("back": Str)/\aX u=([]:List Str))\/(u=("halt": Str)/\aX u=(["number"]:List Str))\/(u=("set": Str)/\aX u=(["box","value"]:List Str))\/(u=("more": Str)/\aX u=(["box","value"]:List Str))\/(u=("copy": Str)/\aX u=zL6)\/(u=("add": Str)/\aX u=zL6)\/(u=("less": Str)/\aX u=zL6)\/(u=("load": Str)/\aX u=zL6)\/(u=("keep": Str)/\aX u=zL6)\/(u=("tell": Str)/\aX u=(["box"]:List Str))\/(u=("see": Str)/\aX u=(["box","number"]:List Str))\/(u=("put": Str)/\aX u=zL7)\/(u=("take": Str)/\aX u=zL7)\/(u=("jump": Str)/\aX u=zL9)\/(u=("zero": Str)/\aX u=zL11)\/(u=("below": Str)/\aX u=zL11)\/(u=("call": Str)/\aX u=zL9)\/(u=("mark": Str)/\aX u=zL9)\/(u=("table": Str)/\aX u=(["box","targets"]:List Str))) u hu with ⟨rfl,e⟩ | ⟨rfl,e⟩ | ⟨rfl,e⟩ | ⟨rfl,e⟩ | ⟨rfl,e⟩ | ⟨rfl,e⟩ | ⟨rfl,e⟩ | ⟨rfl,e⟩ | ⟨rfl,e⟩ | ⟨rfl,e⟩ | ⟨rfl,e⟩ | ⟨rfl,e⟩ | ⟨rfl,e⟩ | ⟨rfl,e⟩ | ⟨rfl,e⟩ | ⟨rfl,e⟩ | ⟨rfl,e⟩ | ⟨rfl,e⟩ | ⟨rfl,e⟩ | ⟨rfl,e⟩<;>rw[e]<;>assumption
theorem p5{xs:List V}{v:V}(h:xs.getLast? =some v):mQ xs (-1)=some v:=by
 unfold mQ AF;have hl:xs.length≠0:=fun z=>by rw[List.length_eq_zero_iff.mp z]at h;cases h
 rw[if_neg (by decide),if_pos (by omega)];show xs[((-1:Int)+(xs.length:Int)).toNat]? =_;rw[show((-1:Int)+(xs.length:Int)).toNat=xs.length-1 by omega,<-List.getLast?_eq_getElem?];exact h
def ji(d:FR):Int:=if d.u∈dU then d.is.getLast?.getD 0 else 0
theorem dj.nt{H:Hp}{q:Addr}{d:FR}(h:dj H q d)(n:¬d.u ="table"):H q=some (.tup (.str d.u::d.is.map V.int)):=by
 rcases h.2 with ⟨a,_⟩ | ⟨_,a⟩
 ·exact absurd a n
 ·exact a
theorem dj.tb{H:Hp}{q:Addr}{d:FR}(h:dj H q d)(n:d.u ="table"):∃b p,d.is=[b]/\H q=some (.tup [.str d.u,.int b,.ref p])/\H p=some (.tup (d.ts.map V.int)):=by
 rcases h.2 with ⟨_,a⟩ | ⟨a,_⟩
 ·exact a
 ·exact absurd n a
theorem GF.far{n:Int}{d:FR}(h:GF n d)(hu:d.u∈dU):¬d.u ="table"/\∃c r,d.is=r++ [c]/\ji d=c:=by
 have ht:¬d.u ="table":=fun z=>by rw[z]at hu;exact absurd hu (by decide+kernel)
 refine⟨ht,?_⟩;unfold ji;rw[if_pos hu];cases h with
 | @jmp u t c h ht=>exact⟨c,[t],rfl,rfl⟩
 | @Cu u b t c h hb ht=>exact⟨c,[b,t],rfl,rfl⟩
 | @val u b c h hb=>exact⟨c,[b],rfl,rfl⟩
 | @two u b c h hb hc=>exact⟨c,[b],rfl,rfl⟩
 | @uU u b c h hb hc=>exact⟨c,[b],rfl,rfl⟩
 | @tell b hb=>exact⟨b,[],rfl,rfl⟩
 | @halt c=>exact⟨c,[],rfl,rfl⟩
 | @tab b ts hb hl ht=>exact⟨b,[],rfl,rfl⟩
 | @non u h=>exact absurd hu ((by decide+kernel:∀u∈zL3,¬u∈dU) u h)
def pV(ng ks:List Str)(items:List V):List V:=((ks.zip items).filter fun x=>decide (x.1∈ng)).map (·.2)
def pI(ng ks:List Str)(is:List Int):List Int:=((ks.zip is).filter fun x=>decide (x.1∈ng)).map (·.2)
def c5(d:FR)(ng:List Str):List Int:=pI ng (aX d.u) d.is
theorem Ep(ng:List Str):∀(ks:List Str) (is:List Int),pV ng ks (is.map V.int)=(pI ng ks is).map V.int
 | [],_=>rfl
 | _::_,[]=>rfl
 | k::ks,i::is=>by
  have ih:=Ep ng ks is;unfold pV pI at ih ⊢;rw[map_cons,zip_cons_cons,zip_cons_cons,filter_cons,filter_cons];by_cases c:k∈ng
  ·simp only[c,decide_true,if_true,map_cons];rw[ih]
  ·simp only[c,decide_false,Bool.false_eq_true,if_false];exact ih
theorem Ib{ng:List Str}{ks:List Str}{items:List V}{i:Nat}{k:Str}{x:V}(h1:ks[i]? =some k)(h2:items[i]? =some x):pV ng (ks.take (i+1)) (items.take (i+1))=pV ng (ks.take i) (items.take i)++(if k∈ng then [x]else []):=by
 have l1:=(ag.mp h1).1;have l2:=(ag.mp h2).1;unfold pV;rw[take_add_one,take_add_one,h1,h2,toList_some,toList_some,List.zip_append (by rw[length_take,length_take];omega),filter_append,map_append];congr 1;show((List.filter _ [(k,x)]).map _)=_;rw[filter_cons];by_cases c:k∈ng
 ·simp[c]
 ·simp[c]
theorem Mg(ng ks:List Str)(items:List V):(pV ng ks items).length<=ks.length:=by unfold pV;rw[length_map];exact le_trans (length_filter_le _ _) (by rw[length_zip];exact Nat.min_le_left _ _)
theorem J3(a:V)(l:List V):nr (a::l) (some 1) none=l:=by unfold nr;simp[HT.eB]
theorem GF.len{n:Int}{d:FR}(h:GF n d)(ht:¬d.u ="table"):d.is.length=(aX d.u).length:=by
 cases h with
 | @val u b c h hb=>exact(by decide+kernel:∀u∈zL4,2=(aX u).length) u h
 | @two u b c h hb hc=>exact(by decide+kernel:∀u∈w2,2=(aX u).length) u h
 | @uU u b c h hb hc=>exact(by decide+kernel:∀u∈zL1,2=(aX u).length) u h
 | @tell b hb=>exact(by decide+kernel:1=(aX "tell").length)
 | @halt c=>exact(by decide+kernel:1=(aX "halt").length)
 | @non u h=>exact(by decide+kernel:∀u∈zL3,0=(aX u).length) u h
 | @jmp u t c h ht=>exact(by decide+kernel:∀u∈zL2,2=(aX u).length) u h
 | @Cu u b t c h hb ht=>exact(by decide+kernel:∀u∈zL0,3=(aX u).length) u h
 | @tab b ts hb hl ht'=>exact absurd rfl ht
theorem Bu{H:Hp}{q:Addr}{d:FR}{n:Int}(h:dj H q d)(g:GF n d):∃items,H q=some (.tup (.str d.u::items))/\items.length=(aX d.u).length/\(aX d.u).length<=3/\∀ng:List Str,¬("targets": Str)∈ng->pV ng (aX d.u) items=(c5 d ng).map V.int:=by
 have h3:(aX d.u).length<=3:=(by decide+kernel:∀u∈eu,(aX u).length<=3) d.u h.1.1;by_cases c:d.u ="table"
 ·obtain⟨b,p,e,h1,h2⟩:=h.tb c;refine⟨_,h1,by rw[c];exact(by decide+kernel:2=(aX "table").length),h3,fun ng hk=>?_⟩;unfold c5;rw[c,e,show aX "table"=(["box","targets"]:List Str)from by decide+kernel];unfold pV pI;by_cases cb:("box": Str)∈ng
  ·simp[cb,hk]
  ·simp[cb,hk]
 ·exact⟨_,h.nt c,by rw[length_map];exact g.len c,h3,fun ng _=>Ep ng _ _⟩
inductive Q5(vs:List V)(H:Hp)(Q:VK)(E_:XK):Prop
 | mk (u:Str) (_:vs=[.str u]) (_:u∈eu) (_:Q (.bl (decide (u∈dU))) H)
theorem Wb:aI ["word"] ["word"] (ao lS):=by walk_at "sc1"
theorem yt{f:Addr}{fd:fo}(F:cE K "has_far" "has_far" lS f fd)(T:Txt K w.params mg): aL P w K mg base bQ 1 f fd ["word"] Q5:=by
 refine F.ok Wb (by walk_at "ln") (fun Lq A outer s H vs Q E hr h=>?_)
 ·obtain⟨u,rfl,Q6,k⟩:=h;obtain⟨pp,hpp,hpk⟩:=T.Uv;obtain⟨q,hq,hS⟩:=hpk u Q6;refine cu (az (au (aE (cS bj ay (oF (cF (v:=.ref pp) (by rfl) hpp rfl) (pv 0) (fun _ _=>rfl)) rfl)))) ?_;refine⟨_,rfl,pp,u,_,rfl,rfl,hq,q,_,rfl,.inr (hS _),rfl,?_,?_⟩
  ·rw[all_map,all_eq_true];exact fun _ _=>rfl
  show Q (.bl (inV (.str "far") ((aX u).map V.str))) H;rw[dz,show decide (("far": Str)∈aX u)=decide (u∈dU)from(by decide+kernel:∀u∈eu,decide (("far": Str)∈aX u)=decide (u∈dU)) u Q6];exact k
inductive Q7(vs:List V)(H:Hp)(Q:VK)(E_:XK):Prop
 | mk (q:Addr) (d:FR) (n:Int) (_:vs=[.ref q]) (_:dj H q d) (_:GF n d) (_:Q (.int (ji d)) H)
theorem Wc:aI ["row"] ["row"] (ao pQ):=by walk_at "sc1"
theorem Bv{f fH:Addr}{fd Q8:fo}(F:cE K "far_of" "far_of" pQ f fd)(T:Txt K w.params mg)(GH:aL P w K mg base bQ 1 fH Q8 ["word"] Q5)(kH:KI K fH)(bH:Binds K Q8 ["word"] [])(mH:mg "has_far"=some (.ref fH)):aL P w K mg base bQ 2 f fd ["row"] Q7:=by
 refine F.ok Wc (by walk_at "ln") (fun Lq A outer s H vs Q E hr h=>?_)
 ·obtain⟨q,d,n,rfl,hR,hG,k⟩:=h;obtain⟨items,hq,_⟩:=hR.parts;refine cu (az (au (aE (oZ (cI (aC GH hr (by rfl) mH kH bH .nil aU (ae (aJ aQ (pv 0) aq (fun _ _=>rfl)) aj))) (aJ aQ (pv 0) (iQ ft aq) (fun _ _=>rfl)) aq)))) ?_;refine⟨_,rfl,q,_,0,_,rfl,rfl,bh.of hq,at0 _ _,d.u,rfl,hR.1.1,_,rfl,?_⟩;refine dF (fun e=>?_) (fun e=>?_)
  ·obtain⟨ht,c,r,e1,e2⟩:=hG.far (of_decide_eq_true e);have h1:=hR.nt ht;refine⟨_,rfl,_,rfl,q,_,_,.int c,rfl,rfl,bh.of h1,p5 ?_,by rw[<-e2];exact k⟩;rw[e1,map_append];show(V.str d.u::(r.map V.int++ [V.int c])).getLast? =_;rw[<-List.cons_append,List.getLast?_append];rfl
  ·have e3:ji d=0:=if_neg (fun z=>e (decide_eq_true z));rw[e3]at k;exact k
inductive Mh(vs:List V)(H:Hp)(Q:VK)(E_:XK):Prop
 | mk (q pk:Addr) (d:FR) (n:Int) (ks:List Str) (_:vs=[.ref q,.ref pk]) (_:dj H q d) (_:GF n d) (_:(∀H1,Same H H1->bh K H1 pk (ks.map V.str))) (_:¬("targets": Str)∈ks) (_:∀(l:Addr) (H1:Hp),Same H H1->H l=none->H1 l=some (.lst ((c5 d ks).map V.int))->Q (.ref l) H1)
theorem Wd:aI ["row","kinds"] ["row","kinds"] (ao iC):=by walk_at "sc1"
def Mi:Scope:={kind:=.function,names:=[(".0",.local),("kind",.local),("part",.local),("kinds",.free)],isGenerator:=false,isCoroutine:=false,more:=[]}
theorem Er:bZ (ao iC) Mi ["row","kinds"] ["kind","part","kinds"] [none,none,some 1]:=by walk_at "sc2"
theorem vN{f:Addr}{fd:fo}(F:cE K "parts_of" "parts_of" iC f fd)(T:Txt K w.params mg): aL P w K mg base bQ 1 f fd ["row","kinds"] (Mh (K:=K)):=by
 refine F.ok Wd (by walk_at "ln") (fun Lq A outer s H vs Q E hr h=>?_)
 ·obtain⟨q,pk,d,n,ks,rfl,hR,hG,hK,hnt,k⟩:=h;obtain⟨pp,hpp,hpk⟩:=T.Uv;obtain⟨qk,hqk,hS⟩:=hpk d.u hR.1.1;obtain⟨items,hq,hil,h3,hpV⟩:=Bu hR hG;refine cu (az (au (aE (cO (N':=["kind","part","kinds"]) (fr:=[none,none,some 1]) Er rfl (LJ rfl T.zip (ae (oF (cF (v:=.ref pp) (by rfl) hpp rfl) (aJ aQ (pv 0) aq (fun _ _=>rfl)) (fun _ _=>rfl)) (ae (gW xu (pv 0) (iw aq) jw) aj))) (fun C s0 H0 fp=>(iI (K:=K) (i:=0) (j:=1) rfl rfl Er.nd rfl (Or.inl rfl) rfl (Or.inl rfl))) (fun C s0 H0 fp=>(ku (aN (r:=JN K false) bj (pv 0) (pv 2) rfl))) (fun C s0 H0 fp=>(pv 1)))))) ?_;refine⟨_,rfl,q,_,0,_,rfl,rfl,bh.of hq,at0 _ _,pp,d.u,_,rfl,rfl,hqk,?_⟩;refine⟨_,rfl,1,rfl,q,_,rfl,bh.of hq,?_,fun p1 np1=>?_⟩
  ·intro z;have:HT.eB (V.str d.u::items).length 0 (some 1)=0:=z.1;simp[HT.eB]at this
  rw[J3];have s1:=ai (o:=.tup items) np1;have hp1:upd H p1 (.tup items) p1=_:=ah;generalize upd H p1 (.tup items)=G1 at s1 hp1 ⊢
  refine⟨qk,p1,rfl,⟨_,hS _⟩,⟨_,bh.of hp1⟩,fun D nD=>Du (K:=K) (a:=qk) (b:=p1) (xs:=(aX d.u).map V.str) (zs:=items) (by rw[length_map,hil])
    (fun i σ ys G=>∃(v1 v2:Option V),σ=[v1,v2,some (.ref pk)]/\ys=pV ks ((aX d.u).take i) (items.take i)/\Same G1 G/\G D=some (.lst ys)) ?_ ?_ ?_ ?_⟩
  ·exact⟨none,none,rfl,by simp[pV],ai nD,ah⟩
  ·rintro i σ ys G _ ⟨v1,v2,rfl,rfl,s2,_⟩;exact⟨hS _,bh.of (s2 _ _ hp1)⟩
  ·rintro i y z σ ys G t hy hz nt ⟨v1,v2,rfl,rfl,s2,hD⟩;rw[ac]at hy;obtain⟨kd,hkd,rfl⟩:=map_eq_some_iff.mp hy;have s3:=ai (o:=.tup [.str kd,z]) nt;have ht:upd G t (.tup [.str kd,z]) t=_:=ah;have hsn:=Ib (ng:=ks) hkd hz;have hDt:=s3 _ _ hD;generalize upd G t (.tup [.str kd,z])=G3 at s3 ht hDt ⊢;refine⟨t,_,rfl,bh.of ht,rfl,_,_,rfl,_,_,rfl,rfl,?_⟩;refine⟨_,rfl,_,rfl,pk,_,rfl,.inr (hK _ (s1.trans (s2.trans s3))),rfl,?_,?_⟩
   ·rw[all_map,all_eq_true];exact fun _ _=>rfl
   refine⟨_,rfl,?_⟩;show if inV (.str kd) (ks.map V.str)=true then _ else _;rw[dz];refine dF (fun e=>?_) (fun e=>?_)
   ·rw[if_pos (of_decide_eq_true e)]at hsn;have hl:=Mg ks ((aX d.u).take i) (items.take i);have hl2:((aX d.u).take i).length<=3:=le_trans (by rw[length_take];exact Nat.min_le_right _ _) h3;exact⟨_,rfl,hDt,aK (by omega),_,_,rfl,hsn.symm,aF (s2.trans s3) nD,ah⟩
   ·rw[if_neg (fun z=>e (decide_eq_true z)),append_nil]at hsn;rw[<-hsn]at hDt ⊢;exact⟨_,_,rfl,rfl,s2.trans s3,hDt⟩
  ·rintro σ ys G ⟨v1,v2,rfl,rfl,s2,hD⟩;rw[length_map,take_of_length_le (le_refl _),take_of_length_le (by omega),hpV ks hnt]at hD;refine k D _ (s1.trans s2) ?_ hD;cases e:H D with
   | none=>rfl
   | some o=>rw[s1 _ _ e]at nD;cases nD
def nxt(d:FR)(n:Int):List Int:=d.ts++(if d.u∈dA then []else [n+1])
theorem yu{n:Int}{d:FR}(ks:List Str)(hu:d.u∈eu):(c5 d ks).length<=3:=by unfold c5 pI;rw[length_map];refine le_trans (length_filter_le _ _) (le_trans (by rw[length_zip];exact Nat.min_le_left _ _) ((by decide+kernel:∀u∈eu,(aX u).length<=3) d.u hu))
theorem zZ{kvs:List (Key×V)}{k:Key}{v:V}{j:Key}:(cM (putK kvs k v) j).isSome=true↔(cM kvs j).isSome=true\/j=k:=by
 rw[dE];by_cases c:j=k
 ·rw[if_pos c];exact⟨fun _=>.inr c,fun _=>rfl⟩
 ·rw[if_neg c];exact⟨.inl,fun z=>z.elim id fun y=>absurd y c⟩
inductive Q9(vs:List V)(H:Hp)(Q:VK)(E_:XK):Prop
 | mk (lr:Addr) (ds:List FR) (n:Int) (_:vs=[.ref lr]) (_:cw H lr ds) (_:(∀d∈ds,GF n d)) (_:ds.length<=1000) (_:∀(pd:Addr) (kvs:List (Key×V)) (H1:Hp),Same H H1->H1 pd=some (.dK kvs)->(∀j:Int,(cM kvs (Sum.inl j)).isSome=true↔∃d∈ds,j∈c5 d ["aside"])->Q (.ref pd) H1)
theorem Ic:aI ["rows","named","row","aside"] ["rows"] (ao gi):=by walk_at "sc1"
theorem nI{f fP:Addr}{fd z9:fo}(F:cE K "asides_named" "asides_named" gi f fd)(T:Txt K w.params mg)(GP:aL P w K mg base bQ 1 fP z9 ["row","kinds"] (Mh (K:=K)))(kP:KI K fP)(bP:Binds K z9 ["row","kinds"] [])(mP:mg "parts_of"=some (.ref fP)):aL P w K mg base bQ 2 f fd ["rows"] Q9:=by
 refine F.ok Ic (by walk_at "ln") (fun Lq A outer s H vs Q E hr h=>?_)
 ·obtain⟨lr,ds,n,rfl,hR,hG,hl,k⟩:=h;have hu:=jL hr;obtain⟨qs,h0,hql,hqr⟩:=id hR
  refine cu (ak (au (aP (i:=1) Ic.nd rfl (Or.inl rfl) gY))
   (ak (au (cY PassesOwn.never rfl (cQ (pv 0)) (aR (i:=2) Ic.nd rfl (Or.inl rfl)) (aA (cY PassesOwn.never rfl (cQ (aC GP hr (by rfl) mP kP bP .nil aU (ae (pv 2) (ae (aZ (ae ay aj)) aj)))) (aR (i:=3) Ic.nd rfl (Or.inl rfl)) (aA (d0 hu (pv 1) (pv 3) dW rfl))))))
   (az (au (aE (pv 1)))))) ?_
  refine fun pd Ie=>?_;have s1:=ai (o:=.dK []) Ie;have hpd:upd H pd (.dK []) pd=_:=ah;generalize upd H pd (.dK [])=G1 at s1 hpd ⊢;refine⟨_,rfl,lr,rfl,⟨_,aT.of (s1 _ _ h0)⟩,ez (K:=K) (xs:=qs.map V.ref) (fun i σ G=>∃(v2 v3:Option V) (kvs:List (Key×V)),σ=[some (.ref lr),some (.ref pd),v2,v3]/\Same H G/\G pd=some (.dK kvs)/\kvs.length<=3*i/\∀j:Int,(cM kvs (Sum.inl j)).isSome=true↔∃d∈ds.take i,j∈c5 d ["aside"]) ?_ ?_ ?_ ?_⟩
  ·exact⟨none,none,[],rfl,s1,hpd,zero_le _,fun j=>by simp[cM]⟩
  ·rintro i σ G _ ⟨v2,v3,kvs,rfl,s2,_⟩;exact aT.of (s2 _ _ h0)
  ·rintro i x σ G hx ⟨v2,v3,kvs,rfl,s2,hd,hkl,hv⟩;rw[ac]at hx;obtain⟨q,hq,rfl⟩:=map_eq_some_iff.mp hx;have hil:i<ds.length:=by have:=(ag.mp hq).1;omega
   have hdi:ds[i]? =some ds[i]:=aa hil;have hg:=hG _ (bn hil);have htk:∀p:FR->Prop,(∃d∈ds.take (i+1),p d)↔(∃d∈ds.take i,p d)\/p ds[i]:=fun p=>by
    rw[take_add_one,hdi,toList_some];constructor
    ·rintro⟨d,hd,hp⟩;rcases mem_append.mp hd with z | z
     ·exact .inl ⟨d,z,hp⟩
     ·rw[mem_singleton.mp z]at hp;exact .inr hp
    ·rintro(⟨d,hd,hp⟩ | hp)
     ·exact⟨d,mem_append_left _ hd,hp⟩
     ·exact⟨_,mem_append_right _ mem_cons_self,hp⟩
   have hF:=(hqr i q _ hq hdi).same s2;generalize ds[i]=d at hdi hg htk hF;refine⟨_,rfl,zle,fun pt npt=>?_⟩;have s3:=ai (o:=.tup [V.str "aside"]) npt;have hpt:upd G pt (.tup [V.str "aside"]) pt=_:=ah;have J4:=s3 _ _ hd;generalize upd G pt (.tup [V.str "aside"])=G3 at s3 hpt J4 ⊢;refine⟨q,pt,d,n,["aside"],rfl,hF.same s3,hg,fun G4 s4=>bh.of (s4 _ _ hpt),by decide+kernel,fun l G4 s4 nl Ra=>?_⟩;have hpl:=yu (n:=n) ["aside"] hF.1.1;have Wf:pd≠l:=fun z=>by rw[z,nl]at J4;cases J4
   have s24:=s2.trans (s3.trans s4);refine⟨l,rfl,⟨_,aT.of Ra⟩,ez (K:=K) (xs:=(c5 d ["aside"]).map V.int) (fun c σ G=>∃(v3:Option V) (kvs':List (Key×V)),σ=[some (.ref lr),some (.ref pd),some (.ref q),v3]/\Same H G/\G l=some (.lst ((c5 d ["aside"]).map V.int))/\G pd=some (.dK kvs')/\kvs'.length<=3*i+c/\∀j:Int,(cM kvs' (Sum.inl j)).isSome=true↔(∃d∈ds.take i,j∈c5 d ["aside"])\/j∈(c5 d ["aside"]).take c) ?_ ?_ ?_ ?_⟩
   ·exact⟨_,kvs,rfl,s24,Ra,s4 _ _ J4,hkl,fun j=>by rw[hv j];simp⟩
   ·rintro c σ G _ ⟨_,_,rfl,_,z,_⟩;exact aT.of z
   ·rintro c x σ G hx ⟨v3,kvs',rfl,s5,O9,Cv,hk5,Uw⟩;rw[ac]at hx;obtain⟨a,ha,rfl⟩:=map_eq_some_iff.mp hx;have hcl:=(ag.mp ha).1;refine⟨_,rfl,_,rfl,pd,_,rfl,jV.k (k:=Sum.inl a) Cv (aK (by omega)),?_⟩;refine⟨_,_,rfl,aF s5 Ie,by rw[aw (Ne.symm Wf)];exact O9,ah,le_trans (bV _ _ _) (by omega),fun j=>?_⟩;rw[zZ,Uw j,take_add_one,ha,toList_some,mem_append,mem_singleton,or_assoc];exact or_congr Iff.rfl (or_congr Iff.rfl ⟨fun z=>Sum.inl.inj z,fun z=>by rw[z]⟩)
   ·rintro σ G ⟨v3,kvs',rfl,s5,O9,Cv,hk5,Uw⟩;rw[length_map]at hk5 Uw;refine⟨_,_,_,rfl,s5,Cv,by omega,fun j=>?_⟩;rw[Uw j,htk,take_of_length_le (le_refl _)]
  ·rintro σ G ⟨v2,v3,kvs,rfl,s2,hd,hkl,hv⟩;rw[length_map,hql,take_of_length_le (le_refl _)]at hv;exact⟨_,rfl,k pd kvs _ s2 hd hv⟩
def StandsAt(ld:List (Option Int))(r:Int)(n:Nat):Prop:=ld[n]? =some (some r)/\∀n':Nat,ld[n']? =some (some r)->n'=n
inductive Rb(vs:List V)(H:Hp)(Q:VK)(E_:XK):Prop
 | mk (ll:Addr) (ld:List (Option Int)) (_:vs=[.ref ll]) (_:H ll=some (.lst (ld.map oV))) (_:ld.length<=5000) (_:∀(pd:Addr) (kvs:List (Key×V)) (H1:Hp),Same H H1->H1 pd=some (.dK kvs)->(∀(r:Int) (n:Nat),StandsAt ld r n->cM kvs (Sum.inl r)=some (.int (n:Int)))->Q (.ref pd) H1)
theorem Mj:aI ["leads","places","n","lead"] ["leads"] (ao i9):=by walk_at "sc1"
theorem tT{f:Addr}{fd:fo}(F:cE K "places_of" "places_of" i9 f fd)(T:Txt K w.params mg): aL P w K mg base bQ 1 f fd ["leads"] Rb:=by
 refine F.ok Mj (by walk_at "ln") (fun Lq A outer s H vs Q E hr h=>?_)
 ·obtain⟨ll,ld,rfl,hl,hn,k⟩:=h;have hu:=jL hr
  refine cu (ak (au (aP (i:=1) Mj.nd rfl (Or.inl rfl) gY))
   (ak (au (cY PassesOwn.never rfl (oE rfl T.enum (ae (pv 0) aj)) (iI (K:=K) (i:=2) (j:=3) rfl rfl Mj.nd rfl (Or.inl rfl) rfl (Or.inl rfl)) (aA (dk (aN sO (pv 3) ik (aY _)) (aA (d0 hu (pv 1) (pv 3) (pv 2) rfl)) aO))))
   (az (au (aE (pv 1)))))) ?_
  refine fun pd Ie=>?_;have s1:=ai (o:=.dK []) Ie;have hpd:upd H pd (.dK []) pd=_:=ah;generalize upd H pd (.dK [])=G1 at s1 hpd ⊢;refine⟨_,rfl,ll,rfl,⟨_,aT.of (s1 _ _ hl)⟩,pK (K:=K) (xs:=ld.map oV) (fun i σ G=>∃(v2 v3:Option V) (kvs:List (Key×V)),σ=[some (.ref ll),some (.ref pd),v2,v3]/\Same H G/\G pd=some (.dK kvs)/\kvs.length<=i/\∀(r:Int) (n:Nat),StandsAt ld r n->n<i->cM kvs (Sum.inl r)=some (.int (n:Int))) ?_ ?_ ?_ ?_⟩
  ·exact⟨none,none,[],rfl,s1,hpd,le_refl _,fun r n _ hj=>absurd hj (Nat.not_lt_zero _)⟩
  ·rintro i σ G _ ⟨v2,v3,kvs,rfl,s2,_⟩;exact aT.of (s2 _ _ hl)
  ·rintro i x σ G tt hx Cm ⟨v2,v3,kvs,rfl,s2,hd,hkl,hv⟩;rw[ac]at hx;obtain⟨a,ha,rfl⟩:=map_eq_some_iff.mp hx;have hi:=(ag.mp ha).1;have s3:=s2.trans (ai (o:=.tup [V.int i,oV a]) Cm);have J4:=ai (o:=.tup [V.int i,oV a]) Cm _ _ hd;have htt:upd G tt (.tup [V.int i,oV a]) tt=_:=ah;generalize upd G tt (.tup [V.int i,oV a])=G3 at s3 J4 htt ⊢;refine⟨tt,_,rfl,bh.of htt,rfl,_,_,rfl,_,_,rfl,rfl,?_⟩;cases a with
   | none=>
    refine⟨_,rfl,rfl,_,rfl,cC (by decide) ⟨_,_,_,rfl,s3,J4,by omega,fun r n hs hj=>?_⟩⟩;refine hv r n hs ?_;have:n≠i:=fun z=>by rw[z]at hs;rw[hs.1]at ha;cases ha
    omega
   | some r0=>
    refine⟨_,rfl,rfl,_,rfl,df (by simp[oV]) ?_⟩;refine⟨_,rfl,_,rfl,_,rfl,pd,_,rfl,jV.k (k:=Sum.inl r0) J4 (aK (by omega)),?_⟩;refine⟨_,_,_,rfl,aF s3 Ie,ah,le_trans (bV _ _ _) (by omega),fun r n hs hj=>?_⟩;rw[dE];by_cases e:r=r0
    ·subst e;rw[if_pos rfl,hs.2 i ha]
    ·rw[if_neg (fun z=>e (Sum.inl.inj z))];refine hv r n hs ?_;have:n≠i:=fun z=>by rw[z]at hs;rw[hs.1]at ha;cases ha;exact e rfl
     omega
  ·rintro σ G ⟨v2,v3,kvs,rfl,s2,hd,hkl,hv⟩;rw[length_map]at hv;exact⟨_,rfl,k pd kvs _ s2 hd fun r n hs=>hv r n hs (ag.mp hs.1).1⟩
inductive Rc(vs:List V)(H:Hp)(Q:VK)(E_:XK):Prop
 | mk (lr:Addr) (ds:List FR) (n:Nat) (d:FR) (_:vs=[.ref lr,.int (n:Int)]) (_:cw H lr ds) (_:ds[n]? =some d) (_:d.ts.length<=16) (_:∀(l:Addr) (H1:Hp),Same H H1->H l=none->H1 l=some (.lst ((nxt d n).map V.int))->Q (.ref l) H1)
theorem dj.at_{H:Hp}{q:Addr}{d:FR}(h:dj H q d):rY H q d.u d.ts:=by obtain⟨items,h1,_,h2,_⟩:=h.parts;exact⟨items,h1,h2⟩
theorem Rf:aI ["new","n","following"] ["new","n"] (ao ja):=by walk_at "sc1"
theorem tU{f fT fG:Addr}{fd zT JY:fo}(F:cE K "next_rows" "next_rows" ja f fd)(T:Txt K w.params mg)(GT:aL P w K mg base bQ 1 fT zT ["row"] gb)(kT:KI K fT)(bT:Binds K zT ["row"] [])(mT:mg "targets_of"=some (.ref fT))(GG:aL P w K mg base bQ 1 fG JY ["row"] tM)(kG:KI K fG)(bG:Binds K JY ["row"] [])(mG:mg "goes_on"=some (.ref fG)):aL P w K mg base bQ 2 f fd ["new","n"] Rc:=by
 refine F.ok Rf (by walk_at "ln") (fun Lq A outer s H vs Q E hr h=>?_)
 ·obtain⟨lr,ds,n,d,rfl,hR,hd,Bt,k⟩:=h;obtain⟨qs,q,h1,h2,h3,hF⟩:=hR.get hd
  refine cu (ak (au (aP (i:=2) Rf.nd rfl (Or.inl rfl) (aC GT hr (by rfl) mT kT bT .nil aU (ae (aJ bp (pv 0) (pv 1) (fun _ _=>rfl)) aj))))
   (ak (bz (cI (aC GG hr (by rfl) mG kG bG .nil aU (ae (aJ bp (pv 0) (pv 1) (fun _ _=>rfl)) aj))) (az (au (c6 (iR ij im io da (pv 2) (ae (aM c9 (pv 1) aq) aj))))) (bg aO))
   (az (au (aE (pv 2)))))) ?_
  refine⟨_,rfl,_,rfl,lr,_,_,.ref q,rfl,rfl,aT.of h1,h2,q,d.u,d.ts,rfl,hF.at_,fun l G1 s1 nl hl=>?_⟩;obtain⟨items,hq,_⟩:=(hF.same s1).parts;have hne:lr≠l:=fun z=>by rw[z,nl]at h1;cases h1
  refine⟨_,rfl,_,rfl,lr,_,_,.ref q,rfl,rfl,aT.of (s1 _ _ h1),h2,q,d.u,items,rfl,hq,_,rfl,?_⟩;unfold nxt at k;by_cases c:d.u∈dA
  ·rw[decide_eq_true c];rw[if_pos c,append_nil]at k;exact cC (by decide) ⟨_,rfl,k l G1 s1 nl hl⟩
  ·rw[decide_eq_false c];rw[if_neg c]at k;refine df (by decide) ?_;refine⟨_,rfl,.inl ⟨rfl,_,aT.of hl⟩,_,rfl,_,_,rfl,rfl,l,_,_,rfl,rfl,hl,aK (by rw[length_map];omega),?_⟩;refine⟨_,rfl,k l _ (aF s1 nl) nl ?_⟩;rw[ah,map_append];rfl
def vO:List Str:=["set","more","copy","add","less","put","take","see","jump","zero","below","halt"]
def q5(d:FR)(a:Int->Bool):Bool:=decide (d.u∈vO)&& !(decide (d.u ="put")&&a (d.is.getD 1 0))
inductive Rg(vs:List V)(H:Hp)(Q:VK)(E_:XK):Prop
 | mk (q pd:Addr) (d:FR) (n:Int) (kvs:List (Key×V)) (_:vs=[.ref q,.ref pd]) (_:dj H q d) (_:GF n d) (_:H pd=some (.dK kvs)) (_:Q (.bl (q5 d fun j=>(cM kvs (Sum.inl j)).isSome)) H)
theorem Wg:aI ["row","named"] ["row","named"] (ao fO):=by walk_at "sc1"
theorem lX{f:Addr}{fd:fo}(F:cE K "may_be_put_in" "may_be_put_in" fO f fd)(T:Txt K w.params mg): aL P w K mg base bQ 1 f fd ["row","named"] Rg:=by
 refine F.ok Wg (by walk_at "ln") (fun Lq A outer s H vs Q E hr h=>?_)
 ·obtain⟨q,pd,d,n,kvs,rfl,hR,hG,hd,k⟩:=h;have hu:=jL hr;obtain⟨pp,hpp,hS⟩:=T.nG;obtain⟨items,hq,_⟩:=hR.parts;refine cu (az (au (aE (oY (cS bj (aJ aQ (pv 0) aq (fun _ _=>rfl)) (cF (v:=.ref pp) (by rfl) hpp rfl) rfl) (gH (wV (oY (cS eP (aJ aQ (pv 0) aq (fun _ _=>rfl)) ay (aY _)) (gH (CC (C2 hu (aJ aQ (pv 0) aq (fun _ _=>rfl)) (pv 1))))))))))) ?_;refine⟨_,rfl,q,_,0,_,rfl,rfl,bh.of hq,at0 _ _,pp,vO.map V.str,rfl,.inr (hS _),rfl,rfl,?_⟩;unfold q5 at k;rw[dz];refine⟨_,rfl,?_⟩;show if decide (d.u∈vO)=true then _ else _;refine dF (fun e=>?_) (fun e=>?_)
  ·rw[e,Bool.true_and]at k;refine⟨_,rfl,q,_,0,_,rfl,rfl,bh.of hq,at0 _ _,rfl,_,rfl,?_⟩;by_cases c:d.u ="put"
   ·refine df (by rw[c];rfl) ?_;rw[decide_eq_true c,Bool.true_and]at k;have hq2:=hR.nt (by rw[c];decide);have hi:∃b a,d.is=[b,a]:=by
     have h1:d.u∈zL1:=by rw[c];decide+kernel
     cases hG with
     | @uU u b a h hb hc=>exact⟨b,a,rfl⟩
     | @val u b a h hb=>exact⟨b,a,rfl⟩
     | @two u b a h hb hc=>exact⟨b,a,rfl⟩
     | @jmp u b a h ht=>exact⟨b,a,rfl⟩
     | @tell b hb=>exact absurd h1 (by show ¬("tell": Str)∈_;decide+kernel)
     | @halt a=>exact absurd h1 (by show ¬("halt": Str)∈_;decide+kernel)
     | @non u h=>exact absurd h1 ((by decide+kernel:∀u∈zL3,¬u∈zL1) u h)
     | @Cu u b t a h hb ht=>exact absurd h1 ((by decide+kernel:∀u∈zL0,¬u∈zL1) u h)
     | @tab b ts hb hl ht=>exact absurd h1 (by show ¬("table": Str)∈_;decide+kernel)
    obtain⟨b,a,e2⟩:=hi;rw[e2]at hq2 k;exact⟨_,rfl,q,_,2,_,rfl,rfl,bh.of hq2,at2 _ _ _ _,_,rfl,pd,_,rfl,eO.k (k:=Sum.inl a) hd,_,rfl,k⟩
   ·rw[decide_eq_false c]at k;exact cC (fun z=>c (V.str.inj (of_decide_eq_true z))) ⟨_,rfl,k⟩
  ·rw[Bool.eq_false_iff.mpr e]at k;exact k
def sm:List Str:=["box","aside","number","value"]
def j8(d e:FR):Bool:=decide (d.u=e.u)&&decide (d.ts.length=e.ts.length)&&decide (c5 d sm=c5 e sm)
theorem p7{xs ys:List Int}(i:Nat)(a b:V)(h1:(xs.map V.int)[i]? =some a)(h2:(ys.map V.int)[i]? =some b):Hb a b\/(a=.non/\b=.non):=by rw[ac]at h1 h2;obtain⟨x,_,rfl⟩:=map_eq_some_iff.mp h1;obtain⟨y,_,rfl⟩:=map_eq_some_iff.mp h2;exact .inl (by simp[Hb])
theorem p9{xs ys:List Int}:decide (xs.map V.int=ys.map V.int)=decide (xs=ys):=by
 by_cases c:xs=ys
 ·rw[c];simp
 ·rw[decide_eq_false c,decide_eq_false fun z=>c ((map_inj_right fun a b h=>V.int.inj h).mp z)]
theorem tV(n:Nat):(replicate n true).all id=true:=by simp
theorem qa(n:Nat):(replicate n true).map V.bl++ [V.bl true]=(replicate (n+1) true).map V.bl:=by rw[List.replicate_succ',map_append];rfl
inductive Rh(vs:List V)(H:Hp)(Q:VK)(E_:XK):Prop
 | mk (q p:Addr) (d e:FR) (n m:Int) (_:vs=[.ref q,.ref p]) (_:dj H q d) (_:dj H p e) (_:GF n d) (_:GF m e) (_:∀H1,Same H H1->Q (.bl (j8 d e)) H1)
theorem Wh:aI ["row","old_row"] ["row","old_row"] (ao fJ):=by walk_at "sc1"
theorem lY{f fT fP:Addr}{fd zT z9:fo}(F:cE K "can_stand_for" "can_stand_for" fJ f fd)(T:Txt K w.params mg)(GT:aL P w K mg base bQ 1 fT zT ["row"] gb)(kT:KI K fT)(bT:Binds K zT ["row"] [])(mT:mg "targets_of"=some (.ref fT))(GP:aL P w K mg base bQ 1 fP z9 ["row","kinds"] (Mh (K:=K)))(kP:KI K fP)(bP:Binds K z9 ["row","kinds"] [])(mP:mg "parts_of"=some (.ref fP)):aL P w K mg base bQ 2 f fd ["row","old_row"] Rh:=by
 refine F.ok Wh (by walk_at "ln") (fun Lq A outer s H vs Q E hr h=>?_)
 ·obtain⟨q,p,d,e,n,m,rfl,hR,Gc,hG,hG2,k⟩:=h;have hu0:=hr.xl;obtain⟨pp,hpp,hS⟩:=T.nF;obtain⟨items,hq,_⟩:=hR.parts;obtain⟨items2,hp,_⟩:=Gc.parts
  refine cu (ak (bz (my (aN rL (aJ aQ (pv 0) aq (fun _ _=>rfl)) (aJ aQ (pv 1) aq (fun _ _=>rfl)) (aY _)) (iV (aN rL (aG aS (by rfl) T.len cZ (ae (aC GT hr (by rfl) mT kT bT .nil aU (ae (pv 0) aj)) aj)) (aG aS (by rfl) T.len cZ (ae (aC GT hr (by rfl) mT kT bT .nil aU (ae (pv 1) aj)) aj)) (aY _)))).pt (az (au (aE dW))) (bg aO))
   (az (au (aE (cS (sX hu0) (aC GP hr (by rfl) mP kP bP .nil aU (ae (pv 0) (ae (cF (v:=.ref pp) (by rfl) hpp rfl) aj))) (aC GP hr (by rfl) mP kP bP .nil aU (ae (pv 1) (ae (cF (v:=.ref pp) (by rfl) hpp rfl) aj))) (aY _)))))) ?_
  refine⟨_,rfl,q,_,0,_,rfl,rfl,bh.of hq,at0 _ _,_,rfl,p,_,0,_,rfl,rfl,bh.of hp,at0 _ _,rfl,_,rfl,?_⟩;unfold j8 at k;by_cases c:d.u=e.u
  ·rw[decide_eq_true c,Bool.true_and]at k;refine cC (by rw[c];simp) ?_;refine⟨_,rfl,q,d.u,d.ts,rfl,hR.at_,fun l1 G1 s1 n1 h1=>?_⟩;refine⟨l1,_,rfl,.inl (aT.of h1),_,rfl,p,e.u,e.ts,rfl,(Gc.same s1).at_,fun l2 G2 s2 n2 h2=>?_⟩;have s12:=s1.trans s2;refine⟨l2,_,rfl,.inl (aT.of h2),rfl,_,rfl,?_⟩;by_cases c2:d.ts.length=e.ts.length
   ·rw[decide_eq_true c2,Bool.true_and]at k;refine cC (by simp[c2]) ?_;refine⟨_,rfl,q,pp,d,n,sm,rfl,hR.same s12,hG,fun H' _=>hS H',by decide+kernel,fun l3 G3 s3 n3 h3=>?_⟩;have tP:=s12.trans s3;refine⟨_,rfl,p,pp,e,m,sm,rfl,Gc.same tP,hG2,fun H' _=>hS H',by decide+kernel,fun l4 G4 s4 n4 h4=>?_⟩;refine⟨l3,l4,_,_,rfl,rfl,aT.of (s4 _ _ h3),aT.of h4,p7,?_⟩;rw[p9];exact k G4 (tP.trans s4)
   ·rw[decide_eq_false c2,Bool.false_and]at k;exact df (by rw[decide_eq_false (fun z=>c2 (by have:=V.int.inj z;rw[length_map,length_map]at this;omega))];rfl) (k G2 s12)
  ·rw[decide_eq_false c,Bool.false_and,Bool.false_and]at k;exact df (by rw[decide_eq_false (fun z=>c (V.str.inj z))];rfl) (k H (.refl _))
inductive Ri(vs:List V)(H:Hp)(Q:VK)(E_:XK):Prop
 | mk (lf lr:Addr) (fs:List Int) (ds:List FR) (n:Int) (_:vs=[.ref lf,.ref lr]) (_:H lf=some (.lst (fs.map V.int))) (_:fs.length<=5000) (_:cw H lr ds) (_:(∀d∈ds,GF n d)) (_:ds.length<=5000) (_:∀H1,Same H H1->Q (.bl (decide (fs=ds.map ji))) H1)
theorem Wi:aI ["forms","old"] ["forms","old"] (ao dI):=by walk_at "sc1"
def Ml:Scope:={kind:=.function,names:=[(".0",.local),("form",.local),("is_whole",.globalImplicit)],isGenerator:=false,isCoroutine:=false,more:=[]}
theorem Es:bZ (ao dI) Ml ["forms","old"] ["form"] [none]:=by walk_at "sc2"
def Mp:Scope:={kind:=.function,names:=[(".0",.local),("row",.local),("far_of",.globalImplicit)],isGenerator:=false,isCoroutine:=false,more:=[]}
theorem Et:bZ (ao dI) Mp ["forms","old"] ["row"] [none]:=by walk_at "sc2"
theorem tW{f fW fF:Addr}{fd kZ Aa:fo}(F:cE K "are_forms" "are_forms" dI f fd)(T:Txt K w.params mg)(GW:aL P w K mg base bQ 1 fW kZ ["thing"] (oN (K:=K)))(kW:KI K fW)(bW:Binds K kZ ["thing"] [])(mW:mg "is_whole"=some (.ref fW))(GF:aL P w K mg base bQ 2 fF Aa ["row"] Q7)(kF:KI K fF)(bF:Binds K Aa ["row"] [])(mF:mg "far_of"=some (.ref fF)):aL P w K mg base bQ 3 f fd ["forms","old"] Ri:=by
 refine F.ok Wi (by walk_at "ln") (fun Lq A outer s H vs Q E hr h=>?_)
 ·obtain⟨lf,lr,fs,ds,n,rfl,hf,hfl,hR,hG,hl,k⟩:=h;have hu0:=hr.xl;have hr1:=hr.mono (show 1<=_ by decide);obtain⟨qs,h0,hql,hqr⟩:=id hR
  refine cu (ak (bz (my (dB (cI (aG dG (by rfl) T.HE iG (ae (pv 0) (ae (iq (v:=.ty "list") (by rfl) T.list d6 rfl) aj))))) (iV (dB (cI (aG (ei rfl) (by rfl) T.all je (ae (cO (X:=(gM bQ P w K mg base ["forms","old"] "are_forms" (ao dI) f Lq A outer s H E).uY) (N':=["form"]) (fr:=[none]) Es rfl (cQ (pv 0)) (fun C s0 H0 fp=>(aR (i:=0) Es.nd rfl (Or.inl rfl))) (fun C s0 H0 fp=>cB) (fun C s0 H0 fp=>(aC GW hr1 (by rfl) mW kW bW .nil aU (ae (pv 0) aj)))) aj)))))).pt (az (au (aE dW))) (bg aO))
   (az (au (aE (cS (sX hu0) (pv 0) (cO (X:=(gM bQ P w K mg base ["forms","old"] "are_forms" (ao dI) f Lq A outer s H E).uY) (N':=["row"]) (fr:=[none]) Et rfl (cQ (pv 1)) (fun C s0 H0 fp=>(aR (i:=0) Et.nd rfl (Or.inl rfl))) (fun C s0 H0 fp=>cB) (fun C s0 H0 fp=>(aC GF hr (by rfl) mF kF bF .nil aU (ae (pv 0) aj)))) (aY _)))))) ?_
  refine⟨_,rfl,_,_,_,_,rfl,.lst hf,jf,_,rfl,cC (by decide) ?_⟩;refine⟨_,rfl,lf,rfl,⟨_,aT.of hf⟩,fun D nD=>dO (K:=K) (xs:=fs.map V.int) (fun i σ ys G=>∃v:Option V,σ=[v]/\ys=(replicate i true).map V.bl/\Same H G/\G D=some (.lst ys)) ?_ ?_ ?_ ?_⟩
  ·exact⟨none,rfl,rfl,ai nD,ah⟩
  ·rintro i σ ys G _ ⟨v,rfl,rfl,s1,_⟩;exact aT.of (s1 _ _ hf)
  ·rintro i x σ ys G hx ⟨v,rfl,rfl,s1,hD⟩;rw[ac]at hx;obtain⟨a,ha,rfl⟩:=map_eq_some_iff.mp hx;have hi:=(ag.mp ha).1;exact⟨_,rfl,_,true,rfl,.inl ⟨rfl,a,rfl⟩,hD,aK (by rw[length_map,length_replicate];omega),_,rfl,qa i,aF s1 nD,ah⟩
  ·rintro σ ys G ⟨v,rfl,rfl,s1,hD⟩;refine⟨D,_,rfl,aT.of hD,_,rfl,?_⟩;rw[tV];refine cC (by decide) ?_;refine⟨_,rfl,_,rfl,lr,rfl,⟨_,aT.of (s1 _ _ h0)⟩,fun D2 zX=>dO (K:=K) (xs:=qs.map V.ref) (fun i σ ys G'=>∃v:Option V,σ=[v]/\ys=((ds.take i).map ji).map V.int/\Same G G'/\G' D2=some (.lst ys)) ?_ ?_ ?_ ?_⟩
   ·exact⟨none,rfl,rfl,ai zX,ah⟩
   ·rintro i σ ys G' _ ⟨v,rfl,rfl,s2,_⟩;exact aT.of (s2 _ _ (s1 _ _ h0))
   ·rintro i x σ ys G' hx ⟨v,rfl,rfl,s2,hD2⟩;rw[ac]at hx;obtain⟨q,hq,rfl⟩:=map_eq_some_iff.mp hx;have hil:i<ds.length:=by have:=(ag.mp hq).1;omega
    have hdi:ds[i]? =some ds[i]:=aa hil;refine⟨_,rfl,q,ds[i],n,rfl,(hqr i q _ hq hdi).same (s1.trans s2),hG _ (bn hil),hD2,aK (by rw[length_map,length_map,length_take];omega),_,rfl,?_,aF s2 zX,ah⟩;rw[take_add_one,hdi,toList_some,map_append,map_append];rfl
   ·rintro σ ys G' ⟨v,rfl,rfl,s2,hD2⟩;rw[length_map,hql,take_of_length_le (le_refl _)]at hD2;refine⟨lf,D2,_,_,rfl,rfl,aT.of (s2 _ _ (s1 _ _ hf)),aT.of hD2,p7,?_⟩;rw[p9];exact k G' (s1.trans s2)
def j9(n:Nat):List Int:=(List.range n).map fun j:Nat=>(j:Int)
theorem Mq(n:Nat):((List.range n).map fun(j:Nat)=>V.int (j:Int))=(j9 n).map V.int:=by unfold j9;rw[map_map];rfl
theorem Ig(n:Nat):(j9 n).Pairwise (· <= ·):=by unfold j9;rw[List.pairwise_map];exact List.pairwise_lt_range.imp fun h=>by omega
def qb(ld:List (Option Int))(n0 n1:Nat):Prop:=ld.length=n1/\(ld.filterMap id).Perm (j9 n0)
inductive Rj(vs:List V)(H:Hp)(Q:VK)(E_:XK):Prop
 | mk (ll:Addr) (ld:List (Option Int)) (n0 n1:Nat) (_:vs=[.ref ll,.int (n0:Int),.int (n1:Int)]) (_:H ll=some (.lst (ld.map oV))) (_:ld.length<64) (_:n0<=1000) (_:∀(b:Bool) (H1:Hp),(b=true↔qb ld n0 n1)->Same H H1->Q (.bl b) H1)
theorem Rk:aI ["leads","how_many_old","how_many_new","numbers"] ["leads","how_many_old","how_many_new"] (ao dH):=by walk_at "sc1"
def Mr:Scope:={kind:=.function,names:=[(".0",.local),("lead",.local)],isGenerator:=false,isCoroutine:=false,more:=[]}
theorem Eu:bZ (ao dH) Mr ["leads","how_many_old","how_many_new","numbers"] ["lead"] [none]:=by walk_at "sc2"
def Ms:Scope:={kind:=.function,names:=[(".0",.local),("number",.local),("is_whole",.globalImplicit)],isGenerator:=false,isCoroutine:=false,more:=[]}
theorem Ew:bZ (ao dH) Ms ["leads","how_many_old","how_many_new","numbers"] ["number"] [none]:=by walk_at "sc2"
theorem tX{f fW:Addr}{fd kZ:fo}(F:cE K "are_leads" "are_leads" dH f fd)(T:Txt K w.params mg)(GW:aL P w K mg base bQ 1 fW kZ ["thing"] (oN (K:=K)))(kW:KI K fW)(bW:Binds K kZ ["thing"] [])(mW:mg "is_whole"=some (.ref fW)):aL P w K mg base bQ 2 f fd ["leads","how_many_old","how_many_new"] Rj:=by
 refine F.ok Rk (by walk_at "ln") (fun Lq A outer s H vs Q E hr h=>?_)
 ·obtain⟨ll,ld,n0,n1,rfl,hl,h64,hn0,k⟩:=h;have hu0:=hr.xl
  refine cu (ak (bz (my (dB (cI (aG dG (by rfl) T.HE iG (ae (pv 0) (ae (iq (v:=.ty "list") (by rfl) T.list d6 rfl) aj))))) (iV (aN rL (aG aS (by rfl) T.len cZ (ae (pv 0) aj)) (pv 2) (aY _)))).pt (az (au (aE dW))) (bg aO))
   (ak (au (jA (i:=3) (X:=(gM bQ P w K mg base ["leads","how_many_old","how_many_new","numbers"] "are_leads" (ao dH) f Lq A outer s H E).uY) (N':=["lead"]) (fr:=[none]) Rk.nd rfl rfl Eu rfl (cQ (pv 0)) (fun C s0 H0 fp=>(aR (i:=0) Eu.nd rfl (Or.inl rfl))) (fun C s0 H0 fp=>(ku (aN sO (pv 0) ik (aY _)))) (fun C s0 H0 fp=>(pv 0))))
   (az (au (aE (oY (aG (ei rfl) (by rfl) T.all je (ae (cO (X:=(gM bQ P w K mg base ["leads","how_many_old","how_many_new","numbers"] "are_leads" (ao dH) f Lq A outer s H E).uY) (N':=["number"]) (fr:=[none]) Ew rfl (cQ (pv 3)) (fun C s0 H0 fp=>(aR (i:=0) Ew.nd rfl (Or.inl rfl))) (fun C s0 H0 fp=>cB) (fun C s0 H0 fp=>(aC GW hr (by rfl) mW kW bW .nil aU (ae (pv 0) aj)))) aj)) (gH (cS (sX hu0) (aG qV (by rfl) T.sorted gZ (ae (pv 3) aj)) (bf (jN rfl) (by rfl) T.list d6 (ae (bf mY (by rfl) T.range pT (ae (pv 1) aj)) aj)) (aY _))))))))) ?_
  refine⟨_,rfl,_,_,_,_,rfl,.lst hl,jf,_,rfl,cC (by decide) ?_⟩;refine⟨_,rfl,ll,_,rfl,.inl (aT.of hl),_,rfl,rfl,_,rfl,?_⟩;by_cases c:ld.length=n1;rotate_left
  ·exact df (by rw[decide_eq_false (fun z=>c (by have:=V.int.inj z;rw[length_map]at this;omega))];rfl) (k false H ⟨fun z=>(nomatch z),fun z=>absurd z.1 c⟩ (.refl _))
  refine cC (by rw[length_map,c];simp) ?_;refine⟨_,rfl,ll,rfl,⟨_,aT.of hl⟩,fun D nD=>dO (K:=K) (xs:=ld.map oV) (fun i σ ys G=>∃v:Option V,σ=[v]/\ys=((ld.take i).filterMap id).map V.int/\Same H G/\G D=some (.lst ys)) ?_ ?_ ?_ ?_⟩
  ·exact⟨none,rfl,rfl,ai nD,ah⟩
  ·rintro i σ ys G _ ⟨v,rfl,rfl,s1,_⟩;exact aT.of (s1 _ _ hl)
  ·rintro i x σ ys G hx ⟨v,rfl,rfl,s1,hD⟩;rw[ac]at hx;obtain⟨a,ha,rfl⟩:=map_eq_some_iff.mp hx;have hi:=(ag.mp ha).1;have hlen:((ld.take i).filterMap id).length<=i:=le_trans (List.length_filterMap_le _ _) (by rw[length_take];omega);cases a with
   | none=>
    refine⟨_,rfl,rfl,_,rfl,cC (by decide) ⟨_,rfl,?_,s1,?_⟩⟩
    ·rw[take_add_one,ha,toList_some,filterMap_append];simp
    ·exact hD
   | some r=>
    refine⟨_,rfl,rfl,_,rfl,df (by simp[oV]) ⟨_,rfl,hD,aK (by rw[length_map];omega),_,rfl,?_,aF s1 nD,ah⟩⟩;rw[take_add_one,ha,toList_some,filterMap_append,map_append];rfl
  rintro σ ys G ⟨v,rfl,rfl,s1,hD⟩;rw[length_map,take_of_length_le (le_refl _)]at hD;have hnl:(ld.filterMap id).length<64:=lt_of_le_of_lt (List.length_filterMap_le _ _) h64;refine⟨_,rfl,D,rfl,⟨_,aT.of hD⟩,fun D2 zX=>dO (K:=K) (xs:=(ld.filterMap id).map V.int) (fun i σ ys G'=>∃v:Option V,σ=[v]/\ys=(replicate i true).map V.bl/\Same G G'/\G' D2=some (.lst ys)) ?_ ?_ ?_ ?_⟩
  ·exact⟨none,rfl,rfl,ai zX,ah⟩
  ·rintro i σ ys G' _ ⟨v,rfl,rfl,s2,_⟩;exact aT.of (s2 _ _ hD)
  ·rintro i x σ ys G' hx ⟨v,rfl,rfl,s2,hD2⟩;rw[ac]at hx;obtain⟨a,ha,rfl⟩:=map_eq_some_iff.mp hx;have hi:=(ag.mp ha).1;exact⟨_,rfl,_,true,rfl,.inl ⟨rfl,a,rfl⟩,hD2,aK (by rw[length_map,length_replicate];omega),_,rfl,qa i,aF s2 zX,ah⟩
  rintro σ ys G2 ⟨v,rfl,rfl,s2,hD2⟩;refine⟨D2,_,rfl,aT.of hD2,?_⟩;rw[tV];refine⟨_,rfl,df rfl ?_⟩;refine⟨_,rfl,D,_,rfl,aT.of (s2 _ _ hD),hnl,fun l3 ms n3 hpm Dj=>?_⟩;have s3:=ai (o:=.lst (ms.map V.int)) n3;have h3:upd G2 l3 (.lst (ms.map V.int)) l3=_:=ah;generalize upd G2 l3 (.lst (ms.map V.int))=G3 at s3 h3 ⊢;refine⟨_,rfl,_,rfl,fun p4 n4=>?_⟩;have s4:=ai (o:=.rng 0 (n0:Int)) n4;have h4:upd G3 p4 (.rng 0 (n0:Int)) p4=_:=ah;generalize upd G3 p4 (.rng 0 (n0:Int))=G4 at s4 h4 ⊢;refine⟨p4,n0,rfl,h4,hn0,fun l5 n5=>?_⟩;rw[Mq];have s5:=ai (o:=.lst ((j9 n0).map V.int)) n5;have h5:upd G4 l5 (.lst ((j9 n0).map V.int)) l5=_:=ah;generalize upd G4 l5 (.lst ((j9 n0).map V.int))=G5 at s5 h5 ⊢;refine⟨l3,l5,_,_,rfl,rfl,aT.of (s5 _ _ (s4 _ _ h3)),aT.of h5,p7,?_⟩;rw[p9];refine k _ G5 ?_ (s1.trans (s2.trans (s3.trans (s4.trans s5))));rw[decide_eq_true_iff];constructor
  ·intro e;exact⟨c,by rw[<-e];exact hpm.symm⟩
  ·intro e;exact(hpm.trans e.2).eq_of_pairwise (le:=(· <= ·)) (fun x y _ _ h1 h2=>Int.le_antisymm h1 h2) Dj (Ig n0)
inductive Rm(vs:List V)(H:Hp)(Q:VK)(E_:XK):Prop
 | mk (lr lc:Addr) (ds:List FR) (cl:List (List Int)) (_:vs=[.ref lr,.ref lc]) (_:cw H lr ds) (_:cq H lc cl) (_:cl.length=ds.length) (_:ds.length<=3000) (_:nc ds) (_:firstBad ds cl=none) (_:∀H1,Same H H1->Q (.bl true) H1)
theorem Wj:aI ["old","claims"] ["old","claims"] (ao j4):=by walk_at "sc1"
theorem vP{f fC:Addr}{fd J5:fo}(F:cE K "are_free" "are_free" j4 f fd)(T:Txt K w.params mg)(GC:aL P w K mg base bQ 5 fC J5 ["rows","claims"] yl)(kC:KI K fC)(bC:Binds K J5 ["rows","claims"] [])(mC:mg "check_free"=some (.ref fC)):aL P w K mg base bQ 6 f fd ["old","claims"] Rm:=by
 refine F.ok Wj (by walk_at "ln") (fun Lq A outer s H vs Q E hr h=>?_)
 ·obtain⟨lr,lc,ds,cl,rfl,hR,hC,hl,h3,hP,hb,k⟩:=h
  refine cu (ak (au (Hg (aA (c6 (aC GC hr (by rfl) mC kC bC .nil aU (ae (pv 0) (ae (pv 1) aj)))))))
   (az (au (aE dW)))) ?_
  refine⟨_,rfl,_,rfl,lr,lc,ds,cl,rfl,hR,hC,hl,h3,hP,hb,fun H1 s1=>k H1 s1⟩
structure sr(H:Hp)(pp ll lf lc:Addr):Prop where
 at_:∃kvs,H pp=some (.dK kvs)/\cM kvs (Sum.inr "leads": Key)=some (.ref ll)/\cM kvs (Sum.inr "forms": Key)=some (.ref lf)/\cM kvs (Sum.inr "free": Key)=some (.ref lc)
theorem sr.same{H H1:Hp}{pp ll lf lc:Addr}(h:sr H pp ll lf lc)(s:Same H H1):sr H1 pp ll lf lc:=⟨h.at_.imp fun kvs z=>⟨s _ _ z.1,z.2⟩⟩
def jj(ds:List FR)(j:Int):Bool:=decide (∃d∈ds,j∈c5 d ["aside"])
def RowW(ds:List FR)(d:FR):Option Int->Prop
 | none=>q5 d (jj ds)=true
 | some r=>∀e,ds[r.toNat]? =some e->j8 d e=true
def Pa(di dQ:List FR)(ld:List (Option Int))(fs:List Int):Prop:=qb ld di.length dQ.length/\fs=di.map ji/\∀(i:Nat) d l,dQ[i]? =some d->ld[i]? =some l->RowW di d l
theorem Ex{ld:List (Option Int)}{n0 n1:Nat}(h:qb ld n0 n1){i:Nat}{r:Int}(e:ld[i]? =some (some r)):∃j:Nat,r=(j:Int)/\j<n0:=by have h1:r∈ld.filterMap id:=mem_filterMap.mpr ⟨some r,al e,rfl⟩;have h2:=h.2.mem_iff.mp h1;unfold j9 at h2;obtain⟨j,hj,rfl⟩:=mem_map.mp h2;exact⟨j,rfl,mem_range.mp hj⟩
theorem cw.row{H:Hp}{lr:Addr}{ds:List FR}(h:cw H lr ds){j:Nat}{d:FR}(hd:ds[j]? =some d):∃xs q,H lr=some (.lst xs)/\mQ xs (j:Int)=some (.ref q)/\dj H q d:=by obtain⟨qs,q,a,b,_,c⟩:=h.get hd;exact⟨_,q,a,b,c⟩
theorem yv{d:FR}{a b:Int->Bool}(h:∀j,a j=b j):q5 d a=q5 d b:=by unfold q5;rw[h]
inductive Rn(vs:List V)(H:Hp)(Q:VK)(E_:XK):Prop
 | mk (l0 l1 pp ll lf lc:Addr) (di dQ:List FR) (ld:List (Option Int)) (fs:List Int) (cl:List (List Int)) (n m:Int) (_:vs=[.ref l0,.ref l1,.ref pp]) (_:cw H l0 di) (_:cw H l1 dQ) (_:sr H pp ll lf lc) (_:H ll=some (.lst (ld.map oV))) (_:ld.length<64) (_:H lf=some (.lst (fs.map V.int))) (_:fs.length<=1000) (_:cq H lc cl) (_:cl.length=di.length) (_:di.length<=1000) (_:dQ.length<=1000) (_:(∀d∈di,GF n d)) (_:(∀d∈dQ,GF m d)) (_:nc di) (_:firstBad di cl=none) (_:∀(b:Bool) (H1:Hp),(b=true↔Pa di dQ ld fs)->Same H H1->Q (.bl b) H1)
theorem Ih:aI ["old","new","paper","leads","named","row","lead"] ["old","new","paper"] (ao gP):=by walk_at "sc1"
theorem qd{f fL fF fN fM fS fE:Addr}{fd D7 Aa vF Ro J6 fdE:fo}(F:cE K "stands_well" "stands_well" gP f fd)(T:Txt K w.params mg)(GL:aL P w K mg base bQ 2 fL D7 ["leads","how_many_old","how_many_new"] Rj)(kL:KI K fL)(bL:Binds K D7 ["leads","how_many_old","how_many_new"] [])(mL:mg "are_leads"=some (.ref fL))(GF:aL P w K mg base bQ 3 fF Aa ["forms","old"] Ri)(kF:KI K fF)(bF:Binds K Aa ["forms","old"] [])(mF:mg "are_forms"=some (.ref fF))(GN:aL P w K mg base bQ 2 fN vF ["rows"] Q9)(kN:KI K fN)(bN:Binds K vF ["rows"] [])(mN:mg "asides_named"=some (.ref fN))(GM:aL P w K mg base bQ 1 fM Ro ["row","named"] Rg)(kM:KI K fM)(bM:Binds K Ro ["row","named"] [])(mM:mg "may_be_put_in"=some (.ref fM))(GS:aL P w K mg base bQ 2 fS J6 ["row","old_row"] Rh)(kS:KI K fS)(bS:Binds K J6 ["row","old_row"] [])(mS:mg "can_stand_for"=some (.ref fS))(GE:aL P w K mg base bQ 6 fE fdE ["old","claims"] Rm)(kE:KI K fE)(bE:Binds K fdE ["old","claims"] [])(mE:mg "are_free"=some (.ref fE)):aL P w K mg base bQ 7 f fd ["old","new","paper"] Rn:=by
 refine F.ok Ih (by walk_at "ln") (fun Lq A outer s H vs Q E hr h=>?_)
 ·obtain⟨l0,l1,pp,ll,lf,lc,di,dQ,ld,fs,cl,n,m,rfl,Gd,k7,hP,kJ,h64,hfs,hfl,hC,hcl,hl0,hl1,Ge,Mt,J7,hbad,k⟩:=h;have hu:=jL hr;have hr1:=hr.mono (show 1<=_ by decide);have hr2:=hr.mono (show 2<=_ by decide);have hr3:=hr.mono (show 3<=_ by decide);obtain⟨kvs,hp,hv1,hv2,Ux⟩:=id hP.at_;obtain⟨qs0,g0,Wk,Wm⟩:=id Gd;obtain⟨qs1,g1,gl1,gr1⟩:=id k7
  refine cu (ak (au (aP (i:=3) Ih.nd rfl (Or.inl rfl) (eE hu (pv 2) ay (fun _ _=>rfl))))
   (ak (bz (my (dB (cI (aC GL hr2 (by rfl) mL kL bL .nil aU (ae (pv 3) (ae (aG aS (by rfl) T.len cZ (ae (pv 0) aj)) (ae (aG aS (by rfl) T.len cZ (ae (pv 1) aj)) aj)))))) (iV (dB (cI (aC GF hr3 (by rfl) mF kF bF .nil aU (ae (eE hu (pv 2) ay (fun _ _=>rfl)) (ae (pv 0) aj))))))).pt (az (au (aE dW))) (bg aO))
   (ak (au (aP (i:=4) Ih.nd rfl (Or.inl rfl) (aC GN hr2 (by rfl) mN kN bN .nil aU (ae (pv 0) aj))))
   (ak (au (cY PassesOwn.never rfl (Hu rfl T.zip (ae (pv 1) (ae (pv 3) aj))) (iI (K:=K) (i:=5) (j:=6) rfl rfl Ih.nd rfl (Or.inl rfl) rfl (Or.inl rfl)) (bq (dk (sJ (aN w6 (pv 6) ik (aY _)) (ox (dB (cI (aC GM hr1 (by rfl) mM kM bM .nil aU (ae (pv 5) (ae (pv 4) aj))))))).pt (aA (aE dW)) aO)
   (aA (dk (sJ (aN sO (pv 6) ik (aY _)) (ox (dB (cI (aC GS hr2 (by rfl) mS kS bS .nil aU (ae (pv 5) (ae (aJ bp (pv 0) (pv 6) (fun _ _=>rfl)) aj))))))).pt (aA (aE dW)) aO)))))
   (az (au (aE (aC GE hr (by rfl) mE kE bE .nil aU (ae (pv 0) (ae (eE hu (pv 2) ay (fun _ _=>rfl)) aj)))))))))) ?_
  refine⟨_,rfl,pp,_,rfl,by rw[<-hv1];exact eO.k (k:=(Sum.inr "leads": Key)) hp,?_⟩;refine⟨_,rfl,_,rfl,l0,_,rfl,.inl (aT.of g0),_,rfl,l1,_,rfl,.inl (aT.of g1),ll,ld,di.length,dQ.length,by rw[length_map,Wk,length_map,gl1];rfl,kJ,h64,by omega,fun b1 G1 hb1 s1=>?_⟩;refine⟨_,rfl,?_⟩;cases b1 with
  | false=>exact df rfl (k false G1 ⟨fun z=>(nomatch z),fun z=>by have:=hb1.mpr z.1;cases this⟩ s1)
  | true=>
  have hL:=hb1.mp rfl;refine cC (by decide) ?_;refine⟨_,rfl,pp,_,rfl,by rw[<-hv2];exact eO.k (k:=(Sum.inr "forms": Key)) (s1 _ _ hp),_,rfl,lf,l0,fs,di,n,rfl,s1 _ _ hfs,by omega,Gd.same s1,Ge,by omega,fun G2 s2=>?_⟩;refine⟨_,rfl,?_⟩;by_cases cf:fs=di.map ji;rotate_left
  ·rw[decide_eq_false cf];exact df rfl (k false G2 ⟨fun z=>(nomatch z),fun z=>absurd z.2.1 cf⟩ (s1.trans s2))
  rw[decide_eq_true cf];refine cC (by decide) ?_;have s12:=s1.trans s2;refine⟨_,rfl,l0,di,n,rfl,Gd.same s12,Ge,hl0,fun pd Ab G3 s3 hpd hnm=>?_⟩;have tP:=s12.trans s3;have hnm':∀j,(cM Ab (Sum.inl j)).isSome=jj di j:=fun j=>by unfold jj;rw[Bool.eq_iff_iff,decide_eq_true_iff];exact hnm j
  refine⟨_,rfl,_,rfl,l1,ll,rfl,⟨_,aT.of (tP _ _ g1)⟩,⟨_,aT.of (tP _ _ kJ)⟩,DG (K:=K) (xs:=qs1.map V.ref) (ys:=ld.map oV) (by rw[length_map,length_map,gl1,hL.1])
   (fun i σ G=>∃(v1 v2:Option V),σ=[some (.ref l0),some (.ref l1),some (.ref pp),some (.ref ll),some (.ref pd),v1,v2]/\Same G3 G/\∀(j:Nat) d l,j<i->dQ[j]? =some d->ld[j]? =some l->RowW di d l) ?_ ?_ ?_ ?_⟩
  ·exact⟨none,none,rfl,.refl _,fun j d l h=>absurd h (Nat.not_lt_zero _)⟩
  ·rintro i σ G _ ⟨v1,v2,rfl,s4,_⟩;exact⟨aT.of (s4 _ _ (tP _ _ g1)),aT.of (s4 _ _ (tP _ _ kJ))⟩
  ·rintro i x y σ G tt hx hy Cm ⟨v1,v2,rfl,s4,hw⟩;rw[ac]at hx hy;obtain⟨q,hq,rfl⟩:=map_eq_some_iff.mp hx;obtain⟨a,ha,rfl⟩:=map_eq_some_iff.mp hy;have hil:i<dQ.length:=by have:=(ag.mp hq).1;omega
   have hdi:dQ[i]? =some dQ[i]:=aa hil;have hg:=Mt _ (bn hil);generalize dQ[i]=d at hdi hg;have s5:=s4.trans (ai (o:=.tup [.ref q,oV a]) Cm);have htt:upd G tt (.tup [.ref q,oV a]) tt=_:=ah;generalize upd G tt (.tup [.ref q,oV a])=G5 at s5 htt ⊢;have Uy:=tP.trans s5;have hF:=(gr1 i q d hq hdi).same Uy;have fin:RowW di d a->∀(j:Nat) d' l,j<i+1->dQ[j]? =some d'->ld[j]? =some l->RowW di d' l:=fun hw0 j d' l hj h1 h2=>by
    by_cases c:j=i
    ·subst c;rw[hdi]at h1;rw[ha]at h2;cases h1;cases h2;exact hw0
    ·exact hw j d' l (by omega) h1 h2
   refine⟨tt,_,rfl,bh.of htt,rfl,_,_,rfl,_,_,rfl,rfl,?_⟩;cases a with
   | none=>
    refine⟨_,rfl,rfl,_,rfl,df rfl ?_⟩;refine⟨_,rfl,_,rfl,q,pd,d,m,Ab,rfl,hF,hg,s5 _ _ hpd,_,rfl,?_⟩;rw[yv hnm'];by_cases c:q5 d (jj di)=true
    ·rw[c];refine cC (by decide) ?_;exact⟨_,rfl,rfl,_,rfl,cC (by decide) ⟨_,_,rfl,s5,fin c⟩⟩
    ·rw[Bool.eq_false_iff.mpr c];exact df rfl (k false G5 ⟨fun z=>(nomatch z),fun z=>absurd (z.2.2 i d none hdi ha) c⟩ Uy)
   | some r=>
    obtain⟨j,rfl,hj⟩:=Ex hL ha;have J1:di[j]? =some di[j]:=aa hj;have hge:=Ge _ (bn hj);generalize di[j]=e at J1 hge;obtain⟨xs,qe,a1,a2,a3⟩:=(Gd.same Uy).row J1;refine⟨_,rfl,rfl,_,rfl,cC (by simp[oV]) ?_⟩;refine⟨_,rfl,rfl,_,rfl,df (by simp[oV]) ?_⟩;refine⟨_,rfl,_,rfl,_,rfl,l0,_,_,.ref qe,rfl,rfl,aT.of a1,a2,q,qe,d,e,m,n,rfl,hF,a3,hg,hge,fun G6 s6=>⟨_,rfl,?_⟩⟩;by_cases c:j8 d e=true
    ·rw[c];refine cC (by decide) ⟨_,_,rfl,s5.trans s6,fin ?_⟩;intro e' he';rw[nn,J1]at he';cases he';exact c
    ·rw[Bool.eq_false_iff.mpr c];refine df rfl (k false G6 ⟨fun z=>(nomatch z),fun z=>absurd (z.2.2 i d _ hdi ha e (by rw[nn];exact J1)) c⟩ (Uy.trans s6))
  ·rintro σ G ⟨v1,v2,rfl,s4,hw⟩;have J8:=tP.trans s4;refine⟨_,rfl,_,rfl,pp,_,rfl,by rw[<-Ux];exact eO.k (k:=(Sum.inr "free": Key)) (J8 _ _ hp),l0,lc,di,cl,rfl,Gd.same J8,hC.same J8,hcl,by omega,J7,hbad,fun G5 s5=>?_⟩;refine k true G5 ⟨fun _=>⟨hL,cf,fun i d l h1 h2=>hw i d l ?_ h1 h2⟩,fun _=>rfl⟩ (J8.trans s5);rw[length_map];have:=(ag.mp h1).1;omega
abbrev Pb:Stmt:=inClass (top 43) 0
abbrev Pg:Stmt:=inClass (top 43) 1
abbrev Ph:Stmt:=inClass (top 43) 2
abbrev Pj:Stmt:=inClass (top 44) 0
abbrev Pk:Stmt:=inClass (top 44) 1
abbrev J9:Stmt:=inClass (top 44) 2
structure Bd where
 pl:Nat
 held:List (Option Int)
 af:Int->Option Int
 gn:Int->Bool
structure BA where
 (x dx hl ad gd:Addr)
def eL:List Str:=["place","held","held_aside","gone"]
theorem hZ:eL.Nodup:=by decide+kernel
def Ka(m:BA)(p:V):List V:=[p,.ref m.hl,.ref m.ad,.ref m.gd]
abbrev jP(m:BA)(p:V):List (Str×V):=eL.zip (Ka m p)
variable {m:BA}{p v:V}
theorem vQ:(jP m p).lookup ("place": Str)=some p:=fj eL _ 0 _ hZ rfl
theorem yw:(jP m p).lookup ("held": Str)=some (.ref m.hl):=fj eL _ 1 _ hZ rfl
theorem Mu:(jP m p).lookup ("held_aside": Str)=some (.ref m.ad):=fj eL _ 2 _ hZ rfl
theorem Mv:(jP m p).lookup ("gone": Str)=some (.ref m.gd):=fj eL _ 3 _ hZ rfl
theorem Rp{x:Str}(hx:¬x∈eL):(jP m p).lookup x=none:=tS eL _ x hx
theorem Rq:gK "place" v (jP m p)=jP m v:=(oR v eL (Ka m p) 0 _ hZ rfl (by show 0<4;decide)).trans rfl
theorem Rr:(jP m p).length<1000:=by show 4<1000;decide
structure dh(C:Addr)(H:Hp)(m:BA)(b:Bd)(N:Nat):Prop where
 obj:H m.x=some (.ins C m.dx (jP m (.int (b.pl:Int))))
 hd:H m.hl=some (.lst (b.held.map oV))
 h8:b.held.length=8
 as:∃kvs,H m.ad=some (.dK kvs)/\(∀j:Int,(cM kvs (Sum.inl j)).getD .non=oV (b.af j))/\kvs.length<=N
 go:∃kvs,H m.gd=some (.dK kvs)/\(∀j:Int,(cM kvs (Sum.inl j)).isSome=b.gn j)/\kvs.length<=N
 Ke:m.ad≠m.gd
def ia(m:BA)(c:Addr):Prop:=c=m.x\/c=m.hl\/c=m.ad\/c=m.gd
theorem dh.keeps{C:Addr}{H H1:Hp}{m:BA}{b:Bd}{N:Nat}{R:Addr->Prop}(h:dh C H m b N)(k:Keeps R H H1)(n:∀c,ia m c->¬R c):dh C H1 m b N:=by obtain⟨k1,a1,a2,a3⟩:=h.as;obtain⟨k2,c1,c2,c3⟩:=h.go;exact⟨k _ _ h.obj (.inl (n _ (.inl rfl))),k _ _ h.hd (.inl (n _ (.inr (.inl rfl)))),h.h8,⟨k1,k _ _ a1 (.inl (n _ (.inr (.inr (.inl rfl))))),a2,a3⟩,⟨k2,k _ _ c1 (.inl (n _ (.inr (.inr (.inr rfl))))),c2,c3⟩,h.Ke⟩
theorem dh.same{C:Addr}{H H1:Hp}{m:BA}{b:Bd}{N:Nat}(h:dh C H m b N)(s:Same H H1):dh C H1 m b N:=h.keeps (R:=fun _=>False) (.same s) fun _ _ z=>z
theorem dh.mono{C:Addr}{H:Hp}{m:BA}{b:Bd}{N M:Nat}(h:dh C H m b N)(l:N<=M):dh C H m b M:=by obtain⟨k1,a1,a2,a3⟩:=h.as;obtain⟨k2,c1,c2,c3⟩:=h.go;exact⟨h.obj,h.hd,h.h8,⟨k1,a1,a2,by omega⟩,⟨k2,c1,c2,by omega⟩,h.Ke⟩
def jk:List Str:=["set","more","add","less"]
def hAt(xs:List (Option Int))(i:Int):Option Int:=(xs[i.toNat]?).getD none
def iU{α:Type}(f:Int->α)(i:Int)(v:α):Int->α:=fun j=>if j=i then v else f j
def cX(b:Bd)(d:FR):Bd :=
 if d.u ="copy"then {b with held:=b.held.set (d.is.getD 0 0).toNat (hAt b.held (d.is.getD 1 0)),gn:=iU b.gn b.pl true}
 else if d.u ="take"then {b with held:=b.held.set (d.is.getD 0 0).toNat (b.af (d.is.getD 1 0)),gn:=iU b.gn b.pl true}
 else if d.u ="put"then {b with af:=iU b.af (d.is.getD 1 0) (hAt b.held (d.is.getD 0 0)),gn:=iU b.gn b.pl true}
 else if d.u∈jk then {b with held:=b.held.set (d.is.getD 0 0).toNat none,gn:=iU b.gn b.pl true}
 else {b with gn:=iU b.gn b.pl true}
structure BT(K:Frag)(C:Addr):Prop where
 cl:Cls K C
 n1:eR K C "place"
 n2:eR K C "held"
 n3:eR K C "held_aside"
 n4:eR K C "gone"
structure WT(K:Frag)(C:Addr):Prop where
 cl:Cls K C
 n1:eR K C "walked"
 n2:eR K C "looped"
 n3:eR K C "ends"
def iL:List Str:=["walked","looped","ends"]
theorem ib:iL.Nodup:=by decide+kernel
abbrev dv(n:Int)(lo:Bool)(e:Addr):List (Str×V):=iL.zip [.int n,.bl lo,.ref e]
variable {n n2:Int}{lo l2:Bool}{e:Addr}
theorem w_n:(dv n lo e).lookup ("walked": Str)=some (.int n):=fj iL _ 0 _ ib rfl
theorem Wn:(dv n lo e).lookup ("looped": Str)=some (.bl lo):=fj iL _ 1 _ ib rfl
theorem w_e:(dv n lo e).lookup ("ends": Str)=some (.ref e):=fj iL _ 2 _ ib rfl
theorem Rt{x:Str}(hx:¬x∈iL):(dv n lo e).lookup x=none:=tS iL _ x hx
theorem Mw:gK "walked" (.int n2) (dv n lo e)=dv n2 lo e:=(oR (.int n2) iL _ 0 _ ib rfl (by show 0<3;decide)).trans rfl
theorem Mx:gK "looped" (.bl l2) (dv n lo e)=dv n l2 e:=(oR (.bl l2) iL _ 1 _ ib rfl (by show 1<3;decide)).trans rfl
theorem Kf:(dv n lo e).length<1000:=by show 3<1000;decide
inductive Mz(C:Addr)(vs:List V)(H:Hp)(Q:VK)(E_:XK):Prop
 | mk (x dx:Addr) (v1 v2 v3 v4:V) (_:vs=[.ref x,v1,v2,v3,v4]) (_:H x=some (.ins C dx [])) (_:Q .non (upd H x (.ins C dx (eL.zip [v1,v2,v3,v4]))))
theorem Wo:aI ["self","place","held","held_aside","gone"] ["self","place","held","held_aside","gone"] (ao Pb):=by walk_at "sc1"
theorem Ru{f:Addr}{fd:fo}{C:Addr}(F:cE K "__init__" "Branch.__init__" Pb f fd)(T:Txt K w.params mg)(TB:BT K C): aL P w K mg base bQ 1 f fd ["self","place","held","held_aside","gone"] (Mz C):=by
 refine F.ok Wo (by walk_at "ln") (fun Lq A outer s H vs Q E hr h=>?_)
 ·obtain⟨x,dx,v1,v2,v3,v4,rfl,hx,k⟩:=h
  refine cu (ak (au (gL (pv 0) (pv 1) rfl))
   (ak (au (gL (pv 0) (pv 2) rfl))
   (ak (au (gL (pv 0) (pv 3) rfl))
   (az (au (gL (pv 0) (pv 4) rfl)))))) ?_
  refine⟨_,rfl,_,rfl,x,C,dx,_,rfl,hx,TB.cl,TB.n1,(by show 0<1000;decide),?_⟩;refine⟨_,rfl,_,rfl,x,C,dx,_,rfl,ah,TB.cl,TB.n2,(by show 1<1000;decide),?_⟩;rw[jt];refine⟨_,rfl,_,rfl,x,C,dx,_,rfl,ah,TB.cl,TB.n3,(by show 2<1000;decide),?_⟩;rw[jt];refine⟨_,rfl,_,rfl,x,C,dx,_,rfl,ah,TB.cl,TB.n4,(by show 3<1000;decide),?_⟩;rw[jt];exact k
def qf(H:Hp)(m:BA):Prop:=H m.x=none/\H m.hl=none/\H m.ad=none/\H m.gd=none
theorem qf.of{H H1:Hp}{m:BA}(s:Same H H1)(h:qf H1 m):qf H m:=by
 have k:∀c,H1 c=none->H c=none:=fun c n=>by
  cases e:H c with
  | none=>rfl
  | some o=>rw[s _ _ e]at n;cases n
 exact⟨k _ h.1,k _ h.2.1,k _ h.2.2.1,k _ h.2.2.2⟩
inductive Rv(C:Addr)(vs:List V)(H:Hp)(Q:VK)(E_:XK):Prop
 | mk (m:BA) (b:Bd) (N p:Nat) (_:vs=[.ref m.x,.int (p:Int)]) (_:dh C H m b N) (_:∀(m1:BA) (H1:Hp),Same H H1->qf H m1->dh C H1 m1 {b with pl:=p} N->Q (.ref m1.x) H1)
theorem Wp:aI ["self","place"] ["self","place"] (ao Pg):=by walk_at "sc1"
theorem Rw{f fI:Addr}{fd Rx:fo}{C:Addr}(F:cE K "forked" "Branch.forked" Pg f fd)(T:Txt K w.params mg)(TB:BT K C)(MkI:Mk K C fI)(GI:aL P w K mg base bQ 1 fI Rx ["self","place","held","held_aside","gone"] (Mz C))(bI:Binds K Rx ["self","place","held","held_aside","gone"] [])(mI:mg "Branch"=some (.ref C)):aL P w K mg base bQ 3 f fd ["self","place"] (Rv C):=by
 refine F.ok Wp (by walk_at "ln") (fun Lq A outer s H vs Q E hr h=>?_)
 ·obtain⟨m,b,N,p,rfl,hB,k⟩:=h;obtain⟨Ry,a1,a2,a3⟩:=id hB.as;obtain⟨Ab,c1,c2,c3⟩:=id hB.go;refine cu (az (au (aE (zt MkI GI hr (by rfl) mI bI .nil aU (ae (pv 1) (ae (bf eC (by rfl) T.list d6 (ae (cJ (pv 0) rfl) aj)) (ae (bf kY (by rfl) T.dict tR (ae (cJ (pv 0) rfl) aj)) (ae (bf kY (by rfl) T.dict tR (ae (cJ (pv 0) rfl) aj)) aj)))))))) ?_;refine⟨_,rfl,_,rfl,m.x,C,m.dx,_,_,rfl,hB.obj,TB.cl,TB.n2,yw,m.hl,_,rfl,.inl (aT.of hB.hd),fun l1 Ac=>?_⟩;have s1:=ai (o:=.lst (b.held.map oV)) Ac;have h1:upd H l1 (.lst (b.held.map oV)) l1=_:=ah;generalize upd H l1 (.lst (b.held.map oV))=G1 at s1 h1 ⊢;refine⟨_,rfl,m.x,C,m.dx,_,_,rfl,s1 _ _ hB.obj,TB.cl,TB.n3,Mu,m.ad,_,rfl,s1 _ _ a1,fun l2 lu=>?_⟩;have s2:=s1.trans (ai (o:=.dK Ry) lu);have h12:=ai (o:=.dK Ry) lu _ _ h1;have h2:upd G1 l2 (.dK Ry) l2=_:=ah;generalize upd G1 l2 (.dK Ry)=G2 at s2 h2 h12 ⊢;refine⟨_,rfl,m.x,C,m.dx,_,_,rfl,s2 _ _ hB.obj,TB.cl,TB.n4,Mv,m.gd,_,rfl,s2 _ _ c1,fun l3 wK=>?_⟩;have t3:=ai (o:=.dK Ab) wK;have s3:=s2.trans t3;have h13:=t3 _ _ h12;have h23:=t3 _ _ h2;have Wq:l2≠l3:=fun z=>by rw[z,wK]at h2;cases h2
  have h3:upd G2 l3 (.dK Ab) l3=_:=ah;generalize upd G2 l3 (.dK Ab)=G3 at s3 h3 h13 h23 ⊢;intro x dx nx ndx ne;have fr:∀c,G3 c=none->H c=none:=fun c n=>by
   cases e:H c with
   | none=>rfl
   | some o=>rw[s3 _ _ e]at n;cases n
  refine⟨x,dx,.int (p:Int),.ref l1,.ref l2,.ref l3,rfl,ah,rfl,?_⟩;rw[jt];have s4:=(ai (o:=.own x) ndx);have nx':upd G3 dx (.own x) x=none:=by rw[aw (Ne.symm ne)];exact nx
  have s5:=s4.trans (ai (o:=.ins C dx (eL.zip [V.int (p:Int),.ref l1,.ref l2,.ref l3])) nx');refine k ⟨x,dx,l1,l2,l3⟩ _ (s3.trans s5) ⟨fr _ nx,Ac,?_,?_⟩ ⟨ah,s5 _ _ h13,hB.h8,⟨Ry,s5 _ _ h23,a2,a3⟩,⟨Ab,s5 _ _ h3,c2,c3⟩,Wq⟩
  ·cases e:H l2 with
   | none=>rfl
   | some o=>rw[s1 _ _ e]at lu;cases lu
  ·cases e:H l3 with
   | none=>rfl
   | some o=>rw[s2 _ _ e]at wK;cases wK
inductive Rz(C:Addr)(vs:List V)(H:Hp)(Q:VK)(E_:XK):Prop
 | mk (x dx:Addr) (_:vs=[.ref x]) (_:H x=some (.ins C dx [])) (_:∀(e:Addr) (H1:Hp),H e=none->(∀c o,c≠x->H c=some o->H1 c=some o)->H1 x=some (.ins C dx (dv 0 false e))->fz P w H1 e []->Q .non H1)
theorem Wr:aI ["self"] ["self"] (ao Pj):=by walk_at "sc1"
theorem RA{f:Addr}{fd:fo}{C:Addr}(F:cE K "__init__" "Walk.__init__" Pj f fd)(T:Txt K w.params mg)(TW:WT K C):aL P w K mg base bQ 1 f fd ["self"] (Rz (P:=P) (w:=w) C):=by
 refine F.ok Wr (by walk_at "ln") (fun Lq A outer s H vs Q E hr h=>?_)
 ·obtain⟨x,dx,rfl,hx,k⟩:=h
  refine cu (ak (au (gL (pv 0) aq rfl))
   (ak (au (gL (pv 0) dW rfl))
   (az (au (gL (pv 0) Hq rfl))))) ?_
  refine⟨_,rfl,x,C,dx,_,rfl,hx,TW.cl,TW.n1,(by show 0<1000;decide),?_⟩;refine⟨_,rfl,x,C,dx,_,rfl,ah,TW.cl,TW.n2,(by show 1<1000;decide),?_⟩;rw[jt];intro e ne;have Uz:e≠x:=fun z=>by rw[z,ah]at ne;cases ne
  refine⟨_,rfl,x,C,dx,_,rfl,by rw[aw (Ne.symm Uz)];exact ah,TW.cl,TW.n3,(by show 2<1000;decide),?_⟩;refine k e _ (by rw[aw Uz]at ne;exact ne) (fun c o hc e'=>?_) ah ⟨by rw[aw Uz];exact ah,fun y hy=>nomatch hy⟩;have hce:c≠e:=fun z=>by rw[aw Uz,<-z,e']at ne;cases ne
  rw[aw hc,aw hce,aw hc];exact e'
inductive RB(C:Addr)(vs:List V)(H:Hp)(Q:VK)(E_:XK):Prop
 | mk (x dx e:Addr) (n:Nat) (lo:Bool) (_:vs=[.ref x]) (_:H x=some (.ins C dx (dv (n:Int) lo e))) (_:n+1<=2000) (_:Q .non (upd H x (.ins C dx (dv ((n+1:Nat):Int) lo e))))
theorem Ws:aI ["self"] ["self"] (ao Pk):=by walk_at "sc1"
theorem RD{f:Addr}{fd:fo}{C:Addr}(F:cE K "walk_row" "Walk.walk_row" Pk f fd)(T:Txt K w.params mg)(TW:WT K C):aL P w K mg base bQ 1 f fd ["self"] (RB C):=by
 refine F.ok Ws (by walk_at "ln") (fun Lq A outer s H vs Q E hr h=>?_)
 ·obtain⟨x,dx,e,n,lo,rfl,hx,hn,k⟩:=h;obtain⟨tm,hmw⟩:=T.qY
  refine cu (ak (au (gL (pv 0) (aM c9 (cJ (pv 0) rfl) aq) rfl))
   (az (bz (aN rM (cJ (pv 0) rfl) (cF (v:=.int 2000) (by rfl) hmw ⟨_,rfl⟩) (aY _)) (az (au CG)) (bg aO)))) ?_
  refine⟨_,rfl,x,C,dx,_,_,rfl,hx,TW.cl,TW.n1,w_n,_,_,rfl,rfl,_,rfl,x,C,dx,_,rfl,hx,TW.cl,TW.n1,Kf,?_⟩;rw[Mw];refine⟨_,rfl,x,C,dx,_,_,rfl,ah,TW.cl,TW.n1,w_n,_,_,rfl,rfl,_,rfl,cC (fun z=>?_) k⟩;have:=of_decide_eq_true z;omega
def dJ(H H1:Hp):Prop:=∀c,H1 c=none->H c=none
theorem dJ.trans{H H1 H2:Hp}(a:dJ H H1)(b:dJ H1 H2):dJ H H2:=fun c h=>a c (b c h)
theorem dJ.same{H H1:Hp}(s:Same H H1):dJ H H1:=fun c n=>by
 cases e:H c with
 | none=>rfl
 | some o=>rw[s _ _ e]at n;cases n
theorem dJ.upd{H:Hp}{p:Addr}{o:HO}:dJ H (L2.upd H p o):=fun c n=>by
 by_cases h:c=p
 ·rw[h,ah]at n;cases n
 ·rw[aw h]at n;exact n
theorem GF.Ii{n:Int}{d:FR}(h:GF n d)(hu:d.u∈zL8):∃b c,d.is=[b,c]/\(0<=b/\b<=7)/\¬d.u ="table"/\(d.u ="copy"->0<=c/\c<=7):=by
 cases h with
 | @val u b c h hb=>exact⟨b,c,rfl,hb,(by decide+kernel:∀u∈zL4,¬u ="table") u h,fun z=>absurd z ((by decide+kernel:∀u∈zL4,¬u ="copy") u h)⟩
 | @two u b c h hb hc=>exact⟨b,c,rfl,hb,(by decide+kernel:∀u∈w2,¬u ="table") u h,fun _=>hc⟩
 | @uU u b c h hb hc=>exact⟨b,c,rfl,hb,(by decide+kernel:∀u∈zL1,¬u ="table") u h,fun z=>absurd z ((by decide+kernel:∀u∈zL1,¬u ="copy") u h)⟩
 | @tell b hb=>exact absurd hu (by show ¬("tell": Str)∈_;decide+kernel)
 | @halt a=>exact absurd hu (by show ¬("halt": Str)∈_;decide+kernel)
 | @non u h=>exact absurd hu ((by decide+kernel:∀u∈zL3,¬u∈zL8) u h)
 | @jmp u t a h ht=>exact absurd hu ((by decide+kernel:∀u∈zL2,¬u∈zL8) u h)
 | @Cu u b t a h hb ht=>exact absurd hu ((by decide+kernel:∀u∈zL0,¬u∈zL8) u h)
 | @tab b ts hb hl ht=>exact absurd hu (by show ¬("table": Str)∈_;decide+kernel)
theorem tY{xs:List (Option Int)}(h8:xs.length=8){c:Int}(h:0<=c/\c<=7):mQ (xs.map oV) c=some (oV (hAt xs c)):=by
 obtain⟨j,rfl⟩:=Int.eq_ofNat_of_zero_le h.1;have hj:j<xs.length:=by omega
 refine cG ?_;unfold hAt;rw[ac,nn,aa hj];rfl
theorem tZ{xs:List (Option Int)}(h8:xs.length=8){c:Int}(h:0<=c/\c<=7):AF (xs.map oV).length c=some c.toNat:=by unfold AF;rw[if_pos h.1,if_pos (by rw[length_map];omega)]
theorem qg(xs:List (Option Int))(j:Nat)(v:Option Int):(xs.map oV).set j (oV v)=(xs.set j v).map oV:=by rw[map_set]
def BR3(m:BA)(c:Addr):Prop:=c=m.hl\/c=m.ad\/c=m.gd
variable {C:Addr}{H:Hp}{b:Bd}{N:Nat}
theorem dh.nxh(h:dh C H m b N):m.x≠m.hl:=jJ h.obj h.hd (fun z=>nomatch z)
theorem dh.nxa(h:dh C H m b N):m.x≠m.ad:=h.as.elim fun _ z=>jJ h.obj z.1 (fun z=>nomatch z)
theorem dh.nxg(h:dh C H m b N):m.x≠m.gd:=h.go.elim fun _ z=>jJ h.obj z.1 (fun z=>nomatch z)
theorem dh.nha(h:dh C H m b N):m.hl≠m.ad:=h.as.elim fun _ z=>jJ h.hd z.1 (fun z=>nomatch z)
theorem dh.nhg(h:dh C H m b N):m.hl≠m.gd:=h.go.elim fun _ z=>jJ h.hd z.1 (fun z=>nomatch z)
theorem dh.mark(h:dh C H m b N)(hN:N<=5000):∃kvs,jV H m.gd (.int (b.pl:Int)) (.bl true) (upd H m.gd (.dK kvs))/\dh C (upd H m.gd (.dK kvs)) m {b with gn:=iU b.gn b.pl true} (N+1):=by
 obtain⟨k1,a1,a2,a3⟩:=id h.as;obtain⟨k2,c1,c2,c3⟩:=id h.go;refine⟨putK k2 (Sum.inl (b.pl:Int)) (.bl true),jV.k (k:=Sum.inl (b.pl:Int)) c1 (aK (by omega)),⟨by rw[aw h.nxg];exact h.obj,by rw[aw h.nhg];exact h.hd,h.h8,⟨k1,by rw[aw h.Ke];exact a1,a2,by omega⟩,⟨_,ah,fun j=>?_,le_trans (bV _ _ _) (by omega)⟩,h.Ke⟩⟩;show _=iU b.gn b.pl true j;unfold iU;rw[dE];by_cases e:j=(b.pl:Int)
 ·subst e;rw[if_pos rfl,if_pos rfl];rfl
 ·rw[if_neg (fun z=>e (Sum.inl.inj z)),if_neg e];exact c2 j
theorem dh.MA(h:dh C H m b N){ys:List (Option Int)}(h8:ys.length=8):dh C (upd H m.hl (.lst (ys.map oV))) m {b with held:=ys} N:=by obtain⟨k1,a1,a2,a3⟩:=id h.as;obtain⟨k2,c1,c2,c3⟩:=id h.go;exact⟨by rw[aw h.nxh];exact h.obj,ah,h8,⟨k1,by rw[aw (Ne.symm h.nha)];exact a1,a2,a3⟩,⟨k2,by rw[aw (Ne.symm h.nhg)];exact c1,c2,c3⟩,h.Ke⟩
theorem dh.MB(h:dh C H m b N)(hN:N<=5000)(i:Int)(v:Option Int):∃kvs,jV H m.ad (.int i) (oV v) (upd H m.ad (.dK kvs))/\dh C (upd H m.ad (.dK kvs)) m {b with af:=iU b.af i v} (N+1):=by
 obtain⟨k1,a1,a2,a3⟩:=id h.as;obtain⟨k2,c1,c2,c3⟩:=id h.go;refine⟨putK k1 (Sum.inl i) (oV v),jV.k (k:=Sum.inl i) a1 (aK (by omega)),⟨by rw[aw h.nxa];exact h.obj,by rw[aw h.nha];exact h.hd,h.h8,⟨_,ah,fun j=>?_,le_trans (bV _ _ _) (by omega)⟩,⟨k2,by rw[aw (Ne.symm h.Ke)];exact c1,c2,by omega⟩,h.Ke⟩⟩;show _=oV (iU b.af i v j);unfold iU;rw[dE];by_cases e:j=i
 ·subst e;rw[if_pos rfl,if_pos rfl];rfl
 ·rw[if_neg (fun z=>e (Sum.inl.inj z)),if_neg e];exact a2 j
inductive RE(C:Addr)(vs:List V)(H:Hp)(Q:VK)(E_:XK):Prop
 | mk (m:BA) (b:Bd) (N:Nat) (q:Addr) (d:FR) (n:Int) (_:vs=[.ref m.x,.ref q]) (_:dh C H m b N) (_:N<=4000) (_:dj H q d) (_:GF n d) (_:∀H1,Keeps (BR3 m) H H1->dJ H H1->dh C H1 m (cX b d) (N+2)->Q .non H1)
theorem Wt:aI ["self","row"] ["self","row"] (ao Ph):=by walk_at "sc1"
theorem RF{f:Addr}{fd:fo}{C:Addr}(F:cE K "pass_row" "Branch.pass_row" Ph f fd)(T:Txt K w.params mg)(TB:BT K C):aL P w K mg base bQ 1 f fd ["self","row"] (RE C):=by
 refine F.ok Wt (by walk_at "ln") (fun Lq A outer s H vs Q E hr h=>?_)
 ·obtain⟨m,b,N,q,d,n,rfl,hB,hN,hR,hG,k⟩:=h;have hu:=jL hr;obtain⟨pp,hpp,hS⟩:=T.yi
  refine cu (ak (au (d0 hu (cJ (pv 0) rfl) (cJ (pv 0) rfl) dW rfl))
   (az (bz (aN eP (aJ aQ (pv 1) aq (fun _ _=>rfl)) ay (aY _)) (az (au (o6 (aJ bp (cJ (pv 0) rfl) (aJ aQ (pv 1) aq (fun _ _=>rfl)) (fun _ _=>rfl)) (sL (cJ (pv 0) rfl) (aJ aQ (pv 1) aq (fun _ _=>rfl)) set_list)))) (az (bz (aN eP (aJ aQ (pv 1) aq (fun _ _=>rfl)) ay (aY _)) (az (au (o6 (vf hu (cJ (pv 0) rfl) (aJ aQ (pv 1) aq (fun _ _=>rfl)) ⟨rfl,rfl,rfl,rfl⟩) (sL (cJ (pv 0) rfl) (aJ aQ (pv 1) aq (fun _ _=>rfl)) set_list)))) (az (bz (aN eP (aJ aQ (pv 1) aq (fun _ _=>rfl)) ay (aY _)) (az (au (d0 hu (cJ (pv 0) rfl) (aJ aQ (pv 1) aq (fun _ _=>rfl)) (aJ bp (cJ (pv 0) rfl) (aJ aQ (pv 1) aq (fun _ _=>rfl)) (fun _ _=>rfl)) rfl))) (az (bz (aN bj (aJ aQ (pv 1) aq (fun _ _=>rfl)) (cF (v:=.ref pp) (by rfl) hpp rfl) rfl) (az (au (o6 ik (sL (cJ (pv 0) rfl) (aJ aQ (pv 1) aq (fun _ _=>rfl)) set_list)))) (bg aO)))))))))) ?_
  obtain⟨Ab,Wu,jH⟩:=hB.mark (by omega);obtain⟨kg,cg,_⟩:=id hB.go;have K1:Keeps (BR3 m) H (upd H m.gd (.dK Ab)):=Keeps.refl.upd cg (fun _ z=>nomatch z) (.inr (.inr rfl));have wN:dJ H (upd H m.gd (.dK Ab)):=dJ.upd;refine⟨_,rfl,m.x,C,m.dx,_,_,rfl,hB.obj,TB.cl,TB.n4,Mv,_,rfl,m.x,C,m.dx,_,_,rfl,hB.obj,TB.cl,TB.n1,vQ,m.gd,_,rfl,Wu,?_⟩;generalize upd H m.gd (.dK Ab)=G1 at K1 wN jH ⊢;have k7:=hR.tups K1.tups;obtain⟨items,hq,_⟩:=k7.parts;have Pl:∀s:Str,(decide (V.str d.u=V.str s)=true)↔d.u=s:=fun s=>⟨fun z=>V.str.inj (of_decide_eq_true z),fun z=>by rw[z];exact decide_eq_true rfl⟩;unfold cX at k;refine⟨_,rfl,q,_,0,_,rfl,rfl,bh.of hq,at0 _ _,rfl,_,rfl,?_⟩;by_cases c1:d.u ="copy"
  ·refine df ((Pl _).mpr c1) ?_;rw[if_pos c1]at k;obtain⟨x,y,e,hx,ht,hy⟩:=hG.Ii (by rw[c1];decide+kernel);have hq2:=k7.nt ht;rw[e]at hq2 k;refine⟨_,rfl,m.x,C,m.dx,_,_,rfl,jH.obj,TB.cl,TB.n2,yw,_,rfl,q,_,2,_,rfl,rfl,bh.of hq2,at2 _ _ _ _,m.hl,_,_,_,rfl,rfl,aT.of jH.hd,tY jH.h8 (hy c1),?_⟩;refine⟨_,rfl,m.x,C,m.dx,_,_,rfl,jH.obj,TB.cl,TB.n2,yw,_,rfl,q,_,1,_,rfl,rfl,bh.of hq2,at1 _ _ _,m.hl,_,_,_,rfl,rfl,jH.hd,tZ jH.h8 hx,?_⟩;rw[qg];exact k _ (K1.trans (Keeps.refl.upd jH.hd (fun _ z=>nomatch z) (.inl rfl))) (wN.trans dJ.upd) ((jH.MA (by rw[length_set];exact jH.h8)).mono (by omega))
  rw[if_neg c1]at k;refine cC (fun z=>c1 ((Pl _).mp z)) ?_;refine⟨_,rfl,q,_,0,_,rfl,rfl,bh.of hq,at0 _ _,rfl,_,rfl,?_⟩;by_cases c2:d.u ="take"
  ·refine df ((Pl _).mpr c2) ?_;rw[if_pos c2]at k;obtain⟨x,y,e,hx,ht,hy⟩:=hG.Ii (by rw[c2];decide+kernel);have hq2:=k7.nt ht;rw[e]at hq2 k;obtain⟨ka,a1,a2,a3⟩:=id jH.as;refine⟨_,rfl,m.x,C,m.dx,_,_,rfl,jH.obj,TB.cl,TB.n3,Mu,m.ad,rfl,.inl ⟨_,.inl a1⟩,_,rfl,q,_,2,_,rfl,rfl,bh.of hq2,at2 _ _ _ _,_,eO.k (k:=Sum.inl y) a1,?_⟩;rw[a2 y];refine⟨_,rfl,m.x,C,m.dx,_,_,rfl,jH.obj,TB.cl,TB.n2,yw,_,rfl,q,_,1,_,rfl,rfl,bh.of hq2,at1 _ _ _,m.hl,_,_,_,rfl,rfl,jH.hd,tZ jH.h8 hx,?_⟩;rw[qg];exact k _ (K1.trans (Keeps.refl.upd jH.hd (fun _ z=>nomatch z) (.inl rfl))) (wN.trans dJ.upd) ((jH.MA (by rw[length_set];exact jH.h8)).mono (by omega))
  rw[if_neg c2]at k;refine cC (fun z=>c2 ((Pl _).mp z)) ?_;refine⟨_,rfl,q,_,0,_,rfl,rfl,bh.of hq,at0 _ _,rfl,_,rfl,?_⟩;by_cases c3:d.u ="put"
  ·refine df ((Pl _).mpr c3) ?_;rw[if_pos c3]at k;obtain⟨x,y,e,hx,ht,hy⟩:=hG.Ii (by rw[c3];decide+kernel);have hq2:=k7.nt ht;rw[e]at hq2 k;obtain⟨ka,a1,a2,a3⟩:=id jH.as;obtain⟨kv3,RG,hB3⟩:=jH.MB (by omega) y (hAt b.held x);refine⟨_,rfl,m.x,C,m.dx,_,_,rfl,jH.obj,TB.cl,TB.n2,yw,_,rfl,q,_,1,_,rfl,rfl,bh.of hq2,at1 _ _ _,m.hl,_,_,_,rfl,rfl,aT.of jH.hd,tY jH.h8 hx,?_⟩;refine⟨_,rfl,m.x,C,m.dx,_,_,rfl,jH.obj,TB.cl,TB.n3,Mu,_,rfl,q,_,2,_,rfl,rfl,bh.of hq2,at2 _ _ _ _,m.ad,_,rfl,RG,?_⟩;exact k _ (K1.trans (Keeps.refl.upd a1 (fun _ z=>nomatch z) (.inr (.inl rfl)))) (wN.trans dJ.upd) hB3
  rw[if_neg c3]at k;refine cC (fun z=>c3 ((Pl _).mp z)) ?_;refine⟨_,rfl,q,_,0,_,rfl,rfl,bh.of hq,at0 _ _,pp,jk.map V.str,rfl,.inr (hS _),rfl,rfl,_,rfl,?_⟩;show if inV (.str d.u) (jk.map V.str)=true then _ else _;rw[dz];by_cases c4:d.u∈jk
  ·refine df (decide_eq_true c4) ?_;rw[if_pos c4]at k;obtain⟨x,y,e,hx,ht,hy⟩:=hG.Ii ((by decide+kernel:∀u∈jk,u∈zL8) _ c4);have hq2:=k7.nt ht;rw[e]at hq2 k;refine⟨_,rfl,m.x,C,m.dx,_,_,rfl,jH.obj,TB.cl,TB.n2,yw,_,rfl,q,_,1,_,rfl,rfl,bh.of hq2,at1 _ _ _,m.hl,_,_,_,rfl,rfl,jH.hd,tZ jH.h8 hx,?_⟩;rw[show V.non=oV none from rfl,qg];exact k _ (K1.trans (Keeps.refl.upd jH.hd (fun _ z=>nomatch z) (.inl rfl))) (wN.trans dJ.upd) ((jH.MA (by rw[length_set];exact jH.h8)).mono (by omega))
  rw[if_neg c4]at k;exact cC (fun z=>c4 (of_decide_eq_true z)) (k _ K1 wN (jH.mono (by omega)))
structure WS where
 n:Nat
 lo:Bool
 es:List NK
def Bw(es:List NK)(k:NK):List NK:=if k∈es then es else es++ [k]
def yx(ds:List FR)(ld:List (Option Int)):Nat->WS->Bd->List Bd->Option (WS×List Bd)
 | 0,_,_,_=>none
 | f+1,s,b,fk=>match ld[b.pl]? with
  | some (some k)=>some ({s with es:=Bw s.es (k,b.held)},fk)
  | some none=>if b.gn b.pl=true then some ({s with lo:=true},fk)else if 2000<s.n+1 then none else match ds[b.pl]? with
   | none=>none
   | some d=>match nxt d b.pl with
    | []=>some ({s with n:=s.n+1},fk)
    | p::ps=>yx ds ld f {s with n:=s.n+1} {cX b d with pl:=p.toNat} (fk++ps.map fun q=>{cX b d with pl:=q.toNat})
  | none=>none
def Ij(m m':BA):Prop:=∀c,ia m c->¬ia m' c
structure FK(C:Addr)(H0 G:Hp)(lf:Addr)(ms:List BA)(fk:List Bd)(N:Nat):Prop where
 lst:G lf=some (.lst (ms.map fun m=>V.ref m.x))
 len:ms.length=fk.length
 at_:∀(i:Nat) m b,ms[i]? =some m->fk[i]? =some b->dh C G m b N
 new:∀m∈ms,qf H0 m/\¬ia m lf
 ap:ms.Pairwise Ij
theorem qf.own{H:Hp}{m:BA}(h:qf H m){c:Addr}(o:ia m c):H c=none:=by
 rcases o with rfl | rfl | rfl | rfl
 ·exact h.1
 ·exact h.2.1
 ·exact h.2.2.1
 ·exact h.2.2.2
theorem dh.there{C:Addr}{H:Hp}{m:BA}{b:Bd}{N:Nat}(h:dh C H m b N){c:Addr}(o:ia m c):∃u,H c=some u:=by
 rcases o with rfl | rfl | rfl | rfl
 ·exact⟨_,h.obj⟩
 ·exact⟨_,h.hd⟩
 ·exact h.as.elim fun _ z=>⟨_,z.1⟩
 ·exact h.go.elim fun _ z=>⟨_,z.1⟩
theorem FK.keeps{C:Addr}{H0 G G1:Hp}{lf:Addr}{ms:List BA}{fk:List Bd}{N M:Nat}{R:Addr->Prop}(h:FK C H0 G lf ms fk N)(k:Keeps R G G1)(hR:∀c,R c->H0 c≠none)(hl:¬R lf)(l:N<=M):FK C H0 G1 lf ms fk M :=
 ⟨k _ _ h.lst (.inl hl),h.len,fun i m b a e=>((h.at_ i m b a e).keeps k fun c o z=>hR c z ((h.new m (al a)).1.own o)).mono l,h.new,h.ap⟩
theorem cz{P:Program}{w:World}{H H1:Hp}{e:Addr}{es:List (NK×Addr)}{R:Addr->Prop}(h:fz P w H e es)(k:Keeps R H H1)(n:¬R e):fz P w H1 e es :=
 ⟨k _ _ h.1 (.inl n),fun x hx=>(h.2 x hx).imp fun b z=>⟨k.tups _ _ z.1,k.tups _ _ z.2⟩⟩
theorem MC{es:List (NK×Addr)}{k:NK}{a:Addr}:(putN es k a).map (·.1)=Bw (es.map (·.1)) k:=by
 unfold putN Bw;split
 ·rfl
 ·rw[map_append];rfl
theorem Ik{es:List (NK×Addr)}{k:NK}{a:Addr}:(putN es k a).length<=es.length+1:=by
 unfold putN;split
 ·omega
 ·rw[length_append];exact le_refl _
theorem Il{n:Int}{d:FR}(h:GF n d){p:Nat}:∀q∈nxt d p,0<=q:=fun q hq=>by
 unfold nxt at hq;rcases mem_append.mp hq with z | z
 ·exact(h.ts.2 q z).1
 ·by_cases c:d.u∈dA
  ·rw[if_pos c]at z;cases z
  ·rw[if_neg c]at z;rw[mem_singleton.mp z];omega
theorem Ad{n:Int}{d:FR}(h:GF n d)(p:Int):(nxt d p).length<=17:=by unfold nxt;rw[length_append];have:=h.ts.1;split<;>simp<;>omega
def WR(m:BA)(wx e:Addr)(c:Addr):Prop:=c=wx\/c=e\/ia m c
inductive RH(WC C:Addr)(vs:List V)(H:Hp)(Q:VK)(E_:XK):Prop
 | mk (wx gS e l1 ll:Addr) (m:BA) (ds:List FR) (ld:List (Option Int)) (M:Int) (s s1:WS) (b:Bd) (fk:List Bd) (fu:Nat) (es:List (NK×Addr)) (_:vs=[.ref wx,.ref l1,.ref ll,.ref m.x]) (_:H wx=some (.ins WC gS (dv (s.n:Int) s.lo e))) (_:fz P w H e es) (_:es.map (·.1)=s.es) (_:es.length<=100000) (_:dh C H m b (2*s.n)) (_:cw H l1 ds) (_:(∀d∈ds,GF M d)) (_:H ll=some (.lst (ld.map oV))) (_:l1≠m.hl) (_:ll≠m.hl) (_:wx≠m.x) (_:s.n<=2000) (_:yx ds ld fu s b []=some (s1,fk)) (_:∀(lf:Addr) (ms:List BA) (es1:List (NK×Addr)) (H1:Hp),Keeps (WR m wx e) H H1->dJ H H1->H1 wx=some (.ins WC gS (dv (s1.n:Int) s1.lo e))->fz P w H1 e es1->es1.map (·.1)=s1.es->es1.length<=es.length+1->H lf=none->FK C H H1 lf ms fk (2*s1.n)->s1.n<=2000->Q (.ref lf) H1)
def WfI(P:Program)(w:World)(WC C:Addr)(H:Hp)(wx gS e l1 ll lf:Addr)(m:BA)(ds:List FR)(ld:List (Option Int))(s1:WS)(fk:List Bd)(es:List (NK×Addr))(mm:Nat)(σ:St)(G:Hp):Prop:=∃(s:WS) (b:Bd) (Wv:List Bd) (ms:List BA) (v5:Option V),σ=[some (.ref wx),some (.ref l1),some (.ref ll),some (.ref m.x),some (.ref lf),v5]/\yx ds ld mm s b Wv=some (s1,fk)/\Keeps (WR m wx e) H G/\dJ H G/\G wx=some (.ins WC gS (dv (s.n:Int) s.lo e))/\fz P w G e es/\es.map (·.1)=s.es/\dh C G m b (2*s.n)/\FK C H G lf ms Wv (2*s.n)/\s.n<=2000/\Wv.length<=17*s.n
theorem MD:aI ["self","new","leads","branch","forks","following"] ["self","new","leads","branch"] (ao J9):=by walk_at "sc1"
def ME:Scope:={kind:=.function,names:=[(".0",.local),("place",.local),("branch",.free)],isGenerator:=false,isCoroutine:=false,more:=[]}
theorem Ey:bZ (ao J9) ME ["self","new","leads","branch","forks","following"] ["place","branch"] [none,some 3]:=by walk_at "sc2"
theorem RI{f fN fR fP fF:Addr}{fd vF DZ z9 Aa:fo}{WC C:Addr}(F:cE K "follow" "Walk.follow" J9 f fd)(T:Txt K w.params mg)(GN:aL P w K mg base bQ 2 fN vF ["new","n"] Rc)(kN:KI K fN)(bN:Binds K vF ["new","n"] [])(mN:mg "next_rows"=some (.ref fN))(TW:WT K WC)(TB:BT K C)(MR:Meth K WC "walk_row" fR)(GR:aL P w K mg base bQ 1 fR DZ ["self"] (RB WC))(bR:Binds K DZ ["self"] [])(MP:Meth K C "pass_row" fP)(GP:aL P w K mg base bQ 1 fP z9 ["self","row"] (RE C))(bP:Binds K z9 ["self","row"] [])(MF:Meth K C "forked" fF)(GF:aL P w K mg base bQ 3 fF Aa ["self","place"] (Rv C))(bF:Binds K Aa ["self","place"] []):aL P w K mg base bQ 4 f fd ["self","new","leads","branch"] (RH (P:=P) (w:=w) WC C):=by
 refine F.ok MD (by walk_at "ln") (fun Lq A outer s H vs Q E hr h=>?_)
 ·obtain⟨wx,gS,e,l1,ll,m,ds,ld,M,s2,s1,b,fk,fu,es,rfl,wO,he,hes,hel,hB,hR,hG,kJ,Ac,UA,MG,hn0,Ww,k⟩:=h;have hu:=jL hr;have hu2:=lt_of_le_of_lt (Nat.add_le_add_left (by decide:2<=64) _) hr.units;have hr1:=hr.mono (show 1<=_ by decide);have hr2:=hr.mono (show 2<=_ by decide)
  refine cu (ak (au (aP (i:=4) MD.nd rfl (Or.inl rfl) (dD aj)))
   (ak (au (o7 PassesOwn.never (sJ (aN w6 (aJ bp (pv 2) (cJ (pv 3) rfl) (fun _ _=>rfl)) ik (aY _)) (ox (sI (jx hu (cJ (pv 3) rfl) (cJ (pv 3) rfl))))).pt (bq (c6 (CQ (pv 0) TW.cl MR GR hr1 bR .nil aU))
   (bq (c6 (sQ (pv 3) TB.cl MP GP hr1 bP .nil aU (ae (aJ bp (pv 1) (cJ (pv 3) rfl) (fun _ _=>rfl)) aj)))
   (bq (aP (i:=5) MD.nd rfl (Or.inl rfl) (aC GN hr2 (by rfl) mN kN bN .nil aU (ae (pv 1) (ae (cJ (pv 3) rfl) aj))))
   (bq (dk (aN eP (aG aS (by rfl) T.len cZ (ae (pv 5) aj)) aq (aY _)) (aA (aE (pv 4))) aO)
   (bq (c6 (iR ij PySem.F.slot_list_extend PySem.F.type_list_extend lI (pv 4) (ae (cO (X:=(gM bQ P w K mg base ["self","new","leads","branch","forks","following"] "Walk.follow" (ao J9) f Lq A outer s H E).uY) (N':=["place","branch"]) (fr:=[none,some 3]) Ey rfl (cQ (gW sT (pv 5) (iw aq) jw)) (fun C s0 H0 fp=>(aR (i:=0) Ey.nd rfl (Or.inl rfl))) (fun C s0 H0 fp=>cB) (fun C s0 H0 fp=>(sQ (pv 1) TB.cl MF GF hr bF .nil aU (ae (pv 0) aj)))) aj)))
   (aA (gL (pv 3) (aJ bp (pv 5) aq (fun _ _=>rfl)) rfl)))))))))
   (ak (bz (aN w6 (aJ bp (pv 2) (cJ (pv 3) rfl) (fun _ _=>rfl)) ik (aY _)) (az (au (gL (pv 0) dW rfl))) (az (au (Hr hu2 (cJ (pv 0) rfl) (aZ (ae (aJ bp (pv 2) (cJ (pv 3) rfl) (fun _ _=>rfl)) (ae (bf eV (by rfl) T.tuple jd (ae (cJ (pv 3) rfl) aj)) aj))) dW rfl))))
   (az (au (aE (pv 4))))))) ?_
  refine L8 fun u0 e0=>?_;refine⟨zle,fun lf vR=>?_⟩;have S0:=ai (o:=.lst []) vR;have h0:upd H lf (.lst []) lf=some (.lst (([]:List BA).map fun m=>V.ref m.x)):=ah;generalize upd H lf (.lst [])=G0 at S0 h0 ⊢;have there:∀c,WR m wx e c->H c≠none:=fun c hc z=>by
   rcases hc with rfl | rfl | hc
   ·rw[wO]at z;cases z
   ·rw[he.1]at z;cases z
   ·obtain⟨u,hu'⟩:=hB.there hc;rw[hu']at z;cases z
  have Kg:¬WR m wx e lf:=fun z=>there lf z vR;have RJ:¬WR m wx e l1:=by
   obtain⟨qs,hq,_⟩:=hR;rintro(rfl | rfl | rfl | rfl | rfl | rfl)
   ·rw[hq]at wO;cases wO
   ·rw[he.1]at hq;cases hq
   ·have:=hB.obj;rw[hq]at this;cases this
   ·exact Ac rfl
   ·obtain⟨_,z,_⟩:=hB.as;rw[hq]at z;cases z
   ·obtain⟨_,z,_⟩:=hB.go;rw[hq]at z;cases z
  have Wx:¬WR m wx e ll:=by
   rintro(rfl | rfl | rfl | rfl | rfl | rfl)
   ·rw[kJ]at wO;cases wO
   ·have:=he.1;rw[kJ]at this;cases this
   ·have:=hB.obj;rw[kJ]at this;cases this
   ·exact UA rfl
   ·obtain⟨_,z,_⟩:=hB.as;rw[kJ]at z;cases z
   ·obtain⟨_,z,_⟩:=hB.go;rw[kJ]at z;cases z
  have UB:wx≠e:=fun z=>by rw[z,he.1]at wO;cases wO
  have nwB:¬ia m wx:=by
   rintro(z | z | z | z)
   ·exact MG z
   ·have:=hB.hd;rw[<-z,wO]at this;cases this
   ·obtain⟨_,y,_⟩:=hB.as;rw[<-z,wO]at y;cases y
   ·obtain⟨_,y,_⟩:=hB.go;rw[<-z,wO]at y;cases y
  have neB:¬ia m e:=by
   have FX:=he.1;unfold dN at FX;rintro(z | z | z | z)
   ·have:=hB.obj;rw[<-z,FX]at this;cases this
   ·have:=hB.hd;rw[<-z,FX]at this;cases this
   ·obtain⟨_,y,_⟩:=hB.as;rw[<-z,FX]at y;cases y
   ·obtain⟨_,y,_⟩:=hB.go;rw[<-z,FX]at y;cases y
  refine QW (v:=u0) e0 fun tb u1 et e1=>?_;refine⟨WfI P w WC C H wx gS e l1 ll lf m ds ld s1 fk es,⟨fu,s2,b,[],[],none,rfl,Ww,.same S0,.same S0,S0 _ _ wO,cz he (.same (R:=fun _=>False) S0) id,hes,hB.same S0,⟨h0,rfl,(fun i m b h=>by simp at h),(fun m hm=>nomatch hm),List.Pairwise.nil⟩,hn0,zero_le _⟩,?_⟩;rintro mm σ G ⟨s3,b3,Pm,vS,v5,rfl,hf,Kp,Gr,Cw,gE,MH,gB,gF,gn,gfl⟩;cases mm with
  | zero=>cases hf
  | succ mm=>
  unfold yx at hf;have UC:=Kp _ _ kJ (.inl Wx);have hlen:b3.pl<ld.length:=by
   by_cases c:b3.pl<ld.length
   ·exact c
   ·rw[List.getElem?_eq_none (by omega)]at hf;cases hf
  have MI:ld[b3.pl]? =some ld[b3.pl]:=aa hlen;rw[MI]at hf;have hat:mQ (ld.map oV) (b3.pl:Int)=some (oV ld[b3.pl]):=cG (by rw[ac,MI];rfl);generalize ld[b3.pl]=lead at hf MI hat;refine⟨_,rfl,_,rfl,m.x,C,m.dx,_,_,rfl,gB.obj,TB.cl,TB.n1,vQ,ll,_,_,_,rfl,rfl,aT.of UC,hat,rfl,?_⟩;cases lead with
  | some kk=>
   refine⟨_,rfl,cC (by simp[oV]) ?_⟩;show if false=true then _ else _;refine cC mx ?_;refine j7 (v:=u1) e1 fun u2 e2=>?_;refine⟨_,rfl,_,rfl,m.x,C,m.dx,_,_,rfl,gB.obj,TB.cl,TB.n1,vQ,ll,_,_,_,rfl,rfl,aT.of UC,hat,rfl,_,rfl,cC (by simp[oV]) ?_⟩;have hf:=Option.some.inj hf;obtain⟨rfl,rfl⟩:=Prod.mk.inj hf;refine⟨_,rfl,wx,WC,gS,_,_,rfl,Cw,TW.cl,TW.n3,w_e,?_⟩;refine⟨_,rfl,_,rfl,m.x,C,m.dx,_,_,rfl,gB.obj,TB.cl,TB.n1,vQ,ll,_,_,_,rfl,rfl,aT.of UC,hat,?_⟩;refine⟨_,rfl,m.x,C,m.dx,_,_,rfl,gB.obj,TB.cl,TB.n2,yw,m.hl,_,rfl,.inl ⟨aT.of gB.hd,fun t1 nt1=>?_⟩⟩;have S1:=ai (o:=.tup (b3.held.map oV)) nt1;have ht1:upd G t1 (.tup (b3.held.map oV)) t1=_:=ah;generalize upd G t1 (.tup (b3.held.map oV))=G1 at S1 ht1 ⊢;refine⟨zle,fun t2 Bx=>?_⟩;have S2:=S1.trans (ai (o:=.tup [oV (some kk),.ref t1]) Bx);have oC:upd G1 t2 (.tup [oV (some kk),.ref t1]) t2=_:=ah;have RK:=ai (o:=.tup [oV (some kk),.ref t1]) Bx _ _ ht1;generalize upd G1 t2 (.tup [oV (some kk),.ref t1])=G2 at S2 oC RK ⊢;have Im:=cz gE (.same (R:=fun _=>False) S2) id;have hk:tu G2 (kk,b3.held) t2:=⟨t1,oC,RK⟩;refine⟨e,t2,es,(kk,b3.held),rfl,rfl,rfl,Im,hk,aK (by omega),?_⟩;refine cutE (v:=u2) e2 ⟨_,rfl,?_⟩;have K3:Keeps (WR m wx e) H (upd G2 e (dN P w e (putN es (kk,b3.held) t2))):=(Kp.trans (.same S2)).upd Im.1 (fun _ z=>nomatch z) (.inr (.inl rfl));have K4:Keeps (fun c=>c=e) G (upd G2 e (dN P w e (putN es (kk,b3.held) t2))):=(Keeps.same S2).upd Im.1 (fun _ z=>nomatch z) rfl;refine k lf vS (putN es (kk,b3.held) t2) _ K3 (Gr.trans ((dJ.same S2).trans dJ.upd)) ?_ ⟨ah,fun x hx=>?_⟩ (by rw[MC,MH]) Ik vR (gF.keeps K4 (fun c hc=>by rw[hc];exact there e (.inr (.inl rfl))) (fun z=>Kg (.inr (.inl z))) (le_refl _)) gn
   ·rw[aw UB];exact S2 _ _ Cw
   ·have hx':tu G2 x.1 x.2:=by
     unfold putN at hx;split at hx
     ·exact Im.2 x hx
     ·rcases mem_append.mp hx with z | z
      ·exact Im.2 x z
      ·rw[mem_singleton.mp z];exact hk
    exact hx'.upd Im.1 (fun _ z=>nomatch z)
  | none=>
   obtain⟨kvg,c1,c2,c3⟩:=id gB.go;refine⟨_,rfl,df rfl ?_⟩;refine⟨_,rfl,m.x,C,m.dx,_,_,rfl,gB.obj,TB.cl,TB.n1,vQ,_,rfl,m.x,C,m.dx,_,_,rfl,gB.obj,TB.cl,TB.n4,Mv,m.gd,_,rfl,eO.k (k:=Sum.inl (b3.pl:Int)) c1,?_⟩;rw[c2];have hf:(if b3.gn b3.pl=true then some ({s3 with lo:=true},Pm)else _)=_:=hf;by_cases cg:b3.gn b3.pl=true
   ·rw[if_pos cg]at hf;have hf:=Option.some.inj hf;obtain⟨rfl,rfl⟩:=Prod.mk.inj hf;rw[cg];refine⟨_,rfl,cC (by decide) ?_⟩;refine j7 (v:=u1) e1 fun u2 e2=>?_;refine⟨_,rfl,_,rfl,m.x,C,m.dx,_,_,rfl,gB.obj,TB.cl,TB.n1,vQ,ll,_,_,_,rfl,rfl,aT.of UC,hat,rfl,_,rfl,df rfl ?_⟩;refine⟨_,rfl,wx,WC,gS,_,rfl,Cw,TW.cl,TW.n2,Kf,?_⟩;rw[Mx];refine cutE (v:=u2) e2 ⟨_,rfl,?_⟩;have K4:Keeps (fun c=>c=wx) G (upd G wx (.ins WC gS (dv (s3.n:Int) true e))):=Keeps.refl.upd Cw (fun _ z=>nomatch z) rfl;refine k lf vS es _ (Kp.upd Cw (fun _ z=>nomatch z) (.inl rfl)) (Gr.trans dJ.upd) ah (cz gE K4 (fun z=>UB z.symm)) MH (by omega) vR (gF.keeps K4 (fun c hc=>by rw[hc];exact there wx (.inl rfl)) (fun z=>Kg (.inl z)) (le_refl _)) gn
   ·rw[if_neg cg]at hf;rw[Bool.eq_false_iff.mpr cg];refine⟨_,rfl,df rfl ?_⟩;by_cases cn:2000<s3.n+1
    ·rw[if_pos cn]at hf;cases hf
    rw[if_neg cn]at hf;have hdl:b3.pl<ds.length:=by
     by_cases c:b3.pl<ds.length
     ·exact c
     ·rw[List.getElem?_eq_none (by omega)]at hf;cases hf
    have hdi:ds[b3.pl]? =some ds[b3.pl]:=aa hdl;have hgd:=hG _ (bn hdl);rw[hdi]at hf;generalize ds[b3.pl]=d at hf hdi hgd;dsimp only at hf;refine⟨WfI P w WC C H wx gS e l1 ll lf m ds ld s1 fk es mm,fun σ' G' hw=>⟨mm,Nat.lt_succ_self _,hw⟩,?_⟩;refine j7 (v:=tb) et fun u2 e2=>?_;refine⟨_,rfl,wx,gS,_,rfl,Cw,Rt (by decide+kernel),wx,gS,e,s3.n,s3.lo,rfl,Cw,by omega,?_⟩;have K1:Keeps (fun c=>c=wx) G (upd G wx (.ins WC gS (dv ((s3.n+1:Nat):Int) s3.lo e))):=Keeps.refl.upd Cw (fun _ z=>nomatch z) rfl;have UD:=Kp.upd (o':=.ins WC gS (dv ((s3.n+1:Nat):Int) s3.lo e)) Cw (fun _ z=>nomatch z) (.inl rfl);have wN:dJ H (upd G wx (.ins WC gS (dv ((s3.n+1:Nat):Int) s3.lo e))):=Gr.trans dJ.upd;have By:upd G wx (.ins WC gS (dv ((s3.n+1:Nat):Int) s3.lo e)) wx=_:=ah;have RL:=cz gE K1 (fun z=>UB z.symm);have UE:=gB.keeps K1 (fun c hc z=>nwB (z▸hc));have gF1:=gF.keeps (M:=2*s3.n) K1 (fun c hc=>by rw[hc];exact there wx (.inl rfl)) (fun z=>Kg (.inl z)) (le_refl _);generalize upd G wx (.ins WC gS (dv ((s3.n+1:Nat):Int) s3.lo e))=G1 at UD wN By RL UE gF1 ⊢;refine j7 (v:=u2) e2 fun u2 e2=>?_;have k7:cw G1 l1 ds:=by obtain⟨qs,a1,a2,a3⟩:=hR;exact⟨qs,UD _ _ a1 (.inl RJ),a2,fun i q d h1 h2=>(a3 i q d h1 h2).tups UD.tups⟩
    obtain⟨xs,q,a1,a2,a3⟩:=k7.row hdi;refine⟨_,rfl,m.x,m.dx,_,rfl,UE.obj,Rp (by decide+kernel),_,rfl,_,rfl,m.x,C,m.dx,_,_,rfl,UE.obj,TB.cl,TB.n1,vQ,l1,_,_,.ref q,rfl,rfl,aT.of a1,a2,m,b3,2*s3.n,q,d,M,rfl,UE,by omega,a3,hgd,fun G2 K2 Gr2 gB2=>?_⟩;have Wy:Keeps (WR m wx e) G1 G2:=K2.more fun c hc=>.inr (.inr (.inr hc));have Kp2:=UD.trans Wy;have RM:=K2 _ _ By (.inl fun z=>nwB (.inr z));have Im:=cz RL K2 (fun z=>neB (.inr z));have Wz:=gF1.keeps (M:=2*(s3.n+1)) K2 (fun c hc=>there c (.inr (.inr (.inr hc)))) (fun z=>Kg (.inr (.inr (.inr z)))) (by omega);have RN:=wN.trans Gr2;have Gc:cw G2 l1 ds:=by obtain⟨qs,a1,a2,a3⟩:=k7;exact⟨qs,Wy _ _ a1 (.inl RJ),a2,fun i q d h1 h2=>(a3 i q d h1 h2).tups Wy.tups⟩
    refine j7 (v:=u2) e2 fun u2 e2=>?_;have hpl:(cX b3 d).pl=b3.pl:=by unfold cX;split;rfl;split;rfl;split;rfl;split<;>rfl
    have RO:=gB2.obj;rw[hpl]at RO;refine⟨_,rfl,_,rfl,m.x,C,m.dx,_,_,rfl,RO,TB.cl,TB.n1,vQ,l1,ds,b3.pl,d,rfl,Gc,hdi,hgd.ts.1,fun l G3 S3 nl hl=>?_⟩;refine j7 (v:=u2) e2 fun u2 e2=>?_;have hnp:=Il hgd (p:=b3.pl);have hnl:=Ad hgd (b3.pl:Int);refine⟨_,rfl,l,_,rfl,.inl (aT.of hl),rfl,_,rfl,?_⟩;cases hnx:nxt d b3.pl with
    | nil=>
     rw[hnx]at hf hl;have hf:=Option.some.inj hf;obtain⟨rfl,rfl⟩:=Prod.mk.inj hf;refine df rfl ?_;exact⟨_,rfl,k lf vS es G3 (Kp2.trans (.same S3)) (RN.trans (.same S3)) (S3 _ _ RM) (cz Im (.same (R:=fun _=>False) S3) id) MH (by omega) vR (Wz.keeps (.same (R:=fun _=>False) S3) (fun _ z=>z.elim) id (le_refl _)) (by show s3.n+1<=2000;omega)⟩
    | cons p ps=>
     rw[hnx]at hf hl hnp hnl;dsimp only at hf;have hp0:=hnp p mem_cons_self;have hps:∀q∈ps,0<=q:=fun q hq=>hnp q (List.mem_cons_of_mem _ hq);rw[length_cons]at hnl;refine cC (fun z=>by have:=V.int.inj (of_decide_eq_true z);rw[length_map,length_cons]at this;omega) ?_;refine j7 (v:=u2) e2 fun u2 e2=>?_;have gB3:=gB2.same S3;have Pn:=Wz.keeps (.same (R:=fun _=>False) S3) (fun _ z=>z.elim) id (le_refl _);refine⟨_,rfl,.inl ⟨rfl,_,aT.of Pn.lst⟩,_,rfl,1,rfl,l,_,rfl,aT.of hl,fun l2 lu=>?_⟩;rw[map_cons,J3];have S4:=ai (o:=.lst (ps.map V.int)) lu;have h2:upd G3 l2 (.lst (ps.map V.int)) l2=_:=ah;generalize upd G3 l2 (.lst (ps.map V.int))=G4 at S4 h2 ⊢;refine⟨l2,rfl,⟨_,aT.of h2⟩,fun D nD=>dO (K:=K) (xs:=ps.map V.int) (fun i σ ys G'=>∃(v:Option V) (ms:List BA),σ=[v,some (.ref m.x)]/\ys=ms.map (fun m=>V.ref m.x)/\ms.length=i/\Same G4 G'/\G' D=some (.lst ys)/\(∀(j:Nat) m' q,ms[j]? =some m'->ps[j]? =some q->dh C G' m' {cX b3 d with pl:=q.toNat} (2*(s3.n+1)))/\(∀m'∈ms,qf G4 m'/\¬ia m' D)/\ms.Pairwise Ij) ?_ ?_ ?_ ?_⟩
     ·exact⟨none,[],rfl,rfl,rfl,ai nD,ah,(fun j m' q h=>by simp at h),(fun m' hm=>nomatch hm),List.Pairwise.nil⟩
     ·rintro i σ ys G' _ ⟨v,ms,rfl,rfl,_,S5,_⟩;exact aT.of (S5 _ _ h2)
     ·rintro i x σ ys G' hx ⟨v,ms,rfl,rfl,hml,S5,hD,hbr,hnew,MJ⟩;rw[ac]at hx;obtain⟨q0,hq0,rfl⟩:=map_eq_some_iff.mp hx;have hil:=(ag.mp hq0).1;have WB:=hps q0 (al hq0);have UG:=(gB3.same S4).same S5;refine⟨_,rfl,m.x,m.dx,_,rfl,UG.obj,Rp (by decide+kernel),_,rfl,m,cX b3 d,2*(s3.n+1),q0.toNat,by rw[Int.toNat_of_nonneg WB];rfl,UG,fun m1 G6 S6 WD hB6=>?_⟩;have wM:=S6 _ _ hD;have K6:Keeps (fun c=>c=D) G6 (upd G6 D (.lst (ms.map (fun m=>V.ref m.x)++ [V.ref m1.x]))):=Keeps.refl.upd wM (fun _ z=>nomatch z) rfl;have nmD:¬ia m1 D:=fun z=>by have:=WD.own z;rw[hD]at this;cases this
      refine⟨wM,aK (by rw[length_map];omega),_,ms++ [m1],rfl,by rw[map_append];rfl,by rw[length_append,hml];rfl,aF (S5.trans S6) nD,ah,fun j m' q h1 h2=>?_,fun m' hm=>?_,?_⟩
      ·by_cases c:j<ms.length
       ·rw[av c]at h1;exact((hbr j m' q h1 h2).same S6).keeps K6 fun c hc z=>(hnew m' (al h1)).2 (z▸hc)
       ·have c':j=i:=by have:=(ag.mp h1).1;rw[length_append]at this;simp at this;omega
        subst c';rw[bc (by omega),hml,sub_self]at h1;cases h1;rw[hq0]at h2;cases h2;exact hB6.keeps K6 fun c hc z=>nmD (z▸hc)
      ·rcases mem_append.mp hm with z | z
       ·exact hnew m' z
       ·rw[mem_singleton.mp z];exact⟨WD.of S5,nmD⟩
      ·refine pairwise_append.mpr ⟨MJ,List.pairwise_singleton _ _,fun a ha b hb=>?_⟩;rw[mem_singleton.mp hb];intro c hc z;obtain⟨j,hj⟩:=List.getElem?_of_mem ha;have hjl:=(ag.mp hj).1;obtain⟨u,hu'⟩:=(hbr j a (ps[j]'(by omega)) hj (aa _)).there hc;rw[WD.own z]at hu';cases hu'
     rintro σ ys G' ⟨v,ms,rfl,rfl,hml,S5,hD,hbr,hnew,MJ⟩;rw[length_map]at hml;have MK:=S4.trans S5;have Gf:=Pn.keeps (.same (R:=fun _=>False) MK) (fun _ z=>z.elim) id (le_refl _);have UG:=gB3.same MK;have hlfx:vS.length<=40000:=by rw[Pn.len];omega
     refine⟨lf,D,_,_,rfl,rfl,Gf.lst,hD,le_trans (show _<=1000000 by rw[length_map,length_map];omega) (by decide),?_⟩;rw[<-map_append];have Ez:∀m'∈ms,qf G3 m':=fun m' hm=>(hnew m' hm).1.of S4;have EA:dJ H G3:=RN.trans (.same S3);have RP:∀m'∈ms,¬ia m' lf:=fun m' hm z=>by have:=(Ez m' hm).own z;rw[Pn.lst]at this;cases this
     have K6:Keeps (fun c=>c=lf) G' (upd G' lf (.lst ((vS++ms).map fun m=>V.ref m.x))):=Keeps.refl.upd Gf.lst (fun _ z=>nomatch z) rfl;have WG:l≠lf:=fun z=>by have:=Wz.lst;rw[<-z,nl]at this;cases this
     have Pp:upd G' lf (.lst ((vS++ms).map fun m=>V.ref m.x)) l=_:=(aw WG).trans (MK _ _ hl);have Cy:=UG.keeps K6 (fun c hc z=>Kg (.inr (.inr (z▸hc))));have RQ:=K6 _ _ (MK _ _ (S3 _ _ RM)) (.inl fun z=>Kg (.inl z.symm));have gE6:=cz Im ((Keeps.same (S3.trans MK)).trans K6) (fun z=>Kg (.inr (.inl z.symm)));have Kp6:Keeps (WR m wx e) H (upd G' lf (.lst ((vS++ms).map fun m=>V.ref m.x))):=fun c o hc n=>by have h1:=(Kp2.trans (.same (S3.trans MK))) c o hc n;rw[aw (fun z=>by rw[z,vR]at hc;cases hc)];exact h1
     have Gr6:dJ H (upd G' lf (.lst ((vS++ms).map fun m=>V.ref m.x))):=EA.trans ((dJ.same MK).trans dJ.upd);have gF6:FK C H (upd G' lf (.lst ((vS++ms).map fun m=>V.ref m.x))) lf (vS++ms) (Pm++ps.map fun q=>{cX b3 d with pl:=q.toNat}) (2*(s3.n+1)):=by
      refine⟨ah,by rw[length_append,length_append,length_map,Gf.len,hml],fun i m' b' h1 h2=>?_,fun m' hm=>?_,pairwise_append.mpr ⟨Gf.ap,MJ,fun a ha b hb c hc z=>?_⟩⟩
      ·by_cases c:i<vS.length
       ·rw[av c]at h1;rw[av (by rw[<-Gf.len];exact c)]at h2;exact(Gf.at_ i m' b' h1 h2).keeps K6 fun c hc z=>(Gf.new m' (al h1)).2 (z▸hc)
       ·rw[bc (by omega)]at h1;rw[bc (by rw[<-Gf.len];omega),<-Gf.len,ac]at h2;obtain⟨q',hq',rfl⟩:=map_eq_some_iff.mp h2;exact(hbr _ m' q' h1 hq').keeps K6 fun c hc z=>RP m' (al h1) (z▸hc)
      ·rcases mem_append.mp hm with z | z
       ·exact Gf.new m' z
       ·have h1:=Ez m' z;exact⟨⟨EA _ h1.1,EA _ h1.2.1,EA _ h1.2.2.1,EA _ h1.2.2.2⟩,RP m' z⟩
      ·obtain⟨j,hj⟩:=List.getElem?_of_mem ha;have hjl:=(ag.mp hj).1;obtain⟨u,hu'⟩:=(Pn.at_ j a (Pm[j]'(by rw[<-Pn.len];exact hjl)) hj (aa _)).there hc;rw[(Ez b hb).own z]at hu';cases hu'
     generalize upd G' lf (.lst ((vS++ms).map fun m=>V.ref m.x))=G6 at Pp Cy RQ gE6 Kp6 Gr6 gF6 ⊢;refine cutE (v:=u2) e2 ?_;refine⟨_,rfl,l,_,0,_,rfl,rfl,aT.of Pp,at0 _ _,_,rfl,m.x,C,m.dx,_,rfl,Cy.obj,TB.cl,TB.n1,Rr,?_⟩;rw[Rq,show V.int p=V.int ((p.toNat:Nat):Int) by rw[Int.toNat_of_nonneg hp0]];have K7:Keeps (fun c=>c=m.x) G6 (upd G6 m.x (.ins C m.dx (jP m (.int ((p.toNat:Nat):Int))))):=Keeps.refl.upd Cy.obj (fun _ z=>nomatch z) rfl;obtain⟨k1,a1,a2,a3⟩:=id Cy.as;obtain⟨k2,b1,b2,b3'⟩:=id Cy.go;refine⟨{s3 with n:=s3.n+1},{cX b3 d with pl:=p.toNat},_,vS++ms,_,rfl,hf,Kp6.upd Cy.obj (fun _ z=>nomatch z) (.inr (.inr (.inl rfl))),Gr6.trans dJ.upd,(aw MG).trans RQ,cz gE6 K7 (fun z=>neB (.inl z)),MH,⟨ah,(aw (Ne.symm Cy.nxh)).trans Cy.hd,Cy.h8,⟨k1,(aw (Ne.symm Cy.nxa)).trans a1,a2,a3⟩,⟨k2,(aw (Ne.symm Cy.nxg)).trans b1,b2,b3'⟩,Cy.Ke⟩,gF6.keeps K7 (fun c hc=>by rw[hc];exact there m.x (.inr (.inr (.inl rfl)))) (fun z=>Kg (.inr (.inr (.inl z)))) (le_refl _),?_,?_⟩
     ·show s3.n+1<=2000;omega
     ·show _<=17*(s3.n+1);rw[length_append,length_map];omega
def b0(st:Nat):Bd:=⟨st,[some 0,some 1,some 2,some 3,some 4,some 5,some 6,some 7],fun _=>none,fun _=>false⟩
def ML(ds:List FR)(ld:List (Option Int)):Nat->WS->List Bd->Option WS
 | 0,_,_=>none
 | f+1,s,ws=>match ws.getLast? with
  | none=>some s
  | some b=>match yx ds ld 2002 s b []with
   | none=>none
   | some r=>ML ds ld f r.1 (ws.dropLast++r.2)
def nh(ds:List FR)(ld:List (Option Int))(st:Nat)(s:WS):Prop:=∃fu,fu<=50000/\ML ds ld fu ⟨0,false,[]⟩ [b0 st]=some s
theorem Ae{ds:List FR}{ld:List (Option Int)}{M:Int}(hG:∀d∈ds,GF M d){s1:WS}{Pq:List Bd}:∀(f:Nat) (s:WS) (b:Bd) (fk:List Bd),yx ds ld f s b fk=some (s1,Pq)->s.n<=s1.n/\Pq.length<=fk.length+17*(s1.n-s.n)
 | 0,_,_,_,h=>by cases h
 | f+1,s,b,fk,h=>by
  unfold yx at h;split at h
  ·have h:=Option.some.inj h;obtain⟨rfl,rfl⟩:=Prod.mk.inj h;exact⟨le_refl _,by omega⟩
  ·split at h
   ·have h:=Option.some.inj h;obtain⟨rfl,rfl⟩:=Prod.mk.inj h;exact⟨le_refl _,by omega⟩
   ·split at h
    ·cases h
    ·split at h
     ·cases h
     ·rename_i d hd;have hg:=Ad (hG d (al hd)) (b.pl:Int);split at h
      ·have h:=Option.some.inj h;obtain⟨rfl,rfl⟩:=Prod.mk.inj h;exact⟨by show s.n<=s.n+1;omega,by omega⟩
      ·rename_i p ps hn;rw[hn,length_cons]at hg;obtain⟨h1,h2⟩:=Ae hG f _ _ _ h;have h1:s.n+1<=s1.n:=h1;have h2:Pq.length<=(fk++ps.map fun q=>({cX b d with pl:=q.toNat}:Bd)).length+17*(s1.n- (s.n+1)):=h2;rw[length_append,length_map]at h2;exact⟨by omega,by omega⟩
  ·cases h
inductive RR(WC:Addr)(vs:List V)(H:Hp)(Q:VK)(E_:XK):Prop
 | mk (l1 ll:Addr) (ds:List FR) (ld:List (Option Int)) (M:Int) (st:Nat) (s1:WS) (_:vs=[.ref l1,.ref ll,.int (st:Int)]) (_:cw H l1 ds) (_:(∀d∈ds,GF M d)) (_:H ll=some (.lst (ld.map oV))) (_:nh ds ld st s1) (_:∀(wx gS e:Addr) (es:List (NK×Addr)) (H1:Hp),Same H H1->H wx=none->H e=none->H1 wx=some (.ins WC gS (dv (s1.n:Int) s1.lo e))->fz P w H1 e es->es.map (·.1)=s1.es->Q (.ref wx) H1)
theorem Io:aI ["new","leads","start","walk","waiting","branch"] ["new","leads","start"] (ao jb):=by walk_at "sc1"
theorem ua{f:Addr}{fd:fo}{fW fB fF:Addr}{kZ RS Aa:fo}{WC C:Addr}(F:cE K "walk_from" "walk_from" jb f fd)(T:Txt K w.params mg)(TW:WT K WC)(TB:BT K C)(MkW:Mk K WC fW)(GW:aL P w K mg base bQ 1 fW kZ ["self"] (Rz (P:=P) (w:=w) WC))(bW:Binds K kZ ["self"] [])(mW:mg "Walk"=some (.ref WC))(MkB:Mk K C fB)(GB:aL P w K mg base bQ 1 fB RS ["self","place","held","held_aside","gone"] (Mz C))(bB:Binds K RS ["self","place","held","held_aside","gone"] [])(mB:mg "Branch"=some (.ref C))(MF:Meth K WC "follow" fF)(GF:aL P w K mg base bQ 4 fF Aa ["self","new","leads","branch"] (RH (P:=P) (w:=w) WC C))(bF:Binds K Aa ["self","new","leads","branch"] []):aL P w K mg base bQ 5 f fd ["new","leads","start"] (RR (P:=P) (w:=w) WC):=by
 refine F.ok Io (by walk_at "ln") (fun Lq A outer s H vs Q E hr h=>?_)
 ·obtain⟨l1,ll,ds,ld,M,st,s1,rfl,hR,hG,kJ,hwk,k⟩:=h;have hr2:=hr.mono (show 2<=_ by decide);obtain⟨pb,hpb,UH⟩:=T.LY;obtain⟨fu,hfu,hwk⟩:=hwk
  refine cu (ak (au (aP (i:=3) Io.nd rfl (Or.inl rfl) (CT MkW GW hr2 (by rfl) mW bW .nil aU)))
   (ak (au (aP (i:=4) Io.nd rfl (Or.inl rfl) (dD (ae (zt MkB GB hr2 (by rfl) mB bB .nil aU (ae (pv 2) (ae (bf eC (by rfl) T.list d6 (ae (cF (v:=.ref pb) (by rfl) hpb rfl) aj)) (ae gY (ae gY aj))))) aj))))
   (ak (au (o7 PassesOwn.never (aN rM (aG aS (by rfl) T.len cZ (ae (pv 4) aj)) aq (aY _)) (bq (aP (i:=5) Io.nd rfl (Or.inl rfl) (dw ij PySem.F.slot_list_pop PySem.F.type_list_pop dy (pv 4)))
   (aA (c6 (iR ij PySem.F.slot_list_extend PySem.F.type_list_extend lI (pv 4) (ae (sQ (pv 3) TW.cl MF GF hr bF .nil aU (ae (pv 0) (ae (pv 1) (ae (pv 5) aj)))) aj)))))))
   (az (au (aE (pv 3))))))) ?_
  intro wx gS MG WH nww;refine⟨wx,gS,rfl,ah,fun e G1 ne1 k1 MN WK=>⟨rfl,?_⟩⟩;have hcx:∀c o,H c=some o->c≠wx:=fun c o h z=>by rw[z,MG]at h;cases h
  have hcd:∀c o,H c=some o->c≠gS:=fun c o h z=>by rw[z,WH]at h;cases h
  have S1:Same H G1:=fun c o h=>k1 c o (hcx c o h) (by rw[aw (hcx c o h),aw (hcd c o h)];exact h);have RT:e≠wx:=fun z=>by rw[z,ah]at ne1;cases ne1
  have neH:H e=none:=by
   cases h:H e with
   | none=>rfl
   | some o=>rw[aw RT,aw (hcd e o h),h]at ne1;cases ne1
  refine⟨_,rfl,pb,_,rfl,.inr (UH _),fun l2 lu=>?_⟩;have S2:=ai (o:=.lst ([0,1,2,3,4,5,6,7].map V.int)) lu;have h2:upd G1 l2 (.lst ([0,1,2,3,4,5,6,7].map V.int)) l2=_:=ah;generalize upd G1 l2 (.lst ([0,1,2,3,4,5,6,7].map V.int))=G2 at S2 h2 ⊢;intro p3 np3;have S3:=ai (o:=.dK []) np3;have h3:upd G2 p3 (.dK []) p3=_:=ah;generalize upd G2 p3 (.dK [])=G3 at S3 h3 ⊢;intro p4 WL;have S4:=ai (o:=.dK []) WL;have h4:upd G3 p4 (.dK []) p4=_:=ah;have WM:p3≠p4:=fun z=>by rw[z,WL]at h3;cases h3
  generalize upd G3 p4 (.dK [])=G4 at S4 h4 ⊢;intro bx EB nbx WN nbb;refine⟨bx,EB,_,_,_,_,rfl,ah,rfl,?_⟩;rw[jt];have WO:upd G4 EB (.own bx) bx=none:=by rw[aw (Ne.symm nbb)];exact nbx
  have S5:=(ai (o:=.own bx) WN).trans (ai (o:=.ins C EB (eL.zip [V.int (st:Int),.ref l2,.ref p3,.ref p4])) WO);have h5:upd (upd G4 EB (.own bx)) bx (.ins C EB (eL.zip [V.int (st:Int),.ref l2,.ref p3,.ref p4])) bx=_:=ah;generalize upd (upd G4 EB (.own bx)) bx (.ins C EB (eL.zip [V.int (st:Int),.ref l2,.ref p3,.ref p4]))=G5 at S5 h5 ⊢;have WQ:=S3.trans (S4.trans S5);have hBr:dh C G5 ⟨bx,EB,l2,p3,p4⟩ (b0 st) 0:=⟨h5,WQ _ _ h2,rfl,⟨[],S5 _ _ (S4 _ _ h3),fun j=>rfl,le_refl _⟩,⟨[],S5 _ _ h4,fun j=>rfl,le_refl _⟩,WM⟩;have Gr:∀(G G':Hp),Same G G'->∀c,G' c=none->G c=none:=fun G G' s c n=>dJ.same s c n;have hBn:qf G1 ⟨bx,EB,l2,p3,p4⟩:=⟨Gr _ _ (S2.trans (S3.trans S4)) _ nbx,lu,Gr _ _ S2 _ np3,Gr _ _ (S2.trans S3) _ WL⟩;refine⟨zle,fun lw Eb=>?_⟩;have S6:=ai (o:=.lst [V.ref bx]) Eb;have h6:upd G5 lw (.lst [V.ref bx]) lw=some (.lst (([⟨bx,EB,l2,p3,p4⟩]:List BA).map fun m=>V.ref m.x)):=ah;generalize upd G5 lw (.lst [V.ref bx])=G6 at S6 h6 ⊢;have UI:=S2.trans (WQ.trans S6);have EC:G1 lw=none:=Gr _ _ (S2.trans WQ) _ Eb;have ED:H lw=none:=Gr _ _ S1 _ EC;have UB:wx≠e:=Ne.symm RT;have MO:lw≠wx:=fun z=>by rw[z,MN]at EC;cases EC
  have MQ:lw≠e:=fun z=>by rw[z,WK.1]at EC;cases EC
  have EF:∀m:BA,qf G1 m->¬ia m wx/\¬ia m e:=fun m hm=>⟨(fun z=>by have:=hm.own z;rw[MN]at this;cases this),(fun z=>by have:=hm.own z;rw[WK.1]at this;cases this)⟩;refine⟨fun mm σ G=>∃(s:WS) (ws:List Bd) (ms:List BA) (es:List (NK×Addr)) (v5:Option V),σ=[some (.ref l1),some (.ref ll),some (.int (st:Int)),some (.ref wx),some (.ref lw),v5]/\ML ds ld mm s ws=some s1/\Same H G/\G wx=some (.ins WC gS (dv (s.n:Int) s.lo e))/\fz P w G e es/\es.map (·.1)=s.es/\es.length+mm<=50000/\FK C G1 G lw ms ws (2*s.n)/\s.n<=2000/\ws.length<=1+17*s.n/\dJ G1 G,⟨fu,⟨0,false,[]⟩,[b0 st],[⟨bx,EB,l2,p3,p4⟩],[],none,rfl,hwk,S1.trans UI,UI _ _ MN,cz WK (.same (R:=fun _=>False) UI) id,rfl,by simpa using hfu,⟨h6,rfl,fun i m b h1 h2=>?_,fun m hm=>?_,List.pairwise_singleton _ _⟩,zero_le _,le_refl _,.same UI⟩,?_⟩
  ·have hi:i=0:=by have:=(ag.mp h1).1;simpa using this
   subst hi;cases h1;cases h2;exact hBr.same S6
  ·rw[mem_singleton.mp hm];refine⟨hBn,fun z=>?_⟩;obtain⟨u,hu⟩:=hBr.there z;rw[Eb]at hu;cases hu
  rintro mm σ G ⟨s,ws,ms,es,v5,rfl,hw,SG,Cw,gE,MH,gEl,gF,gn,gwl,gGr⟩;cases mm with
  | zero=>cases hw
  | succ mm=>
  unfold ML at hw;have hml:=gF.len;refine⟨_,rfl,lw,_,rfl,.inl (aT.of gF.lst),_,_,rfl,rfl,_,rfl,?_⟩;cases su:ws.getLast? with
  | none=>
   have hws:ws=[]:=List.getLast?_eq_none_iff.mp su;rw[su]at hw;have hw:=Option.some.inj hw;subst hw;refine cC (fun z=>?_) ⟨_,rfl,k wx gS e es G SG MG neH Cw gE MH⟩;have:=of_decide_eq_true z;rw[length_map,hml,hws]at this;simp at this
  | some b=>
   rw[su]at hw;dsimp only at hw;have QX:0<ws.length:=by
    rcases Nat.eq_zero_or_pos ws.length with z | z
    ·rw[List.length_eq_zero_iff.mp z]at su;cases su
    ·exact z
   have RU:0<ms.length:=by omega
   refine df (decide_eq_true (by rw[length_map];omega)) ?_;have hbi:ws[ws.length-1]? =some b:=by rw[<-List.getLast?_eq_getElem?];exact su
   have hmi:ms[ms.length-1]? =some (ms[ms.length-1]'(by omega)):=aa _;have hmm:(ms[ms.length-1]'(by omega))∈ms:=bn _;generalize (ms[ms.length-1]'(by omega))=m at hmi hmm;have hBm:dh C G m b (2*s.n):=gF.at_ (ms.length-1) m b hmi (by rw[hml];exact hbi);obtain⟨hnm,hnl⟩:=gF.new m hmm;have hmd:ms.dropLast++ [m]=ms:=by
    have hne:ms≠ []:=fun z=>by rw[z]at RU;simp at RU
    have e1:ms.getLast hne=m:=by
     have:ms.getLast? =some m:=by rw[List.getLast?_eq_getElem?];exact hmi
     rw[List.getLast?_eq_some_getLast hne]at this;exact Option.some.inj this
    rw[<-e1];exact List.dropLast_concat_getLast hne
   refine⟨_,fun σ' G' hw'=>⟨mm,Nat.lt_succ_self _,hw'⟩,?_⟩;refine⟨_,rfl,.inl ⟨rfl,_,aT.of gF.lst⟩,lw,_,.ref m.x,rfl,rfl,gF.lst,by rw[length_map,ac,hmi];rfl,?_⟩;rw[<-List.map_dropLast];have Kd:Keeps (fun c=>c=lw) G (upd G lw (.lst (ms.dropLast.map fun m=>V.ref m.x))):=Keeps.refl.upd gF.lst (fun _ z=>nomatch z) rfl;have UJ:Same H (upd G lw (.lst (ms.dropLast.map fun m=>V.ref m.x))):=fun c o h=>(aw (fun z=>by rw[z,ED]at h;cases h)).trans (SG c o h);have By:=Kd _ _ Cw (.inl (Ne.symm MO));have RL:=cz gE Kd (Ne.symm MQ);have EG:upd G lw (.lst (ms.dropLast.map fun m=>V.ref m.x)) lw=_:=ah;have Ip:∀(i:Nat) m' b',ms[i]? =some m'->ws[i]? =some b'->dh C (upd G lw (.lst (ms.dropLast.map fun m=>V.ref m.x))) m' b' (2*s.n):=fun i m' b' h1 h2=>(gF.at_ i m' b' h1 h2).keeps Kd fun c hc z=>(gF.new m' (al h1)).2 (z▸hc);have wN:dJ G1 (upd G lw (.lst (ms.dropLast.map fun m=>V.ref m.x))):=gGr.trans dJ.upd;generalize upd G lw (.lst (ms.dropLast.map fun m=>V.ref m.x))=Ga at UJ By RL EG Ip wN ⊢;have EH:∀(i:Nat) m',ms.dropLast[i]? =some m'->ms[i]? =some m'/\i<ms.length-1:=fun i m' h=>by have hi:=(ag.mp h).1;rw[length_dropLast]at hi;rw[List.getElem?_dropLast,if_pos hi]at h;exact⟨h,hi⟩
   have MS:∀(i:Nat) b',ws.dropLast[i]? =some b'->ws[i]? =some b':=fun i b' h=>by have hi:=(ag.mp h).1;rw[length_dropLast]at hi;rw[List.getElem?_dropLast,if_pos hi]at h;exact h
   have hap:ms.dropLast.Pairwise Ij/\∀m'∈ms.dropLast,Ij m' m:=by have:=gF.ap;rw[<-hmd]at this;obtain⟨a,_,c⟩:=pairwise_append.mp this;exact⟨a,fun m' hm=>c m' hm m mem_cons_self⟩
   have hmo:∀m'∈ms,¬ia m' wx/\¬ia m' e/\¬ia m' lw:=fun m' hm=>⟨(EF m' (gF.new m' hm).1).1,(EF m' (gF.new m' hm).1).2,(gF.new m' hm).2⟩;have WU:=Ip (ms.length-1) m b hmi (by rw[hml];exact hbi);have nH:∀c,ia m c->H c=none:=fun c hc=>by
    cases h:H c with
    | none=>rfl
    | some o=>have:=hnm.own hc;rw[S1 c o h]at this;cases this
   cases hfl:yx ds ld 2002 s b []with
   | none=>rw[hfl]at hw;cases hw
   | some r=>
   obtain⟨s3,Pm⟩:=r;rw[hfl]at hw;dsimp only at hw;have hlen3:=Ae hG _ _ _ _ hfl;have hRa:cw Ga l1 ds:=hR.same UJ;have WV:=UJ _ _ kJ;obtain⟨qs1,hq1,_⟩:=id hR;refine⟨_,rfl,.inl ⟨rfl,_,aT.of EG⟩,_,rfl,wx,gS,_,rfl,By,Rt (by decide+kernel),_,rfl,_,rfl,_,rfl,?_⟩;refine⟨wx,gS,e,l1,ll,m,ds,ld,M,s,s3,b,Pm,2002,es,rfl,By,RL,MH,by omega,WU,hRa,hG,WV,?_,?_,?_,gn,hfl,fun lf vS es3 Gb Kb Grb WW gEb WX gElb vR Kh gnb=>?_⟩
   ·intro z;have:=nH m.hl (.inr (.inl rfl));rw[<-z,hq1]at this;cases this
   ·intro z;have:=nH m.hl (.inr (.inl rfl));rw[<-z,kJ]at this;cases this
   ·exact fun z=>(hmo m hmm).1 (.inl z)
   have WY:¬WR m wx e lw:=fun z=>by
    rcases z with z | z | z
    ·exact MO z
    ·exact MQ z
    ·exact(hmo m hmm).2.2 z
   have RV:=Kb _ _ EG (.inl WY);have nlflw:lf≠lw:=fun z=>by rw[z,EG]at vR;cases vR
   refine⟨lw,lf,_,_,rfl,rfl,RV,Kh.lst,le_trans (show _<=1000000 by rw[length_map,length_map,length_dropLast,Kh.len];simp at hlen3;omega) (by decide),?_⟩;rw[<-map_append]
   have SGb:Same H Gb:=fun c o h=>Kb c o (UJ c o h) (.inl fun z=>by
    rcases z with z | z | z
    ·rw[z,MG]at h;cases h
    ·rw[z,neH]at h;cases h
    ·rw[nH c z]at h;cases h)
   have Kc:Keeps (fun c=>c=lw) Gb (upd Gb lw (.lst ((ms.dropLast++vS).map fun m=>V.ref m.x))):=Keeps.refl.upd RV (fun _ z=>nomatch z) rfl;have nRo:∀m'∈ms.dropLast,∀c,ia m' c->¬WR m wx e c:=fun m' hm c hc z=>by
    have hm':=(dropLast_subset _) hm;rcases z with rfl | rfl | z
    ·exact(hmo m' hm').1 hc
    ·exact(hmo m' hm').2.1 hc
    ·exact hap.2 m' hm c hc z
   have RW:∀m'∈vS,¬ia m' lw:=fun m' hm z=>by have:=(Kh.new m' hm).1.own z;rw[EG]at this;cases this
   refine⟨s3,ws.dropLast++Pm,ms.dropLast++vS,es3,_,rfl,hw,fun c o h=>(aw (fun z=>by rw[z,ED]at h;cases h)).trans (SGb c o h),Kc _ _ WW (.inl (Ne.symm MO)),cz gEb Kc (Ne.symm MQ),WX,by omega,⟨ah,by rw[length_append,length_append,length_dropLast,length_dropLast,Kh.len,hml],fun i m' b' h1 h2=>?_,fun m' hm=>?_,pairwise_append.mpr ⟨hap.1,Kh.ap,fun a ha c hc x hx z=>?_⟩⟩,gnb,?_,wN.trans (Grb.trans dJ.upd)⟩
   ·by_cases c:i<ms.dropLast.length
    ·rw[av c]at h1;rw[av (by rw[length_dropLast,<-hml,<-length_dropLast];exact c)]at h2;have hm':=al h1;exact(((Ip i m' b' (EH i m' h1).1 (MS i b' h2)).keeps Kb (nRo m' hm')).keeps Kc fun c hc z=>(hmo m' (dropLast_subset _ hm')).2.2 (z▸hc)).mono (by omega)
    ·rw[bc (by omega)]at h1;rw[bc (by rw[length_dropLast,<-hml,<-length_dropLast];omega)]at h2;have e1:ws.dropLast.length=ms.dropLast.length:=by rw[length_dropLast,length_dropLast,hml]
     rw[e1]at h2;exact(Kh.at_ _ m' b' h1 h2).keeps Kc fun c hc z=>RW m' (al h1) (z▸hc)
   ·rcases mem_append.mp hm with z | z
    ·exact gF.new m' (dropLast_subset _ z)
    ·have h1:=(Kh.new m' z).1;exact⟨⟨wN _ h1.1,wN _ h1.2.1,wN _ h1.2.2.1,wN _ h1.2.2.2⟩,RW m' z⟩
   ·obtain⟨j,hj⟩:=List.getElem?_of_mem ha;obtain⟨hj1,hj2⟩:=EH j a hj;obtain⟨u,hu⟩:=(Ip j a (ws[j]'(by omega)) hj1 (aa _)).there hx;rw[(Kh.new c hc).1.own z]at hu;cases hu
   ·rw[length_append,length_dropLast];simp at hlen3;omega
def vT(dQ:List FR)(pl:Nat->Nat)(r:Nat)(d:FR):List (Int×Int):=(if d.u∈dA then []else [((pl r:Int)+1,(r:Int)+1)])++(((dQ[pl r]?).map FR.ts).getD []).zip d.ts
def eM(di dQ:List FR)(pl:Nat->Nat):Nat->List (Int×Int)
 | 0=>[(0,0)]
 | r+1=>eM di dQ pl r++(match di[r]? with
  | some d=>vT dQ pl r d
  | none=>[])
def gm(H:Hp)(ts:List Addr)(wl:List (Int×Int)):Prop:=ts.length=wl.length/\∀(i:Nat) t x,ts[i]? =some t->wl[i]? =some x->H t=some (.tup [.int x.1,.int x.2])
theorem gm.tups{H H1:Hp}{ts:List Addr}{wl:List (Int×Int)}(h:gm H ts wl)(s:eU H H1):gm H1 ts wl:=⟨h.1,fun i t x a b=>s _ _ (h.2 i t x a b)⟩
theorem gm.app{H:Hp}{ts us:List Addr}{wl vl:List (Int×Int)}(h:gm H ts wl)(g:gm H us vl):gm H (ts++us) (wl++vl):=by
 refine⟨by rw[length_append,length_append,h.1,g.1],fun i t x a b=>?_⟩;by_cases c:i<ts.length
 ·rw[av c]at a;rw[av (by rw[<-h.1];exact c)]at b;exact h.2 i t x a b
 ·rw[bc (by omega)]at a;rw[bc (by rw[<-h.1];omega),<-h.1]at b;exact g.2 _ t x a b
theorem lZ{di dQ:List FR}{pl:Nat->Nat}{n:Int}(hG:∀d∈di,GF n d):∀r,(eM di dQ pl r).length<=1+17*r
 | 0=>by show 1<=1;omega
 | r+1=>by
  have ih:=lZ (dQ:=dQ) (pl:=pl) hG r;show(eM di dQ pl r++_).length<=_;rw[length_append];cases h:di[r]? with
  | none=>show _+0<=_;omega
  | some d=>
   have:=(hG d (al h)).ts.1;show _+(vT dQ pl r d).length<=_;unfold vT;rw[length_append,length_zip];split<;>simp<;>omega
inductive RX(vs:List V)(H:Hp)(Q:VK)(E_:XK):Prop
 | mk (l0 l1 ll:Addr) (di dQ:List FR) (ld:List (Option Int)) (n m:Int) (pl:Nat->Nat) (_:vs=[.ref l0,.ref l1,.ref ll]) (_:cw H l0 di) (_:cw H l1 dQ) (_:(∀d∈di,GF n d)) (_:(∀d∈dQ,GF m d)) (_:H ll=some (.lst (ld.map oV))) (_:ld.length<=5000) (_:di.length<=1000) (_:(∀(r:Nat) d,di[r]? =some d->StandsAt ld r (pl r)/\∃d',dQ[pl r]? =some d'/\d'.ts.length=d.ts.length)) (_:∀(l:Addr) (ts:List Addr) (H1:Hp),Same H H1->H1 l=some (.lst (ts.map V.ref))->gm H1 ts (eM di dQ pl di.length)->Q (.ref l) H1)
theorem EI:aI ["old","new","leads","places","ways","r","row","n"] ["old","new","leads"] (ao gj):=by walk_at "sc1"
theorem nJ{f fP fG fT:Addr}{fd z9 JY zT:fo}(F:cE K "ways_to_walk" "ways_to_walk" gj f fd)(T:Txt K w.params mg)(GP:aL P w K mg base bQ 1 fP z9 ["leads"] Rb)(kP:KI K fP)(bP:Binds K z9 ["leads"] [])(mP:mg "places_of"=some (.ref fP))(GG:aL P w K mg base bQ 1 fG JY ["row"] tM)(kG:KI K fG)(bG:Binds K JY ["row"] [])(mG:mg "goes_on"=some (.ref fG))(GT:aL P w K mg base bQ 1 fT zT ["row"] gb)(kT:KI K fT)(bT:Binds K zT ["row"] [])(mT:mg "targets_of"=some (.ref fT)):aL P w K mg base bQ 2 f fd ["old","new","leads"] RX:=by
 refine F.ok EI (by walk_at "ln") (fun Lq A outer s H vs Q E hr h=>?_)
 ·obtain⟨l0,l1,ll,di,dQ,ld,n,m,pl,rfl,Gd,k7,Ge,Mt,kJ,hll,hl0,hpl,k⟩:=h;have hu:=jL hr;have hr1:=hr.mono (show 1<=_ by decide);obtain⟨qs0,g0,Wk,Wm⟩:=id Gd
  refine cu (ak (au (aP (i:=3) EI.nd rfl (Or.inl rfl) (aC GP hr1 (by rfl) mP kP bP .nil aU (ae (pv 2) aj))))
   (ak (au (aP (i:=4) EI.nd rfl (Or.inl rfl) (dD (ae (aZ (ae aq (ae aq aj))) aj))))
   (ak (au (cY PassesOwn.never rfl (oE rfl T.enum (ae (pv 0) aj)) (iI (K:=K) (i:=5) (j:=6) rfl rfl EI.nd rfl (Or.inl rfl) rfl (Or.inl rfl)) (bq (aP (i:=7) EI.nd rfl (Or.inl rfl) (eE hu (pv 3) (pv 5) (fun _ _=>rfl)))
   (sY (dk (cI (aC GG hr1 (by rfl) mG kG bG .nil aU (ae (pv 6) aj))) (aA (c6 (iR ij im io da (pv 4) (ae (aZ (ae (aM c9 (pv 7) aq) (ae (aM c9 (pv 5) aq) aj))) aj)))) aO)
   (aA (c6 (iR ij PySem.F.slot_list_extend PySem.F.type_list_extend lI (pv 4) (ae (Hz rfl (by rfl) T.list d6 (by rfl) T.zip (ae (aC GT hr1 (by rfl) mT kT bT .nil aU (ae (aJ bp (pv 1) (pv 7) (fun _ _=>rfl)) aj)) (ae (aC GT hr1 (by rfl) mT kT bT .nil aU (ae (pv 6) aj)) aj))) aj))))))))
   (az (au (aE (pv 4))))))) ?_
  refine⟨_,rfl,ll,ld,rfl,kJ,hll,fun pd kvs G1 s1 hpd hv=>?_⟩;refine⟨zle,fun t0 UK=>?_⟩;have s2:=s1.trans (ai (o:=.tup [V.int 0,V.int 0]) UK);have ht0:upd G1 t0 (.tup [V.int 0,V.int 0]) t0=_:=ah;have MT:=ai (o:=.tup [V.int 0,V.int 0]) UK _ _ hpd;generalize upd G1 t0 (.tup [V.int 0,V.int 0])=G2 at s2 ht0 MT ⊢;refine⟨zle,fun lw Eb=>?_⟩;have s3:=ai (o:=.lst [V.ref t0]) Eb;have Cq:upd G2 lw (.lst [V.ref t0]) lw=some (.lst (([t0]:List Addr).map V.ref)):=ah;have RY:=s3 _ _ ht0;have RZ:=s3 _ _ MT;have Ki:pd≠lw:=fun z=>by rw[<-z,MT]at Eb;cases Eb
  have ED:H lw=none:=dJ.same s2 _ Eb;have WZ:=s2.trans s3;generalize upd G2 lw (.lst [V.ref t0])=G3 at WZ Cq RY RZ ⊢;refine⟨_,rfl,l0,rfl,⟨_,aT.of (WZ _ _ g0)⟩,pK (K:=K) (xs:=qs0.map V.ref) (fun i σ G=>∃(v1 v2 v3:Option V) (ts:List Addr),σ=[some (.ref l0),some (.ref l1),some (.ref ll),some (.ref pd),some (.ref lw),v1,v2,v3]/\Same H G/\G pd=some (.dK kvs)/\G lw=some (.lst (ts.map V.ref))/\gm G ts (eM di dQ pl i)) ?_ ?_ ?_ ?_⟩
  ·refine⟨none,none,none,[t0],rfl,WZ,RZ,Cq,rfl,fun i t x h1 h2=>?_⟩;have hi:i=0:=by have:=(ag.mp h1).1;simpa using this
   subst hi;cases h1;cases h2;exact RY
  ·rintro i σ G _ ⟨v1,v2,v3,ts,rfl,s4,_⟩;exact aT.of (s4 _ _ g0)
  ·rintro i x σ G tt hx Cm ⟨v1,v2,v3,ts,rfl,s4,Kj,MU,Iq⟩;rw[ac]at hx;obtain⟨q,hq,rfl⟩:=map_eq_some_iff.mp hx;have hil:i<di.length:=by have:=(ag.mp hq).1;omega
   have hdi:di[i]? =some di[i]:=aa hil;have hgi:=Ge _ (bn hil);generalize di[i]=d at hdi hgi;obtain⟨hst,d',hd',hlen⟩:=hpl i d hdi;have hg':=Mt _ (al hd');have t5:=ai (o:=.tup [V.int i,.ref q]) Cm;have s5:=s4.trans t5;have htt:upd G tt (.tup [V.int i,.ref q]) tt=_:=ah;have Cv:=t5 _ _ Kj;have Ir:=t5 _ _ MU;have UL:=Iq.tups (.of t5);generalize upd G tt (.tup [V.int i,.ref q])=G5 at s5 htt Cv Ir UL ⊢;refine⟨tt,_,rfl,bh.of htt,rfl,_,_,rfl,_,_,rfl,rfl,?_⟩;refine⟨_,rfl,_,rfl,pd,_,rfl,by rw[<-hv i (pl i) hst];exact eO.k (k:=Sum.inl (i:Int)) Cv,?_⟩;have hF:=(Wm i q d hq hdi).same s5;obtain⟨items,hq5,_⟩:=hF.parts;have hwI:eM di dQ pl (i+1)=eM di dQ pl i++vT dQ pl i d:=by show eM di dQ pl i++_=_;rw[hdi]
   have hwl:=lZ (dQ:=dQ) (pl:=pl) Ge i;have O9:ts.length<=1+17*i:=by rw[UL.1];exact hwl
   refine⟨fun σ' G6=>∃O5:List Addr,σ'=[some (.ref l0),some (.ref l1),some (.ref ll),some (.ref pd),some (.ref lw),some (.int (i:Int)),some (.ref q),some (.int (pl i:Int))]/\Same H G6/\G6 pd=some (.dK kvs)/\G6 lw=some (.lst (O5.map V.ref))/\O5.length<=2+17*i/\gm G6 O5 (eM di dQ pl i++(if d.u∈dA then []else [((pl i:Int)+1,(i:Int)+1)])),?_,?_⟩;rotate_left
   ·rintro σ' G6 ⟨O5,rfl,s6,UM,yz,Pp,UN⟩;obtain⟨xs1,q1,a1,a2,a3⟩:=(k7.same s6).row hd';refine⟨_,rfl,.inl ⟨rfl,_,aT.of yz⟩,_,rfl,_,rfl,l1,_,_,.ref q1,rfl,rfl,aT.of a1,a2,q1,d'.u,d'.ts,rfl,a3.at_,fun lt1 G7 s7 nt1 ht1=>?_⟩;refine⟨_,rfl,q,d.u,d.ts,rfl,((Wm i q d hq hdi).same (s6.trans s7)).at_,fun lt2 G8 s8 Bx oC=>?_⟩;refine⟨lt1,lt2,_,_,rfl,aT.of (s8 _ _ ht1),aT.of oC,by rw[length_map,length_map];exact hlen,fun lz tz G9 s9 nz hlz htz hpz=>?_⟩;have R0:=s7.trans (s8.trans s9);have htl:=hgi.ts.1;rw[length_map]at htz;refine⟨lw,lz,_,_,rfl,rfl,R0 _ _ yz,hlz,le_trans (show _<=1000000 by rw[length_map,length_map];omega) (by decide),?_⟩;rw[<-map_append];have hz:gm G9 tz ((((dQ[pl i]?).map FR.ts).getD []).zip d.ts):=by rw[hd'];refine⟨by show tz.length=(d'.ts.zip d.ts).length;rw[length_zip];omega,fun j t x h1 h2=>?_⟩;have h2:(d'.ts.zip d.ts)[j]? =some x:=h2;obtain⟨hx1,hx2⟩:=List.getElem?_zip_eq_some.mp h2;exact hpz j t (.int x.1) (.int x.2) h1 (by rw[ac,hx1];rfl) (by rw[ac,hx2];rfl)
    refine⟨_,_,_,O5++tz,rfl,aF (s6.trans R0) ED,(aw Ki).trans (R0 _ _ UM),ah,?_⟩;rw[hwI];unfold vT;rw[<-append_assoc];exact((UN.tups (.of R0)).app hz).tups fun b xs hb=>(aw (fun z=>by rw[z,R0 _ _ yz]at hb;cases hb)).trans hb
   refine⟨_,rfl,q,d.u,items,rfl,hq5,_,rfl,?_⟩;by_cases c:d.u∈dA
   ·rw[decide_eq_true c];refine cC (by decide) ⟨ts,rfl,s5,Cv,Ir,by omega,?_⟩;rw[if_pos c,append_nil];exact UL
   ·rw[decide_eq_false c];refine df (by decide) ?_;refine⟨_,rfl,.inl ⟨rfl,_,aT.of Ir⟩,_,rfl,_,_,rfl,rfl,_,rfl,_,_,rfl,rfl,zle,fun tn ntn=>?_⟩;have t6:=ai (o:=.tup [V.int ((pl i:Int)+1),V.int ((i:Int)+1)]) ntn;have htn:upd G5 tn (.tup [V.int ((pl i:Int)+1),V.int ((i:Int)+1)]) tn=_:=ah;have s6:=s5.trans t6;have UM:=t6 _ _ Cv;have yz:=t6 _ _ Ir;have UN:=UL.tups (.of t6);generalize upd G5 tn (.tup [V.int ((pl i:Int)+1),V.int ((i:Int)+1)])=G6 at htn s6 UM yz UN ⊢;refine⟨lw,_,_,rfl,rfl,yz,aK (by rw[length_map];omega),?_⟩;have hn:eU G6 (upd G6 lw (.lst (ts.map V.ref++ [V.ref tn]))):=fun b xs hb=>(aw (fun z=>by rw[z,yz]at hb;cases hb)).trans hb;refine⟨ts++ [tn],rfl,aF s6 ED,(aw Ki).trans UM,by rw[ah,map_append];rfl,by rw[length_append];simp;omega,?_⟩;rw[if_neg c];refine(UN.tups hn).app ⟨rfl,fun j t x h1 h2=>?_⟩;have hj:j=0:=by have:=(ag.mp h1).1;simpa using this
    subst hj;cases h1;cases h2;exact hn _ _ htn
  ·rintro σ G ⟨v1,v2,v3,ts,rfl,s4,Kj,MU,Iq⟩;rw[length_map,Wk]at Iq;exact⟨_,rfl,k lw ts G s4 MU Iq⟩
def cA:List Int:=[0,1,2,3,4,5,6,7]
def uc(cl:List (List Int))(r:Int)(k:NK):Bool:=decide (k.1=r)&&cA.all fun b=>decide (hAt k.2 b=some b)||decide (b∈(cl[r.toNat]?).getD [])
def ic(s:WS)(cl:List (List Int))(r:Int):Bool:=!s.lo&&s.es.all (uc cl r)
theorem cq.get{H:Hp}{lc:Addr}{cl:List (List Int)}(h:cq H lc cl){j:Nat}{ms:List Int}(hm:cl[j]? =some ms):∃cs q,H lc=some (.lst cs)/\mQ cs (j:Int)=some (.ref q)/\H q=some (.tup (ms.map V.int)):=by
 obtain⟨cs,a,b,c⟩:=h;have hj:j<cs.length:=by have:=(ag.mp hm).1;omega
 have hc:cs[j]? =some cs[j]:=aa hj;obtain⟨q,e,h1,_⟩:=c j _ ms hc hm;exact⟨cs,q,a,cG (by rw[hc,e]),h1⟩
inductive R1(WC:Addr)(vs:List V)(H:Hp)(Q:VK)(E_:XK):Prop
 | mk (wx gS e lc:Addr) (s:WS) (es:List (NK×Addr)) (cl:List (List Int)) (r:Nat) (_:vs=[.ref wx,.int (r:Int),.ref lc]) (_:H wx=some (.ins WC gS (dv (s.n:Int) s.lo e))) (_:fz P w H e es) (_:es.map (·.1)=s.es) (_:(∀k∈s.es,k.2.length=8)) (_:cq H lc cl) (_:r<cl.length) (_:(∀H1,ic s cl r=true->Same H H1->Q (.bl true) H1)) (_:∀H1,ic s cl r=false->Keeps (fun c=>c=e) H H1->Q (.bl false) H1)
theorem R3:aI ["walk","right","claims","r","held"] ["walk","right","claims"] (ao eI):=by walk_at "sc1"
def MV:Scope:={kind:=.function,names:=[(".0",.local),("box",.local),("claims",.free),("held",.free),("r",.free)],isGenerator:=false,isCoroutine:=false,more:=[]}
theorem EJ:bZ (ao eI) MV ["walk","right","claims","r","held"] ["box","held","claims","r"] [none,some 4,some 2,some 3]:=by walk_at "sc2"
theorem rc{f:Addr}{fd:fo}{WC:Addr}(F:cE K "leads_well" "leads_well" eI f fd)(T:Txt K w.params mg)(TW:WT K WC):aL P w K mg base bQ 1 f fd ["walk","right","claims"] (R1 (P:=P) (w:=w) WC):=by
 refine F.ok R3 (by walk_at "ln") (fun Lq A outer s H vs Q E hr h=>?_)
 ·obtain⟨wx,gS,e,lc,s0,es,cl,r,rfl,wO,hE,hes,h8,hC,hrl,k1,k2⟩:=h;obtain⟨pb,hpb,UH⟩:=T.LY
  refine cu (ak (bz (cI (cJ (pv 0) rfl)) (az (au (aE dW))) (bg aO))
   (ak (au (DC (cY PassesOwn.never rfl (DE (cJ (pv 0) rfl)) (iI (K:=K) (i:=3) (j:=4) rfl rfl R3.nd rfl (Or.inr rfl) rfl (Or.inr rfl)) (aA (dk (my (aN rL (pv 3) (pv 1) (aY _)) (iV (dB (cI (aG (ei rfl) (by rfl) T.all je (ae (cO (X:=(gM bQ P w K mg base ["walk","right","claims","r","held"] "leads_well" (ao eI) f Lq A outer s H E).uY) (N':=["box","held","claims","r"]) (fr:=[none,some 4,some 2,some 3]) EJ rfl (iW (cF (v:=.ref pb) (by rfl) hpb rfl)) (fun C s0 H0 fp=>(aR (i:=0) EJ.nd rfl (Or.inl rfl))) (fun C s0 H0 fp=>cB) (fun C s0 H0 fp=>(uX (cS eP (aJ (r:=Lc K) aQ (pv 1) (pv 0) (fun _ _=>rfl)) (pv 0) (aY _)) (gH (cS (r:=JN K false) bj (pv 0) (aJ (r:=CV K) bp (pv 2) (pv 3) (fun _ _=>rfl)) rfl))))) aj)))))).pt (aA (aE dW)) aO)))))
   (az (au (aE dW))))) ?_
  refine⟨_,rfl,wx,WC,gS,_,_,rfl,wO,TW.cl,TW.n2,Wn,_,rfl,?_⟩;cases hlo:s0.lo with
  | true=>
   refine df rfl (k2 H ?_ .refl);unfold ic;rw[hlo];rfl
  | false=>
  refine cC (by decide) ?_;refine⟨_,rfl,wx,WC,gS,_,_,rfl,wO,TW.cl,TW.n3,w_e,e,es,rfl,hE.1,fun ob nf=>?_⟩;have hfz:upd H e (.jr ob (dN P w e es)) e=_:=ah;have nee:∀c o,H c=some o->(∀xs,o≠dN P w e xs)->c≠e:=fun c o h n z=>by rw[z,hE.1]at h;exact n es (Option.some.inj h).symm
  have hT:eU H (upd H e (.jr ob (dN P w e es))):=fun b xs hb=>(aw (fun z=>by rw[z,hE.1]at hb;cases hb)).trans hb;have W0:Keeps (fun c=>c=e) H (upd H e (.jr ob (dN P w e es))):=Keeps.refl.upd hE.1 (fun _ z=>nomatch z) rfl;have hCf:cq (upd H e (.jr ob (dN P w e es))) lc cl:=by obtain⟨cs,a,b,c⟩:=hC;refine⟨cs,W0 _ _ a (.inl fun z=>by rw[z,hE.1]at a;cases a),b,fun i cc ms h1 h2=>?_⟩;obtain⟨q,e1,h3,h4⟩:=c i cc ms h1 h2;exact⟨q,e1,hT _ _ h3,h4⟩
  refine A9 (P:=P) (w:=w) (a:=e) (o:=ob) (xs:=es) (fun i σ G=>∃(v1 v2:Option V),σ=[some (.ref wx),some (.int (r:Int)),some (.ref lc),v1,v2]/\Same (upd H e (.jr ob (dN P w e es))) G/\∀k∈s0.es.take i,uc cl r k=true) ?_ ?_ ?_ ?_
  ·exact⟨none,none,rfl,.refl _,fun k hk=>by simp at hk⟩
  ·rintro i σ G _ ⟨v1,v2,rfl,s1,_⟩;exact s1 _ _ hfz
  ·rintro i y σ G hy ⟨v1,v2,rfl,s1,hall⟩;have hky:s0.es[i]? =some y.1:=by rw[<-hes,ac,hy];rfl
   have hkm:=al hky;have hk8:=h8 _ hkm;obtain⟨b,n1,n2⟩:=hE.2 y (al hy);have n1':=s1 _ _ (hT _ _ n1);have n2':=s1 _ _ (hT _ _ n2);have hkey:s0.es.take (i+1)=s0.es.take i++ [y.1]:=by rw[take_add_one,hky];rfl
   have bad:uc cl r y.1=false->ic s0 cl r=false:=fun z=>by unfold ic;rw[Bool.and_eq_false_iff];refine .inr ?_;rw[List.all_eq_false];exact⟨_,hkm,by rw[z];decide⟩
   refine⟨y.2,_,rfl,bh.of n1',rfl,_,_,rfl,_,_,rfl,rfl,?_⟩;refine⟨_,rfl,_,rfl,rfl,_,rfl,?_⟩;by_cases cr:y.1.1=(r:Int);rotate_left
   ·refine df (by rw[decide_eq_false (fun z=>cr (V.int.inj z))];rfl) (k2 G (bad ?_) (W0.trans (.same s1)));unfold uc;rw[decide_eq_false cr];rfl
   refine cC (by rw[cr];simp) ?_;obtain⟨cs,qc,a1,a2,a3⟩:=(hCf.same s1).get (aa hrl);have W1:∀(j:Nat) (x:Int),cA[j]? =some x->0<=x/\x<=7:=fun j x h=>by have:=al h;unfold cA at this;simp at this;omega
   refine⟨pb,rfl,⟨_,UH _⟩,fun D nD=>fe (K:=K) (xs:=cA.map V.int) (fun i σ ys G'=>∃(v:Option V),σ=[v,some (.ref b),some (.ref lc),some (.int y.1.1)]/\ys=((cA.take i).map fun x=>decide (hAt y.1.2 x=some x)||decide (x∈cl[r])).map V.bl/\Same G G'/\G' D=some (.lst ys)) ?_ ?_ ?_ ?_⟩
   ·exact⟨none,rfl,rfl,ai nD,ah⟩
   ·rintro i σ ys G' _ ⟨v,rfl,rfl,s2,_⟩;exact UH _
   ·rintro j x' σ ys G' hx' ⟨v,rfl,rfl,s2,hD⟩;rw[ac]at hx';obtain⟨x,hx,rfl⟩:=map_eq_some_iff.mp hx';have hxb:=W1 j x hx;have hjl:=(ag.mp hx).1;have fin:∀bb:Bool,bb=(decide (hAt y.1.2 x=some x)||decide (x∈cl[r]))->_/\_/\_:=fun bb hbb=>(⟨hD,aK (by rw[length_map,length_map,length_take];have:cA.length=8:=rfl;omega),some (V.int x),rfl,by rw[take_add_one,hx,toList_some,map_append,map_append,hbb];rfl,aF s2 nD,ah⟩:G' D=some (.lst (((cA.take j).map fun x=>decide (hAt y.1.2 x=some x)||decide (x∈cl[r])).map V.bl))/\(((cA.take j).map fun x=>decide (hAt y.1.2 x=some x)||decide (x∈cl[r])).map V.bl).length<fw/\∃v,[some (V.int x),some (.ref b),some (.ref lc),some (.int y.1.1)]=[v,some (.ref b),some (.ref lc),some (.int y.1.1)]/\(((cA.take j).map fun x=>decide (hAt y.1.2 x=some x)||decide (x∈cl[r])).map V.bl)++ [V.bl bb]=((cA.take (j+1)).map fun x=>decide (hAt y.1.2 x=some x)||decide (x∈cl[r])).map V.bl/\Same G (upd G' D (.lst ((((cA.take j).map fun x=>decide (hAt y.1.2 x=some x)||decide (x∈cl[r])).map V.bl)++ [V.bl bb])))/\upd G' D (.lst ((((cA.take j).map fun x=>decide (hAt y.1.2 x=some x)||decide (x∈cl[r])).map V.bl)++ [V.bl bb])) D=_);refine⟨_,rfl,_,rfl,b,_,_,_,rfl,rfl,bh.of (s2 _ _ n2'),tY hk8 hxb,_,rfl,?_⟩;have hsc:Gq (oV (hAt y.1.2 x)) (.int x)=true:=by cases hAt y.1.2 x<;>rfl
    have hde:decide (oV (hAt y.1.2 x)=V.int x)=decide (hAt y.1.2 x=some x):=by
     cases hh:hAt y.1.2 x with
     | none=>simp[oV]
     | some z=>simp[oV]
    refine⟨hsc,_,rfl,?_⟩;rw[hde];by_cases c1:hAt y.1.2 x=some x
    ·rw[decide_eq_true c1];exact df rfl (fin true (by rw[decide_eq_true c1];rfl))
    ·rw[decide_eq_false c1];refine cC (by decide) ?_;refine⟨_,rfl,_,rfl,_,rfl,lc,_,_,.ref qc,rfl,rfl,aT.of (s2 _ _ a1),by rw[cr];exact a2,qc,_,rfl,.inr (bh.of (s2 _ _ a3)),rfl,eT _,?_⟩;show _/\_;have hin:inV (.int x) (cl[r].map V.int)=(decide (hAt y.1.2 x=some x)||decide (x∈cl[r])):=by rw[gC,decide_eq_false c1];rfl
     exact fin _ hin
   ·rintro σ ys G' ⟨v,rfl,rfl,s2,hD⟩;refine⟨D,_,rfl,aT.of hD,_,rfl,?_⟩;have hal:((cA.take (cA.map V.int).length).map fun x=>decide (hAt y.1.2 x=some x)||decide (x∈cl[r])).all id=uc cl r y.1:=by unfold uc;rw[decide_eq_true cr,nn,aa hrl,length_map,take_of_length_le (le_refl _),all_map,Bool.true_and];rfl
    rw[hal];cases hen:uc cl r y.1 with
    | false=>exact df rfl (k2 G' (bad hen) (W0.trans (.same (s1.trans s2))))
    | true=>
     refine cC (by decide) ⟨_,_,rfl,s1.trans s2,fun k hk=>?_⟩;rw[hkey]at hk;rcases mem_append.mp hk with z | z
     ·exact hall k z
     ·rw[mem_singleton.mp z];exact hen
  ·rintro σ G ⟨v1,v2,rfl,s1,hall⟩;have hle:es.length=s0.es.length:=by rw[<-hes,length_map]
   rw[take_of_length_le (by omega)]at hall;have hG:=s1 _ _ hfz;refine⟨e,ob,_,hG,nf,k1 _ ?_ fun c o h=>?_⟩
   ·unfold ic;rw[hlo];show s0.es.all _=true;rw[all_eq_true];exact hall
   ·by_cases hc:c=e
    ·rw[hc,ah,<-h,hc];exact hE.1.symm
    ·rw[aw hc];exact s1 _ _ ((aw hc).trans h)
def jl(ld:List (Option Int))(r:Nat):Nat:=(ld.findIdx? fun l=>decide (l=some (r:Int))).getD 0
theorem one_place:∀(ld:List (Option Int)),(ld.filterMap id).Nodup->∀(r:Int) (i j:Nat),ld[i]? =some (some r)->ld[j]? =some (some r)->i=j
 | [],_,r,i,j,h,_=>by simp at h
 | l::ld,hn,r,i,j,h1,h2=>by
  have mem:∀i:Nat,ld[i]? =some (some r)->r∈ld.filterMap id:=fun i h=>mem_filterMap.mpr ⟨some r,al h,rfl⟩;have hn2:(ld.filterMap id).Nodup:=by
   cases l with
   | none=>exact hn
   | some x=>exact(nodup_cons.mp hn).2
  cases i with
  | zero=>
   cases j with
   | zero=>rfl
   | succ j=>
    have e:=Option.some.inj h1;subst e;exact absurd (mem j (by simpa using h2)) (nodup_cons.mp hn).1
  | succ i=>
   cases j with
   | zero=>
    have e:=Option.some.inj h2;subst e;exact absurd (mem i (by simpa using h1)) (nodup_cons.mp hn).1
   | succ j=>rw[one_place ld hn2 r i j (by simpa using h1) (by simpa using h2)]
theorem sv{ld:List (Option Int)}{n0 n1 r:Nat}(h:qb ld n0 n1)(hr:r<n0):StandsAt ld r (jl ld r):=by
 have h1:(r:Int)∈j9 n0:=mem_map.mpr ⟨r,mem_range.mpr hr,rfl⟩;have h2:=h.2.mem_iff.mpr h1;obtain⟨l,hl,e⟩:=mem_filterMap.mp h2;have e:l=some (r:Int):=e;subst e
 have hnd:(ld.filterMap id).Nodup:=h.2.nodup_iff.mpr (by
  unfold j9
  exact List.Pairwise.map _ (fun a b h z=>h (Int.ofNat.inj z)) List.nodup_range)
 have hex:∃i,ld.findIdx? (fun l=>decide (l=some (r:Int)))=some i:=by
  cases hf:ld.findIdx? (fun l=>decide (l=some (r:Int)))with
  | some i=>exact⟨i,rfl⟩
  | none=>
   have:=List.findIdx?_eq_none_iff.mp hf _ hl;simp at this
 obtain⟨i,hi⟩:=hex;obtain⟨hil,hit,_⟩:=List.findIdx?_eq_some_iff_getElem.mp hi;have kJ:ld[i]? =some (some (r:Int)):=by rw[aa hil];exact congrArg some (of_decide_eq_true hit)
 have e2:jl ld r=i:=by unfold jl;rw[hi];rfl
 rw[e2];exact⟨kJ,fun n' hn=>one_place ld hnd _ _ _ hn kJ⟩
theorem Kk{b:Bd}(d:FR)(h:b.held.length=8):(cX b d).held.length=8:=by
 unfold cX;split
 ·exact(length_set ..).trans h
 ·split
  ·exact(length_set ..).trans h
  ·split
   ·exact h
   ·split
    ·exact(length_set ..).trans h
    ·exact h
theorem R4{es:List NK}{k:NK}(h:∀x∈es,x.2.length=8)(hk:k.2.length=8):∀x∈Bw es k,x.2.length=8:=fun x hx=>by
 unfold Bw at hx;split at hx
 ·exact h x hx
 ·rcases mem_append.mp hx with z | z
  ·exact h x z
  ·rw[mem_singleton.mp z];exact hk
theorem R5{ds:List FR}{ld:List (Option Int)}{s1:WS}{Pq:List Bd}:∀(f:Nat) (s:WS) (b:Bd) (fk:List Bd),b.held.length=8->(∀x∈s.es,x.2.length=8)->(∀c∈fk,c.held.length=8)->yx ds ld f s b fk=some (s1,Pq)->(∀x∈s1.es,x.2.length=8)/\∀c∈Pq,c.held.length=8
 | 0,_,_,_,_,_,_,h=>by cases h
 | f+1,s,b,fk,h1,h2,h3,h=>by
  unfold yx at h;split at h
  ·have h:=Option.some.inj h;obtain⟨rfl,rfl⟩:=Prod.mk.inj h;exact⟨R4 h2 h1,h3⟩
  ·split at h
   ·have h:=Option.some.inj h;obtain⟨rfl,rfl⟩:=Prod.mk.inj h;exact⟨h2,h3⟩
   ·split at h
    ·cases h
    ·split at h
     ·cases h
     ·rename_i d hd;split at h
      ·have h:=Option.some.inj h;obtain⟨rfl,rfl⟩:=Prod.mk.inj h;exact⟨h2,h3⟩
      ·rename_i p ps hn;refine R5 f {s with n:=s.n+1} {cX b d with pl:=p.toNat} (fk++ps.map fun q=>{cX b d with pl:=q.toNat}) (show(cX b d).held.length=8 from Kk d h1) h2 (fun c hc=>?_) h;rcases mem_append.mp hc with z | z
       ·exact h3 c z
       ·obtain⟨q,_,rfl⟩:=mem_map.mp z;exact Kk d h1
  ·cases h
theorem R6{ds:List FR}{ld:List (Option Int)}{s1:WS}:∀(f:Nat) (s:WS) (ws:List Bd),(∀x∈s.es,x.2.length=8)->(∀c∈ws,c.held.length=8)->ML ds ld f s ws=some s1->∀x∈s1.es,x.2.length=8
 | 0,_,_,_,_,h=>by cases h
 | f+1,s,ws,h1,h2,h=>by
  unfold ML at h;split at h
  ·rw[<-Option.some.inj h];exact h1
  ·rename_i b hb;have hbm:b∈ws:=List.mem_of_getLast? hb;split at h
   ·cases h
   ·rename_i r hr;obtain⟨a1,a2⟩:=R5 _ _ _ _ (h2 b hbm) h1 (fun c hc=>absurd hc not_mem_nil) hr;refine R6 f _ _ a1 (fun c hc=>?_) h;rcases mem_append.mp hc with z | z
    ·exact h2 c (dropLast_subset _ z)
    ·exact a2 c z
theorem nh.eight{ds:List FR}{ld:List (Option Int)}{st:Nat}{s:WS}(h:nh ds ld st s):∀x∈s.es,x.2.length=8:=by obtain⟨fu,_,h⟩:=h;exact R6 fu _ _ (fun x hx=>absurd hx not_mem_nil) (fun c hc=>by rw[mem_singleton.mp hc];rfl) h
def ni(P:Program)(w:World)(WC:Addr)(H0 H:Hp)(v:V)(s:WS):Prop:=∃(wx gS e:Addr) (es:List (NK×Addr)),H0 e=none/\v=.ref wx/\H wx=some (.ins WC gS (dv (s.n:Int) s.lo e))/\fz P w H e es/\es.map (·.1)=s.es
theorem ni.same{P:Program}{w:World}{WC:Addr}{H0 H H1:Hp}{v:V}{s:WS}(h:ni P w WC H0 H v s)(k:Same H H1):ni P w WC H0 H1 v s:=by obtain⟨wx,gS,e,es,z,a,b,c,d⟩:=h;exact⟨wx,gS,e,es,z,a,k _ _ b,cz c (.same (R:=fun _=>False) k) id,d⟩
theorem ni.put{P:Program}{w:World}{WC:Addr}{H0 H:Hp}{v:V}{s:WS}{p:Addr}{kvs Ab:List (Key×V)}(h:ni P w WC H0 H v s)(hp:H p=some (.dK kvs)):ni P w WC H0 (upd H p (.dK Ab)) v s:=by obtain⟨wx,gS,e,es,y,a,b,c,d⟩:=h;have K1:Keeps (fun c=>c=p) H (upd H p (.dK Ab)):=Keeps.refl.upd hp (fun _ z=>nomatch z) rfl;refine⟨wx,gS,e,es,y,a,K1 _ _ b (.inl fun z=>by rw[z,hp]at b;cases b),cz c K1 (fun z=>?_),d⟩;have:=c.1;rw[z,hp]at this;cases this
def Good(di dQ:List FR)(ld:List (Option Int))(fs:List Int)(cl:List (List Int))(wk:Nat->WS):Prop:=Pa di dQ ld fs/\∀x∈eM di dQ (jl ld) di.length,ic (wk x.1.toNat) cl x.2=true
inductive MW(WC MX:Addr)(vs:List V)(H:Hp)(Q:VK)(E:XK):Prop
 | mk (l0 l1 pp ll lf lc:Addr) (di dQ:List FR) (ld:List (Option Int)) (fs:List Int) (cl:List (List Int)) (n m:Int) (wk:Nat->WS) (_:vs=[.ref l0,.ref l1,.ref pp]) (_:cw H l0 di) (_:cw H l1 dQ) (_:sr H pp ll lf lc) (_:H ll=some (.lst (ld.map oV))) (_:ld.length<64) (_:H lf=some (.lst (fs.map V.int))) (_:fs.length<=1000) (_:cq H lc cl) (_:cl.length=di.length) (_:di.length<=1000) (_:dQ.length<=1000) (_:(∀d∈di,GF n d)) (_:(∀d∈dQ,GF m d)) (_:nc di) (_:firstBad di cl=none) (_:(Pa di dQ ld fs->∀x∈eM di dQ (jl ld) di.length,0<=x.1/\0<=x.2/\x.2<di.length/\nh dQ ld x.1.toNat (wk x.1.toNat))) (_:(Good di dQ ld fs cl wk->∀H1,Same H H1->Q .non H1)) (_:(¬Good di dQ ld fs cl wk->∀H1,Same H H1->E (.ref MX) none H1))
theorem EK:aI ["old","new","paper","ways","walks","start","right"] ["old","new","paper"] (ao dY):=by walk_at "sc1"
def MY:Scope:={kind:=.function,names:=[(".0",.local),("key",.local),("paper",.free)],isGenerator:=false,isCoroutine:=false,more:=[]}
theorem EL:bZ (ao dY) MY ["old","new","paper","ways","walks","start","right"] ["key","paper"] [none,some 2]:=by walk_at "sc2"
theorem qh{f fS fW fK fL:Addr}{fd J6 kZ fdK D7:fo}{WC MX:Addr}(F:cE K "check_paper" "check_paper" dY f fd)(T:Txt K w.params mg)(GS:aL P w K mg base bQ 7 fS J6 ["old","new","paper"] Rn)(kS:KI K fS)(bS:Binds K J6 ["old","new","paper"] [])(mS:mg "stands_well"=some (.ref fS))(GW:aL P w K mg base bQ 2 fW kZ ["old","new","leads"] RX)(kW:KI K fW)(bW:Binds K kZ ["old","new","leads"] [])(mW:mg "ways_to_walk"=some (.ref fW))(GK:aL P w K mg base bQ 5 fK fdK ["new","leads","start"] (RR (P:=P) (w:=w) WC))(kK:KI K fK)(bK:Binds K fdK ["new","leads","start"] [])(mK:mg "walk_from"=some (.ref fK))(GL:aL P w K mg base bQ 1 fL D7 ["walk","right","claims"] (R1 (P:=P) (w:=w) WC))(kL:KI K fL)(bL:Binds K D7 ["walk","right","claims"] [])(mL:mg "leads_well"=some (.ref fL))(MZ:Hf K MX Qs "ValueError.__new__")(W2:mg "NoPaper"=some (.ref MX)):aL P w K mg base (Hi P w) 8 f fd ["old","new","paper"] (MW WC MX):=by
 refine F.okX EK (by walk_at "ln") (fun Lq A outer s H vs Q E hr h=>?_)
 ·obtain⟨l0,l1,pp,ll,lf,lc,di,dQ,ld,fs,cl,n,m,wk,rfl,Gd,k7,hP,kJ,h64,hfs,hfl,hC,hcl,hl0,hl1,Ge,Mt,J7,hbad,hwk,kQ,kE⟩:=h;have hu:=jL hr;have Pr:=hr.mono (show 7<=_ by decide);have hrW:=hr.mono (show 2<=_ by decide);have hrK:=hr.mono (show 5<=_ by decide);have VZ:=hr.mono (show 1<=_ by decide);obtain⟨ptt,hpp,hSk⟩:=T.qZ;obtain⟨kvs,hp,hv1,hv2,Ux⟩:=id hP.at_
  refine cu (ak (bz (my (dB (cI (aG dG (by rfl) T.HE iG (ae (pv 2) (ae (iq (v:=.ty "dict") (by rfl) T.dict tR rfl) aj))))) (iV (dB (cI (aG (ei rfl) (by rfl) T.all je (ae (cO (X:=(gM (Hi P w) P w K mg base ["old","new","paper","ways","walks","start","right"] "check_paper" (ao dY) f Lq A outer s H E)) (N':=["key","paper"]) (fr:=[none,some 2]) EL rfl (iW (cF (v:=.ref ptt) (by rfl) hpp rfl)) (fun C s0 H0 fp=>(aR (i:=0) EL.nd rfl (Or.inl rfl))) (fun C s0 H0 fp=>cB) (fun C s0 H0 fp=>(CC (C2 hu (pv 0) (pv 1))))) aj)))))).pt (az (au (lQ MZ PySem.F.excBase_ValueError W2 (by rfl)))) (bg aO))
   (ak (bz (dB (cI (aC GS Pr (by rfl) mS kS bS .nil aU (ae (pv 0) (ae (pv 1) (ae (pv 2) aj)))))) (az (au (lQ MZ PySem.F.excBase_ValueError W2 (by rfl)))) (bg aO))
   (ak (au (aP (i:=3) EK.nd rfl (Or.inl rfl) (aC GW hrW (by rfl) mW kW bW .nil aU (ae (pv 0) (ae (pv 1) (ae (eE hu (pv 2) ay (fun _ _=>rfl)) aj))))))
   (ak (au (aP (i:=4) EK.nd rfl (Or.inl rfl) gY))
   (ak (au (cY PassesOwn.leaving rfl (cQ (pv 3)) (iI (K:=K) (i:=5) (j:=6) rfl rfl EK.nd rfl (Or.inl rfl) rfl (Or.inl rfl)) (aA (dk (sI (jx hu (pv 5) (pv 4))) (aA (d0 hu (pv 4) (pv 5) (aC GK hrK (by rfl) mK kK bK .nil aU (ae (pv 1) (ae (eE hu (pv 2) ay (fun _ _=>rfl)) (ae (pv 5) aj)))) rfl)) aO))))
   (az (au (cY PassesOwn.leaving rfl (cQ (pv 3)) (iI (K:=K) (i:=5) (j:=6) rfl rfl EK.nd rfl (Or.inl rfl) rfl (Or.inl rfl)) (aA (dk (dB (cI (aC GL VZ (by rfl) mL kL bL .nil aU (ae (eE hu (pv 4) (pv 5) (fun _ _=>rfl)) (ae (pv 6) (ae (eE hu (pv 2) ay (fun _ _=>rfl)) aj)))))) (aA (lQ MZ PySem.F.excBase_ValueError W2 (by rfl))) aO)))))))))) ?_
  refine⟨_,rfl,_,_,_,_,rfl,.dK hp,pR (by decide),_,rfl,cC (by decide) ?_⟩;refine⟨ptt,rfl,⟨_,hSk _⟩,fun D nD=>fe (K:=K) (xs:=[V.str "leads",.str "forms",.str "free"]) (fun i σ ys G=>∃v:Option V,σ=[v,some (.ref pp)]/\ys=(replicate i true).map V.bl/\Same H G/\G D=some (.lst ys)) ?_ ?_ ?_ ?_⟩
  ·exact⟨none,rfl,rfl,ai nD,ah⟩
  ·rintro i σ ys G _ ⟨v,rfl,rfl,s1,_⟩;exact hSk _
  ·rintro i x σ ys G hx ⟨v,rfl,rfl,s1,hD⟩;have hx2:∃u:Str,x=.str u/\∃y,cM kvs (Sum.inr u:Key)=some y/\i<3:=by
    match i,hx with
    | 0,h=>exact⟨"leads",(Option.some.inj h).symm,_,hv1,by omega⟩
    | 1,h=>exact⟨"forms",(Option.some.inj h).symm,_,hv2,by omega⟩
    | 2,h=>exact⟨"free",(Option.some.inj h).symm,_,Ux,by omega⟩
    | i+3,h=>simp at h
   obtain⟨u,rfl,y,hy,hi⟩:=hx2;refine⟨_,rfl,_,rfl,pp,_,rfl,eO.k (k:=(Sum.inr u:Key)) (s1 _ _ hp),?_⟩;rw[hy];exact⟨hD,aK (by rw[length_map,length_replicate];omega),_,rfl,qa i,aF s1 nD,ah⟩
  rintro σ ys G0 ⟨v,rfl,rfl,s0,hD⟩;refine⟨D,_,rfl,aT.of hD,_,rfl,?_⟩;rw[tV];refine cC (by decide) ?_;refine⟨_,rfl,_,rfl,_,rfl,l0,l1,pp,ll,lf,lc,di,dQ,ld,fs,cl,n,m,rfl,Gd.same s0,k7.same s0,hP.same s0,s0 _ _ kJ,h64,s0 _ _ hfs,hfl,hC.same s0,hcl,hl0,hl1,Ge,Mt,J7,hbad,fun b G1 hb s1=>⟨_,rfl,?_⟩⟩;have Pt:=s0.trans s1;cases b with
  | false=>exact df rfl (kE (fun z=>by have:=hb.mpr z.1;cases this) G1 Pt)
  | true=>
  refine cC (by decide) ?_;have hS:=hb.mp rfl;have hwk:=hwk hS;have hpl:∀(r:Nat) d,di[r]? =some d->StandsAt ld r (jl ld r)/\∃d',dQ[jl ld r]? =some d'/\d'.ts.length=d.ts.length:=fun r d hd=>by
   have hrl:=(ag.mp hd).1;have hst:=sv hS.1 hrl;have hl:jl ld r<dQ.length:=by rw[<-hS.1.1];exact(ag.mp hst.1).1
   have hd':dQ[jl ld r]? =some dQ[jl ld r]:=aa hl;have hw:RowW di _ (some (r:Int)):=hS.2.2 _ _ _ hd' hst.1;have hw:=hw d (by rw[nn];exact hd);unfold j8 at hw;rw[Bool.and_eq_true,Bool.and_eq_true]at hw;exact⟨hst,_,hd',of_decide_eq_true hw.1.2⟩
  refine⟨_,rfl,_,rfl,_,rfl,pp,_,rfl,by rw[<-hv1];exact eO.k (k:=(Sum.inr "leads": Key)) (Pt _ _ hp),l0,l1,ll,di,dQ,ld,n,m,jl ld,rfl,Gd.same Pt,k7.same Pt,Ge,Mt,Pt _ _ kJ,by omega,hl0,hpl,fun lw ts G2 s2 Cq hws=>?_⟩;have UO:=Pt.trans s2;generalize hwl:eM di dQ (jl ld) di.length=wl at hws hwk;have hgood:Good di dQ ld fs cl wk↔∀x∈wl,ic (wk x.1.toNat) cl x.2=true:=by unfold Good;rw[hwl];exact⟨fun z=>z.2,fun z=>⟨hS,z⟩⟩
  refine fun pd Ie=>?_;have t3:=ai (o:=.dK []) Ie;have hpd:upd G2 pd (.dK []) pd=_:=ah;have npdH:H pd=none:=dJ.same UO _ Ie;generalize upd G2 pd (.dK [])=G3 at t3 hpd ⊢;have s03:=UO.trans t3;have QV:wl.length<=1+17*di.length:=by rw[<-hwl];exact lZ Ge _
  refine⟨_,rfl,lw,rfl,⟨_,aT.of (t3 _ _ Cq)⟩,ez (K:=K) (xs:=ts.map V.ref) (fun i σ G=>∃(v5 v6:Option V) (kv:List (Key×V)),σ=[some (.ref l0),some (.ref l1),some (.ref pp),some (.ref lw),some (.ref pd),v5,v6]/\Same G2 G/\G pd=some (.dK kv)/\kv.length<=i/\(∀(j:Int) v,cM kv (Sum.inl j)=some v->ni P w WC H G v (wk j.toNat))/\∀x∈wl.take i,(cM kv (Sum.inl x.1)).isSome=true) ?_ ?_ ?_ ?_⟩
  ·exact⟨none,none,[],rfl,t3,hpd,le_refl _,(fun j v h=>by simp[cM]at h),fun x hx=>by simp at hx⟩
  ·rintro i σ G _ ⟨v5,v6,kv,rfl,s4,_⟩;exact aT.of (s4 _ _ Cq)
  ·rintro i x σ G hx ⟨v5,v6,kv,rfl,s4,Kj,hkl,Iq,ER⟩;rw[ac]at hx;obtain⟨tt,htt,rfl⟩:=map_eq_some_iff.mp hx;have hil:i<wl.length:=by have:=(ag.mp htt).1;have:=hws.1;omega
   have hxi:wl[i]? =some wl[i]:=aa hil;obtain⟨w1,w2,w3,w4⟩:=hwk _ (bn hil);generalize wl[i]=xw at hxi w1 w2 w3 w4;have ht:=s4 _ _ (hws.2 i tt xw htt hxi);have htk:wl.take (i+1)=wl.take i++ [xw]:=by rw[take_add_one,hxi];rfl
   refine⟨tt,_,rfl,bh.of ht,rfl,_,_,rfl,_,_,rfl,rfl,?_⟩;refine⟨_,rfl,_,rfl,pd,_,rfl,eO.k (k:=Sum.inl xw.1) Kj,_,rfl,?_⟩;by_cases c:(cM kv (Sum.inl xw.1)).isSome=true
   ·rw[c];refine cC (by decide) ⟨_,_,kv,rfl,s4,Kj,by omega,Iq,fun x hx=>?_⟩;rw[htk]at hx;rcases mem_append.mp hx with z | z
    ·exact ER x z
    ·rw[mem_singleton.mp z];exact c
   ·rw[Bool.eq_false_iff.mpr c];refine df (by decide) ?_;have M0:=UO.trans s4;refine⟨_,rfl,_,rfl,pp,_,rfl,by rw[<-hv1];exact eO.k (k:=(Sum.inr "leads": Key)) (M0 _ _ hp),_,rfl,l1,ll,dQ,ld,m,xw.1.toNat,wk xw.1.toNat,by rw[Int.toNat_of_nonneg w1];rfl,k7.same M0,Mt,M0 _ _ kJ,w4,fun wx gS e es G5 s5 MG ne wO hE hes=>?_⟩;have Cv:=s5 _ _ Kj;refine⟨_,rfl,_,rfl,pd,_,rfl,jV.k (k:=Sum.inl xw.1) Cv (aK (by omega)),?_⟩;have hW:ni P w WC H G5 (.ref wx) (wk xw.1.toNat):=⟨wx,gS,e,es,dJ.same M0 _ ne,rfl,wO,hE,hes⟩;refine⟨_,_,_,rfl,aF (s4.trans s5) Ie,ah,le_trans (bV _ _ _) (by omega),fun j v hj=>?_,fun x hx=>?_⟩
    ·rw[dE]at hj;by_cases e1:(Sum.inl j:Key)=Sum.inl xw.1
     ·rw[if_pos e1]at hj;have e2:=Sum.inl.inj e1;subst e2;rw[<-Option.some.inj hj];exact hW.put Cv
     ·rw[if_neg e1]at hj;exact((Iq j v hj).same s5).put Cv
    ·rw[htk]at hx;rw[zZ];rcases mem_append.mp hx with z | z
     ·exact .inl (ER x z)
     ·rw[mem_singleton.mp z];exact .inr rfl
  rintro σ G4 ⟨v5,v6,kv,rfl,s4,Kj,hkl,Iq,ER⟩;rw[length_map,hws.1,take_of_length_le (le_refl _)]at ER;have M0:=UO.trans s4;refine⟨_,rfl,lw,rfl,⟨_,aT.of (s4 _ _ Cq)⟩,ez (K:=K) (xs:=ts.map V.ref) (fun i σ G=>∃(v5 v6:Option V),σ=[some (.ref l0),some (.ref l1),some (.ref pp),some (.ref lw),some (.ref pd),v5,v6]/\Same G4 G/\∀x∈wl.take i,ic (wk x.1.toNat) cl x.2=true) ?_ ?_ ?_ ?_⟩
  ·exact⟨_,_,rfl,.refl _,fun x hx=>by simp at hx⟩
  ·rintro i σ G _ ⟨v5,v6,rfl,s5,_⟩;exact aT.of (s5 _ _ (s4 _ _ Cq))
  ·rintro i x σ G hx ⟨v5,v6,rfl,s5,hall⟩;rw[ac]at hx;obtain⟨tt,htt,rfl⟩:=map_eq_some_iff.mp hx;have hil:i<wl.length:=by have:=(ag.mp htt).1;have:=hws.1;omega
   have hxi:wl[i]? =some wl[i]:=aa hil;have UP:wl[i] ∈wl:=bn hil;obtain⟨w1,w2,w3,w4⟩:=hwk _ UP;have hin:=ER _ UP;generalize wl[i]=xw at hxi w1 w2 w3 w4 hin UP;have W3:=M0.trans s5;have ht:=s5 _ _ (s4 _ _ (hws.2 i tt xw htt hxi));have htk:wl.take (i+1)=wl.take i++ [xw]:=by rw[take_add_one,hxi];rfl
   obtain⟨v,hv⟩:=Option.isSome_iff_exists.mp hin;obtain⟨wx,gS,e,es,hne,rfl,h1,h2,h3⟩:=(Iq _ _ hv).same s5;refine⟨tt,_,rfl,bh.of ht,rfl,_,_,rfl,_,_,rfl,rfl,?_⟩;refine⟨_,rfl,_,rfl,pd,_,rfl,by rw[<-hv];exact eO.k (k:=Sum.inl xw.1) (s5 _ _ Kj),_,rfl,_,rfl,pp,_,rfl,by rw[<-Ux];exact eO.k (k:=(Sum.inr "free": Key)) (W3 _ _ hp),?_⟩;refine⟨wx,gS,e,lc,wk xw.1.toNat,es,cl,xw.2.toNat,by rw[Int.toNat_of_nonneg w2];rfl,h1,h2,h3,w4.eight,hC.same W3,by omega,fun G6 R7 s6=>⟨_,rfl,?_⟩,fun G6 R7 k6=>⟨_,rfl,?_⟩⟩
   ·rw[Int.toNat_of_nonneg w2]at R7;refine cC (by decide) ⟨_,_,rfl,s5.trans s6,fun x hx=>?_⟩;rw[htk]at hx;rcases mem_append.mp hx with z | z
    ·exact hall x z
    ·rw[mem_singleton.mp z];exact R7
   ·rw[Int.toNat_of_nonneg w2]at R7;refine df rfl (kE (fun z=>?_) G6 fun c o h=>k6 c o (W3 c o h) (.inl fun z=>by rw[z,hne]at h;cases h));have:=hgood.mp z xw UP;rw[R7]at this;cases this
  ·rintro σ G ⟨v5,v6,rfl,s5,hall⟩;rw[length_map,hws.1,take_of_length_le (le_refl _)]at hall;exact kQ (hgood.mpr hall) G (M0.trans s5)
theorem bY{X:Cx}:jU X (binaryOp .FloorDiv) (rI (fun _ j=>0<j/\j<18446744073709551616) fun i j=>.int (i/j)):=Ui fun i j _ _ _ _ _ hc q=>by have h1:(0:Int)<j:=hc.1;have h2:j<18446744073709551616:=hc.2;refine PyProof.Rows.floordiv_int (by omega) (by rw[Int.fdiv_eq_ediv_of_nonneg i (by omega)];exact q) (.inl (PyProof.noPylong_of_log2 ?_));have h3:j.natAbs.log2<64:=(Nat.log2_lt (by omega)).mpr (by omega);omega
def del(H:Hp)(l:Addr):Hp:=fun b=>if b=l then none else H b
theorem d9{H:Hp}{l b:Addr}(h:b≠l):del H l b=H b:=if_neg h
theorem ie{H:Hp}{l:Addr}:del H l l=none:=if_pos rfl
theorem fQ{H:Hp}{l:Addr}:Same (del H l) H:=fun b o h=>by
 by_cases c:b=l
 ·rw[c,ie]at h;cases h
 ·rwa [d9 c]at h
theorem aH{H H':Hp}{l:Addr}(s:Same H H'):Same (del H l) (del H' l):=fun b o h=>by
 by_cases c:b=l
 ·rw[c,ie]at h;cases h
 ·rw[d9 c]at h ⊢;exact s _ _ h
theorem eZ{H:Hp}{l:Addr}{o:HO}:Same (del H l) (del (upd H l o) l):=fun b u h=>by
 by_cases c:b=l
 ·rw[c,ie]at h;cases h
 ·rw[d9 c]at h ⊢;rw[aw c];exact h
theorem fZ{H:Hp}{l b:Addr}{o:HO}(h:b≠l):del (upd H b o) l b=some o:=by rw[d9 h,ah]
theorem gq{H:Hp}{l b:Addr}{o:HO}(h:H b=some o)(n:b≠l):del H l b=some o:=by rw[d9 n,h]
theorem jm{ms:List Int}(h:1<=ms.length):∃(x:Int) (pH:List Int),(ms.map V.int)[(ms.map V.int).length-1]? =some (.int x)/\(ms.map V.int).dropLast=pH.map V.int/\pH.length+1=ms.length:=by refine⟨ms[ms.length-1],ms.dropLast,?_,by rw[List.map_dropLast],by rw[length_dropLast];omega⟩;rw[ac,length_map,aa (by omega)];rfl
theorem iM{K:Frag}{i:Nat}{σ:St}{H:Hp}{lx:Addr}{ms:List Int}{Q:VK}(hs:σ[i]? =some (some (.ref lx)))(hx:H lx=some (.lst (ms.map V.int)))(h1:1<=ms.length)(k:∀(x:Int) (pH:List Int) (H':Hp),pH.length+1=ms.length->H' lx=some (.lst (pH.map V.int))->Same (del H lx) (del H' lx)->eU H H'->(∀b,b≠lx->H' b=H b)->Q (.int x) H'):Lf K "list" Qd (Gj i) σ H Q:=by obtain⟨a,m,p,q,r⟩:=jm h1;refine⟨_,hs,.inl ⟨rfl,_,aT.of hx⟩,lx,_,_,rfl,rfl,hx,p,?_⟩;rw[q];exact k a m _ r ah eZ (.upd hx (fun _ z=>nomatch z)) fun b hb=>aw hb
inductive EV(vs:List V)(H:Hp)(Q:VK)(E_:XK):Prop
 | mk (a:Addr) (ns:List Int) (k:Int) (_:vs=[.ref a,.int k]) (_:aT K H a (ns.map V.int)) (_:0<=k) (_:∀c:Int,Q (.int c) H)
theorem M3:aI ["_law_script","_law_k"] ["_law_script","_law_k"] (ao gQ):=by walk_at "sc1"
theorem qj{f:Addr}{fd:fo}(F:cE K "_law_cell_at" "_law_cell_at" gQ f fd)(T:Txt K w.params mg):aL P w K mg base bQ 1 f fd ["_law_script","_law_k"] (EV (K:=K)):=by
 refine F.ok M3 (by walk_at "ln") (fun Lq A outer s H vs Q E hr h=>?_)
 ·obtain⟨a,ns,k,rfl,hS,hk,q⟩:=h
  refine⟨_,bq (dk (aN P7 (pv 1) (aG aS (by rfl) T.len cZ (ae (pv 0) aj)) (aY _)) (aA (aE (aJ bp (pv 0) (pv 1) (fun _ _=>rfl)))) aO)
   (aA (aE aq)),?_⟩
  refine⟨_,rfl,_,rfl,a,_,rfl,.inl hS,_,_,rfl,rfl,_,rfl,?_⟩;refine dF (fun h1=>?_) (fun h1=>?_)
  ·have h1:=of_decide_eq_true h1;rw[length_map]at h1;obtain⟨j,rfl⟩:=Int.eq_ofNat_of_zero_le hk;have hj:j<ns.length:=by omega
   refine⟨_,rfl,_,rfl,a,_,_,.int ns[j],rfl,rfl,hS,cG (j:=j) ?_,q _⟩;rw[ac,aa hj];rfl
  ·exact q 0
inductive R8(vs:List V)(H:Hp)(Q:VK)(E_:XK):Prop
 | mk (c:Int) (n:Nat) (_:vs=[.int c,.int (n:Int)]) (_:n<=1000) (_:∀(l:Addr) (ms:List Int) (H':Hp),Same H H'->H l=none->H' l=some (.lst (ms.map V.int))->ms.length=n->Q (.ref l) H')
theorem rg:aI ["_law_cell","_law_size","_law_found","_law_rest","_law_k","_law_number","_law_other"] ["_law_cell","_law_size"] (ao iD):=by walk_at "sc1"
theorem rh{f:Addr}{fd:fo}(F:cE K "_law_stream" "_law_stream" iD f fd)(T:Txt K w.params mg): aL P w K mg base bQ 1 f fd ["_law_cell","_law_size"] R8:=by
 refine F.ok rg (by walk_at "ln") (fun Lq A outer s H vs Q E hr h=>?_)
 ·obtain⟨c,n,rfl,hn,k⟩:=h
  refine cu (ak (au (aP (i:=2) rg.nd rfl (Or.inl rfl) (dD aj)))
   (ak (bz (aN JH (pv 0) (aM K5 aq aq) (aY _)) (ak (au (aP (i:=3) rg.nd rfl (Or.inl rfl) (aM bY (pv 0) aq)))
   (ak (au (cY PassesOwn.never rfl (cy rfl T.range (ae (pv 1) aj)) (aR (i:=4) rg.nd rfl (Or.inl rfl)) (bq (c6 (iR ij im io da (pv 2) (ae (aM cL (pv 3) aq) aj)))
   (aA (aP (i:=3) rg.nd rfl (Or.inl rfl) (aM bY (pv 3) aq))))))
   (az (au (aE (LU (pv 2) (iw (iQ ft aq)))))))) (bg aO))
   (ak (au (aP (i:=5) rg.nd rfl (Or.inl rfl) (aM cL (aM lE (aM c9 (aM cL (pv 0) aq) aq) aq) aq)))
   (ak (au (aP (i:=6) rg.nd rfl (Or.inl rfl) (aM cL (aM lE (aM c9 (aM cL (pv 0) aq) aq) aq) aq)))
   (ak (au (cY PassesOwn.never rfl (cy rfl T.range (ae (pv 1) aj)) (aR (i:=4) rg.nd rfl (Or.inl rfl)) (bq (aP (i:=5) rg.nd rfl (Or.inl rfl) (aM c9 (aM c9 (aM cL (aM lE (pv 5) (aM c9 (aM bY (pv 5) aq) aq)) aq) (pv 4)) aq))
   (bq (aP (i:=6) rg.nd rfl (Or.inl rfl) (aM cL (aM lE (pv 6) aq) aq))
   (aA (c6 (iR ij im io da (pv 2) (ae (aM c9 (pv 5) (pv 6)) aj))))))))
   (az (au (aE (pv 2))))))))) ?_
  refine⟨zle,fun l nl=>?_⟩;have s0:=ai (o:=.lst []) nl;have h0:upd H l (.lst []) l=some (.lst (([]:List Int).map V.int)):=ah;generalize upd H l (.lst [])=G0 at s0 h0 ⊢;have W4:P6 10 40:=⟨by decide,by decide,by decide⟩;refine⟨_,rfl,_,_,rfl,rfl,W4,_,_,rfl,rfl,_,rfl,?_⟩;refine dF (fun _=>?_) (fun _=>?_)
  ·refine⟨_,rfl,_,_,rfl,rfl,⟨by show(0:Int)<7;decide,by show(7:Int)<_;decide⟩,?_⟩;refine⟨_,rfl,_,rfl,by omega,by omega,?_⟩;refine ef (lo:=0) (n:=((n:Nat):Int).toNat) (fun i σ G=>∃(x:Int) (v:Option V) (ms:List Int),σ=[some (.int c),some (.int (n:Int)),some (.ref l),some (.int x),v,none,none]/\Same H G/\G l=some (.lst (ms.map V.int))/\ms.length=i) ?_ ?_ ?_
   ·exact⟨_,none,[],rfl,s0,h0,rfl⟩
   ·rintro i σ G hi ⟨x,v,ms,rfl,s1,h1,hl⟩;have hin:i<n:=by rw[nn]at hi;exact hi
    refine⟨_,rfl,.inl ⟨rfl,_,aT.of h1⟩,_,rfl,_,_,rfl,rfl,vA,l,_,_,rfl,rfl,h1,aK (by rw[length_map];omega),?_⟩;refine⟨_,rfl,_,_,rfl,rfl,⟨by show(0:Int)<10000019;decide,by show(10000019:Int)<_;decide⟩,?_⟩;exact⟨_,_,ms++ [x % 10000019],rfl,aF s1 nl,by rw[ah,map_append];rfl,by rw[length_append,hl];rfl⟩
   ·rintro σ G ⟨x,v,ms,rfl,s1,h1,hl⟩;refine⟨_,rfl,1,rfl,_,rfl,rfl,l,_,rfl,aT.of h1,fun p np=>?_⟩;refine k p ms.reverse _ (s1.trans (ai np)) (s1.free np) (by rw[ah,List.map_reverse]) (by rw[List.length_reverse,hl,nn])
  ·refine⟨_,rfl,_,_,rfl,rfl,gN,_,_,rfl,rfl,_,_,rfl,rfl,.inr ⟨by decide,by decide⟩,_,_,rfl,rfl,gN,?_⟩;refine⟨_,rfl,_,_,rfl,rfl,xY,_,_,rfl,rfl,_,_,rfl,rfl,.inr ⟨by decide,by decide⟩,_,_,rfl,rfl,jO,?_⟩;have hx0:0<=(c % 2147483647+1)*48271 % 2147483647/\(c % 2147483647+1)*48271 % 2147483647<2147483647:=⟨Int.emod_nonneg _ (by decide),Int.emod_lt_of_pos _ (by decide)⟩;refine⟨_,rfl,_,rfl,by omega,by omega,?_⟩;refine ef (lo:=0) (n:=((n:Nat):Int).toNat) (fun i σ G=>∃(x y:Int) (v:Option V) (ms:List Int),σ=[some (.int c),some (.int (n:Int)),some (.ref l),none,v,some (.int x),some (.int y)]/\0<=x/\x<2147490000/\Same H G/\G l=some (.lst (ms.map V.int))/\ms.length=i) ?_ ?_ ?_
   ·exact⟨_,_,none,[],rfl,hx0.1,(by omega),s0,h0,rfl⟩
   ·rintro i σ G hi ⟨x,y,v,ms,rfl,b1,b2,s1,h1,hl⟩;have e0:(0:Int)+(i:Int)=(i:Int):=by omega
    rw[e0];have hin:i<n:=by rw[nn]at hi;exact hi
    refine⟨_,rfl,_,rfl,_,_,rfl,rfl,⟨by show(0:Int)<1009;decide,by show(1009:Int)<_;decide⟩,_,_,rfl,rfl,_,_,rfl,rfl,.inl ⟨by omega,by omega⟩,_,_,rfl,rfl,gN,_,rfl,_,_,rfl,rfl,_,_,rfl,rfl,?_⟩;have hz:0<=x*(x/1009+69621) % 2147483647/\x*(x/1009+69621) % 2147483647<2147483647:=⟨Int.emod_nonneg _ (by decide),Int.emod_lt_of_pos _ (by decide)⟩;refine⟨_,rfl,_,_,rfl,rfl,.inr ⟨by decide,by decide⟩,_,_,rfl,rfl,jO,?_⟩;refine⟨_,rfl,.inl ⟨rfl,_,aT.of h1⟩,_,rfl,_,rfl,_,_,rfl,rfl,l,_,_,rfl,rfl,h1,aK (by rw[length_map];omega),?_⟩;exact⟨_,_,_,ms++ [x*(x/1009+69621) % 2147483647+(i:Int)+1+y*48271 % 2147483629],rfl,(by omega),(by omega),aF s1 nl,by rw[ah,map_append];rfl,by rw[length_append,hl];rfl⟩
   ·rintro σ G ⟨x,y,v,ms,rfl,b1,b2,s1,h1,hl⟩;exact⟨_,rfl,k l ms G s1 nl h1 (by rw[hl,nn])⟩
inductive R9(vs:List V)(H:Hp)(Q:VK)(E_:XK):Prop
 | mk (lx:Addr) (ms:List Int) (_:vs=[.ref lx]) (_:H lx=some (.lst (ms.map V.int))) (_:1<=ms.length) (_:∀(b:Int) (pH:List Int) (H':Hp),0<=b->b<=7->Same (del H lx) (del H' lx)->H' lx=some (.lst (pH.map V.int))->pH.length+1=ms.length->Q (.int b) H')
theorem W5:aI ["_law_xs"] ["_law_xs"] (ao lU):=by walk_at "sc1"
theorem yA{f:Addr}{fd:fo}(F:cE K "_law_box" "_law_box" lU f fd)(T:Txt K w.params mg): aL P w K mg base bQ 1 f fd ["_law_xs"] R9:=by
 refine F.ok W5 (by walk_at "ln") (fun Lq A outer s H vs Q E hr h=>?_)
 ·obtain⟨lx,ms,rfl,hx,h1,k⟩:=h;refine cu (az (au (aE (aJ bp (Ia (.cons aq (.cons aq (.cons aq (.cons aq (.cons aq (.cons aq (.cons aq (.cons aq .nil))))))))) (aM cL (aM bY (dw ij PySem.F.slot_list_pop PySem.F.type_list_pop dy (pv 0)) aq) aq) (fun _ _=>rfl))))) ?_;refine HB ?_;refine oK (ta:=yp _) (ds:=[.int 0,.int 0,.int 1,.int 1,.int 2,.int 2,.int 3,.int 7]) ?_ fun l ys G t nl hl hys=>?_
  ·exact fV i7 (fV i7 (fV i7 (fV i7 (fV i7 (fV i7 (fV i7 (fV i7 DK)))))))
  have hyl:ys.length=8:=hys.len;obtain⟨x,pH,e1,e2,e3⟩:=jm h1;have hxG:=t _ _ hx;refine⟨_,rfl,.inl ⟨rfl,_,aT.of hxG⟩,lx,_,_,rfl,rfl,hxG,e1,?_⟩;rw[e2];have hne:l≠lx:=fun z=>by rw[z,hx]at nl;cases nl
  have hmod:0<=x/3 % 8/\x/3 % 8<8:=⟨Int.emod_nonneg _ (by decide),Int.emod_lt_of_pos _ (by decide)⟩;obtain⟨c,hc⟩:=Int.eq_ofNat_of_zero_le hmod.1;have hcl:c<8:=by omega
  have hyc:ys[c]? =some (ys[c]'(by omega)):=aa _;generalize (ys[c]'(by omega))=y at hyc;obtain⟨b,rfl,hb⟩:∃b:Int,y=.int b/\0<=b/\b<=7:=by
   match c,hcl,hyc with
   | 0,_,hyc=>have:=hys.get 0 _ _ hyc rfl;cases this;exact⟨_,rfl,by decide,by decide⟩
   | 1,_,hyc=>have:=hys.get 1 _ _ hyc rfl;cases this;exact⟨_,rfl,by decide,by decide⟩
   | 2,_,hyc=>have:=hys.get 2 _ _ hyc rfl;cases this;exact⟨_,rfl,by decide,by decide⟩
   | 3,_,hyc=>have:=hys.get 3 _ _ hyc rfl;cases this;exact⟨_,rfl,by decide,by decide⟩
   | 4,_,hyc=>have:=hys.get 4 _ _ hyc rfl;cases this;exact⟨_,rfl,by decide,by decide⟩
   | 5,_,hyc=>have:=hys.get 5 _ _ hyc rfl;cases this;exact⟨_,rfl,by decide,by decide⟩
   | 6,_,hyc=>have:=hys.get 6 _ _ hyc rfl;cases this;exact⟨_,rfl,by decide,by decide⟩
   | 7,_,hyc=>have:=hys.get 7 _ _ hyc rfl;cases this;exact⟨_,rfl,by decide,by decide⟩
  refine⟨_,_,rfl,rfl,⟨by show(0:Int)<3;decide,by show(3:Int)<_;decide⟩,_,_,rfl,rfl,QK,l,_,_,.int b,rfl,rfl,aT.of ((aw hne).trans hl),?_,?_⟩
  ·show mQ ys (x/3 % 8)=_;rw[hc];exact cG hyc
  ·exact k b pH _ hb.1 hb.2 ((aH t).trans eZ) ah e3
end
theorem M4{X:Cx}{op:Operator}{a b:Expr}{ta tb:TE}{r:R2}{pos:Pos}(ho:jU X (binaryOp op) r)(ha:PE X a ta)(hb:zY X b tb):zY X (.BinOp a op b pos) (KY r ta tb):=by unfold zY at hb ⊢;exact aM ho ha hb
theorem oS{σ:St}{H:Hp}:∀ss:List Str,HA (yp (ss.map fun s=>tC (.str s))) σ H (ss.map Da.str)
 | []=>DK
 | _::ss=>fV LS (oS ss)
theorem k9{H:Hp}:∀{ss:List Str} {xs:List V},uT H xs (ss.map Da.str)->xs=ss.map V.str
 | [],xs,h=>h.nil_inv
 | s::ss,xs,h=>by obtain⟨x,r,rfl,hx,hr⟩:=h.cons_inv;cases hx;rw[k9 hr];rfl
theorem Bz(a:Int){n:Nat}(h:0<n):∃k:Nat,a % (n:Int)=(k:Int)/\k<n:=by have h1:=Int.emod_nonneg a (show(n:Int)≠0 by omega);have h2:=Int.emod_lt_of_pos a (show(0:Int)<n by omega);obtain⟨k,hk⟩:=Int.eq_ofNat_of_zero_le h1;exact⟨k,hk,by omega⟩
theorem Iu{X:Cx}{K:Frag}{T:String}{name:Str}{id:String}{r:V->List V->Hp->VK->Prop}{o:Expr}{to:TE}{apos cpos:Pos}(pa:PlainAttrs T)(slot:Slot T name id)(hty:typeOf (.builtin id)=pure (.type "method_descriptor"))(hm:Uk X id r)(ho:PE X o to)
  (hbase:attributeBase o name X.env (eval o X.env)=eval o X.env:=by rfl) (hline:(apos.endLine==cpos.line)=true:=by rfl) (hK:X.K=K:=by rfl):PE X (.Call (.Attribute o name apos) [] [] cpos) (Lf K T r to):=by
 subst hK;exact dw pa slot hty hm ho hbase hline
theorem ud(u:Str):∀ss:List Str,inV (.str u) (ss.map V.str)=decide (u∈ss)
 | []=>rfl
 | s::ss=>by
  have ih:=ud u ss;unfold inV at ih ⊢;rw[map_cons,any_cons,ih];show((s==u)||_)=_;by_cases c:s=u
  ·subst c;simp
  ·have:¬u=s:=fun z=>c z.symm;simp[c,this]
theorem vU{K:Frag}{σ:St}{D:Ends}{t u:TS}{H:Hp}{i:Nat}{x:Str}{ws:List Str}{ta:TA}(hi:σ[i]? =some (some (.str x)))(ht:∀(G:Hp) (Q:List V->Hp->Prop),Q (ws.map V.str) G->ta σ G Q)(hy:∀G,Same H G->x∈ws->t {D with nx:=u D} σ G)(hn:∀G,Same H G->¬x∈ws->u D σ G)(hl:ws.length<=1000:=by exact zle):
  qP (KR (JI (KY (JN K false) (Gj i) (K9 ta))) t JD) u D σ H:=by
 refine⟨_,hi,ht _ _ ⟨dg (by rw[length_map];omega),fun q nq=>⟨q,ws.map V.str,rfl,.inr (bh.of ah),rfl,all_eq_true.mpr (fun z hz=>by obtain⟨y,_,rfl⟩:=mem_map.mp hz;rfl),_,rfl,?_⟩⟩⟩;rw[show(if false=true then !inV (.str x) (ws.map V.str)else inV (.str x) (ws.map V.str))=decide (x∈ws) by rw[if_neg (by decide),ud]];exact dF (fun e=>hy _ (ai nq) (of_decide_eq_true e)) (fun e=>hn _ (ai nq) (fun z=>e (decide_eq_true z)))
def vV:List Str:=["set","set","more","more","copy","add","less","load","keep","tell","tell","put","take","see"]
def vW:List Str:=["jump","zero","zero","below","below","call","call","mark","table","back","stop","halt"]
theorem Iv:(vV++vW).length=26:=by decide+kernel
theorem Iw:∀u∈vV++vW,u∈zL4\/u∈zL10\/u∈zL1\/u ="tell"\/u∈zL2\/u∈zL0\/u ="table"\/u ="halt"\/u∈zL3:=by decide+kernel
def iN(d:FR):Prop:=∀j∈c5 d ["aside"],j<900
theorem iO{d:FR}(h:¬("aside": Str)∈aX d.u):iN d:=fun j hj=>by unfold c5 pI at hj;obtain⟨x,hx,rfl⟩:=mem_map.mp hj;obtain⟨h1,h2⟩:=mem_filter.mp hx;have h2:=of_decide_eq_true h2;rw[mem_singleton]at h2;have:=(List.of_mem_zip h1).1;rw[h2]at this;exact absurd this h
theorem M5{u:Str}{b c:Int}(h:aX u=zL7)(hc:c<900):iN ⟨u,[b,c],[]⟩:=fun j hj=>by unfold c5 pI at hj;rw[show aX (FR.mk u [b,c] []).u=zL7 from h]at hj;have hj:j∈((([("box",b),("aside",c)]:List (Str×Int)).filter fun x=>decide (x.1∈(["aside"]:List Str))).map (·.2)):=hj;rw[List.filter_cons_of_neg (by show ¬decide (("box": Str)∈(["aside"]:List Str))=true;decide+kernel),List.filter_cons_of_pos (by show decide (("aside": Str)∈(["aside"]:List Str))=true;decide+kernel)]at hj;rw[mem_singleton.mp hj];exact hc
section
variable {n:Int}{u:Str}{b c t:Int}
theorem W6(h:u∈zL4)(hb:0<=b/\b<=7):GF n ⟨u,[b,c],[]⟩/\iN ⟨u,[b,c],[]⟩:=⟨.val h hb,iO ((by decide+kernel:∀u∈zL4,¬("aside": Str)∈aX u) u h)⟩
theorem W7(h:u∈zL10)(hb:0<=b/\b<=7)(hc:0<=c/\c<=7):GF n ⟨u,[b,c],[]⟩/\iN ⟨u,[b,c],[]⟩:=⟨.two h hb hc,iO ((by decide+kernel:∀u∈zL10,¬("aside": Str)∈aX u) u h)⟩
theorem W8(h:u∈zL1)(hb:0<=b/\b<=7)(hc:0<=c/\c<=3):GF n ⟨u,[b,c],[]⟩/\iN ⟨u,[b,c],[]⟩:=by
 refine⟨.uU h hb hc.1,?_⟩;rcases(by decide+kernel:∀u∈zL1,aX u=zL7\/¬("aside": Str)∈aX u) u h with z | z
 ·exact M5 z (by omega)
 ·exact iO z
theorem Sb(h:u∈zL2)(ht:0<=t/\t<n):GF n ⟨u,[t,c],[t]⟩/\iN ⟨u,[t,c],[t]⟩:=⟨.jmp h ht,iO ((by decide+kernel:∀u∈zL2,¬("aside": Str)∈aX u) u h)⟩
theorem W9(h:u∈zL0)(hb:0<=b/\b<=7)(ht:0<=t/\t<n):GF n ⟨u,[b,t,c],[t]⟩/\iN ⟨u,[b,t,c],[t]⟩:=⟨.Cu h hb ht,iO ((by decide+kernel:∀u∈zL0,¬("aside": Str)∈aX u) u h)⟩
theorem Xa(hb:0<=b/\b<=7):GF n ⟨"tell",[b],[]⟩/\iN ⟨"tell",[b],[]⟩:=⟨.tell hb,iO (by show ¬("aside": Str)∈aX "tell";decide+kernel)⟩
theorem Xb:GF n ⟨"halt",[c],[]⟩/\iN ⟨"halt",[c],[]⟩:=⟨.halt,iO (by show ¬("aside": Str)∈aX "halt";decide+kernel)⟩
theorem M6(h:u∈zL3):GF n ⟨u,[],[]⟩/\iN ⟨u,[],[]⟩:=⟨.non h,iO ((by decide+kernel:∀u∈zL3,¬("aside": Str)∈aX u) u h)⟩
theorem Sd{ts:List Int}(hb:0<=b/\b<=7)(hl:1<=ts.length/\ts.length<=16)(ht:∀t∈ts,0<=t/\t<n):GF n ⟨"table",[b],ts⟩/\iN ⟨"table",[b],ts⟩:=⟨.tab hb hl ht,iO (by show ¬("aside": Str)∈aX "table";decide+kernel)⟩
end
section
variable {P:Program}{w:World}{K:Frag}{mg:Str->Option Value}{base:Heap}
inductive Se(vs:List V)(H:Hp)(Q:VK)(E_:XK):Prop
 | mk (lx:Addr) (ms:List Int) (n:Nat) (_:vs=[.ref lx,.int (n:Int)]) (_:H lx=some (.lst (ms.map V.int))) (_:9<=ms.length) (_:1<=n) (_:n<=1000) (_:∀(q:Addr) (d:FR) (pH:List Int) (H':Hp),Same (del H lx) (del H' lx)->H' lx=some (.lst (pH.map V.int))->ms.length<=pH.length+9->dj (del H' lx) q d->GF (n:Int) d->iN d->Q (.ref q) H')
theorem vX:aI ["_law_xs","_law_n","_law_words","_law_word","_law_box_here","_law_target","_law_number","_law_far_here"] ["_law_xs","_law_n"] (ao jD):=by walk_at "sc1"
def M7:Scope:={kind:=.function,names:=[(".0",.local),("_law_k",.local),("_law_n",.free),("_law_xs",.free)],isGenerator:=false,isCoroutine:=false,more:=[]}
theorem EW:bZ (ao jD) M7 ["_law_xs","_law_n","_law_words","_law_word","_law_box_here","_law_target","_law_number","_law_far_here"] ["_law_k","_law_n","_law_xs"] [none,some 1,some 0]:=by walk_at "sc2"
theorem yB{f fB:Addr}{fd RS:fo}(F:cE K "_law_row" "_law_row" jD f fd)(T:Txt K w.params mg)(GB:aL P w K mg base bQ 1 fB RS ["_law_xs"] R9)(kB:KI K fB)(bB:Binds K RS ["_law_xs"] [])(mB:mg "_law_box"=some (.ref fB)):aL P w K mg base bQ 2 f fd ["_law_xs","_law_n"] Se:=by
 refine F.ok vX (by walk_at "ln") (fun Lq A outer s H vs Q E hr h=>?_)
 ·obtain⟨lx,ms,n,rfl,hx,h9,hn1,hn,k⟩:=h
  refine cu (ak (jh (oQ (i:=2) vX.nd rfl (Or.inl rfl) (oP (.cons ay (.cons ay (.cons ay (.cons ay (.cons ay (.cons ay (.cons ay (.cons ay (.cons ay (.cons ay (.cons ay (.cons ay (.cons ay (.cons ay .nil)))))))))))))))))
   (ak (jh (oQ (i:=2) vX.nd rfl (Or.inl rfl) (M4 iZ (pv 2) (oP (.cons ay (.cons ay (.cons ay (.cons ay (.cons ay (.cons ay (.cons ay (.cons ay (.cons ay (.cons ay (.cons ay (.cons ay .nil))))))))))))))))
   (ak (au (aP (i:=3) vX.nd rfl (Or.inl rfl) (aJ bp (pv 2) (aM cL (aM bY (dw ij PySem.F.slot_list_pop PySem.F.type_list_pop dy (pv 0)) aq) (aG aS (by rfl) T.len cZ (ae (pv 2) aj))) (fun _ _=>rfl))))
   (ak (au (aP (i:=4) vX.nd rfl (Or.inl rfl) (aC GB hr (by rfl) mB kB bB .nil aU (ae (pv 0) aj))))
   (ak (au (aP (i:=5) vX.nd rfl (Or.inl rfl) (aM cL (aM bY (dw ij PySem.F.slot_list_pop PySem.F.type_list_pop dy (pv 0)) aq) (pv 1))))
   (ak (au (aP (i:=6) vX.nd rfl (Or.inl rfl) (aM K0 (aM cL (aM bY (dw ij PySem.F.slot_list_pop PySem.F.type_list_pop dy (pv 0)) aq) aq) aq)))
   (ak (au (aP (i:=7) vX.nd rfl (Or.inl rfl) (aM bY (aM cL (aM bY (dw ij PySem.F.slot_list_pop PySem.F.type_list_pop dy (pv 0)) aq) aq) aq)))
   (ak (bz (aN bj (pv 3) (aZ (ae ay (ae ay aj))) rfl) (az (au (aE (aZ (ae (pv 3) (ae (pv 4) (ae (pv 6) aj))))))) (bg aO))
   (ak (bz (aN bj (pv 3) (aZ (ae ay (ae ay (ae ay (ae ay (ae ay aj)))))) rfl) (az (au (aE (aZ (ae (pv 3) (ae (pv 4) (ae (aC GB hr (by rfl) mB kB bB .nil aU (ae (pv 0) aj)) aj))))))) (bg aO))
   (ak (bz (aN bj (pv 3) (aZ (ae ay (ae ay (ae ay aj)))) rfl) (az (au (aE (aZ (ae (pv 3) (ae (pv 4) (ae (aG o8 (by rfl) T.abs yr (ae (pv 6) aj)) aj))))))) (bg aO))
   (ak (bz (aN eP (pv 3) ay (aY _)) (az (au (aE (aZ (ae (pv 3) (ae (pv 4) aj)))))) (bg aO))
   (ak (bz (aN bj (pv 3) (aZ (ae ay (ae ay (ae ay aj)))) rfl) (az (au (aE (aZ (ae (pv 3) (ae (pv 5) (ae (pv 7) aj))))))) (bg aO))
   (ak (bz (aN bj (pv 3) (aZ (ae ay (ae ay aj))) rfl) (az (au (aE (aZ (ae (pv 3) (ae (pv 4) (ae (pv 5) (ae (pv 7) aj)))))))) (bg aO))
   (ak (bz (aN eP (pv 3) ay (aY _)) (az (au (aE (aZ (ae (pv 3) (ae (pv 4) (ae (bf eV (by rfl) T.tuple jd (ae (cO (N':=["_law_k","_law_n","_law_xs"]) (fr:=[none,some 1,some 0]) EW rfl (cy rfl T.range (ae (aM c9 aq (aG o8 (by rfl) T.abs yr (ae (pv 6) aj))) aj)) (fun C s0 H0 fp=>(aR (i:=0) EW.nd rfl (Or.inl rfl))) (fun C s0 H0 fp=>cB) (fun C s0 H0 fp=>(aM cL (aM bY (Iu (K:=K) ij PySem.F.slot_list_pop PySem.F.type_list_pop dy (pv 2)) aq) (pv 1)))) aj)) aj))))))) (bg aO))
   (ak (bz (aN eP (pv 3) ay (aY _)) (az (au (aE (aZ (ae (pv 3) (ae (aG o8 (by rfl) T.abs yr (ae (pv 6) aj)) aj)))))) (bg aO))
   (az (au (aE (aZ (ae (pv 3) aj)))))))))))))))))))) ?_
  refine oJ (oK (ds:=vV.map Da.str) (oS vV) fun l1 xs1 G1 t1 _ h1 M8=>?_);obtain rfl:=k9 M8;show dC _ _ _ _ _
  first | refine dX (asg_next ?_) | refine dX (oJ ?_)
  refine⟨_,rfl,?_⟩;refine oK (ds:=vW.map Da.str) (oS vW) fun l2 xs2 G2 t2 _ h2 Xc=>?_;obtain rfl:=k9 Xc;refine⟨l1,l2,_,_,rfl,rfl,t2 _ _ h1,h2,dg (by rw[length_map,length_map];decide),fun l3 n3=>?_⟩;rw[<-map_append];have t3:=ai (o:=.lst ((vV++vW).map V.str)) n3;have h3:upd G2 l3 (.lst ((vV++vW).map V.str)) l3=_:=ah;have T3:=(t1.trans t2).trans t3;have ne3:l3≠lx:=fun z=>by rw[z,t2 _ _ (t1 _ _ hx)]at n3;cases n3
  generalize upd G2 l3 (.lst ((vV++vW).map V.str))=G3 at t3 h3 T3 ⊢;have hwl:=Iv;have Xd:=Iw;generalize vV++vW=ws at h3 hwl Xd;have Gg:=T3 _ _ hx;have S:=aH (l:=lx) T3;clear t1 t2 t3 T3;obtain⟨a1,m1,p1,q1,r1⟩:=jm (ms:=ms) (by omega);obtain⟨c,hc,hcl⟩:=Bz (a1/3) (n:=ws.length) (by omega);have Xe:ws[c]? =some ws[c]:=aa hcl;have Xf:ws[c] ∈ws:=bn _;generalize ws[c]=u at Xe Xf;have UQ:upd G3 lx (.lst (m1.map V.int)) l3=_:=(aw ne3).trans h3;have Pu:upd G3 lx (.lst (m1.map V.int)) lx=_:=ah;have S:=S.trans (eZ (o:=.lst (m1.map V.int)));refine⟨_,rfl,_,rfl,.inl ⟨rfl,_,aT.of Gg⟩,lx,_,_,rfl,rfl,Gg,p1,?_⟩;rw[q1];generalize upd G3 lx (.lst (m1.map V.int))=G4 at UQ Pu S ⊢;refine⟨_,_,rfl,rfl,⟨by show(0:Int)<3;decide,by show(3:Int)<_;decide⟩,_,rfl,l3,_,rfl,.inl (aT.of UQ),_,_,rfl,rfl,(by show(0:Int)< (((ws.map V.str).length:Nat):Int);rw[length_map];omega),l3,_,_,.str u,rfl,rfl,aT.of UQ,?_,?_⟩
  ·show mQ _ (a1/3 % (((ws.map V.str).length:Nat):Int))=_;rw[length_map,hc];exact cG (by rw[ac,Xe];rfl)
  have hu:=Xd u Xf;clear Xd Xf Xe UQ h3 Gg;refine⟨_,rfl,lx,m1,rfl,Pu,by omega,fun b m2 G5 b1 b2 s5 Pw r2=>?_⟩;have S:=S.trans s5;refine iM rfl Pw (by omega) fun a3 m3 G6 r3 uf s_ t_ e_=>?_;have S:=S.trans s_;refine⟨_,_,rfl,rfl,⟨by show(0:Int)<3;decide,by show(3:Int)<_;decide⟩,_,rfl,_,_,rfl,rfl,(by show(0:Int)< (n:Int);omega),?_⟩;have ht:0<=a3/3 % (n:Int)/\a3/3 % (n:Int)< (n:Int):=⟨Int.emod_nonneg _ (by omega),Int.emod_lt_of_pos _ (by omega)⟩;show dC _ (.int (a3/3 % (n:Int))) _ _ _;generalize a3/3 % (n:Int)=tg at ht;refine iM rfl uf (by omega) fun a4 m4 G7 r4 ug s_ t_ e_=>?_;have S:=S.trans s_;refine⟨_,_,rfl,rfl,⟨by show(0:Int)<3;decide,by show(3:Int)<_;decide⟩,_,_,rfl,rfl,VR,_,_,rfl,rfl,?_⟩;have hnb:-3<=a4/3 % 7-3/\a4/3 % 7-3<=3:=by omega
  show dC _ (.int (a4/3 % 7-3)) _ _ _;generalize a4/3 % 7-3=nb at hnb;refine iM rfl ug (by omega) fun a5 m5 G r5 hx s_ t_ e_=>?_;have S:=S.trans s_;refine⟨_,_,rfl,rfl,⟨by show(0:Int)<3;decide,by show(3:Int)<_;decide⟩,_,_,rfl,rfl,LX,_,_,rfl,rfl,⟨by show(0:Int)<3;decide,by show(3:Int)<_;decide⟩,?_⟩;have hfr:0<=a5/3 % 4/3/\a5/3 % 4/3<=1:=by omega
  show dC _ (.int (a5/3 % 4/3)) _ _ _;generalize a5/3 % 4/3=fr at hfr;have hab:0<=(if nb<0 then-nb else nb)/\(if nb<0 then-nb else nb)<=3:=by split<;>omega
  clear p1 q1 Pu Pw uf ug s5;refine vU (ws:=["set","more"]) rfl (fun _ _ h=>h) (fun G v e=>have S:=S.trans (aH (l:=lx) v);have hx:=v _ _ hx;?_) (fun G v e1=>have S:=S.trans (aH (l:=lx) v);have hx:=v _ _ hx;?_);rotate_left;refine vU (ws:=["copy","add","less","load","keep"]) rfl (fun _ _ h=>h) (fun G v e=>have S:=S.trans (aH (l:=lx) v);have hx:=v _ _ hx;?_) (fun G v e2=>have S:=S.trans (aH (l:=lx) v);have hx:=v _ _ hx;?_);rotate_left;refine vU (ws:=["put","take","see"]) rfl (fun _ _ h=>h) (fun G v e=>have S:=S.trans (aH (l:=lx) v);have hx:=v _ _ hx;?_) (fun G v e3=>have S:=S.trans (aH (l:=lx) v);have hx:=v _ _ hx;?_);rotate_left;refine⟨_,rfl,rfl,_,rfl,?_⟩;by_cases c4:u ="tell"
  ·subst c4;refine df rfl ?_;refine⟨_,rfl,_,rfl,zle,fun tr gA=>?_⟩;have ne:tr≠lx:=fun z=>by rw[z,hx]at gA;cases gA
   have gd:=Xa (n:=(n:Int)) ⟨b1,b2⟩;exact k tr ⟨"tell",[b],[]⟩ m5 _ (Same.trans S (aH (ai gA))) (ai gA _ _ hx) (by omega) ⟨gd.1.ok,.inr ⟨(by decide:¬("tell": Str)="table"),fZ ne⟩⟩ gd.1 gd.2
  refine cC (fun z=>c4 (V.str.inj (of_decide_eq_true z))) ?_;refine vU (ws:=["jump","call","mark"]) rfl (fun _ _ h=>h) (fun G v e=>have S:=S.trans (aH (l:=lx) v);have hx:=v _ _ hx;?_) (fun G v e5=>have S:=S.trans (aH (l:=lx) v);have hx:=v _ _ hx;?_);rotate_left;refine vU (ws:=["zero","below"]) rfl (fun _ _ h=>h) (fun G v e=>have S:=S.trans (aH (l:=lx) v);have hx:=v _ _ hx;?_) (fun G v e6=>have S:=S.trans (aH (l:=lx) v);have hx:=v _ _ hx;?_);rotate_left;refine⟨_,rfl,rfl,_,rfl,?_⟩;by_cases c7:u ="table"
  ·subst c7;refine df rfl ?_;refine⟨_,rfl,_,rfl,_,rfl,nb,rfl,_,_,rfl,rfl,?_⟩;refine⟨_,rfl,(by show-(2^62)<=1+(if nb<0 then-nb else nb);omega),(by show 1+(if nb<0 then-nb else nb)<2^62;omega),fun D nD=>?_⟩;have uh:D≠lx:=fun z=>by rw[z,hx]at nD;cases nD
   have Xg:del G lx D=none:=by rw[d9 uh];exact nD
   refine d8 (lo:=0) (n:=(1+(if nb<0 then-nb else nb)).toNat) (fun i σ ys G'=>∃(v:Option V) (ts m6:List Int),σ=[v,some (.int (n:Int)),some (.ref lx)]/\ys=ts.map V.int/\ts.length=i/\(∀t∈ts,0<=t/\t< (n:Int))/\Same (del G lx) (del G' lx)/\G' lx=some (.lst (m6.map V.int))/\m6.length+i=m5.length/\G' D=some (.lst ys)) ?_ ?_ ?_
   ·exact⟨none,[],m5,rfl,rfl,rfl,fun t ht=>absurd ht not_mem_nil,aH (ai nD),ai nD _ _ hx,rfl,ah⟩
   ·rintro i σ ys G' hi ⟨v,ts,m6,rfl,rfl,htl,htb,s6,uf,UR,wM⟩;have hi4:i<4:=by omega
    obtain⟨a6,m7,p6,q6,r6⟩:=jm (ms:=m6) (by omega);refine⟨_,rfl,.inl ⟨rfl,_,aT.of uf⟩,lx,_,_,rfl,rfl,uf,p6,?_⟩;rw[q6];have s7:=s6.trans (eZ (o:=.lst (m7.map V.int)));have ug:upd G' lx (.lst (m7.map V.int)) lx=_:=ah;have Ei:upd G' lx (.lst (m7.map V.int)) D=_:=(aw uh).trans wM;generalize upd G' lx (.lst (m7.map V.int))=G7 at s7 ug Ei ⊢;refine⟨_,_,rfl,rfl,⟨by show(0:Int)<3;decide,by show(3:Int)<_;decide⟩,_,rfl,_,_,rfl,rfl,(by show(0:Int)< (n:Int);omega),Ei,aK (by rw[length_map];omega),?_⟩;refine⟨_,ts++ [a6/3 % (n:Int)],m7,rfl,by rw[map_append];rfl,by rw[length_append,htl];rfl,fun t ht=>?_,?_,(aw (Ne.symm uh)).trans ug,by omega,ah⟩
    ·rcases mem_append.mp ht with z | z
     ·exact htb t z
     ·rw[mem_singleton.mp z];exact⟨Int.emod_nonneg _ (by omega),Int.emod_lt_of_pos _ (by omega)⟩
    ·intro x o Xh;have h1:=s7 x o Xh;by_cases cx:x=lx
     ·rw[cx,ie]at h1;cases h1
     have cD:x≠D:=fun z=>by rw[z,Xg]at Xh;cases Xh
     rw[d9 cx]at h1 ⊢;rw[aw cD];exact h1
   ·rintro σ ys G' ⟨v,ts,m6,rfl,rfl,htl,htb,s6,uf,UR,wM⟩;refine⟨D,_,rfl,.inl ⟨aT.of wM,fun tt Cm=>?_⟩⟩;have w1:=ai (o:=.tup (ts.map V.int)) Cm;have htt:upd G' tt (.tup (ts.map V.int)) tt=_:=ah;have net:tt≠lx:=fun z=>by rw[z,uf]at Cm;cases Cm
    have ug:=w1 _ _ uf;have S7:=Same.trans S (s6.trans (aH (l:=lx) w1));generalize upd G' tt (.tup (ts.map V.int))=G7 at htt ug S7 ⊢;refine⟨zle,fun tr gA=>?_⟩;have ne:tr≠lx:=fun z=>by rw[z,ug]at gA;cases gA
    have Xi:1<=ts.length/\ts.length<=16:=by rw[htl];omega
    have gd:=Sd (n:=(n:Int)) ⟨b1,b2⟩ Xi htb;exact k tr ⟨"table",[b],ts⟩ m6 _ (Same.trans S7 (aH (ai gA))) (ai gA _ _ ug) (by omega) ⟨gd.1.ok,.inl ⟨rfl,b,tt,rfl,fZ ne,gq (ai gA _ _ htt) net⟩⟩ gd.1 gd.2
  refine cC (fun z=>c7 (V.str.inj (of_decide_eq_true z))) ?_;refine⟨_,rfl,rfl,_,rfl,?_⟩;by_cases c8:u ="halt"
  ·subst c8;refine df rfl ?_;refine⟨_,rfl,_,rfl,nb,rfl,zle,fun tr gA=>?_⟩;have ne:tr≠lx:=fun z=>by rw[z,hx]at gA;cases gA
   have gd:=Xb (n:=(n:Int)) (c:=if nb<0 then-nb else nb);exact k tr ⟨"halt",[(if nb<0 then-nb else nb)],[]⟩ m5 _ (Same.trans S (aH (ai gA))) (ai gA _ _ hx) (by omega) ⟨gd.1.ok,.inr ⟨(by decide:¬("halt": Str)="table"),fZ ne⟩⟩ gd.1 gd.2
  refine cC (fun z=>c8 (V.str.inj (of_decide_eq_true z))) ?_;have hz:u∈zL3:=by
   rcases hu with z | z | z | z | z | z | z | z | z
   ·exact absurd (z) e1
   ·exact absurd (z) e2
   ·exact absurd (z) e3
   ·exact absurd z c4
   ·exact absurd (z) e5
   ·exact absurd (z) e6
   ·exact absurd z c7
   ·exact absurd z c8
   ·exact z
  refine⟨_,rfl,zle,fun tr gA=>?_⟩;have ne:tr≠lx:=fun z=>by rw[z,hx]at gA;cases gA
  have gd:=M6 (n:=(n:Int)) hz;exact k tr ⟨u,[],[]⟩ m5 _ (Same.trans S (aH (ai gA))) (ai gA _ _ hx) (by omega) ⟨gd.1.ok,.inr ⟨(by decide+kernel:∀u∈zL3,¬u ="table") u hz,fZ ne⟩⟩ gd.1 gd.2;refine⟨_,rfl,_,rfl,_,rfl,zle,fun tr gA=>?_⟩;have ne:tr≠lx:=fun z=>by rw[z,hx]at gA;cases gA
  have gd:=W6 (n:=(n:Int)) (c:=nb) (e) ⟨b1,b2⟩;exact k tr ⟨u,[b,nb],[]⟩ m5 _ (Same.trans S (aH (ai gA))) (ai gA _ _ hx) (by omega) ⟨gd.1.ok,.inr ⟨(by decide+kernel:∀u∈zL4,¬u ="table") u (e),fZ ne⟩⟩ gd.1 gd.2;refine⟨_,rfl,_,rfl,_,rfl,lx,m5,rfl,hx,by omega,fun c m6 G8 c1 c2 s8 Kl r6=>?_⟩;have S8:=Same.trans S s8;refine⟨zle,fun tr gA=>?_⟩;have ne:tr≠lx:=fun z=>by rw[z,Kl]at gA;cases gA
  have gd:=W7 (n:=(n:Int)) (e) ⟨b1,b2⟩ ⟨c1,c2⟩;exact k tr ⟨u,[b,c],[]⟩ m6 _ (Same.trans S8 (aH (ai gA))) (ai gA _ _ Kl) (by omega) ⟨gd.1.ok,.inr ⟨(by decide+kernel:∀u∈zL10,¬u ="table") u (e),fZ ne⟩⟩ gd.1 gd.2;refine⟨_,rfl,_,rfl,_,rfl,nb,rfl,zle,fun tr gA=>?_⟩;have ne:tr≠lx:=fun z=>by rw[z,hx]at gA;cases gA
  have gd:=W8 (n:=(n:Int)) (e) ⟨b1,b2⟩ hab;exact k tr ⟨u,[b,(if nb<0 then-nb else nb)],[]⟩ m5 _ (Same.trans S (aH (ai gA))) (ai gA _ _ hx) (by omega) ⟨gd.1.ok,.inr ⟨(by decide+kernel:∀u∈zL1,¬u ="table") u (e),fZ ne⟩⟩ gd.1 gd.2;refine⟨_,rfl,_,rfl,_,rfl,zle,fun tr gA=>?_⟩;have ne:tr≠lx:=fun z=>by rw[z,hx]at gA;cases gA
  have gd:=Sb (c:=fr) (e) ht;exact k tr ⟨u,[tg,fr],[tg]⟩ m5 _ (Same.trans S (aH (ai gA))) (ai gA _ _ hx) (by omega) ⟨gd.1.ok,.inr ⟨(by decide+kernel:∀u∈zL2,¬u ="table") u (e),fZ ne⟩⟩ gd.1 gd.2;refine⟨_,rfl,_,rfl,_,rfl,_,rfl,zle,fun tr gA=>?_⟩;have ne:tr≠lx:=fun z=>by rw[z,hx]at gA;cases gA
  have gd:=W9 (c:=fr) (e) ⟨b1,b2⟩ ht;exact k tr ⟨u,[b,tg,fr],[tg]⟩ m5 _ (Same.trans S (aH (ai gA))) (ai gA _ _ hx) (by omega) ⟨gd.1.ok,.inr ⟨(by decide+kernel:∀u∈zL0,¬u ="table") u (e),fZ ne⟩⟩ gd.1 gd.2
theorem EX{X:Cx}{a b:Expr}{ta tb:TE}{pos:Pos}{r:R2}(hr:Uj X r)(ha:zY X a ta)(hb:PE X b tb)(hs:zC b):zY X (.Subscript a b pos) (KY r ta tb):=by unfold zY at ha ⊢;exact aJ hr ha hb hs
theorem Iy{X:Cx}{pos:Pos}{tg e:Expr}{te:TE}{g:TG}(he:zY X e te)(hg:PG X tg g)(hs:swapsWithSole [tg] e pos.line X.env=pure false:=by rfl)(hw:swappedStores [tg] e X.env=pure none:=by rfl)
  (h1:(assignEach [tg] X.env).map (·.2)=[assign tg X.env]:=by rfl):O8 X (.Assign [tg] e pos) (Ar te g):=by
 unfold zY at he;unfold O8;exact o6 he hg hs hw h1
theorem jo{H:Hp}{l b:Addr}{o:HO}(h:b≠l):del (upd H b o) l=upd (del H l) b o:=by
 funext x;by_cases c:x=l
 ·subst c;rw[ie,aw (Ne.symm h),ie]
 ·rw[d9 c];by_cases d:x=b
  ·subst d;rw[ah,ah]
  ·rw[aw d,aw d,d9 c]
def sy(ds:List FR):Prop:=∀d,ds.getLast? =some d->d.u∈dA
theorem bJ.len{H:Hp}{xs:List V}{ds:List FR}(h:bJ H xs ds):xs.length=ds.length:=by obtain⟨qs,rfl,a,_⟩:=h;rw[length_map,a]
theorem bJ.get{H:Hp}{xs:List V}{ds:List FR}(h:bJ H xs ds){i:Nat}{d:FR}(hd:ds[i]? =some d):∃q,xs[i]? =some (.ref q)/\dj H q d:=by
 obtain⟨qs,rfl,a,b⟩:=h;have hi:i<qs.length:=by have:=(ag.mp hd).1;omega
 exact⟨qs[i],by rw[ac,aa hi];rfl,b i _ d (aa hi) hd⟩
theorem bJ.snoc{H:Hp}{xs:List V}{ds:List FR}{q:Addr}{d:FR}(h:bJ H xs ds)(g:dj H q d):bJ H (xs++ [.ref q]) (ds++ [d]):=by
 obtain⟨qs,rfl,a,b⟩:=h;refine⟨qs++ [q],by rw[map_append];rfl,by rw[length_append,length_append,a];rfl,fun i q' d' h1 h2=>?_⟩;by_cases c:i<qs.length
 ·rw[av c]at h1;rw[av (by omega)]at h2;exact b i q' d' h1 h2
 ·have:i=qs.length:=by have:=(ag.mp h1).1;rw[length_append]at this;simp at this;omega
  subst this;rw[bc (le_refl _),sub_self]at h1;rw[bc (by omega),a,sub_self]at h2;cases h1;cases h2;exact g
theorem bJ.Xj{H:Hp}{xs:List V}{ds:List FR}{q:Addr}{d:FR}(h:bJ H xs ds)(g:dj H q d)(j:Nat):bJ H (xs.set j (.ref q)) (ds.set j d):=by
 obtain⟨qs,rfl,a,b⟩:=h;refine⟨qs.set j q,by rw[map_set],by rw[length_set,length_set,a],fun i q' d' h1 h2=>?_⟩;rw[List.getElem?_set]at h1 h2;by_cases c:j=i
 ·rw[if_pos c]at h1 h2;split at h1
  ·rename_i hl;rw[if_pos (by omega)]at h2;cases h1;cases h2;exact g
  ·cases h1
 ·rw[if_neg c]at h1 h2;exact b i q' d' h1 h2
inductive Sf(vs:List V)(H:Hp)(Q:VK)(E_:XK):Prop
 | mk (lx:Addr) (ms:List Int) (mm:Nat) (_:vs=[.ref lx,.int (mm:Int)]) (_:1<=mm) (_:mm<=10) (_:H lx=some (.lst (ms.map V.int))) (_:100<=ms.length) (_:∀(lr:Addr) (xs:List V) (ds:List FR) (pH:List Int) (H':Hp),Same (del H lx) (del H' lx)->H lr=none->lr≠lx->H' lr=some (.lst xs)->bJ (del H' lx) xs ds->1<=ds.length->ds.length<=mm->(∀d∈ds,GF (ds.length:Nat) d/\iN d)->sy ds->H' lx=some (.lst (pH.map V.int))->ms.length<=pH.length+(9*mm+3)->Q (.ref lr) H')
theorem M9:aI ["_law_xs","_law_most","_law_n","_law_rows_here"] ["_law_xs","_law_most"] (ao iE):=by walk_at "sc1"
def Nb:Scope:={kind:=.function,names:=[(".0",.local),("_law_k",.local),("_law_row",.globalImplicit),("_law_n",.free),("_law_xs",.free)],isGenerator:=false,isCoroutine:=false,more:=[]}
theorem EY:bZ (ao iE) Nb ["_law_xs","_law_most","_law_n","_law_rows_here"] ["_law_k","_law_xs","_law_n"] [none,some 0,some 2]:=by walk_at "sc2"
theorem vY{f fW:Addr}{fd kZ:fo}(F:cE K "_law_rows" "_law_rows" iE f fd)(T:Txt K w.params mg)(GW:aL P w K mg base bQ 2 fW kZ ["_law_xs","_law_n"] Se)(kW:KI K fW)(bW:Binds K kZ ["_law_xs","_law_n"] [])(mW:mg "_law_row"=some (.ref fW)):aL P w K mg base bQ 3 f fd ["_law_xs","_law_most"] Sf:=by
 refine F.ok M9 (by walk_at "ln") (fun Lq A outer s H vs Q E hr h=>?_)
 ·obtain⟨lx,ms,mm,rfl,hm1,hm10,hx0,h100,k⟩:=h
  refine cu (ak (au (aP (i:=2) M9.nd rfl (Or.inr rfl) (aM c9 aq (aM cL (aM bY (dw ij PySem.F.slot_list_pop PySem.F.type_list_pop dy (pv 0)) aq) (pv 1)))))
   (ak (au (jA (i:=3) (N':=["_law_k","_law_xs","_law_n"]) (fr:=[none,some 0,some 2]) M9.nd rfl rfl EY rfl (cy rfl T.range (ae (pv 2) aj)) (fun C s0 H0 fp=>(aR (i:=0) EY.nd rfl (Or.inl rfl))) (fun C s0 H0 fp=>cB) (fun C s0 H0 fp=>(aC GW hr (by rfl) mW kW bW .nil aU (ae (pv 1) (ae (pv 2) aj))))))
   (ak (bz (aN iy (aJ aQ (aJ bp (pv 3) (iQ ft aq) (fun _ _=>rfl)) aq (fun _ _=>rfl)) (oO (.cons ay (.cons ay (.cons ay (.cons ay .nil))))) rfl) (az (jh (Iy (EX bp (oP (.cons (aZ (ae ay aj)) (.cons (aZ (ae ay aj)) (.cons (oO (.cons ay (.cons (aM cL (aM bY (dw ij PySem.F.slot_list_pop PySem.F.type_list_pop dy (pv 0)) aq) (pv 2)) (.cons aq .nil)))) .nil)))) (aM cL (aM bY (dw ij PySem.F.slot_list_pop PySem.F.type_list_pop dy (pv 0)) aq) aq) (fun _ _=>rfl)) (sL (pv 3) (iQ ft aq) set_list)))) (bg aO))
   (az (au (aE (pv 3))))))) ?_
  obtain⟨a1,m1,p1,q1,r1⟩:=jm (ms:=ms) (by omega);refine⟨_,rfl,.inl ⟨rfl,_,aT.of hx0⟩,lx,_,_,rfl,rfl,hx0,p1,?_⟩;rw[q1];have hx1:upd H lx (.lst (m1.map V.int)) lx=_:=ah;have S1:Same (del H lx) (del (upd H lx (.lst (m1.map V.int))) lx):=eZ;have fr1:∀b,upd H lx (.lst (m1.map V.int)) b=none->H b=none:=fun b hb=>by
   have c:b≠lx:=fun z=>by rw[z,ah]at hb;cases hb
   rwa [aw c]at hb
  generalize upd H lx (.lst (m1.map V.int))=G1 at hx1 S1 fr1 ⊢;obtain⟨n0,hn0,hnl⟩:=Bz (a1/3) (n:=mm) (by omega);refine⟨_,_,rfl,rfl,⟨by show(0:Int)<3;decide,by show(3:Int)<_;decide⟩,_,rfl,_,_,rfl,rfl,(by show(0:Int)< (mm:Int);omega),_,_,rfl,rfl,?_⟩;show dC _ (.int (1+a1/3 % (mm:Int))) _ _ _;rw[show(1:Int)+a1/3 % (mm:Int)=((n0+1:Nat):Int) by rw[show a1/3 % (mm:Int)=(n0:Int)from hn0];omega];have hn:n0+1<=mm:=hnl;have hn1:1<=n0+1:=by omega
  generalize n0+1=n at hn hn1;refine⟨_,rfl,_,rfl,by omega,by omega,fun D nD=>?_⟩;have uh:D≠lx:=fun z=>by rw[z,hx1]at nD;cases nD
  have Xg:del G1 lx D=none:=by rw[d9 uh];exact nD
  refine d8 (lo:=0) (n:=((n:Nat):Int).toNat) (fun i σ ys G'=>∃(v:Option V) (m':List Int) (ds:List FR),σ=[v,some (.ref lx),some (.int (n:Int))]/\bJ (del G' lx) ys ds/\ds.length=i/\(∀d∈ds,GF (n:Int) d/\iN d)/\Same (del G1 lx) (del G' lx)/\G' lx=some (.lst (m'.map V.int))/\m1.length<=m'.length+9*i/\G' D=some (.lst ys)) ?_ ?_ ?_
  ·exact⟨none,m1,[],rfl,⟨[],rfl,rfl,fun i q d h=>by simp at h⟩,rfl,fun d hd=>absurd hd not_mem_nil,aH (ai nD),ai nD _ _ hx1,by omega,ah⟩
  ·rintro i σ ys G' hi ⟨v,m',ds,rfl,hys,hdl,hgr,s6,uf,UR,wM⟩;have hin:i<n:=by rw[nn]at hi;exact hi
   refine⟨_,rfl,_,rfl,lx,m',n,rfl,uf,by omega,hn1,by omega,fun q d m7 G7 s7 ug r7 hv hg ha=>?_⟩;have Xk:=s7 _ _ (gq wM uh);have Ei:G7 D=some (.lst ys):=by rw[d9 uh]at Xk;exact Xk
   have hyl:=hys.len;refine⟨Ei,aK (by omega),_,m7,ds++ [d],rfl,?_,by rw[length_append,hdl];rfl,fun e he=>?_,?_,(aw (Ne.symm uh)).trans ug,by omega,ah⟩
   ·rw[jo uh];exact((hys.tups (.of s7)).snoc hv).tups (.upd Xk (fun _ z=>nomatch z))
   ·rcases mem_append.mp he with z | z
    ·exact hgr e z
    ·rw[mem_singleton.mp z];exact⟨hg,ha⟩
   ·rw[jo uh];exact aF (s6.trans s7) Xg
  rintro σ ys G ⟨v,m',ds,rfl,hys,hdl,hgr,s6,uf,UR,wM⟩;rw[nn]at hdl UR;subst hdl;have hyl:=hys.len;have Iz:ds[ds.length-1]? =some (ds[ds.length-1]'(by omega)):=aa _;generalize (ds[ds.length-1]'(by omega))=dl at Iz;obtain⟨q,Sg,hvl⟩:=hys.get Iz;have hgl:=hgr dl (al Iz);obtain⟨zs,hqd,_⟩:=hvl.parts;have hqG:G q=some (.tup (.str dl.u::zs)):=fQ _ _ hqd;have hat:∀{zs:List V} {y:V},zs.length=ds.length->zs[ds.length-1]? =some y->mQ zs (-1)=some y:=fun {zs} {y} hl hy=>by unfold mQ AF;rw[if_neg (by decide),if_pos (by omega)];show zs[((-1:Int)+(zs.length:Int)).toNat]? =_;rw[show((-1:Int)+(zs.length:Int)).toNat=ds.length-1 by omega];exact hy
  refine⟨_,rfl,_,rfl,D,_,_,.ref q,rfl,rfl,aT.of wM,hat hyl Sg,q,_,0,_,rfl,rfl,bh.of hqG,at0 _ _,zle,fun te nte=>?_⟩;have w1:=ai (o:=.tup [V.str "stop",V.str "back",V.str "halt",V.str "jump"]) nte;refine⟨te,zL13.map V.str,rfl,.inr (bh.of ah),rfl,rfl,_,rfl,?_⟩;have S:=S1.trans (s6.trans (aH (l:=lx) w1));have ug:=w1 _ _ uf;have Ei:=w1 _ _ wM;have Nc:=hys.tups (.of <| aH (l:=lx) w1);have Xl:H D=none:=fr1 D nD;generalize upd G te (.tup [V.str "stop",V.str "back",V.str "halt",V.str "jump"])=G7 at S ug Ei Nc ⊢;have ein:(if true=true then !inV (.str dl.u) (zL13.map V.str)else inV (.str dl.u) (zL13.map V.str))=!decide (dl.u∈dA):=by rw[if_pos rfl,ud];rfl
  refine dF (fun e=>?_) (fun e=>?_);rotate_left
  ·rw[ein]at e;refine⟨_,rfl,k D ys ds m' G7 S Xl uh Ei Nc hn1 hn hgr (fun d hd=>?_) ug (by omega)⟩;rw[List.getLast?_eq_getElem?,Iz]at hd;cases hd;by_cases c:dl.u∈dA
   ·exact c
   ·exact absurd (by rw[decide_eq_false c];rfl) e
  refine⟨zle,fun ta Xm=>?_⟩;have w2:=ai (o:=.tup [V.str "stop"]) Xm;have ha:upd G7 ta (.tup [V.str "stop"]) ta=_:=ah;have Lx:ta≠lx:=fun z=>by rw[z,ug]at Xm;cases Xm
  have Kl:=w2 _ _ ug;have O7:=w2 _ _ Ei;have Sh:=Nc.tups (.of <| aH (l:=lx) w2);have S:=S.trans (aH (l:=lx) w2);generalize upd G7 ta (.tup [V.str "stop"])=G8 at ha Kl O7 Sh S ⊢;refine⟨zle,fun tb Xn=>?_⟩;have w3:=ai (o:=.tup [V.str "back"]) Xn;have hb:upd G8 tb (.tup [V.str "back"]) tb=_:=ah;have Xo:tb≠lx:=fun z=>by rw[z,Kl]at Xn;cases Xn
  have ha9:=w3 _ _ ha;have Nf:=w3 _ _ Kl;have hD9:=w3 _ _ O7;have Si:=Sh.tups (.of <| aH (l:=lx) w3);have S:=S.trans (aH (l:=lx) w3);generalize upd G8 tb (.tup [V.str "back"])=G9 at hb ha9 Nf hD9 Si S ⊢;obtain⟨a2,m2,p2,q2,r2⟩:=jm (ms:=m') (by omega);refine⟨_,rfl,.inl ⟨rfl,_,aT.of Nf⟩,lx,_,_,rfl,rfl,Nf,p2,?_⟩;rw[q2];have Sl:upd G9 lx (.lst (m2.map V.int)) tb=_:=(aw Xo).trans hb;have Sn:upd G9 lx (.lst (m2.map V.int)) ta=_:=(aw Lx).trans ha9;have AQ:upd G9 lx (.lst (m2.map V.int)) D=_:=(aw uh).trans hD9;have IA:upd G9 lx (.lst (m2.map V.int)) lx=_:=ah;have Km:=Si.tups (.of <| eZ (l:=lx) (o:=.lst (m2.map V.int)));have S:=S.trans (eZ (o:=.lst (m2.map V.int)));generalize upd G9 lx (.lst (m2.map V.int))=IB at Sl Sn AQ IA Km S ⊢;have htg:0<=a2/3 % (ds.length:Int)/\a2/3 % (ds.length:Int)< (ds.length:Int):=⟨Int.emod_nonneg _ (by omega),Int.emod_lt_of_pos _ (by omega)⟩;refine⟨_,_,rfl,rfl,⟨by show(0:Int)<3;decide,by show(3:Int)<_;decide⟩,_,rfl,_,_,rfl,rfl,(by show(0:Int)< (ds.length:Int);omega),zle,fun tc Xp=>?_⟩;have w4:=ai (o:=.tup [V.str "jump",.int (a2/3 % (ds.length:Int)),.int 0]) Xp;have hc:upd IB tc (.tup [V.str "jump",.int (a2/3 % (ds.length:Int)),.int 0]) tc=_:=ah;have nec:tc≠lx:=fun z=>by rw[z,IA]at Xp;cases Xp
  have Sq:=w4 _ _ Sl;have Sr:=w4 _ _ Sn;have Ss:=w4 _ _ AQ;have EZ:=w4 _ _ IA;have Kn:=Km.tups (.of <| aH (l:=lx) w4);have S:=S.trans (aH (l:=lx) w4);generalize upd IB tc (.tup [V.str "jump",.int (a2/3 % (ds.length:Int)),.int 0])=Px at hc Sq Sr Ss EZ Kn S ⊢;refine⟨zle,fun ld Ng=>?_⟩;have w5:=ai (o:=.lst [V.ref ta,.ref tb,.ref tc]) Ng;have kJ:upd Px ld (.lst [V.ref ta,.ref tb,.ref tc]) ld=_:=ah;have ned:ld≠lx:=fun z=>by rw[z,EZ]at Ng;cases Ng
  have Sv:=w5 _ _ hc;have Sw:=w5 _ _ Sq;have Sx:=w5 _ _ Sr;have Sy:=w5 _ _ Ss;have IC:=w5 _ _ EZ;have Ko:=Kn.tups (.of <| aH (l:=lx) w5);have S:=S.trans (aH (l:=lx) w5);generalize upd Px ld (.lst [V.ref ta,.ref tb,.ref tc])=Py at kJ Sv Sw Sx Sy IC Ko S ⊢;refine iM rfl IC (by omega) fun a3 m3 BD r3 Nh s_ t_ e_=>?_;have Sz:=(e_ _ ned).trans kJ;have Xq:=(e_ _ nec).trans Sv;have Xr:=(e_ _ Xo).trans Sw;have Xt:=(e_ _ Lx).trans Sx;have SA:=(e_ _ uh).trans Sy;have SD:=Ko.tups (.of s_);have S:=S.trans s_;obtain⟨c,hcm,hcl⟩:=Bz (a3/3) (n:=3) (by decide);have SE:∃(t:Addr) (d:FR),([V.ref ta,.ref tb,.ref tc]:List V)[c]? =some (.ref t)/\dj (del BD lx) t d/\(GF (ds.length:Nat) d/\iN d)/\d.u∈dA:=by
   match c,hcl with
   | 0,_=>
    have g:=M6 (n:=(ds.length:Nat)) (u :="stop") (by decide+kernel);exact⟨ta,⟨"stop",[],[]⟩,rfl,⟨g.1.ok,.inr ⟨by decide+kernel,gq Xt Lx⟩⟩,g,by decide+kernel⟩
   | 1,_=>
    have g:=M6 (n:=(ds.length:Nat)) (u :="back") (by decide+kernel);exact⟨tb,⟨"back",[],[]⟩,rfl,⟨g.1.ok,.inr ⟨by decide+kernel,gq Xr Xo⟩⟩,g,by decide+kernel⟩
   | 2,_=>
    have g:=Sb (u :="jump") (c:=0) (by decide+kernel) htg;exact⟨tc,⟨"jump",[a2/3 % (ds.length:Int),0],[a2/3 % (ds.length:Int)]⟩,rfl,⟨g.1.ok,.inr ⟨by show ¬("jump": Str)="table";decide,gq Xq nec⟩⟩,g,by show("jump": Str)∈dA;decide+kernel⟩
  obtain⟨t,d,hpk,hpd,hpg,hpe⟩:=SE;refine⟨_,_,rfl,rfl,⟨by show(0:Int)<3;decide,by show(3:Int)<_;decide⟩,_,_,rfl,rfl,QJ,ld,_,_,.ref t,rfl,rfl,aT.of Sz,?_,?_⟩
  ·show mQ _ (a3/3 % 3)=_;rw[show a3/3 % 3=(c:Int)from hcm];exact cG hpk
  refine⟨_,rfl,_,rfl,D,_,_,ds.length-1,rfl,rfl,SA,?_,?_⟩
  ·show AF ys.length (-1)=_;unfold AF;rw[if_neg (by decide),if_pos (by omega)];congr 1;omega
  have hgs:∀e∈ds.set (ds.length-1) d,GF (ds.length:Nat) e/\iN e:=fun e he=>by
   rcases List.mem_or_eq_of_mem_set he with z | z
   ·exact hgr e z
   ·rw[z];exact hpg
  have Xu:=SD.Xj hpd (ds.length-1);have zX:del H lx D=none:=by rw[d9 uh];exact Xl
  refine⟨_,rfl,k D (ys.set (ds.length-1) (.ref t)) (ds.set (ds.length-1) d) m3 _ ?_ Xl uh ah ?_ (by rw[length_set];exact hn1) (by rw[length_set];exact hn) (by rw[length_set];exact hgs) (fun e he=>?_) ((aw (Ne.symm uh)).trans Nh) (by omega)⟩
  ·rw[jo uh];exact aF S zX
  ·rw[jo uh];exact Xu.tups (.upd (gq SA uh) (fun _ z=>nomatch z))
  ·rw[List.getLast?_eq_getElem?,length_set,List.getElem?_set,if_pos rfl,if_pos (by omega)]at he;cases he;exact hpe
def led(r m t:Int):Int:=t+m*(if decide (r<t)then 1 else 0)
def fq(r m:Int)(d:FR):FR:=⟨d.u,if d.u∈oM then [led r m (d.is.getD 0 0),d.is.getD 1 0]else if d.u∈zb then [d.is.getD 0 0,led r m (d.is.getD 1 0),d.is.getD 2 0]else d.is,d.ts.map (led r m)⟩
theorem ui{r m t:Int}(hm:0<=m):t<=led r m t/\led r m t<=t+m:=by unfold led;split<;>omega
theorem ql{r m:Int}{u:Str}{t c:Int}(h:u∈oM):fq r m ⟨u,[t,c],[t]⟩=⟨u,[led r m t,c],[led r m t]⟩:=by unfold fq;rw[if_pos h];rfl
theorem qm{r m:Int}{u:Str}{b t c:Int}(h:u∈zb):fq r m ⟨u,[b,t,c],[t]⟩=⟨u,[b,led r m t,c],[led r m t]⟩:=by unfold fq;rw[if_neg ((by decide+kernel:∀u∈zb,¬u∈oM) u h),if_pos h];rfl
theorem qo{r m b:Int}{ts:List Int}:fq r m ⟨"table",[b],ts⟩=⟨"table",[b],ts.map (led r m)⟩:=by unfold fq;rw[if_neg (by show ¬("table": Str)∈oM;decide+kernel),if_neg (by show ¬("table": Str)∈zb;decide+kernel)]
theorem E4{r m:Int}{u:Str}{is:List Int}(h:¬u∈dU):fq r m ⟨u,is,[]⟩=⟨u,is,[]⟩:=by unfold fq;rw[if_neg (fun z=>h ((by decide+kernel:∀u∈oM,u∈dU) u z)),if_neg (fun z=>h ((by decide+kernel:∀u∈zb,u∈dU) u z))];rfl
theorem yC{u:Str}(h:u∈zL2):u∈oM:=(by decide+kernel:∀u∈zL2,u∈oM) u h
theorem vZ{u:Str}(h:u∈zL0):u∈zb:=(by decide+kernel:∀u∈zL0,u∈zb) u h
theorem GF.three{n:Int}{d:FR}(h:GF n d):(∃(u:Str) (t c:Int),u∈zL2/\d=⟨u,[t,c],[t]⟩/\0<=t/\t<n)\/(∃(u:Str) (b t c:Int),u∈zL0/\d=⟨u,[b,t,c],[t]⟩/\(0<=b/\b<=7)/\0<=t/\t<n)\/(∃(b:Int) (ts:List Int),d=⟨"table",[b],ts⟩/\(0<=b/\b<=7)/\(1<=ts.length/\ts.length<=16)/\∀t∈ts,0<=t/\t<n)\/(d.ts=[]/\¬d.u∈dU/\¬d.u ="table"/\∀n',GF n' d):=by
 cases h with
 | jmp h ht=>exact .inl ⟨_,_,_,h,rfl,ht⟩
 | Cu h hb ht=>exact .inr (.inl ⟨_,_,_,_,h,rfl,hb,ht⟩)
 | tab hb hl ht=>exact .inr (.inr (.inl ⟨_,_,rfl,hb,hl,ht⟩))
 | @val u b c h hb=>exact .inr (.inr (.inr ⟨rfl,(by decide+kernel:∀u∈zL4,¬u∈dU) u h,(by decide+kernel:∀u∈zL4,¬u ="table") u h,fun _=>.val h hb⟩))
 | @two u b c h hb hc=>exact .inr (.inr (.inr ⟨rfl,(by decide+kernel:∀u∈w2,¬u∈dU) u h,(by decide+kernel:∀u∈w2,¬u ="table") u h,fun _=>.two h hb hc⟩))
 | @uU u b c h hb hc=>exact .inr (.inr (.inr ⟨rfl,(by decide+kernel:∀u∈zL1,¬u∈dU) u h,(by decide+kernel:∀u∈zL1,¬u ="table") u h,fun _=>.uU h hb hc⟩))
 | tell hb=>exact .inr (.inr (.inr ⟨rfl,by show ¬("tell": Str)∈dU;decide+kernel,by show ¬("tell": Str)="table";decide+kernel,fun _=>.tell hb⟩))
 | halt=>exact .inr (.inr (.inr ⟨rfl,by show ¬("halt": Str)∈dU;decide+kernel,by show ¬("halt": Str)="table";decide+kernel,fun _=>.halt⟩))
 | @non u h=>exact .inr (.inr (.inr ⟨rfl,(by decide+kernel:∀u∈zL3,¬u∈dU) u h,(by decide+kernel:∀u∈zL3,¬u ="table") u h,fun _=>.non h⟩))
theorem l7{r m:Int}{d:FR}(h0:d.ts=[])(h:¬d.u∈dU):fq r m d=d:=by obtain⟨u,is,ts⟩:=d;obtain rfl:ts=[]:=h0;exact E4 h
theorem GF.led{n:Int}{d:FR}(h:GF n d){r m:Int}(hm:0<=m):GF (n+m) (fq r m d):=by
 rcases h.three with ⟨u,t,c,hu,rfl,h0,h1⟩ | ⟨u,b,t,c,hu,rfl,hb,h0,h1⟩ | ⟨b,ts,rfl,hb,hl,ht⟩ | ⟨e,hf,_,g⟩
 ·rw[ql (yC hu)];have:=ui (r:=r) (t:=t) hm;exact .jmp hu (by omega)
 ·rw[qm (vZ hu)];have:=ui (r:=r) (t:=t) hm;exact .Cu hu hb (by omega)
 ·rw[qo];refine .tab hb (by rw[length_map];exact hl) fun x hx=>?_;obtain⟨t,h1,rfl⟩:=mem_map.mp hx;have:=ui (r:=r) (t:=t) hm;have:=ht t h1;omega
 ·rw[l7 e hf];exact g _
theorem Ni{u:Str}:u∈zL2->u∈dU:=(by decide+kernel:∀u∈zL2,u∈dU) u
theorem E5{u:Str}:u∈zL0->u∈dU:=(by decide+kernel:∀u∈zL0,u∈dU) u
theorem Nj{u:Str}:u∈dU->¬u ="table":=(by decide+kernel:∀u∈dU,¬u ="table") u
inductive SH(vs:List V)(H:Hp)(Q:VK)(E_:XK):Prop
 | mk (q:Addr) (d:FR) (n r m:Int) (_:vs=[.ref q,.int r,.int m]) (_:dj H q d) (_:GF n d) (_:0<=m) (_:m<=1000) (_:∀(q':Addr) (H1:Hp),Same H H1->dj H1 q' (fq r m d)->Q (.ref q') H1)
theorem Xv:aI ["_law_row_here","_law_r","_law_many"] ["_law_row_here","_law_r","_law_many"] (ao jE):=by walk_at "sc1"
def Nk:Scope:={kind:=.function,names:=[(".0",.local),("_law_t",.local),("int",.globalImplicit),("_law_many",.free),("_law_r",.free)],isGenerator:=false,isCoroutine:=false,more:=[]}
theorem E6:bZ (ao jE) Nk ["_law_row_here","_law_r","_law_many"] ["_law_t","_law_many","_law_r"] [none,some 2,some 1]:=by walk_at "sc2"
theorem yD{f:Addr}{fd:fo}(F:cE K "_law_led" "_law_led" jE f fd)(T:Txt K w.params mg): aL P w K mg base bQ 1 f fd ["_law_row_here","_law_r","_law_many"] SH:=by
 refine F.ok Xv (by walk_at "ln") (fun Lq A outer s H vs Q E hr h=>?_)
 ·obtain⟨q,d,n,r,m,rfl,hR,hG,hm0,hm,k⟩:=h;have cm:∀j:Int,Gp m j:=fun j=>.inl ⟨by show-(18446744073709551616:Int)<m;omega,by show m< (18446744073709551616:Int);omega⟩;obtain⟨items,hq,_⟩:=hR.parts;have hg2:=hG.led (r:=r) hm0
  refine cu (ak (bz (aN eP (aJ aQ (pv 0) aq (fun _ _=>rfl)) ay (aY _)) (az (au (aE (aZ (ae (aJ aQ (pv 0) aq (fun _ _=>rfl)) (ae (aJ aQ (pv 0) aq (fun _ _=>rfl)) (ae (bf (r:=Ej K) eV (by rfl) T.tuple jd (ae (cO (N':=["_law_t","_law_many","_law_r"]) (fr:=[none,some 2,some 1]) E6 rfl (iW (aJ aQ (pv 0) aq (fun _ _=>rfl))) (fun C s0 H0 fp=>(aR (i:=0) E6.nd rfl (Or.inl rfl))) (fun C s0 H0 fp=>cB) (fun C s0 H0 fp=>(aM c9 (pv 0) (aM lE (pv 1) (bf lF (by rfl) T.int tL (ae (cS rM (pv 0) (pv 2) (aY _)) aj)))))) aj)) aj))))))) (bg aO))
   (ak (bz (aN bj (aJ aQ (pv 0) aq (fun _ _=>rfl)) (oO (.cons ay (.cons ay (.cons ay (.cons ay (.cons ay .nil)))))) rfl) (az (au (aE (aM zy (gW xu (pv 0) jw (iw (iQ ft aq))) (aZ (ae (aM c9 (aJ aQ (pv 0) (iQ ft aq) (fun _ _=>rfl)) (aM lE (pv 2) (bf lF (by rfl) T.int tL (ae (cS rM (aJ aQ (pv 0) (iQ ft aq) (fun _ _=>rfl)) (pv 1) (aY _)) aj)))) (ae (aJ aQ (pv 0) (iQ ft aq) (fun _ _=>rfl)) aj))))))) (bg aO))
   (az (au (aE (pv 0)))))) ?_
  refine⟨_,rfl,q,_,0,_,rfl,rfl,bh.of hq,at0 _ _,rfl,_,rfl,?_⟩;refine dF (fun e=>?_) (fun e=>?_)
  ·have e:=strEq e;obtain⟨b,p,h1,h2,h3⟩:=hR.tb e;obtain⟨u,is,ts⟩:=d;obtain rfl:u ="table":=e;obtain rfl:is=[b]:=h1;rw[qo]at k hg2;refine⟨_,rfl,q,_,0,_,rfl,rfl,bh.of h2,at0 _ _,_,rfl,q,_,1,_,rfl,rfl,bh.of h2,at1 _ _ _,_,rfl,q,_,2,_,rfl,rfl,bh.of h2,at2 _ _ _ _,p,rfl,⟨_,bh.of h3⟩,fun D nD=>fe (K:=K) (a:=p) (xs:=ts.map V.int) (fun j σ ys G=>∃(v:Option V),σ=[v,some (.int m),some (.int r)]/\ys=((ts.take j).map (led r m)).map V.int/\Same H G/\G D=some (.lst ys)) ?_ ?_ ?_ ?_⟩
   ·exact⟨none,rfl,rfl,ai nD,ah⟩
   ·rintro j σ ys G _ ⟨v,rfl,rfl,s2,_⟩;exact bh.of (s2 _ _ h3)
   ·rintro j x σ ys G hx ⟨v,rfl,rfl,s2,hD⟩;rw[ac]at hx;obtain⟨tt,htj,rfl⟩:=map_eq_some_iff.mp hx;have Bt:=hG.ts.1;have hjl:=(ag.mp htj).1;refine⟨_,rfl,_,rfl,_,rfl,_,rfl,_,_,rfl,rfl,.inr ⟨_,rfl,_,_,rfl,rfl,cm _,_,_,rfl,rfl,hD,aK (by rw[length_map,length_map,length_take];have:ts.length<=16:=Bt;omega),_,rfl,?_,aF s2 nD,ah⟩⟩;rw[take_succ,htj,map_append,map_append];rfl
   ·rintro σ ys G ⟨v,rfl,rfl,s2,hD⟩;rw[length_map,take_length]at hD;refine⟨D,_,rfl,.inl ⟨aT.of hD,fun t2 Bx=>?_⟩⟩;have s3:=s2.trans (ai (o:=.tup ((ts.map (led r m)).map V.int)) Bx);have h3':upd G t2 (.tup ((ts.map (led r m)).map V.int)) t2=_:=ah;generalize upd G t2 (.tup ((ts.map (led r m)).map V.int))=G3 at s3 h3' ⊢;refine⟨zle,fun q2 nq2=>?_⟩;exact k q2 _ (s3.trans (ai nq2)) ⟨hg2.ok,.inl ⟨rfl,b,t2,rfl,ah,ai nq2 _ _ h3'⟩⟩
  ·have e:=rX e;have ht:=hR.nt e;refine⟨_,rfl,q,_,0,_,rfl,rfl,bh.of ht,at0 _ _,zle,fun t nt=>⟨t,dU.map V.str,rfl,.inr (bh.of ah),rfl,rfl,_,rfl,?_⟩⟩;have s0:=ai (o:=.tup [V.str "jump",V.str "zero",V.str "below",V.str "call",V.str "mark"]) nt;rw[show inV (.str d.u) (dU.map V.str)=decide (d.u∈dU)from dz _ _];generalize upd H t (.tup [V.str "jump",V.str "zero",V.str "below",V.str "call",V.str "mark"])=G0 at s0 ⊢;refine dF (fun e5=>?_) (fun e5=>?_)
   ·have e5:=of_decide_eq_true e5;rcases hG.three with ⟨u,tt,c,hu,rfl,h0,h1⟩ | ⟨u,b,tt,c,hu,rfl,hb,h0,h1⟩ | ⟨b,ts,rfl,_⟩ | ⟨_,hf,_⟩
    rotate_left 2
    ·exact absurd e5 (by show ¬("table": Str)∈dU;decide+kernel)
    ·exact absurd e5 hf
    ·rw[ql (yC hu)]at k hg2;have ep:H q=some (.tup [V.str u,V.int tt,V.int c]):=ht;refine⟨_,rfl,2,rfl,-2,rfl,q,_,rfl,bh.of (s0 _ _ ep),(fun z=>absurd z.2 (by show ¬(1:Nat)=3;decide)),fun a na=>?_⟩;have s1:=s0.trans (ai (o:=.tup [V.str u]) na);have ha:upd G0 a (.tup [V.str u]) a=_:=ah;refine⟨_,rfl,_,rfl,q,_,-2,.int tt,rfl,rfl,bh.of (s1 _ _ ep),rfl,_,rfl,_,rfl,_,rfl,q,_,-2,.int tt,rfl,rfl,bh.of (s1 _ _ ep),rfl,_,rfl,_,_,rfl,rfl,.inr ⟨_,rfl,_,_,rfl,rfl,cm _,_,_,rfl,rfl,_,rfl,_,rfl,q,_,-1,.int c,rfl,rfl,bh.of (s1 _ _ ep),rfl,zle,fun b nb=>?_⟩⟩;have s2:=s1.trans (ai (o:=.tup [V.int (led r m tt),V.int c]) nb);refine⟨a,b,[V.str u],_,rfl,rfl,bh.of (ai nb _ _ ha),bh.of ah,cons_ne_nil _ _,zle,fun z=>absurd z (cons_ne_nil _ _),fun _ p' nq=>?_⟩;exact k p' _ (s2.trans (ai nq)) ⟨hg2.ok,.inr ⟨e,ah⟩⟩
    ·rw[qm (vZ hu)]at k hg2;have ep:H q=some (.tup [V.str u,V.int b,V.int tt,V.int c]):=ht;refine⟨_,rfl,2,rfl,-2,rfl,q,_,rfl,bh.of (s0 _ _ ep),(fun z=>absurd z.2 (by show ¬(2:Nat)=4;decide)),fun a na=>?_⟩;have s1:=s0.trans (ai (o:=.tup [V.str u,V.int b]) na);have ha:upd G0 a (.tup [V.str u,V.int b]) a=_:=ah;refine⟨_,rfl,_,rfl,q,_,-2,.int tt,rfl,rfl,bh.of (s1 _ _ ep),rfl,_,rfl,_,rfl,_,rfl,q,_,-2,.int tt,rfl,rfl,bh.of (s1 _ _ ep),rfl,_,rfl,_,_,rfl,rfl,.inr ⟨_,rfl,_,_,rfl,rfl,cm _,_,_,rfl,rfl,_,rfl,_,rfl,q,_,-1,.int c,rfl,rfl,bh.of (s1 _ _ ep),rfl,zle,fun b' nb=>?_⟩⟩;have s2:=s1.trans (ai (o:=.tup [V.int (led r m tt),V.int c]) nb);refine⟨a,b',[V.str u,V.int b],_,rfl,rfl,bh.of (ai nb _ _ ha),bh.of ah,cons_ne_nil _ _,zle,fun z=>absurd z (cons_ne_nil _ _),fun _ p' nq=>?_⟩;exact k p' _ (s2.trans (ai nq)) ⟨hg2.ok,.inr ⟨e,ah⟩⟩
   ·have e5:¬d.u∈dU:=fun z=>e5 (decide_eq_true z);rcases hG.three with ⟨u,tt,c,hu,rfl,h0,h1⟩ | ⟨u,b,tt,c,hu,rfl,hb,h0,h1⟩ | ⟨b,ts,rfl,_⟩ | ⟨hts,hf,_⟩
    ·exact absurd (Ni hu) e5
    ·exact absurd (E5 hu) e5
    ·exact absurd rfl e
    ·rw[l7 hts hf]at k;exact⟨_,rfl,k q _ s0 (hR.same s0)⟩
inductive SJ(vs:List V)(H:Hp)(Q:VK)(E_:XK):Prop
 | mk (q:Addr) (d:FR) (n:Int) (_:vs=[.ref q]) (_:dj H q d) (_:GF n d) (_:∀H1,Same H H1->Q (.int (ji d)) H1)
theorem Xw:aI ["_law_row_here"] ["_law_row_here"] (ao lV):=by walk_at "sc1"
theorem yE{f:Addr}{fd:fo}(F:cE K "_law_far" "_law_far" lV f fd)(T:Txt K w.params mg): aL P w K mg base bQ 1 f fd ["_law_row_here"] SJ:=by
 refine F.ok Xw (by walk_at "ln") (fun Lq A outer s H vs Q E hr h=>?_)
 ·obtain⟨q,d,n,rfl,hR,hG,k⟩:=h;obtain⟨items,hq,_⟩:=hR.parts
  refine cu (ak (bz (aN bj (aJ aQ (pv 0) aq (fun _ _=>rfl)) (oO (.cons ay (.cons ay (.cons ay (.cons ay (.cons ay .nil)))))) rfl) (az (au (aE (aJ aQ (pv 0) (iQ ft aq) (fun _ _=>rfl))))) (bg aO))
   (az (au (aE aq)))) ?_
  refine⟨_,rfl,q,_,0,_,rfl,rfl,bh.of hq,at0 _ _,zle,fun t nt=>⟨t,dU.map V.str,rfl,.inr (bh.of ah),rfl,rfl,_,rfl,?_⟩⟩;have s0:=ai (o:=.tup [V.str "jump",V.str "zero",V.str "below",V.str "call",V.str "mark"]) nt;rw[show inV (.str d.u) (dU.map V.str)=decide (d.u∈dU)from dz _ _];generalize upd H t (.tup [V.str "jump",V.str "zero",V.str "below",V.str "call",V.str "mark"])=G0 at s0 ⊢;refine dF (fun e5=>?_) (fun e5=>?_)
  ·have e5:=of_decide_eq_true e5;obtain⟨hnt,c,r,e1,e2⟩:=hG.far e5;have ht:=hR.nt hnt;have hat:mQ (V.str d.u::d.is.map V.int) (-1)=some (.int c):=p5 (by rw[e1,map_append,<-List.cons_append,map_cons];exact List.getLast?_concat);exact⟨_,rfl,_,rfl,q,_,-1,_,rfl,rfl,bh.of (s0 _ _ ht),hat,by rw[<-e2];exact k _ s0⟩
  ·have e5:¬d.u∈dU:=fun z=>e5 (decide_eq_true z);unfold ji at k;rw[if_neg e5]at k;exact k _ s0
theorem Af:∀(a b:List Int),a.Nodup->(∀x∈a,x∈b)->a.length<=b.length
 | [],b,_,_=>zero_le _
 | x::a,b,hn,h=>by
  have hx:x∈b:=h x mem_cons_self;have h1:=nodup_cons.mp hn;have ih:=Af a (b.erase x) h1.2 fun y hy=>by have:y≠x:=fun z=>h1.1 (z▸hy);exact(List.mem_erase_of_ne this).mpr (h y (List.mem_cons_of_mem _ hy))
  rw[List.length_erase_of_mem hx]at ih;have:=List.length_pos_of_mem hx;rw[length_cons];omega
theorem qp{ms:List Int}{n:Nat}(hn:ms.Nodup)(h:∀x∈ms,0<=x/\x< (n:Int)):ms.length<=n:=by
 have:=Af ms (j9 n) hn fun x hx=>by have:=h x hx;exact mem_map.mpr ⟨x.toNat,mem_range.mpr (by omega),by omega⟩
 unfold j9 at this
 rwa [length_map,length_range]at this
def Comes(ds:List FR)(r:Nat):Prop:=r=0\/∃(i:Nat) (d:FR),ds[i]? =some d/\(r:Int)∈nxt d i
theorem sy.on{ds:List FR}(h:sy ds){i:Nat}{d:FR}(hd:ds[i]? =some d)(n:¬d.u∈dA):i+1<ds.length:=by
 have hi:=(ag.mp hd).1;by_cases c:i+1<ds.length
 ·exact c
 ·refine absurd (h d ?_) n;rw[List.getLast?_eq_getElem?,show ds.length-1=i by omega];exact hd
inductive SK(vs:List V)(H:Hp)(Q:VK)(E_:XK):Prop
 | mk (lr:Addr) (ds:List FR) (_:vs=[.ref lr]) (_:cw H lr ds) (_:(∀d∈ds,GF (ds.length:Nat) d)) (_:sy ds) (_:1<=ds.length) (_:ds.length<=50) (_:∀(l:Addr) (ms:List Int) (H':Hp),Same H H'->H l=none->H' l=some (.lst (ms.map V.int))->1<=ms.length->ms.length<=50->(∀x∈ms,∃r:Nat,x=(r:Int)/\r<ds.length/\Comes ds r)->Q (.ref l) H')
theorem IE:aI ["_law_rows_here","_law_found","_law_r"] ["_law_rows_here"] (ao j6):=by walk_at "sc1"
theorem wa{f fW:Addr}{fd kZ:fo}(F:cE K "_law_come" "_law_come" j6 f fd)(T:Txt K w.params mg)(GW:aL P w K mg base bQ 2 fW kZ ["rows","r"] (yk (K:=K)))(kW:KI K fW)(bW:Binds K kZ ["rows","r"] [])(mW:mg "ways_of"=some (.ref fW)):aL P w K mg base bQ 3 f fd ["_law_rows_here"] SK:=by
 refine F.ok IE (by walk_at "ln") (fun Lq A outer s H vs Q E hr h=>?_)
 ·obtain⟨lr,ds,rfl,hR,hG,hE,h1,h50,k⟩:=h;obtain⟨qs,g1,g2,g3⟩:=id hR
  refine cu (ak (au (aP (i:=1) IE.nd rfl (Or.inl rfl) (dD (ae aq aj))))
   (ak (au (cY PassesOwn.never rfl (cy rfl T.range (ae (aG aS (by rfl) T.len cZ (ae (pv 0) aj)) aj)) (aR (i:=2) IE.nd rfl (Or.inl rfl)) (aA (aP (i:=1) IE.nd rfl (Or.inl rfl) (aM iZ (pv 1) (aC GW hr (by rfl) mW kW bW .nil aU (ae (pv 0) (ae (pv 2) aj))))))))
   (az (au (aE (aG (eG rfl) (by rfl) T.sorted gZ (ae (bf (i6 rfl) (by rfl) T.set tK (ae (pv 1) aj)) aj))))))) ?_
  refine⟨zle,fun l0 nl0=>?_⟩;have s0:=ai (o:=.lst [V.int 0]) nl0;have h0:upd H l0 (.lst [V.int 0]) l0=some (.lst (([0]:List Int).map V.int)):=ah;generalize upd H l0 (.lst [V.int 0])=G0 at s0 h0 ⊢;refine⟨_,rfl,lr,_,rfl,.inl (aT.of (s0 _ _ g1)),_,rfl,by rw[length_map];omega,by rw[length_map];omega,ef (lo:=0) (n:=(((qs.map V.ref).length:Nat):Int).toNat) (fun i σ G=>∃(v:Option V) (lf:Addr) (ms:List Int),σ=[some (.ref lr),some (.ref lf),v]/\Same H G/\G lf=some (.lst (ms.map V.int))/\1<=ms.length/\ms.length<=1+50*i/\∀x∈ms,∃r:Nat,x=(r:Int)/\r<ds.length/\Comes ds r) ?_ ?_ ?_⟩
  ·exact⟨none,l0,[0],rfl,s0,h0,le_refl _,le_refl _,fun x hx=>⟨0,by rw[mem_singleton.mp hx];rfl,by omega,.inl rfl⟩⟩
  ·rintro i σ G hi ⟨v,lf,ms,rfl,s1,hf,hm1,hml,hmr⟩;rw[nn,length_map,g2]at hi;have hd:ds[i]? =some ds[i]:=aa hi;have hq:qs[i]? =some (qs[i]'(by omega)):=aa _;have hrow:=(g3 i _ _ hq hd).same s1;generalize ds[i]=d at hd hrow;generalize (qs[i]'(by omega))=q at hq hrow;have hgd:=hG d (al hd);show dC _ (.int (0+(i:Int))) _ _ _;rw[Int.zero_add];refine⟨_,rfl,_,rfl,_,rfl,lr,q,qs.map V.ref,i,d.u,d.ts,rfl,aT.of (s1 _ _ g1),by rw[ac,hq];rfl,hrow.at_,hgd.ts.1,fun lw ws G2 s2 Eb Cq _ hnd hmem=>?_⟩;have hwr:∀x∈ws,∃r:Nat,x=(r:Int)/\r<ds.length/\Comes ds r:=fun x hx=>by
    rcases(hmem x).mp hx with z | ⟨z,rfl⟩
    ·obtain⟨a,b⟩:=hgd.ts.2 x z;have e:x=(x.toNat:Int):=by omega
     exact⟨x.toNat,e,by omega,.inr ⟨i,d,hd,by rw[<-e];exact mem_append_left _ z⟩⟩
    ·exact⟨i+1,by omega,hE.on hd z,.inr ⟨i,d,hd,mem_append_right _ (by rw[if_neg z];exact mem_singleton.mpr (by omega))⟩⟩
   have hwl:ws.length<=ds.length:=qp hnd fun x hx=>by obtain⟨r,rfl,h,_⟩:=hwr x hx;omega
   refine⟨lf,lw,_,_,rfl,rfl,s2 _ _ hf,Cq,dg (by rw[length_map,length_map];omega),fun l3 wK=>?_⟩;rw[<-map_append];refine⟨_,l3,ms++ws,rfl,(s1.trans s2).trans (ai wK),ah,by rw[length_append];omega,by rw[length_append];omega,fun x hx=>(mem_append.mp hx).elim (hmr x) (hwr x)⟩
  ·rintro σ G ⟨v,lf,ms,rfl,s1,hf,hm1,hml,hmr⟩;rw[nn,length_map,g2]at hml;refine⟨_,rfl,lf,ms,rfl,aT.of hf,by omega,fun ls us nls hus hnd JW=>⟨ls,us,rfl,ah,?_,fun l2 zs lu hp Dj=>?_⟩⟩
   ·have:=qp (n:=ds.length) hnd fun x hx=>by obtain⟨r,rfl,h,_⟩:=hmr x ((JW x).mp hx);omega
    omega
   ·have US:=qp (n:=ds.length) hnd fun x hx=>by obtain⟨r,rfl,h,_⟩:=hmr x ((JW x).mp hx);omega
    have s3:=s1.trans (ai (o:=jZ P w ls us) nls);have hpl:=hp.length_eq;have hup:1<=us.length:=by have h0:ms[0]? =some (ms[0]'(by omega)):=aa _;exact List.length_pos_of_mem ((JW _).mpr (al h0))
    exact k l2 zs _ (s3.trans (ai lu)) (s3.free lu) ah (by omega) (by omega) fun x hx=>hmr x ((JW x).mp (hp.mem_iff.mp hx))
def Gh:List Str:=["set","more","copy","add","less","put","take","see"]
def w10:List Str:=["set","more","copy","add","less","put","put","take","take","see"]
def rj(d:FR):Prop:=∃(u:Str) (b c:Int),d=⟨u,[b,c],[]⟩/\u∈Gh/\(0<=b/\b<=3)/\0<=c/\(u∈zL5->900<=c)/\(¬u∈zL5->c<=3)
theorem rj.gf{d:FR}(h:rj d)(n:Int):GF n d:=by
 obtain⟨u,b,c,rfl,hu,hb,hc,h1,h2⟩:=h;rcases(by decide+kernel:∀u∈Gh,u∈zL4\/(u∈w2/\¬u∈zL5)\/u∈zL1) u hu with z | ⟨z,y⟩ | z
 ·exact .val z (by omega)
 ·exact .two z (by omega) (by have:=h2 y;omega)
 ·exact .uU z (by omega) hc
theorem rj.on{d:FR}(h:rj d):¬d.u∈dA/\d.ts=[]:=by obtain⟨u,b,c,rfl,hu,_⟩:=h;exact⟨(by decide+kernel:∀u∈Gh,¬u∈dA) u hu,rfl⟩
theorem bJ.app{H:Hp}{xs ys:List V}{ds es:List FR}(h:bJ H xs ds)(g:bJ H ys es):bJ H (xs++ys) (ds++es):=by
 obtain⟨qs,rfl,a,b⟩:=h;obtain⟨rs,rfl,c,d⟩:=g;refine⟨qs++rs,by rw[map_append],by rw[length_append,length_append,a,c],fun i q e h1 h2=>?_⟩;by_cases z:i<qs.length
 ·rw[av z]at h1;rw[av (by omega)]at h2;exact b i q e h1 h2
 ·rw[bc (by omega)]at h1 h2;rw[<-a]at h2;exact d _ q e h1 h2
theorem Ag{X:Cx}{tg iter:Expr}{body:List Stmt}{wi:TI}{g:TG}{tb:TS}{pos:Pos}(hp:PassesOwn (model X.prog X.w) X.A X.env X.xe)(hc:X.calm=true)(hi:PI X tg iter wi)(hg:PG X tg g)(hb:qU X body tb)
  (hs:∀x,foldedSetIterable iter X.env x=pure x:=by intro _;rfl):LA X (.For tg iter body [] pos) (P4 wi g tb):=⟨cY hp hc hi hg hb.ps hs⟩
theorem bJ.dl{G:Hp}{xs ys:List V}{ds:List FR}{lx:Addr}(h:bJ G xs ds)(e:G lx=some (.lst ys)):bJ (del G lx) xs ds:=h.tups fun b zs z=>by rw[d9 (fun y=>by rw[y,e]at z;cases z)];exact z
inductive SL(vs:List V)(H:Hp)(Q:VK)(E_:XK):Prop
 | mk (lx:Addr) (ms:List Int) (_:vs=[.ref lx]) (_:H lx=some (.lst (ms.map V.int))) (_:40<=ms.length) (_:∀(lp:Addr) (xs:List V) (ps:List FR) (pH:List Int) (H':Hp),Same (del H lx) (del H' lx)->H lp=none->lp≠lx->H' lp=some (.lst xs)->bJ (del H' lx) xs ps->1<=ps.length->ps.length<=16->(∀d∈ps,rj d)->H' lx=some (.lst (pH.map V.int))->ms.length<=pH.length+40->Q (.ref lp) H')
theorem uj:aI ["_law_xs","_law_piece_here","_law_k","_law_word","_law_one","_law_other","_law_saved"] ["_law_xs"] (ao fh):=by walk_at "sc1"
def Nm:Scope:={kind:=.function,names:=[(".0",.local),("_law_box_here",.local)],isGenerator:=false,isCoroutine:=false,more:=[]}
theorem E7:bZ (ao fh) Nm ["_law_xs","_law_piece_here","_law_k","_law_word","_law_one","_law_other","_law_saved"] ["_law_box_here"] [none]:=by walk_at "sc2"
def Nn:Scope:={kind:=.function,names:=[(".0",.local),("_law_box_here",.local)],isGenerator:=false,isCoroutine:=false,more:=[]}
theorem E8:bZ (ao fh) Nn ["_law_xs","_law_piece_here","_law_k","_law_word","_law_one","_law_other","_law_saved"] ["_law_box_here"] [none]:=by walk_at "sc2"
theorem uk{f:Addr}{fd:fo}(F:cE K "_law_piece" "_law_piece" fh f fd)(T:Txt K w.params mg): aL P w K mg base bQ 1 f fd ["_law_xs"] SL:=by
 refine F.ok uj (by walk_at "ln") (fun Lq A outer s H vs Q E hr h=>?_)
 ·obtain⟨lx,ms,rfl,hx,h40,k⟩:=h
  refine cu (ak (au (aP (i:=1) uj.nd rfl (Or.inl rfl) (dD aj)))
   (ak (Ag PassesOwn.never rfl (cy rfl T.range (ae (aM c9 aq (aM cL (aM bY (dw ij PySem.F.slot_list_pop PySem.F.type_list_pop dy (pv 0)) aq) aq)) aj)) (aR (i:=2) uj.nd rfl (Or.inl rfl)) (ak (jh (oQ (i:=3) uj.nd rfl (Or.inl rfl) (EX bp (oP (.cons ay (.cons ay (.cons ay (.cons ay (.cons ay (.cons ay (.cons ay (.cons ay (.cons ay (.cons ay .nil))))))))))) (aM cL (aM bY (dw ij PySem.F.slot_list_pop PySem.F.type_list_pop dy (pv 0)) aq) aq) (fun _ _=>rfl))))
   (ak (au (aP (i:=4) uj.nd rfl (Or.inl rfl) (aM cL (aM bY (dw ij PySem.F.slot_list_pop PySem.F.type_list_pop dy (pv 0)) aq) aq)))
   (ak (au (aP (i:=5) uj.nd rfl (Or.inl rfl) (aM cL (aM bY (dw ij PySem.F.slot_list_pop PySem.F.type_list_pop dy (pv 0)) aq) aq)))
   (kO (bz (aN bj (pv 3) (aZ (ae ay (ae ay aj))) rfl) (az (au (aP (i:=5) uj.nd rfl (Or.inl rfl) (aM c9 aq (aM cL (pv 5) aq))))) (bg aO))
   (az (au (c6 (iR ij im io da (pv 1) (ae (aZ (ae (pv 3) (ae (pv 4) (ae (pv 5) aj)))) aj))))))))))
   (kO (bz (aN eP (aM cL (aM bY (dw ij PySem.F.slot_list_pop PySem.F.type_list_pop dy (pv 0)) aq) aq) aq (aY _)) (ak (au (jA (i:=6) (N':=["_law_box_here"]) (fr:=[none]) uj.nd rfl rfl E7 rfl (cy rfl T.range (ae aq aj)) (fun C s0 H0 fp=>(aR (i:=0) E7.nd rfl (Or.inl rfl))) (fun C s0 H0 fp=>cB) (fun C s0 H0 fp=>(aZ (ae ay (ae (pv 0) (ae (aM c9 aq (pv 0)) aj)))))))
   (az (au (aP (i:=1) uj.nd rfl (Or.inl rfl) (aM iZ (aM iZ (pv 6) (pv 1)) (cO (N':=["_law_box_here"]) (fr:=[none]) E8 rfl (cy rfl T.range (ae aq aj)) (fun C s0 H0 fp=>(aR (i:=0) E8.nd rfl (Or.inl rfl))) (fun C s0 H0 fp=>cB) (fun C s0 H0 fp=>(aZ (ae ay (ae (pv 0) (ae (aM c9 aq (pv 0)) aj))))))))))) (bg aO))
   (az (au (aE (pv 1))))))) ?_
  refine⟨zle,fun lp Np=>?_⟩;have E9:lp≠lx:=fun z=>by rw[z,hx]at Np;cases Np
  have S0:Same (del H lx) (del (upd H lp (.lst [])) lx):=aH (ai Np);have hx0:upd H lp (.lst []) lx=_:=ai Np _ _ hx;have hp0:upd H lp (.lst []) lp=_:=ah;generalize upd H lp (.lst [])=G0 at S0 hx0 hp0 ⊢;refine iM rfl hx0 (by omega) fun a1 m1 G1 r1 hx1 s_ t_ e_=>?_;have S1:=S0.trans s_;have hp1:=(e_ _ E9).trans hp0;obtain⟨n0,hn0,hnl⟩:=Bz (a1/3) (n:=8) (by decide);refine⟨_,_,rfl,rfl,⟨by show(0:Int)<3;decide,by show(3:Int)<_;decide⟩,_,_,rfl,rfl,QK,_,_,rfl,rfl,(1:Int)+a1/3 % 8,rfl,?_⟩;rw[show(1:Int)+a1/3 % 8=((n0+1:Nat):Int) by rw[show a1/3 % 8=(n0:Int)from hn0];omega];refine⟨by omega,by omega,ef (lo:=0) (n:=((n0+1:Nat):Int).toNat) (fun i σ G=>∃(v2 v3 v4 v5 v6:Option V) (xs:List V) (ps:List FR) (m:List Int),σ=[some (.ref lx),some (.ref lp),v2,v3,v4,v5,v6]/\Same (del H lx) (del G lx)/\G lx=some (.lst (m.map V.int))/\G lp=some (.lst xs)/\bJ G xs ps/\ps.length=i/\(∀d∈ps,rj d)/\m1.length<=m.length+3*i) ?_ ?_ ?_⟩
  ·exact⟨none,none,none,none,none,[],[],m1,rfl,S1,hx1,hp1,⟨[],rfl,rfl,fun i q d h=>by simp at h⟩,rfl,fun d hd=>absurd hd not_mem_nil,by omega⟩
  ·rintro i σ G hi ⟨v2,v3,v4,v5,v6,xs,ps,m,rfl,S2,hx2,hp2,hL,hpl,hpc,hml⟩;rw[nn]at hi;have Nq:=hL.len;show dC _ _ _ _ _;refine dX (oJ (oK (ds:=w10.map Da.str) (oS w10) fun l1 xs1 G3 t1 Ac h1 M8=>?_));obtain rfl:=k9 M8;have ne1:l1≠lx:=fun z=>by rw[z,hx2]at Ac;cases Ac
   have S3:=S2.trans (aH (l:=lx) t1);have Gg:=t1 _ _ hx2;have hp3:=t1 _ _ hp2;have hL3:=hL.tups (.of t1);clear S2 hx2 hp2 hL Ac t1;refine iM rfl Gg (by omega) fun a11 Xx Px r11 EZ s_ t_ e_=>?_;have S11:=S3.trans s_;have Xy:=(e_ _ E9).trans hp3;have Xz:=hL3.tups t_;have SM:=(e_ _ ne1).trans h1;obtain⟨c,hc,hcl⟩:=Bz (a11/3) (n:=10) (by decide);have hw:w10[c]? =some (w10[c]'hcl):=aa _;have Pz:(w10[c]'hcl)∈Gh:=(by decide+kernel:∀u∈w10,u∈Gh) _ (bn _);generalize (w10[c]'hcl)=u at hw Pz;refine⟨_,_,rfl,rfl,⟨by show(0:Int)<3;decide,by show(3:Int)<_;decide⟩,_,_,rfl,rfl,QL,l1,_,_,.str u,rfl,rfl,aT.of SM,?_,?_⟩
   ·show mQ _ (a11/3 % 10)=_;rw[show a11/3 % 10=(c:Int)from hc];exact cG (by rw[ac,hw];rfl)
   clear SM h1 hw;show dC _ _ _ _ _;refine dX ?_;refine iM rfl EZ (by omega) fun a12 XA Py r12 IC s_ t_ e_=>?_;have S12:=S11.trans s_;have XB:=(e_ _ E9).trans Xy;have XC:=Xz.tups t_;refine⟨_,_,rfl,rfl,⟨by show(0:Int)<3;decide,by show(3:Int)<_;decide⟩,_,_,rfl,rfl,LX,?_⟩;have hb3:0<=a12/3 % 4/\a12/3 % 4<=3:=by omega
   refine iM rfl IC (by omega) fun a13 XD BD r13 Nh s_ t_ e_=>?_;have S13:=S12.trans s_;have XF:=(e_ _ E9).trans XB;have XG:=XC.tups t_;refine⟨_,_,rfl,rfl,⟨by show(0:Int)<3;decide,by show(3:Int)<_;decide⟩,_,_,rfl,rfl,LX,?_⟩;have hc3:0<=a13/3 % 4/\a13/3 % 4<=3:=by omega
   show dC _ _ _ _ _;refine dX ?_;refine⟨fun σ' G'=>∃c:Int,σ'=[some (.ref lx),some (.ref lp),some (.int (0+(i:Int))),some (.str u),some (.int (a12/3 % 4)),some (.int c),v6]/\0<=c/\(u∈zL5->900<=c)/\(¬u∈zL5->c<=3)/\Same BD G',?_,?_⟩
   ·refine⟨_,rfl,zle,fun t nt=>⟨t,zL5.map V.str,rfl,.inr (bh.of ah),rfl,rfl,_,rfl,?_⟩⟩;have s4:=ai (o:=.tup [V.str "put",V.str "take"]) nt;rw[show inV (.str u) (zL5.map V.str)=decide (u∈zL5)from dz _ _];generalize upd BD t (.tup [V.str "put",V.str "take"])=XH at s4 ⊢;refine dF (fun e=>?_) (fun e=>?_)
    ·have e:=of_decide_eq_true e;refine⟨_,rfl,_,_,rfl,rfl,QJ,_,_,rfl,rfl,?_⟩;exact⟨900+a13/3 % 4 % 3,rfl,by omega,fun _=>by omega,fun z=>absurd e z,s4⟩
    ·have e:¬u∈zL5:=fun z=>e (decide_eq_true z);exact⟨a13/3 % 4,rfl,by omega,fun z=>absurd z e,fun _=>by omega,s4⟩
   rintro σ' G' ⟨c,rfl,hc0,hcp,hcn,s4⟩;generalize a12/3 % 4=b at hb3 ⊢;have S14:=S13.trans (aH (l:=lx) s4);have XI:=s4 _ _ Nh;have SN:=s4 _ _ XF;have XJ:=XG.tups (.of s4);have hd:rj ⟨u,[b,c],[]⟩:=⟨u,b,c,rfl,Pz,hb3,hc0,hcp,hcn⟩;refine⟨_,rfl,.inl ⟨rfl,_,aT.of SN⟩,_,rfl,_,rfl,_,rfl,zle,fun t nt=>?_⟩;have s5:=ai (o:=.tup [V.str u,V.int b,V.int c]) nt;have ht5:upd G' t (.tup [V.str u,V.int b,V.int c]) t=_:=ah;generalize upd G' t (.tup [V.str u,V.int b,V.int c])=UT at s5 ht5 ⊢;have SO:=s5 _ _ SN;have hrow:dj UT t ⟨u,[b,c],[]⟩:=⟨(hd.gf 0).ok,.inr ⟨(by decide+kernel:∀u∈Gh,¬u ="table") u Pz,ht5⟩⟩;refine⟨lp,_,_,rfl,rfl,SO,aK (by omega),?_⟩;have nd:del H lx lp=none:=by rw[d9 E9];exact Np
   refine⟨_,_,_,_,_,xs++ [.ref t],ps++ [⟨u,[b,c],[]⟩],XD,rfl,?_,(aw (Ne.symm E9)).trans (s5 _ _ XI),ah,((XJ.tups (.of s5)).snoc hrow).tups (.upd SO (fun _ z=>nomatch z)),by rw[length_append,hpl];rfl,fun d h=>?_,by omega⟩
   ·rw[jo E9];exact aF (S14.trans (aH (l:=lx) s5)) nd
   ·rcases mem_append.mp h with z | z
    ·exact hpc d z
    ·rw[mem_singleton.mp z];exact hd
  ·rintro σ G ⟨v2,v3,v4,v5,v6,xs,ps,m,rfl,S2,hx2,hp2,hL2,hpl,hpc,hml⟩;rw[nn]at hpl hml;have Nq:=hL2.len;refine⟨fun σ' G'=>∃(PB:Addr) (v6:Option V) (xs:List V) (ps:List FR) (m:List Int),σ'=[some (.ref lx),some (.ref PB),v2,v3,v4,v5,v6]/\Same (del H lx) (del G' lx)/\H PB=none/\PB≠lx/\G' lx=some (.lst (m.map V.int))/\G' PB=some (.lst xs)/\bJ G' xs ps/\1<=ps.length/\ps.length<=16/\(∀d∈ps,rj d)/\ms.length<=m.length+40,?_,?_⟩;rotate_left
   ·rintro σ' G' ⟨PB,v6,xs,ps,m,rfl,S,nH,ne,hx,hp,hL,h1,Bt,hpc,hml⟩;exact⟨_,rfl,k PB xs ps m G' S nH ne hp (hL.dl hx) h1 Bt hpc hx hml⟩
   refine iM rfl hx2 (by omega) fun a21 UU G21 r21 Nr s_ t_ e_=>?_;have XM:=S2.trans s_;have SQ:=(e_ _ E9).trans hp2;have SR:=hL2.tups t_;refine⟨_,_,rfl,rfl,⟨by show(0:Int)<3;decide,by show(3:Int)<_;decide⟩,_,_,rfl,rfl,QI,rfl,_,rfl,?_⟩;refine dF (fun _=>?_) (fun _=>?_);rotate_left
   ·exact⟨lp,v6,xs,ps,UU,rfl,XM,Np,E9,Nr,SQ,SR,by omega,by omega,hpc,by omega⟩
   refine⟨_,rfl,by decide,by decide,fun D1 nD1=>?_⟩;refine d8 (lo:=0) (n:=((4:Int)).toNat) (fun i σ ys G'=>∃(v:Option V) (es:List FR),σ=[v]/\bJ G' ys es/\es.length=i/\(∀d∈es,rj d)/\Same G21 G'/\G' D1=some (.lst ys)) ?_ ?_ ?_
   ·exact⟨none,[],rfl,⟨[],rfl,rfl,fun i q d h=>by simp at h⟩,rfl,fun d hd=>absurd hd not_mem_nil,ai nD1,ah⟩
   ·rintro i σ ys G' hi ⟨v,es,rfl,hys,hel,XO,s8,hD⟩;have hi4:i<4:=hi;have hd:rj ⟨"put",[0+(i:Int),910+(0+(i:Int))],[]⟩:=⟨_,_,_,rfl,by decide+kernel,by omega,by omega,fun _=>by omega,fun z=>absurd (by decide+kernel) z⟩;refine⟨_,rfl,_,rfl,_,_,rfl,rfl,zle,fun t nt=>?_⟩;have s9:=ai (o:=.tup [V.str "put",V.int (0+(i:Int)),V.int (910+(0+(i:Int)))]) nt;have ht9:upd G' t (.tup [V.str "put",V.int (0+(i:Int)),V.int (910+(0+(i:Int)))]) t=_:=ah;generalize upd G' t (.tup [V.str "put",V.int (0+(i:Int)),V.int (910+(0+(i:Int)))])=G9 at s9 ht9 ⊢;have hrow:dj G9 t ⟨"put",[0+(i:Int),910+(0+(i:Int))],[]⟩:=⟨(hd.gf 0).ok,.inr ⟨by show ¬("put": Str)="table";decide+kernel,ht9⟩⟩;have hyl:=hys.len;refine⟨s9 _ _ hD,aK (by omega),_,es++ [_],rfl,((hys.tups (.of s9)).snoc hrow).tups (.upd (s9 _ _ hD) (fun _ z=>nomatch z)),by rw[length_append,hel];rfl,fun d h=>?_,aF (s8.trans s9) nD1,ah⟩;rcases mem_append.mp h with z | z
    ·exact XO d z
    ·rw[mem_singleton.mp z];exact hd
   rintro σ ys1 E1 ⟨v,es1,rfl,k7,FX,hc1,g1,hD1⟩;have FX:es1.length=4:=FX;have Sg:=k7.len;refine⟨_,rfl,_,rfl,D1,lp,ys1,xs,rfl,rfl,hD1,g1 _ _ SQ,dg (by omega),fun l2 lu=>?_⟩;have s6:=g1.trans (ai (o:=.lst (ys1++xs)) lu);have hl2:upd E1 l2 (.lst (ys1++xs)) l2=_:=ah;have Gc:=(k7.app (SR.tups (.of g1))).tups (.of (ai (o:=.lst (ys1++xs)) lu));generalize upd E1 l2 (.lst (ys1++xs))=E2 at s6 hl2 Gc ⊢;refine⟨_,rfl,by decide,by decide,fun D2 zX=>?_⟩;refine d8 (lo:=0) (n:=((4:Int)).toNat) (fun i σ ys G'=>∃(v:Option V) (es:List FR),σ=[v]/\bJ G' ys es/\es.length=i/\(∀d∈es,rj d)/\Same E2 G'/\G' D2=some (.lst ys)) ?_ ?_ ?_
   ·exact⟨none,[],rfl,⟨[],rfl,rfl,fun i q d h=>by simp at h⟩,rfl,fun d hd=>absurd hd not_mem_nil,ai zX,ah⟩
   ·rintro i σ ys G' hi ⟨v,es,rfl,hys,hel,XO,s8,hD⟩;have hi4:i<4:=hi;have hd:rj ⟨"take",[0+(i:Int),910+(0+(i:Int))],[]⟩:=⟨_,_,_,rfl,by decide+kernel,by omega,by omega,fun _=>by omega,fun z=>absurd (by decide+kernel) z⟩;refine⟨_,rfl,_,rfl,_,_,rfl,rfl,zle,fun t nt=>?_⟩;have s9:=ai (o:=.tup [V.str "take",V.int (0+(i:Int)),V.int (910+(0+(i:Int)))]) nt;have ht9:upd G' t (.tup [V.str "take",V.int (0+(i:Int)),V.int (910+(0+(i:Int)))]) t=_:=ah;generalize upd G' t (.tup [V.str "take",V.int (0+(i:Int)),V.int (910+(0+(i:Int)))])=G9 at s9 ht9 ⊢;have hrow:dj G9 t ⟨"take",[0+(i:Int),910+(0+(i:Int))],[]⟩:=⟨(hd.gf 0).ok,.inr ⟨by show ¬("take": Str)="table";decide+kernel,ht9⟩⟩;have hyl:=hys.len;refine⟨s9 _ _ hD,aK (by omega),_,es++ [_],rfl,((hys.tups (.of s9)).snoc hrow).tups (.upd (s9 _ _ hD) (fun _ z=>nomatch z)),by rw[length_append,hel];rfl,fun d h=>?_,aF (s8.trans s9) zX,ah⟩;rcases mem_append.mp h with z | z
    ·exact XO d z
    ·rw[mem_singleton.mp z];exact hd
   rintro σ ys2 E3 ⟨v,es2,rfl,hR3,he2,hc2,g2,hD2⟩;have he2:es2.length=4:=he2;have hyl2:=hR3.len;refine⟨l2,D2,_,_,rfl,rfl,g2 _ _ hl2,hD2,dg (by rw[length_append];omega),fun l3 wK=>?_⟩;have s7:=s6.trans g2;have S7:=XM.trans (aH (l:=lx) (s7.trans (ai (o:=.lst ((ys1++xs)++ys2)) wK)));have ne3:l3≠lx:=fun z=>by rw[z,s7 _ _ Nr]at wK;cases wK
   have nH3:H l3=none:=by
    cases e:H l3 with
    | none=>rfl
    | some o=>
     have h1:del G21 lx l3=some o:=XM _ _ (gq e ne3);rw[d9 ne3]at h1;rw[s7 _ _ h1]at wK;cases wK
   refine⟨l3,_,(ys1++xs)++ys2,(es1++ps)++es2,UU,rfl,S7,nH3,ne3,ai wK _ _ (s7 _ _ Nr),ah,((Gc.tups (.of g2)).app hR3).tups (.of (ai wK)),by rw[length_append,length_append];omega,by rw[length_append,length_append];omega,fun d h=>?_,by omega⟩;rcases mem_append.mp h with z | z
   ·rcases mem_append.mp z with y | y
    ·exact hc1 d y
    ·exact hpc d y
   ·exact hc2 d z
structure DH(kvs:List (List Key×V))(b:Bd):Prop where
 bx:∀x:Int,0<=x->x<8->cM kvs ([Sum.inr "box",Sum.inl x]:List Key)=some (oV (hAt b.held x))
 uU:∀j:Int,(cM kvs ([Sum.inr "aside",Sum.inl j]:List Key)).getD .non=oV (b.af j)
 l8:b.held.length=8
theorem IG{xs:List (Option Int)}{i x:Int}{v:Option Int}(hl:xs.length=8)(hi:0<=i/\i<8)(hx:0<=x):hAt (xs.set i.toNat v) x=if x=i then v else hAt xs x:=by
 unfold hAt;rw[List.getElem?_set];by_cases c:x=i
 ·subst c;rw[if_pos rfl,if_pos rfl,if_pos (by omega)];rfl
 ·rw[if_neg (by omega),if_neg c]
theorem Fb{x y:Int}:([Sum.inr "box",Sum.inl x]:List Key)≠([Sum.inr "aside",Sum.inl y]:List Key):=fun h=>by
 injection h with h1 _
 injection h1 with h2
 exact absurd h2 (by decide+kernel)
theorem um{x y:Int}:([Sum.inr "box",Sum.inl x]:List Key)=([Sum.inr "box",Sum.inl y]:List Key)↔x=y:=by simp
theorem Fc{x y:Int}:([Sum.inr "aside",Sum.inl x]:List Key)=([Sum.inr "aside",Sum.inl y]:List Key)↔x=y:=by simp
theorem DH.setB{kvs:List (List Key×V)}{b:Bd}(h:DH kvs b){i:Int}(hi:0<=i/\i<8)(v:Option Int){b':Bd}(e1:b'.held=b.held.set i.toNat v)(e2:b'.af=b.af):DH (putK kvs ([Sum.inr "box",Sum.inl i]:List Key) (oV v)) b' where
 bx:=fun x h0 h8=>by
  rw[dE,e1,IG h.l8 hi h0];by_cases c:x=i
  ·rw[if_pos (um.mpr c),if_pos c]
  ·rw[if_neg (fun z=>c (um.mp z)),if_neg c];exact h.bx x h0 h8
 uU:=fun j=>by rw[dE,if_neg (fun z=>Fb z.symm),e2];exact h.uU j
 l8:=by rw[e1,length_set];exact h.l8
theorem DH.MB{kvs:List (List Key×V)}{b:Bd}(h:DH kvs b){i:Int}(v:Option Int){b':Bd}(e1:b'.held=b.held)(e2:b'.af=iU b.af i v):DH (putK kvs ([Sum.inr "aside",Sum.inl i]:List Key) (oV v)) b' where
 bx:=fun x h0 h8=>by rw[dE,if_neg Fb,e1];exact h.bx x h0 h8
 uU:=fun j=>by
  rw[dE,e2];unfold iU;by_cases c:j=i
  ·rw[if_pos (Fc.mpr c),if_pos c];rfl
  ·rw[if_neg (fun z=>c (Fc.mp z)),if_neg c];exact h.uU j
 l8:=by rw[e1];exact h.l8
theorem Nt{a b:Option Int}(h:oV a=oV b):a=b:=by
 cases a<;>cases b<;>simp_all [oV]
theorem Nu{a:Option Int}{i:Int}:Gq (oV a) (.int i)=true:=by cases a<;>rfl
theorem SU{a:Option Int}{i:Int}:decide (oV a=.int i)=decide (a=some i):=by
 by_cases c:a=some i
 ·rw[c];exact(decide_eq_true rfl).trans (decide_eq_true rfl).symm
 ·exact(decide_eq_false (fun z:oV a=V.int i=>c (Nt (b:=some i) z))).trans (decide_eq_false c).symm
def dM(ps:List FR):Bd:=ps.foldl cX (b0 0)
theorem sA(ps:List FR)(d:FR):dM (ps++ [d])=cX (dM ps) d:=by unfold dM;rw[List.foldl_append];rfl
inductive SV(vs:List V)(H:Hp)(Q:VK)(E_:XK):Prop
 | mk (lp:Addr) (xs:List V) (ps:List FR) (_:vs=[.ref lp]) (_:H lp=some (.lst xs)) (_:bJ H xs ps) (_:(∀d∈ps,rj d)) (_:ps.length<=16) (_:∀(l:Addr) (ks:List Int) (H':Hp),Same H H'->H l=none->H' l=some (.lst (ks.map V.int))->(∀b:Int,b∈ks↔0<=b/\b<8/\hAt (dM ps).held b=some b)->Q (.ref l) H')
theorem IH:aI ["_law_piece_here","_law_held_here","_law_box_here","_law_row_here"] ["_law_piece_here"] (ao iF):=by walk_at "sc1"
def Nv:Scope:={kind:=.function,names:=[(".0",.local),("_law_box_here",.local),("_law_held_here",.free)],isGenerator:=false,isCoroutine:=false,more:=[]}
theorem Fd:bZ (ao iF) Nv ["_law_piece_here","_law_held_here","_law_box_here","_law_row_here"] ["_law_box_here","_law_held_here"] [none,some 1]:=by walk_at "sc2"
theorem wc{f:Addr}{fd:fo}(F:cE K "_law_held" "_law_held" iF f fd)(T:Txt K w.params mg): aL P w K mg base bQ 1 f fd ["_law_piece_here"] SV:=by
 refine F.ok IH (by walk_at "ln") (fun Lq A outer s H vs Q E hr h=>?_)
 ·obtain⟨lp,xs,ps,rfl,hp,hL,hpc,Bt,k⟩:=h;have hu:=jL hr;have Nq:=hL.len
  refine cu (ak (au (aP (i:=1) IH.nd rfl (Or.inr rfl) C4))
   (ak (au (cY PassesOwn.never rfl (cy rfl T.range (ae aq aj)) (aR (i:=2) IH.nd rfl (Or.inl rfl)) (aA (d0 hu (pv 1) (aZ (ae ay (ae (pv 2) aj))) (pv 2) rfl))))
   (ak (au (cY PassesOwn.never rfl (cQ (pv 0)) (aR (i:=3) IH.nd rfl (Or.inl rfl)) (aA (dk (aN eP (aJ aQ (pv 3) aq (fun _ _=>rfl)) ay (aY _)) (aA (d0 hu (pv 1) (aZ (ae ay (ae (aJ aQ (pv 3) aq (fun _ _=>rfl)) aj))) (eE hu (pv 1) (aZ (ae ay (ae (aJ aQ (pv 3) aq (fun _ _=>rfl)) aj))) (fun _ _=>rfl)) rfl)) (aA (dk (aN eP (aJ aQ (pv 3) aq (fun _ _=>rfl)) ay (aY _)) (aA (d0 hu (pv 1) (aZ (ae ay (ae (aJ aQ (pv 3) aq (fun _ _=>rfl)) aj))) (vf hu (pv 1) (aZ (ae ay (ae (aJ aQ (pv 3) aq (fun _ _=>rfl)) aj))) ⟨rfl,rfl,rfl,rfl⟩) rfl)) (aA (dk (aN eP (aJ aQ (pv 3) aq (fun _ _=>rfl)) ay (aY _)) (aA (d0 hu (pv 1) (aZ (ae ay (ae (aJ aQ (pv 3) aq (fun _ _=>rfl)) aj))) (eE hu (pv 1) (aZ (ae ay (ae (aJ aQ (pv 3) aq (fun _ _=>rfl)) aj))) (fun _ _=>rfl)) rfl)) (aA (dk (aN rL (aJ aQ (pv 3) aq (fun _ _=>rfl)) ay (aY _)) (aA (d0 hu (pv 1) (aZ (ae ay (ae (aJ aQ (pv 3) aq (fun _ _=>rfl)) aj))) ik rfl)) aO))))))))))
   (az (au (aE (cO (N':=["_law_box_here","_law_held_here"]) (fr:=[none,some 1]) Fd rfl (cy rfl T.range (ae aq aj)) (fun C s0 H0 fp=>(aR (i:=0) Fd.nd rfl (Or.inl rfl))) (fun C s0 H0 fp=>(ku (aN eP (eE hu (pv 1) (aZ (ae ay (ae (pv 0) aj))) (fun _ _=>rfl)) (pv 0) (aY _)))) (fun C s0 H0 fp=>(pv 0))))))))) ?_
  intro D nD;have s0:=ai (o:=.dT []) nD;have hD0:upd H D (.dT []) D=_:=ah;generalize upd H D (.dT [])=G0 at s0 hD0 ⊢;refine⟨_,rfl,by decide,by decide,ef (lo:=0) (n:=((8:Int)).toNat) (fun i σ G=>∃(v:Option V) (kvs:List (List Key×V)),σ=[some (.ref lp),some (.ref D),v,none]/\Same H G/\G D=some (.dT kvs)/\kvs.length<=i/\(∀x:Int,0<=x->x<i->cM kvs ([Sum.inr "box",Sum.inl x]:List Key)=some (.int x))/\∀j:Int,cM kvs ([Sum.inr "aside",Sum.inl j]:List Key)=none) ?_ ?_ ?_⟩
  ·exact⟨none,[],rfl,s0,hD0,le_refl _,fun x a b=>by omega,fun j=>rfl⟩
  ·rintro i σ G hi ⟨v,kvs,rfl,s1,hD,hl,hb,ha⟩;have Uu:i<8:=hi;show dC _ (.int (0+(i:Int))) _ _ _;rw[Int.zero_add];refine⟨_,rfl,_,rfl,_,rfl,zle,fun t nt=>?_⟩;have s2:=ai (o:=.tup [V.str "box",V.int (i:Int)]) nt;have ht:upd G t (.tup [V.str "box",V.int (i:Int)]) t=some (.tup (([Sum.inr "box",Sum.inl (i:Int)]:List Key).map kV)):=ah;refine⟨D,_,rfl,.t (s2 _ _ hD) ht (aK (by omega)),?_⟩;refine⟨_,_,rfl,aF (s1.trans s2) nD,ah,le_trans (bV _ _ _) (by omega),fun x h0 hx=>?_,fun j=>?_⟩
   ·rw[dE];by_cases c:x=(i:Int)
    ·rw[if_pos (um.mpr c),c]
    ·rw[if_neg (fun z=>c (um.mp z))];exact hb x h0 (by omega)
   ·rw[dE,if_neg (fun z=>Fb z.symm)];exact ha j
  rintro σ G ⟨v,kvs,rfl,s1,hD,hl,hb,ha⟩;have hl8:kvs.length<=8:=hl
  have hDH:DH kvs (b0 0):=⟨fun x h0 h8=>by
   rw[hb x h0 (by omega)];have:x=0\/x=1\/x=2\/x=3\/x=4\/x=5\/x=6\/x=7:=by omega
   rcases this with rfl | rfl | rfl | rfl | rfl | rfl | rfl | rfl<;>rfl,fun j=>by rw[ha j];rfl,rfl⟩
  clear hb ha hl;refine⟨_,rfl,lp,rfl,⟨_,aT.of (s1 _ _ hp)⟩,ez (K:=K) (xs:=xs) (fun i σ G=>∃(v v':Option V) (kvs:List (List Key×V)),σ=[some (.ref lp),some (.ref D),v,v']/\Same H G/\G D=some (.dT kvs)/\kvs.length<=8+i/\DH kvs (dM (ps.take i))) ?_ ?_ ?_ ?_⟩
  ·exact⟨v,none,kvs,rfl,s1,hD,hl8,hDH⟩
  ·rintro i σ G _ ⟨v,v',kvs,rfl,s2,_⟩;exact aT.of (s2 _ _ hp)
  ·rintro i x σ G hx ⟨v,v',kvs,rfl,s2,hD,hkl,Ah⟩;obtain⟨qs,e1,e2,e3⟩:=id hL;rw[e1,ac]at hx;obtain⟨q,hq,rfl⟩:=map_eq_some_iff.mp hx;have hi:=(ag.mp hq).1;have hd:ps[i]? =some (ps[i]'(by omega)):=aa _;have hrow:=(e3 i _ _ hq hd).same s2;have hpd:=hpc _ (al hd);generalize (ps[i]'(by omega))=d at hd hrow hpd;rw[show ps.take (i+1)=ps.take i++ [d] by rw[take_succ,hd];rfl,sA];obtain⟨u,b,c,rfl,Pz,hb3,hc0,hcp,hcn⟩:=hpd;have hq1:G q=some (.tup [V.str u,V.int b,V.int c]):=hrow.nt ((by decide+kernel:∀u∈Gh,¬u ="table") u Pz);clear hrow;have hb8:0<=b/\b<8:=by omega
   generalize dM (ps.take i)=br at Ah ⊢;refine⟨_,rfl,q,_,0,_,rfl,rfl,bh.of hq1,at0 _ _,rfl,_,rfl,?_⟩;refine dF (fun e=>?_) (fun e=>?_)
   ·
    obtain rfl:=strEq e;refine⟨_,rfl,_,rfl,q,_,1,_,rfl,rfl,bh.of hq1,at1 _ _ _,zle,fun t nt=>?_⟩;have s3:=ai (o:=.tup [V.str "box",V.int b]) nt;have ht:upd G t (.tup [V.str "box",V.int b]) t=some (.tup (([Sum.inr "box",Sum.inl b]:List Key).map kV)):=ah;generalize upd G t (.tup [V.str "box",V.int b])=G3 at s3 ht ⊢;refine⟨D,_,rfl,by rw[<-Ah.bx b hb8.1 hb8.2];exact .t (s3 _ _ hD) ht,_,rfl,_,rfl,q,_,2,_,rfl,rfl,bh.of (s3 _ _ hq1),at2 _ _ _ _,zle,fun t2 Bx=>?_⟩;have s4:=s3.trans (ai (o:=.tup [V.str "aside",V.int c]) Bx);have oC:upd G3 t2 (.tup [V.str "aside",V.int c]) t2=some (.tup (([Sum.inr "aside",Sum.inl c]:List Key).map kV)):=ah;generalize upd G3 t2 (.tup [V.str "aside",V.int c])=G4 at s4 oC ⊢;refine⟨D,_,rfl,.t (s4 _ _ hD) oC (aK (by omega)),?_⟩;exact⟨_,_,_,rfl,aF (s2.trans s4) nD,ah,le_trans (bV _ _ _) (by omega),Ah.MB _ rfl rfl⟩
   have n1:=rX e;refine⟨_,rfl,q,_,0,_,rfl,rfl,bh.of hq1,at0 _ _,rfl,_,rfl,?_⟩;refine dF (fun e=>?_) (fun e=>?_)
   ·
    obtain rfl:=strEq e;refine⟨_,rfl,D,rfl,.inr ⟨_,.inl hD⟩,_,rfl,q,_,2,_,rfl,rfl,bh.of hq1,at2 _ _ _ _,zle,fun t nt=>?_⟩;have s3:=ai (o:=.tup [V.str "aside",V.int c]) nt;have ht:upd G t (.tup [V.str "aside",V.int c]) t=some (.tup (([Sum.inr "aside",Sum.inl c]:List Key).map kV)):=ah;generalize upd G t (.tup [V.str "aside",V.int c])=G3 at s3 ht ⊢;refine⟨_,.t (s3 _ _ hD) ht,?_⟩;rw[Ah.uU c];refine⟨_,rfl,_,rfl,q,_,1,_,rfl,rfl,bh.of (s3 _ _ hq1),at1 _ _ _,zle,fun t2 Bx=>?_⟩;have s4:=s3.trans (ai (o:=.tup [V.str "box",V.int b]) Bx);have oC:upd G3 t2 (.tup [V.str "box",V.int b]) t2=some (.tup (([Sum.inr "box",Sum.inl b]:List Key).map kV)):=ah;generalize upd G3 t2 (.tup [V.str "box",V.int b])=G4 at s4 oC ⊢;refine⟨D,_,rfl,.t (s4 _ _ hD) oC (aK (by omega)),?_⟩;exact⟨_,_,_,rfl,aF (s2.trans s4) nD,ah,le_trans (bV _ _ _) (by omega),Ah.setB hb8 _ rfl rfl⟩
   have n2:=rX e;refine⟨_,rfl,q,_,0,_,rfl,rfl,bh.of hq1,at0 _ _,rfl,_,rfl,?_⟩;refine dF (fun e=>?_) (fun e=>?_)
   ·
    obtain rfl:=strEq e;have hc3:c<=3:=hcn (by decide+kernel);refine⟨_,rfl,_,rfl,q,_,2,_,rfl,rfl,bh.of hq1,at2 _ _ _ _,zle,fun t nt=>?_⟩;have s3:=ai (o:=.tup [V.str "box",V.int c]) nt;have ht:upd G t (.tup [V.str "box",V.int c]) t=some (.tup (([Sum.inr "box",Sum.inl c]:List Key).map kV)):=ah;generalize upd G t (.tup [V.str "box",V.int c])=G3 at s3 ht ⊢;refine⟨D,_,rfl,by rw[<-Ah.bx c hc0 (by omega)];exact .t (s3 _ _ hD) ht,_,rfl,_,rfl,q,_,1,_,rfl,rfl,bh.of (s3 _ _ hq1),at1 _ _ _,zle,fun t2 Bx=>?_⟩;have s4:=s3.trans (ai (o:=.tup [V.str "box",V.int b]) Bx);have oC:upd G3 t2 (.tup [V.str "box",V.int b]) t2=some (.tup (([Sum.inr "box",Sum.inl b]:List Key).map kV)):=ah;generalize upd G3 t2 (.tup [V.str "box",V.int b])=G4 at s4 oC ⊢;refine⟨D,_,rfl,.t (s4 _ _ hD) oC (aK (by omega)),?_⟩;exact⟨_,_,_,rfl,aF (s2.trans s4) nD,ah,le_trans (bV _ _ _) (by omega),Ah.setB hb8 _ rfl rfl⟩
   have n3:=rX e;have hrest:u∈jk\/u ="see":=by
    rcases(by decide+kernel:∀u∈Gh,u ="put"\/u ="take"\/u ="copy"\/u∈jk\/u ="see") u Pz with z | z | z | z
    ·exact absurd z n1
    ·exact absurd z n2
    ·exact absurd z n3
    ·exact z
   have hpass:cX br ⟨u,[b,c],[]⟩=if u∈jk then {br with held:=br.held.set b.toNat none,gn:=iU br.gn br.pl true}else {br with gn:=iU br.gn br.pl true}:=by unfold cX;rw[if_neg n3,if_neg n2,if_neg n1];rfl
   refine⟨_,rfl,q,_,0,_,rfl,rfl,bh.of hq1,at0 _ _,rfl,_,rfl,?_⟩;refine dF (fun e=>?_) (fun e=>?_)
   ·have hns:¬u ="see":=fun z=>by rw[z]at e;exact absurd e (by decide)
    have hsp:=hrest.resolve_right hns;rw[hpass,if_pos hsp];refine⟨_,rfl,_,rfl,q,_,1,_,rfl,rfl,bh.of hq1,at1 _ _ _,zle,fun t2 Bx=>?_⟩;have s4:=ai (o:=.tup [V.str "box",V.int b]) Bx;have oC:upd G t2 (.tup [V.str "box",V.int b]) t2=some (.tup (([Sum.inr "box",Sum.inl b]:List Key).map kV)):=ah;generalize upd G t2 (.tup [V.str "box",V.int b])=G4 at s4 oC ⊢;refine⟨D,_,rfl,.t (s4 _ _ hD) oC (aK (by omega)),?_⟩;exact⟨_,_,_,rfl,aF (s2.trans s4) nD,ah,le_trans (bV _ _ _) (by omega),Ah.setB hb8 none rfl rfl⟩
   ·have hs:u ="see":=by
     by_cases z:u ="see"
     ·exact z
     ·exact absurd (by rw[decide_eq_false (fun y=>z (V.str.inj y))];rfl) e
    rw[hpass,if_neg (by rw[hs];decide+kernel)];exact⟨_,_,kvs,rfl,s2,hD,by omega,⟨Ah.bx,Ah.uU,Ah.l8⟩⟩
  rintro σ G ⟨v,v',kvs,rfl,s2,hD,hkl,Ah⟩;rw[Nq,take_length]at Ah;refine⟨_,rfl,by decide,by decide,fun L nL=>?_⟩;refine d8 (lo:=0) (n:=((8:Int)).toNat) (fun i σ ys G'=>∃(v:Option V) (ks:List Int),σ=[v,some (.ref D)]/\ys=ks.map V.int/\ks.length<=i/\(∀b:Int,b∈ks↔0<=b/\b<i/\hAt (dM ps).held b=some b)/\Same G G'/\G' L=some (.lst ys)) ?_ ?_ ?_
  ·exact⟨none,[],rfl,rfl,le_refl _,fun b=>⟨fun h=>absurd h not_mem_nil,fun h=>by omega⟩,ai nL,ah⟩
  ·rintro i σ ys G' hi ⟨v,ks,rfl,rfl,hkl,hks,s5,hL'⟩;have Uu:i<8:=hi;show dC _ (.int (0+(i:Int))) _ _ _;rw[Int.zero_add];refine⟨_,rfl,_,rfl,zle,fun t nt=>?_⟩;have s6:=ai (o:=.tup [V.str "box",V.int (i:Int)]) nt;have ht:upd G' t (.tup [V.str "box",V.int (i:Int)]) t=some (.tup (([Sum.inr "box",Sum.inl (i:Int)]:List Key).map kV)):=ah;generalize upd G' t (.tup [V.str "box",V.int (i:Int)])=G6 at s6 ht ⊢;refine⟨D,_,rfl,by rw[<-Ah.bx (i:Int) (by omega) (by omega)];exact .t (s6 _ _ (s5 _ _ hD)) ht,_,rfl,Nu,_,rfl,?_⟩;rw[SU];refine dF (fun e=>?_) (fun e=>?_)
   ·have e:=of_decide_eq_true e;refine⟨_,rfl,s6 _ _ hL',aK (by rw[length_map];omega),_,ks++ [(i:Int)],rfl,by rw[map_append];rfl,by rw[length_append];simp;omega,fun b=>?_,aF (s5.trans s6) nL,ah⟩;rw[mem_append,hks b,mem_singleton];constructor
    ·rintro(⟨h0,h1,h2⟩ | rfl)
     ·exact⟨h0,by omega,h2⟩
     ·exact⟨by omega,by omega,e⟩
    ·rintro⟨h0,h1,h2⟩;by_cases c:b=(i:Int)
     ·exact .inr c
     ·exact .inl ⟨h0,by omega,h2⟩
   ·have e:¬hAt (dM ps).held (i:Int)=some (i:Int):=fun z=>e (decide_eq_true z);refine⟨_,ks,rfl,rfl,by omega,fun b=>?_,s5.trans s6,s6 _ _ hL'⟩;rw[hks b];constructor
    ·rintro⟨h0,h1,h2⟩;exact⟨h0,by omega,h2⟩
    ·rintro⟨h0,h1,h2⟩;refine⟨h0,?_,h2⟩;by_cases c:b=(i:Int)
     ·rw[c]at h2;exact absurd h2 e
     ·omega
  ·rintro σ ys G' ⟨v,ks,rfl,rfl,hkl,hks,s5,hL'⟩;have s7:=s2.trans s5;exact k L ks G' s7 (s2.free nL) hL' hks
inductive PD(X:Cx)(pos:Pos):List (Option Expr)->List Expr->List (TE×TE)->Prop where
 | nil:PD X pos [] [] []
 | cons {k v:Expr} {ks:List (Option Expr)} {vs:List Expr} {tk tv:TE} {uS:List (TE×TE)} (hk:PE X k tk) (hv:PE X v tv) (hr:PD X pos ks vs uS):PD X pos (some k::ks) (v::vs) ((tk,tv)::uS)
theorem PD.pps{X:Cx}{pos:Pos}{ks:List (Option Expr)}{vs:List Expr}{uS:List (TE×TE)}(h:PD X pos ks vs uS):Qh X pos ks vs uS:=by
 induction h with
 | nil=>exact GU
 | cons hk hv _ ih=>exact C5 hk hv ih
theorem Fe{X:Cx}{pos:Pos}{keys:List (Option Expr)}{values:List Expr}{uS:List (TE×TE)}(h:PD X pos keys values uS)(hall:keys.all (·.isSome)=true)(hl:keys.length=values.length)(h0:keys≠ [])(h15:keys.length<=15):zY X (.Dict keys values pos) (JQ uS):=by unfold zY;exact GV h.pps hall hl h0 h15
theorem Ff(xs:List V)(n:Nat):nr xs none (some (n:Int))=xs.take n:=by
 unfold nr;have h1:HT.eB xs.length 0 none=0:=rfl;have h2:HT.eB xs.length xs.length (some (n:Int))=min n xs.length:=HT.zu ..;rw[h1,h2,List.drop_zero,Nat.sub_zero];rcases Nat.le_total n xs.length with h | h
 ·rw[Nat.min_eq_left h]
 ·rw[Nat.min_eq_right h,take_length,take_of_length_le h]
theorem Fg(xs:List V)(n:Nat):nr xs (some (n:Int)) none=xs.drop n:=by
 unfold nr;have h1:HT.eB xs.length xs.length none=xs.length:=rfl;have h2:HT.eB xs.length 0 (some (n:Int))=min n xs.length:=HT.zu ..;rw[h1,h2];rcases Nat.le_total n xs.length with h | h
 ·rw[Nat.min_eq_left h,take_of_length_le (by rw[length_drop];omega)]
 ·rw[Nat.min_eq_right h,List.drop_length,List.take_nil,List.drop_of_length_le h]
def off3:List Str:=["jump","zero","below"]
def jI(r:Int)(d:FR):FR:=if d.u ="jump"then ⟨d.u,[r+d.is.getD 0 0,d.is.getD 1 0],d.ts.map (r+ ·)⟩else if d.u∈zb then ⟨d.u,[d.is.getD 0 0,r+d.is.getD 1 0,d.is.getD 2 0],d.ts.map (r+ ·)⟩else d
theorem wg{r t c:Int}:jI r ⟨"jump",[t,c],[t]⟩=⟨"jump",[r+t,c],[r+t]⟩:=by unfold jI;rw[if_pos rfl];rfl
theorem wj{r:Int}{u:Str}{b t c:Int}(h:u∈zb):jI r ⟨u,[b,t,c],[t]⟩=⟨u,[b,r+t,c],[r+t]⟩:=by unfold jI;rw[if_neg ((by decide+kernel:∀u∈zb,¬u ="jump") u h),if_pos h];rfl
theorem qq{r:Int}{d:FR}(h:¬d.u∈off3):jI r d=d:=by unfold jI;rw[if_neg (fun z=>h (by rw[z];decide+kernel)),if_neg (fun z=>h ((by decide+kernel:∀u∈zb,u∈off3) _ z))]
theorem sC{n:Int}{d:FR}(h:GF n d)(h3:d.u∈off3):(∃t c:Int,d=⟨"jump",[t,c],[t]⟩/\0<=t/\t<n)\/∃(u:Str) (b t c:Int),u∈zL0/\d=⟨u,[b,t,c],[t]⟩/\(0<=b/\b<=7)/\0<=t/\t<n:=by
 rcases h.three with ⟨u,t,c,hu,rfl,h0,h1⟩ | z | ⟨b,ts,rfl,_⟩ | ⟨_,hf,_⟩
 ·obtain rfl:u ="jump":=(by decide+kernel:∀u∈zL2,u∈off3->u ="jump") u hu h3;exact .inl ⟨t,c,rfl,h0,h1⟩
 ·exact .inr z
 ·exact absurd h3 (by show ¬("table": Str)∈off3;decide+kernel)
 ·exact absurd ((by decide+kernel:∀u∈off3,u∈dU) _ h3) hf
theorem GF.off{n:Int}{d:FR}(h:GF n d){r:Int}(hr:0<=r):GF (n+r) (jI r d):=by
 by_cases c:d.u∈off3
 ·rcases sC h c with ⟨t,c,rfl,h0,h1⟩ | ⟨u,b,t,c,hu,rfl,hb,h0,h1⟩
  ·rw[wg];exact .jmp (by decide+kernel) (by omega)
  ·rw[wj (vZ hu)];exact .Cu hu hb (by omega)
 ·rw[qq c];exact h.mono (by omega)
def newF(ds:List FR)(r:Nat)(ps:List FR):List FR:=((ds.map (fq r ps.length)).take r++ps.map (jI r))++(ds.map (fq r ps.length)).drop r
def bO(n r m:Nat):List (Option Int):=((List.range r).map (fun j:Nat=>some (j:Int))++replicate m none)++(range' r (n-r)).map fun j:Nat=>some (j:Int)
def rm(ll lf lc:Addr):List (Key×V):=[(Sum.inr "leads",.ref ll),(Sum.inr "forms",.ref lf),(Sum.inr "free",.ref lc)]
theorem II{H:Hp}{pp ll lf lc:Addr}(h:H pp=some (.dK (rm ll lf lc))):sr H pp ll lf lc:=⟨_,h,rfl,rfl,rfl⟩
theorem bJ.take{H:Hp}{xs:List V}{ds:List FR}(h:bJ H xs ds)(n:Nat):bJ H (xs.take n) (ds.take n):=by
 obtain⟨qs,rfl,a,b⟩:=h;refine⟨qs.take n,by rw[List.map_take],by rw[length_take,length_take,a],fun i q d h1 h2=>?_⟩;rw[List.getElem?_take]at h1 h2;split at h1
 ·rename_i c;rw[if_pos c]at h2;exact b i q d h1 h2
 ·cases h1
theorem bJ.drop{H:Hp}{xs:List V}{ds:List FR}(h:bJ H xs ds)(n:Nat):bJ H (xs.drop n) (ds.drop n):=by obtain⟨qs,rfl,a,b⟩:=h;refine⟨qs.drop n,by rw[List.map_drop],by rw[length_drop,length_drop,a],fun i q d h1 h2=>?_⟩;rw[List.getElem?_drop]at h1 h2;exact b _ q d h1 h2
theorem bJ.row{H:Hp}{xs:List V}{ds:List FR}(h:bJ H xs ds){i:Nat}{x:V}(hx:xs[i]? =some x):∃q d,x=.ref q/\ds[i]? =some d/\dj H q d:=by obtain⟨qs,rfl,a,b⟩:=h;rw[ac]at hx;obtain⟨q,hq,rfl⟩:=map_eq_some_iff.mp hx;have hi:=(ag.mp hq).1;have hd:ds[i]? =some (ds[i]'(by omega)):=aa _;exact⟨q,_,rfl,hd,b i q _ hq hd⟩
theorem wm{H:Hp}:bJ H [] []:=⟨[],rfl,rfl,fun i q d h=>by simp at h⟩
theorem qr{ds:List FR}{g:FR->FR}{i:Nat}{d:FR}(h:ds[i]? =some d):(ds.take (i+1)).map g=(ds.take i).map g++ [g d]:=by rw[take_succ,h,map_append];rfl
theorem IJ(n r m:Nat):(((List.range r).map fun j:Nat=>V.int (j:Int))++(replicate m [V.non]).flatten)++((range' r (n-r)).map fun j:Nat=>V.int (j:Int))=(bO n r m).map oV:=by
 unfold bO;rw[map_append,map_append,map_map,map_map,List.map_replicate];congr 2
 induction m with
 | zero=>rfl
 | succ m ih=>rw[replicate_succ,replicate_succ,List.flatten_cons,ih];rfl
inductive SW(vs:List V)(H:Hp)(Q:VK)(E_:XK):Prop
 | mk (lr lp lc:Addr) (ds ps:List FR) (cl:List (List Int)) (r:Nat) (n M:Int) (_:vs=[.ref lr,.int (r:Int),.ref lp,.ref lc]) (_:cw H lr ds) (_:cw H lp ps) (_:cq H lc cl) (_:(∀d∈ds,GF n d)) (_:(∀d∈ps,GF M d)) (_:r<=ds.length) (_:ds.length<=100) (_:ps.length<=100) (_:∀(t l1 pp ll lf wQ:Addr) (H':Hp),Same H H'->H' t=some (.tup [.ref l1,.ref pp])->cw H' l1 (newF ds r ps)->H' pp=some (.dK (rm ll lf wQ))->H' ll=some (.lst ((bO ds.length r ps.length).map oV))->H' lf=some (.lst ((ds.map ji).map V.int))->cq H' wQ cl->(H l1=none/\H pp=none/\H ll=none/\H lf=none/\H wQ=none)->Q (.ref t) H')
theorem wo:aI ["_law_rows_here","_law_r","_law_piece_here","_law_free","_law_many","_law_new","_law_made","_law_row_here","_law_leads","_law_paper"] ["_law_rows_here","_law_r","_law_piece_here","_law_free"] (ao dn):=by walk_at "sc1"
def Nw:Scope:={kind:=.function,names:=[(".0",.local),("_law_row_here",.local),("_law_led",.globalImplicit),("_law_many",.free),("_law_r",.free)],isGenerator:=false,isCoroutine:=false,more:=[]}
theorem Fh:bZ (ao dn) Nw ["_law_rows_here","_law_r","_law_piece_here","_law_free","_law_many","_law_new","_law_made","_law_row_here","_law_leads","_law_paper"] ["_law_row_here","_law_r","_law_many"] [none,some 1,some 4]:=by walk_at "sc2"
def Nx:Scope:={kind:=.function,names:=[(".0",.local),("_law_row_here",.local),("_law_far",.globalImplicit)],isGenerator:=false,isCoroutine:=false,more:=[]}
theorem Fi:bZ (ao dn) Nx ["_law_rows_here","_law_r","_law_piece_here","_law_free","_law_many","_law_new","_law_made","_law_row_here","_law_leads","_law_paper"] ["_law_row_here"] [none]:=by walk_at "sc2"
theorem rn{f fL fF:Addr}{fd D7 Aa:fo}(F:cE K "_law_put_in" "_law_put_in" dn f fd)(T:Txt K w.params mg)(GL:aL P w K mg base bQ 1 fL D7 ["_law_row_here","_law_r","_law_many"] SH)(kL:KI K fL)(bL:Binds K D7 ["_law_row_here","_law_r","_law_many"] [])(mL:mg "_law_led"=some (.ref fL))(GF:aL P w K mg base bQ 1 fF Aa ["_law_row_here"] SJ)(kF:KI K fF)(bF:Binds K Aa ["_law_row_here"] [])(mF:mg "_law_far"=some (.ref fF)):aL P w K mg base bQ 2 f fd ["_law_rows_here","_law_r","_law_piece_here","_law_free"] SW:=by
 refine F.ok wo (by walk_at "ln") (fun Lq A outer s H vs Q E hr h=>?_)
 ·obtain⟨lr,lp,lc,ds,ps,cl,r,n,M,rfl,hR,hP,hC,hG,hGp,hrl,hdl,hpl,k⟩:=h;obtain⟨xs,hx,hL⟩:=hR.l;obtain⟨ys,hy,hLp⟩:=hP.l;obtain⟨cs,hc1,hc2,hc3⟩:=id hC;have Nq:=hL.len;have hyl:=hLp.len
  refine cu (ak (au (aP (i:=4) wo.nd rfl (Or.inr rfl) (aG aS (by rfl) T.len cZ (ae (pv 2) aj))))
   (ak (au (jA (i:=5) (X:=(gM bQ P w K mg base ["_law_rows_here","_law_r","_law_piece_here","_law_free","_law_many","_law_new","_law_made","_law_row_here","_law_leads","_law_paper"] "_law_put_in" (ao dn) f Lq A outer s H E).uY) (N':=["_law_row_here","_law_r","_law_many"]) (fr:=[none,some 1,some 4]) wo.nd rfl rfl Fh rfl (cQ (pv 0)) (fun C s0 H0 fp=>(aR (i:=0) Fh.nd rfl (Or.inl rfl))) (fun C s0 H0 fp=>cB) (fun C s0 H0 fp=>(aC GL hr (by rfl) mL kL bL .nil aU (ae (pv 0) (ae (pv 1) (ae (pv 2) aj)))))))
   (ak (au (aP (i:=6) wo.nd rfl (Or.inl rfl) (dD aj)))
   (ak (au (cY PassesOwn.never rfl (cQ (pv 2)) (aR (i:=7) wo.nd rfl (Or.inl rfl)) (sY (dk (aN bj (aJ aQ (pv 7) aq (fun _ _=>rfl)) (aZ (ae ay (ae ay (ae ay aj)))) rfl) (aA (aP (i:=7) wo.nd rfl (Or.inl rfl) (aM zy (gW xu (pv 7) jw (iw (iQ ft aq))) (aZ (ae (aM c9 (pv 1) (aJ aQ (pv 7) (iQ ft aq) (fun _ _=>rfl))) (ae (aJ aQ (pv 7) (iQ ft aq) (fun _ _=>rfl)) aj)))))) aO)
   (aA (c6 (iR ij im io da (pv 6) (ae (pv 7) aj)))))))
   (ak (au (aP (i:=8) wo.nd rfl (Or.inl rfl) (aM iZ (aM iZ (bf (jN rfl) (by rfl) T.list d6 (ae (bf mY (by rfl) T.range pT (ae (pv 1) aj)) aj)) (aM C0 (dD (ae ik aj)) (pv 4))) (bf (pL rfl) (by rfl) T.list d6 (ae (bf vq (by rfl) T.range pT (ae (pv 1) (ae (aG aS (by rfl) T.len cZ (ae (pv 0) aj)) aj))) aj)))))
   (ak (jh (oQ (i:=9) wo.nd rfl (Or.inl rfl) (Fe (.cons ay (pv 8) (.cons ay (cO (X:=(gM bQ P w K mg base ["_law_rows_here","_law_r","_law_piece_here","_law_free","_law_many","_law_new","_law_made","_law_row_here","_law_leads","_law_paper"] "_law_put_in" (ao dn) f Lq A outer s H E).uY) (N':=["_law_row_here"]) (fr:=[none]) Fi rfl (cQ (pv 0)) (fun C s0 H0 fp=>(aR (i:=0) Fi.nd rfl (Or.inl rfl))) (fun C s0 H0 fp=>cB) (fun C s0 H0 fp=>(aC GF hr (by rfl) mF kF bF .nil aU (ae (pv 0) aj)))) (.cons ay (bf eC (by rfl) T.list d6 (ae (pv 3) aj)) .nil))) rfl rfl (cons_ne_nil _ _) (zle))))
   (az (au (aE (aZ (ae (aM iZ (aM iZ (gW sT (pv 5) jw (iw (pv 1))) (pv 6)) (gW sT (pv 5) (iw (pv 1)) jw)) (ae (pv 9) aj)))))))))))) ?_
  refine L8 fun u1 V0=>?_;refine⟨_,rfl,lp,_,rfl,.inl (aT.of hy),?_⟩;rw[hyl];refine j7 (v:=u1) V0 fun u2 V1=>?_;refine⟨_,rfl,lr,rfl,⟨_,aT.of hx⟩,fun ln nln=>dO (K:=K) (xs:=xs) (fun i σ zs G=>∃v:Option V,σ=[v,some (.int (r:Int)),some (.int (ps.length:Int))]/\bJ G zs ((ds.take i).map (fq r ps.length))/\Same H G/\G ln=some (.lst zs)) ?_ ?_ ?_ ?_⟩
  ·exact⟨none,rfl,wm,ai nln,ah⟩
  ·rintro i σ zs G _ ⟨v,rfl,_,s1,_⟩;exact aT.of (s1 _ _ hx)
  ·rintro i x σ zs G hxi ⟨v,rfl,hz,s1,hl⟩;obtain⟨q,d,rfl,hd,hrow⟩:=hL.row hxi;have hil:=(ag.mp hd).1;refine⟨_,rfl,_,rfl,_,rfl,q,d,n,r,ps.length,rfl,hrow.same s1,hG d (al hd),by omega,by omega,fun q' G' s2 Fj=>?_⟩;have XQ:=hz.len;rw[length_map,length_take]at XQ;rw[qr hd];exact⟨s2 _ _ hl,aK (by omega),_,rfl,((hz.tups (.of s2)).snoc Fj).tups (.upd (s2 _ _ hl) (fun _ z=>nomatch z)),aF (s1.trans s2) nln,ah⟩
  rintro σ zs G ⟨v,rfl,hz,s1,UW⟩;rw[Nq,take_length]at hz;refine j7 (v:=u2) V1 fun u3 V2=>?_;refine⟨zle,fun lm Kq=>?_⟩;have s2:=s1.trans (ai (o:=.lst []) Kq);have XR:=s1.free Kq;have Ny:=ai (o:=.lst []) Kq _ _ UW;have LB:upd G lm (.lst []) lm=_:=ah;have hz2:=hz.tups (.of (ai (o:=.lst []) Kq));have XS:ln≠lm:=fun z=>by rw[z,Kq]at UW;cases UW
  generalize upd G lm (.lst [])=G2 at s2 Ny LB hz2 ⊢;refine j7 (v:=u3) V2 fun u4 V4=>?_;refine⟨_,rfl,lp,rfl,⟨_,aT.of (s2 _ _ hy)⟩,ez (K:=K) (xs:=ys) (fun i σ G=>∃(v7:Option V) (us:List V),σ=[some (.ref lr),some (.int (r:Int)),some (.ref lp),some (.ref lc),some (.int (ps.length:Int)),some (.ref ln),some (.ref lm),v7,none,none]/\bJ G us ((ps.take i).map (jI r))/\Same H G/\bJ G zs (ds.map (fq r ps.length))/\G ln=some (.lst zs)/\G lm=some (.lst us)) ?_ ?_ ?_ ?_⟩
  ·exact⟨none,[],rfl,wm,s2,hz2,Ny,LB⟩
  ·rintro i σ G _ ⟨v7,us,rfl,_,s3,_⟩;exact aT.of (s3 _ _ hy)
  ·rintro i x σ G hxi ⟨v7,us,rfl,hu,s3,UX,Nz,BE⟩;obtain⟨q,d,rfl,hd,SX⟩:=hLp.row hxi;have hrow:=SX.same s3;have hil:=(ag.mp hd).1;have US:=hu.len;rw[length_map,length_take]at US;obtain⟨items,hq,_⟩:=hrow.parts;have hgd:=hGp d (al hd);rw[qr hd];show dC _ _ _ _ _;refine dX ?_;refine⟨fun σ' G'=>∃q':Addr,σ'=[some (.ref lr),some (.int (r:Int)),some (.ref lp),some (.ref lc),some (.int (ps.length:Int)),some (.ref ln),some (.ref lm),some (.ref q'),none,none]/\dj G' q' (jI r d)/\Same G G',?_,?_⟩
   ·refine⟨_,rfl,q,_,0,_,rfl,rfl,bh.of hq,at0 _ _,zle,fun t nt=>⟨t,off3.map V.str,rfl,.inr (bh.of ah),rfl,rfl,_,rfl,?_⟩⟩;have s0:=ai (o:=.tup [V.str "jump",V.str "zero",V.str "below"]) nt;rw[show inV (.str d.u) (off3.map V.str)=decide (d.u∈off3)from dz _ _];generalize upd G t (.tup [V.str "jump",V.str "zero",V.str "below"])=G0 at s0 ⊢;refine dF (fun e3=>?_) (fun e3=>?_)
    ·have e3:=of_decide_eq_true e3;have hg2:=hgd.off (r:=(r:Int)) (by omega);rcases sC hgd e3 with ⟨tt,c,rfl,h0,h1⟩ | ⟨u,b,tt,c,hu',rfl,hb,h0,h1⟩
     ·have ht:=hrow.nt (by show ¬("jump": Str)="table";decide+kernel);have ep:G q=some (.tup [V.str "jump",V.int tt,V.int c]):=ht;rw[wg]at hg2 ⊢;refine⟨_,rfl,2,rfl,-2,rfl,q,_,rfl,bh.of (s0 _ _ ep),(fun z=>absurd z.2 (by show ¬(1:Nat)=3;decide)),fun a na=>?_⟩;have s4:=s0.trans (ai (o:=.tup [V.str "jump"]) na);have ha:upd G0 a (.tup [V.str "jump"]) a=_:=ah;refine⟨_,rfl,_,rfl,_,rfl,q,_,-2,.int tt,rfl,rfl,bh.of (s4 _ _ ep),rfl,_,_,rfl,rfl,_,rfl,_,rfl,q,_,-1,.int c,rfl,rfl,bh.of (s4 _ _ ep),rfl,zle,fun b nb=>?_⟩;have s5:=s4.trans (ai (o:=.tup [V.int ((r:Int)+tt),V.int c]) nb);refine⟨a,b,[V.str "jump"],_,rfl,rfl,bh.of (ai nb _ _ ha),bh.of ah,cons_ne_nil _ _,zle,fun z=>absurd z (cons_ne_nil _ _),fun _ p' nq=>?_⟩;exact⟨p',rfl,⟨hg2.ok,.inr ⟨by show ¬("jump": Str)="table";decide+kernel,ah⟩⟩,s5.trans (ai nq)⟩
     ·have hnt:=Nj (E5 hu');have ht:=hrow.nt hnt;have ep:G q=some (.tup [V.str u,V.int b,V.int tt,V.int c]):=ht;rw[wj (vZ hu')]at hg2 ⊢;refine⟨_,rfl,2,rfl,-2,rfl,q,_,rfl,bh.of (s0 _ _ ep),(fun z=>absurd z.2 (by show ¬(2:Nat)=4;decide)),fun a na=>?_⟩;have s4:=s0.trans (ai (o:=.tup [V.str u,V.int b]) na);have ha:upd G0 a (.tup [V.str u,V.int b]) a=_:=ah;refine⟨_,rfl,_,rfl,_,rfl,q,_,-2,.int tt,rfl,rfl,bh.of (s4 _ _ ep),rfl,_,_,rfl,rfl,_,rfl,_,rfl,q,_,-1,.int c,rfl,rfl,bh.of (s4 _ _ ep),rfl,zle,fun b' nb=>?_⟩;have s5:=s4.trans (ai (o:=.tup [V.int ((r:Int)+tt),V.int c]) nb);refine⟨a,b',[V.str u,V.int b],_,rfl,rfl,bh.of (ai nb _ _ ha),bh.of ah,cons_ne_nil _ _,zle,fun z=>absurd z (cons_ne_nil _ _),fun _ p' nq=>?_⟩;exact⟨p',rfl,⟨hg2.ok,.inr ⟨hnt,ah⟩⟩,s5.trans (ai nq)⟩
    ·rw[qq (fun z=>e3 (decide_eq_true z))];exact⟨q,rfl,hrow.same s0,s0⟩
   rintro σ' G' ⟨q',rfl,Fj,s4⟩;refine⟨_,rfl,.inl ⟨rfl,_,aT.of (s4 _ _ BE)⟩,_,rfl,lm,_,_,rfl,rfl,s4 _ _ BE,aK (by omega),?_⟩;exact⟨_,us++ [.ref q'],rfl,((hu.tups (.of s4)).snoc Fj).tups (.upd (s4 _ _ BE) (fun _ z=>nomatch z)),aF (s3.trans s4) XR,(UX.tups (.of s4)).tups (.upd (s4 _ _ BE) (fun _ z=>nomatch z)),(aw XS).trans (s4 _ _ Nz),ah⟩
  rintro σ G3 ⟨v7,us,rfl,hu,s3,UX,Nz,BE⟩;rw[hyl,take_length]at hu;have US:=hu.len;rw[length_map]at US;have XQ:=UX.len;rw[length_map]at XQ;clear hz2 Ny LB hz UW s2 s1;refine j7 (v:=u4) V4 fun u5 V6=>?_;refine⟨_,rfl,_,rfl,fun pr npr=>⟨pr,r,rfl,ah,by omega,fun la VX=>?_⟩⟩;have t1:=(ai (o:=.rng 0 (r:Int)) npr).trans (ai (o:=.lst ((List.range r).map fun j:Nat=>V.int (j:Int))) VX);have hla:upd (upd G3 pr (.rng 0 (r:Int))) la (.lst ((List.range r).map fun j:Nat=>V.int (j:Int))) la=_:=ah;generalize upd (upd G3 pr (.rng 0 (r:Int))) la (.lst ((List.range r).map fun j:Nat=>V.int (j:Int)))=G4 at t1 hla ⊢;refine⟨zle,fun lb XT=>?_⟩;have t2:=t1.trans (ai (o:=.lst [V.non]) XT);have NA:=ai (o:=.lst [V.non]) XT _ _ hla;have hlb:upd G4 lb (.lst [V.non]) lb=_:=ah;generalize upd G4 lb (.lst [V.non])=G5 at t2 NA hlb ⊢;refine⟨_,rfl,lb,_,_,rfl,rfl,hlb,by omega,by omega,dg (by rw[nn];show 1*ps.length<=_;omega),fun UY NB=>?_⟩;rw[nn];have t3:=t2.trans (ai (o:=.lst (replicate ps.length [V.non]).flatten) NB);have NC:=ai (o:=.lst (replicate ps.length [V.non]).flatten) NB _ _ NA;have ND:upd G5 UY (.lst (replicate ps.length [V.non]).flatten) UY=_:=ah;generalize upd G5 UY (.lst (replicate ps.length [V.non]).flatten)=G6 at t3 NC ND ⊢;have hfl:(replicate ps.length [V.non]).flatten.length=ps.length:=by rw[len_rep];simp
  refine⟨la,UY,_,_,rfl,rfl,NC,ND,dg (by rw[length_map,length_range,hfl];omega),fun UZ IK=>?_⟩;have t4:=t3.trans (ai (o:=.lst (((List.range r).map fun j:Nat=>V.int (j:Int))++(replicate ps.length [V.non]).flatten)) IK);have NG:upd G6 UZ (.lst (((List.range r).map fun j:Nat=>V.int (j:Int))++(replicate ps.length [V.non]).flatten)) UZ=_:=ah;generalize upd G6 UZ (.lst (((List.range r).map fun j:Nat=>V.int (j:Int))++(replicate ps.length [V.non]).flatten))=G7 at t4 NG ⊢;refine⟨_,rfl,_,rfl,lr,_,rfl,.inl (aT.of ((s3.trans t4) _ _ hx)),(r:Int),_,rfl,fun U0 NH=>?_⟩;have t5:=t4.trans (ai (o:=.rng (r:Int) (xs.length:Int)) NH);have NI:=ai (o:=.rng (r:Int) (xs.length:Int)) NH _ _ NG;have NJ:upd G7 U0 (.rng (r:Int) (xs.length:Int)) U0=_:=ah;generalize upd G7 U0 (.rng (r:Int) (xs.length:Int))=G8 at t5 NI NJ ⊢;refine⟨U0,r,ds.length-r,rfl,by rw[NJ,Nq,show r+(ds.length-r)=ds.length by omega],by omega,fun ld Ng=>?_⟩;have t6:=t5.trans (ai (o:=.lst ((range' r (ds.length-r)).map fun j:Nat=>V.int (j:Int))) Ng);have NM:=ai (o:=.lst ((range' r (ds.length-r)).map fun j:Nat=>V.int (j:Int))) Ng _ _ NI;have NN:upd G8 ld (.lst ((range' r (ds.length-r)).map fun j:Nat=>V.int (j:Int))) ld=_:=ah;generalize upd G8 ld (.lst ((range' r (ds.length-r)).map fun j:Nat=>V.int (j:Int)))=G9 at t6 NM NN ⊢;refine⟨UZ,ld,_,_,rfl,rfl,NM,NN,dg (by rw[length_append,length_map,length_range,hfl,length_map,List.length_range'];omega),fun ll UA=>?_⟩;rw[IJ];have t7:=t6.trans (ai (o:=.lst ((bO ds.length r ps.length).map oV)) UA);have hll:upd G9 ll (.lst ((bO ds.length r ps.length).map oV)) ll=_:=ah;have XU:=(s3.trans t6).free UA;generalize upd G9 ll (.lst ((bO ds.length r ps.length).map oV))=IB at t7 hll ⊢;have s7:=s3.trans t7;clear t6 t5 t4 t3 t2 t1 NM NN NI NG NC ND NA hlb hla Ng IK NB XT VX npr NH NJ;show dC _ _ _ _ _;refine dX (j7 (v:=u5) V6 fun u6 eu6=>oJ ?_);intro pp npp;have t8:=ai (o:=.dK []) npp;have IL:upd IB pp (.dK []) pp=_:=ah;have SY:=s7.free npp;generalize upd IB pp (.dK [])=Px at t8 IL ⊢;refine⟨_,rfl,?_⟩;refine⟨_,rfl,lr,rfl,⟨_,aT.of ((s7.trans t8) _ _ hx)⟩,fun lf vR=>dO (K:=K) (xs:=xs) (fun i σ zs G=>∃v:Option V,σ=[v]/\zs=((ds.take i).map ji).map V.int/\Same Px G/\G lf=some (.lst zs)) ?_ ?_ ?_ ?_⟩
  ·exact⟨none,rfl,rfl,ai vR,ah⟩
  ·rintro i σ zs G _ ⟨v,rfl,_,s1,_⟩;exact aT.of (s1 _ _ ((s7.trans t8) _ _ hx))
  ·rintro i x σ zs G hxi ⟨v,rfl,rfl,s1,hl⟩;obtain⟨q,d,rfl,hd,hrow⟩:=hL.row hxi;have hil:=(ag.mp hd).1;refine⟨_,rfl,q,d,n,rfl,hrow.same ((s7.trans t8).trans s1),hG d (al hd),fun G' s2=>?_⟩;refine⟨s2 _ _ hl,aK (by rw[length_map,length_map,length_take];omega),_,rfl,?_,aF (s1.trans s2) vR,ah⟩;rw[take_succ,hd,map_append,map_append];rfl
  rintro σ zs' Py ⟨v,rfl,rfl,t9,hlf⟩;rw[Nq,take_length]at hlf;have XW:=(s7.trans t8).free vR;refine⟨_,rfl,lc,_,rfl,.inl (aT.of (((s7.trans t8).trans t9) _ _ hc1)),fun wQ NP=>?_⟩;have IK:=((s7.trans t8).trans t9).free NP;have t10:=t9.trans (ai (o:=.lst cs) NP);have SZ:upd Py wQ (.lst cs) wQ=_:=ah;have S9:=ai (o:=.lst cs) NP _ _ hlf;generalize upd Py wQ (.lst cs)=BD at t10 SZ S9 ⊢;have tP:=(s7.trans t8).trans t10;refine⟨t10 _ _ IL,rm ll lf wQ,rfl,(by show 3<=15;decide),?_⟩;have em:lK [] (rm ll lf wQ)=rm ll lf wQ:=rfl;rw[em];have Kr:upd BD pp (.dK (rm ll lf wQ)) pp=_:=ah;have J8:Same H (upd BD pp (.dK (rm ll lf wQ))):=aF tP SY;have kp:∀{b:Addr} {zs:List V},BD b=some (.lst zs)->upd BD pp (.dK (rm ll lf wQ)) b=some (.lst zs):=fun {b zs} e=>by rw[aw (fun z=>by rw[z,t10 _ _ IL]at e;cases e)];exact e
  have hT:eU G3 (upd BD pp (.dK (rm ll lf wQ))):=fun b ts e=>by have e1:=((t7.trans t8).trans t10) _ _ e;rw[aw (fun z=>by rw[z,t10 _ _ IL]at e1;cases e1)];exact e1
  have Ks:=kp S9;have Kt:=kp ((t8.trans t10) _ _ hll);have Ku:=kp SZ;have Fk:=kp (((t7.trans t8).trans t10) _ _ Nz);have Kv:=kp (((t7.trans t8).trans t10) _ _ BE);have NQ:=UX.tups hT;have Ta:=hu.tups hT;generalize upd BD pp (.dK (rm ll lf wQ))=XH at Kr J8 Ks Kt Ku Fk Kv NQ Ta ⊢;refine cutE (v:=u6) eu6 ?_;refine⟨_,rfl,_,rfl,(r:Int),rfl,ln,_,rfl,aT.of Fk,fun l4 nl4=>?_⟩;rw[Ff];have w1:=ai (o:=.lst (zs.take r)) nl4;have Ra:upd XH l4 (.lst (zs.take r)) l4=_:=ah;generalize upd XH l4 (.lst (zs.take r))=UT at w1 Ra ⊢;refine⟨_,rfl,l4,lm,_,_,rfl,rfl,Ra,w1 _ _ Kv,dg (by rw[length_take];omega),fun l5 nl5=>?_⟩;have w2:=w1.trans (ai (o:=.lst (zs.take r++us)) nl5);have O9:upd UT l5 (.lst (zs.take r++us)) l5=_:=ah;generalize upd UT l5 (.lst (zs.take r++us))=G16 at w2 O9 ⊢;refine⟨_,rfl,_,rfl,(r:Int),rfl,ln,_,rfl,aT.of (w2 _ _ Fk),fun l6 nl6=>?_⟩;rw[Fg];have w3:=w2.trans (ai (o:=.lst (zs.drop r)) nl6);have Pp:upd G16 l6 (.lst (zs.drop r)) l6=_:=ah;have Tb:=ai (o:=.lst (zs.drop r)) nl6 _ _ O9;generalize upd G16 l6 (.lst (zs.drop r))=G17 at w3 Pp Tb ⊢;refine⟨l5,l6,_,_,rfl,rfl,Tb,Pp,dg (by rw[length_append,length_take,length_drop];omega),fun l1 Ac=>?_⟩;have XY:=(J8.trans w3).free Ac;have w4:=w3.trans (ai (o:=.lst ((zs.take r++us)++zs.drop r)) Ac);have hl1:upd G17 l1 (.lst ((zs.take r++us)++zs.drop r)) l1=_:=ah;generalize upd G17 l1 (.lst ((zs.take r++us)++zs.drop r))=G18 at w4 hl1 ⊢;refine⟨_,rfl,zle,fun t nt=>?_⟩;have w5:=w4.trans (ai (o:=.tup [.ref l1,.ref pp]) nt);have hl1':=ai (o:=.tup [.ref l1,.ref pp]) nt _ _ hl1;have s18:=J8.trans w5;have Tc:=((((NQ.take r).app Ta).app (NQ.drop r)).tups (.of w5)).rows hl1';exact k t l1 pp ll lf wQ _ s18 ah Tc (w5 _ _ Kr) (w5 _ _ Kt) (w5 _ _ Ks) ⟨cs,w5 _ _ Ku,hc2,fun i c ms a b=>(hc3 i c ms a b).same s18⟩ ⟨XY,SY,XU,XW,IK⟩
structure YP(K:Frag)(mg:Str->Option Value)(aW dR eN:Addr):Prop where
 wq:mg "NoPaper"=some (.ref aW)
 BF:mg "RowError"=some (.ref dR)
 Fl:mg "TooMuch"=some (.ref eN)
 rd:vv K aW
 exm:exmOne K (.ref aW) (.ref aW)=some true
 XZ:kitOne K (.ref aW) (.ref dR)=some true
 tm:kitOne K (.ref aW) (.ref eN)=some false
def Td(WC MX:Addr):Sp:=fun vs H Q _=>MW WC MX vs H (fun _ H1=>∀H2,Same H1 H2->Q (.str "good") H2) (fun _ _ H1=>∀H2,Same H1 H2->Q (.str "nopaper") H2)
theorem IQ:aI ["_law_old","_law_new","_law_paper","_law_found","e"] ["_law_old","_law_new","_law_paper"] (ao j5):=by walk_at "sc1"
theorem wt{f fC:Addr}{fd J5:fo}{WC aW dR eN:Addr}(F:cE K "_law_said" "_law_said" j5 f fd)(T:Txt K w.params mg)(GC:aL P w K mg base (Hi P w) 8 fC J5 ["old","new","paper"] (MW WC aW))(kC:KI K fC)(bC:Binds K J5 ["old","new","paper"] [])(mC:mg "check_paper"=some (.ref fC))(Y:YP K mg aW dR eN):aL P w K mg base bQ 9 f fd ["_law_old","_law_new","_law_paper"] (Td WC aW):=by
 refine F.ok IQ (by walk_at "ln") (fun Lq A outer s H vs Q E hr h=>?_)
 ·obtain⟨l0,l1,pp,ll,lf,lc,di,dQ,ld,fs,cl,n,m,wk,rfl,h1,h2,h3,h4,h5,h6,h7,h8,h9,h10,h11,h12,h13,h14,h15,Bt,kQ,kE⟩:=h
  refine cu (ak (au (aP (i:=3) IQ.nd rfl (Or.inl rfl) ay))
   (ak (au (Hl (i:=4) (n :="e") (ae (pv 0) (ae (pv 1) (ae (pv 2) aj))) (by rfl) mC kC GC hr bC .nil rfl rfl rfl rfl (by rfl) Y.wq IQ.nd rfl rfl (fun ea=>(aA (aP (i:=3) IQ.nd rfl (Or.inl rfl) (aM w8 ay (aM He ay (bf lF (by rfl) T.int tL (ae (uX (wV (aG (r:=LI K aW) (vw Y.rd PySem.F.attr_ValueError) (by rfl) T.HE iG (ae (pv 4) (ae (cF (v:=.ref dR) (by rfl) Y.BF rfl) aj)))) (gH (aG (r:=LI K aW) (vw Y.rd PySem.F.attr_ValueError) (by rfl) T.HE iG (ae (pv 4) (ae (cF (v:=.ref eN) (by rfl) Y.Fl rfl) aj))))) aj)))))))))
   (az (au (aE (pv 3)))))) ?_
  refine⟨_,rfl,_,rfl,_,rfl,l0,l1,pp,ll,lf,lc,di,dQ,ld,fs,cl,n,m,wk,rfl,h1,h2,h3,h4,h5,h6,h7,h8,h9,h10,h11,h12,h13,h14,h15,Bt,fun g G s1=>?_,fun g G s1=>?_⟩
  ·exact⟨_,rfl,kQ g G s1 G (.refl _)⟩
  refine⟨Y.exm,fun ea Lx=>?_⟩;have s2:=ai (o:=xR ea (.ref aW) none) Lx;have X0:upd G ea (xR ea (.ref aW) none) ea=_:=ah;generalize upd G ea (xR ea (.ref aW) none)=G2 at s2 X0 ⊢;have kk:=kE g G s1 G2 s2;refine⟨_,rfl,ea,none,_,true,rfl,X0,(fun cv z=>by cases z;exact Y.XZ),?_⟩;refine⟨true,rfl,false,rfl,cC (by decide) ⟨_,rfl,ea,none,_,false,rfl,X0,(fun cv z=>by cases z;exact Y.tm),.inr ⟨false,rfl,_,0,rfl,rfl,Lz (by decide) (by decide) (by decide+kernel),_,_,rfl,rfl,(by decide+kernel),?_⟩⟩⟩;have e:(("nopaper": Str)++Txt.mul "!" 0)="nopaper":=by decide+kernel
  rw[e];exact⟨_,rfl,kk⟩
theorem qt(ds:List FR){r:Nat}(ps:List FR)(hr:r<=ds.length):(newF ds r ps).length=ds.length+ps.length:=by unfold newF;rw[length_append,length_append,length_take,length_map,length_map,length_drop,length_map];omega
theorem IU{ds:List FR}{r:Nat}{ps:List FR}(hr:r<=ds.length){i:Nat}(h:i<r):(newF ds r ps)[i]? =(ds[i]?).map (fq r ps.length):=by unfold newF;rw[append_assoc,av (by rw[length_take,length_map];omega),List.getElem?_take,if_pos h,ac]
theorem wu{ds:List FR}{r:Nat}{ps:List FR}(hr:r<=ds.length){j:Nat}(h:j<ps.length):(newF ds r ps)[r+j]? =(ps[j]?).map (jI r):=by
 unfold newF;have hl:((ds.map (fq r ps.length)).take r).length=r:=by rw[length_take,length_map];omega
 rw[append_assoc,bc (by omega),hl,Nat.add_sub_cancel_left,av (by rw[length_map];exact h),ac]
theorem IV{ds:List FR}{r:Nat}{ps:List FR}(hr:r<=ds.length){i:Nat}(h:r<=i):(newF ds r ps)[i+ps.length]? =(ds[i]?).map (fq r ps.length):=by
 unfold newF;have hl:((ds.map (fq r ps.length)).take r++ps.map (jI r)).length=r+ps.length:=by rw[length_append,length_take,length_map,length_map];omega
 rw[bc (by omega),hl,show i+ps.length- (r+ps.length)=i-r by omega,List.getElem?_drop,show r+(i-r)=i by omega,ac]
theorem qu{n r m:Nat}(hr:r<=n):(bO n r m).length=n+m:=by unfold bO;rw[length_append,length_append,length_map,length_range,length_replicate,length_map,List.length_range'];omega
theorem sD{n r m i:Nat}(h:i<r):(bO n r m)[i]? =some (some (i:Int)):=by unfold bO;rw[append_assoc,av (by rw[length_map,length_range];exact h),ac,List.getElem?_range h];rfl
theorem qv{n r m j:Nat}(h:j<m):(bO n r m)[r+j]? =some none:=by
 unfold bO;have hl:((List.range r).map fun j:Nat=>some (j:Int)).length=r:=by rw[length_map,length_range]
 rw[append_assoc,bc (by omega),hl,Nat.add_sub_cancel_left,av (by rw[length_replicate];exact h),List.getElem?_replicate,if_pos h]
theorem l9{n r m i:Nat}(h:r<=i)(hi:i<n):(bO n r m)[i+m]? =some (some (i:Int)):=by
 unfold bO;have hl:(((List.range r).map fun j:Nat=>some (j:Int))++replicate m none).length=r+m:=by rw[length_append,length_map,length_range,length_replicate]
 rw[bc (by omega),hl,show i+m- (r+m)=i-r by omega,ac,List.getElem?_range' (by omega)];rw[Option.map_some];congr 2;omega
theorem IW(xs:List Int):(xs.map some).filterMap id=xs:=by
 induction xs with
 | nil=>rfl
 | cons x xs ih=>rw[map_cons,List.filterMap_cons_some (f:=id) (a:=some x) (b:=x) rfl,ih]
theorem wy{n r m:Nat}(hr:r<=n):qb (bO n r m) n (n+m):=by
 refine⟨qu hr,?_⟩;have e:(bO n r m).filterMap id=j9 n:=by
  unfold bO j9;have em:∀l:List Nat,(l.map fun j:Nat=>some (j:Int)).filterMap id=l.map fun j:Nat=>(j:Int):=fun l=>by rw[<-IW (l.map fun j:Nat=>(j:Int)),map_map];rfl
  rw[filterMap_append,filterMap_append,em,em];have e2:(replicate m (none:Option Int)).filterMap id=[]:=by rw[List.filterMap_eq_nil_iff];intro a ha;rw[List.eq_of_mem_replicate ha];rfl
  rw[e2,append_nil,<-map_append];congr 1;rw[List.range_eq_range',List.range_eq_range'];have:=List.range'_append (s:=0) (m:=r) (n:=n-r) (step:=1);rw[show 0+1*r=r by omega,show r+(n-r)=n by omega]at this;exact this
 rw[e]
def Cz(r m k:Nat):Nat:=if k<r then k else k+m
theorem sE{n r m k:Nat}(hk:k<n):(bO n r m)[Cz r m k]? =some (some (k:Int)):=by
 unfold Cz;split
 ·exact sD (by assumption)
 ·exact l9 (by omega) hk
theorem IY{n r m k:Nat}(hr:r<=n)(hk:k<n):jl (bO n r m) k=Cz r m k :=
 ((sv (wy (m:=m) hr) hk).2 _ (sE hk)).symm
theorem Ai{ds:List FR}{r:Nat}{ps:List FR}(hr:r<=ds.length)(k:Nat):(newF ds r ps)[Cz r ps.length k]? =(ds[k]?).map (fq r ps.length):=by
 unfold Cz;split
 ·exact IU hr (by assumption)
 ·exact IV hr (by omega)
theorem yF{n:Int}{d:FR}(h:GF n d)(r m:Int):j8 (fq r m d) d=true:=by
 have hu0:(fq r m d).u=d.u:=rfl;have ht0:(fq r m d).ts.length=d.ts.length:=by unfold fq;rw[length_map]
 have hp:c5 (fq r m d) sm=c5 d sm:=by
  rcases h.three with ⟨u,t,c,hu,rfl,h0,h1⟩ | ⟨u,b,t,c,hu,rfl,hb,h0,h1⟩ | ⟨b,ts,rfl,hb,hl,ht⟩ | ⟨e,hf,_,g⟩
  ·rw[ql (yC hu)];have e:=(by decide+kernel:∀u∈zL2,aX u=zL9) u hu;unfold c5 pI;dsimp only;rw[e];rfl
  ·rw[qm (vZ hu)];have e:=(by decide+kernel:∀u∈zL0,aX u=zL11) u hu;unfold c5 pI;dsimp only;rw[e];rfl
  ·rw[qo];rfl
  ·rw[l7 e hf]
 unfold j8;rw[decide_eq_true hu0,decide_eq_true ht0,decide_eq_true hp];rfl
theorem rj.off{d:FR}(h:rj d)(r:Int):jI r d=d:=by obtain⟨u,b,c,rfl,hu,_⟩:=h;exact qq ((by decide+kernel:∀u∈Gh,¬u∈off3) u hu)
theorem IZ{ps:List FR}(h:∀d∈ps,rj d)(r:Int):ps.map (jI r)=ps:=by
 induction ps with
 | nil=>rfl
 | cons d ps ih=>rw[map_cons,(h d mem_cons_self).off,ih fun e he=>h e (List.mem_cons_of_mem _ he)]
theorem rj.may{d:FR}(h:rj d){ds:List FR}(ha:∀e∈ds,iN e):q5 d (jj ds)=true:=by
 obtain⟨u,b,c,rfl,hu,_,_,hp,_⟩:=h;unfold q5;have h12:u∈vO:=(by decide+kernel:∀u∈Gh,u∈vO) u hu;dsimp only;rw[decide_eq_true h12,Bool.true_and,Bool.not_eq_true',Bool.and_eq_false_iff];by_cases z:u ="put"
 ·right;have hc:=hp (by rw[z];decide+kernel);show jj ds c=false;unfold jj;refine decide_eq_false fun⟨e,he,hj⟩=>?_;have:=ha e he c hj;omega
 ·exact .inl (decide_eq_false z)
theorem stw{ds ps:List FR}{r:Nat}{n:Int}(hG:∀d∈ds,GF n d)(hmay:∀d∈ps,q5 (jI r d) (jj ds)=true)(hr:r<=ds.length):Pa ds (newF ds r ps) (bO ds.length r ps.length) (ds.map ji):=by
 refine⟨by rw[qt ds ps hr];exact wy hr,rfl,fun i d l hd hl=>?_⟩;have hi:=(ag.mp hd).1;rw[qt ds ps hr]at hi;have old:∀k:Nat,k<ds.length->i=Cz r ps.length k->RowW ds d l:=fun k hk e=>by subst e;rw[sE hk]at hl;rw[Ai hr]at hd;cases hl;obtain⟨e,he,rfl⟩:=map_eq_some_iff.mp hd;intro e' he';rw[show((k:Nat):Int).toNat=k by omega,he]at he';cases he';exact yF (hG e (al he)) _ _
 by_cases c1:i<r
 ·exact old i (by omega) (by unfold Cz;rw[if_pos c1])
 by_cases c2:i<r+ps.length
 ·obtain⟨j,rfl⟩:∃j,i=r+j:=⟨i-r,by omega⟩;rw[qv (by omega)]at hl;rw[wu hr (by omega)]at hd;cases hl;obtain⟨e,he,rfl⟩:=map_eq_some_iff.mp hd;exact hmay e (al he)
 ·exact old (i-ps.length) (by omega) (by unfold Cz;rw[if_neg (by omega)];omega)
theorem I0{r m k:Nat}:((Cz r m k:Nat):Int)+1=led r m ((k:Int)+1):=by
 unfold Cz led;by_cases c:k<r
 ·rw[if_pos c,if_neg (by rw[decide_eq_false (by omega)];decide)];omega
 ·rw[if_neg c,if_pos (by rw[decide_eq_true (by omega)])];omega
theorem Tf{r m:Nat}:led r m 0=0:=by unfold led;rw[if_neg (by rw[decide_eq_false (by omega)];decide)];omega
theorem Ja(r m:Int)(ts:List Int):(ts.map (led r m)).zip ts=ts.map fun t=>(led r m t,t):=by
 induction ts with
 | nil=>rfl
 | cons t ts ih=>rw[map_cons,zip_cons_cons,ih];rfl
theorem Jb{ds ps:List FR}{r:Nat}(hr:r<=ds.length){k:Nat}{d:FR}(hd:ds[k]? =some d){pl:Nat->Nat}(hpl:pl k=Cz r ps.length k):vT (newF ds r ps) pl k d=((if d.u∈dA then []else [(k:Int)+1])++d.ts).map fun t=>(led r ps.length t,t):=by
 unfold vT;rw[hpl,Ai hr,hd,map_append];show _++((d.ts.map (led r ps.length)).zip d.ts)=_;rw[Ja];congr 1;split
 ·rfl
 ·rw[map_cons,I0];rfl
theorem Aj{ds ps:List FR}{r:Nat}(hr:r<=ds.length){pl:Nat->Nat}(hpl:∀k,k<ds.length->pl k=Cz r ps.length k)(x:Int×Int):∀k,k<=ds.length->(x∈eM ds (newF ds r ps) pl k↔x.1=led r ps.length x.2/\(x.2=0\/∃(i:Nat) (d:FR),i<k/\ds[i]? =some d/\x.2∈nxt d i))
 | 0,_=>by
  show x∈ [(0,0)]↔_;rw[mem_singleton];constructor
  ·rintro rfl;exact⟨Tf.symm,.inl rfl⟩
  ·rintro⟨h1,h2 | ⟨i,d,h,_⟩⟩
   ·refine Prod.ext ?_ h2;rw[h1,h2];exact Tf
   ·omega
 | k+1,hk=>by
  have ih:=Aj hr hpl x k (by omega);have hd:ds[k]? =some (ds[k]'(by omega)):=aa _;generalize (ds[k]'(by omega))=d at hd;have e:eM ds (newF ds r ps) pl (k+1)=eM ds (newF ds r ps) pl k++vT (newF ds r ps) pl k d:=by show _++(match ds[k]? with | some d=>_ | none=>_)=_;rw[hd]
  rw[e,mem_append,ih,Jb hr hd (hpl k (by omega)),mem_map];constructor
  ·rintro(⟨h1,h2 | ⟨i,e,a,b⟩⟩ | ⟨t,ht,rfl⟩)
   ·exact⟨h1,.inl h2⟩
   ·exact⟨h1,.inr ⟨i,e,by omega,b⟩⟩
   ·refine⟨rfl,.inr ⟨k,d,by omega,hd,?_⟩⟩;unfold nxt;rcases mem_append.mp ht with z | z
    ·exact mem_append_right _ z
    ·exact mem_append_left _ z
  ·rintro⟨h1,h2 | ⟨i,e,a,b,c⟩⟩
   ·exact .inl ⟨h1,.inl h2⟩
   ·by_cases z:i<k
    ·exact .inl ⟨h1,.inr ⟨i,e,z,b,c⟩⟩
    ·obtain rfl:i=k:=by omega
     rw[hd]at b;cases b;refine .inr ⟨x.2,?_,Prod.ext h1.symm rfl⟩;unfold nxt at c;rcases mem_append.mp c with y | y
     ·exact mem_append_right _ y
     ·exact mem_append_left _ y
theorem Jc{b b':Bd}(h:b.held=b'.held/\b.af=b'.af)(d:FR):(cX b d).held=(cX b' d).held/\(cX b d).af=(cX b' d).af:=by
 unfold cX;rw[h.1,h.2];split
 ·exact⟨rfl,rfl⟩
 split
 ·exact⟨rfl,rfl⟩
 split
 ·exact⟨rfl,rfl⟩
 split
 ·exact⟨rfl,rfl⟩
 ·exact⟨rfl,rfl⟩
theorem Jd(b:Bd)(d:FR):(cX b d).gn=iU b.gn b.pl true:=by
 unfold cX;split
 ·rfl
 split
 ·rfl
 split
 ·rfl
 split<;>rfl
theorem Ak{ds:List FR}{ld:List (Option Int)}{f:Nat}{s:WS}{b:Bd}{fk:List Bd}{k:Int}(h:ld[b.pl]? =some (some k)):yx ds ld (f+1) s b fk=some ({s with es:=Bw s.es (k,b.held)},fk):=by rw[yx,h]
theorem ko{ds:List FR}{ld:List (Option Int)}{st:Nat}{s:WS}(h:yx ds ld 2002 ⟨0,false,[]⟩ (b0 st) []=some (s,[])):nh ds ld st s:=by refine⟨2,by decide,?_⟩;rw[ML];rw[show [b0 st].getLast? =some (b0 st)from rfl];dsimp only;rw[h];rfl
theorem Fm{ds:List FR}{ld:List (Option Int)}{st:Nat}{k:Int}(h:ld[st]? =some (some k)):nh ds ld st ⟨0,false,[(k,(b0 0).held)]⟩:=ko (Ak (f:=2001) (b:=b0 st) h)
theorem sF{ds ps:List FR}{r:Nat}(hr:r<ds.length)(hpc:∀d∈ps,rj d)(Bt:ps.length<=100):∀(g j:Nat) (b:Bd),g+j=ps.length->b.pl=r+j->b.held=(dM (ps.take j)).held/\b.af=(dM (ps.take j)).af->(∀p:Int,(r+j:Nat)<=p->b.gn p=false)->∀f,g<f->yx (newF ds r ps) (bO ds.length r ps.length) f ⟨j,false,[]⟩ b []=some (⟨ps.length,false,[((r:Int),(dM ps).held)]⟩,[])
 | 0,j,b,hj,hp,hh,hg,f+1,hf=>by
  have e:j=ps.length:=by omega
  subst e;rw[Ak (k:=(r:Int)) (by rw[hp];exact l9 (le_refl _) hr),hh.1,take_length];rfl
 | g+1,j,b,hj,hp,hh,hg,f+1,hf=>by
  have hjl:j<ps.length:=by omega
  have hd:ps[j]? =some ps[j]:=aa hjl;have hpd:=hpc _ (bn hjl);generalize ps[j]=d at hd hpd;have h1:(bO ds.length r ps.length)[b.pl]? =some none:=by rw[hp];exact qv hjl
  have h2:b.gn b.pl=false:=hg _ (by rw[hp];omega);have h3:(newF ds r ps)[b.pl]? =some d:=by rw[hp,wu (by omega) hjl,hd];show some (jI r d)=_;rw[hpd.off]
  have h4:nxt d b.pl=[(b.pl:Int)+1]:=by unfold nxt;rw[hpd.on.2,if_neg hpd.on.1];rfl
  rw[yx,h1];dsimp only;rw[h2,if_neg (by decide),if_neg (by omega),h3];dsimp only;rw[h4];dsimp only;have e:ps.take (j+1)=ps.take j++ [d]:=by rw[take_succ,hd];rfl
  refine sF hr hpc Bt g (j+1) {cX b d with pl:=((b.pl:Int)+1).toNat} (by omega) (by show((b.pl:Int)+1).toNat=_;rw[hp];omega) ?_ (fun p hp'=>?_) f (by omega)
  ·rw[e,sA];exact Jc hh d
  ·show(cX b d).gn p=false;rw[Jd];unfold iU;rw[if_neg (by rw[hp];omega)];exact hg p (by omega)
theorem yG{ds ps:List FR}{r:Nat}(hr:r<ds.length)(hpc:∀d∈ps,rj d)(Bt:ps.length<=100):nh (newF ds r ps) (bO ds.length r ps.length) r ⟨ps.length,false,[((r:Int),(dM ps).held)]⟩:=
 ko (sF hr hpc Bt ps.length 0 (b0 r) (by omega) rfl ⟨rfl,rfl⟩ (fun _ _=>rfl) 2002 (by omega))
def Kw(r m:Nat)(hs:List (Option Int))(s:Nat):WS:=if s=r then ⟨m,false,[((r:Int),hs)]⟩else ⟨0,false,[(((if s<r then s else s-m:Nat):Int),(b0 0).held)]⟩
def BG(cl:List (List Int))(r:Nat)(hs:List (Option Int)):Bool:=cA.all fun b=>decide (hAt hs b=some b)||decide (b∈(cl[r]?).getD [])
theorem held0:∀b∈cA,hAt (b0 0).held b=some b:=by decide
theorem Tg{cl:List (List Int)}{k:Nat}{n:Nat}:ic ⟨n,false,[((k:Int),(b0 0).held)]⟩ cl (k:Int)=true:=by unfold ic uc;rw[all_cons,all_nil,Bool.and_true,Bool.and_eq_true,Bool.and_eq_true];exact⟨rfl,decide_eq_true rfl,all_eq_true.mpr fun b hb=>by rw[decide_eq_true (held0 b hb)];rfl⟩
theorem Fn{ds ps:List FR}{r:Nat}{cl:List (List Int)}(hG:∀d∈ds,GF (ds.length:Nat) d)(hE:sy ds)(hA:∀d∈ds,iN d)(hr:r<ds.length)(hC:Comes ds r)(hpc:∀d∈ps,rj d)(h1:1<=ps.length)(Bt:ps.length<=16):
  (Pa ds (newF ds r ps) (bO ds.length r ps.length) (ds.map ji))/\(∀x∈eM ds (newF ds r ps) (jl (bO ds.length r ps.length)) ds.length,0<=x.1/\0<=x.2/\x.2<ds.length/\nh (newF ds r ps) (bO ds.length r ps.length) x.1.toNat (Kw r ps.length (dM ps).held x.1.toNat))/\
  (Good ds (newF ds r ps) (bO ds.length r ps.length) (ds.map ji) cl (Kw r ps.length (dM ps).held)↔BG cl r (dM ps).held=true):=by
 have hst:Pa ds (newF ds r ps) (bO ds.length r ps.length) (ds.map ji):=stw hG (fun d hd=>by rw[(hpc d hd).off];exact(hpc d hd).may hA) (by omega);have hm:∀x,x∈eM ds (newF ds r ps) (jl (bO ds.length r ps.length)) ds.length↔x.1=led r ps.length x.2/\(x.2=0\/∃(i:Nat) (d:FR),i<ds.length/\ds[i]? =some d/\x.2∈nxt d i):=fun x=>Aj (by omega) (fun k hk=>IY (by omega) hk) x ds.length (le_refl _);have hx:∀x∈eM ds (newF ds r ps) (jl (bO ds.length r ps.length)) ds.length,∃t:Nat,x.2=(t:Int)/\t<ds.length/\x.1=led r ps.length (t:Int):=fun x hx=>by
  obtain⟨a,b⟩:=(hm x).mp hx;have:0<=x.2/\x.2<ds.length:=by
   rcases b with b | ⟨i,d,hi,hd,hn⟩
   ·omega
   ·have hg:=hG d (al hd);unfold nxt at hn;rcases mem_append.mp hn with z | z
    ·exact hg.ts.2 _ z
    ·split at z
     ·cases z
     ·rename_i hno;have:=hE.on hd hno;rw[mem_singleton.mp z];omega
  exact⟨x.2.toNat,by omega,by omega,by rw[a];congr 1;omega⟩
 have hle:∀t:Nat,t<ds.length->(led r ps.length (t:Int)).toNat=if t<=r then t else t+ps.length:=fun t ht=>by
  unfold led;by_cases c:t<=r
  ·rw[if_neg (by rw[decide_eq_false (by omega)];decide),if_pos c];omega
  ·rw[if_pos (by rw[decide_eq_true (by omega)]),if_neg c];omega
 have hwk:∀t:Nat,t<ds.length->¬t=r->Kw r ps.length (dM ps).held (led r ps.length (t:Int)).toNat=⟨0,false,[((t:Int),(b0 0).held)]⟩:=fun t ht hne=>by
  rw[hle t ht];unfold Kw;by_cases c:t<=r
  ·rw[if_pos c,if_neg hne,if_pos (by omega)]
  ·rw[if_neg c,if_neg (by omega),if_neg (by omega),Nat.add_sub_cancel]
 have hwr:Kw r ps.length (dM ps).held (led r ps.length (r:Int)).toNat=⟨ps.length,false,[((r:Int),(dM ps).held)]⟩:=by rw[hle r hr,if_pos (le_refl _)];unfold Kw;rw[if_pos rfl]
 refine⟨hst,fun x h=>?_,?_⟩
 ·obtain⟨t,e2,ht,e1⟩:=hx x h;refine⟨by rw[e1];have:=ui (r:=(r:Int)) (m:=(ps.length:Int)) (t:=(t:Int)) (by omega);omega,by omega,by omega,?_⟩;rw[e1];by_cases c:t=r
  ·subst c;rw[hwr,hle t ht,if_pos (le_refl _)];exact yG hr hpc (by omega)
  ·rw[hwk t ht c];refine Fm ?_;rw[hle t ht];by_cases z:t<=r
   ·rw[if_pos z];exact sD (by omega)
   ·rw[if_neg z];exact l9 (by omega) ht
 ·have hrw:ic (Kw r ps.length (dM ps).held (led r ps.length (r:Int)).toNat) cl (r:Int)=BG cl r (dM ps).held:=by rw[hwr];unfold ic uc BG;rw[all_cons,all_nil,Bool.and_true,decide_eq_true rfl,Bool.true_and,nn];rfl
  constructor
  ·rintro⟨_,h⟩;have hin:(led r ps.length (r:Int),(r:Int))∈eM ds (newF ds r ps) (jl (bO ds.length r ps.length)) ds.length:=by
    rw[hm];refine⟨rfl,?_⟩;rcases hC with rfl | ⟨i,d,hd,hn⟩
    ·exact .inl rfl
    ·exact .inr ⟨i,d,(ag.mp hd).1,hd,hn⟩
   have:=h _ hin;rw[<-hrw];exact this
  ·intro h;refine⟨hst,fun x hx'=>?_⟩;obtain⟨t,e2,ht,e1⟩:=hx x hx';rw[e1,e2];by_cases c:t=r
   ·subst c;rw[hrw];exact h
   ·rw[hwk t ht c];exact Tg
theorem cq.dl{G:Hp}{lc lx:Addr}{ys:List V}{cl:List (List Int)}(h:cq G lc cl)(e:G lx=some (.lst ys))(ne:lc≠lx):cq (del G lx) lc cl:=by obtain⟨cs,a,b,c⟩:=h;refine⟨cs,gq a ne,b,fun i x ms h1 h2=>?_⟩;obtain⟨q,e1,e2,r⟩:=c i x ms h1 h2;exact⟨q,e1,gq e2 (fun z=>by rw[z,e]at e2;cases e2),r⟩
theorem Je{ds:List FR}(hG:∀d∈ds,GF (ds.length:Nat) d)(hE:sy ds):nc ds:=fun r d hd=>by
 have hg:=hG d (al hd);refine⟨hg.ts.1,fun s hs=>?_⟩;unfold zU at hs;split at hs
 ·exact hg.ts.2 s hs
 ·rename_i h;rcases mem_append.mp hs with z | z
  ·exact hg.ts.2 s z
  ·have:=hE.on hd (fun y=>h (.inr y));rw[mem_singleton.mp z];omega
theorem BH{ds:List FR}:firstBad ds (replicate ds.length [])=none:=vI fun j hj=>by unfold pW;rw[aa hj,List.getElem?_replicate,if_pos hj];rfl
theorem rep1(n:Nat)(v:V):(replicate n [v]).flatten=replicate n v:=by
 induction n with
 | zero=>rfl
 | succ n ih=>rw[replicate_succ,replicate_succ,List.flatten_cons,ih];rfl
theorem jg.in_{H:Hp}{lc:Addr}{cl:List (List Int)}(h:cq H lc cl){r:Nat}(hr:r<cl.length):∃cs q ms,H lc=some (.lst cs)/\mQ cs (r:Int)=some (.ref q)/\H q=some (.tup (ms.map V.int))/\cl[r]? =some ms:=by obtain⟨cs,q,a,b,c⟩:=h.get (aa hr);exact⟨cs,q,_,a,b,c,aa hr⟩
inductive Al(vs:List V)(H:Hp)(Q:VK)(E_:XK):Prop
 | mk (a:Addr) (ns:List Int) (_:vs=[.ref a]) (_:aT K H a (ns.map V.int)) (_:ns.length<=63) (_:∀H',Q (.bl true) H')
theorem gD:aI ["_law_script","_law_xs","_law_turn","_law_rows_here","_law_free","_law_come_here","_law_r","_law_piece_here","_law_new","_law_paper","_law_kept","_law_due"] ["_law_script"] (ao jc):=by walk_at "sc1"
def Jf:Scope:={kind:=.function,names:=[(".0",.local),("_law_box_here",.local),("_law_free",.free),("_law_kept",.free),("_law_r",.free)],isGenerator:=false,isCoroutine:=false,more:=[]}
theorem Am:bZ (ao jc) Jf ["_law_script","_law_xs","_law_turn","_law_rows_here","_law_free","_law_come_here","_law_r","_law_piece_here","_law_new","_law_paper","_law_kept","_law_due"] ["_law_box_here","_law_kept","_law_free","_law_r"] [none,some 10,some 4,some 6]:=by walk_at "sc2"
theorem NR{f fS fA fR fX fM fP fI fH fD fC:Addr}{fd J6 D5 DZ fdX Ro z9 Rx Q8 fdD J5:fo}{WC aW:Addr}(F:cE K "law" "law" jc f fd)(T:Txt K w.params mg)(GS:aL P w K mg base bQ 1 fS J6 ["_law_cell","_law_size"] R8)(kS:KI K fS)(bS:Binds K J6 ["_law_cell","_law_size"] [])(mS:mg "_law_stream"=some (.ref fS))(GA:aL P w K mg base bQ 1 fA D5 ["_law_script","_law_k"] (EV (K:=K)))(kA:KI K fA)(bA:Binds K D5 ["_law_script","_law_k"] [])(mA:mg "_law_cell_at"=some (.ref fA))(GR:aL P w K mg base bQ 3 fR DZ ["_law_xs","_law_most"] Sf)(kR:KI K fR)(bR:Binds K DZ ["_law_xs","_law_most"] [])(mR:mg "_law_rows"=some (.ref fR))(GX:aL P w K mg base bQ 5 fX fdX ["rows"] Ek)(kX:KI K fX)(bX:Binds K fdX ["rows"] [])(mX:mg "free_boxes"=some (.ref fX))(GM:aL P w K mg base bQ 3 fM Ro ["_law_rows_here"] SK)(kM:KI K fM)(bM:Binds K Ro ["_law_rows_here"] [])(mM:mg "_law_come"=some (.ref fM))(GP:aL P w K mg base bQ 1 fP z9 ["_law_xs"] SL)(kP:KI K fP)(bP:Binds K z9 ["_law_xs"] [])(mP:mg "_law_piece"=some (.ref fP))(GI:aL P w K mg base bQ 2 fI Rx ["_law_rows_here","_law_r","_law_piece_here","_law_free"] SW)(kI:KI K fI)(bI:Binds K Rx ["_law_rows_here","_law_r","_law_piece_here","_law_free"] [])(mI:mg "_law_put_in"=some (.ref fI))(GH:aL P w K mg base bQ 1 fH Q8 ["_law_piece_here"] SV)(kH:KI K fH)(bH:Binds K Q8 ["_law_piece_here"] [])(mH:mg "_law_held"=some (.ref fH))(GD:aL P w K mg base bQ 9 fD fdD ["_law_old","_law_new","_law_paper"] (Td WC aW))(kD:KI K fD)(bD:Binds K fdD ["_law_old","_law_new","_law_paper"] [])(mD:mg "_law_said"=some (.ref fD))(GC:aL P w K mg base bQ 5 fC J5 ["rows","claims"] yl)(kC:KI K fC)(bC:Binds K J5 ["rows","claims"] [])(mC:mg "check_free"=some (.ref fC)):aL P w K mg base bQ 10 f fd ["_law_script"] (Al (K:=K)):=by
 refine F.ok gD (by walk_at "ln") (fun Lq A outer s H vs Q E hr h=>?_)
 ·obtain⟨sc,ns,rfl,hS,hns,kq⟩:=h;have Pr:=hr.mono (show 1<=_ by decide);have hrR:=hr.mono (show 3<=_ by decide);have hrX:=hr.mono (show 5<=_ by decide);have hrC:=hr.mono (show 5<=_ by decide);have hrI:=hr.mono (show 2<=_ by decide)
  refine cu (ak (au (aP (i:=1) gD.nd rfl (Or.inl rfl) (aC GS Pr (by rfl) mS kS bS .nil aU (ae (aC GA Pr (by rfl) mA kA bA .nil aU (ae (pv 0) (ae aq aj))) (ae aq aj)))))
   (ak (Ag PassesOwn.never rfl (cy rfl T.range (ae aq aj)) (aR (i:=2) gD.nd rfl (Or.inl rfl)) (ak (au (aP (i:=3) gD.nd rfl (Or.inl rfl) (aC GR hrR (by rfl) mR kR bR .nil aU (ae (pv 1) (ae aq aj)))))
   (ak (au (aP (i:=4) gD.nd rfl (Or.inr rfl) (aC GX hrX (by rfl) mX kX bX .nil aU (ae (pv 3) aj))))
   (kO (bz (aN eP (aM cL (aM bY (dw ij PySem.F.slot_list_pop PySem.F.type_list_pop dy (pv 1)) aq) aq) aq (aY _)) (az (au (aP (i:=4) gD.nd rfl (Or.inr rfl) (aM C0 (dD (ae (aZ aj) aj)) (aG aS (by rfl) T.len cZ (ae (pv 3) aj)))))) (bg aO))
   (ak (au (c6 (aC GC hrC (by rfl) mC kC bC .nil aU (ae (pv 3) (ae (pv 4) aj)))))
   (ak (au (aP (i:=5) gD.nd rfl (Or.inl rfl) (aC GM hrR (by rfl) mM kM bM .nil aU (ae (pv 3) aj))))
   (ak (au (aP (i:=6) gD.nd rfl (Or.inr rfl) (aJ bp (pv 5) (aM cL (aM bY (dw ij PySem.F.slot_list_pop PySem.F.type_list_pop dy (pv 1)) aq) (aG aS (by rfl) T.len cZ (ae (pv 5) aj))) (fun _ _=>rfl))))
   (ak (au (aP (i:=7) gD.nd rfl (Or.inl rfl) (aC GP Pr (by rfl) mP kP bP .nil aU (ae (pv 1) aj))))
   (ak (au (o6 (aC GI hrI (by rfl) mI kI bI .nil aU (ae (pv 3) (ae (pv 6) (ae (pv 7) (ae (pv 4) aj))))) (CI (n:=2) rfl (kh (aR (i:=8) gD.nd rfl (Or.inl rfl)) (kh (aR (i:=9) gD.nd rfl (Or.inl rfl)) zm)))))
   (ak (au (aP (i:=10) gD.nd rfl (Or.inr rfl) (aC GH Pr (by rfl) mH kH bH .nil aU (ae (pv 7) aj))))
   (ak (au (aP (i:=11) gD.nd rfl (Or.inl rfl) ay))
   (kO (bz (cI (aG (ei rfl) (by rfl) T.all je (ae (cO (X:=(gM bQ P w K mg base ["_law_script","_law_xs","_law_turn","_law_rows_here","_law_free","_law_come_here","_law_r","_law_piece_here","_law_new","_law_paper","_law_kept","_law_due"] "law" (ao jc) f Lq A outer s H E).uY) (N':=["_law_box_here","_law_kept","_law_free","_law_r"]) (fr:=[none,some 10,some 4,some 6]) Am rfl (cy rfl T.range (ae aq aj)) (fun C s0 H0 fp=>(aR (i:=0) Am.nd rfl (Or.inl rfl))) (fun C s0 H0 fp=>cB) (fun C s0 H0 fp=>(uX (cS (r:=JN K false) bj (pv 0) (pv 1) rfl) (gH (cS (r:=JN K false) bj (pv 0) (aJ (r:=CV K) bp (pv 2) (pv 3) (fun _ _=>rfl)) rfl))))) aj))) (az (au (aP (i:=11) gD.nd rfl (Or.inl rfl) ay))) (bg aO))
   (az (bz (aN rL (aC GD hr (by rfl) mD kD bD .nil aU (ae (pv 3) (ae (pv 8) (ae (pv 9) aj)))) (pv 11) (aY _)) (az (au (aE dW))) (bg aO)))))))))))))))
   (az (au (aE dW))))) ?_
  refine⟨_,rfl,sc,ns,0,rfl,hS,Int.le_refl _,fun c=>?_⟩;refine⟨c,400,rfl,by decide,fun lx ms G0 s0 nlx hx0 hm0=>?_⟩;refine⟨_,rfl,by decide,by decide,ef (lo:=0) (n:=((3:Int)).toNat) (fun i σ G=>∃(v2 v3 v4 v5 v6 v7 v8 v9 v10 v11:Option V) (m:List Int),σ=[some (.ref sc),some (.ref lx),v2,v3,v4,v5,v6,v7,v8,v9,v10,v11]/\G lx=some (.lst (m.map V.int))/\400<=m.length+117*i) ?_ ?_ ?_⟩
  ·exact⟨none,none,none,none,none,none,none,none,none,none,ms,rfl,hx0,by omega⟩
  rotate_left
  ·rintro σ G _;exact kq _
  rintro i σ G hi ⟨v2,v3,v4,v5,v6,v7,v8,v9,v10,v11,m,rfl,hx,hml⟩;have hi3:i<3:=hi;show dC _ _ _ _ _;refine dX ?_;refine⟨_,rfl,lx,m,8,rfl,by decide,by decide,hx,by omega,fun lr xs ds m1 G1 S1 nlr ner hlr hL1 h1 h8 hGA hE hx1 hm1=>?_⟩;have hG:∀d∈ds,GF (ds.length:Nat) d:=fun d hd=>(hGA d hd).1;have hA:∀d∈ds,iN d:=fun d hd=>(hGA d hd).2;have k7:cw (del G1 lx) lr ds:=hL1.rows (gq hlr ner);have J7:=Je hG hE;refine⟨_,rfl,lr,ds,rfl,k7.same fQ,J7,by omega,fun lf G2 s2 vR hCl=>?_⟩;have hx2:=s2 _ _ hx1;have nef:lf≠lx:=fun z=>by rw[z,hx1]at vR;cases vR
  have hC2:=hCl.dl hx2 nef;have S2:=aH (l:=lx) s2;refine⟨fun σ' G'=>∃(lf:Addr) (cl:List (List Int)) (m':List Int),σ'=[some (.ref sc),some (.ref lx),some (.int (0+(i:Int))),some (.ref lr),some (.ref lf),v5,v6,v7,v8,v9,v10,v11]/\Same (del G1 lx) (del G' lx)/\G' lx=some (.lst (m'.map V.int))/\m'.length+1=m1.length/\cq (del G' lx) lf cl/\cl.length=ds.length/\firstBad ds cl=none,?_,?_⟩
  ·obtain⟨a1,p1,e1,e2,e3⟩:=jm (ms:=m1) (by omega);refine⟨_,rfl,.inl ⟨rfl,_,aT.of hx2⟩,lx,_,_,rfl,rfl,hx2,e1,?_⟩;rw[e2];have Gg:upd G2 lx (.lst (p1.map V.int)) lx=_:=ah;have S3:=S2.trans (eZ (H:=G2) (l:=lx) (o:=.lst (p1.map V.int)));have hC3:=hC2.same (eZ (H:=G2) (l:=lx) (o:=.lst (p1.map V.int)));generalize upd G2 lx (.lst (p1.map V.int))=G3 at Gg S3 hC3 ⊢;refine⟨_,_,rfl,rfl,⟨by show(0:Int)<3;decide,by show(3:Int)<_;decide⟩,_,_,rfl,rfl,QI,rfl,_,rfl,?_⟩;refine dF (fun _=>?_) (fun _=>?_)
   ·refine⟨zle,fun t0 UK=>?_⟩;have w1:=ai (o:=.tup []) UK;have ht0:upd G3 t0 (.tup []) t0=_:=ah;generalize upd G3 t0 (.tup [])=G4 at w1 ht0 ⊢;refine⟨zle,fun l1 Ac=>?_⟩;have w2:=w1.trans (ai (o:=.lst [V.ref t0]) Ac);have ht1:=ai (o:=.lst [V.ref t0]) Ac _ _ ht0;have hl1:upd G4 l1 (.lst [V.ref t0]) l1=_:=ah;generalize upd G4 l1 (.lst [V.ref t0])=G5 at w2 ht1 hl1 ⊢;have S5:=S3.trans (aH (l:=lx) w2);obtain⟨qs,g1,g2,g3⟩:=(k7.same S5).same fQ;refine⟨_,rfl,lr,_,rfl,.inl (aT.of g1),l1,_,_,rfl,rfl,hl1,by rw[length_map,g2];omega,by rw[length_map,g2];omega,dg (by rw[length_map,g2];show 1*((ds.length:Nat):Int).toNat<=_;omega),fun l2 lu=>?_⟩;rw[length_map,g2,nn,rep1];have ne2:l2≠lx:=fun z=>by rw[z,w2 _ _ Gg]at lu;cases lu
    have w3:=w2.trans (ai (o:=.lst (replicate ds.length (V.ref t0))) lu);have uf:=w3 _ _ Gg;refine⟨l2,replicate ds.length [],p1,rfl,S3.trans (aH (l:=lx) w3),uf,e3,?_,length_replicate,BH⟩;refine cq.dl ⟨_,ah,by rw[length_replicate,length_replicate],fun j x mm h1 h2=>?_⟩ uf ne2;rw[List.getElem?_replicate]at h1 h2;split at h1
    ·rename_i hj;rw[if_pos hj]at h2;cases h1;cases h2;exact⟨t0,rfl,ai lu _ _ ht1,fun b hb=>absurd hb not_mem_nil,List.Pairwise.nil,List.nodup_nil,by decide⟩
    ·cases h1
   ·exact⟨lf,iK ds,p1,rfl,S3,Gg,e3,hC3,vM ds,yo J7⟩
  rintro σ' G4 ⟨lf,cl,m4,rfl,S4,Pu,hm4,X1,hcl,hbad⟩;clear hC2 S2 nef hCl vR hx2 s2 G2;have hR4:=k7.same S4;refine⟨_,rfl,_,rfl,lr,lf,ds,cl,rfl,hR4.same fQ,X1.same fQ,hcl,by omega,J7,hbad,fun G5 s5=>?_⟩;have S5:=S4.trans (aH (l:=lx) s5);have Pw:=s5 _ _ Pu;have hR5:=k7.same S5;have hC5:=X1.same (aH (l:=lx) s5);clear hR4 X1 s5 S4 Pu;refine⟨_,rfl,lr,ds,rfl,hR5.same fQ,hG,hE,h1,by omega,fun lm cm G6 s6 Kq LB hc1 hc50 hcm=>?_⟩;have S6:=S5.trans (aH (l:=lx) s6);have uf:=s6 _ _ Pw;have hR6:=k7.same S6;have hC6:=hC5.same (aH (l:=lx) s6);have nem:lm≠lx:=fun z=>by rw[z,Pw]at Kq;cases Kq
  clear hR5 hC5 s6 S5 Pw;obtain⟨a1,p1,e1,e2,e3⟩:=jm (ms:=m4) (by omega);refine⟨_,rfl,_,rfl,.inl ⟨rfl,_,aT.of uf⟩,lx,_,_,rfl,rfl,uf,e1,?_⟩;rw[e2];have ug:upd G6 lx (.lst (p1.map V.int)) lx=_:=ah;have Jg:upd G6 lx (.lst (p1.map V.int)) lm=_:=(aw nem).trans LB;have U1:=eZ (H:=G6) (l:=lx) (o:=.lst (p1.map V.int));have S7:=S6.trans U1;generalize upd G6 lx (.lst (p1.map V.int))=G7 at ug S7 U1 Jg ⊢;have hR7:=k7.same S7;have hC7:cq (del G7 lx) lf cl:=hC6.same U1;obtain⟨c7,hc7,X2⟩:=Bz (a1/3) (n:=cm.length) (by omega);have X3:cm[c7]? =some (cm[c7]'X2):=aa _;obtain⟨r,er,hrl,Ti⟩:=hcm _ (al X3);refine⟨_,_,rfl,rfl,⟨by show(0:Int)<3;decide,by show(3:Int)<_;decide⟩,_,rfl,lm,_,rfl,.inl (aT.of Jg),_,_,rfl,rfl,(by rw[length_map];omega),lm,_,_,.int (r:Int),rfl,rfl,aT.of Jg,?_,?_⟩
  ·rw[length_map];show mQ _ (a1/3 % ((cm.length:Nat):Int))=_;rw[hc7];exact cG (by rw[ac,X3,er];rfl)
  show dC _ _ _ _ _;refine dX ?_;clear X3 er hc7 Jg hcm LB hR6 hC6 U1 S6 uf;refine⟨_,rfl,lx,p1,rfl,ug,by omega,fun lp xp ps m8 G8 S78 Np E9 hlp hL8 hp1 Tj hpc Kl hm8=>?_⟩;have S8:=S7.trans S78;have X4:=k7.same S8;have X5:=hC7.same S78;have X6:cw (del G8 lx) lp ps:=hL8.rows (gq hlp E9);clear hR7 hC7 S7;refine⟨_,rfl,_,rfl,_,rfl,_,rfl,lr,lp,lf,ds,ps,cl,r,(ds.length:Nat),0,rfl,X4.same fQ,X6.same fQ,X5.same fQ,hG,fun d hd=>(hpc d hd).gf 0,by omega,by omega,by omega,fun t l1 pp ll lfm lc G9 s9 ht hN9 hpp hll X7 hC9 _=>?_⟩;refine⟨t,_,rfl,bh.of ht,rfl,_,_,rfl,_,_,rfl,rfl,?_⟩;have hR9:=(X4.same fQ).same s9;have Nf:=s9 _ _ Kl;have X8:=(X5.same fQ).same s9;obtain⟨xp',X9,Ya⟩:=(X6.same (fQ (l:=lx))).l;have Yb:=s9 _ _ X9;have Yc:=Ya.tups (.of s9);clear X4 X5 X6;refine⟨_,rfl,lp,xp',ps,rfl,Yb,Yc,hpc,Tj,fun lk ks IB xF nlk hlk hks=>?_⟩;have IA:=xF _ _ Nf;have Yd:=hR9.same xF;have Ye:=X8.same xF;obtain⟨hst,hwk,hgood⟩:=Fn (cl:=cl) hG hE hA hrl Ti hpc hp1 Tj;refine⟨fun σ' G'=>σ'=[some (.ref sc),some (.ref lx),some (.int (0+(i:Int))),some (.ref lr),some (.ref lf),some (.ref lm),some (.int (r:Int)),some (.ref lp),some (.ref l1),some (.ref pp),some (.ref lk),some (.str (if BG cl r (dM ps).held=true then "good"else "nopaper"))]/\Same IB G',?_,?_⟩
  ·refine⟨_,rfl,by decide,by decide,fun D nD=>?_⟩;obtain⟨cs,q,mr,c1,c2,c3,c4⟩:=jg.in_ Ye (r:=r) (by omega);refine d8 (lo:=0) (n:=((8:Int)).toNat) (fun j σ ys G'=>∃(v:Option V),σ=[v,some (.ref lk),some (.ref lf),some (.int (r:Int))]/\ys=((cA.take j).map fun b=>decide (hAt (dM ps).held b=some b)||decide (b∈mr)).map V.bl/\Same IB G'/\G' D=some (.lst ys)) ?_ ?_ ?_
   ·exact⟨none,rfl,rfl,ai nD,ah⟩
   ·rintro j σ ys G' hj ⟨v,rfl,rfl,Ck,hD⟩;have hj8:j<8:=hj;show dC _ (.int (0+(j:Int))) _ _ _;rw[Int.zero_add];refine dX ?_;have hb8:cA[j]? =some (j:Int):=by
     match j,hj8 with
     | 0,_=>rfl
     | 1,_=>rfl
     | 2,_=>rfl
     | 3,_=>rfl
     | 4,_=>rfl
     | 5,_=>rfl
     | 6,_=>rfl
     | 7,_=>rfl
    have fin:∀b:Bool,b=(decide (hAt (dM ps).held (j:Int)=some (j:Int))||decide ((j:Int)∈mr))->G' D=some (.lst (((cA.take j).map fun b=>decide (hAt (dM ps).held b=some b)||decide (b∈mr)).map V.bl))/\(((cA.take j).map fun b=>decide (hAt (dM ps).held b=some b)||decide (b∈mr)).map V.bl).length<fw/\∃(v:Option V),[some (V.int (j:Int)),some (V.ref lk),some (V.ref lf),some (V.int (r:Int))]=[v,some (V.ref lk),some (V.ref lf),some (V.int (r:Int))]/\((cA.take j).map fun b=>decide (hAt (dM ps).held b=some b)||decide (b∈mr)).map V.bl++ [V.bl b]=((cA.take (j+1)).map fun b=>decide (hAt (dM ps).held b=some b)||decide (b∈mr)).map V.bl/\Same IB (upd G' D (.lst (((cA.take j).map fun b=>decide (hAt (dM ps).held b=some b)||decide (b∈mr)).map V.bl++ [V.bl b])))/\upd G' D (.lst (((cA.take j).map fun b=>decide (hAt (dM ps).held b=some b)||decide (b∈mr)).map V.bl++ [V.bl b])) D=some (.lst (((cA.take j).map fun b=>decide (hAt (dM ps).held b=some b)||decide (b∈mr)).map V.bl++ [V.bl b])):=fun b hb=>by refine⟨hD,aK (by rw[length_map,length_map,length_take];omega),_,rfl,?_,aF Ck nD,ah⟩;rw[take_succ,hb8,map_append,map_append,hb];rfl
    have hkk:decide ((j:Int)∈ks)=decide (hAt (dM ps).held (j:Int)=some (j:Int)):=decide_eq_decide.mpr ((hks _).trans ⟨fun z=>z.2.2,fun z=>⟨by omega,by omega,z⟩⟩);refine⟨_,rfl,_,rfl,lk,_,rfl,.inl (aT.of (Ck _ _ hlk)),rfl,eT _,?_⟩;refine⟨decide ((j:Int)∈ks),by show V.bl (inV _ _)=_;rw[gC],?_⟩;refine dF (fun e=>?_) (fun e=>?_)
    ·exact fin true (by rw[<-hkk,e];rfl)
    ·refine⟨_,rfl,_,rfl,_,rfl,lf,cs,_,.ref q,rfl,rfl,aT.of (Ck _ _ c1),c2,q,_,rfl,.inr (bh.of (Ck _ _ c3)),rfl,eT _,?_⟩;show _/\_;rw[show inV (.int (j:Int)) (mr.map V.int)=decide ((j:Int)∈mr)from gC _ _];exact fin _ (by rw[<-hkk,Bool.eq_false_iff.mpr e];rfl)
   ·rintro σ ys G' ⟨v,rfl,rfl,Ck,hD⟩;refine⟨D,_,rfl,aT.of hD,_,rfl,?_⟩;have Yf:(((cA.take 8).map fun b=>decide (hAt (dM ps).held b=some b)||decide (b∈mr)).all id)=BG cl r (dM ps).held:=by unfold BG;rw[c4,all_map];rfl
    show if (((cA.take 8).map fun b=>decide (hAt (dM ps).held b=some b)||decide (b∈mr)).all id)=true then _ else _;rw[Yf];refine dF (fun e=>?_) (fun e=>?_)
    ·exact⟨by rw[if_pos e];rfl,Ck⟩
    ·exact⟨by rw[if_neg e];rfl,Ck⟩
  rintro σ' Px ⟨rfl,Ck⟩;have yH:=xF.trans Ck;refine⟨_,rfl,_,rfl,_,rfl,lr,l1,pp,ll,lfm,lc,ds,newF ds r ps,bO ds.length r ps.length,ds.map ji,cl,(ds.length:Nat),((ds.length+ps.length:Nat):Int),Kw r ps.length (dM ps).held,rfl,Yd.same Ck,hN9.same yH,(II hpp).same yH,yH _ _ hll,by rw[qu (by omega)];omega,yH _ _ X7,by rw[length_map];omega,hC9.same yH,hcl,by omega,by rw[qt _ _ (by omega)];omega,hG,?_,J7,hbad,fun _=>hwk,fun g Py s12 BD tP=>?_,fun g Py s12 BD tP=>?_⟩
  ·intro d hd;unfold newF at hd;have old:d∈ds.map (fq r ps.length)->GF ((ds.length+ps.length:Nat):Int) d:=fun hd=>by
    obtain⟨e,he,rfl⟩:=mem_map.mp hd;have:=(hG e he).led (r:=(r:Int)) (m:=(ps.length:Int)) (by omega)
    rwa [show((ds.length+ps.length:Nat):Int)=((ds.length:Nat):Int)+(ps.length:Int) by omega]
   rcases mem_append.mp hd with z | z
   ·rcases mem_append.mp z with y | y
    ·exact old (List.mem_of_mem_take y)
    ·rw[IZ hpc]at y;exact(hpc d y).gf _
   ·exact old (List.mem_of_mem_drop z)
  ·rw[hgood]at g;refine⟨_,rfl,rfl,_,rfl,cC ?_ ?_⟩
   ·rw[if_pos g];decide
   ·exact⟨_,_,_,_,_,_,_,_,_,_,m8,rfl,(yH.trans (s12.trans tP)) _ _ Nf,by omega⟩
  ·rw[hgood]at g;refine⟨_,rfl,rfl,_,rfl,cC ?_ ?_⟩
   ·rw[if_neg g];decide
   ·exact⟨_,_,_,_,_,_,_,_,_,_,m8,rfl,(yH.trans (s12.trans tP)) _ _ Nf,by omega⟩
end
set_option maxHeartbeats 8000000
theorem Fo{α:Type}{p:α->Prop}:∀x∈([]:List α),p x:=fun x h=>absurd h (by simp)
theorem cH{α:Type}{p:α->Prop}{a:α}{l:List α}(h:p a)(t:∀x∈l,p x):∀x∈a::l,p x:=fun x hx=>by
 rcases List.mem_cons.mp hx with rfl | hx
 ·exact h
 ·exact t x hx
theorem uo{K:Frag}{x q:Str}{st:Stmt}{f:Addr}{fd:fo}{a:Str}(F:cE K x q st f fd)(h:∀(kV doc pm:Value) (an:Option Addr) (Lq ct u:Value),bindArgs (fnOf x q (cW st) (cN st) (ao st) .none kV doc pm an Lq ct) ⟨[u],[]⟩=pure [(a,u)]):Binds K fd [a] []:=F.binds fun kV doc pm an Lq ct us hl=>match us,hl with | [u],_=>h kV doc pm an Lq ct u
theorem wz{K:Frag}{x q:Str}{st:Stmt}{f:Addr}{fd:fo}{a b:Str}(F:cE K x q st f fd)(h:∀(kV doc pm:Value) (an:Option Addr) (Lq ct u v:Value),bindArgs (fnOf x q (cW st) (cN st) (ao st) .none kV doc pm an Lq ct) ⟨[u,v],[]⟩=pure [(a,u),(b,v)]):Binds K fd [a,b] []:=F.binds fun kV doc pm an Lq ct us hl=>match us,hl with | [u,v],_=>h kV doc pm an Lq ct u v
theorem Jh{K:Frag}{x q:Str}{st:Stmt}{f:Addr}{fd:fo}{a b c:Str}(F:cE K x q st f fd)(h:∀(kV doc pm:Value) (an:Option Addr) (Lq ct u v y:Value),bindArgs (fnOf x q (cW st) (cN st) (ao st) .none kV doc pm an Lq ct) ⟨[u,v,y],[]⟩=pure [(a,u),(b,v),(c,y)]):Binds K fd [a,b,c] []:=F.binds fun kV doc pm an Lq ct us hl=>match us,hl with | [u,v,y],_=>h kV doc pm an Lq ct u v y
theorem Yg{K:Frag}{x q:Str}{st:Stmt}{f:Addr}{fd:fo}{a b c d:Str}(F:cE K x q st f fd)(h:∀(kV doc pm:Value) (an:Option Addr) (Lq ct u v y z:Value),bindArgs (fnOf x q (cW st) (cN st) (ao st) .none kV doc pm an Lq ct) ⟨[u,v,y,z],[]⟩=pure [(a,u),(b,v),(c,y),(d,z)]):Binds K fd [a,b,c,d] []:=F.binds fun kV doc pm an Lq ct us hl=>match us,hl with | [u,v,y,z],_=>h kV doc pm an Lq ct u v y z
theorem bd5{K:Frag}{x q:Str}{st:Stmt}{f:Addr}{fd:fo}{a b c d e:Str}(F:cE K x q st f fd)(h:∀(kV doc pm:Value) (an:Option Addr) (Lq ct u v y z t:Value),bindArgs (fnOf x q (cW st) (cN st) (ao st) .none kV doc pm an Lq ct) ⟨[u,v,y,z,t],[]⟩=pure [(a,u),(b,v),(c,y),(d,z),(e,t)]):Binds K fd [a,b,c,d,e] []:=F.binds fun kV doc pm an Lq ct us hl=>match us,hl with | [u,v,y,z,t],_=>h kV doc pm an Lq ct u v y z t
theorem all_mk{l:OpenLaw}{w:World}{K:Frag}{h:Heap}{mg:Str->Option Value}{fa f0 f1 f2 f3 f4 f5 f6 f7 f8 f9 f10 f11 f12 f13 f14 f15 f16 f17 f18 f19 f20 f21 f22 f23 f24 f25 f26 f27 f28 f29 f30 f31 f32 f33 f34 f35 f36 f37 f38 f39 f40 f41 f42 Yh:Addr}(X:K.In h)(G:h.Ns fm mg)(hfa:mg "law"=some (.ref fa))
  {Yi Tn:Option Addr} {Yj:Array (Option Value)} {Yk Tp Tq Tr NS Tt:Value} {fd0 fd1 fd2 fd3 fd4 fd5 fd6 fd7 fd8 fd9 Yl Ym Yn Yo Yp Yq Yr Ys Yt Yu Yv Yw Yx Yy Yz YB YC YD YF YG YH YJ YK YL YM YN YQ YR YS YT YV YW YZ:fo}
  (a0:nsIn K fm "goes_on"=some (some (.ref f0))) (F0:cE K "goes_on" "goes_on" Bb f0 fd0)
  (a1:nsIn K fm "targets_of"=some (some (.ref f1))) (F1:cE K "targets_of" "targets_of" tG f1 fd1)
  (a2:nsIn K fm "ways_of"=some (some (.ref f2))) (F2:cE K "ways_of" "ways_of" Bc f2 fd2)
  (a3:nsIn K fm "is_whole"=some (some (.ref f3))) (F3:cE K "is_whole" "is_whole" yc f3 fd3)
  (a4:nsIn K fm "is_number_of"=some (some (.ref f4))) (F4:cE K "is_number_of" "is_number_of" pP f4 fd4)
  (a5:nsIn K fm "has_far"=some (some (.ref f5))) (F5:cE K "has_far" "has_far" lS f5 fd5)
  (a6:nsIn K fm "far_of"=some (some (.ref f6))) (F6:cE K "far_of" "far_of" pQ f6 fd6)
  (a7:nsIn K fm "parts_of"=some (some (.ref f7))) (F7:cE K "parts_of" "parts_of" iC f7 fd7)
  (a8:nsIn K fm "asides_named"=some (some (.ref f8))) (F8:cE K "asides_named" "asides_named" gi f8 fd8)
  (a9:nsIn K fm "reads_of"=some (some (.ref f9))) (F9:cE K "reads_of" "reads_of" yd f9 fd9)
  (aa:nsIn K fm "writes_of"=some (some (.ref f10))) (ab:cE K "writes_of" "writes_of" vD f10 Yl)
  (ac:nsIn K fm "needs_at_once"=some (some (.ref f11))) (ad:cE K "needs_at_once" "needs_at_once" nA f11 Ym)
  (ae:nsIn K fm "ways_ahead"=some (some (.ref f12))) (af:cE K "ways_ahead" "ways_ahead" tH f12 Yn)
  (ag:nsIn K fm "is_claim"=some (some (.ref f13))) (ah:cE K "is_claim" "is_claim" ye f13 Yo)
  (ai:nsIn K fm "is_right"=some (some (.ref f14))) (aj:cE K "is_right" "is_right" yf f14 Yp)
  (ak:nsIn K fm "check_free"=some (some (.ref f15))) (al:cE K "check_free" "check_free" tI f15 Yq)
  (am:nsIn K fm "rows_ahead_of"=some (some (.ref f16))) (an:cE K "rows_ahead_of" "rows_ahead_of" nE f16 Yr)
  (ap:nsIn K fm "rows_that_need"=some (some (.ref f17))) (aq:cE K "rows_that_need" "rows_that_need" lT f17 Ys)
  (ar:nsIn K fm "free_boxes"=some (some (.ref f18))) (au:cE K "free_boxes" "free_boxes" tJ f18 Yt)
  (av:nsIn K fm "places_of"=some (some (.ref f19))) (aw:cE K "places_of" "places_of" i9 f19 Yu)
  (ax:nsIn K fm "next_rows"=some (some (.ref f20))) (ay:cE K "next_rows" "next_rows" ja f20 Yv)
  (az:nsIn K fm "walk_from"=some (some (.ref f21))) (aA:cE K "walk_from" "walk_from" jb f21 Yw)
  (aC:nsIn K fm "are_leads"=some (some (.ref f22))) (aE:cE K "are_leads" "are_leads" dH f22 Yx)
  (aF:nsIn K fm "can_stand_for"=some (some (.ref f23))) (aG:cE K "can_stand_for" "can_stand_for" fJ f23 Yy)
  (aH:nsIn K fm "are_forms"=some (some (.ref f24))) (aI:cE K "are_forms" "are_forms" dI f24 Yz)
  (aJ:nsIn K fm "are_free"=some (some (.ref f25))) (aK:cE K "are_free" "are_free" j4 f25 YB)
  (aM:nsIn K fm "may_be_put_in"=some (some (.ref f26))) (aN:cE K "may_be_put_in" "may_be_put_in" fO f26 YC)
  (aO:nsIn K fm "stands_well"=some (some (.ref f27))) (aP:cE K "stands_well" "stands_well" gP f27 YD)
  (aQ:nsIn K fm "ways_to_walk"=some (some (.ref f28))) (aR:cE K "ways_to_walk" "ways_to_walk" gj f28 YF)
  (aS:nsIn K fm "leads_well"=some (some (.ref f29))) (aT:cE K "leads_well" "leads_well" eI f29 YG)
  (aU:nsIn K fm "check_paper"=some (some (.ref f30))) (aX:cE K "check_paper" "check_paper" dY f30 YH)
  (aY:nsIn K fm "_law_cell_at"=some (some (.ref f31))) (aZ:cE K "_law_cell_at" "_law_cell_at" gQ f31 YJ)
  (ba:nsIn K fm "_law_stream"=some (some (.ref f32))) (bb:cE K "_law_stream" "_law_stream" iD f32 YK)
  (bc:nsIn K fm "_law_box"=some (some (.ref f33))) (bd:cE K "_law_box" "_law_box" lU f33 YL)
  (be:nsIn K fm "_law_row"=some (some (.ref f34))) (bf:cE K "_law_row" "_law_row" jD f34 YM)
  (bg:nsIn K fm "_law_rows"=some (some (.ref f35))) (bh:cE K "_law_rows" "_law_rows" iE f35 YN)
  (bi:nsIn K fm "_law_led"=some (some (.ref f36))) (bj:cE K "_law_led" "_law_led" jE f36 YQ)
  (bk:nsIn K fm "_law_far"=some (some (.ref f37))) (bl:cE K "_law_far" "_law_far" lV f37 YR)
  (bm:nsIn K fm "_law_put_in"=some (some (.ref f38))) (bn:cE K "_law_put_in" "_law_put_in" dn f38 YS)
  (bo:nsIn K fm "_law_said"=some (some (.ref f39))) (bp:cE K "_law_said" "_law_said" j5 f39 YT)
  (bq:nsIn K fm "_law_piece"=some (some (.ref f40))) (br:cE K "_law_piece" "_law_piece" fh f40 YV)
  (bs:nsIn K fm "_law_held"=some (some (.ref f41))) (bt:cE K "_law_held" "_law_held" iF f41 YW)
  (bu:nsIn K fm "_law_come"=some (some (.ref f42))) (bv:cE K "_law_come" "_law_come" j6 f42 YZ)
  (bw:nsIn K fm "law"=some (some (.ref Yh))) (bx:K.lookup Yh=some ⟨Yk,Yi,.func (fnOf "law" "law" (cW jc) (cN jc) (ao jc) .none Tp Tq Tr Tn NS Tt),Yj⟩) (bz:codeIn K NS "law"=true) (bA:keepIn K (.ref Yh)=true)
  {Y0:Addr} {Y1:Option Addr} {Y2:Array (Option Value)} {fj:Nat} {Y3 Y4 Y5 Y6 Y7 Y8 Y9:Tok} (bB:nsIn K fm "WRITING"=some (some (.ref Y0)))
  (bC:K.lookup Y0=some ⟨.type "tuple",Y1,.seq #[.str "set" Y3,.str "more" Y4,.str "copy" Y5,.str "add" Y6,.str "less" Y7,.str "load" Y8,.str "take" Y9] fj,Y2⟩)
  {Za:Addr} {Zb:Option Addr} {Zc:Array (Option Value)} {fk:Nat} {Zd Ze Zf:Tok} (bD:nsIn K fm "ENDS"=some (some (.ref Za)))
  (bE:K.lookup Za=some ⟨.type "tuple",Zb,.seq #[.str "stop" Zd,.str "back" Ze,.str "halt" Zf] fk,Zc⟩)
  {Zg:Addr} {Zh:Option Addr} {Zi:Array (Option Value)} {fl:Nat} {Zj Zk Zm Zn:Tok} (bF:nsIn K fm "NOT_GOING_ON"=some (some (.ref Zg)))
  (bG:K.lookup Zg=some ⟨.type "tuple",Zh,.seq #[.str "stop" Zj,.str "back" Zk,.str "halt" Zm,.str "jump" Zn] fl,Zi⟩)
  (bH:nsIn K fm "set"=some none)
  (bI:nsIn K fm "sorted"=some none)
  (bJ:nsIn K fm "list"=some none)
  (bK:nsIn K fm "int"=some none)
  (bL:nsIn K fm "bool"=some none)
  (bM:nsIn K fm "tuple"=some none)
  (bN:nsIn K fm "isinstance"=some none)
  (bO:nsIn K fm "min"=some none)
  (bP:nsIn K fm "range"=some none)
  (bR:nsIn K fm "len"=some none)
  (bS:nsIn K fm "all"=some none)
  (bT:nsIn K fm "enumerate"=some none)
  (bU:nsIn K fm "max"=some none)
  (bV:nsIn K fm "dict"=some none)
  (bW:nsIn K fm "zip"=some none)
  (bX:nsIn K fm "abs"=some none)
  (bY:nsIn K fm "str"=some none)
  {pB:Addr} {qw:Array DictEntry} {nB:Nat} (aB:nsIn K fm "READ_AT"=some (some (.ref pB))) (lB:K.lookup pB=some ⟨.type "dict",none,.dict qw nB,#[]⟩) (kB:KeysLit w.params qw.toList) (oB:(pB==sysModules)=false)
  {Zo:Addr} {Zq:Option Addr} {Zr:Array (Option Value)} {fn:Nat} {Tv:Tok} (bZ:nsIn K pB "more"=some (some (.ref Zo))) (ca:K.lookup Zo=some ⟨.type "tuple",Zq,.seq #[.int (1) Tv] fn,Zr⟩)
  {Zt:Addr} {Zu:Option Addr} {Zv:Array (Option Value)} {fp:Nat} {Tw:Tok} (cb:nsIn K pB "copy"=some (some (.ref Zt))) (cc:K.lookup Zt=some ⟨.type "tuple",Zu,.seq #[.int (2) Tw] fp,Zv⟩)
  {Zw:Addr} {Zx:Option Addr} {Zy:Array (Option Value)} {fq:Nat} {Tx Tz:Tok} (cd:nsIn K pB "add"=some (some (.ref Zw))) (ce:K.lookup Zw=some ⟨.type "tuple",Zx,.seq #[.int (1) Tx,.int (2) Tz] fq,Zy⟩)
  {Zz:Addr} {ZA:Option Addr} {ZC:Array (Option Value)} {fr:Nat} {TF TH:Tok} (cf:nsIn K pB "less"=some (some (.ref Zz))) (cg:K.lookup Zz=some ⟨.type "tuple",ZA,.seq #[.int (1) TF,.int (2) TH] fr,ZC⟩)
  {ZD:Addr} {ZE:Option Addr} {ZF:Array (Option Value)} {fs:Nat} {TJ:Tok} (ch:nsIn K pB "load"=some (some (.ref ZD))) (ci:K.lookup ZD=some ⟨.type "tuple",ZE,.seq #[.int (2) TJ] fs,ZF⟩)
  {ZG:Addr} {ZI:Option Addr} {ZJ:Array (Option Value)} {ft:Nat} {TK TL:Tok} (ck:nsIn K pB "keep"=some (some (.ref ZG))) (cl:K.lookup ZG=some ⟨.type "tuple",ZI,.seq #[.int (1) TK,.int (2) TL] ft,ZJ⟩)
  {ZK:Addr} {ZL:Option Addr} {ZM:Array (Option Value)} {fu:Nat} {TN:Tok} (cm:nsIn K pB "tell"=some (some (.ref ZK))) (cn:K.lookup ZK=some ⟨.type "tuple",ZL,.seq #[.int (1) TN] fu,ZM⟩)
  {ZO:Addr} {ZP:Option Addr} {ZQ:Array (Option Value)} {fv:Nat} {TQ:Tok} (co:nsIn K pB "see"=some (some (.ref ZO))) (cp:K.lookup ZO=some ⟨.type "tuple",ZP,.seq #[.int (1) TQ] fv,ZQ⟩)
  {ZR:Addr} {ZS:Option Addr} {ZU:Array (Option Value)} {fw:Nat} {TU:Tok} (cq:nsIn K pB "put"=some (some (.ref ZR))) (cr:K.lookup ZR=some ⟨.type "tuple",ZS,.seq #[.int (1) TU] fw,ZU⟩)
  {ZV:Addr} {ZW:Option Addr} {ZX:Array (Option Value)} {fx:Nat} {TV:Tok} (cs:nsIn K pB "zero"=some (some (.ref ZV))) (ct:K.lookup ZV=some ⟨.type "tuple",ZW,.seq #[.int (1) TV] fx,ZX⟩)
  {NT:Addr} {TX:Option Addr} {TY:Array (Option Value)} {ZY:Nat} {NU:Tok} (cu:nsIn K pB "below"=some (some (.ref NT))) (cv:K.lookup NT=some ⟨.type "tuple",TX,.seq #[.int (1) NU] ZY,TY⟩)
  {NV:Addr} {T2:Option Addr} {T4:Array (Option Value)} {Z0:Nat} {NW:Tok} (cw:nsIn K pB "table"=some (some (.ref NV))) (cx:K.lookup NV=some ⟨.type "tuple",T2,.seq #[.int (1) NW] Z0,T4⟩)
  (x0:nsIn K pB "stop"=some none)
  (x1:nsIn K pB "back"=some none)
  (x2:nsIn K pB "halt"=some none)
  (x3:nsIn K pB "set"=some none)
  (x4:nsIn K pB "take"=some none)
  (x5:nsIn K pB "jump"=some none)
  (x6:nsIn K pB "call"=some none)
  (x7:nsIn K pB "mark"=some none)
  {pD:Addr} {fy:Array DictEntry} {nD:Nat} (aD:nsIn K fm "BOUNDS"=some (some (.ref pD))) (lD:K.lookup pD=some ⟨.type "dict",none,.dict fy nD,#[]⟩) (kD:KeysLit w.params fy.toList) (oD:(pD==sysModules)=false)
  {Z1:Addr} {Z2:Option Addr} {Z3:Array (Option Value)} {fz:Nat} {T5 T7:Tok} (cy:nsIn K pD "box"=some (some (.ref Z1))) (cz:K.lookup Z1=some ⟨.type "tuple",Z2,.seq #[.int (0) T5,.int (7) T7] fz,Z3⟩)
  {dR:Addr} (cA:nsIn K fm "RowError"=some (some (.ref dR)))
  {Z4:Addr} {Z5:Option Addr} {Z6:Array (Option Value)} {fA:Nat} {Z7 Z8 Z9 aac aad aae aaf aag:Tok} (cB:nsIn K fm "ALL_BOXES"=some (some (.ref Z4))) (cC:K.lookup Z4=some ⟨.type "tuple",Z5,.seq #[.int 0 Z7,.int 1 Z8,.int 2 Z9,.int 3 aac,.int 4 aad,.int 5 aae,.int 6 aaf,.int 7 aag] fA,Z6⟩)
  {cP:Addr} {cj:Array DictEntry} {cT:Nat} (cD:nsIn K fm "PARTS"=some (some (.ref cP))) (cF:K.lookup cP=some ⟨.type "dict",none,.dict cj cT,#[]⟩) (cG:KeysLit w.params cj.toList) (cI:(cP==sysModules)=false)
  {uq:Addr} {Fp:Array (Option Value)} {Ji:Nat} (cJ:nsIn K cP "stop"=some (some (.ref uq))) (cK:K.lookup uq=some ⟨.type "tuple",none,.seq #[] Ji,Fp⟩)
  {ur:Addr} {Fq:Array (Option Value)} {Jj:Nat} (cL:nsIn K cP "back"=some (some (.ref ur))) (cM:K.lookup ur=some ⟨.type "tuple",none,.seq #[] Jj,Fq⟩)
  {uv:Addr} {Fs:Array (Option Value)} {Jk:Nat} {BI:Tok} (cO:nsIn K cP "halt"=some (some (.ref uv))) (cQ:K.lookup uv=some ⟨.type "tuple",none,.seq #[.str "number" BI] Jk,Fs⟩)
  {uw:Addr} {Ft:Array (Option Value)} {Jl:Nat} {BJ BK:Tok} (cR:nsIn K cP "set"=some (some (.ref uw))) (cS:K.lookup uw=some ⟨.type "tuple",none,.seq #[.str "box" BJ,.str "value" BK] Jl,Ft⟩)
  {uz:Addr} {Fu:Array (Option Value)} {Jm:Nat} {BL BM:Tok} (cU:nsIn K cP "more"=some (some (.ref uz))) (cV:K.lookup uz=some ⟨.type "tuple",none,.seq #[.str "box" BL,.str "value" BM] Jm,Fu⟩)
  {uD:Addr} {Fv:Array (Option Value)} {Jo:Nat} {BO BP:Tok} (cX:nsIn K cP "copy"=some (some (.ref uD))) (cY:K.lookup uD=some ⟨.type "tuple",none,.seq #[.str "box" BO,.str "box" BP] Jo,Fv⟩)
  {uE:Addr} {Fw:Array (Option Value)} {Jp:Nat} {BQ BR:Tok} (cZ:nsIn K cP "add"=some (some (.ref uE))) (da:K.lookup uE=some ⟨.type "tuple",none,.seq #[.str "box" BQ,.str "box" BR] Jp,Fw⟩)
  {uF:Addr} {Fx:Array (Option Value)} {Jq:Nat} {BU BV:Tok} (db:nsIn K cP "less"=some (some (.ref uF))) (dc:K.lookup uF=some ⟨.type "tuple",none,.seq #[.str "box" BU,.str "box" BV] Jq,Fx⟩)
  {uG:Addr} {Fy:Array (Option Value)} {Jr:Nat} {BW BX:Tok} (dd:nsIn K cP "load"=some (some (.ref uG))) (de:K.lookup uG=some ⟨.type "tuple",none,.seq #[.str "box" BW,.str "box" BX] Jr,Fy⟩)
  {uH:Addr} {Fz:Array (Option Value)} {Js:Nat} {BZ B1:Tok} (df:nsIn K cP "keep"=some (some (.ref uH))) (dg:K.lookup uH=some ⟨.type "tuple",none,.seq #[.str "box" BZ,.str "box" B1] Js,Fz⟩)
  {qx:Addr} {B2:Array (Option Value)} {FA:Nat} {yI:Tok} (dh:nsIn K cP "tell"=some (some (.ref qx))) (di:K.lookup qx=some ⟨.type "tuple",none,.seq #[.str "box" yI] FA,B2⟩)
  {qy:Addr} {B3:Array (Option Value)} {FC:Nat} {yJ yK:Tok} (dj:nsIn K cP "see"=some (some (.ref qy))) (dk:K.lookup qy=some ⟨.type "tuple",none,.seq #[.str "box" yJ,.str "number" yK] FC,B3⟩)
  {qz:Addr} {B4:Array (Option Value)} {FD:Nat} {yL yM:Tok} (dl:nsIn K cP "put"=some (some (.ref qz))) (dm:K.lookup qz=some ⟨.type "tuple",none,.seq #[.str "box" yL,.str "aside" yM] FD,B4⟩)
  {qA:Addr} {B5:Array (Option Value)} {FE:Nat} {yN yO:Tok} (dp:nsIn K cP "take"=some (some (.ref qA))) (dr:K.lookup qA=some ⟨.type "tuple",none,.seq #[.str "box" yN,.str "aside" yO] FE,B5⟩)
  {qB:Addr} {B6:Array (Option Value)} {FG:Nat} {yP yQ:Tok} (ds:nsIn K cP "jump"=some (some (.ref qB))) (dt:K.lookup qB=some ⟨.type "tuple",none,.seq #[.str "target" yP,.str "far" yQ] FG,B6⟩)
  {qC:Addr} {B7:Array (Option Value)} {FH:Nat} {yR yS yT:Tok} (du:nsIn K cP "zero"=some (some (.ref qC))) (dv:K.lookup qC=some ⟨.type "tuple",none,.seq #[.str "box" yR,.str "target" yS,.str "far" yT] FH,B7⟩)
  {qD:Addr} {B8:Array (Option Value)} {FI:Nat} {yU yV yW:Tok} (dw:nsIn K cP "below"=some (some (.ref qD))) (dx:K.lookup qD=some ⟨.type "tuple",none,.seq #[.str "box" yU,.str "target" yV,.str "far" yW] FI,B8⟩)
  {qE:Addr} {B9:Array (Option Value)} {FJ:Nat} {yX yZ:Tok} (dy:nsIn K cP "call"=some (some (.ref qE))) (dz:K.lookup qE=some ⟨.type "tuple",none,.seq #[.str "target" yX,.str "far" yZ] FJ,B9⟩)
  {qF:Addr} {Ca:Array (Option Value)} {FL:Nat} {y4 y6:Tok} (dA:nsIn K cP "mark"=some (some (.ref qF))) (dB:K.lookup qF=some ⟨.type "tuple",none,.seq #[.str "target" y4,.str "far" y6] FL,Ca⟩)
  {qG:Addr} {Cd:Array (Option Value)} {FN:Nat} {y8 y9:Tok} (dC:nsIn K cP "table"=some (some (.ref qG))) (dD:K.lookup qG=some ⟨.type "tuple",none,.seq #[.str "box" y8,.str "targets" y9] FN,Cd⟩)
  {lg:Tok} (dE:nsIn K fm "MOST_WALKED"=some (some (.int (2000) lg)))
  {iP:Addr} {rA:Option Addr} {rB:Array (Option Value)} {uI:Nat} {rC rD rE:Tok} (dF:nsIn K fm "NEEDED_KEYS"=some (some (.ref iP))) (dG:K.lookup iP=some ⟨.type "tuple",rA,.seq #[.str "leads" rC,.str "forms" rD,.str "free" rE] uI,rB⟩)
  {gu:Addr} {nK:Option Addr} {nM:Array (Option Value)} {qH:Nat} {nO nP nQ nR:Tok} (dJ:nsIn K fm "STAYING_PARTS"=some (some (.ref gu))) (dK:K.lookup gu=some ⟨.type "tuple",nK,.seq #[.str "box" nO,.str "aside" nP,.str "number" nQ,.str "value" nR] qH,nM⟩)
  {gw:Addr} {nU:Option Addr} {nV:Array (Option Value)} {qI:Nat} {nW nX nY nZ n9 og oh oi om oo mh mj:Tok} (dL:nsIn K fm "MAY_BE_PUT_IN"=some (some (.ref gw))) (dM:K.lookup gw=some ⟨.type "tuple",nU,.seq #[.str "set" nW,.str "more" nX,.str "copy" nY,.str "add" nZ,.str "less" n9,.str "put" og,.str "take" oh,.str "see" oi,.str "jump" om,.str "zero" oo,.str "below" mh,.str "halt" mj] qI,nV⟩)
  {ml:Addr} {za:Option Addr} {zc:Array (Option Value)} {Ce:Nat} {zf zg zh zi:Tok} (dN:nsIn K fm "SPOILING"=some (some (.ref ml))) (dO:K.lookup ml=some ⟨.type "tuple",za,.seq #[.str "set" zf,.str "more" zg,.str "add" zh,.str "less" zi] Ce,zc⟩)
  {aW:Addr} (dP:nsIn K fm "NoPaper"=some (some (.ref aW)))
  {eN:Addr} (dQ:nsIn K fm "TooMuch"=some (some (.ref eN)))
  {fB:ClassData} (yq:excIn K aW Qs "ValueError.__new__"=true) (dS:findIn K (.ref aW) "__getattribute__"=some (some (.builtin "BaseException.__getattribute__"))) (dT:findIn K (.ref aW) "__getattr__"=some none) (dU:findIn K (.ref aW) "__class__"=some (some (.builtin "object.__class__"))) (dV:PySem.W.specialIn K (.builtin "object.__class__") "__get__"=some (some (.builtin "getset_descriptor.__get__"))) (dW:PySem.W.takesIn K (.builtin "object.__class__")=some true) (dX:mroIn K aW (.type "object")=some true) (ea:mroIn K aW (.type "BaseException")=some true) (eb:clsIn K aW=some fB) (ec:exmOne K (.ref aW) (.ref aW)=some true) (ed:kitOne K (.ref aW) (.ref dR)=some true) (ee:kitOne K (.ref aW) (.ref eN)=some false)
  {dq:Addr} (ef:nsIn K fm "Branch"=some (some (.ref dq)))
  {Jt:Addr} {NX NY:Option Addr} {NZ:Array (Option Value)} {N0 N2 N3 N4 FO N5:Value} (eg:findIn K (.ref dq) "__init__"=some (some (.ref Jt))) (eh:isFn K (.ref Jt)=true) (ei:K.lookup Jt=some ⟨N0,NX,.func (fnOf "__init__" "Branch.__init__" (cW Pb) (cN Pb) (ao Pb) .none N2 N3 N4 NY FO N5),NZ⟩) (ej:codeIn K FO "Branch.__init__"=true) (ek:keepIn K (.ref Jt)=true)
  {Ju:Addr} {N6 N7:Option Addr} {N8:Array (Option Value)} {N9 Oa Ob Oc FP Od:Value} (el:findIn K (.ref dq) "forked"=some (some (.ref Ju))) (em:isFn K (.ref Ju)=true) (en:K.lookup Ju=some ⟨N9,N6,.func (fnOf "forked" "Branch.forked" (cW Pg) (cN Pg) (ao Pg) .none Oa Ob Oc N7 FP Od),N8⟩) (eo:codeIn K FP "Branch.forked"=true) (ep:keepIn K (.ref Ju)=true)
  {Jv:Addr} {Oe Og:Option Addr} {Oh:Array (Option Value)} {Oi Oj Ol Om FQ Oo:Value} (eq:findIn K (.ref dq) "pass_row"=some (some (.ref Jv))) (er:isFn K (.ref Jv)=true) (es:K.lookup Jv=some ⟨Oi,Oe,.func (fnOf "pass_row" "Branch.pass_row" (cW Ph) (cN Ph) (ao Ph) .none Oj Ol Om Og FQ Oo),Oh⟩) (et:codeIn K FQ "Branch.pass_row"=true) (eu:keepIn K (.ref Jv)=true)
  (ev:plainGet K dq Str.empty=true) (ew:hasDictIn K dq=true) (ex:plainOver K dq=true) (ey:findIn K (.ref dq) "__setattr__"=some (some (.builtin "object.__setattr__"))) (ez:makesIn K dq=true) (eA:keepIn K (.ref dq)=true)
  (eB:findIn K (.ref dq) "place"=some none)
  (eC:findIn K (.ref dq) "held"=some none)
  (eD:findIn K (.ref dq) "held_aside"=some none)
  (eE:findIn K (.ref dq) "gone"=some none)
  {gG:Addr} (eF:nsIn K fm "Walk"=some (some (.ref gG)))
  {Jw:Addr} {Oq Ot:Option Addr} {Ou:Array (Option Value)} {Ov Ow Ox Oy FT Oz:Value} (eG:findIn K (.ref gG) "__init__"=some (some (.ref Jw))) (eH:isFn K (.ref Jw)=true) (eJ:K.lookup Jw=some ⟨Ov,Oq,.func (fnOf "__init__" "Walk.__init__" (cW Pj) (cN Pj) (ao Pj) .none Ow Ox Oy Ot FT Oz),Ou⟩) (eK:codeIn K FT "Walk.__init__"=true) (eL:keepIn K (.ref Jw)=true)
  {Jx:Addr} {OB OD:Option Addr} {OG:Array (Option Value)} {OI OJ OL OM FU OO:Value} (eM:findIn K (.ref gG) "walk_row"=some (some (.ref Jx))) (eO:isFn K (.ref Jx)=true) (eP:K.lookup Jx=some ⟨OI,OB,.func (fnOf "walk_row" "Walk.walk_row" (cW Pk) (cN Pk) (ao Pk) .none OJ OL OM OD FU OO),OG⟩) (eQ:codeIn K FU "Walk.walk_row"=true) (eR:keepIn K (.ref Jx)=true)
  {Jy:Addr} {OQ OS:Option Addr} {OU:Array (Option Value)} {OV OW OX OY FV OZ:Value} (eS:findIn K (.ref gG) "follow"=some (some (.ref Jy))) (eT:isFn K (.ref Jy)=true) (eU:K.lookup Jy=some ⟨OV,OQ,.func (fnOf "follow" "Walk.follow" (cW J9) (cN J9) (ao J9) .none OW OX OY OS FV OZ),OU⟩) (eV:codeIn K FV "Walk.follow"=true) (eW:keepIn K (.ref Jy)=true)
  (eX:plainGet K gG Str.empty=true) (eY:hasDictIn K gG=true) (eZ:plainOver K gG=true) (fb:findIn K (.ref gG) "__setattr__"=some (some (.builtin "object.__setattr__"))) (fc:makesIn K gG=true) (fe:keepIn K (.ref gG)=true)
  (ff:findIn K (.ref gG) "walked"=some none)
  (fg:findIn K (.ref gG) "looped"=some none)
  (fi:findIn K (.ref gG) "ends"=some none)
  : ∃fd:fo,(∀(s:Shared) (v:Value),BindsTo s fd ⟨[v],[]⟩ [("_law_script",v)])/\∀base:Heap,K.In base->base.Ns fm mg->aL l.prog w K mg base bQ 10 fa fd ["_law_script"] (Al (K:=K)):=by
 have e:=hfa.symm.trans (mg_of X G bw);cases e;have b0:=uo (a :="row") F0 fun _ _ _ _ _ _ _=>rfl;have m0:=mg_of X G a0;have b1:=uo (a :="row") F1 fun _ _ _ _ _ _ _=>rfl;have m1:=mg_of X G a1;have b2:=wz (a :="rows") (b :="r") F2 fun _ _ _ _ _ _ _ _=>rfl;have m2:=mg_of X G a2;have b3:=uo (a :="thing") F3 fun _ _ _ _ _ _ _=>rfl;have m3:=mg_of X G a3;have b4:=wz (a :="kind") (b :="thing") F4 fun _ _ _ _ _ _ _ _=>rfl;have m4:=mg_of X G a4;have b5:=uo (a :="word") F5 fun _ _ _ _ _ _ _=>rfl;have m5:=mg_of X G a5;have b6:=uo (a :="row") F6 fun _ _ _ _ _ _ _=>rfl;have m6:=mg_of X G a6;have b7:=wz (a :="row") (b :="kinds") F7 fun _ _ _ _ _ _ _ _=>rfl;have m7:=mg_of X G a7;have b8:=uo (a :="rows") F8 fun _ _ _ _ _ _ _=>rfl;have m8:=mg_of X G a8;have b9:=uo (a :="row") F9 fun _ _ _ _ _ _ _=>rfl;have m9:=mg_of X G a9;have b10:=uo (a :="row") ab fun _ _ _ _ _ _ _=>rfl;have m10:=mg_of X G aa;have b11:=wz (a :="row") (b :="box") ad fun _ _ _ _ _ _ _ _=>rfl;have Xx:=mg_of X G ac;have b12:=wz (a :="rows") (b :="r") af fun _ _ _ _ _ _ _ _=>rfl;have XA:=mg_of X G ae;have b13:=uo (a :="thing") ah fun _ _ _ _ _ _ _=>rfl;have XD:=mg_of X G ag;have b14:=Yg (a :="rows") (b :="claims") (c :="r") (d :="box") aj fun _ _ _ _ _ _ _ _ _ _=>rfl;have m14:=mg_of X G ai;have b15:=wz (a :="rows") (b :="claims") al fun _ _ _ _ _ _ _ _=>rfl;have m15:=mg_of X G ak;have b16:=uo (a :="rows") an fun _ _ _ _ _ _ _=>rfl;have m16:=mg_of X G am;have b17:=Jh (a :="rows") (b :="ahead") (c :="box") aq fun _ _ _ _ _ _ _ _ _=>rfl;have m17:=mg_of X G ap;have b18:=uo (a :="rows") au fun _ _ _ _ _ _ _=>rfl;have m18:=mg_of X G ar;have b19:=uo (a :="leads") aw fun _ _ _ _ _ _ _=>rfl;have m19:=mg_of X G av;have b20:=wz (a :="new") (b :="n") ay fun _ _ _ _ _ _ _ _=>rfl;have m20:=mg_of X G ax;have b21:=Jh (a :="new") (b :="leads") (c :="start") aA fun _ _ _ _ _ _ _ _ _=>rfl;have UU:=mg_of X G az;have b22:=Jh (a :="leads") (b :="how_many_old") (c :="how_many_new") aE fun _ _ _ _ _ _ _ _ _=>rfl;have m22:=mg_of X G aC;have b23:=wz (a :="row") (b :="old_row") aG fun _ _ _ _ _ _ _ _=>rfl;have m23:=mg_of X G aF;have b24:=wz (a :="forms") (b :="old") aI fun _ _ _ _ _ _ _ _=>rfl;have m24:=mg_of X G aH;have b25:=wz (a :="old") (b :="claims") aK fun _ _ _ _ _ _ _ _=>rfl;have m25:=mg_of X G aJ;have b26:=wz (a :="row") (b :="named") aN fun _ _ _ _ _ _ _ _=>rfl;have m26:=mg_of X G aM;have b27:=Jh (a :="old") (b :="new") (c :="paper") aP fun _ _ _ _ _ _ _ _ _=>rfl;have m27:=mg_of X G aO;have b28:=Jh (a :="old") (b :="new") (c :="leads") aR fun _ _ _ _ _ _ _ _ _=>rfl;have m28:=mg_of X G aQ;have b29:=Jh (a :="walk") (b :="right") (c :="claims") aT fun _ _ _ _ _ _ _ _ _=>rfl;have m29:=mg_of X G aS;have b30:=Jh (a :="old") (b :="new") (c :="paper") aX fun _ _ _ _ _ _ _ _ _=>rfl;have m30:=mg_of X G aU;have b31:=wz (a :="_law_script") (b :="_law_k") aZ fun _ _ _ _ _ _ _ _=>rfl;have m31:=mg_of X G aY;have b32:=wz (a :="_law_cell") (b :="_law_size") bb fun _ _ _ _ _ _ _ _=>rfl;have m32:=mg_of X G ba;have b33:=uo (a :="_law_xs") bd fun _ _ _ _ _ _ _=>rfl
 have m33:=mg_of X G bc;have b34:=wz (a :="_law_xs") (b :="_law_n") bf fun _ _ _ _ _ _ _ _=>rfl;have m34:=mg_of X G be;have b35:=wz (a :="_law_xs") (b :="_law_most") bh fun _ _ _ _ _ _ _ _=>rfl;have m35:=mg_of X G bg;have b36:=Jh (a :="_law_row_here") (b :="_law_r") (c :="_law_many") bj fun _ _ _ _ _ _ _ _ _=>rfl;have m36:=mg_of X G bi;have b37:=uo (a :="_law_row_here") bl fun _ _ _ _ _ _ _=>rfl;have m37:=mg_of X G bk;have b38:=Yg (a :="_law_rows_here") (b :="_law_r") (c :="_law_piece_here") (d :="_law_free") bn fun _ _ _ _ _ _ _ _ _ _=>rfl;have m38:=mg_of X G bm;have b39:=Jh (a :="_law_old") (b :="_law_new") (c :="_law_paper") bp fun _ _ _ _ _ _ _ _ _=>rfl;have m39:=mg_of X G bo;have b40:=uo (a :="_law_xs") br fun _ _ _ _ _ _ _=>rfl;have m40:=mg_of X G bq;have b41:=uo (a :="_law_piece_here") bt fun _ _ _ _ _ _ _=>rfl;have m41:=mg_of X G bs;have b42:=uo (a :="_law_rows_here") bv fun _ _ _ _ _ _ _=>rfl;have m42:=mg_of X G bu;have F43:=aV (st:=jc) bx bz bA
 have T:Txt K w.params mg:=⟨⟨pB,mg_of X G aB,⟨qw,nB,lB⟩,cH ⟨Zo,⟨qw,nB,lB,kB,oB,_,bZ,rfl⟩,fun H=>.inr ⟨_,_,_,ca,rfl,rfl,lR,.cons ⟨_,rfl⟩ (.nil)⟩⟩
   (cH ⟨Zt,⟨qw,nB,lB,kB,oB,_,cb,rfl⟩,fun H=>.inr ⟨_,_,_,cc,rfl,rfl,lR,.cons ⟨_,rfl⟩ (.nil)⟩⟩
   (cH ⟨Zw,⟨qw,nB,lB,kB,oB,_,cd,rfl⟩,fun H=>.inr ⟨_,_,_,ce,rfl,rfl,iB,.cons ⟨_,rfl⟩ (.cons ⟨_,rfl⟩ (.nil))⟩⟩
   (cH ⟨Zz,⟨qw,nB,lB,kB,oB,_,cf,rfl⟩,fun H=>.inr ⟨_,_,_,cg,rfl,rfl,iB,.cons ⟨_,rfl⟩ (.cons ⟨_,rfl⟩ (.nil))⟩⟩
   (cH ⟨ZD,⟨qw,nB,lB,kB,oB,_,ch,rfl⟩,fun H=>.inr ⟨_,_,_,ci,rfl,rfl,lR,.cons ⟨_,rfl⟩ (.nil)⟩⟩
   (cH ⟨ZG,⟨qw,nB,lB,kB,oB,_,ck,rfl⟩,fun H=>.inr ⟨_,_,_,cl,rfl,rfl,iB,.cons ⟨_,rfl⟩ (.cons ⟨_,rfl⟩ (.nil))⟩⟩
   (cH ⟨ZK,⟨qw,nB,lB,kB,oB,_,cm,rfl⟩,fun H=>.inr ⟨_,_,_,cn,rfl,rfl,lR,.cons ⟨_,rfl⟩ (.nil)⟩⟩
   (cH ⟨ZO,⟨qw,nB,lB,kB,oB,_,co,rfl⟩,fun H=>.inr ⟨_,_,_,cp,rfl,rfl,lR,.cons ⟨_,rfl⟩ (.nil)⟩⟩
   (cH ⟨ZR,⟨qw,nB,lB,kB,oB,_,cq,rfl⟩,fun H=>.inr ⟨_,_,_,cr,rfl,rfl,lR,.cons ⟨_,rfl⟩ (.nil)⟩⟩
   (cH ⟨ZV,⟨qw,nB,lB,kB,oB,_,cs,rfl⟩,fun H=>.inr ⟨_,_,_,ct,rfl,rfl,lR,.cons ⟨_,rfl⟩ (.nil)⟩⟩
   (cH ⟨NT,⟨qw,nB,lB,kB,oB,_,cu,rfl⟩,fun H=>.inr ⟨_,_,_,cv,rfl,rfl,lR,.cons ⟨_,rfl⟩ (.nil)⟩⟩
   (cH ⟨NV,⟨qw,nB,lB,kB,oB,_,cw,rfl⟩,fun H=>.inr ⟨_,_,_,cx,rfl,rfl,lR,.cons ⟨_,rfl⟩ (.nil)⟩⟩
   (Fo)))))))))))),
    cH ⟨qw,nB,lB,kB,oB,none,x0,trivial⟩
   (cH ⟨qw,nB,lB,kB,oB,none,x1,trivial⟩
   (cH ⟨qw,nB,lB,kB,oB,none,x2,trivial⟩
   (cH ⟨qw,nB,lB,kB,oB,none,x3,trivial⟩
   (cH ⟨qw,nB,lB,kB,oB,none,x4,trivial⟩
   (cH ⟨qw,nB,lB,kB,oB,none,x5,trivial⟩
   (cH ⟨qw,nB,lB,kB,oB,none,x6,trivial⟩
   (cH ⟨qw,nB,lB,kB,oB,none,x7,trivial⟩
   (Fo))))))))⟩,
  ⟨Y0,mg_of X G bB,fun H=>.inr ⟨_,_,_,bC,rfl,rfl,VP,.cons ⟨_,rfl⟩ (.cons ⟨_,rfl⟩ (.cons ⟨_,rfl⟩ (.cons ⟨_,rfl⟩ (.cons ⟨_,rfl⟩ (.cons ⟨_,rfl⟩ (.cons ⟨_,rfl⟩ (.nil)))))))⟩⟩,⟨Za,mg_of X G bD,fun H=>.inr ⟨_,_,_,bE,rfl,rfl,DN,.cons ⟨_,rfl⟩ (.cons ⟨_,rfl⟩ (.cons ⟨_,rfl⟩ (.nil)))⟩⟩,⟨Zg,mg_of X G bF,fun H=>.inr ⟨_,_,_,bG,rfl,rfl,LW,.cons ⟨_,rfl⟩ (.cons ⟨_,rfl⟩ (.cons ⟨_,rfl⟩ (.cons ⟨_,rfl⟩ (.nil))))⟩⟩,⟨Z4,mg_of X G cB,fun H=>.inr ⟨_,_,_,cC,rfl,rfl,VQ,.cons ⟨_,rfl⟩ (.cons ⟨_,rfl⟩ (.cons ⟨_,rfl⟩ (.cons ⟨_,rfl⟩ (.cons ⟨_,rfl⟩ (.cons ⟨_,rfl⟩ (.cons ⟨_,rfl⟩ (.cons ⟨_,rfl⟩ (.nil))))))))⟩⟩,
  ⟨pD,mg_of X G aD,Z1,⟨fy,nD,lD,kD,oD,_,cy,rfl⟩,fun H=>.inr ⟨_,_,_,cz,rfl,rfl,iB,.cons ⟨_,rfl⟩ (.cons ⟨_,rfl⟩ (.nil))⟩⟩,mg_none_of X G bH,mg_none_of X G bI,mg_none_of X G bJ,mg_none_of X G bK,mg_none_of X G bL,mg_none_of X G bM,mg_none_of X G bN,mg_none_of X G bO,mg_none_of X G bP,mg_none_of X G bR,mg_none_of X G bS,mg_none_of X G bT,mg_none_of X G bU,
  ⟨cP,mg_of X G cD,⟨cj,cT,cF,cG,cI⟩,⟨uq,⟨cj,cT,cF,cG,cI,_,cJ,rfl⟩,fun H=>.inr ⟨_,_,_,cK,rfl,rfl,LV,.nil⟩⟩,
   ⟨ur,⟨cj,cT,cF,cG,cI,_,cL,rfl⟩,fun H=>.inr ⟨_,_,_,cM,rfl,rfl,LV,.nil⟩⟩,
   ⟨uv,⟨cj,cT,cF,cG,cI,_,cO,rfl⟩,fun H=>.inr ⟨_,_,_,cQ,rfl,rfl,lR,.cons ⟨_,rfl⟩ (.nil)⟩⟩,
   ⟨uw,⟨cj,cT,cF,cG,cI,_,cR,rfl⟩,fun H=>.inr ⟨_,_,_,cS,rfl,rfl,iB,.cons ⟨_,rfl⟩ (.cons ⟨_,rfl⟩ (.nil))⟩⟩,
   ⟨uz,⟨cj,cT,cF,cG,cI,_,cU,rfl⟩,fun H=>.inr ⟨_,_,_,cV,rfl,rfl,iB,.cons ⟨_,rfl⟩ (.cons ⟨_,rfl⟩ (.nil))⟩⟩,
   ⟨uD,⟨cj,cT,cF,cG,cI,_,cX,rfl⟩,fun H=>.inr ⟨_,_,_,cY,rfl,rfl,iB,.cons ⟨_,rfl⟩ (.cons ⟨_,rfl⟩ (.nil))⟩⟩,
   ⟨uE,⟨cj,cT,cF,cG,cI,_,cZ,rfl⟩,fun H=>.inr ⟨_,_,_,da,rfl,rfl,iB,.cons ⟨_,rfl⟩ (.cons ⟨_,rfl⟩ (.nil))⟩⟩,
   ⟨uF,⟨cj,cT,cF,cG,cI,_,db,rfl⟩,fun H=>.inr ⟨_,_,_,dc,rfl,rfl,iB,.cons ⟨_,rfl⟩ (.cons ⟨_,rfl⟩ (.nil))⟩⟩,
   ⟨uG,⟨cj,cT,cF,cG,cI,_,dd,rfl⟩,fun H=>.inr ⟨_,_,_,de,rfl,rfl,iB,.cons ⟨_,rfl⟩ (.cons ⟨_,rfl⟩ (.nil))⟩⟩,
   ⟨uH,⟨cj,cT,cF,cG,cI,_,df,rfl⟩,fun H=>.inr ⟨_,_,_,dg,rfl,rfl,iB,.cons ⟨_,rfl⟩ (.cons ⟨_,rfl⟩ (.nil))⟩⟩,
   ⟨qx,⟨cj,cT,cF,cG,cI,_,dh,rfl⟩,fun H=>.inr ⟨_,_,_,di,rfl,rfl,lR,.cons ⟨_,rfl⟩ (.nil)⟩⟩,
   ⟨qy,⟨cj,cT,cF,cG,cI,_,dj,rfl⟩,fun H=>.inr ⟨_,_,_,dk,rfl,rfl,iB,.cons ⟨_,rfl⟩ (.cons ⟨_,rfl⟩ (.nil))⟩⟩,
   ⟨qz,⟨cj,cT,cF,cG,cI,_,dl,rfl⟩,fun H=>.inr ⟨_,_,_,dm,rfl,rfl,iB,.cons ⟨_,rfl⟩ (.cons ⟨_,rfl⟩ (.nil))⟩⟩,
   ⟨qA,⟨cj,cT,cF,cG,cI,_,dp,rfl⟩,fun H=>.inr ⟨_,_,_,dr,rfl,rfl,iB,.cons ⟨_,rfl⟩ (.cons ⟨_,rfl⟩ (.nil))⟩⟩,
   ⟨qB,⟨cj,cT,cF,cG,cI,_,ds,rfl⟩,fun H=>.inr ⟨_,_,_,dt,rfl,rfl,iB,.cons ⟨_,rfl⟩ (.cons ⟨_,rfl⟩ (.nil))⟩⟩,
   ⟨qC,⟨cj,cT,cF,cG,cI,_,du,rfl⟩,fun H=>.inr ⟨_,_,_,dv,rfl,rfl,DN,.cons ⟨_,rfl⟩ (.cons ⟨_,rfl⟩ (.cons ⟨_,rfl⟩ (.nil)))⟩⟩,
   ⟨qD,⟨cj,cT,cF,cG,cI,_,dw,rfl⟩,fun H=>.inr ⟨_,_,_,dx,rfl,rfl,DN,.cons ⟨_,rfl⟩ (.cons ⟨_,rfl⟩ (.cons ⟨_,rfl⟩ (.nil)))⟩⟩,
   ⟨qE,⟨cj,cT,cF,cG,cI,_,dy,rfl⟩,fun H=>.inr ⟨_,_,_,dz,rfl,rfl,iB,.cons ⟨_,rfl⟩ (.cons ⟨_,rfl⟩ (.nil))⟩⟩,
   ⟨qF,⟨cj,cT,cF,cG,cI,_,dA,rfl⟩,fun H=>.inr ⟨_,_,_,dB,rfl,rfl,iB,.cons ⟨_,rfl⟩ (.cons ⟨_,rfl⟩ (.nil))⟩⟩,
   ⟨qG,⟨cj,cT,cF,cG,cI,_,dC,rfl⟩,fun H=>.inr ⟨_,_,_,dD,rfl,rfl,iB,.cons ⟨_,rfl⟩ (.cons ⟨_,rfl⟩ (.nil))⟩⟩⟩,
  ⟨lg,mg_of X G dE⟩,
  ⟨iP,mg_of X G dF,fun H=>.inr ⟨_,_,_,dG,rfl,rfl,DN,.cons ⟨_,rfl⟩ (.cons ⟨_,rfl⟩ (.cons ⟨_,rfl⟩ (.nil)))⟩⟩,
  ⟨gu,mg_of X G dJ,fun H=>.inr ⟨_,_,_,dK,rfl,rfl,LW,.cons ⟨_,rfl⟩ (.cons ⟨_,rfl⟩ (.cons ⟨_,rfl⟩ (.cons ⟨_,rfl⟩ (.nil))))⟩⟩,
  ⟨gw,mg_of X G dL,fun H=>.inr ⟨_,_,_,dM,rfl,rfl,QH,.cons ⟨_,rfl⟩ (.cons ⟨_,rfl⟩ (.cons ⟨_,rfl⟩ (.cons ⟨_,rfl⟩ (.cons ⟨_,rfl⟩ (.cons ⟨_,rfl⟩ (.cons ⟨_,rfl⟩ (.cons ⟨_,rfl⟩ (.cons ⟨_,rfl⟩ (.cons ⟨_,rfl⟩ (.cons ⟨_,rfl⟩ (.cons ⟨_,rfl⟩ (.nil))))))))))))⟩⟩,
  ⟨ml,mg_of X G dN,fun H=>.inr ⟨_,_,_,dO,rfl,rfl,LW,.cons ⟨_,rfl⟩ (.cons ⟨_,rfl⟩ (.cons ⟨_,rfl⟩ (.cons ⟨_,rfl⟩ (.nil))))⟩⟩,
  mg_none_of X G bV,
  mg_none_of X G bW,
  mg_none_of X G bX,
  mg_none_of X G bY⟩
 refine⟨fnOf "law" "law" (cW jc) (cN jc) (ao jc) .none Tp Tq Tr Tn NS Tt,fun s v=>.of_eq rfl,fun base _ _=>?_⟩;have YX:YP K mg aW dR eN:=⟨mg_of X G dP,mg_of X G cA,mg_of X G dQ,⟨dS,dT,dU,dV,dW,dX,ea,by rw[eb];rfl⟩,ec,ed,ee⟩;have Kx:=aV (st:=Pb) ei ej ek;have Ky:=bd5 (a :="self") (b :="place") (c :="held") (d :="held_aside") (e :="gone") Kx fun _ _ _ _ _ _ _ _ _ _ _=>rfl;have Kz:=aV (st:=Pg) en eo ep;have T8:=wz (a :="self") (b :="place") Kz fun _ _ _ _ _ _ _ _=>rfl;have KA:=aV (st:=Ph) es et eu;have T9:=wz (a :="self") (b :="row") KA fun _ _ _ _ _ _ _ _=>rfl;have lh:BT K dq:=⟨⟨ev,ew,ex,ey⟩,eB,eC,eD,eE⟩;have KC:=aV (st:=Pj) eJ eK eL;have Ua:=uo (a :="self") KC fun _ _ _ _ _ _ _=>rfl;have KD:=aV (st:=Pk) eP eQ eR;have Ub:=uo (a :="self") KD fun _ _ _ _ _ _ _=>rfl;have KG:=aV (st:=J9) eU eV eW;have Uc:=Yg (a :="self") (b :="new") (c :="leads") (d :="branch") KG fun _ _ _ _ _ _ _ _ _ _=>rfl;have wA:WT K gG:=⟨⟨eX,eY,eZ,fb⟩,ff,fg,fi⟩;have lj:=Bf (P:=l.prog) (w:=w) (base:=base) ab T;have wB:=DU (P:=l.prog) (w:=w) (base:=base) F9 T;have kc:=HK (P:=l.prog) (w:=w) (base:=base) F0 T;have dZ:=yj (P:=l.prog) (w:=w) (base:=base) F1 T;have qJ:=HL (P:=l.prog) (w:=w) (base:=base) F2 T kc F0.kp b0 m0 dZ F1.kp b1 m1;have jq:=DV (P:=l.prog) (w:=w) (base:=base) F3 T;have oq:=LZ (P:=l.prog) (w:=w) (base:=base) F4 T jq F3.kp b3 m3;have wC:=DW (P:=l.prog) (w:=w) (base:=base) ah T oq F4.kp b4 m4;have ig:=DY (P:=l.prog) (w:=w) (base:=base) ad T wB F9.kp b9 m9;have jQ:=D0 (P:=l.prog) (w:=w) (base:=base) af T dZ F1.kp b1 m1 qJ F2.kp b2 m2;have wD:=D4 (P:=l.prog) (w:=w) (base:=base) aj T ig ad.kp b11 Xx lj ab.kp b10 m10 jQ af.kp b12 XA;have jR:=HR (P:=l.prog) (w:=w) (base:=base) al T wC ah.kp b13 XD wD aj.kp b14 m14;have mn:=Bp (P:=l.prog) (w:=w) (base:=base) an T jQ af.kp b12 XA;have lq:=Ef (P:=l.prog) (w:=w) (base:=base) aq T ig ad.kp b11 Xx lj ab.kp b10 m10;have rF:=HY (P:=l.prog) (w:=w) (base:=base) au T mn an.kp b16 m16 lq aq.kp b17 m17;have zj:=yt (P:=l.prog) (w:=w) (base:=base) F5 T;have Cg:=Bv (P:=l.prog) (w:=w) (base:=base) F6 T zj F5.kp b5 m5;have nj:=vN (P:=l.prog) (w:=w) (base:=base) F7 T;have ot:=nI (P:=l.prog) (w:=w) (base:=base) F8 T nj F7.kp b7 m7;have uJ:=tT (P:=l.prog) (w:=w) (base:=base) aw T;have uK:=tU (P:=l.prog) (w:=w) (base:=base) ay T dZ F1.kp b1 m1 kc F0.kp b0 m0;have mq:=lX (P:=l.prog) (w:=w) (base:=base) aN T;have mw:=lY (P:=l.prog) (w:=w) (base:=base) aG T dZ F1.kp b1 m1 nj F7.kp b7 m7;have uL:=tW (P:=l.prog) (w:=w) (base:=base) aI T jq F3.kp b3 m3 Cg F6.kp b6 m6;have uM:=tX (P:=l.prog) (w:=w) (base:=base) aE T jq F3.kp b3 m3;have wF:=vP (P:=l.prog) (w:=w) (base:=base) aK T jR al.kp b15 m15;have qK:=qd (P:=l.prog) (w:=w) (base:=base) aP T uM aE.kp b22 m22 uL aI.kp b24 m24 ot F8.kp b8 m8 mq aN.kp b26 m26 mw aG.kp b23 m23 wF aK.kp b25 m25;have FW:=Ru (P:=l.prog) (w:=w) (base:=base) Kx T lh;have O0:=Rw (P:=l.prog) (w:=w) (base:=base) Kz T lh ⟨ez,eg,eh,eA⟩ FW Ky (mg_of X G ef);have O1:=RA (P:=l.prog) (w:=w) (base:=base) KC T wA;have O2:=RD (P:=l.prog) (w:=w) (base:=base) KD T wA
 have O3:=RF (P:=l.prog) (w:=w) (base:=base) KA T lh;have O4:=RI (P:=l.prog) (w:=w) (base:=base) KG T uK ay.kp b20 m20 wA lh ⟨eM,eO,eR⟩ O2 Ub ⟨eq,er,eu⟩ O3 T9 ⟨el,em,ep⟩ O0 T8;have uN:=ua (P:=l.prog) (w:=w) (base:=base) aA T wA lh ⟨fc,eG,eH,fe⟩ O1 Ua (mg_of X G eF) ⟨ez,eg,eh,eA⟩ FW Ky (mg_of X G ef) ⟨eS,eT,eW⟩ O4 Uc;have ou:=nJ (P:=l.prog) (w:=w) (base:=base) aR T uJ aw.kp b19 m19 kc F0.kp b0 m0 dZ F1.kp b1 m1;have rG:=rc (P:=l.prog) (w:=w) (base:=base) aT T wA;have qL:=qh (P:=l.prog) (w:=w) (base:=base) aX T qK aP.kp b27 m27 ou aR.kp b28 m28 uN aA.kp b21 UU rG aT.kp b29 m29 ⟨yq⟩ YX.wq;have ow:=qj (P:=l.prog) (w:=w) (base:=base) aZ T;have qM:=rh (P:=l.prog) (w:=w) (base:=base) bb T;have wG:=yA (P:=l.prog) (w:=w) (base:=base) bd T;have wH:=yB (P:=l.prog) (w:=w) (base:=base) bf T wG bd.kp b33 m33;have uO:=vY (P:=l.prog) (w:=w) (base:=base) bh T wH bf.kp b34 m34;have wI:=yD (P:=l.prog) (w:=w) (base:=base) bj T;have wJ:=yE (P:=l.prog) (w:=w) (base:=base) bl T;have uP:=wa (P:=l.prog) (w:=w) (base:=base) bv T qJ F2.kp b2 m2;have rH:=uk (P:=l.prog) (w:=w) (base:=base) br T;have uQ:=wc (P:=l.prog) (w:=w) (base:=base) bt T;have qN:=rn (P:=l.prog) (w:=w) (base:=base) bn T wI bj.kp b36 m36 wJ bl.kp b37 m37;have uR:=wt (P:=l.prog) (w:=w) (base:=base) bp T qL aX.kp b30 m30 YX;exact NR F43 T qM bb.kp b32 m32 ow aZ.kp b31 m31 uO bh.kp b35 m35 rF au.kp b18 m18 uP bv.kp b42 m42 rH br.kp b40 m40 qN bn.kp b38 m38 uQ bt.kp b41 m41 uR bp.kp b39 m39 jR al.kp b15 m15
theorem walk{l:OpenLaw}{q:Program}{loose:List Str}{XP:(Str->Option Value)->Heap->Prop}{YP:World->Heap->Prop}{d:DefRec}{K:Params->Frag}(hn:l.most=some 63)(hdf:d.params.defaults=[])
  (hY:∀(w:World) (h:Heap),YP w h->(K w.params).In h)
  (F:∀(w:World) (mg:Str->Option Value) (fa:Addr) (h:Heap),(K w.params).In h->h.Ns fm mg->mg d.name=some (.ref fa)->
   ∃fd:fo,(∀(s:Shared) (u:Value),BindsTo s fd ⟨[u],[]⟩ [("_law_script",u)])/\∀base:Heap,(K w.params).In base->base.Ns fm mg->aL l.prog w (K w.params) mg base bQ 10 fa fd ["_law_script"] (Al (K:=K w.params))):
  WalkO q loose XP YP l.row.toRowW d [] (fun f vs=>PySem.call f vs):=
 L2.ko (n:=63) (k:=10) (x :="_law_script") (CX:=fun _=>bQ) (sp:=fun w=>Al (K:=K w.params)) hn (by decide) hdf ⟨rfl,by decide,by decide⟩ hY F (fun _ _ a ns hl _ hS=>⟨a,ns,rfl,hS,hl,fun _=>rfl⟩) fun _ _ _ _ _ z=>z
end My
open PySem PySem.W PyProof.Rows
set_option maxRecDepth 100000 in
set_option maxHeartbeats 0 in
theorem PySem.Challenge.cw_widenrows_k63_what_boxes_hold_holds : PySem.Challenge.rw_widenrows_k63_what_boxes_hold.Holds := by
 w_on; o_law; k_head; (case hw=>w_witness2)
 k_fill
 refine My.walk (l:=PySem.Challenge.rw_widenrows_k63_what_boxes_hold) rfl rfl (fun w h Y=>kIn_of Y) ?F
 case F =>
  intro w mg fa h KX G hmg
  refine' My.all_mk KX G hmg ?a0 ?F0 ?a1 ?F1 ?a2 ?F2 ?a3 ?F3 ?a4 ?F4 ?a5 ?F5 ?a6 ?F6 ?a7 ?F7 ?a8 ?F8 ?a9 ?F9 ?aa ?ab ?ac ?ad ?ae ?af ?ag ?ah ?ai ?aj ?ak ?al ?am ?an ?ap ?aq ?ar ?au ?av ?aw ?ax ?ay ?az ?aA ?aC ?aE ?aF ?aG ?aH ?aI ?aJ ?aK ?aM ?aN ?aO ?aP ?aQ ?aR ?aS ?aT ?aU ?aX ?aY ?aZ ?ba ?bb ?bc ?bd ?be ?bf ?bg ?bh ?bi ?bj ?bk ?bl ?bm ?bn ?bo ?bp ?bq ?br ?bs ?bt ?bu ?bv ?bw ?bx ?bz ?bA ?bB ?bC ?bD ?bE ?bF ?bG ?bH ?bI ?bJ ?bK ?bL ?bM ?bN ?bO ?bP ?bR ?bS ?bT ?bU ?bV ?bW ?bX ?bY ?aB ?lB ?kB ?oB ?bZ ?ca ?cb ?cc ?cd ?ce ?cf ?cg ?ch ?ci ?ck ?cl ?cm ?cn ?co ?cp ?cq ?cr ?cs ?ct ?cu ?cv ?cw ?cx ?x0 ?x1 ?x2 ?x3 ?x4 ?x5 ?x6 ?x7 ?aD ?lD ?kD ?oD ?cy ?cz ?cA ?cB ?cC ?cD ?cF ?cG ?cI ?cJ ?cK ?cL ?cM ?cO ?cQ ?cR ?cS ?cU ?cV ?cX ?cY ?cZ ?da ?db ?dc ?dd ?de ?df ?dg ?dh ?di ?dj ?dk ?dl ?dm ?dp ?dr ?ds ?dt ?du ?dv ?dw ?dx ?dy ?dz ?dA ?dB ?dC ?dD ?dE ?dF ?dG ?dJ ?dK ?dL ?dM ?dN ?dO ?dP ?dQ ?yq ?dS ?dT ?dU ?dV ?dW ?dX ?ea ?eb ?ec ?ed ?ee ?ef ?eg ?eh ?ei ?ej ?ek ?el ?em ?en ?eo ?ep ?eq ?er ?es ?et ?eu ?ev ?ew ?ex ?ey ?ez ?eA ?eB ?eC ?eD ?eE ?eF ?eG ?eH ?eJ ?eK ?eL ?eM ?eO ?eP ?eQ ?eR ?eS ?eT ?eU ?eV ?eW ?eX ?eY ?eZ ?fb ?fc ?fe ?ff ?fg ?fi
  case a0=>k_is
  case F0=>exact L2.aV (by k_is) (by k_is) (by k_is)
  case a1=>k_is
  case F1=>exact L2.aV (by k_is) (by k_is) (by k_is)
  case a2=>k_is
  case F2=>exact L2.aV (by k_is) (by k_is) (by k_is)
  case a3=>k_is
  case F3=>exact L2.aV (by k_is) (by k_is) (by k_is)
  case a4=>k_is
  case F4=>exact L2.aV (by k_is) (by k_is) (by k_is)
  case a5=>k_is
  case F5=>exact L2.aV (by k_is) (by k_is) (by k_is)
  case a6=>k_is
  case F6=>exact L2.aV (by k_is) (by k_is) (by k_is)
  case a7=>k_is
  case F7=>exact L2.aV (by k_is) (by k_is) (by k_is)
  case a8=>k_is
  case F8=>exact L2.aV (by k_is) (by k_is) (by k_is)
  case a9=>k_is
  case F9=>exact L2.aV (by k_is) (by k_is) (by k_is)
  case aa=>k_is
  case ab=>exact L2.aV (by k_is) (by k_is) (by k_is)
  case ac=>k_is
  case ad=>exact L2.aV (by k_is) (by k_is) (by k_is)
  case ae=>k_is
  case af=>exact L2.aV (by k_is) (by k_is) (by k_is)
  case ag=>k_is
  case ah=>exact L2.aV (by k_is) (by k_is) (by k_is)
  case ai=>k_is
  case aj=>exact L2.aV (by k_is) (by k_is) (by k_is)
  case ak=>k_is
  case al=>exact L2.aV (by k_is) (by k_is) (by k_is)
  case am=>k_is
  case an=>exact L2.aV (by k_is) (by k_is) (by k_is)
  case ap=>k_is
  case aq=>exact L2.aV (by k_is) (by k_is) (by k_is)
  case ar=>k_is
  case au=>exact L2.aV (by k_is) (by k_is) (by k_is)
  case av=>k_is
  case aw=>exact L2.aV (by k_is) (by k_is) (by k_is)
  case ax=>k_is
  case ay=>exact L2.aV (by k_is) (by k_is) (by k_is)
  case az=>k_is
  case aA=>exact L2.aV (by k_is) (by k_is) (by k_is)
  case aC=>k_is
  case aE=>exact L2.aV (by k_is) (by k_is) (by k_is)
  case aF=>k_is
  case aG=>exact L2.aV (by k_is) (by k_is) (by k_is)
  case aH=>k_is
  case aI=>exact L2.aV (by k_is) (by k_is) (by k_is)
  case aJ=>k_is
  case aK=>exact L2.aV (by k_is) (by k_is) (by k_is)
  case aM=>k_is
  case aN=>exact L2.aV (by k_is) (by k_is) (by k_is)
  case aO=>k_is
  case aP=>exact L2.aV (by k_is) (by k_is) (by k_is)
  case aQ=>k_is
  case aR=>exact L2.aV (by k_is) (by k_is) (by k_is)
  case aS=>k_is
  case aT=>exact L2.aV (by k_is) (by k_is) (by k_is)
  case aU=>k_is
  case aX=>exact L2.aV (by k_is) (by k_is) (by k_is)
  case aY=>k_is
  case aZ=>exact L2.aV (by k_is) (by k_is) (by k_is)
  case ba=>k_is
  case bb=>exact L2.aV (by k_is) (by k_is) (by k_is)
  case bc=>k_is
  case bd=>exact L2.aV (by k_is) (by k_is) (by k_is)
  case be=>k_is
  case bf=>exact L2.aV (by k_is) (by k_is) (by k_is)
  case bg=>k_is
  case bh=>exact L2.aV (by k_is) (by k_is) (by k_is)
  case bi=>k_is
  case bj=>exact L2.aV (by k_is) (by k_is) (by k_is)
  case bk=>k_is
  case bl=>exact L2.aV (by k_is) (by k_is) (by k_is)
  case bm=>k_is
  case bn=>exact L2.aV (by k_is) (by k_is) (by k_is)
  case bo=>k_is
  case bp=>exact L2.aV (by k_is) (by k_is) (by k_is)
  case bq=>k_is
  case br=>exact L2.aV (by k_is) (by k_is) (by k_is)
  case bs=>k_is
  case bt=>exact L2.aV (by k_is) (by k_is) (by k_is)
  case bu=>k_is
  case bv=>exact L2.aV (by k_is) (by k_is) (by k_is)
  case bw|bx|bz|bA|bB|bC|bD|bE|bF|bG|bH|bI|bJ|bK|bL|bM|bN|bO|bP|bR|bS|bT|bU|bV|bW|bX|bY|aB|lB=>k_is
  case kB=>k_keys
  case oB=>first | exact rfl | decide | k_is
  case bZ|ca|cb|cc|cd|ce|cf|cg|ch|ci|ck|cl|cm|cn|co|cp|cq|cr|cs|ct|cu|cv|cw|cx|x0|x1|x2|x3|x4|x5|x6|x7|aD|lD=>k_is
  case kD=>k_keys
  case oD=>first | exact rfl | decide | k_is
  case cy|cz|cA|cB|cC|cD|cF=>k_is
  case cG=>k_keys
  case cI=>first | exact rfl | decide | k_is
  case cJ|cK|cL|cM|cO|cQ|cR|cS|cU|cV|cX|cY|cZ|da|db|dc|dd|de|df|dg|dh|di|dj|dk|dl|dm|dp|dr|ds|dt|du|dv|dw|dx|dy|dz|dA|dB|dC|dD|dE|dF|dG|dJ|dK|dL|dM|dN|dO|dP|dQ=>k_is
  case yq=>k_exc
  case dS|dT|dU|dV|dW|dX|ea|eb=>k_is
  case ec=>kts_exm
  case ed|ee=>kit_is
  case ef|eg|eh|ei|ej|ek|el|em|en|eo|ep|eq|er|es|et|eu|ev|ew|ex|ey|ez|eA|eB|eC|eD|eE|eF|eG|eH|eJ|eK|eL|eM|eO|eP|eQ|eR|eS|eT|eU|eV|eW|eX|eY|eZ|fb|fc|fe|ff|fg|fi=>k_is
#print axioms PySem.Challenge.cw_widenrows_k63_what_boxes_hold_holds